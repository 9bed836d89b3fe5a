import PyProof.Rows.All
import Wide.All
import OpenK.AllK
import Wide.FinOn
import Lean
import PyProof.EqAt
import PyProof.EqKinds
import PyProof.TupleCall
import PySem.Challenge.RW_rootspan_k75_quotients_of_roots
set_option Elab.async false
set_option linter.all false
set_option maxRecDepth 100000
local macro_rules | `(tactic|omega)=>`(tactic|first |lia |omega (splitDisjunctions:=true))
noncomputable section
namespace Al
def PB:=@Int.mul_pos
def PC:=@List.length_map
def PD:=@Int.le_of_lt
def PF:=@Nat.le_refl
def PH:=@Rat.intCast_mul
def PJ:=@Rat.le_of_lt
def PK:=@Nat.zero_le
def PL:=@List.length_pos_iff
def PM:=@List.mem_cons
def PN:=@Int.natAbs_mul
def PP:=@List.mem_cons_of_mem
def PQ:=@List.mem_singleton
def PR:=@Rat.intCast_lt_intCast
def PU:=@List.mem_cons_self
def PV:=@List.mem_map
def PX:=@Nat.le_trans
def PY:=@Int.one_mul
def PZ:=@Rat.mul_le_mul_of_nonneg_left
def P4:=@Int.mul_assoc
def P5:=@Int.mul_nonneg
def P6:=@Int.mul_le_mul_of_nonneg_right
def P7:=@Rat.div_mul_cancel
def P8:=@Int.mul_one
def P9:=@Int.mul_comm
def Qa:=@Rat.mul_pos
def Qb:=@Rat.mul_nonneg
def Qc:=@Rat.le_refl
def Qd:=@Int.mul_zero
def Qe:=@Int.mul_ne_zero
def Qf:=@Rat.mul_le_mul_of_nonneg_right
def Qg:=@Int.le_refl
def Qh:=@List.mem_append
def Qi:=@List.length_append
def Qj:=@Nat.ne_of_lt
def Qk:=@List.map_append
def Ql:=@Int.pow_succ
def Qm:=@Int.not_le
def Qn:=@List.size_toArray
def Qo:=@Int.ne_of_gt
def Qp:=@Int.zero_mul
def Qq:=@Int.natAbs_natCast
def Qr:=@Nat.lt_of_lt_of_le
def Qs:=@Int.pow_pos
def Qu:=@Rat.not_lt
def Qv:=@Int.mul_lt_mul_of_pos_right
def Qw:=@List.length_cons
def Qx:=@Rat.le_total
def Qy:=@Int.add_zero
def Qz:=@List.mem_append_right
def QA:=@Int.mul_le_mul_of_nonneg_left
def QB:=@List.length_take
def QC:=@Int.natCast_mul
def QD:=@Nat.mul_le_mul_right
def QE:=@Int.lt_or_gt_of_ne
def QF:=@Int.neg_mul
def QG:=@List.map_cons
def QH:=@Rat.ne_of_gt
def QI:=@List.take_add_one
def QJ:=@List.not_mem_nil
def QK:=@Int.zero_add
def QL:=@List.map_map
def QM:=@Nat.lt_irrefl
def QN:=@Nat.gcd_dvd_left
def QO:=@Int.pow_zero
def QP:=@Int.lt_or_le
def QQ:=@Rat.intCast_le_intCast
def QR:=@Rat.not_le
def QS:=@Nat.le_of_not_lt
def QT:=@Int.natAbs_neg
def QU:=@List.take_length
def QV:=@Nat.sub_zero
def QW:=@Nat.mul_le_mul
def QX:=@Int.mul_le_mul
def QY:=@Int.mul_pos_of_neg_of_neg
def QZ:=@Nat.le_of_lt
def Q0:=@List.mem_append_left
def Q1:=@Nat.lt_succ_self
def Q2:=@List.nodup_cons
def Q3:=@Nat.mul_comm
def Q4:=@Nat.pow_pos
def Q5:=@List.length_range
def Q6:=@Int.neg_mul_neg
def Q7:=@Int.mul_eq_zero
def Q8:=@Nat.mul_le_mul_left
def Q9:=@List.mem_flatMap
def Ra:=@Rat.mul_lt_mul_of_pos_right
def Rb:=@Nat.pow_succ
def Rc:=@Nat.lt_of_le_of_lt
def Re:=@List.length_eq_zero_iff
def Rf:=@Nat.gcd_dvd_right
def Rg:=@Int.lt_of_mul_lt_mul_right
def Rh:=@Int.not_lt
def Ri:=@Rat.intCast_add
def Rj:=@Nat.le_of_eq
def Rk:=@List.length_drop
def Rl:=@List.replicate_succ
def Rm:=@List.lookup_cons
def Rn:=@Nat.pow_le_pow_right
def Ro:=@List.getElem_mem
def Rp:=@Nat.sub_self
def Rq:=@Int.natAbs_pos
def Rr:=@Int.mul_neg
def Rs:=@Nat.dvd_trans
def Rt:=@List.eq_nil_of_length_eq_zero
def Ru:=@Rat.intCast_neg
def Rv:=@Int.natCast_pow
def Rw:=@List.drop_zero
def Rx:=@Rat.mul_comm
def Ry:=@Bool.false_ne_true
def Rz:=@List.length_set
def RB:=@Int.natAbs_dvd_natAbs
def RC:=@Int.mul_nonpos_of_nonneg_of_nonpos
def RD:=@Int.mul_neg_of_neg_of_pos
def RE:=@List.map_congr_left
def RF:=@Int.ofNat_dvd_left
def RG:=@Int.natAbs_sub_le
def RH:=@Int.pow_add
def RI:=@Int.eq_of_mul_eq_mul_left
def RJ:=@Rat.le_trans
def RK:=@Int.lt_or_eq_of_le
def RL:=@Int.neg_one_mul
def RO:=@Int.emod_lt_of_pos
def RP:=@Nat.min_le_left
def RQ:=@Int.ofNat_lt
def RS:=@Nat.gcd_mul_left
def RT:=@Nat.le_mul_of_pos_left
def RU:=@Nat.gcd_zero_left
def RV:=@Int.eq_ofNat_of_zero_le
def RW:=@Nat.gcd_comm
def RX:=@Int.eq_of_mul_eq_mul_right
def RY:=@Int.mul_neg_of_pos_of_neg
def RZ:=@Int.natAbs_pow
def R0:=@Int.le_trans
def R3:=@Int.lt_trichotomy
def R4:=@Rat.intCast_inj
def R5:=@List.append_of_mem
def R6:=@Rat.intCast_sub
def R7:=@List.take_zero
def R8:=@Int.emod_nonneg
def R9:=@Nat.not_lt_zero
def Sa:=@List.flatten_cons
def Sb:=@List.append_assoc
def Sc:=@Int.natAbs_add_le
def Sd:=@Nat.le_add_right
def Se:=@Int.mul_nonneg_of_nonpos_of_nonpos
def Sf:=@List.length_nil
def Sg:=@Int.natCast_nonneg
def Sh:=@Nat.add_le_add
def Si:=@Nat.gcd_one_right
def Sj:=@Nat.pow_lt_pow_iff_right
def Sk:=@List.length_replicate
def Sl:=@Int.lt_of_mul_lt_mul_left
def Sm:=@Int.mul_ediv_cancel_left
def Sn:=@List.take_succ_cons
def So:=@List.mem_of_mem_drop
def Sq:=@List.mem_of_mem_take
def Sr:=@List.take_of_length_le
def Ss:=@Int.fdiv_eq_ediv_of_nonneg
def Su:=@Nat.eq_of_mul_eq_mul_left
def Sv:=@List.drop_eq_getElem_cons
def Sw:=@Nat.le_of_mul_le_mul_right
def Sx:=@Nat.le_of_mul_le_mul_left
def Sy:=@Int.mul_lt_mul_of_pos_left
def Sz:=@Rat.mul_lt_mul_of_pos_left
def SA:=@Int.le_of_mul_le_mul_right
def SB:=@Int.natAbs_ediv_le_natAbs
end Al
open Al
namespace PySem.W.Fast
def tw17383389253878563346:=()
def tw6688023417773992592:=()
def tw4072506912025956724:=()
def tw8412073745728319557:=()
def tw5486615316316688023:=()
def tw1489376027497083576:=()
def tw5774403080540472809:=()
def tw10899692541888862393:=()
def tw2186850762356821444:=()
def tw12460796680894236650:=()
def tw4347833760892285335:=()
def tw3887407766035956051:=()
def tw6319177846149192423:=()
def tw13245986862972619192:=()
def tw14134819384310431657:=()
def tw13210752068068016413:=()
def tw11687604130966047824:=()
def tw1631725427339774844:=()
def tw4522885920780301771:=()
def tw18011519032248381028:=()
def tw6910343493565090891:=()
def tw16983144769403402714:=()
def tw7091012744167087718:=()
def tw12382328455976673937:=()
def tw10241493796063729160:=()
def tw10319681205249421915:=()
def tw6066830092732898052:=()
def tw307810380489112789:=()
def tw13682391542346905451:=()
def tw3690808708282128638:=()
def tw8748579054387084924:=()
def tw15729790425099971694:=()
def tw12070443258185316680:=()
def tw9341166581758529147:=()
def tw12390106619007392621:=()
def tw13923843224796737344:=()
def tw8288407623988106305:=()
def tw4744184516431897823:=()
def tw11970088389317030530:=()
def tw6052749457528519353:=()
def tw5259592656142151440:=()
def tw14843318954257586561:=()
def tw1730640115110962139:=()
def tw14062109934366837244:=()
def tw6740764785407113981:=()
def tw9488868804481718765:=()
def tw9799526468563322158:=()
def tw6675881491788804509:=()
def tw179651792859021936:=()
def tw115812391646525432:=()
def tw517389416735779609:=()
def tw10574854316898133206:=()
def tw11657435756140131731:=()
def tw16244222202591330049:=()
def tw5961660169315038500:=()
def tw13097953047927402303:=()
def tw7439542463513375694:=()
def tw15329879711360121022:=()
def tw7741641942114586993:=()
def tw11425667700741784155:=()
def tw8528902042075264279:=()
def tw7323967126181328473:=()
def tw4767543647579172525:=()
def tw14305724316198694749:=()
def tw5222258571740401164:=()
def tw10014906910942973475:=()
def tw544662733416711607:=()
def tw4035464900268855507:=()
def tw1989564977843480821:=()
def tw14537145249678016201:=()
def tw4694227478287611494:=()
def tw5125700603583964555:=()
def tw8898053599670348346:=()
def tw13483541203011559249:=()
def tw10394205951968573452:=()
def tw3674581791502024016:=()
def tw16234513960444469591:=()
def tw16807961995098806185:=()
def tw1305928677850898199:=()
def tw3729432801913230961:=()
def tw14894989955585016110:=()
def tw1429607948164642324:=()
def tw17630085324908769403:=()
def tw3031309035037675455:=()
def tw13860549089730878038:=()
def tw14797291456614893939:=()
def tw182038419580563293:=()
def tw14067303590593847287:=()
def tw8045076103132201571:=()
def tw15002288754576620727:=()
def tw863184404529150795:=()
def tw1765891774296808397:=()
def tw15744881126406744386:=()
def tw6444817775153458071:=()
def tw8330595032516089676:=()
def tw3268210006887102002:=()
def tw1561471734794716205:=()
def tw8462346248459764718:=()
def tw808300947375120766:=()
def tw12621449930761210880:=()
def tw13610615458153333610:=()
def tw11263303579173838155:=()
def tw17619744480380825568:=()
def tw8800167483741368538:=()
def tw733551582918874243:=()
def tw9724449919774637612:=()
def tw2232186748140540118:=()
def tw12401505401915030730:=()
def tw17587739375536514088:=()
def tw545647683623005777:=()
def tw1503119622826999538:=()
def tw4323246764968659413:=()
def tw18178758475118203498:=()
def tw16584629471150103677:=()
def tw3943534407620115465:=()
def tw16021461139558221698:=()
def tw1919499837680311129:=()
def tw6855267129823301416:=()
def tw3310526222111831795:=()
def tw9180545535476424437:=()
def tw791891857622701308:=()
def tw11627174288442829552:=()
def tw6491878444242645364:=()
def tw18080477418008032561:=()
def tw1462206439925882395:=()
def tw13375385396816276689:=()
def tw7284580588175802042:=()
def tw9233214283965509651:=()
def tw13984511898384519263:=()
def tw13594777233168865525:=()
def tw13161714242694518576:=()
def tw14277519485958857984:=()
def tw3293780649277950106:=()
def tw13662441876824887680:=()
def tw7594159248712604033:=()
def tw10123766068611482884:=()
def tw18278016017222543936:=()
def tw8780416258411973302:=()
def tw7684453608646489182:=()
def tw2868112216356898642:=()
def tw3734458563822560299:=()
def tw5564986133805143888:=()
def tw7210011420834339651:=()
def tw169889253992803972:=()
def tw5160121874823041468:=()
def tw16274377746218765585:=()
def tw10095171983251494618:=()
def tw2126782186706585258:=()
def tw16085733852031599239:=()
def tw7390544671198806336:=()
def tw11588169328215485045:=()
def tw8958151674113402944:=()
def tw11278859268964206498:=()
def tw2299602419779657825:=()
def tw1239174388077042271:=()
def tw5973785850983613104:=()
def tw12476262682431131300:=()
def tw17300908310405972358:=()
def tw2840289789792197030:=()
def tw8979042861731379544:=()
def tw6984898704315374199:=()
def tw2110891213418634546:=()
def tw8508138091667162205:=()
def tw1548012330954893524:=()
def tw13146739182909105642:=()
def tw6900001022504500325:=()
def tw9524899235311552389:=()
def tw5214711764811173873:=()
def tw578104375559751548:=()
def tw6866735797256793717:=()
def tw9195755766887566276:=()
def tw9862111822223274308:=()
def tw6138034631063019936:=()
def tw8219939153716837752:=()
def tw4910080136722217600:=()
def tw14279420068928823524:=()
def tw516556947506338581:=()
def tw15622656685409562440:=()
def tw8082756013815449470:=()
def tw6181578047892013294:=()
def tw7817020922493186663:=()
def tw3738043282672568651:=()
def tw13482213436652289490:=()
def tw17745106364314227068:=()
def tw6810079744239534933:=()
def tw5009723936904103158:=()
def tw5754158425115756009:=()
def tw2092268269253088895:=()
def tw7905147024363375531:=()
def tw2854266936319834138:=()
def tw11970982803864674380:=()
def tw9554166438295746598:=()
def tw11420988801957441705:=()
def tw3904160228779343084:=()
def tw1477158265713352373:=()
def tw5546257545758309641:=()
def tw4424245502487144789:=()
def tw990191986525302644:=()
def tw14075691681771142050:=()
def tw6316999480544404236:=()
def tw2220033749647608174:=()
def tw5715262690840452963:=()
def tw12407184501163179445:=()
def tw9707771123687571714:=()
def tw3482990358136459400:=()
def tw16101044714877355097:=()
def tw4527106122320828868:=()
def tw9438056062830145901:=()
def tw10269181588902208543:=()
def tw14648718567705812585:=()
def tw11676652943037930562:=()
def tw9648241576477185285:=()
def tw18022383944899254060:=()
def tw4499528515436626244:=()
def tw8059361030041219423:=()
def tw2580554172460319214:=()
def tw7078049489648626278:=()
end PySem.W.Fast
namespace L2
open PySem PySem.Spec PyProof.Rows
abbrev Key:=Sum Int Str
noncomputable def Ad:Key->Value->Bool
 |.inl k,v=>Value.isInt k v
 |.inr x,v=>Value.isStrOf x v
noncomputable def IP(w:World):Key->Int
 |.inl k=>hashInt k
 |.inr x=>hashStr w x
theorem gI:∀{k:Key} {v:Value},Ad k v=true->(∃i t,k=Sum.inl i/\v=Value.int i t)\/(∃x t,k=Sum.inr x/\v=Value.str x t)
 |.inl i,v,h=>by obtain⟨t,e⟩:=Value.isInt_shape (k:=i) (v:=v) h;exact .inl ⟨i,t,rfl,e⟩
 |.inr x,v,h=>by obtain⟨t,e⟩:=Value.isStrOf_shape (x:=x) (v:=v) h;exact .inr ⟨x,t,rfl,e⟩
theorem IO(a b:Int):decide ((Sum.inl a:Key)=Sum.inl b)=(a == b):=by
 by_cases e:a=b
 ·subst e;simp
 ·have h:¬(Sum.inl a:Key)=Sum.inl b:=λq=>e (Sum.inl.inj q)
  rw[decide_eq_false h];exact(beq_eq_false_iff_ne.mpr e).symm
theorem IL(a b:Str):decide ((Sum.inr a:Key)=Sum.inr b)=decide (a=b):=by
 by_cases e:a=b
 ·subst e;simp
 ·have h:¬(Sum.inr a:Key)=Sum.inr b:=λq=>e (Sum.inr.inj q)
  rw[decide_eq_false h,decide_eq_false e]
theorem IN(a:Int)(b:Str):decide ((Sum.inl a:Key)=Sum.inr b)=false:=decide_eq_false (λq=>nomatch q)
theorem IM(a:Str)(b:Int):decide ((Sum.inr a:Key)=Sum.inl b)=false:=decide_eq_false (λq=>nomatch q)
noncomputable def tE(prog:Program)(w:World):PySem.KeyKind prog w Key where
 is:=Ad
 hash:=IP w
 inj:=λv a b ha hb=>by
  rcases gI ha with⟨i,t,rfl,rfl⟩ |⟨x,t,rfl,rfl⟩
  ·rcases gI hb with⟨j,u,rfl,e⟩ |⟨y,u,rfl,e⟩
   ·injection e with e1 _;rw[e1]
   ·exact nomatch e
  ·rcases gI hb with⟨j,u,rfl,e⟩ |⟨y,u,rfl,e⟩
   ·exact nomatch e
   ·injection e with e1 _;rw[e1]
 byValue:=λk v h=>by rcases gI h with⟨i,t,rfl,rfl⟩ |⟨x,t,rfl,rfl⟩<;>rfl
 pyHash:=λhv h=>by
  rcases gI hv with⟨i,t,rfl,rfl⟩ |⟨x,t,rfl,rfl⟩
  ·exact wpAny_pyHash_int h
  ·exact wpAny_pyHash_str h
 eqBool:=λhu hv h=>by
  rcases gI hu with⟨i,t,rfl,rfl⟩ |⟨x,t,rfl,rfl⟩
  ·rcases gI hv with⟨j,u,rfl,rfl⟩ |⟨y,u,rfl,rfl⟩
   ·rw[IO]at h;exact wpAny_eqBool_int h
   ·rw[IN]at h;exact SeqAt.EqAt.int_str i t y u _ _ _ _ h
  ·rcases gI hv with⟨j,u,rfl,rfl⟩ |⟨y,u,rfl,rfl⟩
   ·rw[IM]at h;exact SeqAt.EqAt.str_int x t j u _ _ _ _ h
   ·rw[IL]at h;exact wpAny_eqBool_str h
 «strs»:=λk x t v h=>by
  rcases gI h with⟨i,u,rfl,e⟩ |⟨y,u,rfl,e⟩
  ·exact nomatch e
  ·injection e with e1 _
   subst e1;cases v<;>rfl
inductive V where
 |non |bl (b:Bool) |int (i:Int) |str (x:Str) |byt (b:Array UInt8) |flt (b:UInt64) |ref (a:Addr) |ty (n:String)
 deriving DecidableEq
noncomputable def RelV:V->Value->Prop
 |.non,u=>u=Value.none
 |.bl b,u=>u=Value.bool b
 |.int i,u=>∃t,u=Value.int i t
 |.str x,u=>∃t,u=Value.str x t
 |.byt b,u=>∃t,u=Value.bytes b t
 |.flt b,u=>∃t,u=Value.float b t
 |.ref a,u=>u=Value.ref a
 |.ty n,u=>u=Value.type n
abbrev Vals:List V->List Value->Prop:=Paired RelV
theorem Vals.length{xs:List V}{us:List Value}(r:Vals xs us):xs.length=us.length:=Paired.length r
theorem Vals.get:∀{xs:List V} {us:List Value} {i:Nat} {x:V},Vals xs us->xs[i]?=some x->∃u,us[i]?=some u/\RelV x u
 |_,_,_,_,.nil,e=>by simp at e
 |_,_,0,_,.cons r _,e=>by simp at e;subst e;exact⟨_,rfl,r⟩
 |_,_,i+1,x,.cons _ t,e=>by obtain⟨u,h1,h2⟩:=Vals.get (i:=i) (x:=x) t (by simpa using e);exact⟨u,by simpa using h1,h2⟩
theorem Vals.set{x:V}{u:Value}(r:RelV x u):∀{xs:List V} {us:List Value} (i:Nat),Vals xs us->Vals (xs.set i x) (us.set i u)
 |_,_,_,.nil=>.nil
 |_,_,0,.cons _ t=>.cons r t
 |_,_,i+1,.cons q t=>.cons q (Vals.set r i t)
theorem Vals.append:∀{xs ys:List V} {us ws:List Value},Vals xs us->Vals ys ws->Vals (xs++ys) (us++ws)
 |_,_,_,_,.nil,s=>s
 |_,_,_,_,.cons r t,s=>.cons r (Vals.append t s)
theorem Vals.take:∀{xs:List V} {us:List Value} (n:Nat),Vals xs us->Vals (xs.take n) (us.take n)
 |_,_,0,_=>.nil
 |_,_,_+1,.nil=>.nil
 |_,_,n+1,.cons r t=>.cons r (Vals.take n t)
theorem Vals.drop:∀{xs:List V} {us:List Value} (n:Nat),Vals xs us->Vals (xs.drop n) (us.drop n)
 |_,_,0,r=>r
 |_,_,_+1,.nil=>.nil
 |_,_,n+1,.cons _ t=>Vals.drop n t
theorem Vals.none_of:∀{xs:List V} {us:List Value} {i:Nat},Vals xs us->xs[i]?=none->us[i]?=none:=λ{xs us i} r e=>by have h1:=r.length;have h2:xs.length<=i:=List.getElem?_eq_none_iff.mp e;exact List.getElem?_eq_none_iff.mpr (by omega)
noncomputable def RelO:Option V->Option Value->Prop
 |some v,some u=>RelV v u
 |none,none=>True
 |_,_=>False
noncomputable def KV{κ:Type}:List (κ×V)->List (κ×Value)->Prop:=Paired λ(p:κ×V) (q:κ×Value)=>p.1=q.1/\RelV p.2 q.2
noncomputable def kV:Key->V
 |.inl i=>.int i
 |.inr x=>.str x
inductive HO where
 |lst (xs:List V)
 |tup (xs:List V)
 |dK (kvs:List (Key×V)) |dT (kvs:List (List Key×V))
 |set (S:Int->Bool) (n:Nat)
 |ins (C dx:Addr) (fs:List (Str×V))
 |own (x:Addr)
 |xd (fs:List (Str×V))
 |met (f x:Addr)
 |rng (lo hi:Int)
 |frz (o:Obj) (u:HO)
 |tbl (ps:Array Value)
 |ext (φ:Heap->Prop)
abbrev Hp:=Addr->Option HO
noncomputable def upd(H:Hp)(a:Addr)(o:HO):Hp:=λb=>if b=a then some o else H b
theorem au{H:Hp}{a:Addr}{o:HO}:upd H a o a=some o:=by unfold upd;rw[if_pos rfl]
theorem upd_ne{H:Hp}{a b:Addr}{o:HO}(h:b≠a):upd H a o b=H b:=by unfold upd;rw[if_neg h]
theorem nc{H:Hp}{a:Addr}{o u:HO}:upd (upd H a o) a u=upd H a u:=by funext b;unfold upd;split<;>rfl
theorem aW{H:Hp}{a b:Addr}{o:HO}(h:H a=some o)(h':H b=none):a≠b:=by intro e;subst e;rw[h]at h';cases h'
section
variable (P:Program)(w:World)
noncomputable def ObjOk(H:Hp)(h:Heap)(a:Addr):HO->Prop
 |.lst xs=>xs.length<=sizeLine/\∃(its:List Value) (n:Nat),Vals xs its/\h.get? a=some { cls:=.type "list",data:=.seq its.toArray n }
 |.tup xs=>xs.length<=sizeLine/\∃its:List Value,Vals xs its/\IsTup h a its.toArray
 |.dK kvs=>kvs.length<=sizeLine/\(a == sysModules)=false/\∃vs,KV kvs vs/\h.DictOf (tE P w) a vs
 |.dT kvs=>kvs.length<=sizeLine/\(a == sysModules)=false/\∃xs:List (List Key×Addr×Value),
  Paired (λ(p:List Key×V) (q:List Key×Addr×Value)=>p.1=q.1/\H q.2.1=some (.tup (p.1.map kV))/\RelV p.2 q.2.2) kvs xs /\
  ∃o es ep,h.get? a=some o/\o.ExactDict/\o.data=.dict es ep/\es.toList=xs.map (entryOfKey (tupleKind (tE P w)))/\(xs.map (·.1)).Nodup
 |.set S n=>h.SetOf (intKind P w) a S n
 |.ins C dx fs=>H dx=some (.own a)/\fs.length<=1000/\dx≠a/\h.get? a=some (PySem.W.instObj C dx) /\
  ∃mA,h.Ns1 dx mA/\(∀f,RelO (fs.lookup f) (mA f))/\PySem.Within mA (fs.map (·.1))
 |.own _=>∃o,h.get? a=some o
 |.xd fs=>∃mA,h.Ns1 a mA/\∀f,RelO (fs.lookup f) (mA f)
 |.rng lo hi=>∃t u v,h.get? a=some { cls:=.type "range",data:=.fields #[.int lo t,.int hi u,.int 1 v] }
 |.frz o u=>h.get? a=some o/\ObjOk H h a u
 |.tbl ps=>h.get? a=some { cls:=.none,data:=.fields ps }
 |.met f x=>h.get? a=some (PySem.W.methodObj (.ref f) (.ref x))
 |.ext φ=>φ h/\(∃o,h.get? a=some o)/\∀h1 h2:Heap,φ h1->(∀o,h1.get? a=some o->h2.get? a=some o)->φ h2
def HOk(H:Hp)(h:Heap):Prop:=∀a o,H a=some o->ObjOk P w H h a o
end
section
variable {P:Program}{w:World}{H H':Hp}{h h':Heap}{a:Addr}{o:HO}
theorem ObjOk.lt(x:ObjOk P w H h a o):a<h.objs.size:=by
 cases o with
 |lst xs=>obtain⟨_,_,_,_,e⟩:=x;exact Heap.lt_size e
 |tup xs=>obtain⟨_,_,_,p⟩:=x;exact p.lt
 |dK kvs=>obtain⟨_,_,_,_,o,_,_,e,_⟩:=x;exact Heap.lt_size e
 |dT kvs=>obtain⟨_,_,_,_,o,_,_,e,_⟩:=x;exact Heap.lt_size e
 |set S n=>obtain⟨o,_,_,_,e,_⟩:=x;exact Heap.lt_size e
 |ins C dx fs=>obtain⟨_,_,_,e,_⟩:=x;exact Heap.lt_size e
 |own y=>obtain⟨_,e⟩:=x;exact Heap.lt_size e
 |xd fs=>obtain⟨_,⟨_,_,_,e,_⟩,_⟩:=x;exact Heap.lt_size e
 |rng lo hi=>obtain⟨_,_,_,e⟩:=x;exact Heap.lt_size e
 |frz ob u=>obtain⟨e,_⟩:=x;exact Heap.lt_size e
 |tbl ps=>exact Heap.lt_size (show h.get? a=some _ from x)
 |met f y=>exact Heap.lt_size (show h.get? a=some _ from x)
 |ext φ=>obtain⟨_,⟨_,e⟩,_⟩:=x;exact Heap.lt_size e
theorem Paired.mapP{α β:Type}{F G:α->β->Prop}:∀{l₁:List α} {l₂:List β},Paired F l₁ l₂->(∀a b,F a b->G a b)->Paired G l₁ l₂
 |_,_,.nil,_=>.nil
 |_,_,.cons r t,f=>.cons (f _ _ r) (Paired.mapP t f)
theorem ObjOk.stay(x:ObjOk P w H h a o)(k:∀b u,(b=a\/H b=some (.own a))->h.get? b=some u->h'.get? b=some u)
 (ho:∀b,H b=some (.own a)->H' b=some (.own a)) (ht:∀b xs,H b=some (.tup xs)->H' b=some (.tup xs)):ObjOk P w H' h' a o:=by
 induction o with
 |lst xs=>obtain⟨z,its,n,r,e⟩:=x;exact⟨z,its,n,r,k _ _ (.inl rfl) e⟩
 |tup xs=>obtain⟨z,its,r,ob,e,c⟩:=x;exact⟨z,its,r,ob,k _ _ (.inl rfl) e,c⟩
 |dK kvs=>obtain⟨z,y,vs,r,ob,es,ep,e,c⟩:=x;exact⟨z,y,vs,r,ob,es,ep,k _ _ (.inl rfl) e,c⟩
 |dT kvs =>obtain⟨z,y,xs,r,ob,es,ep,e,c⟩:=x;exact⟨z,y,xs,Paired.mapP r λp q z=>⟨z.1,ht _ _ z.2.1,z.2.2⟩,ob,es,ep,k _ _ (.inl rfl) e,c⟩
 |set S n=>obtain⟨ob,es,ep,t,e,c⟩:=x;exact⟨ob,es,ep,t,k _ _ (.inl rfl) e,c⟩
 |ins C dx fs =>obtain⟨d,z,ne,e,mA,⟨od,es,ep,e2,c⟩,r⟩:=x;exact⟨ho _ d,z,ne,k _ _ (.inl rfl) e,mA,⟨od,es,ep,k _ _ (.inr d) e2,c⟩,r⟩
 |own y=>obtain⟨ob,e⟩:=x;exact⟨ob,k _ _ (.inl rfl) e⟩
 |xd fs=>obtain⟨mA,⟨od,es,ep,e,c⟩,r⟩:=x;exact⟨mA,⟨od,es,ep,k _ _ (.inl rfl) e,c⟩,r⟩
 |rng lo hi=>obtain⟨t,u,v,e⟩:=x;exact⟨t,u,v,k _ _ (.inl rfl) e⟩
 |frz ob u ih=>obtain⟨e,q⟩:=x;exact⟨k _ _ (.inl rfl) e,ih q⟩
 |tbl ps =>have e:h.get? a=some { cls:=.none,data:=.fields ps }:=x;show h'.get? a=some { cls:=.none,data:=.fields ps };exact k a _ (.inl rfl) e
 |met f y =>have e:h.get? a=some (PySem.W.methodObj (.ref f) (.ref y)):=x;show h'.get? a=some (PySem.W.methodObj (.ref f) (.ref y));exact k a _ (.inl rfl) e
 |ext φ=>obtain⟨p,⟨o,e⟩,st⟩:=x;exact⟨st _ _ p λo q=>k _ _ (.inl rfl) q,⟨o,k _ _ (.inl rfl) e⟩,st⟩
theorem HOk.lt(x:HOk P w H h)(e:H a=some o):a<h.objs.size:=(x a o e).lt
theorem HOk.fresh(x:HOk P w H h)(e:h.objs.size<=a):H a=none:=by
 cases q:H a with
 |none=>rfl
 |some u=>exact absurd (Qr (x.lt q) e) (QM _)
theorem HOk.kept(x:HOk P w H h)(k:∀b u,h.get? b=some u->h'.get? b=some u):HOk P w H h':=λa o e =>(x a o e).stay (λb u _ q=>k b u q) (λ_ q=>q) λ_ _ q=>q
theorem HOk.laid(x:HOk P w H h)(k:∀b u,h.get? b=some u->h'.get? b=some u)(hp:h.objs.size<=a)(new:ObjOk P w (upd H a o) h' a o):HOk P w (upd H a o) h':=λb u e=>by
 have hn:=x.fresh hp;by_cases hb:b=a
 ·subst hb;rw[au]at e;cases e;exact new
 ·rw[upd_ne hb]at e;exact(x b u e).stay (λc v _ q=>k c v q) (λc q=>by rw[upd_ne (aW q hn)];exact q) λc xs q=>by rw[upd_ne (aW q hn)];exact q
end
def Rd(H:Hp)(a:Addr)(u:HO):Prop:=H a=some u\/∃o,H a=some (.frz o u)
theorem Rd.of{H:Hp}{a:Addr}{u:HO}(h:H a=some u):Rd H a u:=.inl h
theorem Rd.ok{P:Program}{w:World}{H:Hp}{h:Heap}{a:Addr}{u:HO}(r:Rd H a u)(x:HOk P w H h):ObjOk P w H h a u:=by
 rcases r with r |⟨o,r⟩
 ·exact x a u r
 ·obtain⟨_,q⟩:=x a _ r;exact q
noncomputable def Mut:Option HO->Prop
 |some (.lst _)=>True
 |some (.dK _)=>True
 |some (.dT _)=>True
 |some (.set _ _)=>True
 |some (.ins _ _ _)=>True
 |some (.ext _)=>True
 |_=>False
section
variable {P:Program}{w:World}{H:Hp}{h h':Heap}{x e:Addr}{o':HO}
theorem HOk.write(ok:HOk P w H h)(mu:Mut (H x))(he:e=x\/H e=some (.own x))(k:∀b u,b≠e->h.get? b=some u->h'.get? b=some u)(heo:∃u,h'.get? e=some u)
 (new:ObjOk P w (upd H x o') h' x o'):HOk P w (upd H x o') h':=λb u q=>by
 have nown:∀c y,H c=some (.own y)->c≠x:=λc y r z=>by subst z;rw[r]at mu;exact mu
 have ntup:∀c xs,H c=some (.tup xs)->c≠x:=λc xs r z=>by subst z;rw[r]at mu;exact mu
 by_cases hb:b=x
 ·subst hb;rw[au]at q;cases q;exact new
 ·rw[upd_ne hb]at q;by_cases hbe:b=e
  ·have q':H b=some (.own x):=by
    rcases he with z |z
    ·exact absurd (hbe.trans z) hb
    ·rw[hbe];exact z
   rw[q]at q';cases q';obtain⟨v,hv⟩:=heo;exact⟨v,by rw[hbe];exact hv⟩
  ·refine(ok b u q).stay (λc v hc r=>k c v ?_ r) (λc r=>by rw[upd_ne (nown c b r)];exact r) λc xs r=>by rw[upd_ne (ntup c xs r)];exact r
   rcases hc with rfl |hc
   ·exact hbe
   ·rintro rfl;rcases he with z |z
    ·exact nown c b hc z
    ·rw[hc]at z;cases z;exact hb rfl
end
structure Un(fs ex:List Addr)(H H':Hp)(h h':Heap):Prop where
 keep:∀b o,h.get? b=some o->H b=none->b∉fs->b∉ex->h'.get? b=some o
 slot:∀b o,h.get? b=some o->H b=none->b∈fs->b∉ex->∃sl,h'.get? b=some { o with slots:=sl }
 free:∀b o,h.get? b=some o->H b=none->b∉ex->H' b=none
 there:∀b o,h.get? b=some o->b∉ex->∃o',h'.get? b=some o'
 tups:∀b xs,H b=some (.tup xs)->H' b=some (.tup xs)
 frzs:∀b o u,H b=some (.frz o u)->H' b=some (.frz o u)
 tbls:∀b ps,H b=some (.tbl ps)->∃more,H' b=some (.tbl (ps++more))
section
variable {fs fs' ex ex':List Addr}{H H1 H2:Hp}{h h1 h2 h':Heap}{a x e:Addr}{o:HO}
theorem Un.any(u:Un fs ex H H1 h h1){b:Addr}{ob:Obj}(q:h.get? b=some ob)(n:H b=none)(hx:b∉ex):∃sl,h1.get? b=some { ob with slots:=sl }:=by
 by_cases hb:b∈fs
 ·exact u.slot b ob q n hb hx
 ·exact⟨ob.slots,u.keep b ob q n hb hx⟩
theorem Un.trans(a:Un fs ex H H1 h h1)(b:Un fs ex H1 H2 h1 h2):Un fs ex H H2 h h2 where
 keep:=λc ob q n hc hx=>b.keep c ob (a.keep c ob q n hc hx) (a.free c ob q n hx) hc hx
 slot:=λc ob q n hc hx=>by obtain⟨sl,e1⟩:=a.slot c ob q n hc hx;obtain⟨sl',e2⟩:=b.slot c _ e1 (a.free c ob q n hx) hc hx;exact⟨sl',e2⟩
 free:=λc ob q n hx=>by obtain⟨o',e1⟩:=a.there c ob q hx;exact b.free c o' e1 (a.free c ob q n hx) hx
 there:=λc ob q hx=>by obtain⟨o',e1⟩:=a.there c ob q hx;exact b.there c o' e1 hx
 tups:=λc xs q=>b.tups c xs (a.tups c xs q)
 frzs:=λc ob xs q=>b.frzs c ob xs (a.frzs c ob xs q)
 tbls:=λc ps q=>by obtain⟨m1,e1⟩:=a.tbls c ps q;obtain⟨m2,e2⟩:=b.tbls c _ e1;exact⟨m1++m2,by rw[e2,Array.append_assoc]⟩
theorem Un.kept(k:∀b u,h.get? b=some u->h'.get? b=some u):Un fs ex H H h h' :=
 ⟨λb ob q _ _ _=>k b ob q,λb ob q _ _ _=>⟨ob.slots,k b ob q⟩,λ_ _ _ n _=>n,λb ob q _=>⟨ob,k b ob q⟩,λ_ _ q=>q,λ_ _ _ q=>q,λ_ ps q=>⟨#[],by rw[q];simp⟩⟩
theorem Un.refl:Un fs ex H H h h:=Un.kept λ_ _ q=>q
theorem Un.laid(k:∀b u,h.get? b=some u->h'.get? b=some u)(hp:h.objs.size<=a)(hn:H a=none):Un fs ex H (upd H a o) h h' where
 keep:=λb u q _ _ _=>k b u q
 slot:=λb u q _ _ _=>⟨u.slots,k b u q⟩
 free:=λb u q n _=>by rw[upd_ne (Qj (Qr (Heap.lt_size q) hp))];exact n
 there:=λb u q _=>⟨u,k b u q⟩
 tups:=λb xs q=>by rw[upd_ne (aW q hn)];exact q
 frzs:=λb u xs q=>by rw[upd_ne (aW q hn)];exact q
 tbls:=λb ps q=>⟨#[],by rw[upd_ne (aW q hn),q];simp⟩
theorem Un.write(mu:Mut (H x))(he:e=x\/H e=some (.own x))(k:∀b u,b≠e->h.get? b=some u->h'.get? b=some u)(heo:∃u,h'.get? e=some u):Un fs ex H (upd H x o) h h':=by
 have hx:∀b,H b=none->b≠x:=λb n z=>by subst z;rw[n]at mu;exact mu
 have hb:∀b,H b=none->b≠e:=λb n z=>by
  subst z;rcases he with r |r
  ·exact hx b n r
  ·rw[n]at r;cases r
 have hm:∀b u,H b=some u->¬Mut (some u)->b≠x:=λb u q nm z=>by subst z;rw[q]at mu;exact nm mu
 refine⟨λb u q n _ _=>k b u (hb b n) q,λb u q n _ _=>⟨u.slots,k b u (hb b n) q⟩,λb u q n _=>by rw[upd_ne (hx b n)];exact n,λb u q _=>?_,
  λb xs q=>by rw[upd_ne (hm b _ q λz=>z)];exact q,λb u xs q=>by rw[upd_ne (hm b _ q λz=>z)];exact q,λb ps q=>⟨#[],by rw[upd_ne (hm b _ q λz=>z),q];simp⟩⟩
 by_cases hbe:b=e
 ·subst hbe;exact heo
 ·exact⟨u,k b u hbe q⟩
theorem Un.mono(u:Un fs ex H H1 h h1)(hs:∀b∈fs,b∈fs')(hx:∀b∈ex,b∈ex'):Un fs' ex' H H1 h h1 :=
 ⟨λb ob q n hb he=>u.keep b ob q n (λz=>hb (hs b z)) λz=>he (hx b z),λ_ _ q n _ he=>u.any q n λz=>he (hx _ z),λb ob q n he=>u.free b ob q n λz=>he (hx b z),λb ob q he=>u.there b ob q λz=>he (hx b z),u.tups,u.frzs,u.tbls⟩
end
noncomputable def trk(h:Heap)(H:Hp):List Addr:=(List.range h.objs.size).filter λa=>(H a).isSome
noncomputable def gd(h:Heap)(H:Hp):Heap:=PySem.W.hideAll h (trk h H)
theorem JO(h:Heap)(H:Hp):(gd h H).objs.size=h.objs.size:=PySem.W.hideAll_size _ _
theorem JP{h:Heap}{H:Hp}{b:Addr}{o:Obj}(e:h.get? b=some o)(n:H b=none):(gd h H).get? b=some o :=
 PySem.W.hideAll_get _ e λhm=>by have q:(H b).isSome=true:=(List.mem_filter.mp hm).2;rw[n]at q;simp at q
theorem Hc{h:Heap}{H:Hp}{b:Addr}{o:Obj}(e:(gd h H).get? b=some o):h.get? b=some o/\H b=none:=by
 have e':h.get? b=some o:=PySem.W.of_hideAll (trk h H) e;refine⟨e',?_⟩;cases q:H b with
 |none=>rfl
 |some x =>have hm:b∈trk h H:=List.mem_filter.mpr ⟨List.mem_range.mpr (Heap.lt_size e'),by simp[q]⟩;have z:(gd h H).get? b=none:=PySem.W.hideAll_none (trk h H) hm;rw[z]at e;cases e
noncomputable def Me(g h:Heap)(L:Addr):List (Addr×Obj):=(List.range h.objs.size).filterMap λa=>if a=L\/(g.get? a).isSome=true then none else(h.get? a).map λo=>(a,o)
noncomputable def rest(g h:Heap)(L d:Addr):List (Addr×Obj):=(Me g h L).filter λp=>decide (p.1≠d)
structure Mod(K:PySem.W.Frag)(mg:Str->Option Value)(base:Heap):Prop where
 kin:K.In base
 glob:base.Ns mainGlobals mg
 blt:∃mb,base.Ns builtinsNs mb/\∀x:Str,x≠"__name__"->mb x=bootBuiltins x
 nolimit:base.NoLimit
structure Cx where
 prog:Program
 w:World
 K:PySem.W.Frag
 mg:Str->Option Value
 base:Heap
 A:Around
 N:List Str
 s₀:Shared
 H₀:Hp
 env:Env
 outer:List Env
 stack:List Env
 ex:List Addr
 fn:Str->Bool
 calm:Bool
 pn:List (Addr×Obj)
 xe:Value->Shared->Prop
noncomputable def frs(l:List Env):List Addr:=l.filterMap (·.frame)
abbrev Cx.fs(X:Cx):List Addr:=frs X.outer
def Vis(sc:Scope)(x:Str):Prop:=sc.names.lookup x=some .local\/sc.names.lookup x=some .cell\/sc.names.lookup x=some .free
def Loc(sc:Scope)(x:Str):Prop:=sc.names.lookup x=some .local\/sc.names.lookup x=some .cell
noncomputable def Mj(env:Env)(h:Heap)(m:Str->Option Value)(x:Str)(u:Value):Prop :=
 (env.kindOf x=some .local/\m x=some u)\/((env.kindOf x=some .cell\/env.kindOf x=some .free)/\∃c,env.cells.lookup x=some c/\h.IsCell c (some u))
structure Cx.Ok(X:Cx):Prop where
 mod:Mod X.K X.mg X.base
 kind:X.env.scope.kind=.function
 glob:X.env.globals=mainGlobals
 blt:X.env.builtins=builtinsNs
 above:X.s₀.heap.objs.size<=X.env.locals
 inj:∀x y c,X.env.cells.lookup x=some c->X.env.cells.lookup y=some c->x=y
 has:∀x,(X.env.kindOf x=some .cell\/X.env.kindOf x=some .free)->∃c,X.env.cells.lookup x=some c
 cab:∀x c,X.fn x=true->X.env.cells.lookup x=some c->X.s₀.heap.objs.size<=c
 hd:X.calm=true->X.A.handled=none
 frames:X.A.frames=some X.stack
 stk:X.stack=X.outer\/(X.stack=X.env::X.outer/\X.env.frame=some X.env.locals)
 exf:∀b∈X.ex,b≠X.env.locals/\∀x c,X.env.cells.lookup x=some c->c≠b
 bs:∀b o,X.base.get? b=some o->X.s₀.heap.get? b=some o/\X.H₀ b=none
 bsz:X.base.objs.size<=X.s₀.heap.objs.size
 noex:∀b o,X.base.get? b=some o->b∉X.ex
 exfs:∀b∈X.ex,b∉X.fs
 funs:X.s₀.heap.FunFrames X.base X.outer
 frf:∀b∈X.fs,X.H₀ b=none
structure Inv(X:Cx)(pins:List (Addr×Obj))(σ:List (Option V))(H:Hp)(s:Shared):Prop where
 ok:X.Ok
 os:s.os=X.s₀.os
 bare:AllBare s.gens
 base:Un X.fs X.ex X.H₀ H X.s₀.heap s.heap
 loc:∃m,s.heap.Ns X.env.locals m/\∀(i:Nat) (x:Str) (v:V),X.N[i]?=some x->σ[i]?=some (some v)->Vis X.env.scope x->∃u,RelV v u/\Mj X.env s.heap m x u
 cell:∀x c,X.env.cells.lookup x=some c->∃v,s.heap.IsCell c v
 free:H X.env.locals=none
 freeC:∀x c,X.env.cells.lookup x=some c->H c=none
 pin:∀p∈X.pn++pins,s.heap.get? p.1=some p.2/\H p.1=none/\p.1≠X.env.locals/\p.1∉X.fs/\∀v,p.2.data≠.cell v
 hok:HOk X.prog X.w H s.heap
 len:σ.length=X.N.length
section
variable {X:Cx}{pins:List (Addr×Obj)}{σ:List (Option V)}{H H':Hp}{s:Shared}{h':Heap}
theorem Cx.Ok.nofr(ok:X.Ok){b:Addr}{o:Obj}(e:X.base.get? b=some o):b∉X.fs:=λhb=>by have:=(ok.funs.mem hb).1;rw[e]at this;cases this
theorem Inv.bs(I:Inv X pins σ H s):∀b o,X.base.get? b=some o->s.heap.get? b=some o/\H b=none:=λb o e =>⟨I.base.keep b o (I.ok.bs b o e).1 (I.ok.bs b o e).2 (I.ok.nofr e) (I.ok.noex b o e),I.base.free b o (I.ok.bs b o e).1 (I.ok.bs b o e).2 (I.ok.noex b o e)⟩
theorem Inv.bk(I:Inv X pins σ H s):∀b o,X.base.get? b=some o->s.heap.get? b=some o:=λb o e=>(I.bs b o e).1
theorem Inv.mod(I:Inv X pins σ H s):Mod X.K X.mg X.base:=I.ok.mod
theorem Inv.kIn(I:Inv X pins σ H s):X.K.In s.heap:=I.ok.mod.kin.keeps I.bk
theorem Inv.nolimit(I:Inv X pins σ H s):s.heap.NoLimit:=I.ok.mod.nolimit.keeps I.bk
theorem Inv.fr(I:Inv X pins σ H s):∃m,Fr X.base X.env.locals s.heap m :=
 let⟨m,hn,_⟩:=I.loc
 ⟨m,hn,I.bk,PX I.ok.bsz I.ok.above⟩
theorem Inv.lt(I:Inv X pins σ H s):X.env.locals<s.heap.objs.size:=let⟨_,hn,_⟩:=I.loc;hn.lt
theorem Inv.sz(I:Inv X pins σ H s):X.s₀.heap.objs.size<=s.heap.objs.size:=PX I.ok.above (QZ I.lt)
theorem Inv.nofs(I:Inv X pins σ H s){a:Addr}(h:s.heap.objs.size<=a):a∉X.fs:=λhb=>by obtain⟨_,o,ho,_⟩:=I.ok.funs.mem hb;exact absurd (Qr (Heap.lt_size ho) (PX I.sz h)) (QM _)
theorem Inv.cne(I:Inv X pins σ H s):∀x c,X.env.cells.lookup x=some c->c≠X.env.locals:=λx c e z=>by obtain⟨v,o,ho,hd⟩:=I.cell x c e;obtain⟨m,⟨o',es,ep,ho',hd',_⟩,_⟩:=I.loc;rw[z,ho']at ho;cases ho;rw[hd']at hd;cases hd
theorem Inv.funs(I:Inv X pins σ H s):s.heap.FunFrames X.base X.outer:=by
 have all:∀(l:List Env),(∀b∈frs l,b∈X.fs)->X.s₀.heap.FunFrames X.base l->s.heap.FunFrames X.base l:=by
  intro l
  induction l with
  |nil=>intro _ _;trivial
  |cons env r ih =>
   intro hs hl;obtain⟨hk,⟨L,o,hf,hn,ho,hd⟩,hr⟩:=hl;have hL:L∈X.fs:=hs L (by unfold frs;rw[List.filterMap_cons,hf];exact PU);obtain⟨sl,e⟩:=I.base.slot L o ho (I.ok.frf L hL) hL λz=>I.ok.exfs L z hL
   exact⟨hk,⟨L,_,hf,hn,e,hd⟩,ih (λb hb=>hs b (by unfold frs;rw[List.filterMap_cons,hf];exact PP _ hb)) hr⟩
 exact all X.outer (λ_ hb=>hb) I.ok.funs
theorem Inv.stack(I:Inv X pins σ H s):s.heap.FunFrames X.base X.stack:=by
 rcases I.ok.stk with e |⟨e,hf⟩
 ·rw[e];exact I.funs
 ·rw[e];obtain⟨m,hn,_⟩:=I.loc;refine .cons (by rw[I.ok.kind];decide) hf hn ?_ I.funs;exact Heap.get?_none_of_le (PX I.ok.bsz I.ok.above)
theorem Inv.stkSub(I:Inv X pins σ H s):∀b∈frs X.stack,b∈X.env.locals::X.fs:=λb hb=>by
 rcases I.ok.stk with e |⟨e,hf⟩
 ·rw[e]at hb;exact PP _ hb
 ·rw[e]at hb;unfold frs at hb
  rw[List.filterMap_cons,hf]at hb;exact hb
theorem Inv.stkFree(I:Inv X pins σ H s):∀b∈frs X.stack,H b=none:=λb hb=>by
 rcases PM.mp (I.stkSub b hb)with e |hb
 ·rw[e];exact I.free
 ·obtain⟨_,o,ho,_⟩:=I.ok.funs.mem hb;exact I.base.free b o ho (I.ok.frf b hb) λz=>I.ok.exfs b z hb
theorem Inv.step{g':Array GenState}{t':Nat}{d':Drawn}{ch:List Addr}(I:Inv X pins σ H s)
 (hch:∀b∈ch,(b∈X.ex\/X.s₀.heap.objs.size<=b)/\b≠X.env.locals/\(∀x c,X.env.cells.lookup x=some c->c≠b)/\∀p∈X.pn++pins,p.1≠b)
 (keep:∀b o,b≠X.env.locals->b∉X.fs->b∉ch->s.heap.get? b=some o->H b=none->h'.get? b=some o)
 (slot:∀b o,b≠X.env.locals->b∈X.fs->b∉ch->s.heap.get? b=some o->H b=none->∃sl,h'.get? b=some { o with slots:=sl }) (free:∀b o,b∉ch->s.heap.get? b=some o->H b=none->H' b=none)
 (there:∀b o,b∉ch->s.heap.get? b=some o->∃o',h'.get? b=some o')
 (tups:∀b xs,H b=some (.tup xs)->H' b=some (.tup xs)) (frzs:∀b o u,H b=some (.frz o u)->H' b=some (.frz o u)) (tbls:∀b ps,H b=some (.tbl ps)->∃more,H' b=some (.tbl (ps++more)))
 (ns:∀m,s.heap.Ns X.env.locals m->h'.Ns X.env.locals m) (hok:HOk X.prog X.w H' h') (hg:AllBare g') :
 Inv X pins σ H' { s with heap:=h',gens:=g',drawn:=d',toks:=t' }:=by
 have neL:∀b o,X.s₀.heap.get? b=some o->b≠X.env.locals:=λb o e=>Qj (Qr (Heap.lt_size e) I.ok.above)
 have neC:∀b o,X.s₀.heap.get? b=some o->b∉X.ex->b∉ch:=λb o e hx hb=>by
  rcases(hch b hb).1 with z |z
  ·exact hx z
  ·exact absurd (Qr (Heap.lt_size e) z) (QM _)
 have cellK:∀x c,X.env.cells.lookup x=some c->∀v,s.heap.IsCell c v->h'.IsCell c v:=λx c e v ⟨o,ho,hd⟩=>by
  have nch:c∉ch:=λz=>(hch c z).2.2.1 x c e rfl
  by_cases hc:c∈X.fs
  ·obtain⟨sl,q⟩:=slot c o (I.cne x c e) hc nch ho (I.freeC x c e);exact⟨_,q,hd⟩
  ·exact⟨o,keep c o (I.cne x c e) hc nch ho (I.freeC x c e),hd⟩
 refine⟨I.ok,I.os,hg,⟨λb o e n hb hx=>?_,λb o e n hb hx=>?_,λb o e n hx=>?_,λb o e hx=>?_,λb xs e=>tups b xs (I.base.tups b xs e),λb o xs e=>frzs b o xs (I.base.frzs b o xs e),λb ps e=>?_⟩,?_,λx c e=>?_,?_,λx c e=>?_,λp hp=>?_,hok,I.len⟩
 ·exact keep b o (neL b o e) hb (neC b o e hx) (I.base.keep b o e n hb hx) (I.base.free b o e n hx)
 ·obtain⟨sl,e1⟩:=I.base.slot b o e n hb hx;obtain⟨sl',e2⟩:=slot b _ (neL b o e) hb (neC b o e hx) e1 (I.base.free b o e n hx);exact⟨sl',e2⟩
 ·obtain⟨o',e1⟩:=I.base.there b o e hx;exact free b o' (neC b o e hx) e1 (I.base.free b o e n hx)
 ·obtain⟨o',e1⟩:=I.base.there b o e hx;exact there b o' (neC b o e hx) e1
 ·obtain⟨m1,e1⟩:=I.base.tbls b ps e;obtain⟨m2,e2⟩:=tbls b _ e1;exact⟨m1++m2,by rw[e2,Array.append_assoc]⟩
 ·obtain⟨m,hn,hl⟩:=I.loc;refine⟨m,ns m hn,λi x v e1 e2 e3=>?_⟩;obtain⟨u,r,l⟩:=hl i x v e1 e2 e3;refine⟨u,r,?_⟩;rcases l with l |⟨k,c,e,z⟩
  ·exact .inl l
  ·exact .inr ⟨k,c,e,cellK x c e _ z⟩
 ·obtain⟨v,z⟩:=I.cell x c e;exact⟨v,cellK x c e v z⟩
 ·obtain⟨m,⟨o,_,_,ho,_⟩,_⟩:=I.loc;exact free _ o (λz=>(hch _ z).2.1 rfl) ho I.free
 ·obtain⟨v,o,ho,hd⟩:=I.cell x c e;exact free c o (λz=>(hch c z).2.2.1 x c e rfl) ho (I.freeC x c e)
 ·obtain⟨e,n,ne,nf,d⟩:=I.pin p hp;have nch:p.1∉ch:=λz=>(hch p.1 z).2.2.2 p hp rfl
  exact⟨keep p.1 p.2 ne nf nch e n,free p.1 p.2 nch e n,ne,nf,d⟩
theorem Inv.un{t':Nat}(I:Inv X pins σ H s)(u:Un X.fs [] H H' s.heap h')(hok:HOk X.prog X.w H' h'):Inv X pins σ H' { s with heap:=h',toks:=t' }:=by
 obtain⟨m,⟨o,es,ep,ho,r⟩,_⟩:=id I.loc;obtain⟨sl,hL⟩:=u.any ho I.free (by simp)
 exact I.step (g':=s.gens) (d':=s.drawn) (ch:=[]) (λ_ z=>nomatch z) (λb o _ hb _ e n=>u.keep b o e n hb (by simp)) (λb o _ hb _ e n=>u.slot b o e n hb (by simp)) (λb o _ e n=>u.free b o e n (by simp)) (λb o _ e=>u.there b o e (by simp)) u.tups u.frzs u.tbls (λm' hm=>by
  obtain⟨o',es',ep',ho',r'⟩:=hm;rw[ho]at ho';cases ho'
  exact⟨_,es',ep',hL,r'⟩) hok I.bare
theorem Inv.call{g':Array GenState}{t':Nat}{d':Drawn}{ch:List Addr}(I:Inv X pins σ H s)(u:Un (frs X.stack) ch H H' s.heap h')(hok:HOk X.prog X.w H' h')(hg:AllBare g')
 (hch:∀b∈ch,(b∈X.ex\/X.s₀.heap.objs.size<=b)/\b≠X.env.locals/\(∀x c,X.env.cells.lookup x=some c->c≠b)/\∀p∈X.pn++pins,p.1≠b) :
 Inv X pins σ H' { s with heap:=h',gens:=g',drawn:=d',toks:=t' }:=by
 obtain⟨m,⟨o,es,ep,ho,r⟩,_⟩:=id I.loc;obtain⟨sl,hL⟩:=u.any ho I.free λz=>(hch _ z).2.1 rfl
 exact I.step (ch:=ch) hch (λb o hL hb hc e n=>u.keep b o e n (λz=>(PM.mp (I.stkSub b z)).elim hL hb) hc) (λb o _ _ hc e n=>u.any e n hc) (λb o hc e n=>u.free b o e n hc) (λb o hc e=>u.there b o e hc) u.tups u.frzs u.tbls (λm' hm=>by
  obtain⟨o',es',ep',ho',r'⟩:=hm;rw[ho]at ho';cases ho'
  exact⟨_,es',ep',hL,r'⟩) hok hg
theorem Inv.turned{t':Nat}{it:Addr}(I:Inv X pins σ H s)(k:∀b o,b≠it->s.heap.get? b=some o->h'.get? b=some o)(hn:H it=none)(hL:it≠X.env.locals)
 (h1:it∈X.ex\/X.s₀.heap.objs.size<=it) (h2:∀x c,X.env.cells.lookup x=some c->c≠it) (h3:∀p∈X.pn++pins,p.1≠it):Inv X pins σ H { s with heap:=h',toks:=t' }:=by
 have nit:∀b u,H b=some u->b≠it:=λb u e z=>by rw[z,hn]at e;cases e
 refine I.step (g':=s.gens) (d':=s.drawn) (ch:=[it]) (λb hb=>?_) (λb o _ _ hc e _=>k b o (λz=>hc (by simp[z])) e) (λb o _ _ hc e _=>⟨o.slots,k b o (λz=>hc (by simp[z])) e⟩) (λ_ _ _ _ n=>n)
  (λb o hc e=>⟨o,k b o (λz=>hc (by simp[z])) e⟩) (λ_ _ e=>e) (λ_ _ _ e=>e) (λb ps e=>⟨#[],by rw[e];simp⟩) (λm hm=>?_) (λb u e=>?_) I.bare
 ·have e:b=it:=by simpa using hb
  subst e;exact⟨h1,hL,h2,h3⟩
 ·obtain⟨o,es,ep,ho,r⟩:=hm;exact⟨o,es,ep,k _ o (Ne.symm hL) ho,r⟩
 ·refine(I.hok b u e).stay (λc v hc q=>k c v ?_ q) (λ_ q=>q) λ_ _ q=>q
  rcases hc with z |z
  ·rw[z];exact nit b u e
  ·exact nit c _ z
theorem Inv.tok(I:Inv X pins σ H s)(t:Nat):Inv X pins σ H { s with toks:=t }:=I.un (h':=s.heap) (t':=t) Un.refl I.hok
theorem Inv.kept{t':Nat}(I:Inv X pins σ H s)(k:∀b u,s.heap.get? b=some u->h'.get? b=some u):Inv X pins σ H { s with heap:=h',toks:=t' }:=I.un (Un.kept k) (I.hok.kept k)
theorem Inv.laid{a:Addr}{o:HO}{t':Nat}(I:Inv X pins σ H s)(k:∀b u,s.heap.get? b=some u->h'.get? b=some u)(hp:s.heap.objs.size<=a)(new:ObjOk X.prog X.w (upd H a o) h' a o) :
 Inv X pins σ (upd H a o) { s with heap:=h',toks:=t' }:=I.un (Un.laid k hp (I.hok.fresh hp)) (I.hok.laid k hp new)
theorem Inv.write{x e:Addr}{o:HO}{t':Nat}(I:Inv X pins σ H s)(mu:Mut (H x))(he:e=x\/H e=some (.own x))(k:∀b u,b≠e->s.heap.get? b=some u->h'.get? b=some u)(heo:∃u,h'.get? e=some u)
 (new:ObjOk X.prog X.w (upd H x o) h' x o):Inv X pins σ (upd H x o) { s with heap:=h',toks:=t' }:=I.un (Un.write mu he k heo) (I.hok.write mu he k heo new)
theorem Inv.pins_of{pins':List (Addr×Obj)}(I:Inv X pins σ H s)(h:∀p∈pins',s.heap.get? p.1=some p.2/\H p.1=none/\p.1≠X.env.locals/\p.1∉X.fs/\∀v,p.2.data≠.cell v):Inv X pins' σ H s :=
 ⟨I.ok,I.os,I.bare,I.base,I.loc,I.cell,I.free,I.freeC,λp hp=>(Qh.mp hp).elim (λz=>I.pin p (Q0 _ z)) (h p),I.hok,I.len⟩
theorem zi{N:List Str}(hN:N.Nodup){i j:Nat}{x:Str}(a:N[i]?=some x)(b:N[j]?=some x):i=j:=by obtain⟨h1,e1⟩:=List.getElem?_eq_some_iff.mp a;obtain⟨h2,e2⟩:=List.getElem?_eq_some_iff.mp b;exact(List.getElem_inj hN).mp (e1.trans e2.symm)
theorem Dn{M:Model}{A:Around}{E:Value->Shared->Prop}{i:Nat}{x:Str}{v:V}{u:Value}{Q:Unit->Shared->Prop}(I:Inv X pins σ H s)(hN:X.N.Nodup)(hi:X.N[i]?=some x)(hx:Loc X.env.scope x)(r:RelV v u)
 (h:∀s',Inv X pins (σ.set i (some v)) H s'->(∃a,Heap.SameBut a s.heap s'.heap/\(a=X.env.locals\/X.env.cells.lookup x=some a))->Q () s') (hf:X.fn x=true\/X.env.scope.names.lookup x=some .local:=by first |exact .inl rfl |exact .inr rfl |assumption):wpAny M A (storeName X.env x u) Q E s:=by
 obtain⟨m,hn,hl⟩:=id I.loc;have hcls:(X.env.scope.kind == .class || (X.env.scope.kind == .module&&X.env.locals != X.env.globals))=false:=by rw[I.ok.kind];rfl
 have hiσ:i<σ.length:=by rw[I.len];exact(List.getElem?_eq_some_iff.mp hi).1
 have cne:=I.cne
 have tracked:∀{a:Addr} {h':Heap},(∃o,s.heap.get? a=some o/\H a=none)->Heap.SameBut a s.heap h'->HOk X.prog X.w H h':=λ{a h'} ha hs b ob e=>by
  obtain⟨_,_,hfree⟩:=ha;refine(I.hok b ob e).stay (λc w' hc q=>(hs.2 c ?_).trans q) (λ_ q=>q) λ_ _ q=>q
  rintro rfl;rcases hc with rfl |hc
  ·rw[hfree]at e;cases e
  ·rw[hfree]at hc;cases hc
 rcases hx with hk |hk
 ·refine wpAny_storeName_local hk hn (λh' hn' hs=>?_) hcls;obtain⟨oL,_,_,hoL,_⟩:=id hn;refine h _ ⟨I.ok,I.os,I.bare,⟨λb o e n hb hx=>?_,λb o e n hb hx=>?_,I.base.free,λb o e hx=>?_,I.base.tups,I.base.frzs,I.base.tbls⟩,⟨_,hn',λj y v' e1 e2 e3=>?_⟩,λy c e=>?_,I.free,I.freeC,λp hp=>?_,tracked ⟨oL,hoL,I.free⟩ hs,by simpa using I.len⟩ ⟨_,hs,.inl rfl⟩
  ·exact(hs.2 b (Qj (Qr (Heap.lt_size e) I.ok.above))).trans (I.base.keep b o e n hb hx)
  ·obtain⟨sl,e1⟩:=I.base.slot b o e n hb hx;exact⟨sl,(hs.2 b (Qj (Qr (Heap.lt_size e) I.ok.above))).trans e1⟩
  ·obtain⟨o',e1⟩:=I.base.there b o e hx;exact⟨o',(hs.2 b (Qj (Qr (Heap.lt_size e) I.ok.above))).trans e1⟩
  ·by_cases hj:j=i
   ·subst hj;rw[hi]at e1;cases e1;rw[List.getElem?_set_self hiσ]at e2;cases e2;exact⟨u,r,.inl ⟨hk,by simp⟩⟩
   ·rw[List.getElem?_set_ne (Ne.symm hj)]at e2;obtain⟨u',r',q⟩:=hl j y v' e1 e2 e3;refine⟨u',r',?_⟩;rcases q with⟨k,e⟩ |⟨k,c,e,z⟩
    ·refine .inl ⟨k,?_⟩;have:y≠x:=λe=>hj (zi hN e1 (e ▸ hi))
     simp[this,e]
    ·exact .inr ⟨k,c,e,z.sameBut hs (cne y c e)⟩
  ·obtain⟨w',z⟩:=I.cell y c e;exact⟨w',z.sameBut hs (cne y c e)⟩
  ·obtain⟨e,n,ne,nf,d⟩:=I.pin p hp;exact⟨(hs.2 p.1 ne).trans e,n,ne,nf,d⟩
 ·have hfn:X.fn x=true:=by
   rcases hf with z |z
   ·exact z
   ·rw[z]at hk;cases hk
  obtain⟨c,hc⟩:=I.ok.has x (.inl hk);obtain⟨w',z⟩:=I.cell x c hc;refine wpAny_storeName_cell I.ok.kind hk hc z (λh' hc' hs=>?_);obtain⟨oc,hoc,hocd⟩:=id z;refine h { s with heap:=h' } ⟨I.ok,I.os,I.bare,⟨λb o e n hb hx=>?_,λb o e n hb hx=>?_,I.base.free,λb o e hx=>?_,I.base.tups,I.base.frzs,I.base.tbls⟩,⟨m,hn.sameBut hs (Ne.symm (cne x c hc)),λj y v' e1 e2 e3=>?_⟩,λy c' e=>?_,I.free,I.freeC,λp hp=>?_,tracked ⟨oc,hoc,I.freeC x c hc⟩ hs,by simpa using I.len⟩ ⟨c,hs,.inr hc⟩
  ·exact(hs.2 b (Qj (Qr (Heap.lt_size e) (I.ok.cab x c hfn hc)))).trans (I.base.keep b o e n hb hx)
  ·obtain⟨sl,e1⟩:=I.base.slot b o e n hb hx;exact⟨sl,(hs.2 b (Qj (Qr (Heap.lt_size e) (I.ok.cab x c hfn hc)))).trans e1⟩
  ·obtain⟨o',e1⟩:=I.base.there b o e hx;exact⟨o',(hs.2 b (Qj (Qr (Heap.lt_size e) (I.ok.cab x c hfn hc)))).trans e1⟩
  ·by_cases hj:j=i
   ·subst hj;rw[hi]at e1;cases e1;rw[List.getElem?_set_self hiσ]at e2;cases e2;exact⟨u,r,.inr ⟨.inl hk,c,hc,hc'⟩⟩
   ·rw[List.getElem?_set_ne (Ne.symm hj)]at e2;obtain⟨u',r',q⟩:=hl j y v' e1 e2 e3;refine⟨u',r',?_⟩;rcases q with q |⟨k,c',e,z'⟩
    ·exact .inl q
    ·refine .inr ⟨k,c',e,z'.sameBut hs ?_⟩;rintro rfl;exact hj (zi hN e1 (I.ok.inj _ _ _ e hc ▸ hi))
  ·by_cases hcc:c'=c
   ·subst hcc;exact⟨_,hc'⟩
   ·obtain⟨w2,z2⟩:=I.cell y c' e;exact⟨w2,z2.sameBut hs hcc⟩
  ·obtain⟨e,n,ne,nf,d⟩:=I.pin p hp;refine⟨(hs.2 p.1 ?_).trans e,n,ne,nf,d⟩;intro q;rw[q,hoc]at e;have q':oc=p.2:=Option.some.inj e;exact d w' (by rw[<- q'];exact hocd)
theorem kQ{M:Model}{A:Around}{E:Value->Shared->Prop}{i:Nat}{x:Str}{v:V}{u:Value}{Q:Unit->Shared->Prop}(I:Inv X pins σ H s)(hN:X.N.Nodup)(hi:X.N[i]?=some x)(hx:Loc X.env.scope x)(r:RelV v u)
 (h:∀s',Inv X pins (σ.set i (some v)) H s'->Q () s') (hf:X.fn x=true\/X.env.scope.names.lookup x=some .local:=by first |exact .inl rfl |exact .inr rfl |assumption):wpAny M A (storeName X.env x u) Q E s :=
 Dn I hN hi hx r (λs' I' _=>h s' I') hf
theorem Inv.call'{s':Shared}{ch:List Addr}(I:Inv X pins σ H s)(ho:s'.os=s.os)(u:Un (frs X.stack) ch H H' s.heap s'.heap)(hok:HOk X.prog X.w H' s'.heap)(hg:AllBare s'.gens)
 (hch:∀b∈ch,(b∈X.ex\/X.s₀.heap.objs.size<=b)/\b≠X.env.locals/\(∀x c,X.env.cells.lookup x=some c->c≠b)/\∀p∈X.pn++pins,p.1≠b):Inv X pins σ H' s':=by
 obtain⟨h',g',d',t',o'⟩:=s';have e:o'=s.os:=ho;subst e;exact I.call (g':=g') (t':=t') (d':=d') u hok hg hch
end
abbrev XK:=Value->Option Addr->Hp->Prop
abbrev St:=List (Option V)
abbrev VK:=V->Hp->Prop
abbrev TE:=St->Hp->VK->Prop
abbrev TT:=St->Hp->(Bool->Hp->Prop)->Prop
abbrev TA:=St->Hp->(List V->Hp->Prop)->Prop
structure Ends where
 nx:St->Hp->Prop
 rt:VK
 bk:St->Hp->Prop:=λ_ _=>False
 ct:St->Hp->Prop:=λ_ _=>False
abbrev TS:=Ends->St->Hp->Prop
def EP(X:Cx)(pins:List (Addr×Obj))(σ:St)(Q:VK)(u:Value)(s':Shared):Prop:=∃v H',Inv X pins σ H' s'/\RelV v u/\Q v H'
def TP(X:Cx)(pins:List (Addr×Obj))(σ:St)(Q:Bool->Hp->Prop)(b:Bool)(s':Shared):Prop:=∃H',Inv X pins σ H' s'/\Q b H'
def AP(X:Cx)(pins:List (Addr×Obj))(σ:St)(Q:List V->Hp->Prop)(us:List Value)(s':Shared):Prop:=∃vs H',Inv X pins σ H' s'/\Vals vs us/\Q vs H'
noncomputable def SP(X:Cx)(pins:List (Addr×Obj))(D:Ends)(f:Flow)(s':Shared):Prop :=
 match f with
 |.next=>∃σ' H',Inv X pins σ' H' s'/\D.nx σ' H'
 |.brk=>∃σ' H',Inv X pins σ' H' s'/\D.bk σ' H'
 |.cont=>∃σ' H',Inv X pins σ' H' s'/\D.ct σ' H'
 |.ret u=>∃v σ' H',Inv X pins σ' H' s'/\RelV v u/\D.rt v H'
noncomputable def PE(X:Cx)(e:Expr)(t:TE):Prop :=
 ∀(pins:List (Addr×Obj)) (s:Shared) (σ:St) (H:Hp) (Q:VK),Inv X pins σ H s->t σ H Q->wpAny (model X.prog X.w) X.A (eval e X.env) (EP X pins σ Q) X.xe s
noncomputable def PT(X:Cx)(e:Expr)(t:TT):Prop :=
 ∀(pins:List (Addr×Obj)) (s:Shared) (σ:St) (H:Hp) (Q:Bool->Hp->Prop),Inv X pins σ H s->t σ H Q->wpAny (model X.prog X.w) X.A (isTrue e X.env (eval e X.env)) (TP X pins σ Q) X.xe s
noncomputable def PW(X:Cx)(e:Expr)(t:TT):Prop :=
 ∀(whole:Sem Value) (pins:List (Addr×Obj)) (s:Shared) (σ:St) (H:Hp) (Q:Bool->Hp->Prop),Inv X pins σ H s->t σ H Q->wpAny (model X.prog X.w) X.A (isTrue e X.env whole) (TP X pins σ Q) X.xe s
theorem PW.pt{X:Cx}{e:Expr}{t:TT}(h:PW X e t):PT X e t:=h _
noncomputable def PA(X:Cx)(es:List Expr)(t:TA):Prop :=
 ∀(pos:Pos) (pins:List (Addr×Obj)) (s:Shared) (σ:St) (H:Hp) (Q:List V->Hp->Prop),Inv X pins σ H s->t σ H Q->wpAny (model X.prog X.w) X.A (spliced (backTo pos (starEach es X.env))) (AP X pins σ Q) X.xe s
noncomputable def PS(X:Cx)(st:Stmt)(t:TS):Prop :=
 ∀(pins:List (Addr×Obj)) (s:Shared) (σ:St) (H:Hp) (D:Ends),Inv X pins σ H s->t D σ H->wpAny (model X.prog X.w) X.A (exec st X.env) (SP X pins D) X.xe s
noncomputable def PSs(X:Cx)(st:List Stmt)(t:TS):Prop :=
 ∀(pins:List (Addr×Obj)) (s:Shared) (σ:St) (H:Hp) (D:Ends),Inv X pins σ H s->t D σ H->wpAny (model X.prog X.w) X.A (execs st X.env) (SP X pins D) X.xe s
theorem thn{α:Type}{t:Sem α}{Q Q':α->Shared->Prop}{M:Model}{A:Around}{E:Value->Shared->Prop}{s:Shared}(h:wpAny M A t Q E s)(hQ:∀a s,Q a s->Q' a s):wpAny M A t Q' E s:=wpAny_mono h hQ λ_ _ x=>x
section
variable {X:Cx}
def wt(i:Nat):TE:=λσ H Q=>∃v,σ[i]?=some (some v)/\Q v H
def tC(v:V):TE:=λ_ H Q=>Q v H
theorem Fu{i:Nat}{x:Str}{pos:Pos}(hN:X.N[i]?=some x)(hv:Vis X.env.scope x)(hd:(x == ("__debug__":Str))=false:=by decide)(hcd:(x == ("__classdict__":Str))=false:=by decide):PE X (.Name x pos) (wt i):=by
 intro pins s σ H Q I h;obtain⟨v,e,h⟩:=h;obtain⟨m,hn,hl⟩:=I.loc;obtain⟨u,r,l⟩:=hl i x v hN e hv;have fin:EP X pins σ Q u s:=⟨v,H,I,r,h⟩;rcases l with⟨hk,hm⟩ |⟨hk,c,hc,hcell⟩
 ·exact wpAny_Name (wpAny_loadName_local I.ok.kind hk hn hm fin) hd
 ·rcases hk with hk |hk
  ·exact wpAny_Name (wpAny_loadName_cell I.ok.kind hk hc hcell fin) hd
  ·exact wpAny_Name (wpAny_loadName_free I.ok.kind hk hc hcell fin hcd) hd
theorem ad{i j pos}:PE X (.Constant (.int i) j pos) (tC (.int i)):=λ_ _ _ H _ I h=>wpAny_Constant_int ⟨.int i,H,I.tok _,⟨_,rfl⟩,h⟩
theorem lV{b j pos}:PE X (.Constant (.bool b) j pos) (tC (.bl b)):=λ_ _ _ H _ I h=>Constant_bool ⟨.bl b,H,I,rfl,h⟩
theorem yZ{j pos}:PE X (.Constant .none j pos) (tC .non):=λ_ _ _ H _ I h=>Constant_none ⟨.non,H,I,rfl,h⟩
def Gl(X:Cx)(x:Str):Prop:=X.env.kindOf x=some .globalImplicit
theorem tQ{E:Value->Shared->Prop}{pins:List (Addr×Obj)}{s:Shared}{σ:St}{H:Hp}{x:Str}{u:Value}{pos:Pos}{Q:Value->Shared->Prop}(I:Inv X pins σ H s)(hg:Gl X x)(hm:X.mg x=some u)(h:Q u s)
 (hd:(x == ("__debug__":Str))=false:=by decide):wpAny (model X.prog X.w) X.A (eval (.Name x pos) X.env) Q E s :=
 Calls.Name_function_global I.ok.kind hg (Calls.loadGlobal_global (by rw[I.ok.glob];exact I.mod.glob.keeps I.bk) hm h) hd
theorem gb{E:Value->Shared->Prop}{pins:List (Addr×Obj)}{s:Shared}{σ:St}{H:Hp}{x:Str}{u:Value}{pos:Pos}{Q:Value->Shared->Prop}(I:Inv X pins σ H s)(hg:Gl X x)(hm:X.mg x=none)(hv:bootBuiltins x=some u)(h:Q u s)
 (hn:x≠"__name__":=by decide) (hd:(x == ("__debug__":Str))=false:=by decide):wpAny (model X.prog X.w) X.A (eval (.Name x pos) X.env) Q E s:=by
 obtain⟨mb,h1,h2⟩:=I.mod.blt;exact Calls.Name_function_global I.ok.kind hg (Calls.loadGlobal_builtin (by rw[I.ok.glob];exact I.mod.glob.keeps I.bk) hm (by rw[I.ok.blt];exact h1.keeps I.bk) ((h2 x hn).trans hv) h) hd
theorem Fz{x:Str}{v:V}{u:Value}{pos:Pos}(hg:Gl X x)(hm:X.mg x=some u)(r:RelV v u)(hd:(x == ("__debug__":Str))=false:=by decide):PE X (.Name x pos) (tC v) :=
 λ_ _ _ H _ I h=>tQ I hg hm ⟨v,H,I,r,h⟩ hd
theorem sS{x:Str}{v:V}{u:Value}{pos:Pos}(hg:Gl X x)(hm:X.mg x=none)(hv:bootBuiltins x=some u)(r:RelV v u)(hn:x≠"__name__":=by decide)(hd:(x == ("__debug__":Str))=false:=by decide):PE X (.Name x pos) (tC v) :=
 λ_ _ _ H _ I h=>gb I hg hm hv ⟨v,H,I,r,h⟩ hn hd
variable {a b:Expr}{ta tb:TE}{pos:Pos}
def tB(t:TE):TT:=λσ H Q=>t σ H λx H1=>∃c,x=.bl c/\Q c H1
theorem lG{e:Expr}{t:TE}(h:PE X e t)(he:∀whole,isTrue e X.env whole=(do let v <- whole;standAt e.pos;holding [v] (truthy v)):=by intro _;rfl):PT X e (tB t):=by intro pins s σ H Q I hw;refine isTrue_plain (thn (h pins s σ H _ I hw) λv s1 ⟨x,H1,I1,r1,q1⟩=>?_) (he _);obtain⟨d,rfl,q⟩:=q1;cases r1;exact wpAny_truthy_bool ⟨H1,I1,q⟩
variable {tA tB':TT}{rest:List Expr}
def wD(t u:TT):TT:=λσ H Q=>t σ H λc H1=>if c=true then u σ H1 Q else Q false H1
def tOr(t u:TT):TT:=λσ H Q=>t σ H λc H1=>if c=true then Q true H1 else u σ H1 Q
def wy(t:TT):TT:=λσ H Q=>t σ H λc H1=>Q (!c) H1
theorem ly(ha:PT X a tA):PW X (.BoolOp .And [a] pos) tA:=by
 intro wh pins s σ H Q I h;refine isTrue_and (thn (ha pins s σ H Q I h) λc s1 e=>?_);cases c with
 |true=>exact isTrue_and_nil e
 |false=>exact e
theorem sL(ha:PT X a tA):PW X (.BoolOp .Or [a] pos) tA:=by
 intro wh pins s σ H Q I h;refine isTrue_or (thn (ha pins s σ H Q I h) λc s1 e=>?_);cases c with
 |false=>exact isTrue_or_nil e
 |true=>exact e
theorem lC(ha:PT X a tA)(hb:PW X (.BoolOp .And (b::rest) pos) tB'):PW X (.BoolOp .And (a::b::rest) pos) (wD tA tB'):=by
 intro wh pins s σ H Q I h;refine isTrue_and (thn (ha pins s σ H _ I h) λc s1 ⟨H1,I1,q1⟩=>?_);cases c with
 |true=>exact hb wh pins s1 σ H1 Q I1 q1
 |false=>exact⟨H1,I1,q1⟩
theorem sM(ha:PT X a tA)(hb:PW X (.BoolOp .Or (b::rest) pos) tB'):PW X (.BoolOp .Or (a::b::rest) pos) (tOr tA tB'):=by
 intro wh pins s σ H Q I h;refine isTrue_or (thn (ha pins s σ H _ I h) λc s1 ⟨H1,I1,q1⟩=>?_);cases c with
 |true=>exact⟨H1,I1,q1⟩
 |false=>exact hb wh pins s1 σ H1 Q I1 q1
theorem oa(ha:PT X a tA):PT X (.UnaryOp .Not a pos) (wy tA):=by intro pins s σ H Q I h;exact isTrue_not (ha pins s σ H (λc H1=>Q (!c) H1) I h)
def wC(ta tb:TE):TE:=λσ H Q=>ta σ H λx H1=>∃c,x=.bl c/\if c=true then tb σ H1 Q else Q (.bl false) H1
def wx(ta:TE):TE:=λσ H Q=>ta σ H λx H1=>∃c,x=.bl c/\Q (.bl (!c)) H1
theorem Fv{op}{t:TE}(h:PE X a t):PE X (.BoolOp op [a] pos) t:=λpins s σ H Q I hw=>BoolOp_one (h pins s σ H Q I hw)
theorem FB(ha:PE X a ta)(hb:PE X (.BoolOp .And (b::rest) pos) tb):PE X (.BoolOp .And (a::b::rest) pos) (wC ta tb):=by
 intro pins s σ H Q I h;refine BoolOp_and (thn (ha pins s σ H _ I h) λv s1 ⟨x,H1,I1,r1,q1⟩=>?_);obtain⟨c,rfl,q1⟩:=q1;cases r1;refine wpAny_truthy_bool ?_;cases c with
 |true=>exact hb pins s1 σ H1 Q I1 q1
 |false=>exact⟨.bl false,H1,I1,rfl,q1⟩
theorem Fw(ha:PE X a ta):PE X (.UnaryOp .Not a pos) (wx ta):=by intro pins s σ H Q I h;refine UnaryOp_ (thn (ha pins s σ H _ I h) λv s1 ⟨x,H1,I1,r1,q1⟩=>?_);obtain⟨c,rfl,q1⟩:=q1;cases r1;exact not_of (wpAny_truthy_bool ⟨.bl (!c),H1,I1,rfl,q1⟩)
def tIf(t:TT)(ta tb:TE):TE:=λσ H Q=>t σ H λc H1=>if c=true then ta σ H1 Q else tb σ H1 Q
theorem oo{c:Expr}(hc:PT X c tA)(ha:PE X a ta)(hb:PE X b tb):PE X (.IfExp c a b pos) (tIf tA ta tb):=by
 intro pins s σ H Q I h;refine wpAny_IfExp (thn (hc pins s σ H _ I h) λd s1 ⟨H1,I1,q1⟩=>?_);cases d with
 |true=>exact ha pins s1 σ H1 Q I1 q1
 |false=>exact hb pins s1 σ H1 Q I1 q1
end
noncomputable def SqL(K:PySem.W.Frag)(H:Hp)(a:Addr)(xs:List V):Prop :=
 Rd H a (.lst xs) \/
  ∃(o:Obj) (its:Array Value) (n:Nat),K.lookup a=some o/\o.cls=.type "list"/\o.dict=none/\o.data=.seq its n/\its.size<=sizeLine/\Vals xs its.toList
noncomputable def SqT(K:PySem.W.Frag)(H:Hp)(a:Addr)(xs:List V):Prop :=
 Rd H a (.tup xs) \/
  ∃(o:Obj) (its:Array Value) (n:Nat),K.lookup a=some o/\o.cls=.type "tuple"/\o.data=.seq its n/\its.size<=sizeLine/\Vals xs its.toList
noncomputable def Mg:Value->Option V
 |.none=>some .non
 |.bool b=>some (.bl b)
 |.int i _=>some (.int i)
 |.str x _=>some (.str x)
 |.bytes b _=>some (.byt b)
 |.float b _=>some (.flt b)
 |.ref a=>some (.ref a)
 |.type n=>some (.ty n)
 |_=>none
theorem RelV.abs{x:V}{u:Value}(r:RelV x u):Mg u=some x:=by
 cases x with
 |non=>cases r;rfl
 |bl _=>cases r;rfl
 |int _=>obtain⟨t,rfl⟩:=r;rfl
 |str _=>obtain⟨t,rfl⟩:=r;rfl
 |byt _=>obtain⟨t,rfl⟩:=r;rfl
 |flt _=>obtain⟨t,rfl⟩:=r;rfl
 |ref _=>cases r;rfl
 |ty _=>cases r;rfl
theorem RelV.inj{x y:V}{u:Value}(r:RelV x u)(q:RelV y u):x=y:=Option.some.inj (r.abs.symm.trans q.abs)
theorem Vals.inj:∀{xs ys:List V} {us:List Value},Vals xs us->Vals ys us->xs=ys
 |_,_,_,.nil,.nil=>rfl
 |_,_,_,.cons r t,.cons r' t'=>by rw[r.inj r',Vals.inj t t']
section
variable {X:Cx}{pins:List (Addr×Obj)}{σ:St}{H:Hp}{s:Shared}{a:Addr}{xs ys:List V}
theorem SqL.of{K:PySem.W.Frag}(h:H a=some (.lst xs)):SqL K H a xs:=.inl (.inl h)
theorem SqT.of{K:PySem.W.Frag}(h:H a=some (.tup xs)):SqT K H a xs:=.inl (.inl h)
theorem Inv.list(I:Inv X pins σ H s)(h:SqL X.K H a xs):∃its:List Value,Vals xs its/\PlainL s.heap a its.toArray/\xs.length<=sizeLine:=by
 rcases h with h |⟨o,its,n,hk,hc,hd,hs,hz,r⟩
 ·obtain⟨z,its,n,r,e⟩:=h.ok I.hok;exact⟨its,r,⟨_,n,e,rfl,rfl,rfl⟩,z⟩
 ·refine⟨its.toList,r,⟨o,n,I.kIn a o hk,hc,hd,by simpa using hs⟩,?_⟩;have e:=r.length;simp only[Array.length_toList]at e;omega
theorem Inv.tuple(I:Inv X pins σ H s)(h:SqT X.K H a xs):∃its:List Value,Vals xs its/\IsTup s.heap a its.toArray/\xs.length<=sizeLine:=by
 rcases h with h |⟨o,its,n,hk,hc,hs,hz,r⟩
 ·obtain⟨z,its,r,p⟩:=h.ok I.hok;exact⟨its,r,p,z⟩
 ·refine⟨its.toList,r,⟨o,I.kIn a o hk,hc,n,by simpa using hs⟩,?_⟩;have e:=r.length;simp only[Array.length_toList]at e;omega
theorem Inv.list_inj(I:Inv X pins σ H s)(h:SqL X.K H a xs)(h':SqL X.K H a ys):xs=ys:=by
 obtain⟨its,r,⟨o,n,e,_,_,d⟩,_⟩:=I.list h;obtain⟨its',r',⟨o',n',e',_,_,d'⟩,_⟩:=I.list h';rw[e]at e';cases e';rw[d]at d'
 injection d' with d1 _
 have:its=its':=by simpa using congrArg Array.toList d1
 subst this;exact r.inj r'
theorem Inv.tuple_inj(I:Inv X pins σ H s)(h:SqT X.K H a xs)(h':SqT X.K H a ys):xs=ys:=by
 obtain⟨its,r,⟨o,e,_,n,d⟩,_⟩:=I.tuple h;obtain⟨its',r',⟨o',e',_,n',d'⟩,_⟩:=I.tuple h';rw[e]at e';cases e';rw[d]at d'
 injection d' with d1 _
 have:its=its':=by simpa using congrArg Array.toList d1
 subst this;exact r.inj r'
end
abbrev Cx.wish(X:Cx)(E:Value->Shared->Prop):Cx:={ X with xe:=E }
abbrev Cx.nox(X:Cx):Cx:=X.wish λ_ _=>False
theorem Cx.Ok.wish{X:Cx}(ok:X.Ok)(E:Value->Shared->Prop):(X.wish E).Ok :=
 ⟨ok.mod,ok.kind,ok.glob,ok.blt,ok.above,ok.inj,ok.has,ok.cab,ok.hd,ok.frames,ok.stk,ok.exf,ok.bs,ok.bsz,ok.noex,ok.exfs,ok.funs,ok.frf⟩
theorem Cx.Ok.unwish{X:Cx}{E:Value->Shared->Prop}(ok:(X.wish E).Ok):X.Ok :=
 ⟨ok.mod,ok.kind,ok.glob,ok.blt,ok.above,ok.inj,ok.has,ok.cab,ok.hd,ok.frames,ok.stk,ok.exf,ok.bs,ok.bsz,ok.noex,ok.exfs,ok.funs,ok.frf⟩
section
variable {X:Cx}{pins:List (Addr×Obj)}{σ:St}{H:Hp}{s:Shared}{E:Value->Shared->Prop}
theorem Inv.wish(I:Inv X pins σ H s)(E:Value->Shared->Prop):Inv (X.wish E) pins σ H s:=⟨I.ok.wish E,I.os,I.bare,I.base,I.loc,I.cell,I.free,I.freeC,I.pin,I.hok,I.len⟩
theorem Inv.unwish(I:Inv (X.wish E) pins σ H s):Inv X pins σ H s:=⟨I.ok.unwish,I.os,I.bare,I.base,I.loc,I.cell,I.free,I.freeC,I.pin,I.hok,I.len⟩
theorem SP.unwish{D:Ends}{f:Flow}{s':Shared}(h:SP (X.wish E) pins D f s'):SP X pins D f s':=by
 cases f with
 |next=>obtain⟨σ',H',I,q⟩:=h;exact⟨σ',H',I.unwish,q⟩
 |brk=>obtain⟨σ',H',I,q⟩:=h;exact⟨σ',H',I.unwish,q⟩
 |cont=>obtain⟨σ',H',I,q⟩:=h;exact⟨σ',H',I.unwish,q⟩
 |ret u=>obtain⟨v,σ',H',I,r,q⟩:=h;exact⟨v,σ',H',I.unwish,r,q⟩
theorem PE.nox{e:Expr}{t:TE}(h:PE X.nox e t):PE X e t:=λpins s σ H Q I hw =>wpAny_mono (h pins s σ H Q (I.wish _) hw) (λ_ _ ⟨v,H',I',r,q⟩=>⟨v,H',I'.unwish,r,q⟩) λ_ _ z=>False.elim z
theorem PT.nox{e:Expr}{t:TT}(h:PT X.nox e t):PT X e t:=λpins s σ H Q I hw =>wpAny_mono (h pins s σ H Q (I.wish _) hw) (λ_ _ ⟨H',I',q⟩=>⟨H',I'.unwish,q⟩) λ_ _ z=>False.elim z
theorem PSs.nox{st:List Stmt}{t:TS}(h:PSs X.nox st t):PSs X st t:=λpins s σ H D I hw =>wpAny_mono (h pins s σ H D (I.wish _) hw) (λ_ _ q=>q.unwish) λ_ _ z=>False.elim z
end
section
variable {X:Cx}{st:Stmt}{rest:List Stmt}{t u:TS}{e:Expr}{te:TE}{pos:Pos}
def wz:TS:=λD σ H=>D.nx σ H
def cI(t u:TS):TS:=λD σ H=>t { D with nx:=u D } σ H
theorem aU:PSs X [] wz:=λ_ _ σ H _ I h=>wpAny_execs_nil ⟨σ,H,I,h⟩
theorem ag(h1:PS X st t)(h2:PSs X rest u):PSs X (st::rest) (cI t u):=by
 intro pins s σ H D I h;refine wpAny_execs_cons (thn (h1 pins s σ H { D with nx:=u D } I h) λf s1 q=>?_);cases f with
 |next =>obtain⟨σ',H',I',q⟩:=q;exact h2 pins s1 σ' H' D I' q
 |ret v=>exact q
 |brk=>exact q
 |cont=>exact q
theorem al(h1:PS X st t):PSs X [st] t:=by
 intro pins s σ H D I h;refine wpAny_execs_cons (thn (h1 pins s σ H D I h) λf s1 q=>?_);cases f with
 |next=>exact wpAny_execs_nil q
 |ret v=>exact q
 |brk=>exact q
 |cont=>exact q
theorem Inv.quiet{pins:List (Addr×Obj)}{σ:St}{H:Hp}{s:Shared}(I:Inv X pins σ H s):interactive X.env=false:=by simp[interactive,I.ok.kind]
def np(te:TE):TS:=λD σ H=>te σ H λ_ H1=>D.nx σ H1
theorem fe(he:PE X e te)(hs:swapsWith e none pos.line X.env=pure false:=by rfl):PS X (.Expr e pos) (np te):=by intro pins s σ H D I h;exact wpAny_Expr_any (thn (he pins s σ H _ I h) λv s1 ⟨x,H1,I1,r1,q1⟩=>⟨σ,H1,I1,q1⟩) I.quiet hs
def wv(te:TE):TS:=λD σ H=>te σ H D.rt
theorem aC(he:PE X e te):PS X (.Return (some e) pos) (wv te):=by intro pins s σ H D I h;exact wpAny_Return_some (thn (he pins s σ H _ I h) λv s1 ⟨x,H1,I1,r1,q1⟩=>⟨x,σ,H1,I1,r1,q1⟩)
def jJ(c:TT)(t u:TS):TS:=λD σ H=>c σ H λb H1=>if b=true then t D σ H1 else u D σ H1
theorem aR{c:Expr}{a b:List Stmt}{tc:TT}(hc:PT X c tc)(ha:PSs X a t)(hb:PSs X b u):PS X (.If c a b pos) (jJ tc t u):=by
 intro pins s σ H D I h;refine wpAny_If (thn (hc pins s σ H _ I h) λd s1 ⟨H1,I1,q1⟩=>?_);cases d with
 |true=>exact ha pins s1 σ H1 D I1 q1
 |false=>exact hb pins s1 σ H1 D I1 q1
def Db:TS:=λ_ _ _=>False
theorem iH:PS X st Db:=λ_ _ _ _ _ _ h=>h.elim
end
abbrev TG:=V->St->Hp->(St->Hp->Prop)->Prop
abbrev TGs:=List V->St->Hp->(St->Hp->Prop)->Prop
noncomputable def PG(X:Cx)(target:Expr)(t:TG):Prop :=
 ∀(pins:List (Addr×Obj)) (s:Shared) (σ:St) (H:Hp) (v:V) (u:Value) (Q:St->Hp->Prop),Inv X pins σ H s->RelV v u->t v σ H Q ->
  wpAny (model X.prog X.w) X.A (assign target X.env u) (λ_ s'=>∃σ' H',Inv X pins σ' H' s'/\Q σ' H') X.xe s
noncomputable def PGs(X:Cx)(ts:List Expr)(t:TGs):Prop :=
 ∀(pins:List (Addr×Obj)) (s:Shared) (σ:St) (H:Hp) (vs:List V) (us:List Value) (Q:St->Hp->Prop),Inv X pins σ H s->Vals vs us->t vs σ H Q ->
  wpAny (model X.prog X.w) X.A (assignInOrder ((assignEach ts X.env).map (·.2)) us) (λ_ s'=>∃σ' H',Inv X pins σ' H' s'/\Q σ' H') X.xe s
abbrev vB:=V->V->V->Hp->(Hp->Prop)->Prop
noncomputable def Cd(X:Cx)(t:vB):Prop :=
 ∀(pins:List (Addr×Obj)) (s:Shared) (σ:St) (H:Hp) (o i v:V) (ov iv u:Value) (Q:Hp->Prop),Inv X pins σ H s->RelV o ov->RelV i iv->RelV v u->t o i v H Q ->
  wpAny (model X.prog X.w) X.A (setItem ov iv u) (λ_ s'=>∃H',Inv X pins σ H' s'/\Q H') X.xe s
section
variable {X:Cx}{pos:Pos}
def jc(i:Nat):TG:=λv σ H Q=>Q (σ.set i (some v)) H
theorem aS{i:Nat}{x:Str}(hN:X.N.Nodup)(hi:X.N[i]?=some x)(hx:Loc X.env.scope x)(hf:X.fn x=true\/X.env.scope.names.lookup x=some .local:=by first |exact .inl rfl |exact .inr rfl |assumption):PG X (.Name x pos) (jc i):=by intro pins s σ H v u Q I r h;exact wpAny_assign_Name (kQ I hN hi hx r (λs' I'=>⟨_,H,I',h⟩) hf)
noncomputable def J6:TGs:=λvs σ H Q=>vs=[]/\Q σ H
noncomputable def J7(t:TG)(u:TGs):TGs:=λvs σ H Q=>∃v r,vs=v::r/\t v σ H λσ' H'=>u r σ' H' Q
theorem gz:PGs X [] J6:=by intro pins s σ H vs us Q I r h;obtain⟨e,h⟩:=h;subst e;cases r;exact assignInOrder_nil ⟨σ,H,I,h⟩
theorem cu{e:Expr}{es:List Expr}{t:TG}{u:TGs}(h1:PG X e t)(h2:PGs X es u)
 (hs:(assignEach (e::es) X.env).map (·.2)=assign e X.env::(assignEach es X.env).map (·.2):=by rfl):PGs X (e::es) (J7 t u):=by
 intro pins s σ H vs us Q I r h;obtain⟨v,vr,e1,h⟩:=h;subst e1;cases r with
 |cons r rr =>rw[hs];refine assignInOrder_cons (thn (h1 pins s σ H _ _ _ I r h) λ_ s1 ⟨σ1,H1,I1,q1⟩=>?_);exact h2 pins s1 σ1 H1 _ _ Q I1 rr q1
def AJ(K:PySem.W.Frag)(n:Nat)(t:TGs):TG:=λv σ H Q=>∃a xs,v=.ref a/\SqT K H a xs/\xs.length=n/\t xs σ H Q
theorem gA{es:List Expr}{k:Nat}{t:TGs}{n:Nat}(hc:X.calm=true)(h:PGs X es t)
 (hn:(assignEach es X.env).length=n:=by rfl) (hst:(assignEach es X.env).findIdx? (·.1)=none:=by rfl):PG X (.Tuple es k pos) (AJ X.K n t):=by
 intro pins s σ H v u Q I r hw;obtain⟨a,xs,e1,hq,hl,hw⟩:=hw;subst e1;cases r;obtain⟨its,rv,ht,hz⟩:=I.tuple hq;refine assign_Tuple_tuple (I.ok.hd hc) ht (by simp[hn,<- hl,rv.length]) hst λh' hx=>?_
 have I1:Inv X pins σ H { s with heap:=h' }:=I.kept (t':=s.toks) λb o e=>hx b o (Qj (Heap.lt_size e)) e
 exact h pins _ σ H xs _ Q I1 (by simpa using rv) hw
def J5(to ti:TE)(t:vB):TG:=λv σ H Q=>to σ H λo H1=>ti σ H1 λi H2=>t o i v H2 λH3=>Q σ H3
theorem lT{o i:Expr}{to ti:TE}{t:vB}(ho:PE X o to)(hi:PE X i ti)(hs:Cd X t)
 (ha:∀v,assign (.Subscript o i pos) X.env v=(do
   let ov <- holding [v] (eval o X.env)
   let iv <- holding [v,ov] (eval i X.env)
   standAt pos
   holding [v,ov,iv] (setItem ov iv v)
   release [v,ov,iv] []):=by intro _;rfl):PG X (.Subscript o i pos) (J5 to ti t):=by
 intro pins s σ H v u Q I r h;rw[ha];refine wpAny_bind (wpAny_holding (thn (ho pins s σ H _ I h) λov s1 ⟨x,H1,I1,r1,q1⟩=>?_));refine wpAny_bind (wpAny_holding (thn (hi pins s1 σ H1 _ I1 q1) λiv s2 ⟨y,H2,I2,r2,q2⟩=>?_));refine wpAny_bind (wpAny_standAt (wpAny_bind (wpAny_holding (thn (hs pins s2 σ H2 x y v ov iv u _ I2 r1 r2 r q2) λ_ s3 ⟨H3,I3,q3⟩=>?_))));exact wpAny_release ⟨σ,H3,I3,q3⟩
def iB(te:TE)(g:TG):TS:=λD σ H=>te σ H λx H1=>g x σ H1 D.nx
theorem gw{tg e:Expr}{te:TE}{g:TG}(he:PE X e te)(hg:PG X tg g)(hs:swapsWithSole [tg] e pos.line X.env=pure false:=by rfl)(hw:swappedStores [tg] e X.env=pure none:=by rfl)
 (h1:(assignEach [tg] X.env).map (·.2)=[assign tg X.env]:=by rfl):PS X (.Assign [tg] e pos) (iB te g):=by
 intro pins s σ H D I h;refine wpAny_Assign_stores (thn (he pins s σ H _ I h) λv s1 ⟨x,H1,I1,r1,q1⟩=>?_) hs hw;rw[h1];exact thn (hg pins s1 σ H1 x v _ I1 r1 q1) λ_ s2 q=>q
theorem ak{i:Nat}{x:Str}{e:Expr}{te:TE}{pos':Pos}(hN:X.N.Nodup)(hi:X.N[i]?=some x)(hx:Loc X.env.scope x)(he:PE X e te)(hs:swapsWith e (some (.Name x pos')) pos.line X.env=pure false:=by rfl)(hf:X.fn x=true\/X.env.scope.names.lookup x=some .local:=by first |exact .inl rfl |exact .inr rfl |assumption) :
 PS X (.Assign [.Name x pos'] e pos) (iB te (jc i)):=by
 intro pins s σ H D I h;refine wpAny_Assign_Name (thn (he pins s σ H _ I h) λv s1 ⟨y,H1,I1,r1,q1⟩=>?_) hs;exact kQ I1 hN hi hx r1 (λs2 I2=>⟨_,H1,I2,q1⟩) hf
end
section
variable {X:Cx}{pos:Pos}
def CW(c:TT)(tb:TS):TS:=λD σ H=>∃W:Nat->St->Hp->Prop,(∃m,W m σ H)/\∀m σ H,W m σ H ->
 c σ H λb H1=>if b=true then ∃N:St->Hp->Prop,(∀σ' H',N σ' H'->∃m',m'<m/\W m' σ' H')/\tb { D with nx:=N,ct:=N,bk:=D.nx } σ H1 else D.nx σ H1
theorem fc{c:Expr}{body:List Stmt}{tc:TT}{tb:TS}(hp:PassesOwn (model X.prog X.w) X.A X.env X.xe)(hc:PT X c tc)(hb:PSs X body tb):PS X (.While c body [] pos) (CW tc tb):=by
 intro pins s σ H D I h;obtain⟨W,⟨m0,w0⟩,turn⟩:=h;refine wpAny_While (codeAny_whileLoop (λn s'=>∃σ' H',Inv X pins σ' H' s'/\W n σ' H') ?_ m0 ⟨σ,H,I,w0⟩);rintro n s1 ⟨σ1,H1,I1,w1⟩;refine wpAny_passesOwn hp (thn (hc pins s1 σ1 H1 _ I1 (turn n σ1 H1 w1)) λb s2 ⟨H2,I2,q2⟩=>?_);cases b with
 |true =>
  obtain⟨N,hN,q2⟩:=q2;rw[if_pos rfl];refine wpAny_passesOwn hp (thn (hb pins s2 σ1 H2 _ I2 q2) λf s3 q3=>?_);cases f with
  |next =>obtain⟨σ3,H3,I3,n3⟩:=q3;obtain⟨m',hm,w3⟩:=hN σ3 H3 n3;exact⟨m',hm,σ3,H3,I3,w3⟩
  |cont =>obtain⟨σ3,H3,I3,n3⟩:=q3;obtain⟨m',hm,w3⟩:=hN σ3 H3 n3;exact⟨m',hm,σ3,H3,I3,w3⟩
  |brk=>exact q3
  |ret v=>exact q3
 |false =>rw[if_neg Ry];exact wpAny_execs_nil ⟨σ1,H2,I2,q2⟩
end
structure It where
 go:Nat->Hp->Prop
 yld:Nat->Hp->V->Hp->Prop
 stop:Nat->Hp->Prop
noncomputable def fV(X:Cx)(pins:List (Addr×Obj))(H:Hp)(b:Addr):Prop :=
 H b=none/\b≠X.env.locals/\b∉X.fs/\(b∈X.ex\/X.s₀.heap.objs.size<=b)/\(∀x c,X.env.cells.lookup x=some c->c≠b)/\∀p∈X.pn++pins,p.1≠b
theorem Inv.fpOk{X:Cx}{pins:List (Addr×Obj)}{σ:St}{H H':Hp}{s:Shared}{b:Addr}(I:Inv X pins σ H s)(hb:s.heap.objs.size<=b)(hn:H' b=none):fV X pins H' b:=by
 refine⟨hn,Nat.ne_of_gt (Qr I.lt hb),I.nofs hb,.inr (PX I.sz hb),λx c e z=>?_,λp hp z=>?_⟩
 ·obtain⟨v,q⟩:=I.cell x c e;exact absurd (Qr q.lt (by rw[z];exact hb)) (QM _)
 ·exact absurd (Qr (Heap.lt_size (I.pin p hp).1) (by rw[z];exact hb)) (QM _)
structure Turn(P:Program)(w:World)(K:PySem.W.Frag)(tg:Expr)(J:It)(fp:List Addr)(it:Addr)(tn:Nat->Heap->Prop):Prop where
 mem:it∈fp
 obj:∀i h,tn i h->∀b∈fp,∃o,h.get? b=some o/\∀v,o.data≠.cell v
 keep:∀i h h',tn i h->(∀b∈fp,∀o,h.get? b=some o->h'.get? b=some o)->tn i h'
 item:∀(X:Cx),X.prog=P->X.w=w->X.K=K->X.calm=true->∀(i:Nat) (pins:List (Addr×Obj)) (s:Shared) (σ:St) (H:Hp) (E:Value->Shared->Prop),Inv X pins σ H s->(∀b∈fp,fV X pins H b)->tn i s.heap->J.go i H ->
  wpAny (model P w) X.A (pyNext (.ref it)) (λr s1=>∃u,r=some u /\
   wpAny (model P w) X.A (letOwnedTupleGo tg (.ref it) u) (λ_ s2=>∃x H',Inv X pins σ H' s2/\RelV x u/\J.yld i H x H'/\tn (i+1) s2.heap/\∀b∈fp,H' b=none) E s1) E s
 done:∀(X:Cx),X.prog=P->X.w=w->X.K=K->X.calm=true->∀(i:Nat) (pins:List (Addr×Obj)) (s:Shared) (σ:St) (H:Hp) (E:Value->Shared->Prop),Inv X pins σ H s->(∀b∈fp,fV X pins H b)->tn i s.heap->J.stop i H ->
  wpAny (model P w) X.A (pyNext (.ref it)) (λr s1=>r=none/\Inv X pins σ H s1) E s
 self:∀(A:Around) (i:Nat) (s:Shared) (Q:Value->Shared->Prop) (E:Value->Shared->Prop),tn i s.heap->Q (.ref it) s->wpAny (model P w) A (pyIter (.ref it)) Q E s
abbrev TI:=St->Hp->(It->Hp->Prop)->Prop
noncomputable def PIE(X:Cx)(pins:List (Addr×Obj))(σ:St)(tg:Expr)(R:It->Hp->Prop)(itv:Value)(s2:Shared):Prop :=
 ∃(it:Addr) (fp:List Addr) (tn:Nat->Heap->Prop) (J:It) (H':Hp),itv=.ref it/\Inv X pins σ H' s2/\Turn X.prog X.w X.K tg J fp it tn/\tn 0 s2.heap/\(∀b∈fp,fV X pins H' b)/\R J H'
noncomputable def PI(X:Cx)(tg iter:Expr)(wi:TI):Prop :=
 ∀(pins:List (Addr×Obj)) (s:Shared) (σ:St) (H:Hp) (R:It->Hp->Prop),Inv X pins σ H s->wi σ H R ->
  wpAny (model X.prog X.w) X.A (eval iter X.env) (λv s1=>wpAny (model X.prog X.w) X.A (pyIter v) (PIE X pins σ tg R) X.xe s1) X.xe s
theorem mD{M:Model}{A:Around}{E:Value->Shared->Prop}{s:Shared}{tg:Expr}{it:Addr}{u:Value}{o:Obj}{n:String}{vs:Array Value}{Q:Unit->Shared->Prop}(ho:s.heap.get? it=some o)(hc:o.cls=.type n)(hd:o.data=.fields vs)
 (hn:["enumerate","zip","dict_itemiterator","dict_reverseitemiterator","odict_iterator","itertools.zip_longest","itertools.pairwise"].contains n=false) (hQ:Q () s):wpAny M A (letOwnedTupleGo tg (.ref it) u) Q E s:=by
 unfold letOwnedTupleGo
 cases tg<;>first
  |exact wpAny_pure hQ
  | (cases u<;>first
      |exact wpAny_pure hQ
      | (refine wpAny_bind (wpAny_load ho ?_)
         rw[hc,hd];show wpAny M A (if(["enumerate","zip","dict_itemiterator","dict_reverseitemiterator","odict_iterator","itertools.zip_longest","itertools.pairwise"].contains n&&vs[0]? == some (rawInt _))=true then _ else _) Q E s;rw[if_neg (by intro h;rw[hn,Bool.false_and]at h;cases h)]
         exact wpAny_pure hQ))
noncomputable def Itl(K:PySem.W.Frag)(a:Addr):It :=
 ⟨λi H=>∃xs x,SqL K H a xs/\xs[i]?=some x,λi H x H'=>H'=H/\∀xs,SqL K H a xs->xs[i]?=some x,λi H=>∃xs,SqL K H a xs/\xs.length<=i⟩
noncomputable def Itt(K:PySem.W.Frag)(a:Addr):It :=
 ⟨λi H=>∃xs x,SqT K H a xs/\xs[i]?=some x,λi H x H'=>H'=H/\∀xs,SqT K H a xs->xs[i]?=some x,λi H=>∃xs,SqT K H a xs/\xs.length<=i⟩
noncomputable def Itr(lo:Int)(n:Nat):It:=⟨λi _=>i<n,λi H x H'=>H'=H/\x=.int (lo+i),λi _=>n<=i⟩
theorem CF{P:Program}{w:World}{K:PySem.W.Frag}{tg:Expr}(a it:Addr):Turn P w K tg (Itl K a) [it] it (λi h=>h.IsListIter it a i) where
 mem:=by simp
 obj:=λi h st b hb=>by
  have e:b=it:=by simpa using hb
  subst e;obtain⟨o,e,c,d⟩:=st;exact⟨o,e,λv z=>by rw[d]at z;cases z⟩
 keep:=λi h h' st k=>st.at λo e=>k it (by simp) o e
 item:=by
  intro X hP hw hK hc i pins s σ H E I hf st hg;subst hP hw hK;obtain⟨xs,x,hq,hx⟩:=hg;obtain⟨its,rv,p,hz⟩:=I.list hq;obtain⟨u,hu,ru⟩:=rv.get hx;obtain⟨f0,f1,f2,f3,f4,f5⟩:=hf it (by simp);refine wpAny_pyNext_list_item st p.isList (x:=u) (by simpa using hu) λh' st' sb=>?_
  have I1:Inv X pins σ H { s with heap:=h' }:=I.turned (t':=s.toks) (λb o hb e=>(sb.2 b hb).trans e) f0 f1 f3 f4 f5;obtain⟨o,e,c,d⟩:=id st';exact⟨u,rfl,mD (s:={ s with heap:=h' }) e c d (by decide) ⟨x,H,I1,ru,⟨rfl,λys hy=>by rw[I.list_inj hy hq];exact hx⟩,st',λb hb=>(hf b hb).1⟩⟩
 done:=by intro X hP hw hK hc i pins s σ H E I hf st hg;subst hP hw hK;obtain⟨xs,hq,hx⟩:=hg;obtain⟨its,rv,p,hz⟩:=I.list hq;obtain⟨f0,f1,f2,f3,f4,f5⟩:=hf it (by simp);have hl:=rv.length;exact wpAny_pyNext_list_end (I.ok.hd hc) st p.isList (by simp;omega) λh' eb=>⟨rfl,I.turned (t':=s.toks) (λb o hb e=>eb b o hb e) f0 f1 f3 f4 f5⟩
 self:=λ_ _ _ _ _ st h=>wpAny_pyIter_listiter st h
theorem Cy{P:Program}{w:World}{K:PySem.W.Frag}{tg:Expr}(a it:Addr):Turn P w K tg (Itt K a) [it] it (λi h=>h.IsTupleIter it a i) where
 mem:=by simp
 obj:=λi h st b hb=>by
  have e:b=it:=by simpa using hb
  subst e;obtain⟨o,e,c,d⟩:=st;exact⟨o,e,λv z=>by rw[d]at z;cases z⟩
 keep:=λi h h' st k=>st.at λo e=>k it (by simp) o e
 item:=by
  intro X hP hw hK hc i pins s σ H E I hf st hg;subst hP hw hK;obtain⟨xs,x,hq,hx⟩:=hg;obtain⟨its,rv,p,hz⟩:=I.tuple hq;obtain⟨u,hu,ru⟩:=rv.get hx;obtain⟨f0,f1,f2,f3,f4,f5⟩:=hf it (by simp);refine wpAny_pyNext_tuple_item st (show s.heap.IsTuple a its.toArray from p) (x:=u) (by simpa using hu) λh' st' sb=>?_
  have I1:Inv X pins σ H { s with heap:=h' }:=I.turned (t':=s.toks) (λb o hb e=>(sb.2 b hb).trans e) f0 f1 f3 f4 f5;obtain⟨o,e,c,d⟩:=id st';exact⟨u,rfl,mD (s:={ s with heap:=h' }) e c d (by decide) ⟨x,H,I1,ru,⟨rfl,λys hy=>by rw[I.tuple_inj hy hq];exact hx⟩,st',λb hb=>(hf b hb).1⟩⟩
 done:=by intro X hP hw hK hc i pins s σ H E I hf st hg;subst hP hw hK;obtain⟨xs,hq,hx⟩:=hg;obtain⟨its,rv,p,hz⟩:=I.tuple hq;obtain⟨f0,f1,f2,f3,f4,f5⟩:=hf it (by simp);have hl:=rv.length;exact wpAny_pyNext_tuple_end (I.ok.hd hc) st (show s.heap.IsTuple a its.toArray from p) (by simp;omega) λh' eb=>⟨rfl,I.turned (t':=s.toks) (λb o hb e=>eb b o hb e) f0 f1 f3 f4 f5⟩
 self:=λ_ _ _ _ _ st h=>wpAny_pyIter_tupleiter st h
theorem CD{P:Program}{w:World}{K:PySem.W.Frag}{tg:Expr}(it:Addr)(lo:Int)(n:Nat):Turn P w K tg (Itr lo n) [it] it (λi h=>IsRangeIter h it (lo+(i:Nat)*1) ((n:Int)-(i:Nat)) 1) where
 mem:=by simp
 obj:=λi h st b hb=>by
  have e:b=it:=by simpa using hb
  subst e
  exact⟨_,st,λv z=>by
   have z':Data.fields _=Data.cell v:=z
   cases z'⟩
 keep:=λi h h' st k=>k it (by simp) _ st
 item:=by
  intro X hP hw hK hc i pins s σ H E I hf st hg;subst hP hw hK;obtain⟨f0,f1,f2,f3,f4,f5⟩:=hf it (by simp);have W:=Walks.range (prog:=X.prog) (w:=X.w) (I.ok.hd hc) it lo 1 n;refine W.item i s _ _ hg st λv h' tk hv st' kk=>?_
  obtain⟨t,rfl⟩:=hv;have I1:Inv X pins σ H { s with heap:=h',toks:=tk }:=I.turned (λb o hb e=>kk b o (by simpa using hb) e) f0 f1 f3 f4 f5;refine⟨_,rfl,mD (s:={ s with heap:=h',toks:=tk }) (n:="range_iterator") st' rfl rfl (by decide) ⟨.int (lo+i),H,I1,⟨t,?_⟩,⟨rfl,rfl⟩,st',λb hb=>(hf b hb).1⟩⟩;rw[P8]
 done:=by intro X hP hw hK hc i pins s σ H E I hf st hg;subst hP hw hK;obtain⟨f0,f1,f2,f3,f4,f5⟩:=hf it (by simp);exact wpAny_pyNext_range_end (I.ok.hd hc) st (by have:n<=i:=hg;omega) λh' eb=>⟨rfl,I.turned (t':=s.toks) (λb o hb e=>eb b o hb e) f0 f1 f3 f4 f5⟩
 self:=λ_ _ _ _ _ st h=>wpAny_pyIter_rangeiter st h
section
variable {X:Cx}{tg:Expr}
def Av(K:PySem.W.Frag)(tl:TE):TI:=λσ H R=>tl σ H λx H1=>∃a,x=.ref a/\(∃xs,SqL K H1 a xs)/\R (Itl K a) H1
def Au(K:PySem.W.Frag)(tl:TE):TI:=λσ H R=>tl σ H λx H1=>∃a,x=.ref a/\(∃xs,SqT K H1 a xs)/\R (Itt K a) H1
theorem Fp{l:Expr}{tl:TE}(hl:PE X l tl):PI X tg l (Av X.K tl):=by
 intro pins s σ H R I h;refine thn (hl pins s σ H _ I h) λv s1 ⟨x,H1,I1,r1,q1⟩=>?_
 obtain⟨a,e,⟨xs,hq⟩,q⟩:=q1;subst e;cases r1;obtain⟨its,rv,p,hz⟩:=I1.list hq;refine wpAny_pyIter_list p.isList ?_;refine⟨s1.heap.objs.size,[s1.heap.objs.size],_,_,H1,rfl,I1.kept (t':=s1.toks) λb o e=>Heap.get?_push_of_some _ e,CF a _,⟨_,Heap.get?_push_size _ rfl,rfl,rfl⟩,λb hb=>?_,q⟩;have e:b=s1.heap.objs.size:=by simpa using hb
 subst e;exact I1.fpOk (PF _) (I1.hok.fresh (PF _))
theorem Fn{l:Expr}{tl:TE}(hl:PE X l tl):PI X tg l (Au X.K tl):=by
 intro pins s σ H R I h;refine thn (hl pins s σ H _ I h) λv s1 ⟨x,H1,I1,r1,q1⟩=>?_
 obtain⟨a,e,⟨xs,hq⟩,q⟩:=q1;subst e;cases r1;obtain⟨its,rv,p,hz⟩:=I1.tuple hq;refine wpAny_pyIter_tuple (show s1.heap.IsTuple a its.toArray from p) ?_;refine⟨s1.heap.objs.size,[s1.heap.objs.size],_,_,H1,rfl,I1.kept (t':=s1.toks) λb o e=>Heap.get?_push_of_some _ e,Cy a _,⟨_,Heap.get?_push_size _ rfl,rfl,rfl⟩,λb hb=>?_,q⟩;have e:b=s1.heap.objs.size:=by simpa using hb
 subst e;exact I1.fpOk (PF _) (I1.hok.fresh (PF _))
theorem yE{pins:List (Addr×Obj)}{σ:St}{H:Hp}{s:Shared}{R:It->Hp->Prop}{E:Value->Shared->Prop}{lo hi:Int}{t u v:Tok}{tk:Nat}(I:Inv X pins σ H s)(h1 : -(2^62)<=lo)(h2:lo<2^62)(h3 : -(2^62)<=hi)(h4:hi<2^62)
 (q:R (Itr lo (hi-lo).toNat) H):wpAny (model X.prog X.w) X.A (pyIter (.ref s.heap.objs.size)) (PIE X pins σ tg R) E { s with heap:=s.heap.push { cls:=.type "range",data:=.fields #[.int lo t,.int hi u,.int 1 v] },toks:=tk }:=by
 refine wpAny_pyIter_range (IsRange.new ..) (small_one h1 h2 h3 h4) ?_;have I1:Inv X pins σ H { s with heap:=s.heap.push { cls:=.type "range",data:=.fields #[.int lo t,.int hi u,.int 1 v] },toks:=tk }:=I.kept λb o e=>Heap.get?_push_of_some _ e
 refine⟨(s.heap.push { cls:=.type "range",data:=.fields #[.int lo t,.int hi u,.int 1 v] }).objs.size,[(s.heap.push { cls:=.type "range",data:=.fields #[.int lo t,.int hi u,.int 1 v] }).objs.size],_,_,H,rfl,
  I1.kept (t':=tk) λb o e=>Heap.get?_push_of_some _ e,CD _ lo (hi-lo).toNat,?_,λb hb=>?_,q⟩
 ·have e1:lo+((0:Nat):Int)*1=lo:=by simp
  have e2:(((hi-lo).toNat:Nat):Int)-((0:Nat):Int)=Builtin.Range.rangeSize lo hi 1:=by rw[rangeSize_one];split<;>omega
  show IsRangeIter _ _ (lo+((0:Nat):Int)*1) ((((hi-lo).toNat:Nat):Int)-((0:Nat):Int)) 1;rw[e1,e2];exact Heap.get?_push_size _ rfl
 ·have e:b=(s.heap.push { cls:=.type "range",data:=.fields #[.int lo t,.int hi u,.int 1 v] }).objs.size:=by simpa using hb
  subst e;exact I1.fpOk (PF _) (I1.hok.fresh (PF _))
def JJ(ta:TA):TI:=λσ H R=>ta σ H λvs H1=>∃j:Int,vs=[.int j] /\ -(2^62)<=j/\j<2^62/\R (Itr 0 j.toNat) H1
def JI(ta:TA):TI:=λσ H R=>ta σ H λvs H1=>∃i j:Int,vs=[.int i,.int j]/\(-(2^62)<=i/\i<2^62 /\ -(2^62)<=j/\j<2^62)/\R (Itr i (j-i).toNat) H1
theorem g9{a:Expr}{ta:TA}{p pos:Pos}(hg:Gl X "range")(hm:X.mg "range"=none)(ha:PA X [a] ta)(hs:starEach [a] X.env=[(false,eval a X.env)]:=by rfl):PI X tg (.Call (.Name "range" p) [a] [] pos) (JJ ta):=by
 intro pins s σ H R I h;refine Call_ (gb I hg hm boot_range (PyProof.Rows.callWith_type1 (thn (ha pos pins s σ H _ I h) λus s1 ⟨vs,H1,I1,r1,q1⟩=>?_) hs rfl));obtain⟨j,e,q1,q2,q⟩:=q1;subst e;cases r1 with
 |cons r rr =>cases rr;obtain⟨t,rfl⟩:=r;exact call_range_1 (yE I1 (by omega) (by omega) q1 q2 (by simpa using q))
theorem Fo{a b:Expr}{ta:TA}{p pos:Pos}(hg:Gl X "range")(hm:X.mg "range"=none)(ha:PA X [a,b] ta)(hs:starEach [a,b] X.env=[(false,eval a X.env),(false,eval b X.env)]:=by rfl)(hs2:starEach [b] X.env=[(false,eval b X.env)]:=by rfl) :
 PI X tg (.Call (.Name "range" p) [a,b] [] pos) (JI ta):=by
 intro pins s σ H R I h;refine Call_ (gb I hg hm boot_range (PyProof.Rows.callWith_type1 (thn (ha pos pins s σ H _ I h) λus s1 ⟨vs,H1,I1,r1,q1⟩=>?_) (by rw[hs,hs2]) (by rw[hs2];rfl)));obtain⟨i,j,e,⟨q1,q2,q3,q4⟩,q⟩:=q1;subst e;cases r1 with
 |cons r rr =>
  cases rr with
  |cons r' rr =>cases rr;obtain⟨t,rfl⟩:=r;obtain⟨t',rfl⟩:=r';exact call_range_2 (yE I1 q1 q2 q3 q4 q)
def De(wi:TI)(g:TG)(tb:TS):TS:=λD σ H=>wi σ H λJ H1=>∃W:Nat->Nat->St->Hp->Prop,(∃m,W 0 m σ H1)/\∀i m σ H,W i m σ H ->
 (J.stop i H/\D.nx σ H)\/(J.go i H/\∃N:St->Hp->Prop,(∀σ' H',N σ' H'->∃m',m'<m/\W (i+1) m' σ' H')/\∀x H',J.yld i H x H'->g x σ H' λσ2 H2=>tb { D with nx:=N,ct:=N,bk:=D.nx } σ2 H2)
noncomputable def oj(fp:List Addr)(h:Heap):List (Addr×Obj):=fp.filterMap λb=>(h.get? b).map λo=>(b,o)
theorem oB{fp:List Addr}{h:Heap}{b:Addr}{o:Obj}(hb:b∈fp)(e:h.get? b=some o):(b,o)∈oj fp h:=List.mem_filterMap.mpr ⟨b,hb,by rw[e];rfl⟩
theorem Hb{fp:List Addr}{h:Heap}{p:Addr×Obj}(hp:p∈oj fp h):p.1∈fp/\h.get? p.1=some p.2:=by
 obtain⟨b,hb,e⟩:=List.mem_filterMap.mp hp;cases q:h.get? b with
 |none=>rw[q]at e;cases e
 |some o =>rw[q]at e;have e':(b,o)=p:=Option.some.inj e;subst e';exact⟨hb,q⟩
theorem Inv.pinned{pins:List (Addr×Obj)}{σ:St}{H:Hp}{s:Shared}{fp:List Addr}(I:Inv X pins σ H s)(hf:∀b∈fp,fV X pins H b)(ho:∀b∈fp,∃o,s.heap.get? b=some o/\∀v,o.data≠.cell v):Inv X (pins++oj fp s.heap) σ H s :=
 I.pins_of λp hp=>(Qh.mp hp).elim (λz=>I.pin p (Qz _ z)) λz=>by obtain⟨hb,e⟩:=Hb z;obtain⟨f0,f1,f2,_⟩:=hf p.1 hb;obtain⟨o,e',d⟩:=ho p.1 hb;rw[e]at e';cases e';exact⟨e,f0,f1,f2,d⟩
theorem Inv.unpinned{pins pl:List (Addr×Obj)}{σ:St}{H:Hp}{s:Shared}(I:Inv X (pins++pl) σ H s):Inv X pins σ H s:=I.pins_of λp hp=>I.pin p (Qz _ (Q0 _ hp))
theorem cV{iter:Expr}{body:List Stmt}{wi:TI}{g:TG}{tb:TS}{pos:Pos}(hp:PassesOwn (model X.prog X.w) X.A X.env X.xe)(hc:X.calm=true)(hi:PI X tg iter wi)(hg:PG X tg g)(hb:PSs X body tb)
 (hs:∀x,foldedSetIterable iter X.env x=pure x:=by intro _;rfl):PS X (.For tg iter body [] pos) (De wi g tb):=by
 intro pins s σ H D I h;refine wpAny_For (thn (hi pins s σ H _ I h) λv s1 h1=>thn h1 λitv s2 h2=>?_) hs;obtain⟨it,fp,tn,J,H2,e,I2,T,st2,f2,W,⟨m0,w0⟩,turn⟩:=h2;subst e;have stat:∀{H':Hp},(∀b∈fp,H' b=none)->∀b∈fp,fV X pins H' b:=λhn b hb=>⟨hn b hb,(f2 b hb).2⟩
 refine codeAny_forLoop_any (λn s'=>∃i σ' H',Inv X pins σ' H' s'/\tn i s'.heap/\(∀b∈fp,H' b=none)/\W i n σ' H') ?_ m0 ⟨0,σ,H2,I2,st2,λb hb=>(f2 b hb).1,w0⟩;rintro n s3 ⟨i,σ3,H3,I3,st3,fr3,w3⟩;rcases turn i n σ3 H3 w3 with⟨stop,qn⟩ |⟨go,N,hN,step⟩
 ·refine wpAny_passesOwn hp (thn (T.done X rfl rfl rfl hc i pins s3 σ3 H3 X.xe I3 (stat fr3) st3 stop) λr s4 ⟨hr,I4⟩=>?_);subst hr;exact wpAny_execs_nil ⟨σ3,H3,I4,qn⟩
 ·refine wpAny_passesOwn hp (thn (T.item X rfl rfl rfl hc i pins s3 σ3 H3 X.xe I3 (stat fr3) st3 go) λr s4 ⟨u,hr,h4⟩=>?_);subst hr;refine wpAny_passesOwn hp (thn h4 λ_ s5 ⟨x,H5,I5,r5,y5,st5,fr5⟩=>?_);have I5':=I5.pinned (stat fr5) (T.obj _ _ st5);refine wpAny_passesOwn hp (thn (hg _ s5 σ3 H5 x u _ I5' r5 (step x H5 y5)) λ_ s6 ⟨σ6,H6,I6,q6⟩=>?_);refine wpAny_passesOwn hp (thn (hb _ s6 σ6 H6 _ I6 q6) λf s7 q7=>?_)
  have again:∀{σ7:St} {H7:Hp},Inv X (pins++oj fp s5.heap) σ7 H7 s7->N σ7 H7->∃m,m<n/\∃i σ' H',Inv X pins σ' H' s7/\tn i s7.heap/\(∀b∈fp,H' b=none)/\W i m σ' H':=λ{σ7 H7} I7 n7=>by obtain⟨m',hm,w7⟩:=hN σ7 H7 n7;refine⟨m',hm,i+1,σ7,H7,I7.unpinned,T.keep _ _ _ st5 λb hb o e=>(I7.pin (b,o) (Qz _ (Qz _ (oB hb e)))).1,λb hb=>?_,w7⟩;obtain⟨o,e,d⟩:=T.obj _ _ st5 b hb;exact(I7.pin (b,o) (Qz _ (Qz _ (oB hb e)))).2.1
  cases f with
  |next=>obtain⟨σ7,H7,I7,n7⟩:=q7;exact again I7 n7
  |cont=>obtain⟨σ7,H7,I7,n7⟩:=q7;exact again I7 n7
  |brk=>obtain⟨σ7,H7,I7,q7⟩:=q7;exact⟨σ7,H7,I7.unpinned,q7⟩
  |ret v=>obtain⟨x7,σ7,H7,I7,r7,q7⟩:=q7;exact⟨x7,σ7,H7,I7.unpinned,r7,q7⟩
end
theorem o1{K:PySem.W.Frag}{a:Addr}{xs:List V}{g:TG}{tb:TS}{D:Ends}{σ:St}{H:Hp}(Pv:Nat->St->Hp->Prop)(h0:Pv 0 σ H)(hl:∀i σ H,i<=xs.length->Pv i σ H->SqL K H a xs)
 (hs:∀i x σ H,xs[i]?=some x->Pv i σ H->g x σ H λσ2 H2=>tb { D with nx:=Pv (i+1),ct:=Pv (i+1),bk:=D.nx } σ2 H2) (hd:∀σ H,Pv xs.length σ H->D.nx σ H) :
 ∃W:Nat->Nat->St->Hp->Prop,(∃m,W 0 m σ H)/\∀i m σ H,W i m σ H ->
  ((Itl K a).stop i H/\D.nx σ H)\/((Itl K a).go i H/\∃N:St->Hp->Prop,(∀σ' H',N σ' H'->∃m',m'<m/\W (i+1) m' σ' H')/\∀x H',(Itl K a).yld i H x H'->g x σ H' λσ2 H2=>tb { D with nx:=N,ct:=N,bk:=D.nx } σ2 H2):=by
 refine⟨λi m σ H=>m=xs.length-i/\i<=xs.length/\Pv i σ H,⟨xs.length,by simp,PK _,h0⟩,?_⟩;rintro i m σ H ⟨rfl,hi,p⟩;have q:=hl i σ H hi p;by_cases hlt:i<xs.length
 ·refine .inr ⟨⟨xs,xs[i],q,by simp[hlt]⟩,Pv (i+1),λσ' H' p'=>⟨xs.length-(i+1),by omega,rfl,hlt,p'⟩,λx H' y=>?_⟩;obtain⟨e,y⟩:=y;subst e;exact hs i x σ _ (y xs q) p
 ·have e:i=xs.length:=by omega
  subst e;exact .inl ⟨⟨xs,q,PF _⟩,hd σ H p⟩
theorem J9{K:PySem.W.Frag}{a:Addr}{xs:List V}{g:TG}{tb:TS}{D:Ends}{σ:St}{H:Hp}(Pv:Nat->St->Hp->Prop)(h0:Pv 0 σ H)(hl:∀i σ H,i<=xs.length->Pv i σ H->SqT K H a xs)
 (hs:∀i x σ H,xs[i]?=some x->Pv i σ H->g x σ H λσ2 H2=>tb { D with nx:=Pv (i+1),ct:=Pv (i+1),bk:=D.nx } σ2 H2) (hd:∀σ H,Pv xs.length σ H->D.nx σ H) :
 ∃W:Nat->Nat->St->Hp->Prop,(∃m,W 0 m σ H)/\∀i m σ H,W i m σ H ->
  ((Itt K a).stop i H/\D.nx σ H)\/((Itt K a).go i H/\∃N:St->Hp->Prop,(∀σ' H',N σ' H'->∃m',m'<m/\W (i+1) m' σ' H')/\∀x H',(Itt K a).yld i H x H'->g x σ H' λσ2 H2=>tb { D with nx:=N,ct:=N,bk:=D.nx } σ2 H2):=by
 refine⟨λi m σ H=>m=xs.length-i/\i<=xs.length/\Pv i σ H,⟨xs.length,by simp,PK _,h0⟩,?_⟩;rintro i m σ H ⟨rfl,hi,p⟩;have q:=hl i σ H hi p;by_cases hlt:i<xs.length
 ·refine .inr ⟨⟨xs,xs[i],q,by simp[hlt]⟩,Pv (i+1),λσ' H' p'=>⟨xs.length-(i+1),by omega,rfl,hlt,p'⟩,λx H' y=>?_⟩;obtain⟨e,y⟩:=y;subst e;exact hs i x σ _ (y xs q) p
 ·have e:i=xs.length:=by omega
  subst e;exact .inl ⟨⟨xs,q,PF _⟩,hd σ H p⟩
theorem kh{lo:Int}{n:Nat}{g:TG}{tb:TS}{D:Ends}{σ:St}{H:Hp}(Pv:Nat->St->Hp->Prop)(h0:Pv 0 σ H)
 (hs:∀i σ H,i<n->Pv i σ H->g (.int (lo+i)) σ H λσ2 H2=>tb { D with nx:=Pv (i+1),ct:=Pv (i+1),bk:=D.nx } σ2 H2) (hd:∀σ H,Pv n σ H->D.nx σ H) :
 ∃W:Nat->Nat->St->Hp->Prop,(∃m,W 0 m σ H)/\∀i m σ H,W i m σ H ->
  ((Itr lo n).stop i H/\D.nx σ H)\/((Itr lo n).go i H/\∃N:St->Hp->Prop,(∀σ' H',N σ' H'->∃m',m'<m/\W (i+1) m' σ' H')/\∀x H',(Itr lo n).yld i H x H'->g x σ H' λσ2 H2=>tb { D with nx:=N,ct:=N,bk:=D.nx } σ2 H2):=by
 refine⟨λi m σ H=>m=n-i/\i<=n/\Pv i σ H,⟨n,by simp,PK _,h0⟩,?_⟩;rintro i m σ H ⟨rfl,hi,p⟩;by_cases hlt:i<n
 ·refine .inr ⟨hlt,Pv (i+1),λσ' H' p'=>⟨n-(i+1),by omega,rfl,hlt,p'⟩,λx H' y=>?_⟩;obtain⟨e,y⟩:=y;subst e y;exact hs i σ _ hlt p
 ·have e:i=n:=by omega
  subst e;exact .inl ⟨PF _,hd σ H p⟩
abbrev R2:=V->V->Hp->VK->Prop
noncomputable def OpR(X:Cx)(f:Value->Value->Sem Value)(r:R2):Prop :=
 ∀(pins:List (Addr×Obj)) (s:Shared) (σ:St) (H:Hp) (x y:V) (v u:Value) (Q:VK),Inv X pins σ H s->RelV x v->RelV y u->r x y H Q ->
  wpAny (model X.prog X.w) X.A (f v u) (EP X pins σ Q) X.xe s
noncomputable def UnR(X:Cx)(f:Value->Sem Value)(r:V->Hp->VK->Prop):Prop :=
 ∀(pins:List (Addr×Obj)) (s:Shared) (σ:St) (H:Hp) (x:V) (v:Value) (Q:VK),Inv X pins σ H s->RelV x v->r x H Q ->
  wpAny (model X.prog X.w) X.A (f v) (EP X pins σ Q) X.xe s
noncomputable def CallR(X:Cx)(f:Value)(r:List V->Hp->VK->Prop):Prop :=
 ∀(pins:List (Addr×Obj)) (s:Shared) (σ:St) (H:Hp) (xs:List V) (us:List Value) (Q:VK),Inv X pins σ H s->Vals xs us->r xs H Q ->
  wpAny (model X.prog X.w) X.A (call f us) (EP X pins σ Q) X.xe s
noncomputable def Mh(X:Cx)(r:V->Hp->(Bool->Hp->Prop)->Prop):Prop :=
 ∀(pins:List (Addr×Obj)) (s:Shared) (σ:St) (H:Hp) (x:V) (v:Value) (Q:Bool->Hp->Prop),Inv X pins σ H s->RelV x v->r x H Q ->
  wpAny (model X.prog X.w) X.A (truthy v) (TP X pins σ Q) X.xe s
def tOp(r:R2)(ta tb:TE):TE:=λσ H Q=>ta σ H λx H1=>tb σ H1 λy H2=>r x y H2 Q
def tUn(r:V->Hp->VK->Prop)(ta:TE):TE:=λσ H Q=>ta σ H λx H1=>r x H1 Q
def rI(C:Int->Int->Prop)(g:Int->Int->V):R2:=λx y H Q=>∃i j,x=.int i/\y=.int j/\C i j/\Q (g i j) H
def rI0(g:Int->Int->V):R2:=λx y H Q=>∃i j,x=.int i/\y=.int j/\Q (g i j) H
noncomputable def rU(g:Int->V):V->Hp->VK->Prop:=λx H Q=>∃i,x=.int i/\Q (g i) H
section
variable {X:Cx}{a b c:Expr}{ta tb tc:TE}{pos:Pos}
theorem vf(ha:PE X a ta)(hb:PE X b tb){pins:List (Addr×Obj)}{s:Shared}{σ:St}{H:Hp}{R:V->V->Hp->Prop}(I:Inv X pins σ H s)
 (h:ta σ H λx H1=>tb σ H1 λy H2=>R x y H2) {Q:Value->Shared->Prop} {f:Value->Value->Sem Value}
 (hf:∀v u s2 x y H2,Inv X pins σ H2 s2->RelV x v->RelV y u->R x y H2->wpAny (model X.prog X.w) X.A (f v u) Q X.xe s2) :
 wpAny (model X.prog X.w) X.A (eval a X.env) (λv s₁=>wpAny (model X.prog X.w) X.A (eval b X.env) (λu s₂=>wpAny (model X.prog X.w) X.A (f v u) Q X.xe s₂) X.xe s₁) X.xe s:=by
 refine thn (ha pins s σ H _ I h) λv s1 ⟨x,H1,I1,r1,q1⟩=>?_
 refine thn (hb pins s1 σ H1 _ I1 q1) λu s2 ⟨y,H2,I2,r2,q2⟩=>?_
 exact hf v u s2 x y H2 I2 r1 r2 q2
theorem aj{op:Operator}{r:R2}(ho:OpR X (binaryOp op) r)(ha:PE X a ta)(hb:PE X b tb):PE X (.BinOp a op b pos) (tOp r ta tb):=by intro pins s σ H Q I h;exact wpAny_BinOp (vf ha hb I h λv u s2 x y H2 I2 rx ry q=>ho pins s2 σ H2 x y v u Q I2 rx ry q)
theorem bK{op:UnaryOp}{r:V->Hp->VK->Prop}(ho:UnR X (unaryOp op) r)(ha:PE X a ta):PE X (.UnaryOp op a pos) (tUn r ta):=by intro pins s σ H Q I h;exact UnaryOp_ (thn (ha pins s σ H _ I h) λv s1 ⟨x,H1,I1,r1,q1⟩=>ho pins s1 σ H1 x v Q I1 r1 q1)
theorem opI{f:Value->Value->Sem Value}{C:Int->Int->Prop}{g:Int->Int->Int}
 (rule:∀(i j:Int) (t u:Tok) (s:Shared) (Q:Value->Shared->Prop) (E:Value->Shared->Prop),C i j->Q (.int (g i j) s.toks) { s with toks:=s.toks+1 }->wpAny (model X.prog X.w) X.A (f (.int i t) (.int j u)) Q E s) :
 OpR X f (rI C λi j=>.int (g i j)):=by
 intro pins s σ H x y v u Q I rx ry h;obtain⟨i,j,rfl,rfl,hc,q⟩:=h;obtain⟨t,rfl⟩:=rx;obtain⟨t',rfl⟩:=ry;exact rule i j t t' s _ _ hc ⟨.int (g i j),H,I.tok _,⟨_,rfl⟩,q⟩
theorem y9{f:Value->Value->Sem Value}{g:Int->Int->Int}
 (rule:∀(i j:Int) (t u:Tok) (s:Shared) (Q:Value->Shared->Prop) (E:Value->Shared->Prop),Q (.int (g i j) s.toks) { s with toks:=s.toks+1 }->wpAny (model X.prog X.w) X.A (f (.int i t) (.int j u)) Q E s) :
 OpR X f (rI0 λi j=>.int (g i j)):=by
 intro pins s σ H x y v u Q I rx ry h;obtain⟨i,j,rfl,rfl,q⟩:=h;obtain⟨t,rfl⟩:=rx;obtain⟨t',rfl⟩:=ry;exact rule i j t t' s _ _ ⟨.int (g i j),H,I.tok _,⟨_,rfl⟩,q⟩
theorem j2{f:Value->Value->Sem Value}{g:Int->Int->Bool}
 (rule:∀(i j:Int) (t u:Tok) (s:Shared) (Q:Value->Shared->Prop) (E:Value->Shared->Prop),Q (.bool (g i j)) s->wpAny (model X.prog X.w) X.A (f (.int i t) (.int j u)) Q E s) :
 OpR X f (rI0 λi j=>.bl (g i j)):=by
 intro pins s σ H x y v u Q I rx ry h;obtain⟨i,j,rfl,rfl,q⟩:=h;obtain⟨t,rfl⟩:=rx;obtain⟨t',rfl⟩:=ry;exact rule i j t t' s _ _ ⟨.bl (g i j),H,I,rfl,q⟩
def NQ(i j:Int):Prop:=0<=j/\j<=1000000/\i.natAbs<2^64
def CMul(i j:Int):Prop:=(-(2^64)<i/\i<2^64)\/(-(2^64)<j/\j<2^64)
theorem CMul.ok{i j:Int}(h:CMul i j):IntMulOk i j:=by
 rcases h with⟨h1,h2⟩ |⟨h1,h2⟩
 ·exact .of_left (intBits_le_64 h1 h2)
 ·exact .of_right (intBits_le_64 h1 h2)
theorem aY:OpR X (binaryOp .Add) (rI0 λi j=>.int (i+j)):=y9 λ_ _ _ _ _ _ _ q=>add_int q
theorem cq:OpR X (binaryOp .Sub) (rI0 λi j=>.int (i-j)):=y9 λ_ _ _ _ _ _ _ q=>sub_int q
theorem FF:OpR X (binaryOp .Mod) (rI (λ_ j=>0<j) λi j=>.int (i%j)):=opI λi j _ _ _ _ _ hc q=>by have h1:(0:Int)<j:=hc;exact mod_int' (by omega) (by rw[Int.fmod_eq_emod_of_nonneg i (by omega)];exact q)
theorem ot:OpR X (binaryOp .Pow) (rI NQ λi j=>.int (i^j.toNat)):=opI λ_ _ _ _ _ _ _ hc q=>pow_int_small hc.1 hc.2.1 hc.2.2 q
theorem unI{f:Value->Sem Value}{g:Int->Int}
 (rule:∀(i:Int) (t:Tok) (s:Shared) (Q:Value->Shared->Prop) (E:Value->Shared->Prop),Q (.int (g i) s.toks) { s with toks:=s.toks+1 }->wpAny (model X.prog X.w) X.A (f (.int i t)) Q E s) :
 UnR X f (rU λi=>.int (g i)):=by
 intro pins s σ H x v Q I rx h;obtain⟨i,rfl,q⟩:=h;obtain⟨t,rfl⟩:=rx;exact rule i t s _ _ ⟨.int (g i),H,I.tok _,⟨_,rfl⟩,q⟩
theorem bJ:UnR X (unaryOp .USub) (rU λi=>.int (-i)):=unI λ_ _ _ _ _ q=>neg_int q
end
section
variable {X:Cx}{a b c:Expr}{ta tb tc:TE}{pos:Pos}
theorem Ka{pins:List (Addr×Obj)}{σ:St}{H:Hp}{s:Shared}{Q:VK}{k k':Bool}(I:Inv X pins σ H s)(q:Q (.bl k) H)(e:k=k'):EP X pins σ Q (.bool k') s:=by subst e;exact⟨.bl k,H,I,rfl,q⟩
theorem dH:OpR X (compareOp .Lt) (rI0 λi j=>.bl (decide (i<j))):=j2 λ_ _ _ _ _ _ _ q=>lt_int q
theorem FG:OpR X (compareOp .LtE) (rI0 λi j=>.bl (decide (i<=j))):=j2 λ_ _ _ _ _ _ _ q=>le_int q
theorem fJ:OpR X (compareOp .Gt) (rI0 λi j=>.bl (decide (j<i))):=j2 λ_ _ _ _ _ _ _ q=>gt_int q
theorem y8:OpR X (compareOp .GtE) (rI0 λi j=>.bl (decide (j<=i))):=j2 λ_ _ _ _ _ _ _ q=>ge_int q
theorem y7:OpR X (compareOp .Is) (λx y H Q=>y=.non/\Q (.bl (decide (x=.non))) H):=by
 intro pins s σ H x y v u Q I rx ry h;obtain⟨rfl,q⟩:=h;cases ry;refine is_none_gen (Ka I q ?_)
 cases x<;>first
  | (cases rx;rfl)
  | (obtain⟨t,rfl⟩:=rx;rfl)
theorem OpR.or{f:Value->Value->Sem Value}{r r':R2}(h:OpR X f r)(h':OpR X f r'):OpR X f (λx y H Q=>r x y H Q\/r' x y H Q):=by
 intro pins s σ H x y v u Q I rx ry q;rcases q with q |q
 ·exact h pins s σ H x y v u Q I rx ry q
 ·exact h' pins s σ H x y v u Q I rx ry q
theorem aG(b:Expr){op:CmpOp}(h:op≠.In:=by decide)(h2:op≠.NotIn:=by decide):behindInMarks op b=false:=by
 have e1:(op == CmpOp.In)=false:=by cases op<;>first |rfl |exact absurd rfl h
 have e2:(op == CmpOp.NotIn)=false:=by cases op<;>first |rfl |exact absurd rfl h2
 cases b<;>simp[behindInMarks,e1,e2]
theorem sR{op:CmpOp}{r:R2}(ho:OpR X (compareOp op) r)(ha:PE X a ta)(hb:PE X b tb)(hm:behindInMarks op b=false):PE X (.Compare a [op] [b] pos) (tOp r ta tb):=by intro pins s σ H Q I h;exact wpAny_Compare1 (vf ha hb I h λv u s2 x y H2 I2 rx ry q=>ho pins s2 σ H2 x y v u Q I2 rx ry q) hm
def CZ(t:TE):TT:=λσ H Q=>t σ H λx H'=>∃k,x=.bl k/\Q k H'
theorem aH{op:CmpOp}{r:R2}(ho:OpR X (compareOp op) r)(ha:PE X a ta)(hb:PE X b tb)(hm:behindInMarks op b=false):PT X (.Compare a [op] [b] pos) (CZ (tOp r ta tb)):=by
 intro pins s σ H Q I h
 refine wpAny_isTrue_Compare1 (thn (ha pins s σ H _ I h) λv s1 ⟨x,H1,I1,r1,q1⟩=>thn (hb pins s1 σ H1 _ I1 q1) λu s2 ⟨y,H2,I2,r2,q2⟩ =>thn (ho pins s2 σ H2 x y v u _ I2 r1 r2 q2) λc s3 ⟨z,H3,I3,r3,k,e,q3⟩=>?_) hm
 subst e;cases r3;exact wpAny_truthy_bool ⟨H3,I3,q3⟩
noncomputable def Cc(K:PySem.W.Frag)(x:V)(H:Hp)(k:Bool):Prop :=
 match x with
 |.non=>k=false
 |.bl b=>k=b
 |.int i=>k=(i != 0)
 |.str y=>y.length<=sizeLine/\k=((y.length:Int) != 0)
 |.byt y=>y.size<=sizeLine/\k=((y.size:Int) != 0)
 |.ref p=>(∃xs,SqL K H p xs/\k=!xs.isEmpty)\/(∃xs,SqT K H p xs/\k=!xs.isEmpty)\/∃kvs,H p=some (.dK kvs)/\k=!kvs.isEmpty
 |_=>False
theorem JC{κ:Type}{kvs:List (κ×V)}{vs:List (κ×Value)}(r:KV kvs vs):(!vs.isEmpty)=!kvs.isEmpty:=by cases r<;>rfl
theorem Ao{xs:List V}{its:List Value}(r:Vals xs its):(!its.toArray.isEmpty)=!xs.isEmpty:=by cases r<;>simp
theorem ml:(sizeLine:Nat)<2^63:=by rw[sizeLine_eq];decide
theorem CH:Mh X (λx H Q=>∃k,Cc X.K x H k/\Q k H):=by
 intro pins s σ H x v Q I rx h;obtain⟨k,e,q⟩:=h;have hl:=ml;have hs:sizeLine=16777216:=sizeLine_eq;cases x with
 |non =>cases rx;have e':k=false:=e;subst e';exact truthy_none ⟨H,I,q⟩
 |bl b =>cases rx;have e':k=b:=e;subst e';exact wpAny_truthy_bool ⟨H,I,q⟩
 |int i =>obtain⟨t,rfl⟩:=rx;have e':k=(i != 0):=e;subst e';exact PySem.P.truthy_int ⟨H,I,q⟩
 |str y =>obtain⟨t,rfl⟩:=rx;obtain⟨hy,e'⟩:y.length<=sizeLine/\k=((y.length:Int) != 0):=e;subst e';exact PySem.P.truthy_str (by omega) ⟨H,I.tok _,q⟩
 |byt y =>obtain⟨t,rfl⟩:=rx;obtain⟨hy,e'⟩:y.size<=sizeLine/\k=((y.size:Int) != 0):=e;subst e';exact PySem.W.truthy_bytes (by omega) ⟨H,I.tok _,q⟩
 |ref p =>
  cases rx;have e':(∃xs,SqL X.K H p xs/\k=!xs.isEmpty)\/(∃xs,SqT X.K H p xs/\k=!xs.isEmpty)\/∃kvs,H p=some (.dK kvs)/\k=!kvs.isEmpty:=e;rcases e' with⟨xs,hx,e'⟩ |⟨xs,hx,e'⟩ |⟨kvs,hx,e'⟩
  ·subst e';obtain⟨its,r,pl,hz⟩:=I.list hx;have hlen:=r.length;exact wpAny_truthy_list pl.isList (by simp only[Qn];omega) ⟨H,I.tok _,by rw[Ao r];exact q⟩
  ·subst e';obtain⟨its,r,pl,hz⟩:=I.tuple hx;have hlen:=r.length;exact truthy_tuple pl (by simp only[Qn];omega) ⟨H,I.tok _,by rw[Ao r];exact q⟩
  ·subst e';obtain⟨hz,hS,vs,r,m⟩:kvs.length<=sizeLine/\(p == sysModules)=false/\∃vs,KV kvs vs/\s.heap.DictOf (tE X.prog X.w) p vs:=I.hok p _ hx;have hlen:kvs.length=vs.length:=Paired.length r;exact wpAny_truthy_dict hS m (by omega) ⟨H,I.tok _,by rw[JC r];exact q⟩
 |_=>exact(show False from e).elim
theorem E8(ha:PE X a ta)(he:∀whole,isTrue a X.env whole=(do let v <- whole;standAt a.pos;holding [v] (truthy v))) :
 PT X a (λσ H Q=>ta σ H λx H'=>∃k,Cc X.K x H' k/\Q k H'):=by
 intro pins s σ H Q I h;exact isTrue_plain (thn (ha pins s σ H _ I h) λv s1 ⟨x,H1,I1,r1,q1⟩=>CH pins s1 σ H1 x v Q I1 r1 q1) (he _)
theorem gU{x:V}{us:List Value}(r:Vals [x] us):∃u,us=[u]/\RelV x u:=by
 cases r with
 |cons r1 r2=>cases r2;exact⟨_,rfl,r1⟩
theorem Cs{x y:V}{us:List Value}(r:Vals [x,y] us):∃u w',us=[u,w']/\RelV x u/\RelV y w':=by
 cases r with
 |cons r1 r2 =>
  cases r2 with
  |cons r3 r4=>cases r4;exact⟨_,_,rfl,r1,r3⟩
theorem fv:CallR X (.builtin "abs") (λxs H Q=>∃i,xs=[.int i]/\Q (.int (if i<0 then -i else i)) H):=by intro pins s σ H xs us Q I r h;obtain⟨i,rfl,q⟩:=h;obtain⟨u,rfl,t,rfl⟩:=gU r;exact call_abs_int λu tk=>⟨.int (if i<0 then -i else i),H,I.tok _,⟨_,rfl⟩,q⟩
theorem BO(hc:X.calm=true):CallR X (.builtin "max") (λxs H Q=>∃i j,xs=[.int i,.int j]/\Q (.int (if j>i then j else i)) H):=by
 intro pins s σ H xs us Q I r h;obtain⟨i,j,rfl,q⟩:=h;obtain⟨u,w',rfl,⟨t,rfl⟩,⟨t',rfl⟩⟩:=Cs r;refine max_two_ints (I.ok.hd hc) λh' tk k=>⟨_,H,I.kept k,?_,q⟩
 by_cases hj:j>i
 ·rw[if_pos hj,if_pos hj];exact⟨_,rfl⟩
 ·rw[if_neg hj,if_neg hj];exact⟨_,rfl⟩
theorem Lo:CallR X (.type "int") (λxs H Q=>(∃i,xs=[.int i]/\Q (.int i) H)\/∃k,xs=[.bl k]/\Q (.int (if k then 1 else 0)) H):=by
 intro pins s σ H xs us Q I r h;rcases h with⟨i,rfl,q⟩ |⟨k,rfl,q⟩
 ·obtain⟨u,rfl,t,rfl⟩:=gU r;exact call_int_int ⟨.int i,H,I,⟨_,rfl⟩,q⟩
 ·obtain⟨u,rfl,r1⟩:=gU r;cases r1;exact call_int_bool ⟨.int (if k then 1 else 0),H,I.tok _,⟨_,rfl⟩,q⟩
end
structure ObjM(h:Heap)(x dx C:Addr)(mA:Str->Option Value):Prop where
 obj:h.get? x=some (PySem.W.instObj C dx)
 ns:h.Ns1 dx mA
 ne:dx≠x
theorem IB{h:Heap}{dx:Addr}{mA:Str->Option Value}(n:h.Ns1 dx mA):∃od,h.get? dx=some od/\∀name,PySem.W.lookIn name od=some (mA name):=by
 obtain⟨o,es,ep,ho,hd,hk,_,hm⟩:=n;refine⟨o,ho,λname=>?_⟩;have e:=hm name;unfold nsFind findBy at e
 rw[<- Array.find?_toList]at e;unfold PySem.W.lookIn;rw[hd];dsimp only
 split
 ·rename_i y q
  rw[q]at e;exact congrArg some e
 ·rename_i q
  rw[q]at e
  have a:es.toList.any (·.refKey)=false:=by rw[List.any_eq_false];intro y hy;obtain⟨z,t,hkey⟩:=hk y (Array.mem_toList_iff.mp hy);simp[DictEntry.refKey,hkey]
  have a':¬es.toList.any (·.refKey)=true:=by rw[a];exact Ry
  rw[if_neg a'];exact congrArg some e
theorem ObjM.look{h:Heap}{x dx C:Addr}{mA:Str->Option Value}(I:ObjM h x dx C mA):∃od,PySem.W.InstAt h x (PySem.W.instObj C dx) C (some od)/\∀name,PySem.W.lookIn name od=some (mA name) :=
 let⟨od,ho,hl⟩:=IB I.ns
 ⟨od,⟨I.obj,rfl,rfl,ho⟩,hl⟩
section
variable {prog:Program}{w:World}{A:Around}{E:Value->Shared->Prop}{s:Shared}{K:PySem.W.Frag}{x dx C f:Addr}{mA:Str->Option Value}{name:Str}{v:Value}
theorem JZ{expr:Bool}{Q:Value->Shared->Prop}(X:K.In s.heap)(I:ObjM s.heap x dx C mA)(hg:PySem.W.plainGet K C name=true)(hh:PySem.W.hasDictIn K C=true)
 (ha:PySem.W.findIn K (.ref C) name=some none) (hv:mA name=some v) (hv':PySem.W.handedIn v=true) (h:Q v { s with toks:=s.toks+1 }) :
 wpAny (model prog w) A (getAttr (.ref x) name expr) Q E s:=by
 obtain⟨od,J,hl⟩:=I.look;exact PySem.W.get_value X J (PySem.W.plainGet_of hg).1 (PySem.W.findObj_own hh ha rfl (by rw[hl,hv])) hv' h
theorem JY{pl:Sem Bool}{Q:Value×List Value->Shared->Prop}(X:K.In s.heap)(I:ObjM s.heap x dx C mA)(hg:PySem.W.plainGet K C name=true)
 (hf:PySem.W.findIn K (.ref C) name=some (some (.ref f))) (ht:PySem.W.isFn K (.ref f)=true) (hv:mA name=none) (h:Q (.ref f,[.ref x]) s) :
 wpAny (model prog w) A (getMethod (.ref x) name pl) Q E s:=by
 obtain⟨od,J,hl⟩:=I.look;exact PySem.W.method_fn X J (PySem.W.plainGet_of hg).1 (PySem.W.plainGet_of hg).2 hf (beq_iff_eq.mp ht) (by show(PySem.W.lookIn name od).map (·.isSome)=some false;rw[hl,hv];rfl) h
theorem qw{ns:List Str}{Q:Unit->Shared->Prop}(X:K.In s.heap)(I:ObjM s.heap x dx C mA)
 (hs:PySem.W.findIn K (.ref C) "__setattr__"=some (some (.builtin "object.__setattr__"))) (hp:PySem.W.plainOver K C=true) (ht:PySem.W.takerIn K C name=some none) (hh:PySem.W.hasDictIn K C=true)
 (hw:PySem.Within mA ns) (hsz:ns.length<=sizeLine)
 (h:∀h',ObjM h' x dx C (λy=>if y=name then some v else mA y)->Heap.SameBut dx s.heap h'->Q () { s with heap:=h',toks:=s.toks+2 }) :
 wpAny (model prog w) A (setAttr (.ref x) name v) Q E s:=by
 obtain⟨od,J,hl⟩:=I.look;refine PySem.W.set_plain X J hs (PySem.W.osa_open (s:={ s with toks:=s.toks+1 }) (r:=none) X J hp ht λb=>?_);obtain⟨cd,hc,hd'⟩:=PySem.W.any_some hh;have hx:s.heap.get? x=some ⟨.ref C,some dx,.plain,#[]⟩:=I.obj;refine wpAny_bind (wpAny_pure (wpAny_bind (wpAny_bind (wpAny_loadPart hx (wpAny_bind (PySem.W.Looks.here (s:={ s with toks:=s.toks+1 }) (PySem.W.looks_clsIn X hc) ?_))))));rw[hd'];refine wpAny_pure (a:=some dx) (wpAny_bind (wpAny_pure (wpAny_bind ?_)));refine wpAny_nsSet1 (s:={ s with toks:=s.toks+1 }) I.ns λh' hn2 hs2=>?_
 obtain⟨oD,esD,epD,hoD,hdD,hcD⟩:=hn2.count (PySem.Within.cons name v hw);refine wpAny_bind (wpAny_lookBehind hoD (by rw[hdD];exact pastItsLine_dict (PX hcD (by rw[Qw];omega))) ?_);exact wpAny_pure (h _ ⟨(hs2.2 _ (Ne.symm I.ne)).trans I.obj,hn2,I.ne⟩ hs2)
theorem HG{R:Result->Shared->Prop}{vs:List Value}{kw:List (Str×Value)}(X:K.In s.heap)(hm:PySem.W.makesIn K C=true)
 (hi:PySem.W.findIn K (.ref C) "__init__"=some (some (.ref f))) (hf:PySem.W.typeIn K (.ref f)=some (.type "function"))
 (h:codeAny (model prog w) (A.under (.builtin "type.__call__" ⟨.ref C::vs,kw⟩)) (.call (.ref f) ⟨.ref (s.heap.objs.size+1)::vs,kw⟩) (PySem.W.InitBack (s.heap.objs.size+1) R)
   { s with heap:=(s.heap.push PySem.W.emptyDict).push (PySem.W.instObj C s.heap.objs.size) }) :
 codeAny (model prog w) A (.call (.ref C) ⟨vs,kw⟩) R s:=by
 obtain⟨hh,g,d,t,os⟩:=s;exact PySem.W.make_core (PySem.W.makes_of X hm) (PySem.W.looks_findIn X hi) (λself=>PySem.W.bind_fn X self hf) (.inl rfl) h
end
noncomputable def cQ(f:Str)(v:V):List (Str×V)->List (Str×V)
 | []=>[(f,v)]
 | (g,x)::r=>if g=f then(g,v)::r else(g,x)::cQ f v r
theorem eD(f g:Str)(v:V):∀fs:List (Str×V),(cQ f v fs).lookup g=if g=f then some v else fs.lookup g
 | []=>by
  show List.lookup g [(f,v)]=_;by_cases h:g=f
  ·have hb:(g == f)=true:=beq_iff_eq.mpr h;simp only[List.lookup,hb,if_pos h]
  ·have hb:(g == f)=false:=beq_eq_false_iff_ne.mpr h;simp only[List.lookup,hb,if_neg h]
 | (k,x)::r=>by
  have ih:=eD f g v r;rw[show cQ f v ((k,x)::r)=(if k=f then(k,v)::r else(k,x)::cQ f v r)from rfl];by_cases hk:k=f
  ·rw[if_pos hk];by_cases h:g=k
   ·have hb:(g == k)=true:=beq_iff_eq.mpr h;simp only[List.lookup,hb,if_pos (h.trans hk)]
   ·have hb:(g == k)=false:=beq_eq_false_iff_ne.mpr h;simp only[List.lookup,hb,if_neg (λe:g=f=>h (e.trans hk.symm))]
  ·rw[if_neg hk];by_cases h:g=k
   ·have hb:(g == k)=true:=beq_iff_eq.mpr h;simp only[List.lookup,hb,if_neg (λe:g=f=>hk (h.symm.trans e))]
   ·have hb:(g == k)=false:=beq_eq_false_iff_ne.mpr h;simp only[List.lookup,hb];exact ih
theorem tT(f:Str)(v:V):∀fs:List (Str×V),f∈(cQ f v fs).map (·.1)/\∀g,g∈fs.map (·.1)->g∈(cQ f v fs).map (·.1)
 | []=>⟨by simp[cQ],λg h=>by simp at h⟩
 | (k,x)::r=>by
  obtain⟨i1,i2⟩:=tT f v r;rw[show cQ f v ((k,x)::r)=(if k=f then(k,v)::r else(k,x)::cQ f v r)from rfl];by_cases hk:k=f
  ·rw[if_pos hk];subst hk;exact⟨by simp,λg h=>by simpa using h⟩
  ·rw[if_neg hk];refine⟨?_,λg h=>?_⟩
   ·rw[QG];exact PP _ i1
   ·rw[QG]at h ⊢;rcases PM.mp h with e |e
    ·exact PM.mpr (.inl e)
    ·exact PP _ (i2 g e)
theorem zW(f:Str)(v:V):∀fs:List (Str×V),(cQ f v fs).length<=fs.length+1
 | []=>by simp[cQ]
 | (k,x)::r=>by
  have ih:=zW f v r;rw[show cQ f v ((k,x)::r)=(if k=f then(k,v)::r else(k,x)::cQ f v r)from rfl];by_cases hk:k=f
  ·rw[if_pos hk,Qw,Qw];omega
  ·rw[if_neg hk,Qw,Qw];omega
theorem RelO.some_of{v:V}{o:Option Value}(r:RelO (some v) o):∃u,o=some u/\RelV v u:=by
 cases o with
 |none=>exact(show False from r).elim
 |some u=>exact⟨u,rfl,r⟩
theorem RelO.none_of{o:Option Value}(r:RelO none o):o=none:=by
 cases o with
 |none=>rfl
 |some u=>exact(show False from r).elim
theorem JQ{v:V}{u:Value}(r:RelV v u):PySem.W.handedIn u=true:=by
 cases v with
 |non=>cases(show u=Value.none from r);rfl
 |bl b=>cases(show u=Value.bool b from r);rfl
 |int i=>obtain⟨t,e⟩:=(show ∃t,u=Value.int i t from r);cases e;rfl
 |str x=>obtain⟨t,e⟩:=(show ∃t,u=Value.str x t from r);cases e;rfl
 |byt b=>obtain⟨t,e⟩:=(show ∃t,u=Value.bytes b t from r);cases e;rfl
 |flt b=>obtain⟨t,e⟩:=(show ∃t,u=Value.float b t from r);cases e;rfl
 |ref a=>cases(show u=Value.ref a from r);rfl
 |ty n=>cases(show u=Value.type n from r);rfl
section
variable {P:Program}{w:World}{H H':Hp}{h h':Heap}{a C dx:Addr}{fs fs':List (Str×V)}
theorem oU(hok:HOk P w H h)(e:H a=some (.ins C dx fs)):∃mA,ObjM h a dx C mA/\(∀f,RelO (fs.lookup f) (mA f))/\PySem.Within mA (fs.map (·.1))/\fs.length<=1000/\H dx=some (.own a):=by obtain⟨d,z,ne,ob,mA,n,r,q⟩:=(show ObjOk P w H h a (.ins C dx fs)from hok a _ e);exact⟨mA,⟨ob,n,ne⟩,r,q,z,d⟩
end
structure Cls(K:PySem.W.Frag)(C:Addr):Prop where
 pg:PySem.W.plainGet K C Str.empty=true
 hd:PySem.W.hasDictIn K C=true
 po:PySem.W.plainOver K C=true
 sa:PySem.W.findIn K (.ref C) "__setattr__"=some (some (.builtin "object.__setattr__"))
theorem Cls.get{K:PySem.W.Frag}{C:Addr}(c:Cls K C)(f:Str):PySem.W.plainGet K C f=true:=c.pg
def NoAttr(K:PySem.W.Frag)(C:Addr)(f:Str):Prop:=PySem.W.findIn K (.ref C) f=some none
theorem NoAttr.taker{K:PySem.W.Frag}{C:Addr}{f:Str}(n:NoAttr K C f):PySem.W.takerIn K C f=some none:=by unfold PySem.W.takerIn;rw[show PySem.W.findIn K (.ref C) f=some none from n];rfl
structure Meth(K:PySem.W.Frag)(C:Addr)(m:Str)(f:Addr):Prop where
 at_:PySem.W.findIn K (.ref C) m=some (some (.ref f))
 fn:PySem.W.isFn K (.ref f)=true
 kp:PySem.W.keepIn K (.ref f)=true
section
variable {X:Cx}{pins:List (Addr×Obj)}{σ:St}{H:Hp}{s:Shared}{a C dx:Addr}{fs:List (Str×V)}{f:Str}{v:V}{A:Around}{E:Value->Shared->Prop}
theorem JX{b:Bool}{Q:Value->Shared->Prop}(I:Inv X pins σ H s)(e:H a=some (.ins C dx fs))(c:Cls X.K C)(n:NoAttr X.K C f)(l:fs.lookup f=some v)
 (h:∀u s',Inv X pins σ H s'->RelV v u->Q u s'):wpAny (model X.prog X.w) A (getAttr (.ref a) f b) Q E s:=by
 obtain⟨mA,O,r,_,_,_⟩:=oU I.hok e;obtain⟨u,hu,ru⟩:=RelO.some_of (v:=v) (o:=mA f) (by rw[<- l];exact r f);exact JZ I.kIn O (c.get f) c.hd n hu (JQ ru) (h u _ (I.tok _) ru)
theorem AF{m:Str}{g:Addr}{pl:Sem Bool}{Q:Value×List Value->Shared->Prop}(I:Inv X pins σ H s)(e:H a=some (.ins C dx fs))(c:Cls X.K C)(k:Meth X.K C m g)(l:fs.lookup m=none)
 (h:Q (.ref g,[.ref a]) s):wpAny (model X.prog X.w) A (getMethod (.ref a) m pl) Q E s:=by
 obtain⟨mA,O,r,_,_,_⟩:=oU I.hok e;have hn:mA m=none:=RelO.none_of (by rw[<- l];exact r m);exact JY I.kIn O (c.get m) k.at_ k.fn hn h
theorem DQ{y:V}{u:Value}{Q:Unit->Shared->Prop}(I:Inv X pins σ H s)(e:H a=some (.ins C dx fs))(c:Cls X.K C)(n:NoAttr X.K C f)(hl:fs.length<1000)(ry:RelV y u)
 (h:∀s',Inv X pins σ (upd H a (.ins C dx (cQ f y fs))) s'->Q () s'):wpAny (model X.prog X.w) A (setAttr (.ref a) f u) Q E s:=by
 obtain⟨mA,O,r,wi,_,ho⟩:=oU I.hok e;have hz:(fs.map (·.1)).length<=sizeLine:=by rw[PC,sizeLine_eq];omega
 refine qw I.kIn O c.sa c.po n.taker c.hd wi hz λh' O' sb=>h _ ?_
 have hd:∃o,h'.get? dx=some o:=let⟨o,_,_,e',_⟩:=O'.ns;⟨o,e'⟩;refine I.write (x:=a) (e:=dx) (by rw[e];exact True.intro) (.inr ho) (λb q hb z=>(sb.2 b hb).trans z) hd ?_;refine⟨by rw[upd_ne O.ne];exact ho,?_,O.ne,O'.obj,_,O'.ns,λg=>?_,λg hg=>?_⟩
 ·have:=zW f y fs;omega
 ·show RelO ((cQ f y fs).lookup g) (if g=f then some u else mA g);rw[eD];by_cases q:g=f
  ·rw[if_pos q,if_pos q];exact ry
  ·rw[if_neg q,if_neg q];exact r g
 ·by_cases q:g=f
  ·rw[q];exact(tT f y fs).1
  ·refine(tT f y fs).2 g (wi g λz=>hg ?_);show(if g=f then some u else mA g)=none;rw[if_neg q];exact z
theorem Inv.made(I:Inv X pins σ H s):Inv X pins σ (upd (upd H s.heap.objs.size (.own (s.heap.objs.size+1))) (s.heap.objs.size+1) (.ins C s.heap.objs.size []))
 { s with heap:=(s.heap.push PySem.W.emptyDict).push (PySem.W.instObj C s.heap.objs.size) }:=by
 have e1:(s.heap.push PySem.W.emptyDict).get? s.heap.objs.size=some PySem.W.emptyDict:=Heap.get?_push_size s.heap rfl
 have e2:((s.heap.push PySem.W.emptyDict).push (PySem.W.instObj C s.heap.objs.size)).get? (s.heap.objs.size+1)=some (PySem.W.instObj C s.heap.objs.size):=by
  have:=Heap.get?_push_size (s.heap.push PySem.W.emptyDict) (o:=PySem.W.instObj C s.heap.objs.size) rfl
  rwa [Heap.size_push]at this
 have e3:(s.heap.push PySem.W.emptyDict).Ns s.heap.objs.size (λ_=>none):=⟨PySem.W.emptyDict,#[],_,e1,rfl,(λe he=>absurd he (by simp)),λ_=>rfl⟩;have I1:=I.laid (a:=s.heap.objs.size) (o:=.own (s.heap.objs.size+1)) (h':=s.heap.push PySem.W.emptyDict) (t':=s.toks) (λb u q=>Heap.get?_push_of_some _ q) (PF _) ⟨_,e1⟩;refine I1.laid (a:=s.heap.objs.size+1) (o:=.ins C s.heap.objs.size []) (t':=s.toks) (λb u q=>Heap.get?_push_of_some _ q) (Rj (Heap.size_push _ _)) ?_;have ne:s.heap.objs.size≠s.heap.objs.size+1:=Qj (Q1 _);refine⟨by rw[upd_ne ne,au],PK _,ne,e2,λ_=>none,(Heap.Ns1.of_empty e3).at λo q=>Heap.get?_push_of_some _ q,λ_=>True.intro,λy hy=>absurd rfl hy⟩
theorem L9{prog:Program}{w:World}{env:Env}{e:Expr}{f:Str}{pos:Pos}{s:Shared}{Q:Value->Shared->Prop}(hb:attributeBase e f env (eval e env)=eval e env)
 (h:wpAny (model prog w) A (eval e env) (λo s₁=>wpAny (model prog w) A (getAttr o f true) Q E s₁) E s):wpAny (model prog w) A (eval (.Attribute e f pos) env) Q E s :=
 Attribute_any_ h (by rw[arm_eval_Attribute,hb])
end
def wB(K:PySem.W.Frag)(ta:TE)(f:Str):TE:=λσ H Q=>ta σ H λx H1=>∃a C dx fs v,x=.ref a/\H1 a=some (.ins C dx fs)/\Cls K C/\NoAttr K C f/\fs.lookup f=some v/\Q v H1
def Em(K:PySem.W.Frag)(ta tv:TE)(f:Str):TS:=λD σ H=>tv σ H λy H1=>ta σ H1 λx H2=>∃a C dx fs,x=.ref a/\H2 a=some (.ins C dx fs)/\Cls K C/\NoAttr K C f/\fs.length<1000 /\
 D.nx σ (upd H2 a (.ins C dx (cQ f y fs)))
section
variable {X:Cx}{o e value:Expr}{f:Str}{pos pos' tpos:Pos}{ta tv:TE}
theorem FA(he:PE X e ta)(hb:attributeBase e f X.env (eval e X.env)=eval e X.env):PE X (.Attribute e f pos) (wB X.K ta f):=by intro pins s σ H Q I h;refine L9 hb (thn (he pins s σ H _ I h) λu s1 ⟨x,H1,I1,rx,a,C,dx,fs,v,ex,ea,c,n,l,q⟩=>?_);subst ex;obtain rfl:u=Value.ref a:=rx;exact JX I1 ea c n l λu' s2 I2 ru=>⟨v,H1,I2,ru,q⟩
theorem lH(ha:PE X o ta)(hv:PE X value tv)(hs:swapsWith value (some (.Attribute o f pos')) pos.line X.env=pure false):PS X (.Assign [.Attribute o f pos'] value pos) (Em X.K ta tv f):=by intro pins s σ H D I h;refine plainObj_wpAny_Assign_Attribute (thn (hv pins s σ H _ I h) λu s1 ⟨y,H1,I1,ry,q⟩=>thn (ha pins s1 σ H1 _ I1 q) λov s2 ⟨x,H2,I2,rx,a,C,dx,fs,ex,ea,c,n,l,q2⟩=>?_) hs;subst ex;obtain rfl:ov=Value.ref a:=rx;exact DQ I2 ea c n l ry λs3 I3=>⟨σ,_,I3,q2⟩
end
section
variable {X:Cx}{pins:List (Addr×Obj)}{σ:St}{H:Hp}{s:Shared}{A:Around}{E:Value->Shared->Prop}{Q:Value->Shared->Prop}{c:Value}{b:Bool}
inductive TyOf(K:PySem.W.Frag)(H:Hp):V->Value->Prop where
 |non:TyOf K H .non (.type "NoneType")
 |bl (x:Bool):TyOf K H (.bl x) (.type "bool")
 |int (i:Int):TyOf K H (.int i) (.type "int")
 |str (x:Str):TyOf K H (.str x) (.type "str")
 |flt (x:UInt64):TyOf K H (.flt x) (.type "float")
 |lst {a:Addr} {xs:List V} (e:H a=some (.lst xs)):TyOf K H (.ref a) (.type "list")
 |frz {a:Addr} {o:Obj} {xs:List V} (e:H a=some (.frz o (.lst xs))):TyOf K H (.ref a) (.type "list")
 |tup {a:Addr} {xs:List V} (e:H a=some (.tup xs)):TyOf K H (.ref a) (.type "tuple")
 |dK {a:Addr} {kvs:List (Key×V)} (e:H a=some (.dK kvs)):TyOf K H (.ref a) (.type "dict")
 |dT {a:Addr} {kvs:List (List Key×V)} (e:H a=some (.dT kvs)):TyOf K H (.ref a) (.type "dict")
 |ins {a C dx:Addr} {fs:List (Str×V)} (e:H a=some (.ins C dx fs)) (cl:Cls K C) (ha:PySem.W.findIn K (.ref C) "__class__"=some (some (.builtin "object.__class__")))
  (hn:PySem.W.specialIn K (.builtin "object.__class__") "__get__"=some (some (.builtin "getset_descriptor.__get__"))) (htk:PySem.W.takesIn K (.builtin "object.__class__")=some true)
  (hm:PySem.W.mroIn K C (.type "object")=some true):TyOf K H (.ref a) (.ref C)
theorem JB{x:V}{u t:Value}(I:Inv X pins σ H s)(rx:RelV x u)(ty:TyOf X.K H x t)(e:PySem.W.kitOne X.K t c=some b)(h:∀tk,Q (.bool b) { s with toks:=tk }) :
 wpAny (model X.prog X.w) A (call (.builtin "isinstance") [u,c]) Q E s:=by
 cases ty with
 |non=>cases(show u=Value.none from rx);exact PySem.W.kia_one PySem.W.kitx_none I.kIn True.intro e (λz=>nomatch z) h
 |bl y=>cases(show u=Value.bool y from rx);exact PySem.W.kia_one PySem.W.kitx_bool I.kIn True.intro e (λz=>nomatch z) h
 |int i=>obtain⟨t,q⟩:=(show ∃t,u=Value.int i t from rx);cases q;exact PySem.W.kia_one PySem.W.kitx_int I.kIn True.intro e (λz=>nomatch z) h
 |str y=>obtain⟨t,q⟩:=(show ∃t,u=Value.str y t from rx);cases q;exact PySem.W.kia_one PySem.W.kitx_str I.kIn True.intro e (λz=>nomatch z) h
 |flt y=>obtain⟨t,q⟩:=(show ∃t,u=Value.float y t from rx);cases q;exact PySem.W.kia_one PySem.W.kitx_float I.kIn True.intro e (λz=>nomatch z) h
 | @lst a xs ea =>cases(show u=Value.ref a from rx);obtain⟨_,_,n,_,h1⟩:=(show ObjOk X.prog X.w H s.heap a (.lst xs)from I.hok a _ ea);exact PySem.W.kia_one PySem.W.kitx_list I.kIn ⟨_,h1,rfl⟩ e (λz=>nomatch z) h
 | @frz a ob xs ea =>cases(show u=Value.ref a from rx);obtain⟨_,_,_,n,_,h1⟩:=(show ObjOk X.prog X.w H s.heap a (.frz ob (.lst xs))from I.hok a _ ea);exact PySem.W.kia_one PySem.W.kitx_list I.kIn ⟨_,h1,rfl⟩ e (λz=>nomatch z) h
 | @tup a xs ea =>cases(show u=Value.ref a from rx);obtain⟨_,_,_,p⟩:=(show ObjOk X.prog X.w H s.heap a (.tup xs)from I.hok a _ ea);obtain⟨o,h1,h2,_⟩:=p;exact PySem.W.kia_one PySem.W.kitx_tuple I.kIn ⟨o,h1,h2⟩ e (λz=>nomatch z) h
 | @dK a kvs ea =>cases(show u=Value.ref a from rx);obtain⟨_,_,vs,_,p⟩:=(show ObjOk X.prog X.w H s.heap a (.dK kvs)from I.hok a _ ea);obtain⟨o,es,ep,h1,h2,_⟩:=p;exact PySem.W.kia_one PySem.W.kitx_dict I.kIn ⟨o,h1,h2.1⟩ e (λz=>nomatch z) h
 | @dT a kvs ea =>cases(show u=Value.ref a from rx);obtain⟨_,_,xs,_,o,es,ep,h1,h2,_⟩:=(show ObjOk X.prog X.w H s.heap a (.dT kvs)from I.hok a _ ea);exact PySem.W.kia_one PySem.W.kitx_dict I.kIn ⟨o,h1,h2.1⟩ e (λz=>nomatch z) h
 | @ins a C dx fs ea cl ha hn htk hm =>cases(show u=Value.ref a from rx);obtain⟨mA,O,_⟩:=oU I.hok ea;obtain⟨od,J,_⟩:=O.look;exact PySem.W.kia_one (PySem.W.kitx_own (cl.get _) cl.hd ha hn htk hm) I.kIn J e (λz=>nomatch z) h
end
structure Room(k:Nat)(A:Around):Prop where
 hd:A.handled=none
 dp:A.depth+3*k+5<recursionLimit
 un:A.units+16*k+200<cLine
theorem Room.mono{j k:Nat}{A:Around}(r:Room k A)(h:j<=k:=by decide):Room j A:=⟨r.hd,by have:=r.dp;omega,by have:=r.un;omega⟩
theorem Room.deeper{k:Nat}{A:Around}(r:Room (k+1) A)(env:Env):Room k (A.deeper env) :=
 ⟨r.hd,by have:=r.dp;show A.depth+1+3*k+5<_;omega,by have:=r.un;show A.units+3+16*k+200<_;omega⟩
theorem Room.in1{k:Nat}{A:Around}(r:Room (k+1) A):Room k A.in1 :=
 ⟨r.hd,by have:=r.dp;show A.depth+3*k+5<_;omega,by have:=r.un;show A.units+1+16*k+200<_;omega⟩
theorem HH{A:Around}{C:Addr}{us:List Value}{kw:List (Str×Value)}:(A.under (.builtin "type.__call__" ⟨.ref C::us,kw⟩)).depth=A.depth+1:=by first |rfl |simp[Around.under,Code.weight,Code.isCreation,Code.isGuard,Code.isCaller,Code.frames,Code.isFrame,guardIds]
theorem HF{A:Around}{C:Addr}{us:List Value}{kw:List (Str×Value)}:(A.under (.builtin "type.__call__" ⟨.ref C::us,kw⟩)).units=A.units+1:=by first |rfl |simp[Around.under,Code.cUnits,Code.frames,Code.isFrame]
theorem Room.make{k:Nat}{A:Around}(r:Room (k+1) A)(C:Addr)(us:List Value)(kw:List (Str×Value)):Room k (A.under (.builtin "type.__call__" ⟨.ref C::us,kw⟩)) :=
 ⟨r.hd,by have:=r.dp;rw[HH];omega,by have:=r.un;rw[HF];omega⟩
theorem Room.depth{k:Nat}{A:Around}(r:Room k A):A.depth<recursionLimit:=by have:=r.dp;omega
theorem Room.units{k:Nat}{A:Around}(r:Room k A):A.units+64<cLine:=by have:=r.un;omega
def pN:TA:=λ_ H Q=>Q [] H
def pO(ta:TE)(tr:TA):TA:=λσ H Q=>ta σ H λx H1=>tr σ H1 λxs H2=>Q (x::xs) H2
section
variable {X:Cx}{e:Expr}{es:List Expr}{te:TE}{t:TA}{pos:Pos}
theorem ac:PA X [] pN:=λ_ _ _ _ H Q I h=>Calls.spliced_nil ⟨[],H,I,.nil,h⟩
theorem aa(ha:PE X e te)(hr:PA X es t)(hs:starEach (e::es) X.env=(false,eval e X.env)::starEach es X.env:=by rfl):PA X (e::es) (pO te t):=by intro pos pins s σ H Q I h;rw[hs];show wpAny _ _ (spliced ((false,eval e X.env)::backTo pos (starEach es X.env))) _ _ s;refine Calls.spliced_cons (thn (ha pins s σ H _ I h) λu s1 ⟨x,H1,I1,r1,q1⟩=>?_);exact thn (hr pos pins s1 σ H1 _ I1 q1) λus s2 ⟨xs,H2,I2,r2,q2⟩=>⟨x::xs,H2,I2,.cons r1 r2,q2⟩
def CY(t:TA):TE:=λσ H Q=>t σ H λxs H1=>xs.length<=sizeLine/\∀p,H1 p=none->Q (.ref p) (upd H1 p (.tup xs))
def Dd(t:TA):TE:=λσ H Q=>t σ H λxs H1=>xs.length<=sizeLine/\∀p,H1 p=none->Q (.ref p) (upd H1 p (.lst xs))
theorem db{x1}(h:PA X es t):PE X (.Tuple es x1 pos) (CY t):=by intro pins s σ H Q I hq;refine wpAny_Tuple_spliced (thn (h pos pins s σ H _ I hq) λus s1 ⟨xs,H1,I1,r,z,q⟩=>⟨by rw[<- r.length];exact z,?_⟩);have hf:H1 s1.heap.objs.size=none:=I1.hok.fresh (PF _);refine⟨.ref s1.heap.objs.size,upd H1 s1.heap.objs.size (.tup xs),I1.laid (t':=s1.toks) (λb u e=>Heap.get?_push_of_some _ e) (PF _) ?_,rfl,q _ hf⟩;exact⟨z,us,r,⟨_,Heap.get?_push_size _ rfl,rfl,_,rfl⟩⟩
theorem aX(h:PA X es t):PE X (.List es pos) (Dd t):=by intro pins s σ H Q I hq;refine wpAny_List_spliced (thn (h pos pins s σ H _ I hq) λus s1 ⟨xs,H1,I1,r,z,q⟩=>⟨by rw[<- r.length];exact z,?_⟩);have hf:H1 s1.heap.objs.size=none:=I1.hok.fresh (PF _);refine⟨.ref s1.heap.objs.size,upd H1 s1.heap.objs.size (.lst xs),I1.laid (t':=s1.toks) (λb u e=>Heap.get?_push_of_some _ e) (PF _) ?_,rfl,q _ hf⟩;exact⟨z,us,0,r,Heap.get?_push_size _ rfl⟩
end
abbrev Sp:=List V->Hp->VK->XK->Prop
abbrev CXT:=List Env->Hp->Shared->XK->Value->Shared->Prop
structure Env0(P:Program)(w:World)(K:PySem.W.Frag)(mg:Str->Option Value)(base:Heap)(A:Around)(outer:List Env)(s:Shared)(H:Hp):Prop where
 frames:A.frames=some outer
 mod:Mod K mg base
 bs:∀b o,base.get? b=some o->s.heap.get? b=some o/\H b=none
 bsz:base.objs.size<=s.heap.objs.size
 funs:s.heap.FunFrames base outer
 frf:∀b∈frs outer,H b=none
 hok:HOk P w H s.heap
 bare:AllBare s.gens
noncomputable def CE(outer:List Env)(P:Program)(w:World)(H:Hp)(s:Shared)(Q:VK)(u:Value)(s':Shared):Prop :=
 ∃v H',s'.os=s.os/\AllBare s'.gens/\Un (frs outer) [] H H' s.heap s'.heap/\HOk P w H' s'.heap/\RelV v u/\Q v H'
noncomputable def CR(CX:CXT)(outer:List Env)(P:Program)(w:World)(H:Hp)(s:Shared)(Q:VK)(E:XK)(r:Result)(s':Shared):Prop :=
 match r with
 |.ok (.ret u)=>CE outer P w H s Q u s'
 |.ok _=>False
 |.error e=>CX outer H s E e s'
structure FnOk(P:Program)(w:World)(K:PySem.W.Frag)(mg:Str->Option Value)(base:Heap)(CX:CXT)(k:Nat)(f:Addr)(fd:FuncData)(ps:List Str)(sp:Sp):Prop where
 len:∀vs H Q E,sp vs H Q E->vs.length=ps.length
 run:∀(A:Around) (outer:List Env) (s:Shared) (H:Hp) (args:Args) (us:List Value) (vs:List V) (Q:VK) (E:XK),Room k A->Env0 P w K mg base A outer s H->BindsTo s fd args (ps.zip us)->Vals vs us->sp vs H Q E ->
  codeAny (model P w) A (.call (.ref f) args) (CR CX outer P w H s Q E) s
theorem FnOk.mono{P:Program}{w:World}{K:PySem.W.Frag}{mg:Str->Option Value}{base:Heap}{CX:CXT}{j k:Nat}{f:Addr}{fd:FuncData}{ps:List Str}{sp:Sp}(F:FnOk P w K mg base CX j f fd ps sp)(h:j<=k:=by decide) :
 FnOk P w K mg base CX k f fd ps sp:=⟨F.len,λA outer s H args us vs Q E hr=>F.run A outer s H args us vs Q E (hr.mono h)⟩
theorem Env0.make{P:Program}{w:World}{K:PySem.W.Frag}{mg:Str->Option Value}{base:Heap}{A:Around}{outer:List Env}{s:Shared}{H:Hp}(e:Env0 P w K mg base A outer s H)(C:Addr)(us:List Value)(kw:List (Str×Value)) :
 Env0 P w K mg base (A.under (.builtin "type.__call__" ⟨.ref C::us,kw⟩)) outer s H:=⟨by first |exact e.frames | (simpa[Around.under,Code.envs,Code.isFrame,pushEnvs]using e.frames),e.mod,e.bs,e.bsz,e.funs,e.frf,e.hok,e.bare⟩
section
variable {X:Cx}{pins:List (Addr×Obj)}{σ:St}{H:Hp}{s s':Shared}
theorem Inv.env0(I:Inv X pins σ H s):Env0 X.prog X.w X.K X.mg X.base X.A X.stack s H :=
 ⟨I.ok.frames,I.ok.mod,I.bs,PX I.ok.bsz I.sz,I.stack,I.stkFree,I.hok,I.bare⟩
theorem Inv.after{Q:VK}{u:Value}(I:Inv X pins σ H s)(h:CE X.stack X.prog X.w H s Q u s'):EP X pins σ Q u s':=by obtain⟨v,H',os,bare,un,hok,r,q⟩:=h;obtain⟨hh,g,d,t,os'⟩:=s';obtain rfl:os'=s.os:=os;exact⟨v,H',I.call (h':=hh) (g':=g) (d':=d) (t':=t) (ch:=[]) un hok bare (λb z=>absurd z (by simp)),r,q⟩
end
def Dg(sp:Sp)(dvs:List V)(E:XK)(t:TA):TE:=λσ H Q=>t σ H λvs H1=>sp (vs++dvs) H1 Q E
def wA(C:Addr)(m:Str)(sp:Sp)(dvs:List V)(E:XK)(ta:TE)(t:TA):TE:=λσ H Q=>ta σ H λx H1=>∃a dx fs,x=.ref a/\H1 a=some (.ins C dx fs)/\fs.lookup m=none /\
 t σ H1 λvs H2=>sp (x::(vs++dvs)) H2 Q E
def Dc(C:Addr)(sp:Sp)(dvs:List V)(E:XK)(t:TA):TE:=λσ H Q=>t σ H λvs H1=>∀x dx,H1 x=none->H1 dx=none->dx≠x ->
 sp (.ref x::(vs++dvs)) (upd (upd H1 dx (.own x)) x (.ins C dx [])) (λv H2=>v=.non/\Q (.ref x) H2) E
noncomputable def Binds(K:PySem.W.Frag)(fd:FuncData)(ps:List Str)(ds:List Value):Prop :=
 ∀(s:Shared) (us:List Value),K.In s.heap->(us++ds).length=ps.length->BindsTo s fd ⟨us,[]⟩ (ps.zip (us++ds))
theorem Binds.all{K:PySem.W.Frag}{fd:FuncData}{ps:List Str}(h:∀us:List Value,us.length=ps.length->bindArgs fd ⟨us,[]⟩=pure (ps.zip us)):Binds K fd ps []:=λs us _ hl=>by rw[List.append_nil]at hl ⊢;exact .of_eq (h us hl)
def jr(CX:CXT)(X:Cx)(E:XK):Prop:=∀(pins:List (Addr×Obj)) (σ:St) (H:Hp) (s:Shared) (e:Value) (s':Shared),Inv X pins σ H s->CX X.stack H s E e s'->X.xe e s'
section
variable {X:Cx}{CX:CXT}{k:Nat}{f C:Addr}{fd:FuncData}{ps:List Str}{sp:Sp}{dvs:List V}{ds:List Value}{E:XK}{x m:Str}{p pos apos:Pos}{e o:Expr}{es:List Expr}{ta:TE}{t:TA}
theorem sn{pins:List (Addr×Obj)}{σ:St}{H:Hp}{s:Shared}{Q:VK}{us:List Value}{vs:List V}(F:FnOk X.prog X.w X.K X.mg X.base CX k f fd ps sp)(hr:Room k X.A)(hb:Binds X.K fd ps ds)(hd:Vals dvs ds)(hx:jr CX X E)
 (I:Inv X pins σ H s) (r:Vals vs us) (h:sp (vs++dvs) H Q E):wpAny (model X.prog X.w) X.A (call (.ref f) us) (EP X pins σ Q) X.xe s:=by
 have r2:Vals (vs++dvs) (us++ds):=r.append hd;have hl:(us++ds).length=ps.length:=by rw[<- r2.length];exact F.len _ _ _ _ h
 refine wpAny_call (codeAny_mono (F.run X.A X.stack s H ⟨us,[]⟩ (us++ds) (vs++dvs) Q E hr I.env0 (hb s us I.kIn hl) r2 h) λr s' hq=>?_);cases r with
 |error e=>exact hx pins σ H s e s' I hq
 |ok fl =>
  cases fl with
  |ret u=>exact I.after hq
  |next=>exact False.elim hq
  |brk=>exact False.elim hq
  |cont=>exact False.elim hq
theorem aq(F:FnOk X.prog X.w X.K X.mg X.base CX k f fd ps sp)(hr:Room k X.A)(hg:Gl X x)(hm:X.mg x=some (.ref f))(hk:PySem.W.keepIn X.K (.ref f)=true)(hb:Binds X.K fd ps ds)(hd:Vals dvs ds)(hx:jr CX X E)
 (ha:PA X (e::es) t) (hdb:(x == ("__debug__":Str))=false:=by decide) (he:starEach (e::es) X.env=(false,eval e X.env)::starEach es X.env:=by rfl) (hpl:(backTo pos (starEach es X.env)).any (·.1)=false:=by rfl) :
 PE X (.Call (.Name x p) (e::es) [] pos) (Dg sp dvs E t):=by
 intro pins s σ H Q I h;refine wpAny_Call_Name_kw (tQ I hg hm ?_ hdb);refine PySem.W.callWith_K (h₀:=X.base) I.ok.mod.kin hk (thn (ha pos pins s σ H _ I h) λus s1 ⟨vs,H1,I1,r,q⟩=>⟨I1.kIn,?_⟩) he hpl;exact sn F hr hb hd hx I1 r q
theorem c7{pl:Sem Bool}(he:PE X o ta)(c:Cls X.K C)(hm:Meth X.K C m f)(F:FnOk X.prog X.w X.K X.mg X.base CX k f fd ps sp)(hr:Room k X.A)(hb:Binds X.K fd ps ds)(hd:Vals dvs ds)(hx:jr CX X E)(ha:PA X (e::es) t)
 (hst:starEach (e::es) X.env=(false,eval e X.env)::starEach es X.env:=by rfl) (hpl:(backTo pos (starEach es X.env)).any (·.1)=false:=by rfl)
 (ht:eval (.Call (.Attribute o m apos) (e::es) [] pos) X.env=(do
   let ov <- eval o X.env
   standAt apos.atName
   let(f,first) <- holding [ov] (getMethod ov m pl)
   callWith pos f first (backTo pos (starEach (e::es) X.env)) (backToKw pos (keywordEach [] X.env))):=by rfl) :
 PE X (.Call (.Attribute o m apos) (e::es) [] pos) (wA C m sp dvs E ta t):=by
 intro pins s σ H Q I h;refine PySem.W.methodCall_KW (pl:=pl) (thn (he pins s σ H _ I h) λu s1 ⟨x,H1,I1,rx,a,dx,fs,ex,ea,l,q⟩=>?_) ht;subst ex;obtain rfl:u=Value.ref a:=rx;refine AF I1 ea c hm l ?_;refine PySem.W.callWith_K (first:=[.ref a]) (h₀:=X.base) I.ok.mod.kin hm.kp (thn (ha pos pins s1 σ H1 _ I1 q) λus s2 ⟨vs,H2,I2,r,q2⟩=>⟨I2.kIn,?_⟩) hst hpl;exact sn (us:=.ref a::us) (vs:=.ref a::vs) F hr hb hd hx I2 (.cons rfl r) q2
theorem Fx{pl:Sem Bool}(he:PE X o ta)(c:Cls X.K C)(hm:Meth X.K C m f)(F:FnOk X.prog X.w X.K X.mg X.base CX k f fd ps sp)(hr:Room k X.A)(hb:Binds X.K fd ps ds)(hd:Vals dvs ds)(hx:jr CX X E)
 (ht:eval (.Call (.Attribute o m apos) [] [] pos) X.env=(do
   let ov <- eval o X.env
   standAt apos.atName
   let(f,first) <- holding [ov] (getMethod ov m pl)
   callWith pos f first (backTo pos (starEach [] X.env)) (backToKw pos (keywordEach [] X.env))):=by rfl) :
 PE X (.Call (.Attribute o m apos) [] [] pos) (wA C m sp dvs E ta pN):=by
 intro pins s σ H Q I h;refine PySem.W.methodCall_KW (pl:=pl) (thn (he pins s σ H _ I h) λu s1 ⟨x,H1,I1,rx,a,dx,fs,ex,ea,l,q⟩=>?_) ht;subst ex;obtain rfl:u=Value.ref a:=rx;refine AF I1 ea c hm l ?_;exact PySem.W.callWith_K0 (first:=[.ref a]) I1.kIn hm.kp (sn (us:=[.ref a]) (vs:=[.ref a]) F hr hb hd hx I1 (.cons rfl .nil) q)
structure Mk(K:PySem.W.Frag)(C f:Addr):Prop where
 makes:PySem.W.makesIn K C=true
 init:PySem.W.findIn K (.ref C) "__init__"=some (some (.ref f))
 fn:PySem.W.isFn K (.ref f)=true
 kp:PySem.W.keepIn K (.ref C)=true
theorem En{pins:List (Addr×Obj)}{σ:St}{H:Hp}{s:Shared}{Q:VK}{us:List Value}{vs:List V}(M:Mk X.K C f)(F:FnOk X.prog X.w X.K X.mg X.base CX k f fd ps sp)(hr:Room (k+1) X.A)(hb:Binds X.K fd ps ds)(hd:Vals dvs ds)
 (hx:jr CX X E) (I:Inv X pins σ H s) (r:Vals vs us)
 (h:∀x dx,H x=none->H dx=none->dx≠x->sp (.ref x::(vs++dvs)) (upd (upd H dx (.own x)) x (.ins C dx [])) (λv H2=>v=.non/\Q (.ref x) H2) E) :
 wpAny (model X.prog X.w) X.A (call (.ref C) us) (EP X pins σ Q) X.xe s:=by
 have hq:=h (s.heap.objs.size+1) s.heap.objs.size (I.hok.fresh (Nat.le_succ _)) (I.hok.fresh (PF _)) (Qj (Q1 _));have I2:=Inv.made (C:=C) I;have r2:Vals (V.ref (s.heap.objs.size+1)::(vs++dvs)) (Value.ref (s.heap.objs.size+1)::(us++ds)):=.cons rfl (r.append hd)
 have hl:(Value.ref (s.heap.objs.size+1)::us++ds).length=ps.length:=by have e:=r2.length;rw[F.len _ _ _ _ hq]at e;exact e.symm
 refine wpAny_call (HG (f:=f) I.kIn M.makes M.init (beq_iff_eq.mp M.fn) (codeAny_mono (F.run _ X.stack _ _ ⟨Value.ref (s.heap.objs.size+1)::us,[]⟩ (Value.ref (s.heap.objs.size+1)::(us++ds)) _ _ E (hr.make C us [])
  (I2.env0.make C us []) (hb _ (Value.ref (s.heap.objs.size+1)::us) I2.kIn hl) r2 hq) λr s' hq'=>?_))
 cases r with
 |error e=>exact hx pins σ _ _ e s' I2 hq'
 |ok fl =>
  cases fl with
  |ret u =>obtain⟨v,H',I3,rv,ev,q3⟩:=I2.after hq';subst ev;exact⟨rv,⟨V.ref (s.heap.objs.size+1),H',I3,rfl,q3⟩⟩
  |next=>exact False.elim hq'
  |brk=>exact False.elim hq'
  |cont=>exact False.elim hq'
theorem b9(M:Mk X.K C f)(F:FnOk X.prog X.w X.K X.mg X.base CX k f fd ps sp)(hr:Room (k+1) X.A)(hg:Gl X x)(hm:X.mg x=some (.ref C))(hb:Binds X.K fd ps ds)(hd:Vals dvs ds)(hx:jr CX X E)
 (ha:PA X (e::es) t) (hdb:(x == ("__debug__":Str))=false:=by decide) (he:starEach (e::es) X.env=(false,eval e X.env)::starEach es X.env:=by rfl) (hpl:(backTo pos (starEach es X.env)).any (·.1)=false:=by rfl) :
 PE X (.Call (.Name x p) (e::es) [] pos) (Dc C sp dvs E t):=by
 intro pins s σ H Q I h;refine wpAny_Call_Name_kw (tQ I hg hm ?_ hdb);refine PySem.W.callWith_K (h₀:=X.base) I.ok.mod.kin M.kp (thn (ha pos pins s σ H _ I h) λus s1 ⟨vs,H1,I1,r,q⟩=>⟨I1.kIn,?_⟩) he hpl;exact En M F hr hb hd hx I1 r q
end
section
variable {X:Cx}{CX:CXT}{k:Nat}{f C:Addr}{fd:FuncData}{ps ks:List Str}{sp:Sp}{E:XK}{x m:Str}{p pos apos kpos:Pos}{e o:Expr}{es:List Expr}{kws:List Keyword}{te ta:TE}{t tk:TA}{nm:Option Str}
variable {g:List Value->List Value->List Value}{gV:List V->List V->List V}
end
structure FnScope(N P:List Str)(sc:Scope):Prop where
 kind:sc.kind=.function
 co:sc.isCoroutine=false
 gen:sc.isGenerator=false
 nd:N.Nodup
 pre:N.take P.length=P
 par:∀x∈P,sc.names.lookup x=some .local\/sc.names.lookup x=some .cell
 nofree:∀y∈sc.names,y.2≠.free
theorem BR{kindOf:Str->Option NameKind}{x:Str}:∀{binds:List (Str×Value)} {m:Str->Option Value},(∀v,(x,v)∉binds)->bindL kindOf binds m x=m x
 | [],_,_=>rfl
 | (n,v)::r,m,h=>by
  unfold bindL;rw[BR λw hw=>h w (PP _ hw)];split
  ·have:x≠n:=by rintro rfl;exact h v PU
   simp[this]
  ·rfl
theorem BT{kindOf:Str->Option NameKind}{x:Str}:∀{binds:List (Str×Value)} {m:Str->Option Value},(∀v,(x,v)∉binds)->bindC kindOf binds m x=m x
 | [],_,_=>rfl
 | (n,v)::r,m,h=>by
  unfold bindC;rw[BT λw hw=>h w (PP _ hw)];split
  ·rfl
  ·have:x≠n:=by rintro rfl;exact h v PU
   simp[this]
theorem BS{kindOf:Str->Option NameKind}{x:Str}{v:Value}:∀{P:List Str} {vs:List Value} {i:Nat} {m:Str->Option Value},P.Nodup->P[i]?=some x->vs[i]?=some v->kindOf x=some .local ->
 bindL kindOf (P.zip vs) m x=some v
 | [],_,_,_,_,h,_,_=>by simp at h
 |_::_,[],_,_,_,_,h,_=>by simp at h
 |p::P,w::vs,0,m,nd,h1,h2,hk=>by
  simp at h1 h2;subst h1;subst h2
  show bindL kindOf ((p,w)::P.zip vs) m p=_;unfold bindL;rw[BR λv hv=>(Q2.mp nd).1 (List.of_mem_zip hv).1,if_pos hk];simp
 |p::P,w::vs,i+1,m,nd,h1,h2,hk=>by show bindL kindOf ((p,w)::P.zip vs) m x=_;unfold bindL;exact BS (i:=i) (Q2.mp nd).2 (by simpa using h1) (by simpa using h2) hk
theorem BU{kindOf:Str->Option NameKind}{x:Str}{v:Value}:∀{P:List Str} {vs:List Value} {i:Nat} {m:Str->Option Value},P.Nodup->P[i]?=some x->vs[i]?=some v->kindOf x≠some .local ->
 bindC kindOf (P.zip vs) m x=some v
 | [],_,_,_,_,h,_,_=>by simp at h
 |_::_,[],_,_,_,_,h,_=>by simp at h
 |p::P,w::vs,0,m,nd,h1,h2,hk=>by
  simp at h1 h2;subst h1;subst h2
  show bindC kindOf ((p,w)::P.zip vs) m p=_;unfold bindC;rw[BT λv hv=>(Q2.mp nd).1 (List.of_mem_zip hv).1,if_neg hk];simp
 |p::P,w::vs,i+1,m,nd,h1,h2,hk=>by show bindC kindOf ((p,w)::P.zip vs) m x=_;unfold bindC;exact BU (i:=i) (Q2.mp nd).2 (by simpa using h1) (by simpa using h2) hk
noncomputable def start(N:List Str)(vs:List V):St:=vs.map some++List.replicate (N.length-vs.length) none
noncomputable def jg(CX:CXT)(P:Program)(w:World)(K:PySem.W.Frag)(mg:Str->Option Value)(base:Heap)(N:List Str)(qual:Str)(scope:Scope)(f:Addr)(cd:Value)(A:Around)(outer:List Env)(s:Shared)(H:Hp)(E:XK):Cx where
 prog:=P
 w:=w
 K:=K
 mg:=mg
 base:=base
 A:=A.deeper (envOfC qual scope s.heap.objs.size f cd)
 N:=N
 s₀:=s
 H₀:=H
 env:=envOfC qual scope s.heap.objs.size f cd
 outer:=outer
 stack:=envOfC qual scope s.heap.objs.size f cd::outer
 ex:=[]
 calm:=true
 fn:=λ_=>true
 pn:=[]
 xe:=λe s'=>wpAny (model P w) (A.deeper (envOfC qual scope s.heap.objs.size f cd)) (leaving (envOfC qual scope s.heap.objs.size f cd) e) (λ_ s''=>CX outer H s E e s'') (λe' s''=>CX outer H s E e' s'') s'
theorem BM{sc:Scope}{n:Nat}{x:Str}(h:sc.names.lookup x=some .cell):∃c,(cellsFrom n sc.names []).lookup x=some c:=by have q:=PySem.W.cellsFrom_some sc.names n [] (.inl h);exact Option.isSome_iff_exists.mp q
theorem JD{CX:CXT}{P:Program}{w:World}{K:PySem.W.Frag}{mg:Str->Option Value}{base:Heap}{N ps:List Str}{qual:Str}{scope:Scope}{f:Addr}{cd:Value}{A:Around}{outer:List Env}{s s1:Shared}{H:Hp}{E:XK}{us:List Value}{vs:List V}
 (S:FnScope N ps scope) (hd:A.handled=none) (e0:Env0 P w K mg base A outer s H) (hl:vs.length=ps.length) (r:Vals vs us)
 (x:InCallC s s.heap.objs.size (bindL (envOfC qual scope s.heap.objs.size f cd).kindOf (ps.zip us) λ_=>none) (cellsFrom (s.heap.objs.size+1) scope.names []) (bindC (envOfC qual scope s.heap.objs.size f cd).kindOf (ps.zip us) λ_=>none) s1) :
 Inv (jg CX P w K mg base N qual scope f cd A outer s H E) [] (start N vs) H s1:=by
 have hpl:ps.length<=N.length:=by have:=congrArg List.length S.pre;rw[QB]at this;omega
 obtain⟨h1,tk,rfl,hk⟩:=x.done;have noA:∀b:Addr,b∉(jg CX P w K mg base N qual scope f cd A outer s H E).ex:=λb z=>absurd (show b∈([]:List Addr)from z) (by simp)
 refine⟨⟨e0.mod,S.kind,rfl,rfl,PF _,λy z c h1 h2=>?_,λy hy=>?_,λy c _ h=>?_,λ_=>hd,Around.frames_deeper e0.frames,.inr ⟨rfl,rfl⟩,λb z=>absurd z (noA b),e0.bs,e0.bsz,λb _ _=>noA b,λb z=>absurd z (noA b),e0.funs,e0.frf⟩,
  rfl,e0.bare,Un.kept hk,⟨_,x.toInCall.ns,λi y v h1 h2 h3=>?_⟩,λy c h=>⟨_,x.cell y c h⟩,e0.hok.fresh (PF _),λy c h=>?_,λp hp=>absurd (show p∈([]:List (Addr×Obj))from hp) (by simp),e0.hok.kept hk,?_⟩
 ·exact name_of_addr x.apart (PySem.mem_of_lookup h1) (PySem.mem_of_lookup h2)
 ·have hy:scope.names.lookup y=some .cell\/scope.names.lookup y=some .free:=hy;rcases hy with hy |hy
  ·exact BM hy
  ·exact absurd rfl (S.nofree _ (PySem.mem_of_lookup hy))
 ·exact QZ (x.above y c (PySem.mem_of_lookup h))
 ·have hi:i<vs.length:=by
   unfold start at h2
   by_cases hi:i<vs.length
   ·exact hi
   ·rw[List.getElem?_append_right (by simpa using hi)]at h2;rw[List.getElem?_replicate]at h2;split at h2<;>cases h2
  have ha:vs[i]?=some v:=by
   unfold start at h2
   rw[List.getElem?_append_left (by simpa using hi),List.getElem?_map]at h2;cases e:vs[i]? with
   |none=>rw[e]at h2;cases h2
   |some a=>rw[e]at h2;cases h2;rfl
  obtain⟨u,hu,rv⟩:=r.get ha
  have hp:ps[i]?=some y:=by rw[<- S.pre,List.getElem?_take_of_lt (by omega)];exact h1
  have ndP:ps.Nodup:=by rw[<- S.pre];exact S.nd.sublist (List.take_sublist _ _)
  refine⟨u,rv,?_⟩;rcases S.par y (List.mem_of_getElem? hp)with k |k
  ·exact .inl ⟨k,BS ndP hp hu k⟩
  ·obtain⟨c,e⟩:=BM (n:=s.heap.objs.size+1) k;refine .inr ⟨.inl k,c,e,?_⟩;have q:=x.cell y c e;rw[BU ndP hp hu (by show scope.names.lookup y≠_;rw[k];decide)]at q;exact q
 ·exact e0.hok.fresh (QZ (x.above y c (PySem.mem_of_lookup h)))
 ·unfold start;show _=N.length;rw[Qi,PC,Sk];omega
theorem AQ{CX:CXT}{P:Program}{w:World}{K:PySem.W.Frag}{mg:Str->Option Value}{base:Heap}{k:Nat}{f:Addr}{name qual:Str}{params:Arguments}{body:List Stmt}{scope:Scope}{dV kV doc pm cdv ct oc:Value}{an od:Option Addr}
 {osl:Array (Option Value)} {N ps:List Str} {sp:Sp} (lk:K.lookup f=some ⟨oc,od,.func (PySem.W.fnOf name qual params body scope dV kV doc pm an cdv ct),osl⟩) (hcd:PySem.W.codeIn K cdv qual=true) (S:FnScope N ps scope)
 (len:∀vs H Q E,sp vs H Q E->vs.length=ps.length)
 (hbody:∀(A:Around) (outer:List Env) (s:Shared) (H:Hp) (vs:List V) (Q:VK) (E:XK),Room k (A.deeper (envOfC qual scope s.heap.objs.size f cdv))->sp vs H Q E ->
   ∃t,PSs (jg CX P w K mg base N qual scope f cdv A outer s H E) body t/\t { nx:=λ_ H'=>Q .non H',rt:=Q } (start N vs) H) :
 FnOk P w K mg base CX (k+1) f (PySem.W.fnOf name qual params body scope dV kV doc pm an cdv ct) ps sp:=by
 refine⟨len,λA outer s H args us vs Q E hr e0 hb r hsp=>?_⟩;have hl:=len _ _ _ _ hsp;have KX:K.In s.heap:=e0.mod.kin.keeps λb o e=>(e0.bs b o e).1
 have lim:s.heap.NoLimit:=e0.mod.nolimit.keeps λb o e=>(e0.bs b o e).1
 have hkind:∀y∈ps.zip us,scope.names.lookup y.1=some .local\/(scope.names.lookup y.1=some .cell/\((cellsFrom (s.heap.objs.size+1) scope.names []).lookup y.1).isSome=true):=λ⟨n,v⟩ hy=>by
  rcases S.par n (List.of_mem_zip hy).1 with q |q
  ·exact .inl q
  ·exact .inr ⟨q,PySem.W.cellsFrom_some _ _ _ (.inl q)⟩
 refine codeAny_call_function hr.depth (KX _ _ lk) rfl S.co S.gen rfl (PySem.W.codeRec_of KX hcd) (hb _ _ _ _ ?_);refine wpAny_newFunctionEnv_cells S.kind hkind λenv he s1 x=>?_
 subst he;refine⟨lim.keeps x.toInCall.keep,codeAny_func ?_⟩;obtain⟨t,ht,hq⟩:=hbody A outer s H vs Q E (hr.deeper _) hsp;have I:Inv (jg CX P w K mg base N qual scope f cdv A outer s H E) [] (start N vs) H s1:=JD S hr.hd e0 hl r x;refine wpAny_mono (ht [] s1 (start N vs) H _ I hq) (λfl s' hs=>?_) λe s' hs=>hs
 have fin:∀{σ':St} {H':Hp} {v:V} {u:Value},Inv (jg CX P w K mg base N qual scope f cdv A outer s H E) [] σ' H' s'->RelV v u->Q v H'->CE outer P w H s Q u s' :=
  λ{σ' H' v u} J rv q=>⟨v,H',J.os,J.bare,J.base,J.hok,rv,q⟩
 cases fl with
 |ret u =>obtain⟨v,σ',H',J,rv,q⟩:=hs;exact fin J rv q
 |next =>obtain⟨σ',H',J,q⟩:=hs;exact fin (v:=V.non) (u:=Value.none) J rfl q
 |brk =>obtain⟨_,_,_,q⟩:=hs;exact False.elim q
 |cont =>obtain⟨_,_,_,q⟩:=hs;exact False.elim q
section
variable {X:Cx}{x:Str}{p pos:Pos}{e:Expr}{es:List Expr}{t:TA}{id T:String}{r:List V->Hp->VK->Prop}
def tCB(r:List V->Hp->VK->Prop)(t:TA):TE:=λσ H Q=>t σ H λvs H1=>r vs H1 Q
theorem bz(hc:CallR X (.builtin id) r)(hg:Gl X x)(hm:X.mg x=none)(hv:bootBuiltins x=some (.builtin id))(ha:PA X (e::es) t)(hn:x≠"__name__":=by decide)(hdb:(x == ("__debug__":Str))=false:=by decide)
 (he:starEach (e::es) X.env=(false,eval e X.env)::starEach es X.env:=by rfl) (hpl:(backTo pos (starEach es X.env)).any (·.1)=false:=by rfl):PE X (.Call (.Name x p) (e::es) [] pos) (tCB r t):=by
 intro pins s σ H Q I h;refine wpAny_Call_Name_kw (gb I hg hm hv ?_ hn hdb);exact PyProof.Rows.callWith_builtin1 (thn (ha pos pins s σ H _ I h) λus s1 ⟨vs,H1,I1,r1,q1⟩=>hc pins s1 σ H1 vs us Q I1 r1 q1) he hpl
theorem oq(hc:CallR X (.type T) r)(hg:Gl X x)(hm:X.mg x=none)(hv:bootBuiltins x=some (.type T))(ha:PA X (e::es) t)(hn:x≠"__name__":=by decide)(hdb:(x == ("__debug__":Str))=false:=by decide)
 (he:starEach (e::es) X.env=(false,eval e X.env)::starEach es X.env:=by rfl) (hpl:(backTo pos (starEach es X.env)).any (·.1)=false:=by rfl):PE X (.Call (.Name x p) (e::es) [] pos) (tCB r t):=by
 intro pins s σ H Q I h;refine wpAny_Call_Name_kw (gb I hg hm hv ?_ hn hdb);exact PyProof.Rows.callWith_type1 (thn (ha pos pins s σ H _ I h) λus s1 ⟨vs,H1,I1,r1,q1⟩=>hc pins s1 σ H1 vs us Q I1 r1 q1) he hpl
end
end L2
namespace HT
open PySem PyProof.Rows
section
open PySem.SeqAt
open PySem.AutoSeq1 (wpAny_loadPart')
open PySem.MeetsSeq PySem.MeetsSeq2 PySem.MeetsSeq3
end
section
variable {prog:Program}{w:World}{A:Around}{E:Value->Shared->Prop}{s:Shared}
noncomputable def sIx(n d:Nat):Option Int->Nat
 |none=>d
 |some v=>if v<0 then(v+(n:Int)).toNat else min v.toNat n
theorem sIx_none(n d:Nat):sIx n d none=d:=rfl
theorem sIx_nat(n d k:Nat):sIx n d (some (k:Int))=min k n:=by show(if(k:Int)<0 then((k:Int)+(n:Int)).toNat else min (k:Int).toNat n)=min k n;rw[if_neg (by omega),Int.toNat_natCast]
end
end HT
namespace L2
open PySem PySem.Spec PyProof.Rows
abbrev TO:=St->Hp->(Option Int->Hp->Prop)->Prop
noncomputable def PO(X:Cx)(e:Option Expr)(t:TO):Prop :=
 ∀(pins:List (Addr×Obj)) (s:Shared) (σ:St) (H:Hp) (Q:Option Int->Hp->Prop),Inv X pins σ H s->t σ H Q ->
  wpAny (model X.prog X.w) X.A (evalPart e X.env) (λu s'=>∃o H',Inv X pins σ H' s'/\IsPart u o/\Q o H') X.xe s
noncomputable def Da:TO:=λ_ H Q=>Q none H
noncomputable def C0(t:TE):TO:=λσ H Q=>t σ H λx H1=>∃i,x=.int i/\Q (some i) H1
theorem oT{ns:List Int}:∀{us:List Value},Vals (ns.map V.int) us->IntsAre us ns:=by
 induction ns with
 |nil=>intro us r;rw[List.map_nil]at r;cases r;exact .nil
 |cons n ns ih =>
  intro us r;rw[QG]at r;cases r with
  |cons r1 r2 =>obtain⟨t,e⟩:=r1;subst e;exact .cons n t (ih r2)
section
variable {X:Cx}{e:Expr}{te:TE}{lo hi:Option Expr}{tl th:TO}{pos p2:Pos}
theorem iL:PO X none Da:=by intro pins s σ H Q I h;rw[evalPart_none];exact wpAny_pure ⟨none,H,I,.none,h⟩
theorem iK(h:PE X e te):PO X (some e) (C0 te):=by
 intro pins s σ H Q I hw;rw[evalPart_some];refine thn (h pins s σ H _ I hw) λu s1 ⟨x,H1,I1,r1,q1⟩=>?_
 obtain⟨i,rfl,q⟩:=q1;obtain⟨t,rfl⟩:=r1;exact⟨some i,H1,I1,.int i t,q⟩
noncomputable def SlR(X:Cx)(r:V->Option Int->Option Int->Hp->VK->Prop):Prop :=
 ∀(pins:List (Addr×Obj)) (s:Shared) (σ:St) (H:Hp) (x:V) (v vl vu:Value) (lo hi:Option Int) (sl:Addr) (Q:VK),Inv X pins σ H s->RelV x v->s.heap.IsSliceOf sl vl vu .none->IsPart vl lo->IsPart vu hi->r x lo hi H Q ->
  ∃T id,typeLookup (.type T) "__getitem__"=pure (some (.builtin id))/\s.TypeIs v T/\wpAny (model X.prog X.w) X.A (getItem v (.ref sl)) (EP X pins σ Q) X.xe s
theorem SlR.or{r r':V->Option Int->Option Int->Hp->VK->Prop}(h:SlR X r)(h':SlR X r'):SlR X (λx lo hi H Q=>r x lo hi H Q\/r' x lo hi H Q):=by
 intro pins s σ H x v vl vu lo hi sl Q I rx hs pl pu q;rcases q with q |q
 ·exact h pins s σ H x v vl vu lo hi sl Q I rx hs pl pu q
 ·exact h' pins s σ H x v vl vu lo hi sl Q I rx hs pl pu q
def tSl(r:V->Option Int->Option Int->Hp->VK->Prop)(te:TE)(tl th:TO):TE:=λσ H Q=>te σ H λx H1=>tl σ H1 λl H2=>th σ H2 λu H3=>r x l u H3 Q
theorem iM{r:V->Option Int->Option Int->Hp->VK->Prop}(hr:SlR X r)(he:PE X e te)(hl:PO X lo tl)(hu:PO X hi th):PE X (.Subscript e (.Slice lo hi none p2) pos) (tSl r te tl th):=by
 intro pins s σ H Q I h;refine Subscript_ (thn (he pins s σ H _ I h) λv s1 ⟨x,H1,I1,r1,q1⟩=>?_);refine wpAny_Slice (thn (hl pins s1 σ H1 _ I1 q1) λvl s2 ⟨l,H2,I2,pl,q2⟩=>thn (hu pins s2 σ H2 _ I2 q2) λvu s3 ⟨u,H3,I3,pu,q3⟩=>?_);rw[evalPart_none];refine wpAny_pure ?_;have I4:Inv X pins σ H3 { s3 with heap:=s3.heap.push { cls:=.type "slice",data:=.fields #[vl,vu,.none] } }:=I3.kept (t':=s3.toks) λb ob q=>Heap.get?_push_of_some _ q
 obtain⟨T,id,hT,ht,hg⟩:=hr pins { s3 with heap:=s3.heap.push { cls:=.type "slice",data:=.fields #[vl,vu,.none] } } σ H3 x v vl vu l u s3.heap.objs.size Q I4 r1 (Heap.IsSliceOf.new ..) pl pu q3;show wpAny (model X.prog X.w) X.A (subscriptTail e (.Slice lo hi none p2) v (.ref s3.heap.objs.size)) (EP X pins σ Q) X.xe { s3 with heap:=s3.heap.push { cls:=.type "slice",data:=.fields #[vl,vu,.none] } };exact tail_any (ops:=[.ref s3.heap.objs.size,v]) ht hT hg (by with_unfolding_all rfl)
noncomputable def gN(xs:List V)(lo hi:Option Int):List V:=(xs.drop (HT.sIx xs.length 0 lo)).take (HT.sIx xs.length xs.length hi-HT.sIx xs.length 0 lo)
theorem KU(xs:List V)(lo hi:Option Int):(gN xs lo hi).length<=xs.length:=by unfold gN;rw[QB,Rk];omega
end
noncomputable def ixN(n:Nat)(i:Int):Option Nat:=if 0<=i then(if i<n then some i.toNat else none)else if -(n:Int)<=i then some (i+n).toNat else none
noncomputable def atI{α:Type}(xs:List α)(i:Int):Option α:=(ixN xs.length i).bind λj=>xs[j]?
theorem An{n:Nat}{i:Int}{j:Nat}(h:ixN n i=some j):seqIndex? i n=some j/\j<n /\ -(n:Int)<=i/\i<n:=by
 unfold ixN at h
 by_cases h0:0<=i
 ·rw[if_pos h0]at h;by_cases h1:i<n
  ·rw[if_pos h1]at h;have e:i.toNat=j:=Option.some.inj h;exact⟨by rw[seqIndex_of h0 h1,e],by omega,by omega,h1⟩
  ·rw[if_neg h1]at h;cases h
 ·rw[if_neg h0]at h;by_cases h1 : -(n:Int)<=i
  ·rw[if_pos h1]at h;have e:(i+n).toNat=j:=Option.some.inj h;exact⟨by rw[seqIndex_neg (by omega) h1,e],by omega,h1,by omega⟩
  ·rw[if_neg h1]at h;cases h
theorem B9{α:Type}{xs:List α}{i:Int}{v:α}(h:atI xs i=some v):∃j,seqIndex? i xs.length=some j/\xs[j]?=some v/\j<xs.length /\ -(xs.length:Int)<=i/\i<xs.length:=by
 unfold atI at h
 cases e:ixN xs.length i with
 |none=>rw[e]at h;cases h
 |some j =>rw[e]at h;obtain⟨h1,h2,h3,h4⟩:=An e;exact⟨j,h1,h,h2,h3,h4⟩
theorem kC{α:Type}{xs:List α}{j:Nat}{v:α}(h:xs[j]?=some v):atI xs (j:Int)=some v:=by
 have hj:j<xs.length:=(List.getElem?_eq_some_iff.mp h).1
 have e:ixN xs.length (j:Int)=some j:=by unfold ixN;rw[if_pos (by omega),if_pos (by omega)];simp
 unfold atI;rw[e];exact h
theorem vy{α:Type}(xs:List α)(v:α):atI (xs++[v]) (-1)=some v:=by
 have hl:(xs++[v]).length=xs.length+1:=by simp
 have e:ixN (xs++[v]).length (-1)=some xs.length:=by
  unfold ixN;rw[hl,if_neg (by decide),if_pos (by omega)]
  congr 1
  omega
 unfold atI;rw[e];show(xs++[v])[xs.length]?=some v;simp
def Mi(b:Expr):Prop:=∀o i,subscripted b false o i=operate [o,i] (getItem o i)
noncomputable def IxR(X:Cx)(r:R2):Prop :=
 ∀(value slice:Expr) (pins:List (Addr×Obj)) (s:Shared) (σ:St) (H:Hp) (x y:V) (v u:Value) (Q:VK),Inv X pins σ H s->RelV x v->RelV y u->r x y H Q ->
  subscripted slice false v u=operate [v,u] (getItem v u)->wpAny (model X.prog X.w) X.A (subscriptTail value slice v u) (EP X pins σ Q) X.xe s
noncomputable def MtR(X:Cx)(id:String)(r:V->List V->Hp->VK->Prop):Prop :=
 ∀(pins:List (Addr×Obj)) (s:Shared) (σ:St) (H:Hp) (x:V) (xs:List V) (v:Value) (us:List Value) (Q:VK),Inv X pins σ H s->RelV x v->Vals xs us->r x xs H Q ->
  wpAny (model X.prog X.w) X.A (call (.builtin id) (v::us)) (EP X pins σ Q) X.xe s
section
variable {X:Cx}{a b:Expr}{ta tb:TE}{pos:Pos}
theorem IxR.or{r r':R2}(h:IxR X r)(h':IxR X r'):IxR X (λx y H Q=>r x y H Q\/r' x y H Q):=by
 intro value slice pins s σ H x y v u Q I rx ry q hs;rcases q with q |q
 ·exact h value slice pins s σ H x y v u Q I rx ry q hs
 ·exact h' value slice pins s σ H x y v u Q I rx ry q hs
theorem MtR.or{id:String}{r r':V->List V->Hp->VK->Prop}(h:MtR X id r)(h':MtR X id r'):MtR X id (λx xs H Q=>r x xs H Q\/r' x xs H Q):=by
 intro pins s σ H x xs v us Q I rx rs q;rcases q with q |q
 ·exact h pins s σ H x xs v us Q I rx rs q
 ·exact h' pins s σ H x xs v us Q I rx rs q
theorem aE{r:R2}(hr:IxR X r)(ha:PE X a ta)(hb:PE X b tb)(hs:Mi b):PE X (.Subscript a b pos) (tOp r ta tb):=by intro pins s σ H Q I h;exact Subscript_ (vf ha hb I h λv u s2 x y H2 I2 rx ry q=>hr a b pins s2 σ H2 x y v u Q I2 rx ry q (hs _ _))
def yJ(K:PySem.W.Frag):R2:=λx y H Q=>∃p xs i v,x=.ref p/\y=.int i/\SqL K H p xs/\atI xs i=some v/\Q v H
def yI(K:PySem.W.Frag):R2:=λx y H Q=>∃p xs i v,x=.ref p/\y=.int i/\SqT K H p xs/\atI xs i=some v/\Q v H
theorem JA:IxR X (yJ X.K):=by
 intro value slice pins s σ H x y v u Q I rx ry h hs;obtain⟨p,xs,i,z,rfl,rfl,hq,he,q⟩:=h;cases rx;obtain⟨t,rfl⟩:=ry;obtain⟨its,r,pl,hz⟩:=I.list hq;obtain⟨j,h1,h2,h3,h4,h5⟩:=B9 he;obtain⟨w,ew,rw'⟩:=r.get h2;have hl:=r.length;have hn:=ml;have fin:EP X pins σ Q w s:=⟨z,H,I,rw',q⟩;by_cases h0:0<=i
 ·have hj:i.toNat=j:=by rw[seqIndex_of h0 h5]at h1;exact Option.some.inj h1
  exact item_listR pl.isList h0 (by omega) (by rw[hj];simpa using ew) fin hs
 ·have hj:(i+(its.toArray.size:Int)).toNat=j:=by rw[seqIndex_neg (by omega) h4]at h1;rw[Qn,<- hl];exact Option.some.inj h1
  exact subscriptTail_builtinR (x:=w) pl.isList.typeIs slot_list_getitem.lookup
   (wpAny_getItem_list_neg (Q:=λr s'=>r=w/\EP X pins σ Q r s') pl.isList (by omega) (by rw[Qn]<;>omega) (by omega) (by rw[hj];simpa using ew) ⟨rfl,fin⟩) hs
theorem Jz:IxR X (yI X.K):=by
 intro value slice pins s σ H x y v u Q I rx ry h hs;obtain⟨p,xs,i,z,rfl,rfl,hq,he,q⟩:=h;cases rx;obtain⟨t,rfl⟩:=ry;obtain⟨its,r,pl,hz⟩:=I.tuple hq;obtain⟨j,h1,h2,h3,h4,h5⟩:=B9 he;obtain⟨w,ew,rw'⟩:=r.get h2;have hl:=r.length;have hn:=ml;have fin:EP X pins σ Q w s:=⟨z,H,I,rw',q⟩
 exact subscriptTail_builtinR (x:=w) pl.typeIs slot_tuple_getitem.lookup
  (getItem_tuple (j:=j) (Q:=λr s'=>r=w/\EP X pins σ Q r s') pl (by omega) (by omega) (by rw[Qn,<- hl];exact h1) (by simpa using ew) ⟨rfl,fin⟩) hs
theorem HE(its:List Value)(n j:Nat)(u:Value):Obj.mapSeq (·.setIfInBounds j u) { cls:=.type "list",data:=.seq its.toArray n }={ cls:=.type "list",data:=.seq (its.set j u).toArray n }:=by simp[Obj.mapSeq]
theorem Inv.lst{pins:List (Addr×Obj)}{σ:St}{H:Hp}{s:Shared}{p:Addr}{xs:List V}(I:Inv X pins σ H s)(h:H p=some (.lst xs)) :
 ∃(its:List Value) (n:Nat),Vals xs its/\s.heap.get? p=some { cls:=.type "list",data:=.seq its.toArray n }/\xs.length<=sizeLine:=by
 obtain⟨z,its,n,r,e⟩:=I.hok p _ h;exact⟨its,n,r,e,z⟩
theorem Inv.lstUpd{pins:List (Addr×Obj)}{σ:St}{H:Hp}{s:Shared}{p:Addr}{xs ys:List V}{its its':List Value}{n n':Nat}{f:Obj->Obj}(I:Inv X pins σ H s)(h:H p=some (.lst xs))
 (ho:s.heap.get? p=some { cls:=.type "list",data:=.seq its.toArray n }) (hf:f { cls:=.type "list",data:=.seq its.toArray n }={ cls:=.type "list",data:=.seq its'.toArray n' }) (r:Vals ys its') (hz:ys.length<=sizeLine) (t:Nat) :
 Inv X pins σ (upd H p (.lst ys)) { s with heap:=s.heap.update p f,toks:=t }:=by
 have e:(s.heap.update p f).get? p=some { cls:=.type "list",data:=.seq its'.toArray n' }:=by rw[Heap.get?_update_self f ho (by rw[hf]<;>rfl),hf]
 refine I.write (x:=p) (e:=p) (by rw[h];trivial) (.inl rfl) (λb u hb q=>(Heap.get?_update_other _ _ (Ne.symm hb)).trans q) ⟨_,e⟩ ?_;exact⟨hz,its',n',r,e⟩
noncomputable def EU:V->V->V->Hp->(Hp->Prop)->Prop:=λo i v H Q=>∃p xs k j,o=.ref p/\i=.int k/\H p=some (.lst xs)/\ixN xs.length k=some j/\Q (upd H p (.lst (xs.set j v)))
theorem ll:Cd X EU:=by
 intro pins s σ H o i v ov iv u Q I ro ri rv h;obtain⟨p,xs,k,j,rfl,rfl,hp,hj,q⟩:=h;cases ro;obtain⟨t,rfl⟩:=ri;obtain⟨its,n,r,ho,hz⟩:=I.lst hp;obtain⟨h1,h2,h3,h4⟩:=An hj;have hl:=r.length;have hn:=ml
 have I':Inv X pins σ (upd H p (.lst (xs.set j v))) { s with heap:=s.heap.update p (Obj.mapSeq (·.setIfInBounds j u)) } :=
  I.lstUpd hp ho (HE its n j u) (r.set rv j) (by rw[Rz];exact hz) s.toks
 by_cases h0:0<=k
 ·have hk:k.toNat=j:=by rw[seqIndex_of h0 h4]at h1;exact Option.some.inj h1
  exact PySem.W.ki_setAt ho h0 (by omega) (by rw[Qn,<- hl];exact h4) (by rw[hk];exact⟨_,I',q⟩)
 ·have hk:(k+(its.toArray.size:Int)).toNat=j:=by rw[seqIndex_neg (by omega) h3]at h1;rw[Qn,<- hl];exact Option.some.inj h1
  exact PySem.W.ki_setBack ho (by omega) (by rw[Qn,<- hl];exact h3) (by omega) (by rw[hk];exact⟨_,I',q⟩)
theorem Du(lo hi:Option Int)(n:Nat):(sliceBounds lo hi none n).1=((HT.sIx n 0 lo:Nat):Int)/\(sliceBounds lo hi none n).2.1=((HT.sIx n n hi:Nat):Int)/\(sliceBounds lo hi none n).2.2=1:=by
 refine⟨?_,?_,rfl⟩
 ·cases lo with
  |none=>simp[sliceBounds,HT.sIx]
  |some i =>
   simp only[sliceBounds,HT.sIx,Option.getD_none,show(1:Int)>0 by decide,if_true];by_cases h:i<0
   ·simp only[h,if_true]<;>omega
   ·simp only[h,if_false]<;>omega
 ·cases hi with
  |none=>simp[sliceBounds,HT.sIx]
  |some i =>
   simp only[sliceBounds,HT.sIx,Option.getD_none,show(1:Int)>0 by decide,if_true];by_cases h:i<0
   ·simp only[h,if_true]<;>omega
   ·simp only[h,if_false]<;>omega
theorem Dw(its:List Value)(lo hi:Option Int):slicePick its.toArray lo hi none=((its.drop (HT.sIx its.length 0 lo)).take (HT.sIx its.length its.length hi-HT.sIx its.length 0 lo)).toArray:=by obtain⟨h1,h2,h3⟩:=Du lo hi its.toArray.size;unfold slicePick;rw[h1,h2,h3];simp only[sliceRange_one,pick_run,Qn]<;>rfl
noncomputable def sK(K:PySem.W.Frag):V->Option Int->Option Int->Hp->VK->Prop:=λx lo hi H Q=>∃a xs,x=.ref a/\SqL K H a xs/\∀p,H p=none->Q (.ref p) (upd H p (.lst (gN xs lo hi)))
theorem Dx:SlR X (sK X.K):=by intro pins s σ H x v vl vu lo hi sl Q I rx hs pl pu h;obtain⟨a,xs,rfl,hx,q⟩:=h;cases rx;obtain⟨its,r,ht,hz⟩:=I.list hx;have hlen:=r.length;refine⟨"list",_,slot_list_getitem.lookup,ht.isList.typeIs,?_⟩;refine wpAny_getItem_list_slice ht.isList hs pl pu .none (by simp) ?_ (by rw[Qn]<;>omega);rw[Dw,<- hlen];refine⟨.ref s.heap.objs.size,_,I.laid (t':=s.toks) (o:=.lst (gN xs lo hi)) (λb ob q=>Heap.get?_push_of_some _ q) (PF _) ?_,rfl,q _ (I.hok.fresh (PF _))⟩;exact⟨PX (KU xs lo hi) hz,_,0,(r.drop (HT.sIx xs.length 0 lo)).take (HT.sIx xs.length xs.length hi-HT.sIx xs.length 0 lo),Heap.get?_push_size _ rfl⟩
theorem Lm:CallR X (.builtin "len") (λxs H Q=>∃p ys,xs=[.ref p]/\(SqL X.K H p ys\/SqT X.K H p ys)/\Q (.int ys.length) H):=by
 intro pins s σ H xs us Q I r h;obtain⟨p,ys,rfl,hq,q⟩:=h;obtain⟨u,rfl,rx⟩:=gU r;cases rx;have hn:=ml;rcases hq with hq |hq
 ·obtain⟨its,r',pl,hz⟩:=I.list hq;have hlen:=r'.length;exact Calls.call_len_list pl.isList (by simp only[Qn]<;>omega) ⟨.int ys.length,H,I.tok _,⟨s.toks+1,by rw[Qn,hlen]⟩,q⟩
 ·obtain⟨its,r',pl,hz⟩:=I.tuple hq;have hlen:=r'.length;exact len_tuple pl (by simp only[Qn]<;>omega) ⟨.int ys.length,H,I.tok _,⟨s.toks+1,by rw[Qn,hlen]⟩,q⟩
theorem CallR.or{f:Value}{r r':List V->Hp->VK->Prop}(h:CallR X f r)(h':CallR X f r'):CallR X f (λxs H Q=>r xs H Q\/r' xs H Q):=by
 intro pins s σ H xs us Q I rs q;rcases q with q |q
 ·exact h pins s σ H xs us Q I rs q
 ·exact h' pins s σ H xs us Q I rs q
theorem Ll:CallR X (.type "list") (λxs H Q=>∃p ys,xs=[.ref p]/\(SqL X.K H p ys\/SqT X.K H p ys)/\∀l,H l=none->Q (.ref l) (upd H l (.lst ys))):=by
 intro pins s σ H xs us Q I r h;obtain⟨p,ys,rfl,hq,q⟩:=h;obtain⟨u,rfl,rx⟩:=gU r;cases rx
 have fin:∀(its:List Value),Vals ys its->ys.length<=sizeLine->∀(h':Heap) (c':Nat),(∀b o',s.heap.get? b=some o'->h'.get? b=some o') ->
  h'.get? s.heap.objs.size=some { cls:=.type "list",dict:=none,data:=.seq its.toArray c',slots:=#[] }->EP X pins σ Q (.ref s.heap.objs.size) { s with heap:=h' }:=λits r' hz h' c' kp e =>
  ⟨.ref s.heap.objs.size,_,I.laid (t':=s.toks) kp (PF _) (show ObjOk X.prog X.w _ h' _ (.lst ys)from⟨hz,its,c',r',e⟩),rfl,q _ (I.hok.fresh (PF _))⟩
 rcases hq with hq |hq
 ·obtain⟨its,r',pl,hz⟩:=I.list hq;have hlen:=r'.length;obtain⟨o,ho,hc,n,hd⟩:=pl.isList;exact call_list_seq p (.inl rfl) ho hc hd (λh' c' kp e=>fin its r' hz h' c' kp e) (by simp only[Qn]<;>omega)
 ·obtain⟨its,r',pl,hz⟩:=I.tuple hq;have hlen:=r'.length;obtain⟨o,ho,hc,n,hd⟩:=pl;exact call_list_seq p (.inr rfl) ho hc hd (λh' c' kp e=>fin its r' hz h' c' kp e) (by simp only[Qn]<;>omega)
def tyV(K:PySem.W.Frag)(T:String)(x:V)(H:Hp):Prop:=match x with
 |.str _=>T="str"
 |.int _=>T="int"
 |.ref p=>(T="list"/\∃xs,SqL K H p xs)\/(T="tuple"/\∃o,K.lookup p=some o/\o.cls=.type "tuple"/\o.dict=none) \/
  (T="dict"/\((∃kvs,H p=some (.dK kvs))\/∃kvs,H p=some (.dT kvs)))\/(T="set"/\∃S n,H p=some (.set S n))
 |_=>False
theorem wg{pins:List (Addr×Obj)}{σ:St}{H:Hp}{s:Shared}{T:String}{x:V}{v:Value}(I:Inv X pins σ H s)(r:RelV x v)(ty:tyV X.K T x H) :
 s.TypeIs v T/\∀a,v=.ref a->∃ob,s.heap.get? a=some ob/\ob.dict=none:=by
 cases x with
 |str z =>obtain⟨t,rfl⟩:=r;cases(show T="str" from ty);exact⟨typeIs_str s z t,λ_ e=>nomatch e⟩
 |int i =>obtain⟨t,rfl⟩:=r;cases(show T="int" from ty);exact⟨typeIs_int s i t,λ_ e=>nomatch e⟩
 |ref p =>
  cases r;rcases ty with⟨rfl,xs,hq⟩ |⟨rfl,o,hk,hc,hd⟩ |⟨rfl,hk⟩ |⟨rfl,S,n,hk⟩
  ·obtain⟨its,_,pl,_⟩:=I.list hq;refine⟨pl.isList.typeIs,λa e=>?_⟩;cases e;obtain⟨o,n,e,c,hd,_⟩:=pl;exact⟨o,e,hd⟩
  ·refine⟨⟨o,I.kIn p o hk,hc⟩,λa e=>?_⟩;cases e;exact⟨o,I.kIn _ o hk,hd⟩
  ·have z:∃o,s.heap.get? p=some o/\o.ExactDict:=by
    rcases hk with⟨kvs,hk⟩ |⟨kvs,hk⟩
    ·obtain⟨_,_,_,_,o,_,_,e,ex,_⟩:=I.hok p _ hk;exact⟨o,e,ex⟩
    ·obtain⟨_,_,_,_,o,_,_,e,ex,_⟩:=I.hok p _ hk;exact⟨o,e,ex⟩
   obtain⟨o,e,ex⟩:=z;refine⟨⟨o,e,ex.1⟩,λa e2=>?_⟩;cases e2;exact⟨o,e,ex.2.1⟩
  ·obtain⟨o,_,_,_,e,ex,_⟩:=I.hok p _ hk;refine⟨⟨o,e,ex.1⟩,λa e2=>?_⟩;cases e2;exact⟨o,e,ex.2.1⟩
 |_=>exact False.elim ty
def Dh(K:PySem.W.Frag)(T:String)(r:V->List V->Hp->VK->Prop)(to:TE):TE:=λσ H Q=>to σ H λx H1=>tyV K T x H1/\r x [] H1 Q
def tBM(K:PySem.W.Frag)(T:String)(r:V->List V->Hp->VK->Prop)(to:TE)(t:TA):TE:=λσ H Q=>to σ H λx H1=>tyV K T x H1/\t σ H1 λxs H2=>r x xs H2 Q
variable {o e:Expr}{es:List Expr}{to:TE}{t:TA}{name:Str}{apos cpos:Pos}{T id:String}{r:V->List V->Hp->VK->Prop}
theorem y0(pa:PlainAttrs T)(slot:Slot T name id)(hty:typeOf (.builtin id)=pure (.type "method_descriptor"))(hm:MtR X id r)(ho:PE X o to)
 (hbase:attributeBase o name X.env (eval o X.env)=eval o X.env:=by rfl) (hline:(apos.endLine == cpos.line)=true:=by rfl):PE X (.Call (.Attribute o name apos) [] [] cpos) (Dh X.K T r to):=by
 intro pins s σ H Q I h;refine wpAny_Call_method0_late hbase hline (thn (ho pins s σ H _ I h) λv s1 ⟨x,H1,I1,r1,ty,q1⟩=>?_);obtain⟨h1,h2⟩:=wg I1 r1 ty;exact⟨T,id,pa,slot,hty,h1,h2,Calls.callWith_builtin rfl (PySem.evalArgs_none (hm pins s1 σ H1 x [] v [] Q I1 r1 .nil q1))⟩
theorem gB(pa:PlainAttrs T)(slot:Slot T name id)(hty:typeOf (.builtin id)=pure (.type "method_descriptor"))(hm:MtR X id r)(ho:PE X o to)(ha:PA X (e::es) t)
 (hbase:attributeBase o name X.env (eval o X.env)=eval o X.env:=by rfl)
 (hfew:((backTo cpos (starEach (e::es) X.env)).all (λx=>!x.1)&&(backToKw cpos (keywordEach [] X.env)).all (λx=>x.1.isSome)
   && decide ((e::es).length+([]:List Keyword).length+(if([]:List Keyword).isEmpty then 0 else 1)<30))=true:=by rfl)
 (hline:(apos.endLine == cpos.line)=true:=by rfl) (hs:starEach (e::es) X.env=(false,eval e X.env)::starEach es X.env:=by rfl) (hplain:(backTo cpos (starEach es X.env)).any (·.1)=false:=by rfl) :
 PE X (.Call (.Attribute o name apos) (e::es) [] cpos) (tBM X.K T r to t):=by
 intro pins s σ H Q I h;refine wpAny_Call_method_late hbase hfew hline rfl (thn (ho pins s σ H _ I h) λv s1 ⟨x,H1,I1,r1,ty,q1⟩=>?_);obtain⟨h1,h2⟩:=wg I1 r1 ty;refine⟨T,id,pa,slot,hty,h1,h2,?_⟩;have hA:=ha cpos pins s1 σ H1 _ I1 q1;rw[hs]at hA ⊢;refine Calls.callWith_builtin (by show(false || (backTo cpos (starEach es X.env)).any (·.1))=false;rw[hplain]<;>rfl) (Calls.evalArgs_plain ?_);exact thn hA λus s2 ⟨vs,H2,I2,r2,q2⟩=>hm pins s2 σ H2 x vs v us Q I2 r1 r2 q2
end
noncomputable def MtM(X:Cx)(id:String)(r:V->List V->Hp->VK->Prop):Prop :=
 ∀(pins:List (Addr×Obj)) (s:Shared) (σ:St) (H:Hp) (x:V) (xs:List V) (v:Value) (us:List Value) (Q:VK),Inv X pins σ H s->RelV x v->Vals xs us->r x xs H Q ->
  wpAny (model X.prog X.w) X.A (call (.builtin id) (v::us)) (EP X pins σ Q) X.xe s
theorem Vals.one:∀{x:V} {us:List Value},Vals [x] us->∃u,us=[u]/\RelV x u
 |_,_,.cons r .nil=>⟨_,rfl,r⟩
theorem Vals.two:∀{x y:V} {us:List Value},Vals [x,y] us->∃u v,us=[u,v]/\RelV x u/\RelV y v
 |_,_,_,.cons r (.cons q .nil)=>⟨_,_,rfl,r,q⟩
theorem Vals.zero:∀{us:List Value},Vals [] us->us=[]
 |_,.nil=>rfl
theorem Vals.dropLast{xs:List V}{us:List Value}(h:Vals xs us):Vals xs.dropLast us.dropLast:=by
 induction h with
 |nil=>exact .nil
 |cons r t ih =>
  cases t with
  |nil=>exact .nil
  |cons q t'=>exact .cons r ih
theorem Vals.eraseIdx:∀{xs:List V} {us:List Value} (i:Nat),Vals xs us->Vals (xs.eraseIdx i) (us.eraseIdx i)
 |_,_,_,.nil=>.nil
 |_,_,0,.cons _ t=>t
 |_,_,i+1,.cons r t=>.cons r (Vals.eraseIdx i t)
theorem Vals.reverse{xs:List V}{us:List Value}(h:Vals xs us):Vals xs.reverse us.reverse:=by
 induction h with
 |nil=>exact .nil
 |cons r t ih=>rw[List.reverse_cons,List.reverse_cons];exact Vals.append ih (.cons r .nil)
theorem Vals.rep{xs:List V}{us:List Value}(h:Vals xs us):∀k:Nat,Vals (List.replicate k xs).flatten (List.replicate k us).flatten
 |0=>.nil
 |k+1=>by rw[Rl,Rl,Sa,Sa];exact Vals.append h (Vals.rep h k)
theorem KF{α:Type}(l:List α):l.eraseIdx (l.length-1)=l.dropLast:=by
 induction l with
 |nil=>rfl
 |cons a r ih =>
  cases r with
  |nil=>rfl
  |cons b r =>
   have e:(a::b::r).length-1=((b::r).length-1)+1:=by have h1:(a::b::r).length=r.length+2:=rfl;have h2:(b::r).length=r.length+1:=rfl;omega
   rw[e,List.eraseIdx_cons_succ,ih]
   all_goals rfl
theorem AN(its:List Value):∀(k:Nat) (acc:List Value),
 List.foldl (λx1 x2=>x1++x2) acc.toArray (List.replicate k its.toArray)=(acc++(List.replicate k its).flatten).toArray
 |0,acc=>by simp
 |k+1,acc=>by
  have e:acc.toArray++its.toArray=(acc++its).toArray:=by simp
  have e2:(acc++its)++(List.replicate k its).flatten=acc++(List.replicate (k+1) its).flatten:=by rw[Rl,Sa,Sb]
  rw[<- e2,<- AN its k (acc++its),<- e,Rl,List.foldl_cons]
section
variable {X:Cx}{pins:List (Addr×Obj)}{σ:St}{H:Hp}{s:Shared}{l b:Addr}{xs ys zs:List V}
theorem Inv.lset{its its':List Value}{n:Nat}{f:Array Value->Array Value}{t':Nat}(I:Inv X pins σ H s)(hH:H l=some (.lst xs))
 (e:s.heap.get? l=some { cls:=.type "list",data:=.seq its.toArray n }) (hf:f its.toArray=its'.toArray) (hv:Vals ys its') (hz:ys.length<=sizeLine) :
 Inv X pins σ (upd H l (.lst ys)) { s with heap:=s.heap.update l (Obj.mapSeq f),toks:=t' }:=by
 have q:=PySem.IsL.update e f;rw[hf]at q;refine I.write (x:=l) (e:=l) (by rw[hH];exact trivial) (.inl rfl) (λb' u hb hu=>(Heap.get?_update_other s.heap (Obj.mapSeq f) (Ne.symm hb)).trans hu) ⟨_,q⟩ ?_;exact⟨hz,its',_,hv,q⟩
theorem Inv.lnew{its:List Value}{t':Nat}(I:Inv X pins σ H s)(hv:Vals ys its)(hz:ys.length<=sizeLine) :
 Inv X pins σ (upd H s.heap.objs.size (.lst ys)) { s with heap:=s.heap.push { cls:=.type "list",data:=.seq its.toArray },toks:=t' } :=
 I.laid (λ_ _ q=>Heap.get?_push_of_some _ q) (PF _) ⟨hz,its,0,hv,Heap.get?_push_size _ rfl⟩
theorem Inv.fresh(I:Inv X pins σ H s):H s.heap.objs.size=none:=I.hok.fresh (PF _)
theorem Inv.lstM(I:Inv X pins σ H s)(hH:H l=some (.lst xs)):xs.length<=sizeLine/\∃(its:List Value) (n:Nat),Vals xs its/\xs.length=its.length/\s.heap.get? l=some { cls:=.type "list",data:=.seq its.toArray n }:=by obtain⟨z,its,n,r,e⟩:=I.hok l _ hH;exact⟨z,its,n,r,r.length,e⟩
theorem Hg{n:Nat}(h:n<=sizeLine):Builtin.List.listTooLong n=false:=by unfold Builtin.List.listTooLong;exact decide_eq_false (by omega)
end
section
variable {X:Cx}
noncomputable def E4:V->List V->Hp->VK->Prop:=λx vs H Q=>∃l xs y,x=.ref l/\vs=[y]/\H l=some (.lst xs)/\xs.length<sizeLine/\Q .non (upd H l (.lst (xs++[y])))
theorem gE:MtM X "list.append" E4:=by intro pins s σ H x vs v us Q I rx rv h;obtain⟨l,xs,y,rfl,rfl,hH,hz,q⟩:=h;cases rx;obtain⟨u,rfl,ru⟩:=rv.one;obtain⟨z,its,n,r,hl,e⟩:=I.lstM hH;refine call_meets F.slot_list_append ⟨_,e,rfl⟩ F.entry_list_append (F.args_list_append_2 _ _) (PySem.list_append l its.toArray n u (by rw[Qn];omega)) ⟨e,?_⟩;refine⟨.non,_,I.lset (its':=its++[u]) hH e (by simp) (r.append (.cons ru .nil)) ?_,rfl,q⟩;rw[Qi,List.length_singleton];omega
noncomputable def EX:V->List V->Hp->VK->Prop:=λx vs H Q=>∃l xs y,x=.ref l/\vs=[]/\H l=some (.lst xs)/\xs[xs.length-1]?=some y/\Q y (upd H l (.lst xs.dropLast))
theorem Ht:MtM X "list.pop" EX:=by
 intro pins s σ H x vs v us Q I rx rv h;obtain⟨l,xs,y,rfl,rfl,hH,hy,q⟩:=h;cases rx;have hus:=rv.zero;subst hus;obtain⟨z,its,n,r,hl,e⟩:=I.lstM hH;obtain⟨u,hu,ru⟩:=r.get hy
 have hy':its.toArray[its.toArray.size-1]?=some u:=by show its.toArray[its.length-1]?=some u;rw[<- Array.getElem?_toList,<- hl];exact hu
 refine call_meets F.slot_list_pop ⟨_,e,rfl⟩ F.entry_list_pop (F.args_list_pop_1 _) (MeetsSeq.list_pop_last l its.toArray n u hy' (by rw[Qn];omega)) ⟨e,?_⟩;refine⟨y,_,I.lset (its':=its.dropLast) hH e ?_ r.dropLast ?_,ru,q⟩
 ·show its.toArray.eraseIdxIfInBounds (its.toArray.size-1)=its.dropLast.toArray;rw[Qn,List.eraseIdxIfInBounds_toArray,KF]
 ·rw[List.length_dropLast];omega
noncomputable def EV:V->List V->Hp->VK->Prop:=λx vs H Q=>∃l xs,x=.ref l/\vs=[]/\H l=some (.lst xs)/\Q .non (upd H l (.lst xs.reverse))
theorem Hs:MtM X "list.reverse" EV:=by intro pins s σ H x vs v us Q I rx rv h;obtain⟨l,xs,rfl,rfl,hH,q⟩:=h;cases rx;have hus:=rv.zero;subst hus;obtain⟨z,its,n,r,hl,e⟩:=I.lstM hH;refine call_meets F.slot_list_reverse ⟨_,e,rfl⟩ F.entry_list_reverse (F.args_list_reverse_1 _) (AutoSeq1.list_reverse_list_0 l its.toArray n (by rw[Qn];omega)) ⟨e,?_⟩;refine⟨.non,_,I.lset (its':=its.reverse) hH e (by simp) r.reverse ?_,rfl,q⟩;rw[List.length_reverse];omega
def EW:R2:=λx y H Q=>∃l k xs,x=.ref l/\y=.int k/\H l=some (.lst xs) /\ -(2^63)<=k/\k<2^63/\xs.length*k.toNat<=sizeLine /\
 ∀p,H p=none->Q (.ref p) (upd H p (.lst (List.replicate k.toNat xs).flatten))
theorem IE{α:Type}(xs:List α)(k:Nat):(List.replicate k xs).flatten.length=k*xs.length:=by
 induction k with
 |zero=>simp
 |succ k ih=>rw[Rl,Sa,Qi,ih,Nat.succ_mul,Nat.add_comm]
theorem sW:OpR X (binaryOp .Mult) EW:=by
 intro pins s σ H x y v u Q I rx ry h;obtain⟨l,k,xs,rfl,rfl,hH,h1,h2,hz,q⟩:=h;cases rx;obtain⟨t,rfl⟩:=ry;obtain⟨z,its,n,r,hl,e⟩:=I.lstM hH;have hlen:its.toArray.size*k.toNat<=sizeLine:=by rw[Qn,<- hl];exact hz
 have hcap:¬its.toArray.size*k.toNat>(2^63-1)/8:=by
  have:(sizeLine:Nat)<=(2^63-1)/8:=by decide
  omega
 have hfit:¬(!Builtin.List.listFitsIndex k)=true:=by rw[fitsIndex_both h1 h2];exact Ry
 have hlong:¬Builtin.List.listTooLong (its.toArray.size*k.toNat)=true:=by rw[Hg hlen];exact Ry
 have hnew:List.foldl (λx1 x2=>x1++x2) #[] (List.replicate (if its.toArray.isEmpty=true then 0 else k.toNat) its.toArray)=(List.replicate k.toNat its).flatten.toArray:=by
  have f0:∀m:Nat,List.foldl (λx1 x2=>x1++x2) #[] (List.replicate m its.toArray)=(List.replicate m its).flatten.toArray:=λm=>by have:=AN its m [];rw[List.nil_append]at this;exact this
  rw[f0];cases its with
  |nil=>simp
  |cons a r'=>rw[if_neg (by simp)]
 refine wpAny_binaryOp_repeat_ref (T:="list") (U:="int") (by decide) ⟨_,e,rfl⟩ (λs'=>typeIs_int s' k t) noFill_list_mul F.fills_int_mul F.slot_int_rmul repeat_list F.slot_int_index.lookup
  (call_meets F.slot_int_rmul (typeIs_int s k t) F.entry_int_rmul (F.args_int_rmul_2 _ _) (int___rmul___int_list k t l its.toArray n)
    ⟨e,rfl,⟨_,e,rfl⟩,call_meets F.slot_list_mul ⟨_,e,rfl⟩ F.entry_list_mul (F.args_list_mul_2 _ _) (AutoListH.list___mul___list_int_3 l its.toArray n k t hfit hcap hlong) ⟨e,?_⟩⟩)
 rw[hnew];exact⟨.ref _,_,I.lnew (t':=s.toks) (r.rep k.toNat) (by rw[IE,Q3];exact hz),rfl,q _ I.fresh⟩
end
section
variable {prog:Program}{w:World}{A:Around}{E:Value->Shared->Prop}{s:Shared}
end
section
variable {X:Cx}
end
end L2
namespace Att
open PySem PySem.W PySem.Calls PyProof.Rows
theorem JE{P:Params}{h:Heap}:∀(ns:List Int) (vs:List Value),WellAll P h vs (ns.map WData.int)->IntsAre vs ns:=by
 intro ns
 induction ns with
 |nil =>intro vs w;rw[List.map_nil]at w;cases w;exact .nil
 |cons n ns ih =>
  intro vs w;rw[QG]at w;cases w with
  |cons a b =>cases a;exact .cons _ _ (ih _ b)
theorem DS{l:OpenLaw}{n:Nat}(hn:l.most=some n){P:Params}{h:Heap}{args:List WData}{vals:List Value}
 (hpre:l.row.toRowW.claim.pre args=true) (hwl:WellAll P h vals args) :
 ∃a vs ns,vals=[Value.ref a]/\args=[WData.list (ns.map WData.int)]/\h.get? a=some { cls:=.type "list",data:=.seq vs.toArray }/\IntsAre vs ns/\ns.length<=n:=by
 have hsh:WShape.hasAll [] args [.list .int]=true:=(pre_splitW hpre).1;have hc:l.pre.holds [] { args:=args }=true:=(pre_splitW hpre).2;obtain⟨d,r,rfl,h1,h2⟩:=hasAllW_cons hsh;obtain rfl:=hasAllW_nil h2;obtain⟨xs,rfl,h3⟩:=hasW_list h1;obtain⟨ns,rfl⟩:=items_int h3
 have hlen:ns.length<=n:=by
  unfold OpenLaw.pre at hc
  have h4:(WTm.not (.lt (.lit (.int (n:Int))) (.len (.arg 0)))).holds [] { args:=[.list (ns.map .int)] }=true:=by have h4:=(holds_andW hc).1;rw[hn]at h4;exact h4
  have h5:=condW_of h4 (w_not (w_lt w_lit (w_len_list (w_arg rfl))));rw[PC]at h5;refine QS λq=>?_
  have q':(n:Int)<((ns.length:Nat):Int):=by omega
  first
   | (rw[decide_eq_true q']at h5;exact absurd h5 (by decide))
   | (simp at h5;omega)
 cases hwl with
 |cons w1 w2 =>
  cases w2;cases w1 with
  |list ho hall=>exact⟨_,_,ns,rfl,rfl,ho,JE ns _ hall,hlen⟩
theorem Fg(l:OpenLaw)(args:List WData):l.row.toRowW.claim.post args (.bool true) args=true :=
 postW_of (r:=l.row.toRowW) (X:=(true == true))
  (show WShape.has [] (.bool true) .bool=true by first |rfl |decide |simp[WShape.has,WShape.arms,WShape.armsAll])
  (show(WTm.eq .res (.lit (.bool true))).value [] { args:=args,res:=some (.bool true),after:=args }=some (.bool (true == true))from w_eq_bool (w_res rfl) w_lit) rfl
theorem attach_call{l:OpenLaw}{n:Nat}{q:Program}{loose:List Str}{XP:(Str->Option Value)->Heap->Prop}{YP:World->Heap->Prop}{d:DefRec}
 (hn:l.most=some n) (hdf:d.params.defaults=[])
 (call:∀(w:World) (s₀ s₁:Shared) (mg mb:Str->Option Value) (fa:Addr) (o:Obj) (pm cd doc:Value) (a:Addr) (vs:List Value) (ns:List Int),
   Ground q loose [] XP w s₀ mg mb s₁.heap->YP w s₁.heap ->
   s₁.heap.get? fa=some o->o.data=.func (docDef d.name d.params d.body d.scope pm cd doc)->s₁.heap.CodeRec cd d.name->mg d.name=some (.ref fa) ->
   s₁.heap.get? a=some { cls:=.type "list",data:=.seq vs.toArray }->IntsAre vs ns->ns.length<=n->s₁.gens=#[] ->
   codeAny (model l.prog w) callerA (.call (.ref fa) ⟨[.ref a],[]⟩) (λr s'=>r=.ok (.ret (.bool true))/\OldK s₁.heap s'.heap/\s'.os=s₁.os/\AllBare s'.gens) s₁) :
 WalkO q loose XP YP l.row.toRowW d [] (λf vs=>PySem.call f vs):=by
 intro w s₀ s₁ mg mb G Y fa o pm cd doc dV kV ho hd hcd hD hmg hg args vals as hpre hlay hrd hwl hlo;obtain rfl:dV=.none:=Dflts.none hD hdf;obtain rfl:kV=.none:=Dflts.noKw hD;obtain⟨a,vs,ns,rfl,rfl,hobj,hints,hlen⟩:=DS hn hpre hwl;refine enter_call (codeAny_mono (call w s₀ s₁ mg mb fa o pm cd doc a vs ns G Y ho (fd_plain hd) hcd hmg hobj hints hlen hg) λr s' hq=>?_);obtain⟨rfl,h2,h3,h4⟩:=hq;exact⟨.inl ⟨.bool true,.bool true,[],rfl,λ_=>rfl,.bool true,Fg l _,λ_=>⟨List.Pairwise.nil,λ_ hm=>(nomatch hm)⟩⟩,h2,h3,h4⟩
section
variable {prog:Program}{w:World}{A:Around}{E:Value->Shared->Prop}{s:Shared}{K:Frag}
end
end Att
namespace L2
open PySem PySem.Spec PyProof.Rows
theorem wb:∀{vs:List Value} {ns:List Int},IntsAre vs ns->Vals (ns.map V.int) vs
 |_,_,.nil=>.nil
 |_,_,.cons n t h=>.cons ⟨t,rfl⟩ (wb h)
def vC(H:Hp):Prop:=∀b,H b=none\/∃o xs,H b=some (.frz o (.lst xs))
noncomputable def ja(s:Stmt)(j:Nat):Stmt:=match s with
 |.ClassDef _ _ _ body _ _ _ _ _ _ _=>body.getD j (.Pass ⟨0,0,0,0⟩)
 |_=>.Pass ⟨0,0,0,0⟩
noncomputable def dX(s:Stmt):Arguments:=match s with
 |.FunctionDef _ a _ _ _ _ _ _ _ _=>a
 |_=>{ posonlyargs:=[],args:=[],vararg:=none,kwonlyargs:=[],kw_defaults:=[],kwarg:=none,defaults:=[] }
noncomputable def dI(s:Stmt):List Stmt:=match s with
 |.FunctionDef _ _ b _ _ _ _ _ _ _=>b
 |_=>[]
noncomputable def aD(s:Stmt):Scope:=match s with
 |.FunctionDef _ _ _ _ _ _ sc _ _ _=>sc
 |_=>{ kind:=.function,names:=[],isGenerator:=false,isCoroutine:=false }
abbrev CX0:CXT:=λ_ _ _ _ _ _=>False
abbrev E0:XK:=λ_ _ _=>False
theorem ai{X:Cx}:jr CX0 X E0:=λ_ _ _ _ _ _ _ h=>h.elim
structure Fun(K:PySem.W.Frag)(x qual:Str)(st:Stmt)(f:Addr)(fd:FuncData):Prop where
 ex:∃(oc:Value) (od:Option Addr) (kV doc pm:Value) (an:Option Addr) (cdv ct:Value) (osl:Array (Option Value)),
  fd=PySem.W.fnOf x qual (dX st) (dI st) (aD st) .none kV doc pm an cdv ct/\K.lookup f=some ⟨oc,od,.func fd,osl⟩/\PySem.W.codeIn K cdv qual=true
 kp:PySem.W.keepIn K (.ref f)=true
section
variable {P:Program}{w:World}{K:PySem.W.Frag}{mg:Str->Option Value}{base:Heap}
theorem Fun.ok{x qual:Str}{st:Stmt}{f:Addr}{fd:FuncData}{N ps:List Str}{k:Nat}{sp:Sp}(F:Fun K x qual st f fd)(S:FnScope N ps (aD st))(len:∀vs H Q E,sp vs H Q E->vs.length=ps.length)
 (hbody:∀(cdv:Value) (A:Around) (outer:List Env) (s:Shared) (H:Hp) (vs:List V) (Q:VK) (E:XK),Room k (A.deeper (envOfC qual (aD st) s.heap.objs.size f cdv))->sp vs H Q E ->
   ∃t,PSs (jg CX0 P w K mg base N qual (aD st) f cdv A outer s H E).nox (dI st) t/\t { nx:=λ_ H'=>Q .non H',rt:=Q } (start N vs) H):FnOk P w K mg base CX0 (k+1) f fd ps sp:=by
 obtain⟨oc,od,kV,doc,pm,an,cdv,ct,osl,rfl,lk,hcd⟩:=F.ex;refine AQ lk hcd S len λA outer s H vs Q E hr hsp=>?_
 obtain⟨t,h,q⟩:=hbody cdv A outer s H vs Q E hr hsp;exact⟨t,h.nox,q⟩
theorem Fun.binds{x qual:Str}{st:Stmt}{f:Addr}{fd:FuncData}{ps:List Str}(F:Fun K x qual st f fd)
 (h:∀(kV doc pm:Value) (an:Option Addr) (cdv ct:Value) (us:List Value),us.length=ps.length->bindArgs (PySem.W.fnOf x qual (dX st) (dI st) (aD st) .none kV doc pm an cdv ct) ⟨us,[]⟩=pure (ps.zip us)):Binds K fd ps []:=by
 obtain⟨oc,od,kV,doc,pm,an,cdv,ct,osl,rfl,lk,hcd⟩:=F.ex;exact .all (h kV doc pm an cdv ct)
theorem AK{x qual:Str}{st:Stmt}{f:Addr}{oc:Value}{od an:Option Addr}{osl:Array (Option Value)}{kV doc pm cdv ct:Value}(l:K.lookup f=some ⟨oc,od,.func (PySem.W.fnOf x qual (dX st) (dI st) (aD st) .none kV doc pm an cdv ct),osl⟩)
 (c:PySem.W.codeIn K cdv qual=true) (k:PySem.W.keepIn K (.ref f)=true):Fun K x qual st f (PySem.W.fnOf x qual (dX st) (dI st) (aD st) .none kV doc pm an cdv ct):=⟨⟨oc,od,kV,doc,pm,an,cdv,ct,osl,rfl,l,c⟩,k⟩
end
section
variable {X:Cx}
theorem pv(i:Nat){x:Str}{pos:Pos}(hN:X.N[i]?=some x:=by rfl)(hv:Vis X.env.scope x:=by first |exact Or.inl rfl |exact Or.inr (Or.inl rfl) |exact Or.inr (Or.inr rfl))(hd:(x == ("__debug__":Str))=false:=by decide)
 (hcd:(x == ("__classdict__":Str))=false:=by decide):PE X (.Name x pos) (wt i):=Fu hN hv hd hcd
end
def Same(H H':Hp):Prop:=∀b o,H b=some o->H' b=some o
theorem Same.refl(H:Hp):Same H H:=λ_ _ h=>h
theorem Same.trans{H H1 H2:Hp}(a:Same H H1)(b:Same H1 H2):Same H H2:=λc o h=>b c o (a c o h)
theorem Same.free{H H':Hp}(e:Same H H'){l:Addr}(h:H' l=Option.none):H l=Option.none:=by
 cases q:H l with
 |none=>rfl
 |some o =>rw[e l o q]at h;cases h
theorem Same.seq{K:PySem.W.Frag}{H H':Hp}{a:Addr}{xs:List V}(e:Same H H')(h:SqL K H a xs):SqL K H' a xs:=by
 rcases h with(h |⟨o,h⟩) |h
 ·exact .inl (.inl (e _ _ h))
 ·exact .inl (.inr ⟨o,e _ _ h⟩)
 ·exact .inr h
end L2
set_option maxHeartbeats 4000000
namespace L2
open PySem PySem.Spec PyProof.Rows
noncomputable def io(X:Cx)(N:List Str)(scope:Scope)(cl:List (Str×Addr))(C:Addr)(s₀:Shared)(H₀:Hp)(ex:List Addr):Cx where
 prog:=X.prog
 w:=X.w
 K:=X.K
 mg:=X.mg
 base:=X.base
 A:=X.A
 N:=N
 s₀:=s₀
 H₀:=H₀
 env:=compEnvC scope cl C X.env
 outer:=X.stack
 stack:=X.stack
 ex:=ex
 fn:=λ_=>false
 calm:=X.calm
 pn:=[]
 xe:=λ_ _=>False
structure CompOk(X:Cx)(fr:List Str)(js:List Nat)(scope:Scope)(cl:List (Str×Addr)):Prop where
 clos:closureFor scope X.env=pure cl
 cell:∀y∈scope.names,y.2≠.cell
 kind:scope.kind=.function
 names:∀y∈scope.names,y.2=.local->scope.names.lookup y.1=some .local
 clin:∀p∈cl,X.env.cells.lookup p.1=some p.2
 has:scope.names.all (λp=>p.2 != .free || (cl.lookup p.1).isSome)=true
 fre:Paired (λ(x:Str) (j:Nat)=>X.N[j]?=some x/\(X.env.scope.names.lookup x=some .cell\/X.env.scope.names.lookup x=some .free)/\scope.names.lookup x=some .free) fr js
theorem sE{env:Env}{x:Str}{k':NameKind}:∀{names:List (Str×NameKind)},
 (names.map λ(n,k)=>if(k == NameKind.free&&env.scope.kind == .function&&env.kindOf n == some .cell)then(n,NameKind.cell)else(n,k)).lookup x=some k' ->
 ∃k,names.lookup x=some k/\(k'=k\/(k=.free/\k'=.cell))
 | [],h=>by simp at h
 | (n,k)::r,h=>by
  have ih:=@sE env x k' r;change List.lookup x ((if(k == NameKind.free&&env.scope.kind == .function&&env.kindOf n == some .cell)=true then(n,NameKind.cell)else(n,k))::_)=_ at h
  by_cases hc:(k == NameKind.free&&env.scope.kind == .function&&env.kindOf n == some .cell)=true
  ·rw[if_pos hc]at h;cases hx:x == n with
   |true =>simp only[Rm,hx]at h ⊢;cases h;refine⟨k,rfl,.inr ⟨?_,rfl⟩⟩;simp only[Bool.and_eq_true,beq_iff_eq]at hc;exact hc.1.1
   |false =>simp only[Rm,hx]at h ⊢;exact ih h
  ·rw[if_neg hc]at h;cases hx:x == n with
   |true =>simp only[Rm,hx]at h ⊢;cases h;exact⟨_,rfl,.inl rfl⟩
   |false =>simp only[Rm,hx]at h ⊢;exact ih h
theorem yz{env:Env}{x:Str}:∀{names:List (Str×NameKind)},names.lookup x=some .free ->
 (names.map λ(n,k)=>if(k == NameKind.free&&env.scope.kind == .function&&env.kindOf n == some .cell)then(n,NameKind.cell)else(n,k)).lookup x=some .cell \/
 (names.map λ(n,k)=>if(k == NameKind.free&&env.scope.kind == .function&&env.kindOf n == some .cell)then(n,NameKind.cell)else(n,k)).lookup x=some .free
 | [],h=>by simp at h
 | (n,k)::r,h=>by
  have ih:=@yz env x r;show List.lookup x ((if(k == NameKind.free&&env.scope.kind == .function&&env.kindOf n == some .cell)=true then(n,NameKind.cell)else(n,k))::_)=_\/List.lookup x ((if(k == NameKind.free&&env.scope.kind == .function&&env.kindOf n == some .cell)=true then(n,NameKind.cell)else(n,k))::_)=_;by_cases hc:(k == NameKind.free&&env.scope.kind == .function&&env.kindOf n == some .cell)=true
  ·rw[if_pos hc];cases hx:x == n with
   |true=>simp only[Rm,hx];exact .inl trivial
   |false=>simp only[Rm,hx]at h ⊢;exact ih h
  ·rw[if_neg hc];cases hx:x == n with
   |true =>simp only[Rm,hx]at h ⊢;cases h;exact .inr rfl
   |false=>simp only[Rm,hx]at h ⊢;exact ih h
noncomputable def ig(n:Nat)(js:List Nat)(σ:St):St:=List.replicate n none++js.map λj=>(σ[j]?).join
def pG(n:Nat)(js:List Nat)(g:TG)(te:TE)(σ:St)(Q:VK)(J:It)(H1:Hp):Prop:=∃W:Nat->Nat->List V->St->Hp->Prop,(∃m,W 0 m [] (ig n js σ) H1) /\
 ∀i m ys σ' H',W i m ys σ' H' ->
  (J.stop i H'/\∀p,H' p=none->Q (.ref p) (upd H' p (.lst ys))) \/
  (J.go i H'/\ys.length<sizeLine/\∃N:V->St->Hp->Prop,(∀y σ'' H'',N y σ'' H''->∃m',m'<m/\W (i+1) m' (ys++[y]) σ'' H'')/\∀x H2,J.yld i H' x H2->g x σ' H2 λσ3 H3=>te σ3 H3 λy H4=>N y σ3 H4)
def Df(n:Nat)(js:List Nat)(wi:TI)(g:TG)(te:TE):TE:=λσ H Q=>wi σ H λJ H1=>pG n js g te σ Q J H1
noncomputable def MW(X:Cx)(pins:List (Addr×Obj))(σ:St)(Q:VK)(D C:Addr)(s':Shared):Prop :=
 ∃H2,Inv X pins σ H2 s'/\Q (.ref D) H2/\H2 C=none/\C≠X.env.locals/\X.s₀.heap.objs.size<=C/\(∀x c,X.env.cells.lookup x=some c->c≠C)/\(∀p∈X.pn++pins,p.1≠C)/\∃m,s'.heap.Ns C m
section
variable {X:Cx}{own fr:List Str}{js:List Nat}{scope:Scope}{cl:List (Str×Addr)}{elt target iter:Expr}{pos:Pos}{wi:TI}{g:TG}{te:TE}
theorem iq(O:CompOk X fr js scope cl){x:Str}{c:Addr}(e:cl.lookup x=some c):X.env.cells.lookup x=some c:=O.clin (x,c) (PySem.mem_of_lookup e)
theorem Bo{pins:List (Addr×Obj)}{σ:St}{H:Hp}{s:Shared}{fp:List Addr}{C:Addr}(O:CompOk X fr js scope cl)(I:Inv X pins σ H s)(hC:s.heap.objs.size<=C)(hf:∀b∈fp,fV X pins H b)(ho:∀b∈fp,b<s.heap.objs.size) :
 (io X (own++fr) scope cl C s H fp).Ok:=by
 refine⟨I.ok.mod,O.kind,I.ok.glob,I.ok.blt,hC,λx y c h1 h2=>I.ok.inj x y c (iq O h1) (iq O h2),λx hx=>?_,λx c h=>(by cases h),I.ok.hd,I.ok.frames,.inl rfl,λb hb=>?_,I.bs,?_,λb o e hb=>?_,λb hb hb'=>?_,I.stack,I.stkFree⟩
 ·have key:scope.names.lookup x=some .free:=by
   have hx':(scope.names.map λ(n,k)=>if(k == NameKind.free&&X.env.scope.kind == .function&&X.env.kindOf n == some .cell)then(n,NameKind.cell)else(n,k)).lookup x=some .cell \/
    (scope.names.map λ(n,k)=>if(k == NameKind.free&&X.env.scope.kind == .function&&X.env.kindOf n == some .cell)then(n,NameKind.cell)else(n,k)).lookup x=some .free:=hx
   rcases hx' with h |h
   ·obtain⟨k,e,z⟩:=sE h;rcases z with z |⟨z,_⟩
    ·subst z;exact absurd rfl (O.cell _ (PySem.mem_of_lookup e))
    ·subst z;exact e
   ·obtain⟨k,e,z⟩:=sE h;rcases z with z |⟨_,z⟩
    ·subst z;exact e
    ·cases z
  have hm:=List.all_eq_true.mp O.has _ (PySem.mem_of_lookup key);have hs:(cl.lookup x).isSome=true:=by simpa using hm
  exact Option.isSome_iff_exists.mp hs
 ·obtain⟨f0,f1,f2,f3,f4,f5⟩:=hf b hb;exact⟨Qj (Qr (ho b hb) hC),λx c e=>f4 x c (iq O e)⟩
 ·exact PX I.ok.bsz I.sz
 ·obtain⟨f0,f1,f2,f3,f4,f5⟩:=hf b hb;rcases f3 with z |z
  ·exact I.ok.noex b o e z
  ·exact absurd (Qr (Heap.lt_size e) (PX I.ok.bsz z)) (QM _)
 ·obtain⟨f0,f1,f2,f3,f4,f5⟩:=hf b hb;rcases PM.mp (I.stkSub b hb')with z |z
  ·exact f1 z
  ·exact f2 z
theorem Paired.idx{α β:Type}{F:α->β->Prop}:∀{l₁:List α} {l₂:List β},Paired F l₁ l₂->∀(i:Nat) (a:α) (b:β),l₁[i]?=some a->l₂[i]?=some b->F a b
 |_,_,.nil,_,_,_,h,_=>by simp at h
 |_,_,.cons r _,0,a,b,h1,h2=>by simp at h1 h2;subst h1;subst h2;exact r
 |_,_,.cons _ t,i+1,a,b,h1,h2=>Paired.idx t i a b (by simpa using h1) (by simpa using h2)
theorem KT{pins:List (Addr×Obj)}{σ:St}{H:Hp}{s s':Shared}{fp:List Addr}{C:Addr}{m:Str->Option Value}(O:CompOk X fr js scope cl)(hl:fr.length=js.length)(I:Inv X pins σ H s)(hC:s.heap.objs.size<=C)(hf:∀b∈fp,fV X pins H b)
 (ho:∀b∈fp,b<s.heap.objs.size) (os:s'.os=s.os) (hg:s'.gens=s.gens) (old:∀b o,s.heap.get? b=some o->s'.heap.get? b=some o) (hn:s'.heap.Ns C m) :
 Inv (io X (own++fr) scope cl C s H fp) [] (ig own.length js σ) H s':=by
 refine⟨Bo O I hC hf ho,os,by rw[hg];exact I.bare,Un.kept old,⟨m,hn,λi x v e1 e2 e3=>?_⟩,λx c e=>?_,I.hok.fresh hC,λx c e=>I.freeC x c (iq O e),λp hp=>absurd (show p∈([]:List (Addr×Obj))from hp) (by simp),I.hok.kept old,?_⟩
 ·unfold ig at e2
  have e1':(own++fr)[i]?=some x:=e1;by_cases hi:i<own.length
  ·rw[List.getElem?_append_left (by simpa using hi),List.getElem?_replicate]at e2;split at e2<;>cases e2
  ·have hi':own.length<=i:=QS hi;rw[List.getElem?_append_right (by simpa using hi'),Sk,List.getElem?_map]at e2;rw[List.getElem?_append_right hi']at e1';cases ej:js[i-own.length]? with
   |none=>rw[ej]at e2;cases e2
   |some j =>
    rw[ej]at e2;have e2':(σ[j]?).join=some v:=Option.some.inj e2
    have eσ:σ[j]?=some (some v):=by
     cases q:σ[j]? with
     |none=>rw[q]at e2';cases e2'
     |some o=>rw[q]at e2';simp at e2';rw[e2']
    obtain⟨hN,hk,hs⟩:=Paired.idx O.fre _ x j e1' ej;obtain⟨mo,hmo,hlo⟩:=I.loc;have vis:Vis X.env.scope x:=hk.elim (λz=>.inr (.inl z)) λz=>.inr (.inr z)
    obtain⟨u,r,l⟩:=hlo j x v hN eσ vis;refine⟨u,r,.inr ⟨yz hs,?_⟩⟩;have hm:=List.all_eq_true.mp O.has _ (PySem.mem_of_lookup hs);have hs':(cl.lookup x).isSome=true:=by simpa using hm
    obtain⟨c,ec⟩:=Option.isSome_iff_exists.mp hs';refine⟨c,ec,?_⟩;rcases l with⟨k,_⟩ |⟨_,c',e',z⟩
    ·have k':X.env.scope.names.lookup x=some .local:=k;rcases hk with q |q<;>(rw[q]at k';cases k')
    ·have:=iq O ec;rw[e']at this;cases this;obtain⟨oc,hoc,hd⟩:=z;exact⟨oc,old _ _ hoc,hd⟩
 ·obtain⟨v,oc,hoc,hd⟩:=I.cell x c (iq O e);exact⟨v,oc,old _ _ hoc,hd⟩
 ·unfold ig;show _=(own++fr).length;rw[Qi,Qi,Sk,PC,hl]
theorem Un.adopt{fs ex:List Addr}{H H1:Hp}{h h1:Heap}{a:Addr}{o:HO}(u:Un fs ex H H1 h h1)(ha:h.objs.size<=a)(hn:H a=none):Un fs ex H (upd H1 a o) h h1 where
 keep:=u.keep
 slot:=u.slot
 free:=λb ob q n hx=>by rw[upd_ne (Qj (Qr (Heap.lt_size q) ha))];exact u.free b ob q n hx
 there:=u.there
 tups:=λb xs q=>by rw[upd_ne (aW q hn)];exact u.tups b xs q
 frzs:=λb ob xs q=>by rw[upd_ne (aW q hn)];exact u.frzs b ob xs q
 tbls:=λb ps q=>by rw[upd_ne (aW q hn)];exact u.tbls b ps q
theorem HOk.adopt{P:Program}{w:World}{H:Hp}{h:Heap}{a:Addr}{o:HO}(x:HOk P w H h)(hn:H a=none)(new:ObjOk P w (upd H a o) h a o):HOk P w (upd H a o) h:=λb u e=>by
 by_cases hb:b=a
 ·subst hb;rw[au]at e;cases e;exact new
 ·rw[upd_ne hb]at e;exact(x b u e).stay (λc v _ q=>q) (λc q=>by rw[upd_ne (aW q hn)];exact q) λc xs q=>by rw[upd_ne (aW q hn)];exact q
theorem K9{pins:List (Addr×Obj)}{σ:St}{H:Hp}{s:Shared}{fp:List Addr}{it:Addr}{tn:Nat->Heap->Prop}{J:It}{E:Value->Shared->Prop}{Q:VK}{RR:Value->Addr->Result->Shared->Prop}(O:CompOk X fr js scope cl)(hl:fr.length=js.length)(hcm:X.calm=true)
 (I:Inv X pins σ H s) (T:Turn X.prog X.w X.K target J fp it tn) (st:tn 0 s.heap) (hf:∀b∈fp,fV X pins H b)
 (hg:∀C s₀ H₀ ex,PG (io X (own++fr) scope cl C s₀ H₀ ex) target g) (he:∀C s₀ H₀ ex,PE (io X (own++fr) scope cl C s₀ H₀ ex) elt te)
 (W:Nat->Nat->List V->St->Hp->Prop) {m0:Nat} (w0:W 0 m0 [] (ig own.length js σ) H)
 (turn:∀i m ys σ' H',W i m ys σ' H' ->
   (J.stop i H'/\∀p,H' p=none->Q (.ref p) (upd H' p (.lst ys))) \/
   (J.go i H'/\ys.length<sizeLine/\∃N:V->St->Hp->Prop,(∀y σ'' H'',N y σ'' H''->∃m',m'<m/\W (i+1) m' (ys++[y]) σ'' H'')/\∀x H2,J.yld i H' x H2->g x σ' H2 λσ3 H3=>te σ3 H3 λy H4=>N y σ3 H4))
 (hRR:∀D C s',MW X pins σ Q D C s'->RR (.ref D) C (.ok .next) s') :
 wpAny (model X.prog X.w) X.A (newList []) (λacc s₃=>wpAny (model X.prog X.w) X.A (newFunctionEnv scope X.env.globals cl [] X.env.qual none .none (some X.env)) (λcenv s₄ =>
  codeAny (model X.prog X.w) X.A (.compStart (.ListComp elt [⟨target,iter,[],0⟩] scope pos) 0 (.ref it) acc { cenv with scope:=relabel scope X.env }) (RR acc cenv.locals) s₄) E s₃) E s:=by
 refine wpAny_newObj_type (wpAny_newFunctionEnv O.cell (by intro y hy;simp at hy) (λh₁ hns₁ hsb₁=>?_) O.kind);dsimp only at hns₁ hsb₁ ⊢
 generalize hH2:s.heap.push { cls:=.type "list",dict:=none,data:=.seq ([]:List Value).toArray }=H2 at hns₁ hsb₁ ⊢
 have hCs:H2.objs.size=s.heap.objs.size+1:=by rw[<- hH2,Heap.size_push]
 have hDC:s.heap.objs.size≠H2.objs.size:=by rw[hCs];exact Qj (Q1 _)
 have hCge:s.heap.objs.size<=H2.objs.size:=by rw[hCs];exact Nat.le_succ _
 have below:∀b,b<s.heap.objs.size->b≠H2.objs.size/\b≠s.heap.objs.size:=λb hb=>⟨by rw[hCs];exact Qj (Nat.lt_succ_of_lt hb),Qj hb⟩
 have old:∀b o,s.heap.get? b=some o->h₁.get? b=some o:=λb o e=>hsb₁.extBut b o (below b (Heap.lt_size e)).1 (Heap.get?_push_of_some _ (hH2 ▸ Heap.get?_push_of_some _ e))
 have hacc:h₁.get? s.heap.objs.size=some { cls:=.type "list",data:=.seq ([]:List Value).toArray 0 }:=hsb₁.extBut _ _ hDC (Heap.get?_push_of_some _ (hH2 ▸ Heap.get?_push_size _ rfl));have ho:∀b∈fp,b<s.heap.objs.size:=λb hb=>by obtain⟨o,e,_⟩:=T.obj 0 _ st b hb;exact Heap.lt_size e
 generalize hDe:s.heap.objs.size=D at *
 generalize hCe:H2.objs.size=C at *
 let X':Cx:=io X (own++fr) scope cl C s H fp
 have ok':X'.Ok:=Bo O I (by rw[hDe];exact hCge) hf (by rw[hDe];exact ho)
 have hDfs:D∉X'.fs:=by
  intro z;rcases PM.mp (I.stkSub D z)with q |q
  ·exact absurd I.lt (by rw[<- q,hDe];exact QM _)
  ·exact I.nofs (Rj hDe) q
 have hDfp:∀b∈fp,D≠b:=λb hb z=>absurd (ho b hb) (by rw[z];exact QM _)
 have hDcell:∀x c,cl.lookup x=some c->c≠D:=λx c e z=>by obtain⟨v,q⟩:=I.cell x c (iq O e);exact absurd q.lt (by rw[z,hDe];exact QM _)
 have fpok:∀{H':Hp} {pins':List (Addr×Obj)},(∀p∈pins',p.1=D)->(∀b∈fp,H' b=none)->∀b∈fp,fV X' pins' H' b:=λ{H' pins'} hp hn b hb=>by
  obtain⟨f0,f1,f2,f3,f4,f5⟩:=hf b hb;refine⟨hn b hb,(below b (ho b hb)).1,λz=>?_,.inl hb,λx c e=>f4 x c (iq O e),λp hp'=>?_⟩
  ·rcases PM.mp (I.stkSub b z)with q |q
   ·exact f1 q
   ·exact f2 q
  ·have hp'':p∈pins':=by simpa[X',io]using hp'
   rw[hp p hp''];exact hDfp b hb
 have loop:∀s₃:Shared,s₃={ s with heap:=h₁,toks:=s.toks+([]:List (Str×Value)).length } ->
  codeAny (model X.prog X.w) X.A (.compLoop (.ListComp elt [⟨target,iter,[],0⟩] scope pos) 0 (.ref it) (.ref D) (compEnvC scope cl C X.env)) (RR (.ref D) C) s₃:=by
  rintro s₃ rfl
  refine PySem.W.kcp_loop (λk s'=>∃i σ' H' ys its nn,Inv X' [] σ' H' s'/\tn i s'.heap/\(∀b∈fp,H' b=none)/\H' D=none/\s'.heap.get? D=some { cls:=.type "list",data:=.seq (its:List Value).toArray nn }/\Vals ys its/\ys.length<=sizeLine/\W i k ys σ' H') ?_ m0
   ⟨0,_,H,[],[],0,KT O hl I (by rw[hDe];exact hCge) hf (by rw[hDe];exact ho) rfl rfl (by intro b o e;exact old b o e) hns₁,T.keep _ _ _ st λb _ o e=>old b o e,λb hb=>(hf b hb).1,I.hok.fresh (Rj hDe),hacc,.nil,PK _,w0⟩
  rintro k s' ⟨i,σ',H',ys,its,nn,I',st',hfn,hDn,hDo,rv,hz,w⟩;have hlen:=rv.length;have hpD:∀p∈[(D,({ cls:=.type "list",data:=.seq its.toArray nn }:Obj))],p.1=D:=λp hp=>by rw[PQ.mp hp]
  have Ip:Inv X' [(D,({ cls:=.type "list",data:=.seq its.toArray nn }:Obj))] σ' H' s':=I'.pins_of λp hp=>by rw[PQ.mp hp];exact⟨hDo,hDn,hDC,hDfs,λv z=>by cases z⟩
  rcases turn i k ys σ' H' w with⟨stop,fin⟩ |⟨go,hlt,N,hN,step⟩
  ·refine wpAny_mono (T.done X' rfl rfl rfl hcm i _ s' σ' H' (λ_ _=>False) Ip (fpok hpD hfn) st' stop) (λr s4 ⟨hr,I4⟩=>?_) λ_ _ z=>False.elim z
   subst hr;refine hRR D C s4 ?_;have hD4:s4.heap.get? D=some { cls:=.type "list",data:=.seq its.toArray nn }:=(I4.pin _ (Qz _ (PQ.mpr rfl))).1;have un:Un (frs X.stack) fp H (upd H' D (.lst ys)) s.heap s4.heap:=Un.adopt I4.base (Rj hDe) (I.hok.fresh (Rj hDe));have hok:HOk X.prog X.w (upd H' D (.lst ys)) s4.heap:=HOk.adopt I4.hok hDn ⟨hz,its,nn,rv,hD4⟩;refine⟨upd H' D (.lst ys),I.call' I4.os un hok I4.bare λb hb=>?_,fin D hDn,?_,?_,?_,λx c e z=>?_,λp hp z=>?_,?_⟩
   ·obtain⟨f0,f1,f2,f3,f4,f5⟩:=hf b hb;exact⟨f3,f1,f4,f5⟩
   ·rw[upd_ne (Ne.symm hDC)];exact I4.free
   ·exact Nat.ne_of_gt (Qr I.lt (by rw[hDe];exact hCge))
   ·exact PX I.sz (by rw[hDe];exact hCge)
   ·obtain⟨v,q⟩:=I.cell x c e;exact absurd (Qr q.lt (by rw[hDe,z];exact hCge)) (QM _)
   ·exact absurd (Qr (Heap.lt_size (I.pin p hp).1) (by rw[hDe,z];exact hCge)) (QM _)
   ·obtain⟨m',hn',_⟩:=I4.loc;exact⟨m',hn'⟩
  ·refine wpAny_mono (T.item X' rfl rfl rfl hcm i _ s' σ' H' (λ_ _=>False) Ip (fpok hpD hfn) st' go) (λr s4 ⟨u,hr,h4⟩=>?_) λ_ _ z=>False.elim z
   subst hr;refine wpAny_mono h4 (λ_ s5 ⟨x,H5,I5,r5,y5,st5,fr5⟩=>?_) λ_ _ z=>False.elim z
   have I5':=I5.pinned (fpok hpD fr5) (T.obj _ _ st5);refine wpAny_mono (hg C s H fp _ s5 σ' H5 x u _ I5' r5 (step x H5 y5)) (λ_ s6 ⟨σ6,H6,I6,q6⟩=>?_) λ_ _ z=>False.elim z
   refine wpAny_mono (he C s H fp _ s6 σ6 H6 _ I6 q6) (λv s7 ⟨y,H7,I7,r7,n7⟩=>?_) λ_ _ z=>False.elim z
   obtain⟨m',hm',w7⟩:=hN y σ6 H7 n7;have hD7:=I7.pin (D,{ cls:=.type "list",data:=.seq its.toArray nn }) (Qz _ (Q0 _ (PQ.mpr rfl)));refine append_at hD7.1 (λh8 sb hD8=>?_) (by rw[Qn,<- hlen];exact hz);have I7':Inv X' [] σ6 H7 s7:=I7.pins_of λp hp=>absurd hp (by simp)
   have I8:Inv X' [] σ6 H7 { s7 with heap:=h8 }:=I7'.turned (t':=s7.toks) (it:=D) (λb o hb e=>(sb.2 b hb).trans e) hD7.2.1 hDC (.inr (Rj hDe)) hDcell (λp hp=>absurd (show p∈([]:List (Addr×Obj))from hp) (by simp));refine⟨m',hm',i+1,σ6,H7,ys++[y],its++[v],nn+1,I8,T.keep _ _ _ st5 λb hb o e=>?_,λb hb=>?_,hD7.2.1,?_,rv.append (.cons r7 .nil),?_,w7⟩
   ·exact(sb.2 b (λz=>hDfp b hb z.symm)).trans (I7.pin (b,o) (Qz _ (Qz _ (oB hb e)))).1
   ·obtain⟨o,e,d⟩:=T.obj _ _ st5 b hb;exact(I7.pin (b,o) (Qz _ (Qz _ (oB hb e)))).2.1
   ·rw[hD8,List.push_toArray]
   ·rw[Qi,List.length_singleton];exact hlt
 exact codeAny_compStart_list (loop _ rfl) (T.self _ 0 _ _ _ (T.keep _ _ _ st λb _ o e=>old b o e) (loop _ rfl))
theorem fI(O:CompOk X fr js scope cl)(hcm:X.calm=true)(hi:PI X target iter wi)(hg:∀C s₀ H₀ ex,PG (io X (own++fr) scope cl C s₀ H₀ ex) target g)(he:∀C s₀ H₀ ex,PE (io X (own++fr) scope cl C s₀ H₀ ex) elt te)
 (hs:∀x,foldedSetIterable iter X.env x=pure x:=by intro _;rfl):PE X (.ListComp elt [⟨target,iter,[],0⟩] scope pos) (Df own.length js wi g te):=by
 intro pins s σ H Q I h;rw[eval_ListComp];refine wpAny_comprehension_free (use:=none) rfl hs O.clos O.kind O.names (thn (hi pins s σ H _ I h) λx s1 h1=>thn h1 λitv s2 h2=>?_);obtain⟨it,fp,tn,J,H2,rfl,I2,T,st,hf,W,⟨m0,w0⟩,turn⟩:=h2;refine K9 (RR:=λacc C=>compPost (model X.prog X.w) X.A X.xe none (EP X pins σ Q) acc C) O (Paired.length O.fre) hcm I2 T st hf hg he W w0 turn ?_;rintro D C s' ⟨H3,I3,q,c1,c2,c3,c4,c5,m,hn⟩;exact⟨m,hn,λh' sb=>⟨.ref D,H3,I3.turned (t':=s'.toks) (it:=C) (λb o hb e=>(sb.2 b hb).trans e) c1 c2 (.inr c3) c4 c5,rfl,q⟩⟩
end
theorem jh{n:Nat}{js:List Nat}{K:PySem.W.Frag}{a:Addr}{xs:List V}{g:TG}{te:TE}{σ0:St}{H:Hp}{Q:VK}(Pv:Nat->List V->St->Hp->Prop)(hz:xs.length<=sizeLine)(h0:Pv 0 [] (ig n js σ0) H)(hl:∀i ys σ H,i<=xs.length->Pv i ys σ H->SqL K H a xs/\ys.length<=i)
 (hs:∀i x ys σ H,xs[i]?=some x->Pv i ys σ H->g x σ H λσ2 H2=>te σ2 H2 λy H3=>Pv (i+1) (ys++[y]) σ2 H3) (hd:∀ys σ H p,Pv xs.length ys σ H->H p=none->Q (.ref p) (upd H p (.lst ys))) :
 pG n js g te σ0 Q (Itl K a) H:=by
 refine⟨λi m ys σ H=>m=xs.length-i/\i<=xs.length/\Pv i ys σ H,⟨xs.length,by simp,PK _,h0⟩,?_⟩;rintro i m ys σ H ⟨rfl,hi,p⟩;obtain⟨q,hy⟩:=hl i ys σ H hi p;by_cases hlt:i<xs.length
 ·refine .inr ⟨⟨xs,xs[i],q,by simp[hlt]⟩,by omega,λy σ'' H''=>Pv (i+1) (ys++[y]) σ'' H'',λy σ' H' p'=>⟨xs.length-(i+1),by omega,rfl,hlt,p'⟩,λx H' y=>?_⟩;obtain⟨e,y⟩:=y;subst e;exact hs i x ys σ _ (y xs q) p
 ·have e:i=xs.length:=by omega
  subst e;exact .inl ⟨⟨xs,q,PF _⟩,λr hr=>hd ys σ H r p hr⟩
theorem uU{k:Nat}{js:List Nat}{lo:Int}{n:Nat}{g:TG}{te:TE}{σ0:St}{H:Hp}{Q:VK}(Pv:Nat->List V->St->Hp->Prop)(hz:n<=sizeLine)(h0:Pv 0 [] (ig k js σ0) H)(hl:∀i ys σ H,i<=n->Pv i ys σ H->ys.length<=i)
 (hs:∀i ys σ H,i<n->Pv i ys σ H->g (.int (lo+i)) σ H λσ2 H2=>te σ2 H2 λy H3=>Pv (i+1) (ys++[y]) σ2 H3) (hd:∀ys σ H p,Pv n ys σ H->H p=none->Q (.ref p) (upd H p (.lst ys))) :
 pG k js g te σ0 Q (Itr lo n) H:=by
 refine⟨λi m ys σ H=>m=n-i/\i<=n/\Pv i ys σ H,⟨n,by simp,PK _,h0⟩,?_⟩;rintro i m ys σ H ⟨rfl,hi,p⟩;have hy:=hl i ys σ H hi p;by_cases hlt:i<n
 ·refine .inr ⟨hlt,by omega,λy σ'' H''=>Pv (i+1) (ys++[y]) σ'' H'',λy σ' H' p'=>⟨n-(i+1),by omega,rfl,hlt,p'⟩,λx H' y=>?_⟩;obtain⟨e,y⟩:=y;subst e y;exact hs i ys σ _ hlt p
 ·have e:i=n:=by omega
  subst e;exact .inl ⟨PF _,λr hr=>hd ys σ H r p hr⟩
def Bits(k:Nat)(i:Int):Prop:=i.natAbs<2^k
theorem Bits.mono{j k:Nat}{i:Int}(h:Bits j i)(hk:j<=k:=by decide):Bits k i:=Qr h (Rn (by decide) hk)
theorem Bits.mul{j k:Nat}{a b:Int}(ha:Bits j a)(hb:Bits k b):Bits (j+k) (a*b):=by
 unfold Bits at *
 rw[PN,Nat.pow_add];exact Nat.mul_lt_mul_of_lt_of_lt ha hb
theorem Bits.add{k:Nat}{a b:Int}(ha:Bits k a)(hb:Bits k b):Bits (k+1) (a+b):=by
 unfold Bits at *
 have:=Sc a b;rw[Rb];omega
theorem Bits.neg{k:Nat}{a:Int}(ha:Bits k a):Bits k (-a):=by unfold Bits at *;rwa [QT]
theorem Bits.sub{k:Nat}{a b:Int}(ha:Bits k a)(hb:Bits k b):Bits (k+1) (a-b):=by rw[Int.sub_eq_add_neg];exact ha.add hb.neg
theorem Bits.of_le{k:Nat}{a b:Int}(hb:Bits k b)(h:a.natAbs<=b.natAbs):Bits k a:=Rc h hb
theorem Bits.zero{k:Nat}:Bits k 0:=Q4 (by decide)
theorem Bits.log{k:Nat}{i:Int}(h:Bits k i)(hk:0<k):i.natAbs.log2<k:=by
 by_cases h0:i.natAbs=0
 ·rw[h0];simpa using hk
 ·exact(Nat.log2_lt h0).mpr h
theorem Bits.int{k:Nat}{i:Int}(h:Bits k i)(hk:k<=1000000):Builtin.Int.intBits i<=2^20:=by
 have e:(2:Nat)^20=1048576:=by decide
 unfold Builtin.Int.intBits;split
 ·exact PK _
 ·rename_i hn
  have h0:i.natAbs≠0:=by intro z;have:i=0:=Int.natAbs_eq_zero.mp z;exact hn (by simp[this])
  have:=(Nat.log2_lt h0).mpr h;omega
section
variable {X:Cx}{a b:Expr}{ta tb:TE}{pos:Pos}
def NR(i j:Int):Prop:=Bits 1000000 i/\Bits 1000000 j
theorem aK:OpR X (binaryOp .Mult) (rI NR λi j=>.int (i*j)):=opI λ_ _ _ _ _ _ _ hc q=>mul_int q (.of_bits (hc.1.int (PF _)) (hc.2.int (PF _)))
theorem cR:OpR X (binaryOp .Mod) (rI (λ_ j=>0<j) λi j=>.int (i%j)):=FF
def NT(_ j:Int):Prop:=0<j/\Bits 9000 j
theorem cS:OpR X (binaryOp .FloorDiv) (rI NT λi j=>.int (i/j)):=opI λi j _ _ _ _ _ hc q=>by refine floordiv_int (Qo hc.1) ?_ (.inl (PyProof.noPylong_of_log2 (hc.2.log (by decide))));rw[Ss _ (PD hc.1)];exact q
def NV(_ j:Int):Prop:=j≠0/\Bits 9000 j
theorem iN:OpR X (binaryOp .FloorDiv) (rI NV λi j=>.int (i.fdiv j)):=opI λ_ _ _ _ _ _ _ hc q=>floordiv_int hc.1 q (.inl (PyProof.noPylong_of_log2 (hc.2.log (by decide))))
theorem cW:OpR X (compareOp .Eq) (rI0 λi j=>.bl (decide (i=j))):=j2 λ_ _ _ _ _ _ _ q=>eq_int (by rw[Bool.beq_eq_decide_eq];exact q)
theorem f8:OpR X (compareOp .NotEq) (rI0 λi j=>.bl (!decide (i=j))):=j2 λ_ _ _ _ _ _ _ q=>ne_int (by rw[bne,Bool.beq_eq_decide_eq];exact q)
def yK(K:PySem.W.Frag):R2:=λx y H Q=>∃(a b:Addr) (ns ms:List Int),x=.ref a/\y=.ref b/\SqL K H a (ns.map V.int)/\SqL K H b (ms.map V.int)/\Q (.bl (decide (ns=ms))) H
def yG(K:PySem.W.Frag):R2:=λx y H Q=>∃(a b:Addr) (ns ms:List Int),x=.ref a/\y=.ref b/\SqL K H a (ns.map V.int)/\SqL K H b (ms.map V.int)/\Q (.bl (!decide (ns=ms))) H
theorem FI(hu:X.A.units+64<cLine):OpR X (compareOp .Eq) (yK X.K):=by intro pins s σ H x y v u Q I rx ry h;obtain⟨a,b,ns,ms,rfl,rfl,ha,hb,q⟩:=h;cases rx;cases ry;obtain⟨i1,r1,p1,_⟩:=I.list ha;obtain⟨i2,r2,p2,_⟩:=I.list hb;exact PySem.W.eq_intsK p1.isList (oT r1) p2.isList (oT r2) hu ⟨.bl _,H,I,rfl,q⟩
theorem FE(hu:X.A.units+64<cLine):OpR X (compareOp .NotEq) (yG X.K):=by intro pins s σ H x y v u Q I rx ry h;obtain⟨a,b,ns,ms,rfl,rfl,ha,hb,q⟩:=h;cases rx;cases ry;obtain⟨i1,r1,p1,_⟩:=I.list ha;obtain⟨i2,r2,p2,_⟩:=I.list hb;exact PySem.W.ne_intsK p1.isList (oT r1) p2.isList (oT r2) hu ⟨.bl _,H,I,rfl,q⟩
noncomputable def lw(K:PySem.W.Frag):List V->Hp->VK->Prop:=λxs H Q=>∃(x:V) (t c:Value) (n:V) (k:Bool),xs=[x,n]/\RelV n c/\(∀u,RelV n u->u=c)/\TyOf K H x t/\PySem.W.kitOne K t c=some k/\Q (.bl k) H
theorem Ln:CallR X (.builtin "isinstance") (lw X.K):=by intro pins s σ H xs us Q I r h;obtain⟨x,t,c,n,k,rfl,rn,hn,ty,e,q⟩:=h;obtain⟨u1,u2,rfl,r1,r2⟩:=r.two;obtain rfl:=hn u2 r2;exact JB I r1 ty e λtk=>⟨.bl k,H,I.tok tk,rfl,q⟩
theorem ud{K:PySem.W.Frag}{H:Hp}{Q:VK}{x:V}{n:String}{t:Value}{k:Bool}(ty:TyOf K H x t)(e:PySem.W.kitOne K t (.type n)=some k)(q:Q (.bl k) H):lw K [x,.ty n] H Q :=
 ⟨x,t,.type n,.ty n,k,rfl,rfl,λ_ h=>h,ty,e,q⟩
end
section
variable {D:Ends}{σ:St}{H:Hp}{Q:VK}{t u:TS}{te ta tb:TE}{c:TT}{i:Nat}{v:V}{r:R2}
theorem EH(P:St->Hp->Prop)(h1:∀σ' H',P σ' H'->u D σ' H')(h2:(∀σ' H',P σ' H'->u D σ' H')->t { D with nx:=u D } σ H):cI t u D σ H:=h2 h1
theorem dZ(P:St->Hp->Prop)(h:P σ H)(h1:∀σ' H',P σ' H'->u D σ' H'):u D σ H:=h1 σ H h
theorem av(h:te σ H λx H1=>u D (σ.set i (some x)) H1):cI (iB te (jc i)) u D σ H:=h
theorem gt(h:te σ H λ_ H1=>u D σ H1):cI (np te) u D σ H:=h
theorem cs{t1:TS}(h:c σ H λb H1=>if b=true then t1 { D with nx:=u D } σ H1 else u D σ H1):cI (jJ c t1 wz) u D σ H:=h
theorem sF{K:PySem.W.Frag}{n:V}(h:ta σ H λx H1=>lw K [x,n] H1 Q):tCB (lw K) (pO ta (pO (tC n) pN)) σ H Q:=h
theorem dN{t1 t2:TS}(P:St->Hp->Prop)(h1:∀σ' H',P σ' H'->u D σ' H')(h2:(∀σ' H',P σ' H'->u D σ' H')->c σ H λb H1=>if b=true then t1 { D with nx:=u D } σ H1 else t2 { D with nx:=u D } σ H1):cI (jJ c t1 t2) u D σ H:=h2 h1
theorem cD(h:te σ H λx H1=>D.nx (σ.set i (some x)) H1):iB te (jc i) D σ H:=h
theorem bj(h:te σ H D.rt):wv te D σ H:=h
theorem yD(h:te σ H λ_ H1=>D.nx σ H1):np te D σ H:=h
theorem jU(h:c σ H λb H1=>if b=true then t D σ H1 else u D σ H1):jJ c t u D σ H:=h
theorem EJ{K:Bool->Hp->Prop}(h:te σ H λx H'=>∃k,x=.bl k/\K k H'):tB te σ H K:=h
theorem nZ{K:Bool->Hp->Prop}{tt:TT}(h:tt σ H λk H1=>K (!k) H1):wy tt σ H K:=h
theorem jV{K:Bool->Hp->Prop}{t1 t2:TT}(h:t1 σ H λk H1=>if k=true then t2 σ H1 K else K false H1):wD t1 t2 σ H K:=h
theorem yC{K:Bool->Hp->Prop}{t1 t2:TT}(h:t1 σ H λk H1=>if k=true then K true H1 else t2 σ H1 K):tOr t1 t2 σ H K:=h
theorem EI(h:ta σ H λx H1=>∃k,x=.bl k/\if k=true then tb σ H1 Q else Q (.bl false) H1):wC ta tb σ H Q:=h
theorem EF(h:ta σ H λx H1=>∃k,x=.bl k/\Q (.bl (!k)) H1):wx ta σ H Q:=h
theorem EG{tt:TT}(h:tt σ H λk H1=>if k=true then ta σ H1 Q else tb σ H1 Q):tIf tt ta tb σ H Q:=h
theorem yA{A B:Prop}(h:A):if true=true then A else B:=by rw[if_pos rfl];exact h
theorem f6{A B:Prop}(h:B):if false=true then A else B:=by rw[if_neg Ry];exact h
theorem aP{p A B:Prop}[Decidable p](h1:p->A)(h2:¬p->B):if decide p=true then A else B:=by
 by_cases hp:p
 ·rw[if_pos (decide_eq_true hp)];exact h1 hp
 ·rw[if_neg (by rw[decide_eq_false hp];exact Ry)];exact h2 hp
theorem da{p A B:Prop}[Decidable p](h1:¬p->A)(h2:p->B):if(!decide p)=true then A else B:=by
 by_cases hp:p
 ·rw[if_neg (by rw[decide_eq_true hp];exact Ry)];exact h2 hp
 ·rw[if_pos (by rw[decide_eq_false hp];rfl)];exact h1 hp
end
structure Cal(P:Program)(w:World)(K:PySem.W.Frag)(mg:Str->Option Value)(base:Heap)(k:Nat)(x:Str)(ps:List Str)(sp:Sp)(f:Addr)(fd:FuncData):Prop where
 ok:FnOk P w K mg base CX0 k f fd ps sp
 mg:mg x=some (.ref f)
 kp:PySem.W.keepIn K (.ref f)=true
 bd:Binds K fd ps []
theorem Same.upd_new{H:Hp}{p:Addr}{o:HO}(h:H p=none):Same H (upd H p o):=λb u e=>by rw[upd_ne (aW e h)];exact e
theorem Same.then_new{H H1:Hp}{p:Addr}{o:HO}(s:Same H H1)(h:H1 p=none):Same H (upd H1 p o):=s.trans (Same.upd_new h)
theorem Same.ne{H H1:Hp}{a p:Addr}{o:HO}(s:Same H H1)(e:H a=some o)(h:H1 p=none):a≠p:=aW (s a o e) h
section
variable {X:Cx}{K:PySem.W.Frag}
theorem b5(h:X.K=K):IxR X (yJ K):=by subst h;exact JA
theorem aM(h:X.K=K):IxR X (yI K):=by subst h;exact Jz
theorem iD(h:X.K=K):SlR X (sK K):=by subst h;exact Dx
noncomputable def E3(K:PySem.W.Frag):List V->Hp->VK->Prop:=λxs H Q=>∃p ys,xs=[.ref p]/\(SqL K H p ys\/SqT K H p ys)/\Q (.int ys.length) H
theorem cY(h:X.K=K):CallR X (.builtin "len") (E3 K):=by subst h;exact Lm
noncomputable def EZ(K:PySem.W.Frag):List V->Hp->VK->Prop:=λxs H Q=>∃p ys,xs=[.ref p]/\(SqL K H p ys\/SqT K H p ys)/\∀l,H l=none->Q (.ref l) (upd H l (.lst ys))
theorem va(h:X.K=K):CallR X (.type "list") (EZ K):=by subst h;exact Ll
theorem j1(h:X.K=K)(hu:X.A.units+64<cLine):OpR X (compareOp .Eq) (yK K):=by subst h;exact FI hu
theorem lX(h:X.K=K)(hu:X.A.units+64<cLine):OpR X (compareOp .NotEq) (yG K):=by subst h;exact FE hu
theorem vb(h:X.K=K):CallR X (.builtin "isinstance") (lw K):=by subst h;exact Ln
theorem fH{tg l:Expr}{tl:TE}(h:X.K=K)(hl:PE X l tl):PI X tg l (Av K tl):=by subst h;exact Fp hl
theorem Fm{tg l:Expr}{tl:TE}(h:X.K=K)(hl:PE X l tl):PI X tg l (Au K tl):=by subst h;exact Fn hl
theorem aN{e:Expr}{ta:TE}{f:Str}{pos:Pos}(h:X.K=K)(he:PE X e ta)(hb:attributeBase e f X.env (eval e X.env)=eval e X.env):PE X (.Attribute e f pos) (wB K ta f):=by subst h;exact FA he hb
end
noncomputable def Ite(K:PySem.W.Frag)(a:Addr):It :=
 ⟨λi H=>∃xs x,SqL K H a xs/\xs[i]?=some x,λi H x H'=>∃v p,x=.ref p/\H p=none/\H'=upd H p (.tup [.int i,v])/\∀xs,SqL K H a xs->xs[i]?=some v,λi H=>∃xs,SqL K H a xs/\xs.length<=i⟩
theorem CG{P:Program}{w:World}{K:PySem.W.Frag}{es:List Expr}{x1:Nat}{tp:Pos}(a e it:Addr)(hne:e≠it):Turn P w K (.Tuple es x1 tp) (Ite K a) [e,it] e (λi h=>(∃old,IsEnum h e it (i:Int) old)/\h.IsListIter it a i) where
 mem:=by simp
 obj:=λi h st b hb=>by
  obtain⟨⟨old,he⟩,hi⟩:=st;rcases PM.mp hb with rfl |hb
  ·exact⟨_,he,λv z=>by cases z⟩
  ·have q:b=it:=by simpa using hb
   subst q;obtain⟨o,e,c,d⟩:=hi;exact⟨o,e,λv z=>by rw[d]at z;cases z⟩
 keep:=λi h h' st k=>by obtain⟨⟨old,he⟩,hi⟩:=st;exact⟨⟨old,k e (by simp) _ he⟩,hi.at λo q=>k it (by simp) o q⟩
 item:=by
  intro X hP hw hK hc i pins s σ H E I hf st hg;subst hP hw hK;obtain⟨⟨old,he⟩,hi⟩:=st;obtain⟨xs,x,hq,hx⟩:=hg;obtain⟨its,rv,p,hz⟩:=I.list hq;obtain⟨u,hu,ru⟩:=rv.get hx;refine wpAny_pyNext_enum_item he hi p.isList (x:=u) (by simpa using hu) hne λh' out hit' htup hsz kk=>?_
  have hfp:H s.heap.objs.size=none:=I.hok.fresh (PF _);have nfp:∀b o,H b=some o->b≠e/\b≠it:=λb o q=>⟨λz=>(by rw[z,(hf e (by simp)).1]at q;cases q),λz=>(by rw[z,(hf it (by simp)).1]at q;cases q)⟩
  have I1:Inv X pins σ (upd H s.heap.objs.size (.tup [.int i,x])) { s with heap:=h',toks:=s.toks+1 }:=by
   refine I.step (g':=s.gens) (d':=s.drawn) (ch:=[e,it]) (λb hb=>?_) (λb o _ _ hc q _=>kk b o (λz=>hc (by simp[z])) (λz=>hc (by simp[z])) q)
    (λb o _ _ hc q _=>⟨o.slots,kk b o (λz=>hc (by simp[z])) (λz=>hc (by simp[z])) q⟩) (λb o _ q n=>by rw[upd_ne (Qj (Heap.lt_size q))];exact n)
    (λb o hc q=>⟨o,kk b o (λz=>hc (by simp[z])) (λz=>hc (by simp[z])) q⟩) (λb ys q=>by rw[upd_ne (aW q hfp)];exact q) (λb o ys q=>by rw[upd_ne (aW q hfp)];exact q)
    (λb ps q=>⟨#[],by rw[upd_ne (aW q hfp),q];simp⟩) (λm hm=>?_) (λb o q=>?_) I.bare
   ·obtain⟨f0,f1,f2,f3,f4,f5⟩:=hf b hb;exact⟨f3,f1,f4,f5⟩
   ·obtain⟨o,es',ep',ho,r⟩:=hm;exact⟨o,es',ep',kk _ o (Ne.symm (hf e (by simp)).2.1) (Ne.symm (hf it (by simp)).2.1) ho,r⟩
   ·by_cases hb:b=s.heap.objs.size
    ·subst hb;rw[au]at q;cases q;exact⟨by show 2<=sizeLine;decide,[.int i s.toks,u],.cons ⟨_,rfl⟩ (.cons ru .nil),⟨_,htup,rfl,_,rfl⟩⟩
    ·rw[upd_ne hb]at q;refine(I.hok b o q).stay (λc v hc z=>?_) (λc z=>by rw[upd_ne (aW z hfp)];exact z) λc ys z=>by rw[upd_ne (aW z hfp)];exact z
     rcases hc with rfl |hc
     ·exact kk c v (nfp c o q).1 (nfp c o q).2 z
     ·exact kk c v (nfp c _ hc).1 (nfp c _ hc).2 z
  refine⟨_,rfl,wpAny_letOwnedTupleGo_enum out λh'' he'' sb=>?_⟩;obtain⟨f0,f1,f2,f3,f4,f5⟩:=hf e (by simp)
  have hen:upd H s.heap.objs.size (.tup [.int i,x]) e=none:=by rw[upd_ne (Qj (Heap.lt_size he))];exact f0
  have I2:=I1.turned (h':=h'') (t':=s.toks+1) (it:=e) (λb o hb q=>(sb.2 b hb).trans q) hen f1 f3 f4 f5;refine⟨.ref s.heap.objs.size,_,I2,rfl,⟨x,_,rfl,hfp,rfl,λys hy=>by rw[I.list_inj hy hq];exact hx⟩,⟨⟨u,?_⟩,hit'.at λo q=>(sb.2 it (Ne.symm hne)).trans q⟩,λb hb=>?_⟩
  ·have:((i+1:Nat):Int)=(i:Int)+1:=by omega
   rw[this];exact he''
  ·have hlt:b<s.heap.objs.size:=by
    rcases PM.mp hb with rfl |hb
    ·exact Heap.lt_size he
    ·have q:b=it:=by simpa using hb
     subst q;obtain⟨o,e1,_⟩:=hi;exact Heap.lt_size e1
   rw[upd_ne (Qj hlt)];exact(hf b hb).1
 done:=by intro X hP hw hK hc i pins s σ H E I hf st hg;subst hP hw hK;obtain⟨⟨old,he⟩,hi⟩:=st;obtain⟨xs,hq,hx⟩:=hg;obtain⟨its,rv,p,hz⟩:=I.list hq;obtain⟨f0,f1,f2,f3,f4,f5⟩:=hf it (by simp);have hl:=rv.length;exact wpAny_pyNext_enum_end (I.ok.hd hc) he hi p.isList (by simp;omega) λh' eb=>⟨rfl,I.turned (t':=s.toks) (λb o hb e=>eb b o hb e) f0 f1 f3 f4 f5⟩
 self:=λ_ _ _ _ _ st h=>by obtain⟨⟨old,he⟩,hi⟩:=st;exact wpAny_pyIter_enum he h
section
variable {X:Cx}
def JL(K:PySem.W.Frag)(ta:TA):TI:=λσ H R=>ta σ H λvs H1=>∃a,vs=[.ref a]/\(∃xs,SqL K H1 a xs)/\R (Ite K a) H1
theorem om{es:List Expr}{x1:Nat}{tp:Pos}{a:Expr}{ta:TA}{p pos:Pos}(hg:Gl X "enumerate")(hm:X.mg "enumerate"=none)(ha:PA X [a] ta)(hs:starEach [a] X.env=[(false,eval a X.env)]:=by rfl):PI X (.Tuple es x1 tp) (.Call (.Name "enumerate" p) [a] [] pos) (JL X.K ta):=by
 intro pins s σ H R I h;refine Call_ (gb I hg hm boot_enumerate (PyProof.Rows.callWith_type1 (thn (ha pos pins s σ H _ I h) λus s1 ⟨vs,H1,I1,r1,q1⟩=>?_) hs rfl));obtain⟨a',e,⟨xs,hq⟩,q⟩:=q1;subst e;obtain⟨u,rfl,ru⟩:=r1.one;cases ru;obtain⟨its,rv,pl,hz⟩:=I1.list hq;refine call_enumerate_list pl.isList λh' he hit hsz hk=>?_
 have I2:Inv X pins σ H1 { s1 with heap:=h' }:=I1.kept (t':=s1.toks) hk;refine wpAny_pyIter_enum he ?_;refine⟨s1.heap.objs.size+1,[s1.heap.objs.size+1,s1.heap.objs.size],_,_,H1,rfl,I2,CG a' _ _ (Nat.succ_ne_self _),⟨⟨_,he⟩,hit⟩,λb hb=>?_,q⟩
 have hb':s1.heap.objs.size<=b:=by
  rcases PM.mp hb with rfl |hb
  ·exact Nat.le_succ _
  ·have q:b=s1.heap.objs.size:=by simpa using hb
   subst q;exact PF _
 exact I1.fpOk hb' (I1.hok.fresh hb')
end
theorem um{K:PySem.W.Frag}{a:Addr}{xs:List V}{g:TG}{tb:TS}{D:Ends}{σ:St}{H:Hp}(Pv:Nat->St->Hp->Prop)(h0:Pv 0 σ H)(hl:∀i σ H,i<=xs.length->Pv i σ H->SqL K H a xs)
 (hs:∀i x σ H p,xs[i]?=some x->Pv i σ H->H p=none->g (.ref p) σ (upd H p (.tup [.int i,x])) λσ2 H2=>tb { D with nx:=Pv (i+1),ct:=Pv (i+1),bk:=D.nx } σ2 H2) (hd:∀σ H,Pv xs.length σ H->D.nx σ H) :
 ∃W:Nat->Nat->St->Hp->Prop,(∃m,W 0 m σ H)/\∀i m σ H,W i m σ H ->
  ((Ite K a).stop i H/\D.nx σ H)\/((Ite K a).go i H/\∃N:St->Hp->Prop,(∀σ' H',N σ' H'->∃m',m'<m/\W (i+1) m' σ' H')/\∀x H',(Ite K a).yld i H x H'->g x σ H' λσ2 H2=>tb { D with nx:=N,ct:=N,bk:=D.nx } σ2 H2):=by
 refine⟨λi m σ H=>m=xs.length-i/\i<=xs.length/\Pv i σ H,⟨xs.length,by simp,PK _,h0⟩,?_⟩;rintro i m σ H ⟨rfl,hi,p⟩;have q:=hl i σ H hi p;by_cases hlt:i<xs.length
 ·refine .inr ⟨⟨xs,xs[i],q,by simp[hlt]⟩,Pv (i+1),λσ' H' p'=>⟨xs.length-(i+1),by omega,rfl,hlt,p'⟩,λx H' y=>?_⟩;obtain⟨v,r,rfl,hr,rfl,y⟩:=y;exact hs i v σ _ r (y xs q) p hr
 ·have e:i=xs.length:=by omega
  subst e;exact .inl ⟨⟨xs,q,PF _⟩,hd σ H p⟩
theorem K0{n:Nat}{js:List Nat}{K:PySem.W.Frag}{a:Addr}{xs:List V}{g:TG}{te:TE}{σ0:St}{H:Hp}{Q:VK}(Pv:Nat->List V->St->Hp->Prop)(hz:xs.length<=sizeLine)(h0:Pv 0 [] (ig n js σ0) H)(hl:∀i ys σ H,i<=xs.length->Pv i ys σ H->SqL K H a xs/\ys.length<=i)
 (hs:∀i x ys σ H p,xs[i]?=some x->Pv i ys σ H->H p=none->g (.ref p) σ (upd H p (.tup [.int i,x])) λσ2 H2=>te σ2 H2 λy H3=>Pv (i+1) (ys++[y]) σ2 H3) (hd:∀ys σ H p,Pv xs.length ys σ H->H p=none->Q (.ref p) (upd H p (.lst ys))) :
 pG n js g te σ0 Q (Ite K a) H:=by
 refine⟨λi m ys σ H=>m=xs.length-i/\i<=xs.length/\Pv i ys σ H,⟨xs.length,by simp,PK _,h0⟩,?_⟩;rintro i m ys σ H ⟨rfl,hi,p⟩;obtain⟨q,hy⟩:=hl i ys σ H hi p;by_cases hlt:i<xs.length
 ·refine .inr ⟨⟨xs,xs[i],q,by simp[hlt]⟩,by omega,λy σ'' H''=>Pv (i+1) (ys++[y]) σ'' H'',λy σ' H' p'=>⟨xs.length-(i+1),by omega,rfl,hlt,p'⟩,λx H' y=>?_⟩;obtain⟨v,r,rfl,hr,rfl,y⟩:=y;exact hs i v ys σ _ r (y xs q) p hr
 ·have e:i=xs.length:=by omega
  subst e;exact .inl ⟨⟨xs,q,PF _⟩,λr hr=>hd ys σ H r p hr⟩
noncomputable def Itv(K:PySem.W.Frag)(a:Addr)(xs:List V):It :=
 ⟨λi H=>SqL K H a xs/\i<xs.length,λi H x H'=>H'=H/\xs[xs.length-1-i]?=some x,λi H=>xs.length<=i⟩
theorem CB{P:Program}{w:World}{K:PySem.W.Frag}{tg:Expr}(a it:Addr)(xs:List V):Turn P w K tg (Itv K a xs) [it] it (λi h=>i<=xs.length/\h.IsRevIter it a ((xs.length:Int)-1-i)) where
 mem:=by simp
 obj:=λi h st b hb=>by
  have e:b=it:=by simpa using hb
  subst e;obtain⟨_,o,e,c,d⟩:=st;exact⟨o,e,λv z=>by rw[d]at z;cases z⟩
 keep:=λi h h' st k=>⟨st.1,st.2.at λo e=>k it (by simp) o e⟩
 item:=by
  intro X hP hw hK hc i pins s σ H E I hf st hg;subst hP hw hK;obtain⟨hq,hlt⟩:=hg;obtain⟨its,rv,p,hz⟩:=I.list hq;have hl:=rv.length;obtain⟨x,hx⟩:∃x,xs[xs.length-1-i]?=some x:=⟨_,List.getElem?_eq_getElem (by omega)⟩;obtain⟨u,hu,ru⟩:=rv.get hx;obtain⟨f0,f1,f2,f3,f4,f5⟩:=hf it (by simp);have e1:(xs.length:Int)-1-i=((xs.length-1-i:Nat):Int):=by omega
  have hit:=st.2;rw[e1]at hit;refine wpAny_pyNext_rev_item hit p.isList (x:=u) (by simpa using hu) λh' st' sb=>?_
  have I1:Inv X pins σ H { s with heap:=h' }:=I.turned (t':=s.toks) (λb o hb e=>(sb.2 b hb).trans e) f0 f1 f3 f4 f5;obtain⟨o,e,c,d⟩:=id st';refine⟨u,rfl,mD (s:={ s with heap:=h' }) e c d (by decide) ⟨x,H,I1,ru,⟨rfl,hx⟩,⟨hlt,?_⟩,λb hb=>(hf b hb).1⟩⟩;have e2:(xs.length:Int)-1-((i+1:Nat):Int)=((xs.length-1-i:Nat):Int)-1:=by omega
  rw[e2];exact st'
 done:=by
  intro X hP hw hK hc i pins s σ H E I hf st hg;subst hP hw hK;obtain⟨f0,f1,f2,f3,f4,f5⟩:=hf it (by simp);have hle:xs.length<=i:=hg;have e1:(xs.length:Int)-1-i = -1:=by have:=st.1;omega
  have hit:=st.2;rw[e1]at hit;exact wpAny_pyNext_rev_end (I.ok.hd hc) hit λh' eb=>⟨rfl,I.turned (t':=s.toks) (λb o hb e=>eb b o hb e) f0 f1 f3 f4 f5⟩
 self:=λ_ _ _ _ _ st h=>wpAny_pyIter_revIter st.2 h
section
variable {X:Cx}{tg:Expr}
def JK(K:PySem.W.Frag)(ta:TA):TI:=λσ H R=>ta σ H λvs H1=>∃a xs,vs=[.ref a]/\SqL K H1 a xs/\R (Itv K a xs) H1
theorem sQ{a:Expr}{ta:TA}{p pos:Pos}(hg:Gl X "reversed")(hm:X.mg "reversed"=none)(ha:PA X [a] ta)(hs:starEach [a] X.env=[(false,eval a X.env)]:=by rfl):PI X tg (.Call (.Name "reversed" p) [a] [] pos) (JK X.K ta):=by
 intro pins s σ H R I h;refine Call_ (gb I hg hm boot_reversed (PyProof.Rows.callWith_type1 (thn (ha pos pins s σ H _ I h) λus s1 ⟨vs,H1,I1,r1,q1⟩=>?_) hs rfl));obtain⟨a',xs,e,hq,q⟩:=q1;subst e;obtain⟨u,rfl,ru⟩:=r1.one;cases ru;obtain⟨its,rv,pl,hz⟩:=I1.list hq;have hl:=rv.length;refine call_reversed_list pl.isList ?_
 have hit:(s1.heap.push (revObj a' ((its.toArray.size:Int)-1))).IsRevIter s1.heap.objs.size a' ((xs.length:Int)-1-((0:Nat):Int)):=by
  have e1:(xs.length:Int)-1-((0:Nat):Int)=(its.toArray.size:Int)-1:=by rw[Qn];omega
  rw[e1];exact⟨_,Heap.get?_push_size _ rfl,rfl,rfl⟩
 have I2:Inv X pins σ H1 { s1 with heap:=s1.heap.push (revObj a' ((its.toArray.size:Int)-1)) }:=I1.kept (t':=s1.toks) λb o e=>Heap.get?_push_of_some _ e
 refine wpAny_pyIter_revIter (s:={ s1 with heap:=s1.heap.push (revObj a' ((its.toArray.size:Int)-1)) }) hit ?_;refine⟨s1.heap.objs.size,[s1.heap.objs.size],_,_,H1,rfl,I2,CB a' _ xs,⟨PK _,hit⟩,λb hb=>?_,q⟩;have e:b=s1.heap.objs.size:=by simpa using hb
 subst e;exact I1.fpOk (PF _) (I1.hok.fresh (PF _))
end
theorem ul{K:PySem.W.Frag}{a:Addr}{xs:List V}{g:TG}{tb:TS}{D:Ends}{σ:St}{H:Hp}(Pv:Nat->St->Hp->Prop)(h0:Pv 0 σ H)(hl:∀i σ H,i<=xs.length->Pv i σ H->SqL K H a xs)
 (hs:∀i x σ H,i<xs.length->xs[xs.length-1-i]?=some x->Pv i σ H->g x σ H λσ2 H2=>tb { D with nx:=Pv (i+1),ct:=Pv (i+1),bk:=D.nx } σ2 H2) (hd:∀σ H,Pv xs.length σ H->D.nx σ H) :
 ∃W:Nat->Nat->St->Hp->Prop,(∃m,W 0 m σ H)/\∀i m σ H,W i m σ H ->
  ((Itv K a xs).stop i H/\D.nx σ H)\/((Itv K a xs).go i H/\∃N:St->Hp->Prop,(∀σ' H',N σ' H'->∃m',m'<m/\W (i+1) m' σ' H')/\∀x H',(Itv K a xs).yld i H x H'->g x σ H' λσ2 H2=>tb { D with nx:=N,ct:=N,bk:=D.nx } σ2 H2):=by
 refine⟨λi m σ H=>m=xs.length-i/\i<=xs.length/\Pv i σ H,⟨xs.length,by simp,PK _,h0⟩,?_⟩;rintro i m σ H ⟨rfl,hi,p⟩;by_cases hlt:i<xs.length
 ·refine .inr ⟨⟨hl i σ H hi p,hlt⟩,Pv (i+1),λσ' H' p'=>⟨xs.length-(i+1),by omega,rfl,hlt,p'⟩,λx H' y=>?_⟩;obtain⟨e,y⟩:=y;subst e;exact hs i x σ _ hlt y p
 ·have e:i=xs.length:=by omega
  subst e;exact .inl ⟨PF _,hd σ H p⟩
structure FunD(K:PySem.W.Frag)(x qual:Str)(st:Stmt)(dV:Value)(f:Addr)(fd:FuncData):Prop where
 ex:∃(oc:Value) (od:Option Addr) (kV doc pm:Value) (an:Option Addr) (cdv ct:Value) (osl:Array (Option Value)),
  fd=PySem.W.fnOf x qual (dX st) (dI st) (aD st) dV kV doc pm an cdv ct/\K.lookup f=some ⟨oc,od,.func fd,osl⟩/\PySem.W.codeIn K cdv qual=true
 kp:PySem.W.keepIn K (.ref f)=true
section
variable {P:Program}{w:World}{K:PySem.W.Frag}{mg:Str->Option Value}{base:Heap}
theorem FunD.ok{x qual:Str}{st:Stmt}{dV:Value}{f:Addr}{fd:FuncData}{N ps:List Str}{k:Nat}{sp:Sp}(F:FunD K x qual st dV f fd)(S:FnScope N ps (aD st))(len:∀vs H Q E,sp vs H Q E->vs.length=ps.length)
 (hbody:∀(cdv:Value) (A:Around) (outer:List Env) (s:Shared) (H:Hp) (vs:List V) (Q:VK) (E:XK),Room k (A.deeper (envOfC qual (aD st) s.heap.objs.size f cdv))->sp vs H Q E ->
   ∃t,PSs (jg CX0 P w K mg base N qual (aD st) f cdv A outer s H E).nox (dI st) t/\t { nx:=λ_ H'=>Q .non H',rt:=Q } (start N vs) H):FnOk P w K mg base CX0 (k+1) f fd ps sp:=by
 obtain⟨oc,od,kV,doc,pm,an,cdv,ct,osl,rfl,lk,hcd⟩:=F.ex;refine AQ lk hcd S len λA outer s H vs Q E hr hsp=>?_
 obtain⟨t,h,q⟩:=hbody cdv A outer s H vs Q E hr hsp;exact⟨t,h.nox,q⟩
theorem FunD.binds{x qual:Str}{st:Stmt}{dV:Value}{f:Addr}{fd:FuncData}{ps:List Str}(F:FunD K x qual st dV f fd)
 (h:∀(kV doc pm:Value) (an:Option Addr) (cdv ct:Value) (us:List Value),us.length=ps.length->bindArgs (PySem.W.fnOf x qual (dX st) (dI st) (aD st) dV kV doc pm an cdv ct) ⟨us,[]⟩=pure (ps.zip us)):Binds K fd ps []:=by
 obtain⟨oc,od,kV,doc,pm,an,cdv,ct,osl,rfl,lk,hcd⟩:=F.ex;exact .all (h kV doc pm an cdv ct)
theorem FunD.bindsD{x qual:Str}{st:Stmt}{T:Addr}{f:Addr}{fd:FuncData}{ps:List Str}{ds tup:List Value}{o:Obj}{n:Nat}(m:Nat)(F:FunD K x qual st (.ref T) f fd)(lo:K.lookup T=some o)(hs:o.data=.seq tup.toArray n)(hm:m+ds.length=ps.length)
 (h:∀(kV doc pm:Value) (an:Option Addr) (cdv ct:Value) (us:List Value),us.length=m->∃k:Option (Array Value)->Sem (List (Str×Value)),
   bindArgs (PySem.W.fnOf x qual (dX st) (dI st) (aD st) (.ref T) kV doc pm an cdv ct) ⟨us,[]⟩=seqItems? (.ref T) >>= k/\k (some tup.toArray)=pure (ps.zip (us++ds))):Binds K fd ps ds:=by
 obtain⟨oc,od,kV,doc,pm,an,cdv,ct,osl,rfl,lk,hcd⟩:=F.ex;intro s us KX hl;rw[Qi]at hl;obtain⟨k,h1,h2⟩:=h kV doc pm an cdv ct us (by omega);exact PySem.W.binds_K (k:=k) KX rfl lo hs h1 h2
theorem AL{x qual:Str}{st:Stmt}{f:Addr}{oc:Value}{od an:Option Addr}{osl:Array (Option Value)}{dV kV doc pm cdv ct:Value}(l:K.lookup f=some ⟨oc,od,.func (PySem.W.fnOf x qual (dX st) (dI st) (aD st) dV kV doc pm an cdv ct),osl⟩)
 (c:PySem.W.codeIn K cdv qual=true) (k:PySem.W.keepIn K (.ref f)=true):FunD K x qual st dV f (PySem.W.fnOf x qual (dX st) (dI st) (aD st) dV kV doc pm an cdv ct):=⟨⟨oc,od,kV,doc,pm,an,cdv,ct,osl,rfl,l,c⟩,k⟩
end
structure MCal(P:Program)(w:World)(K:PySem.W.Frag)(mg:Str->Option Value)(base:Heap)(k:Nat)(C:Addr)(m:Str)(ps:List Str)(sp:Sp)(f:Addr)(fd:FuncData):Prop where
 ok:FnOk P w K mg base CX0 k f fd ps sp
 mt:Meth K C m f
 bd:Binds K fd ps []
structure KCal(P:Program)(w:World)(K:PySem.W.Frag)(mg:Str->Option Value)(base:Heap)(k:Nat)(C:Addr)(x:Str)(ps:List Str)(sp:Sp)(f:Addr)(fd:FuncData)(ds:List Value)(dvs:List V):Prop where
 ok:FnOk P w K mg base CX0 k f fd ps sp
 mkr:Mk K C f
 mg:mg x=some (.ref C)
 bd:Binds K fd ps []
 bdD:Binds K fd ps ds
 vd:Vals dvs ds
section
variable {prog:Program}{w:World}{A:Around}{E:Value->Shared->Prop}{s:Shared}
end
section
variable {X:Cx}{K:PySem.W.Frag}
theorem Ft{pos:Pos}{es:List Expr}{k:Nat}{t:TGs}{n:Nat}(hK:X.K=K)(hc:X.calm=true)(h:PGs X es t)(hn:(assignEach es X.env).length=n)(hst:(assignEach es X.env).findIdx? (·.1)=none):PG X (.Tuple es k pos) (AJ K n t):=by subst hK;exact gA hc h hn hst
end
section
variable {P:Program}{w:World}{K:PySem.W.Frag}{mg:Str->Option Value}{base:Heap}{N:List Str}{qual:Str}{scope:Scope}{f:Addr}{cd:Value}{A:Around}{outer:List Env}{s:Shared}{H:Hp}{E:XK}{pins:List (Addr×Obj)}{σ:St}{H1:Hp}{s1:Shared}
end
noncomputable def kH(lo:Int)(n:Nat):It:=⟨λi _=>i<n,λi H x H'=>H'=H/\x=.int (lo+i * -1),λi _=>n<=i⟩
theorem CC{P:Program}{w:World}{K:PySem.W.Frag}{tg:Expr}(it:Addr)(lo:Int)(n:Nat):Turn P w K tg (kH lo n) [it] it (λi h=>IsRangeIter h it (lo+(i:Nat) * -1) ((n:Int)-(i:Nat)) (-1)) where
 mem:=by simp
 obj:=λi h st b hb=>by
  have e:b=it:=by simpa using hb
  subst e
  exact⟨_,st,λv z=>by
   have z':Data.fields _=Data.cell v:=z
   cases z'⟩
 keep:=λi h h' st k=>k it (by simp) _ st
 item:=by
  intro X hP hw hK hc i pins s σ H E I hf st hg;subst hP hw hK;obtain⟨f0,f1,f2,f3,f4,f5⟩:=hf it (by simp);have W:=Walks.range (prog:=X.prog) (w:=X.w) (I.ok.hd hc) it lo (-1) n;refine W.item i s _ _ hg st λv h' tk hv st' kk=>?_
  obtain⟨t,rfl⟩:=hv;have I1:Inv X pins σ H { s with heap:=h',toks:=tk }:=I.turned (λb o hb e=>kk b o (by simpa using hb) e) f0 f1 f3 f4 f5;exact⟨_,rfl,mD (s:={ s with heap:=h',toks:=tk }) (n:="range_iterator") st' rfl rfl (by decide) ⟨.int (lo+i * -1),H,I1,⟨t,rfl⟩,⟨rfl,rfl⟩,st',λb hb=>(hf b hb).1⟩⟩
 done:=by intro X hP hw hK hc i pins s σ H E I hf st hg;subst hP hw hK;obtain⟨f0,f1,f2,f3,f4,f5⟩:=hf it (by simp);exact wpAny_pyNext_range_end (I.ok.hd hc) st (by have:n<=i:=hg;omega) λh' eb=>⟨rfl,I.turned (t':=s.toks) (λb o hb e=>eb b o hb e) f0 f1 f3 f4 f5⟩
 self:=λ_ _ _ _ _ st h=>wpAny_pyIter_rangeiter st h
theorem yF(a b:Int):Builtin.Range.rangeSize a b (-1)=if b<a then a-b else 0:=by unfold Builtin.Range.rangeSize;rw[if_neg (by decide)];show(if a>b then(a-b-1)/1+1 else 0)=_;rw[Int.ediv_one];split<;>omega
theorem Dq{a b:Int}(ha : -(2^61)<=a)(ha':a<2^61)(hb : -(2^61)<=b)(hb':b<2^61):Builtin.Range.small a b (-1)=true:=by unfold Builtin.Range.small;rw[yF];simp only[Builtin.Range.rangeFitsLong,Bool.and_eq_true,Bool.or_eq_true,decide_eq_true_eq,beq_iff_eq,show ¬((-1:Int)>0) by decide,if_false];split<;>omega
section
variable {X:Cx}{tg:Expr}
theorem ES{pins:List (Addr×Obj)}{σ:St}{H:Hp}{s:Shared}{R:It->Hp->Prop}{E:Value->Shared->Prop}{lo hi:Int}{t u v:Tok}{tk:Nat}(I:Inv X pins σ H s)(h1 : -(2^61)<=lo)(h2:lo<2^61)(h3 : -(2^61)<=hi)(h4:hi<2^61)
 (q:R (kH lo (lo-hi).toNat) H):wpAny (model X.prog X.w) X.A (pyIter (.ref s.heap.objs.size)) (PIE X pins σ tg R) E { s with heap:=s.heap.push { cls:=.type "range",data:=.fields #[.int lo t,.int hi u,.int (-1) v] },toks:=tk }:=by
 refine wpAny_pyIter_range (IsRange.new ..) (Dq h1 h2 h3 h4) ?_;have I1:Inv X pins σ H { s with heap:=s.heap.push { cls:=.type "range",data:=.fields #[.int lo t,.int hi u,.int (-1) v] },toks:=tk }:=I.kept λb o e=>Heap.get?_push_of_some _ e
 refine⟨(s.heap.push { cls:=.type "range",data:=.fields #[.int lo t,.int hi u,.int (-1) v] }).objs.size,[(s.heap.push { cls:=.type "range",data:=.fields #[.int lo t,.int hi u,.int (-1) v] }).objs.size],_,_,H,rfl,
  I1.kept (t':=tk) λb o e=>Heap.get?_push_of_some _ e,CC _ lo (lo-hi).toNat,?_,λb hb=>?_,q⟩
 ·have e1:lo+((0:Nat):Int) * -1=lo:=by simp
  have e2:(((lo-hi).toNat:Nat):Int)-((0:Nat):Int)=Builtin.Range.rangeSize lo hi (-1):=by rw[yF];split<;>omega
  show IsRangeIter _ _ (lo+((0:Nat):Int) * -1) ((((lo-hi).toNat:Nat):Int)-((0:Nat):Int)) (-1);rw[e1,e2];exact Heap.get?_push_size _ rfl
 ·have e:b=(s.heap.push { cls:=.type "range",data:=.fields #[.int lo t,.int hi u,.int (-1) v] }).objs.size:=by simpa using hb
  subst e;exact I1.fpOk (PF _) (I1.hok.fresh (PF _))
def JH(ta:TA):TI:=λσ H R=>ta σ H λvs H1=>∃i j:Int,vs=[.int i,.int j,.int (-1)]/\(-(2^61)<=i/\i<2^61 /\ -(2^61)<=j/\j<2^61)/\R (kH i (i-j).toNat) H1
theorem yY{a b c:Expr}{ta:TA}{p pos:Pos}(hg:Gl X "range")(hm:X.mg "range"=none)(ha:PA X [a,b,c] ta)(hs:starEach [a,b,c] X.env=[(false,eval a X.env),(false,eval b X.env),(false,eval c X.env)]:=by rfl)(hs2:starEach [b,c] X.env=[(false,eval b X.env),(false,eval c X.env)]:=by rfl) :
 PI X tg (.Call (.Name "range" p) [a,b,c] [] pos) (JH ta):=by
 intro pins s σ H R I h;refine Call_ (gb I hg hm boot_range (PyProof.Rows.callWith_type1 (thn (ha pos pins s σ H _ I h) λus s1 ⟨vs,H1,I1,r1,q1⟩=>?_) (by rw[hs,hs2]) (by rw[hs2];rfl)));obtain⟨i,j,e,⟨q1,q2,q3,q4⟩,q⟩:=q1;subst e;cases r1 with
 |cons r rr =>
  cases rr with
  |cons r' rr =>
   cases rr with
   |cons r'' rr =>cases rr;obtain⟨t,rfl⟩:=r;obtain⟨t',rfl⟩:=r';obtain⟨t'',rfl⟩:=r'';exact call_range_3 (by decide) (ES I1 q1 q2 q3 q4 q) (Or.inl (PyProof.noPylong_small (by decide)))
end
theorem AM{lo:Int}{n:Nat}{g:TG}{tb:TS}{D:Ends}{σ:St}{H:Hp}(Pv:Nat->St->Hp->Prop)(h0:Pv 0 σ H)
 (hs:∀i σ H,i<n->Pv i σ H->g (.int (lo+i * -1)) σ H λσ2 H2=>tb { D with nx:=Pv (i+1),ct:=Pv (i+1),bk:=D.nx } σ2 H2) (hd:∀σ H,Pv n σ H->D.nx σ H) :
 ∃W:Nat->Nat->St->Hp->Prop,(∃m,W 0 m σ H)/\∀i m σ H,W i m σ H ->
  ((kH lo n).stop i H/\D.nx σ H)\/((kH lo n).go i H/\∃N:St->Hp->Prop,(∀σ' H',N σ' H'->∃m',m'<m/\W (i+1) m' σ' H')/\∀x H',(kH lo n).yld i H x H'->g x σ H' λσ2 H2=>tb { D with nx:=N,ct:=N,bk:=D.nx } σ2 H2):=by
 refine⟨λi m σ H=>m=n-i/\i<=n/\Pv i σ H,⟨n,by simp,PK _,h0⟩,?_⟩;rintro i m σ H ⟨rfl,hi,p⟩;by_cases hlt:i<n
 ·refine .inr ⟨hlt,Pv (i+1),λσ' H' p'=>⟨n-(i+1),by omega,rfl,hlt,p'⟩,λx H' y=>?_⟩;obtain⟨e,y⟩:=y;subst e y;exact hs i σ _ hlt p
 ·have e:i=n:=by omega
  subst e;exact .inl ⟨PF _,hd σ H p⟩
section
variable {X:Cx}{K:PySem.W.Frag}
end
theorem IJ{P:Program}{w:World}{K:PySem.W.Frag}{mg mb:Str->Option Value}{CX:CXT}{k:Nat}{fa a:Addr}{fd:FuncData}{x:Str}{sp:Sp}{s₁:Shared}{vs:List Value}{ns:List Int}
 (KX:K.In s₁.heap) (hns:s₁.heap.Ns mainGlobals mg) (hb:s₁.heap.Ns builtinsNs mb) (hbb:∀x:Str,x≠"__name__"->mb x=bootBuiltins x) (hlim:s₁.heap.NoLimit) (hse:s₁.heap.NoSeer) (hg:s₁.gens=#[])
 (ha:s₁.heap.get? a=some { cls:=.type "list",data:=.seq vs.toArray }) (hi:IntsAre vs ns) (hl:ns.length<=sizeLine) (hr:Room k callerA)
 (F:∀base:Heap,K.In base->base.Ns mainGlobals mg->base.NoSeer->FnOk P w K mg base CX k fa fd [x] sp) (hbind:∀(s:Shared) (u:Value),BindsTo s fd ⟨[u],[]⟩ [(x,u)])
 (hsp:∀H:Hp,vC H->SqL K H a (ns.map V.int)->sp [.ref a] H (λv _=>v=.bl true) λ_ _ _=>False)
 (hCX:∀H e s',CX [] H s₁ (λ_ _ _=>False) e s'->False) :
 codeAny (model P w) callerA (.call (.ref fa) ⟨[.ref a],[]⟩) (λr s'=>r=.ok (.ret (.bool true))/\OldK s₁.heap s'.heap/\s'.os=s₁.os/\AllBare s'.gens) s₁:=by
 have rv:=wb hi;have lenV:=hi.length
 have core:∀H:Hp,vC H->SqL K H a (ns.map V.int)->HOk P w H s₁.heap->(∀b,H b≠none->b=a)->(H a≠none->K.lookup a=none) ->
  codeAny (model P w) callerA (.call (.ref fa) ⟨[.ref a],[]⟩) (λr s'=>r=.ok (.ret (.bool true))/\OldK s₁.heap s'.heap/\s'.os=s₁.os/\AllBare s'.gens) s₁:=by
  intro H hO hS hok hA hK;have base_of:∀{b:Addr} {o:Obj},s₁.heap.get? b=some o->H b=none->(gd s₁.heap H).get? b=some o:=λe n=>JP e n
  have noA:∀{b:Addr} {o:Obj} {es:Array DictEntry} {ep:Nat},s₁.heap.get? b=some o->o.data=.dict es ep->H b=none:=λ{b o es ep} e d=>by
   cases q:H b with
   |none=>rfl
   |some u =>have e':b=a:=hA b (by rw[q];simp);subst e';rw[ha]at e;cases e;have d':Data.seq vs.toArray _=Data.dict es ep:=d;cases d'
  have nsK:∀{b:Addr} {m:Str->Option Value},s₁.heap.Ns b m->(gd s₁.heap H).Ns b m:=λ{b m} ⟨o,es,ep,e,d,r⟩=>⟨o,es,ep,base_of e (noA e d),d,r⟩
  have hKb:K.In (gd s₁.heap H):=λb o e=>base_of (KX b o e) (by
   cases q:H b with
   |none=>rfl
   |some u =>
    have e':b=a:=hA b (by rw[q];simp);subst e'
    rw[hK (by rw[q];simp)]at e;cases e)
  have hM:Mod K mg (gd s₁.heap H):=⟨hKb,nsK hns,⟨mb,nsK hb,hbb⟩,let⟨mc,h1,h2⟩:=hlim;⟨mc,nsK h1,h2⟩⟩
  have hSb:(gd s₁.heap H).NoSeer:=by
   obtain⟨⟨mc,c1,c2,c3⟩,⟨mm,m1,m2⟩,⟨mb',b1,b2⟩,⟨mg',bm,ob,g1,g2,g3,g4,g5⟩⟩:=hse;refine⟨⟨mc,nsK c1,c2,c3⟩,⟨mm,nsK m1,m2⟩,⟨mb',nsK b1,b2⟩,⟨mg',bm,ob,nsK g1,g2,base_of g3 ?_,g4,g5⟩⟩;cases q:H bm with
   |none=>rfl
   |some u =>have e':bm=a:=hA bm (by rw[q];simp);rw[e',ha]at g3;cases g3;exact absurd (Value.type.inj g4) (by decide)
  have e0:Env0 P w K mg (gd s₁.heap H) callerA [] s₁ H:=⟨rfl,hM,λb o e=>Hc e,Rj (JO _ _),trivial,λb hb=>absurd (show b∈([]:List Addr)from hb) (by simp),hok,.of_eq hg⟩;refine codeAny_mono ((F _ hKb (nsK hns) hSb).run callerA [] s₁ H ⟨[.ref a],[]⟩ [.ref a] [.ref a] _ _ hr e0 (hbind s₁ (.ref a)) (.cons rfl .nil) (hsp H hO hS)) λr s' h=>?_
  cases r with
  |error e=>exact(hCX H e s' h).elim
  |ok fl =>
   cases fl with
   |next=>exact False.elim h
   |brk=>exact False.elim h
   |cont=>exact False.elim h
   |ret u =>
    obtain⟨v,H',os,bare,un,hok',r',q⟩:=h;have q':v=.bl true:=q;subst q';obtain rfl:u=Value.bool true:=r';refine⟨rfl,OldK.of_keep λb o e=>?_,os,bare⟩;cases q:H b with
    |none=>exact un.keep b o e q (by intro z;exact absurd (show b∈([]:List Addr)from z) (by simp)) (by simp)
    |some u =>
     rcases hO b with z |⟨ob,xs,z⟩
     ·rw[q]at z;cases z
     ·have z2:=un.frzs b ob _ z;obtain⟨e1,_⟩:=hok b _ z;obtain⟨e2,_⟩:=hok' b _ z2;rw[e]at e1;cases e1;exact e2
 cases hk:K.lookup a with
 |some o =>have e:=KX a o hk;rw[ha]at e;cases e;refine core (λ_=>none) (λ_=>.inl rfl) (.inr ⟨_,vs.toArray,_,hk,rfl,rfl,rfl,by rw[Qn,lenV];exact hl,by simpa using rv⟩) (λb u z=>by have z':(none:Option HO)=some u:=z;cases z') (λb z=>absurd rfl z) λz=>absurd rfl z
 |none =>
  refine core (λb=>if b=a then some (.frz { cls:=.type "list",data:=.seq vs.toArray } (.lst (ns.map V.int)))else none) (λb=>?_) (.inl (.inr ⟨{ cls:=.type "list",data:=.seq vs.toArray },if_pos rfl⟩)) (λb u z=>?_) (λb z=>?_) λ_=>hk
  ·by_cases hb:b=a
   ·exact .inr ⟨_,_,if_pos hb⟩
   ·exact .inl (if_neg hb)
  ·by_cases hb:b=a
   ·have z':=(if_pos hb).symm.trans z;cases z';subst hb;exact⟨ha,by rw[PC];exact hl,vs,_,rv,ha⟩
   ·have z':=(if_neg hb).symm.trans z;cases z'
  ·by_cases hb:b=a
   ·exact hb
   ·exact absurd (if_neg hb) z
theorem walk_ofS{l:PySem.W.OpenLaw}{n k:Nat}{q:Program}{loose:List Str}{XP:(Str->Option Value)->Heap->Prop}{YP:World->Heap->Prop}{d:DefRec}{K:Params->PySem.W.Frag}{CX:World->CXT}{sp:World->Sp}{x:Str}
 (hi:PyProof.Rows.importsNone q=true) (hn:l.most=some n) (hn2:n<=sizeLine) (hdf:d.params.defaults=[]) (hr:Room k callerA)
 (hY:∀(w:World) (h:Heap),YP w h->(K w.params).In h)
 (F:∀(w:World) (mg:Str->Option Value) (fa:Addr) (h:Heap),(K w.params).In h->h.Ns mainGlobals mg->mg d.name=some (.ref fa) ->
   ∃fd:FuncData,(∀(s:Shared) (u:Value),BindsTo s fd ⟨[u],[]⟩ [(x,u)]) /\
    ∀base:Heap,(K w.params).In base->base.Ns mainGlobals mg->base.NoSeer->FnOk l.prog w (K w.params) mg base (CX w) k fa fd [x] (sp w))
 (hsp:∀(w:World) (H:Hp) (a:Addr) (ns:List Int),ns.length<=n->vC H->SqL (K w.params) H a (ns.map V.int)->sp w [.ref a] H (λv _=>v=.bl true) λ_ _ _=>False)
 (hCX:∀(w:World) (H:Hp) (s:Shared) (e:Value) (s':Shared),CX w [] H s (λ_ _ _=>False) e s'->False) :
 PySem.W.WalkO q loose XP YP l.row.toRowW d [] (λf vs=>PySem.call f vs):=by
 refine Att.attach_call hn hdf λw s₀ s₁ mg mb fa o pm cd doc a vs ns G Y ho hd hcd hmg hobj hints hlen hg=>?_
 have KX:=hY w _ Y;obtain⟨fd,hb,hF⟩:=F w mg fa _ KX G.T.g hmg;exact IJ KX G.T.g G.T.b G.T.builtins G.T.nolimit (G.T.seer hi) hg hobj hints (PX hlen hn2) hr hF hb (λH hO hS=>hsp w H a ns hlen hO hS) λH e s'=>hCX w H s₁ e s'
section
variable {X:Cx}{e:Env}{l:List Env}
theorem Ez{pins:List (Addr×Obj)}{σ:St}{H:Hp}{s:Shared}(hs:X.base.NoSeer)(ht:X.prog.given.tree=none)(hd:X.A.depth+100<recursionLimit)(hst:X.stack=e::l)(h1:e.scope.isGenerator=false)(h2:e.scope.isCoroutine=false)(h3:e.builtins=builtinsNs)(h4:e.globals=mainGlobals)(I:Inv X pins σ H s):PylongRoom (model X.prog X.w) X.A s :=
 PylongRoom.of (I.ok.mod.nolimit.keeps I.bk) hd (SeerAt.of (hs.keeps I.bk) ht (by rw[I.ok.frames,hst]) h1 h2 h3 h4)
theorem FH(hs:X.base.NoSeer)(ht:X.prog.given.tree=none)(hd:X.A.depth+100<recursionLimit)(hst:X.stack=e::l)(h1:e.scope.isGenerator=false)(h2:e.scope.isCoroutine=false)(h3:e.builtins=builtinsNs)(h4:e.globals=mainGlobals):OpR X (binaryOp .FloorDiv) (rI (λ_ j=>0<j) λi j=>.int (i/j)):=by intro pins s σ H x y v u Q I rx ry h;obtain⟨i,j,rfl,rfl,hj,q⟩:=h;obtain⟨t,rfl⟩:=rx;obtain⟨t',rfl⟩:=ry;have hj':(0:Int)<j:=hj;refine floordiv_int (Qo hj') ?_ (.inr (Ez hs ht hd hst h1 h2 h3 h4 I));rw[Ss _ (PD hj')];exact⟨.int (i/j),H,I.tok _,⟨_,rfl⟩,q⟩
end
theorem Mb(a v:Value):argsOk "max" ⟨[a],[(Str.ofString "default",v)]⟩:=by unfold argsOk;kernel_rfl
def Top(val:Nat->Int)(n:Nat)(M:Int):Prop:=(∃i,i<n/\val i=M)/\∀i,i<n->val i<=M
theorem Top.more{val:Nat->Int}{n:Nat}{M:Int}(h:Top val n M)(hn:val n>M):Top val (n+1) (val n) :=
 ⟨⟨n,by omega,rfl⟩,λi hi=>by
   by_cases e:i=n
   ·subst e;exact Qg _
   ·have:=h.2 i (by omega);omega⟩
theorem Top.less{val:Nat->Int}{n:Nat}{M:Int}(h:Top val n M)(hn:¬val n>M):Top val (n+1) M :=
 ⟨let⟨i,hi,e⟩:=h.1;⟨i,by omega,e⟩,λi hi=>by
  by_cases e:i=n
  ·subst e;omega
  ·exact h.2 i (by omega)⟩
section
variable {prog:Program}{w:World}{A:Around}{R:Result->Shared->Prop}{I S:Addr}{fp wr:List Addr}{n:Nat}{P:Nat->Value->Prop}{St:Nat->Heap->Prop}{val:Nat->Int}{d:Value}
theorem oE:(toString "max"++toString ".loop":String)="max.loop":=by decide
theorem HA(W:Walks prog w A.in1 I fp wr n P St)(hval:∀i v,P i v->∃t,v=.int (val i) t)(hSf:S∉fp) :
 ∀(k j:Nat) (s:Shared) (m:Int) (t:Tok) (c:Nat),n-j=k->j<=n->St j s.heap->Top val j m ->
 s.heap.get? S=some { cls:=.type "list",dict:=none,data:=.seq #[.int m t,.int m t] c,slots:=#[] } ->
 (∀M t h' tk,Top val n M->(∀b o,b∉wr->b≠S->s.heap.get? b=some o->h'.get? b=some o)->R (.ok (.ret (.int M t))) { s with heap:=h',toks:=tk }) ->
 codeAny (model prog w) A (.builtin "max.loop" ⟨[.ref I,.none,.ref S],[("default",d)]⟩) R s:=by
 have hSw:S∉wr:=λh=>hSf (W.sub _ h)
 have cm:=CmpOf.ints_gt (prog:=prog) (w:=w) (A:=A.in1) (P:=λi v=>∃t,v=.int (val i) t) val (λ_ _ h=>h);intro k
 induction k with
 |zero =>
  intro j s m t c hk hj hst hT hS hR;have hin:j=n:=by omega
  subst hin;refine codeAny_builtin F.entry_max_loop ?_;rw[Around.under_plainId F.plain_max_loop _];refine wpAny_bind (wpAny_seqItems hS rfl ?_);show wpAny _ A.in1 (tryCatch (pyNext (.ref I)) _ >>= _) _ _ s;refine wpAny_bind (wpAny_tryCatch (W.done s _ _ hst λh' tk hk'=>?_));show wpAny _ A.in1 (updateSeq S (λ_=>#[]) >>= _) _ _ _;refine wpAny_bind (wpAny_updateSeq (hk' S _ hSw hS) rfl (wpAny_bind (wpAny_letGo (wpAny_pure ?_))));exact hR m t _ tk hT λb o hb hbS e=>(Heap.get?_update_other _ _ (Ne.symm hbS)).trans (hk' b o hb e)
 |succ k ih =>
  intro j s m t c hk hj hst hT hS hR;have hlt:j<n:=by omega
  refine codeAny_builtin F.entry_max_loop ?_;rw[Around.under_plainId F.plain_max_loop _];refine wpAny_bind (wpAny_seqItems hS rfl ?_);show wpAny _ A.in1 (tryCatch (pyNext (.ref I)) _ >>= _) _ _ s;refine wpAny_bind (wpAny_tryCatch (W.item j s _ _ hlt hst λv h' tk hP hst' hk'=>?_));have hS':=hk' S _ hSw hS;obtain⟨u,rfl⟩:=hval j v hP;obtain⟨i0,_,e0⟩:=hT.1;show wpAny _ A.in1 (tryCatch (holding [_,_] (richCompare .Gt (.int (val j) u) (.int m t) >>= _)) _ >>= _) _ _ _;refine wpAny_bind (wpAny_tryCatch (wpAny_holding (wpAny_bind (cm j i0 _ _ _ _ _ ⟨u,rfl⟩ ⟨t,by rw[e0]⟩ ?_))));refine wpAny_bind (wpAny_holding (wpAny_truthy_bool ?_));refine wpAny_bind (wpAny_letGo (wpAny_pure ?_));show wpAny _ A.in1 (if decide (val j>val i0)=true then _ else _) _ _ _;rw[e0];by_cases hb:val j>m
  ·rw[decide_eq_true hb];simp only[if_true];refine wpAny_bind ?_;refine wpAny_updateSeq hS' rfl (wpAny_bind (wpAny_letGo ?_));rw[oE];refine wpAny_pure ⟨plainId_quiet F.plain_max_loop _,ih (j+1) _ (val j) u _ (by omega) hlt (W.frame _ _ _ hst' λb hbf o e=>?_) (hT.more hb) (Heap.get?_update_self _ hS' rfl) λM t' h'' tk'' hM hk''=>?_⟩
   ·exact(Heap.get?_update_other _ _ (λh:S=b=>hSf (h ▸ hbf))).trans e
   ·exact hR M t' h'' tk'' hM λb o hbw hbS e=>hk'' b o hbw hbS ((Heap.get?_update_other _ _ (Ne.symm hbS)).trans (hk' b o hbw e))
  ·rw[decide_eq_false hb];simp only[Bool.false_eq_true,if_false];refine wpAny_bind (wpAny_letGo ?_);rw[oE];refine wpAny_pure ⟨plainId_quiet F.plain_max_loop _,ih (j+1) _ m t c (by omega) hlt hst' (hT.less hb) hS' λM t' h'' tk'' hM hk''=>?_⟩;exact hR M t' h'' tk'' hM λb o hbw hbS e=>hk'' b o hbw hbS (hk' b o hbw e)
theorem HB(W:Walks prog w A.in1 I fp wr n P St)(hval:∀i v,P i v->∃t,v=.int (val i) t)(hSf:S∉fp){s:Shared}{c:Nat}(hst:St 0 s.heap)
 (hS:s.heap.get? S=some { cls:=.type "list",dict:=none,data:=.seq #[] c,slots:=#[] })
 (h0:n=0->∀h' tk,(∀b o,b∉wr->b≠S->s.heap.get? b=some o->h'.get? b=some o)->R (.ok (.ret d)) { s with heap:=h',toks:=tk })
 (hR:∀M t h' tk,Top val n M->(∀b o,b∉wr->b≠S->s.heap.get? b=some o->h'.get? b=some o)->R (.ok (.ret (.int M t))) { s with heap:=h',toks:=tk }) :
 codeAny (model prog w) A (.builtin "max.loop" ⟨[.ref I,.none,.ref S],[("default",d)]⟩) R s:=by
 have hSw:S∉wr:=λh=>hSf (W.sub _ h)
 refine codeAny_builtin F.entry_max_loop ?_;rw[Around.under_plainId F.plain_max_loop _];refine wpAny_bind (wpAny_seqItems hS rfl ?_);show wpAny _ A.in1 (tryCatch (pyNext (.ref I)) _ >>= _) _ _ s;by_cases hn:n=0
 ·subst hn;refine wpAny_bind (wpAny_tryCatch (W.done s _ _ hst λh' tk hk'=>?_));refine wpAny_bind (wpAny_rule (wpAny_pure ?_));exact h0 rfl h' tk λb o hb _ e=>hk' b o hb e
 ·refine wpAny_bind (wpAny_tryCatch (W.item 0 s _ _ (by omega) hst λv h' tk hP hst' hk'=>?_));have hS':=hk' S _ hSw hS;obtain⟨u,rfl⟩:=hval 0 v hP;show wpAny _ A.in1 (updateSeq S (λ_=>#[.int (val 0) u,.int (val 0) u]) >>= _) _ _ _;refine wpAny_bind (wpAny_updateSeq hS' rfl ?_);rw[oE];refine wpAny_pure ⟨plainId_quiet F.plain_max_loop _,HA W hval hSf _ 1 _ (val 0) u _ rfl (by omega) (W.frame _ _ _ hst' λb hbf o e=>?_) ⟨⟨0,by omega,rfl⟩,λi hi=>?_⟩ (Heap.get?_update_self _ hS' rfl) λM t h'' tk'' hM hk''=>?_⟩
  ·exact(Heap.get?_update_other _ _ (λh:S=b=>hSf (h ▸ hbf))).trans e
  ·have:i=0:=by omega
   subst this;exact Qg _
  ·exact hR M t h'' tk'' hM λb o hbw hbS e=>hk'' b o hbw hbS ((Heap.get?_update_other _ _ (Ne.symm hbS)).trans (hk' b o hbw e))
end
section
variable {prog:Program}{w:World}{A:Around}{E:Value->Shared->Prop}{s:Shared}{l:Addr}{xs:Array (Int×Tok)}{d:Value}
theorem Lk{Q:Value->Shared->Prop}(hh:A.handled=none)(hl:s.heap.IsList l (intItems xs))
 (h0:xs.size=0->∀h' tk,(∀b o,s.heap.get? b=some o->h'.get? b=some o)->Q d { s with heap:=h',toks:=tk })
 (h:∀M t h' tk,Top (numAt xs) xs.size M->(∀b o,s.heap.get? b=some o->h'.get? b=some o)->Q (.int M t) { s with heap:=h',toks:=tk }) :
 wpAny (model prog w) A (call (.builtin "max") [.ref l] [("default",d)]) Q E s:=by
 refine wpAny_call (codeAny_call_builtin F.plain_max F.entry_max ?_);simp only[checkBuiltinCall,F.kind_max]
 have key:wpAny (model prog w) A.in1 (Builtin.«max» ⟨[.ref l],[("default",d)]⟩) (λfin s'=>match fin with
  |.done f=>(match(Except.ok f:Result)with |.ok (.ret v)=>Q v s' |.ok _=>False |.error e=>E e s')
  |.again c'=>c'.quiet=true/\codeAny (model prog w) A c' (λr s'=>match r with |.ok (.ret v)=>Q v s' |.ok _=>False |.error e=>E e s') s') E s:=by
  show wpAny _ A.in1 (Builtin.Builtins.bindParams "max" ["key","default"] 0 ⟨[],[("default",d)]⟩ >>= _) _ _ s;refine wpAny_bind (wpAny_of_eq (show Builtin.Builtins.bindParams "max" ["key","default"] 0 ⟨[],[("default",d)]⟩=pure [none,some d]from rfl) ?_);refine wpAny_bind (wpAny_pure ?_);refine wpAny_bind (iter_intList hl λs₂ e st hfp hlI=>?_);subst e;refine wpAny_bind (wpAny_newObj_type ?_);rw[oE];have W:=Walks.list (prog:=prog) (w:=w) (A:=A.in1) hh _ l hlI (intItems xs);have sz:(intItems xs).size=xs.size:=by simp[intItems]
  refine wpAny_pure ⟨plainId_quiet F.plain_max_loop _,HB W (val:=numAt xs) (λi v=>intItems_at) (λhm=>QM _ (hfp _ hm)) (W.frame _ _ _ st λb _ o e=>Heap.get?_push_of_some _ e) (Heap.get?_push_size _ rfl) (λhn h' tk hk=>?_) λM t h' tk hM hk=>?_⟩
  ·exact h0 (sz ▸ hn) h' tk (old_kept λb o hb e=>hk b o hb (Qj (Heap.lt_size e)) (Heap.get?_push_of_some _ e))
  ·exact h M t h' tk (sz ▸ hM) (old_kept λb o hb e=>hk b o hb (Qj (Heap.lt_size e)) (Heap.get?_push_of_some _ e))
 cases hsig:Manifest.signature? "max" with
 |none=>exact wpAny_pure key
 |some sig =>
  have ha':Bind.checkArgs "max" sig ⟨[.ref l],[("default",d)]⟩=pure ():=by simpa only[argsOk,hsig]using Mb (.ref l) d
  simp only[ha'];exact wpAny_pure key
end
def yH(K:PySem.W.Frag):R2:=λx y H Q=>∃(p:Addr) (ns:List Int),x=.ref p/\SqL K H p (ns.map V.int)/\(ns=[]->Q y H)/\∀M,M∈ns->(∀a∈ns,a<=M)->Q (.int M) H
theorem As:∀{ns:List Int} {us:List Value},Vals (ns.map V.int) us->∃ts:List (Int×Tok),us.toArray=intItems ts.toArray/\ts.map (·.1)=ns
 | [],_,h=>by cases h;exact⟨[],by simp[intItems],rfl⟩
 |n::ns,_,h=>by
  cases h with
  |cons r rr =>obtain⟨t,rfl⟩:=r;obtain⟨ts,e1,e2⟩:=As rr;refine⟨(n,t)::ts,?_,by rw[QG,e2]⟩;have e3:=congrArg Array.toList e1;simp only[intItems,List.map_toArray]at e3 ⊢;simpa using e3
theorem CT{ts:List (Int×Tok)}{M:Int}(h:Top (numAt ts.toArray) ts.toArray.size M):M∈ts.map (·.1)/\∀a∈ts.map (·.1),a<=M:=by
 have g:∀(i:Nat) (hi:i<ts.length),numAt ts.toArray i=(ts[i]).1:=λi hi=>by simp[numAt,hi]
 obtain⟨⟨i,hi,e⟩,h2⟩:=h;have hi':i<ts.length:=by simpa using hi
 constructor
 ·rw[<- e,g i hi'];exact PV.mpr ⟨_,Ro hi',rfl⟩
 ·intro a ha;obtain⟨p,hp,rfl⟩:=PV.mp ha;obtain⟨j,hj,rfl⟩:=List.getElem_of_mem hp;rw[<- g j hj];exact h2 j (by simpa using hj)
section
variable {X:Cx}{K:PySem.W.Frag}{e ed:Expr}{ta td:TE}{p pos kp:Pos}
theorem Fy(hK:X.K=K)(hc:X.calm=true)(hg:Gl X "max")(hm:X.mg "max"=none)(ha:PE X e ta)(hd:PE X ed td)
 (he:starEach [e] X.env=(false,eval e X.env)::starEach [] X.env:=by rfl):PE X (.Call (.Name "max" p) [e] [⟨some "default",ed,kp⟩] pos) (tOp (yH K) ta td):=by
 subst hK;intro pins s σ H Q I h;refine wpAny_Call_Name_kw (gb I hg hm boot_max ?_ (by decide) (by decide));refine callWith_kw (thn (aa ha ac he pos pins s σ H (λvs H1=>match vs with | [x]=>td σ H1 λy H2=>yH X.K x y H2 Q |_=>False) I h) λus s1 ⟨vs,H1,I1,r1,q1⟩=>?_) (by rw[he];rfl) (by rw[he];rfl) rfl rfl
 obtain⟨x,rfl⟩:∃x,vs=[x]:=by
  match vs,q1 with
  | [x],_=>exact⟨x,rfl⟩
 obtain⟨u,rfl,ru⟩:=gU r1;refine kws_cons (thn (hd pins s1 σ H1 _ I1 q1) λv s2 ⟨y,H2,I2,ry,q2⟩=>kws_nil ?_);obtain⟨a,ns,rfl,hq,k0,k1⟩:=q2;cases ru;obtain⟨its,r',pl,hz⟩:=I2.list hq;obtain⟨ts,e1,e2⟩:=As r';have il:=pl.isList;rw[e1]at il;refine Lk (I2.ok.hd hc) il (λh0 h' tk k=>⟨y,H2,I2.kept k,ry,k0 ?_⟩) λM t h' tk hM k=>⟨.int M,H2,I2.kept k,⟨t,rfl⟩,?_⟩
 ·have:ts=[]:=by simpa using h0
  rw[<- e2,this];rfl
 ·obtain⟨m1,m2⟩:=CT hM;rw[e2]at m1 m2;exact k1 M m1 m2
end
theorem BQ:∀{bs:List Bool} {us:List Value},Vals (bs.map V.bl) us->us=bs.map Value.bool
 | [],_,h=>by cases h;rfl
 |b::bs,_,h=>by
  cases h with
  |cons r rr =>cases r;rw[BQ rr];rfl
theorem Mc(bs:List Bool):(List.range bs.length).any (λi=>bs.getD i false)=bs.any id:=by
 rw[Bool.eq_iff_iff,List.any_eq_true,List.any_eq_true];constructor
 ·rintro⟨i,hi,e⟩;have hi':=List.mem_range.mp hi;refine⟨bs[i],Ro hi',?_⟩;simpa[List.getD,List.getElem?_eq_getElem hi']using e
 ·rintro⟨b,hb,e⟩;obtain⟨i,hi,rfl⟩:=List.getElem_of_mem hb;refine⟨i,List.mem_range.mpr hi,?_⟩;simpa[List.getD,List.getElem?_eq_getElem hi]using e
theorem Lq{X:Cx}{K:PySem.W.Frag}(hK:X.K=K)(hc:X.calm=true):CallR X (.builtin "any") (λxs H Q=>∃(p:Addr) (bs:List Bool),xs=[.ref p]/\SqL K H p (bs.map V.bl)/\Q (.bl (bs.any id)) H):=by
 subst hK;intro pins s σ H xs us Q I r h;obtain⟨p,bs,rfl,hq,q⟩:=h;obtain⟨u,rfl,rx⟩:=gU r;cases rx;obtain⟨its,r',pl,hz⟩:=I.list hq;have e:=BQ r';subst e;have hl:=pl.isList;have hlt:p<s.heap.objs.size:=by obtain⟨_,e,_⟩:=hl;exact Heap.lt_size e
 refine call_any_walk (wpAny_pyIter_list hl ?_);refine⟨_,_,_,_,_,_,λi=>bs.getD i false,rfl,Walks.list (A:=X.A.in1) (I.ok.hd hc) _ p (Qj hlt) _,⟨⟨_,Heap.get?_push_size _ rfl,rfl,rfl⟩,hl.push _⟩,λi v s' Q' E' hP hQ=>?_,λh' tk hk=>?_⟩
 ·have e:v=.bool (bs.getD i false):=by have hP':((bs.map Value.bool).toArray)[i]?=some v:=hP;simp only[List.getElem?_toArray,List.getElem?_map,Option.map_eq_some_iff]at hP';obtain⟨b,hb,rfl⟩:=hP';simp[List.getD,hb]
  subst e;exact wpAny_truthy_bool hQ
 ·refine⟨.bl (bs.any id),H,I.kept (old_kept hk),?_,q⟩;show Value.bool _=Value.bool _;rw[<- Mc bs];simp
section
variable {X:Cx}
end
theorem Ar:∀{ns:List Int} {us:List Value},Vals (ns.map V.int) us->∃l:List (Int×Tok),us=l.map (λp=>Value.int p.1 p.2)/\l.map (·.1)=ns
 | [],_,h=>by cases h;exact⟨[],rfl,rfl⟩
 |n::ns,_,h=>by
  cases h with
  |cons r rr =>obtain⟨t,rfl⟩:=r;obtain⟨l,rfl,e⟩:=Ar rr;exact⟨(n,t)::l,rfl,by rw[QG,e]⟩
theorem yT:∀(l:List (Int×Tok)) (n:Nat),n<=l.length->preSum (numAt l.toArray) n=((l.take n).map (·.1)).sum
 |l,0,_=>rfl
 |l,n+1,h=>by rw[preSum,yT l n (by omega),QI,List.getElem?_eq_getElem (by omega)];unfold numAt;rw[List.getElem?_toArray,List.getElem?_eq_getElem (by omega),Option.toList_some,Qk,List.sum_append];show _=_+(l[n].1+0);rw[Qy];rfl
theorem Lj{X:Cx}{K:PySem.W.Frag}(hK:X.K=K)(hc:X.calm=true):CallR X (.builtin "sum") (λxs H Q=>∃(p:Addr) (ns:List Int),xs=[.ref p]/\SqL K H p (ns.map V.int)/\Q (.int ns.sum) H):=by
 subst hK;intro pins s σ H xs us Q I r h;obtain⟨p,ns,rfl,hq,q⟩:=h;obtain⟨u,rfl,rx⟩:=gU r;cases rx;obtain⟨its,r',pl,hz⟩:=I.list hq;obtain⟨l,rfl,e⟩:=Ar r'
 have hl:s.heap.IsList p (intItems l.toArray):=by
  have h1:=pl.isList;have e2:(l.map (λp=>Value.int p.1 p.2)).toArray=intItems l.toArray:=by unfold intItems;simp
  rw[<- e2];exact h1
 refine sum_intListG (I.ok.hd hc) hl λh' tk t' hk=>⟨.int ns.sum,H,I.kept hk,⟨t',?_⟩,q⟩
 have e3:preSum (numAt l.toArray) l.toArray.size=ns.sum:=by rw[Qn,yT l l.length (PF _),QU,e]
 rw[e3]
structure CalE(P:Program)(w:World)(K:PySem.W.Frag)(mg:Str->Option Value)(base:Heap)(k:Nat)(x:Str)(ps:List Str)(sp:Sp)(f:Addr)(fd:FuncData)(ds:List Value)(dvs:List V):Prop where
 ok:FnOk P w K mg base CX0 k f fd ps sp
 mg:mg x=some (.ref f)
 kp:PySem.W.keepIn K (.ref f)=true
 bn:Binds K fd ps []
 bd:Binds K fd ps ds
 vd:Vals dvs ds
section
variable {X:Cx}{K:PySem.W.Frag}
end
noncomputable def bg:Nat:=67000000
section
variable {X:Cx}{K:PySem.W.Frag}
theorem pJ{x y:V}{us:List Value}(h:Vals [x,y] us):∃u v,us=[u,v]/\RelV x u/\RelV y v:=by
 cases h with
 |cons r t =>
  cases t with
  |cons r2 t2 =>cases t2;exact⟨_,_,rfl,r,r2⟩
end
noncomputable def Itz(a b:Addr):It :=
 ⟨λi H=>∃xs ys x y,H a=some (.lst xs)/\H b=some (.lst ys)/\xs[i]?=some x/\ys[i]?=some y,λi H x H'=>∃v w p,x=.ref p/\H p=none/\H'=upd H p (.tup [v,w])/\∀xs ys,H a=some (.lst xs)->H b=some (.lst ys)->xs[i]?=some v/\ys[i]?=some w,λi H=>∃xs ys,H a=some (.lst xs)/\H b=some (.lst ys)/\(xs.length<=i\/ys.length<=i)⟩
section
variable {X:Cx}{pins:List (Addr×Obj)}{σ:St}{H:Hp}{s:Shared}{h':Heap}
theorem Inv.turnedL{t':Nat}{ch:List Addr}(I:Inv X pins σ H s)(k:∀b o,b∉ch->s.heap.get? b=some o->h'.get? b=some o)(hf:∀b∈ch,fV X pins H b):Inv X pins σ H { s with heap:=h',toks:=t' }:=by
 have nit:∀b u,H b=some u->b∉ch:=λb u e z=>by rw[(hf b z).1]at e;cases e
 refine I.step (g':=s.gens) (d':=s.drawn) (ch:=ch) (λb hb=>?_) (λb o _ _ hc e _=>k b o hc e) (λb o _ _ hc e _=>⟨o.slots,k b o hc e⟩) (λ_ _ _ _ n=>n)
  (λb o hc e=>⟨o,k b o hc e⟩) (λ_ _ e=>e) (λ_ _ _ e=>e) (λb ps e=>⟨#[],by rw[e];simp⟩) (λm hm=>?_) (λb u e=>?_) I.bare
 ·obtain⟨f0,f1,f2,f3,f4,f5⟩:=hf b hb;exact⟨f3,f1,f4,f5⟩
 ·obtain⟨o,es',ep',ho,r⟩:=hm;exact⟨o,es',ep',k _ o (λz=>(hf _ z).2.1 rfl) ho,r⟩
 ·refine(I.hok b u e).stay (λc v hc z=>?_) (λc z=>z) λc ys z=>z
  rcases hc with rfl |hc
  ·exact k c v (nit c u e) z
  ·exact k c v (nit c _ hc) z
end
theorem Cw{P:Program}{w:World}{K:PySem.W.Frag}{es:List Expr}{x1:Nat}{tp:Pos}(a b z TI TO i1 i2:Addr)(nd:[z,TI,TO,i1,i2].Nodup):Turn P w K (.Tuple es x1 tp) (Itz a b) [z,TI,TO,i1,i2] z (λi h=>IsZip h z TI TO .none/\IsPair h TI (.ref i1) (.ref i2)/\(∃u v,IsPair h TO u v)/\h.IsListIter i1 a i/\h.IsListIter i2 b i) where
 mem:=by simp
 obj:=λi h st c hb=>by
  obtain⟨hz,hTI,⟨u,v,hTO⟩,h1,h2⟩:=st;simp only[PM,QJ,or_false]at hb;rcases hb with rfl |rfl |rfl |rfl |rfl
  ·exact⟨_,hz,λv z=>by cases z⟩
  ·exact⟨_,hTI,λv z=>by cases z⟩
  ·exact⟨_,hTO,λv z=>by cases z⟩
  ·obtain⟨o,e,c,d⟩:=h1;exact⟨o,e,λv z=>by rw[d]at z;cases z⟩
  ·obtain⟨o,e,c,d⟩:=h2;exact⟨o,e,λv z=>by rw[d]at z;cases z⟩
 keep:=λi h h' st k=>by obtain⟨hz,hTI,⟨u,v,hTO⟩,h1,h2⟩:=st;exact⟨k z (by simp) _ hz,k TI (by simp) _ hTI,⟨u,v,k TO (by simp) _ hTO⟩,h1.at λo q=>k i1 (by simp) o q,h2.at λo q=>k i2 (by simp) o q⟩
 item:=by
  intro X hP hw hK hc i pins s σ H E I hf st hg;subst hP hw hK;obtain⟨hz,hTI,⟨ta,tb,hTO⟩,h1,h2⟩:=st;obtain⟨xs,ys,x,y,hq,hq2,hx,hy⟩:=hg;obtain⟨its,rv,p,hzl⟩:=I.list (SqL.of hq);obtain⟨its2,rv2,p2,hzl2⟩:=I.list (SqL.of hq2);obtain⟨u,hu,ru⟩:=rv.get hx;obtain⟨u2,hu2,ru2⟩:=rv2.get hy;have nf:∀b o,H b=some o->b∉[z,TI,TO,i1,i2]:=λb o q z=>by rw[(hf b z).1]at q;cases q
  have n1:=nf _ _ hq;have n2:=nf _ _ hq2;simp only[PM,QJ,or_false,not_or]at n1 n2;have nd':=nd;simp only[Q2,PM,QJ,or_false,not_or,List.nodup_nil,and_true,not_false_eq_true]at nd';obtain⟨⟨d1,d2,d3,d4⟩,⟨d5,d6,d7⟩,⟨d8,d9⟩,d10⟩:=nd';have D:ZipApart z TI TO i1 i2 a b:=⟨Ne.symm d1,Ne.symm d2,Ne.symm d3,Ne.symm d4,d5,d6,d7,d8,d9,d10,n1.1,n1.2.2.1,n1.2.2.2.1,n1.2.2.2.2,n2.1,n2.2.2.1,n2.2.2.2.1,n2.2.2.2.2⟩;refine wpAny_pyNext_zip_item D hz hTI hTO h1 h2 p.isList p2.isList (x:=u) (y:=u2) (by simpa using hu) (by simpa using hu2) λh' a1 a2 a3 a4 a5 a6 kk=>?_
  have hfp:H s.heap.objs.size=none:=I.hok.fresh (PF _);have kk':∀b o,b∉[z,TO,i1,i2]->s.heap.get? b=some o->h'.get? b=some o:=λb o hb q=>kk b o (λz=>hb (by simp[z])) (λz=>hb (by simp[z])) (λz=>hb (by simp[z])) (λz=>hb (by simp[z])) q
  have sub:∀b∈[z,TO,i1,i2],b∈[z,TI,TO,i1,i2]:=λb hb=>by simp at hb ⊢;rcases hb with h |h |h |h<;>simp[h]
  have I1:Inv X pins σ (upd H s.heap.objs.size (.tup [x,y])) { s with heap:=h' }:=by
   refine I.step (g':=s.gens) (d':=s.drawn) (t':=s.toks) (ch:=[z,TO,i1,i2]) (λb hb=>?_) (λb o _ _ hc q _=>kk' b o hc q)
    (λb o _ _ hc q _=>⟨o.slots,kk' b o hc q⟩) (λb o _ q n=>by rw[upd_ne (Qj (Heap.lt_size q))];exact n)
    (λb o hc q=>⟨o,kk' b o hc q⟩) (λb ys q=>by rw[upd_ne (aW q hfp)];exact q) (λb o ys q=>by rw[upd_ne (aW q hfp)];exact q)
    (λb ps q=>⟨#[],by rw[upd_ne (aW q hfp),q];simp⟩) (λm hm=>?_) (λb o q=>?_) I.bare
   ·obtain⟨f0,f1,f2,f3,f4,f5⟩:=hf b (sub b hb);exact⟨f3,f1,f4,f5⟩
   ·obtain⟨o,es',ep',ho,r⟩:=hm;exact⟨o,es',ep',kk' _ o (λz=>(hf _ (sub _ z)).2.1 rfl) ho,r⟩
   ·by_cases hb:b=s.heap.objs.size
    ·subst hb;rw[au]at q;cases q;exact⟨by show 2<=sizeLine;decide,[u,u2],.cons ru (.cons ru2 .nil),⟨_,a5,rfl,_,rfl⟩⟩
    ·rw[upd_ne hb]at q;refine(I.hok b o q).stay (λc v hc z=>?_) (λc z=>by rw[upd_ne (aW z hfp)];exact z) λc ys z=>by rw[upd_ne (aW z hfp)];exact z
     rcases hc with rfl |hc
     ·exact kk' c v (λy=>nf c o q (sub _ y)) z
     ·exact kk' c v (λy=>nf c _ hc (sub _ y)) z
  refine⟨_,rfl,wpAny_letOwnedTupleGo_zip a1 λh'' hz'' sb=>?_⟩;obtain⟨f0,f1,f2,f3,f4,f5⟩:=hf z (by simp)
  have hen:upd H s.heap.objs.size (.tup [x,y]) z=none:=by rw[upd_ne (Qj (Heap.lt_size hz))];exact f0
  have I2:=I1.turned (h':=h'') (t':=s.toks) (it:=z) (λb o hb q=>(sb.2 b hb).trans q) hen f1 f3 f4 f5;have kz:∀{c:Addr},c≠z->∀o,h'.get? c=some o->h''.get? c=some o:=λhc o q=>(sb.2 _ hc).trans q
  refine⟨.ref s.heap.objs.size,_,I2,rfl,⟨x,y,_,rfl,hfp,rfl,λzs ws h1 h2=>by rw[hq]at h1;rw[hq2]at h2;cases h1;cases h2;exact⟨hx,hy⟩⟩,⟨hz'',kz (Ne.symm d1) _ (kk' TI _ (by simp only[PM,QJ,or_false,not_or];exact⟨Ne.symm d1,d5,d6,d7⟩) hTI),⟨_,_,kz (Ne.symm d2) _ a2⟩,a3.at λo q=>kz (Ne.symm d3) o q,a4.at λo q=>kz (Ne.symm d4) o q⟩,λb hb=>?_⟩
  have hlt:b<s.heap.objs.size:=by
   simp only[PM,QJ,or_false]at hb;rcases hb with rfl |rfl |rfl |rfl |rfl
   ·exact Heap.lt_size hz
   ·exact Heap.lt_size hTI
   ·exact Heap.lt_size hTO
   ·obtain⟨o,e1,_⟩:=h1;exact Heap.lt_size e1
   ·obtain⟨o,e1,_⟩:=h2;exact Heap.lt_size e1
  rw[upd_ne (Qj hlt)];exact(hf b hb).1
 done:=by
  intro X hP hw hK hc i pins s σ H E I hf st hg;subst hP hw hK;obtain⟨hz,hTI,⟨ta,tb,hTO⟩,h1,h2⟩:=st;obtain⟨xs,ys,hq,hq2,hx⟩:=hg;obtain⟨its,rv,p,hzl⟩:=I.list (SqL.of hq);obtain⟨its2,rv2,p2,hzl2⟩:=I.list (SqL.of hq2);have nf:∀b o,H b=some o->b∉[z,TI,TO,i1,i2]:=λb o q z=>by rw[(hf b z).1]at q;cases q
  have n1:=nf _ _ hq;have n2:=nf _ _ hq2;simp only[PM,QJ,or_false,not_or]at n1 n2;have nd':=nd;simp only[Q2,PM,QJ,or_false,not_or,List.nodup_nil,and_true,not_false_eq_true]at nd';obtain⟨⟨d1,d2,d3,d4⟩,⟨d5,d6,d7⟩,⟨d8,d9⟩,d10⟩:=nd';have D:ZipApart z TI TO i1 i2 a b:=⟨Ne.symm d1,Ne.symm d2,Ne.symm d3,Ne.symm d4,d5,d6,d7,d8,d9,d10,n1.1,n1.2.2.1,n1.2.2.2.1,n1.2.2.2.2,n2.1,n2.2.2.1,n2.2.2.2.1,n2.2.2.2.2⟩;have hl:=rv.length;have hl2:=rv2.length;have sub:∀b∈[z,TO,i1,i2],b∈[z,TI,TO,i1,i2]:=λb hb=>by simp at hb ⊢;rcases hb with h |h |h |h<;>simp[h]
  refine wpAny_pyNext_zip_end (I.ok.hd hc) D hz hTI hTO h1 h2 p.isList p2.isList ?_ λh' kk=>⟨rfl,I.turnedL (ch:=[z,TO,i1,i2]) (t':=s.toks) (λb o hb q=>kk b o (λz=>hb (by simp[z])) (λz=>hb (by simp[z])) (λz=>hb (by simp[z])) (λz=>hb (by simp[z])) q) λb hb=>hf b (sub b hb)⟩
  rcases hx with h |h
  ·left;simp;omega
  ·right;simp;omega
 self:=λ_ _ _ _ _ st h=>wpAny_pyIter_zip st.1 h
section
variable {X:Cx}
def JG(ta:TA):TI:=λσ H R=>ta σ H λvs H1=>∃a b,vs=[.ref a,.ref b]/\(∃xs,H1 a=some (.lst xs))/\(∃ys,H1 b=some (.lst ys))/\R (Itz a b) H1
theorem Fl{es:List Expr}{x1:Nat}{tp:Pos}{a b:Expr}{ta:TA}{p pos:Pos}(hg:Gl X "zip")(hm:X.mg "zip"=none)(ha:PA X [a,b] ta)(hs:starEach [a,b] X.env=(false,eval a X.env)::starEach [b] X.env:=by rfl)(hs2:starEach [b] X.env=[(false,eval b X.env)]:=by rfl):PI X (.Tuple es x1 tp) (.Call (.Name "zip" p) [a,b] [] pos) (JG ta):=by
 intro pins s σ H R I h;refine Call_ (gb I hg hm PyProof.Rows.boot_zip (PyProof.Rows.callWith_type1 (thn (ha pos pins s σ H _ I h) λus s1 ⟨vs,H1,I1,r1,q1⟩=>?_) hs (by rw[hs2];rfl)));obtain⟨a',b',e,⟨xs,hq⟩,⟨ys,hq2⟩,q⟩:=q1;subst e;obtain⟨u,v,rfl,ru,rv⟩:=r1.two;cases ru;cases rv;obtain⟨its,rv,pl,hz⟩:=I1.list (SqL.of hq);obtain⟨its2,rv2,pl2,hz2⟩:=I1.list (SqL.of hq2);refine call_zip_2 pl.isList pl2.isList λh' hz hTI hTO hi1 hi2 hsz hk=>?_
 have I2:Inv X pins σ H1 { s1 with heap:=h' }:=I1.kept (t':=s1.toks) hk;refine wpAny_pyIter_zip hz ?_;refine⟨s1.heap.objs.size+4,[s1.heap.objs.size+4,s1.heap.objs.size+2,s1.heap.objs.size+3,s1.heap.objs.size,s1.heap.objs.size+1],_,_,H1,rfl,I2,Cw a' b' _ _ _ _ _ (by simp),⟨hz,hTI,⟨_,_,hTO⟩,hi1,hi2⟩,λb hb=>?_,q⟩
 have hb':s1.heap.objs.size<=b:=by simp only[PM,QJ,or_false]at hb;rcases hb with rfl |rfl |rfl |rfl |rfl<;>first |exact Sd _ _ |exact PF _
 exact I1.fpOk hb' (I1.hok.fresh hb')
end
theorem J8{a b:Addr}{xs ys:List V}{g:TG}{tb:TS}{D:Ends}{σ:St}{H:Hp}(Pv:Nat->St->Hp->Prop)(h0:Pv 0 σ H)(hl:∀i σ H,Pv i σ H->H a=some (.lst xs)/\H b=some (.lst ys))
 (hs:∀i x y σ H p,xs[i]?=some x->ys[i]?=some y->Pv i σ H->H p=none->g (.ref p) σ (upd H p (.tup [x,y])) λσ2 H2=>tb { D with nx:=Pv (i+1),ct:=Pv (i+1),bk:=D.nx } σ2 H2) (hd:∀σ H,Pv (min xs.length ys.length) σ H->D.nx σ H) :
 ∃W:Nat->Nat->St->Hp->Prop,(∃m,W 0 m σ H)/\∀i m σ H,W i m σ H ->
  ((Itz a b).stop i H/\D.nx σ H)\/((Itz a b).go i H/\∃N:St->Hp->Prop,(∀σ' H',N σ' H'->∃m',m'<m/\W (i+1) m' σ' H')/\∀x H',(Itz a b).yld i H x H'->g x σ H' λσ2 H2=>tb { D with nx:=N,ct:=N,bk:=D.nx } σ2 H2):=by
 refine⟨λi m σ H=>m=min xs.length ys.length-i/\i<=min xs.length ys.length/\Pv i σ H,⟨min xs.length ys.length,by simp,PK _,h0⟩,?_⟩;rintro i m σ H ⟨rfl,hi,p⟩;obtain⟨q1,q2⟩:=hl i σ H p;by_cases hlt:i<min xs.length ys.length
 ·have l1:i<xs.length:=by omega
  have l2:i<ys.length:=by omega
  refine .inr ⟨⟨xs,ys,xs[i],ys[i],q1,q2,by simp[l1],by simp[l2]⟩,Pv (i+1),λσ' H' p'=>⟨min xs.length ys.length-(i+1),by omega,rfl,hlt,p'⟩,λx H' y=>?_⟩;obtain⟨v,w,r,rfl,hr,rfl,y⟩:=y;obtain⟨y1,y2⟩:=y xs ys q1 q2;exact hs i v w σ _ r y1 y2 p hr
 ·have e:i=min xs.length ys.length:=by omega
  refine .inl ⟨⟨xs,ys,q1,q2,by omega⟩,hd σ H (e ▸ p)⟩
def C4(i j k:Nat)(ta:TA):TS:=λD σ H=>ta σ H λvs H1=>∃a b c,vs=[a,b,c]/\D.nx (((σ.set i (some a)).set j (some b)).set k (some c)) H1
theorem yQ{X:Cx}{pos:Pos}{i j l:Nat}{x y z:Str}{a b c:Expr}{ta:TA}{px py pz pt:Pos}{kt k2 pt2}(hc:X.calm=true)(hN:X.N.Nodup)(hi:X.N[i]?=some x)(hj:X.N[j]?=some y)(hk:X.N[l]?=some z)(hij:i≠j)(hil:i≠l)(hjl:j≠l)
 (hx:X.env.scope.names.lookup x=some .local) (hy:X.env.scope.names.lookup y=some .local) (hz:X.env.scope.names.lookup z=some .local) (ha:PA X [a,b,c] ta)
 (hw:swappedStores [.Tuple [.Name x px,.Name y py,.Name z pz] kt pt] (.Tuple [a,b,c] k2 pt2) X.env=pure (some [x,y,z]))
 (hs:swapsWithSole [.Tuple [.Name x px,.Name y py,.Name z pz] kt pt] (.Tuple [a,b,c] k2 pt2) pos.line X.env=pure false:=by rfl) :
 PS X (.Assign [.Tuple [.Name x px,.Name y py,.Name z pz] kt pt] (.Tuple [a,b,c] k2 pt2) pos) (C4 i j l ta):=by
 intro pins s σ H D I h;rw[exec_Assign_arm];refine wpAny_bind (wpAny_standAt ?_);rw[hs];refine wpAny_bind (wpAny_pure ?_);rw[if_neg (by decide)];refine wpAny_bind (Tuple_ (thn (ha _ pins s σ H _ I h) λus s1 ⟨vs,H1,I1,r1,q1⟩=>?_));obtain⟨v1,v2,v3,e1,q1⟩:=q1;subst e1
 obtain⟨u1,u2,u3,rfl,w1,w2,w3⟩:∃u1 u2 u3,us=[u1,u2,u3]/\RelV v1 u1/\RelV v2 u2/\RelV v3 u3:=by
  cases r1 with
  |cons p q =>
   cases q with
   |cons p' q' =>
    cases q' with
    |cons p'' q'' =>cases q'';exact⟨_,_,_,rfl,p,p',p''⟩
 refine wpAny_newObj_type ?_ (by show 3<=sizeLine;decide);have I2:Inv X pins σ H1 { s1 with heap:=s1.heap.push { cls:=.type "tuple",data:=.seq [u1,u2,u3].toArray } }:=I1.kept (t':=s1.toks) λb o e=>Heap.get?_push_of_some _ e
 rw[hw];refine wpAny_bind (wpAny_pure ?_);show wpAny (model X.prog X.w) X.A (do rule "assign.swapped-stores";let items <- unpackItems (.ref s1.heap.objs.size) 3 none;assignInOrder [λv=>bindName X.env z v,λv=>bindName X.env y v,λv=>bindName X.env x v] items.reverse;pure Flow.next) _ _ _;refine wpAny_bind (wpAny_rule (wpAny_bind (unpackItems_tuple (items:=#[u1,u2,u3]) (I.ok.hd hc) (IsTup.new s1.heap _) λh' hx'=>?_)));have I3:=I2.kept (h':=h') (t':=s1.toks) λb o e=>hx' b o (Qj (Heap.lt_size e)) e
 show wpAny _ _ (assignInOrder [λv=>bindName X.env z v,λv=>bindName X.env y v,λv=>bindName X.env x v] [u3,u2,u1] >>= λ_=>pure Flow.next) _ _ _;refine wpAny_bind (assignInOrder_cons (wpAny_bindName (kQ I3 hN hk (.inl hz) w3 (λs2 I4=>?_) (.inr hz))));refine assignInOrder_cons (wpAny_bindName (kQ I4 hN hj (.inl hy) w2 (λs3 I5=>?_) (.inr hy)));refine assignInOrder_cons (wpAny_bindName (kQ I5 hN hi (.inl hx) w1 (λs4 I6=>assignInOrder_nil (wpAny_pure ?_)) (.inr hx)))
 have e:((σ.set l (some v3)).set j (some v2)).set i (some v1)=((σ.set i (some v1)).set j (some v2)).set l (some v3):=by rw[List.set_comm _ _ (Ne.symm hjl),List.set_comm _ _ (Ne.symm hil),List.set_comm _ _ (Ne.symm hij)]
 rw[e]at I6;exact⟨_,H1,I6,q1⟩
section
variable {X:Cx}{K:PySem.W.Frag}
end
end L2
namespace RM
noncomputable def cf(l:List Int)(k:Nat):Int:=l.getD k 0
theorem cG(k:Nat):cf [] k=0:=by simp[cf]
theorem BI(x:Int)(l:List Int):cf (x::l) 0=x:=rfl
theorem pd(x:Int)(l:List Int)(k:Nat):cf (x::l) (k+1)=cf l k:=rfl
theorem cC{l:List Int}{k:Nat}(h:l.length<=k):cf l k=0:=by unfold cf;rw[List.getD,List.getElem?_eq_none_iff.mpr h];rfl
theorem eJ{l:List Int}{k:Nat}(h:k<l.length):cf l k=l[k]:=by unfold cf;rw[List.getD,List.getElem?_eq_getElem h];rfl
theorem uY{l:List Int}{k:Nat}{x:Int}(h:l[k]?=some x):cf l k=x:=by unfold cf;rw[List.getD,h];rfl
theorem jb{l:List Int}{k:Nat}(h:k<l.length):l[k]?=some (cf l k):=by rw[eJ h,List.getElem?_eq_getElem h]
theorem BL{l r:List Int}{k:Nat}(h:k<l.length):cf (l++r) k=cf l k:=by unfold cf;rw[List.getD,List.getD,List.getElem?_append_left h]
theorem mM{l r:List Int}{k:Nat}(h:l.length<=k):cf (l++r) k=cf r (k-l.length):=by unfold cf;rw[List.getD,List.getD,List.getElem?_append_right h]
theorem mK{l:List Int}{j k:Nat}{x:Int}(h:j<l.length):cf (l.set j x) k=if k=j then x else cf l k:=by
 unfold cf;rw[List.getD,List.getD,List.getElem?_set];by_cases e:j=k
 ·subst e;simp[h]
 ·rw[if_neg e,if_neg (λz=>e z.symm)]
theorem mL(n k:Nat):cf (List.replicate n 0) k=0:=by unfold cf;rw[List.getD,List.getElem?_replicate];split<;>rfl
theorem kq(f:Nat->Int)(n k:Nat):cf ((List.range n).map f) k=if k<n then f k else 0:=by
 unfold cf;rw[List.getD,List.getElem?_map];by_cases h:k<n
 ·rw[if_pos h,List.getElem?_range h];rfl
 ·rw[if_neg h,List.getElem?_eq_none_iff.mpr (by simpa using h)];rfl
theorem dU{a b:List Int}(hl:a.length=b.length)(h:∀k,k<a.length->cf a k=cf b k):a=b:=by apply List.ext_getElem hl;intro k h1 h2;rw[<- eJ h1,<- eJ h2];exact h k h1
noncomputable def trim(l:List Int):List Int:=(l.reverse.dropWhile (· == 0)).reverse
theorem ni(l:List Int):trim (l++[0])=trim l:=by unfold trim;rw[List.reverse_append];rfl
theorem kN(l:List Int){x:Int}(h:x≠0):trim (l++[x])=l++[x]:=by unfold trim;rw[List.reverse_append];show((x::l.reverse).dropWhile (· == 0)).reverse=_;rw[List.dropWhile_cons_of_neg (by simpa using h)];simp
def Tr(l:List Int):Prop:=∀n,l.length=n+1->cf l n≠0
theorem cZ(l:List Int):l=[]\/∃r x,l=r++[x]:=by
 cases h:l.reverse with
 |nil=>left;simpa using h
 |cons x r=>right;exact⟨r.reverse,x,by rw[<- List.reverse_reverse l,h];simp⟩
theorem ku(r:List Int)(x:Int):cf (r++[x]) r.length=x:=by rw[mM (PF _),Rp];rfl
theorem CP:Tr []:=λn h=>by simp at h
theorem tr_snoc{r:List Int}{x:Int}:Tr (r++[x])↔x≠0:=by
 constructor
 ·intro h;have:=h r.length (by simp)
  rwa [ku]at this
 ·intro h n hn;have e:n=r.length:=by simp at hn;omega
  subst e
  rwa [ku]
theorem nh:∀(n:Nat) (l:List Int),l.length=n->Tr (trim l)/\(trim l).length<=l.length/\∀k,cf (trim l) k=cf l k
 |0,l,h=>by have:l=[]:=Re.mp h;subst this;exact⟨CP,PF _,λ_=>rfl⟩
 |n+1,l,h=>by
  rcases cZ l with rfl |⟨r,x,rfl⟩
  ·simp at h
  ·by_cases hx:x=0
   ·subst hx;obtain⟨h1,h2,h3⟩:=nh n r (by simpa using h);rw[ni];refine⟨h1,by rw[Qi];exact PX h2 (Sd _ _),λk=>?_⟩;rw[h3];by_cases hk:k<r.length
    ·rw[BL hk]
    ·rw[mM (QS hk),cC (QS hk)];cases e:k-r.length with
     |zero=>rfl
     |succ j=>rw[pd,cG]
   ·rw[kN r hx];exact⟨tr_snoc.mpr hx,PF _,λ_=>rfl⟩
theorem fX(l:List Int):Tr (trim l):=(nh _ l rfl).1
theorem tN(l:List Int):(trim l).length<=l.length:=(nh _ l rfl).2.1
theorem gO(l:List Int)(k:Nat):cf (trim l) k=cf l k:=(nh _ l rfl).2.2 k
theorem CK{l:List Int}(h:Tr l):trim l=l:=by
 rcases cZ l with rfl |⟨r,x,rfl⟩
 ·rfl
 ·exact kN r (tr_snoc.mp h)
theorem mE{a b:List Int}(ha:Tr a)(hb:Tr b)(h:∀k,cf a k=cf b k):a=b:=by
 have le:∀{a b:List Int},Tr a->(∀k,cf a k=cf b k)->a.length<=b.length:=λ{a b} ha h=>by
  cases e:a.length with
  |zero=>exact PK _
  |succ n =>apply Classical.byContradiction;intro hn;exact ha n e (by rw[h n,cC (by omega)])
 have hl:a.length=b.length:=Nat.le_antisymm (le ha h) (le hb λk=>(h k).symm);exact dU hl λk _=>h k
theorem CI{l:List Int}{n:Nat}(hn:n<l.length)(h:cf l n=0):trim (l.take (n+1))=trim (l.take n):=by rw[QI,jb hn,h];exact ni _
theorem CJ{l:List Int}{n:Nat}(hn:n<l.length)(h:cf l n≠0):trim (l.take (n+1))=l.take (n+1):=by rw[QI,jb hn];exact kN _ h
noncomputable def eG(f:Int)(a b:List Int):List Int:=(List.range (max a.length b.length)).map λk=>cf a k+f*cf b k
theorem ip(f:Int)(a b:List Int)(k:Nat):cf (eG f a b) k=cf a k+f*cf b k:=by
 unfold eG;rw[kq];by_cases h:k<max a.length b.length
 ·rw[if_pos h]
 ·have h1:a.length<=k:=by omega
  have h2:b.length<=k:=by omega
  rw[if_neg h,cC h1,cC h2];simp
noncomputable def iw(a b:List Int):List Int:=trim (eG 1 a b)
noncomputable def cP(a b:List Int):List Int:=trim (eG (-1) a b)
noncomputable def tm(a b:List Int)(n i:Nat):Int:=if i<=n then cf a i*cf b (n-i)else 0
noncomputable def sm(a b:List Int)(n:Nat):Nat->Int
 |0=>0
 |j+1=>sm a b n j+tm a b n j
noncomputable def aB(a b:List Int)(n:Nat):Int:=sm a b n a.length
noncomputable def af(a b:List Int):List Int:=if a=[]\/b=[]then[]else(List.range (a.length+b.length-1)).map (aB a b)
theorem CU{a b:List Int}{n i:Nat}(h:a.length<=i):tm a b n i=0:=by
 unfold tm;split
 ·rw[cC h,Qp]
 ·rfl
theorem nk{a b:List Int}{n i:Nat}(h:b.length<=n-i):tm a b n i=0:=by
 unfold tm;split
 ·rw[cC h,Qd]
 ·rfl
theorem kZ{a b:List Int}{n:Nat}:∀{j:Nat},(∀i,i<j->tm a b n i=0)->sm a b n j=0
 |0,_=>rfl
 |j+1,h=>by rw[sm,kZ λi hi=>h i (Nat.lt_succ_of_lt hi),h j (Q1 _)];rfl
theorem zz{a b:List Int}{n:Nat}(h:a.length+b.length<=n+1):aB a b n=0:=by apply kZ;intro i hi;exact nk (by omega)
theorem tu{a b:List Int}{la lb:Nat}(ha:a.length=la+1)(hb:b.length=lb+1):aB a b (la+lb)=cf a la*cf b lb:=by unfold aB;rw[ha,sm,kZ λi hi=>nk (by omega)];unfold tm;rw[if_pos (Sd _ _),Nat.add_sub_cancel_left,QK]
theorem aL(a b:List Int)(n:Nat):cf (af a b) n=aB a b n:=by
 unfold af;by_cases h:a=[]\/b=[]
 ·rw[if_pos h,cG]
  symm
  apply kZ;intro i hi;rcases h with rfl |rfl
  ·simp at hi
  ·exact nk (PK _)
 ·rw[if_neg h,kq];by_cases hn:n<a.length+b.length-1
  ·rw[if_pos hn]
  ·rw[if_neg hn,zz (by omega)]
theorem nj{a b:List Int}(ha:Tr a)(hb:Tr b):Tr (af a b):=by
 intro n hn;rw[aL];by_cases h:a=[]\/b=[]
 ·unfold af at hn;rw[if_pos h]at hn;simp at hn
 ·have h1:a≠[]:=λz=>h (.inl z)
  have h2:b≠[]:=λz=>h (.inr z)
  obtain⟨la,ea⟩:∃la,a.length=la+1:=⟨a.length-1,by have:=PL.mpr h1;omega⟩;obtain⟨lb,eb⟩:∃lb,b.length=lb+1:=⟨b.length-1,by have:=PL.mpr h2;omega⟩;unfold af at hn
  rw[if_neg h,PC,Q5]at hn;have e:n=la+lb:=by omega
  subst e;rw[tu ea eb];exact Qe (ha la ea) (hb lb eb)
theorem zA{a b acc:List Int}{j k:Nat}(hj:j<a.length)(hk:k<b.length)(hl:j+k<acc.length)
 (h:∀n,n<acc.length->cf acc n=sm a b n j+(if j<=n/\n-j<k then tm a b n j else 0)) :
 ∀n,n<(acc.set (j+k) (cf acc (j+k)+cf a j*cf b k)).length->cf (acc.set (j+k) (cf acc (j+k)+cf a j*cf b k)) n=sm a b n j+(if j<=n/\n-j<k+1 then tm a b n j else 0):=by
 intro n hn;rw[Rz]at hn;rw[mK hl];by_cases e:n=j+k
 ·subst e;rw[if_pos rfl,h _ hl,if_neg (by omega),if_pos ⟨by omega,by omega⟩];unfold tm;rw[if_pos (by omega),Nat.add_sub_cancel_left,Qy]
 ·rw[if_neg e,h n hn]
  congr 1
  by_cases h1:j<=n/\n-j<k
  ·rw[if_pos h1,if_pos ⟨h1.1,by omega⟩]
  ·rw[if_neg h1,if_neg (by omega)]
theorem zC{a b acc:List Int}{j:Nat}(h:∀n,n<acc.length->cf acc n=sm a b n j+(if j<=n/\n-j<b.length then tm a b n j else 0)):∀n,n<acc.length->cf acc n=sm a b n (j+1):=by
 intro n hn;rw[h n hn,sm]
 congr 1
 by_cases h1:j<=n/\n-j<b.length
 ·rw[if_pos h1]
 ·rw[if_neg h1];by_cases h2:j<=n
  ·rw[nk (by omega)]
  ·unfold tm;rw[if_neg h2]
theorem zB{a b acc:List Int}{j:Nat}(h:∀n,n<acc.length->cf acc n=sm a b n j):∀n,n<acc.length->cf acc n=sm a b n j+(if j<=n/\n-j<0 then tm a b n j else 0):=by intro n hn;rw[if_neg (by omega),Qy];exact h n hn
theorem zD{a b acc:List Int}(hl:a.length+b.length<=acc.length+1)(h:∀n,n<acc.length->cf acc n=sm a b n a.length)(n:Nat):cf acc n=aB a b n:=by
 by_cases hn:n<acc.length
 ·exact h n hn
 ·rw[cC (QS hn),zz (by omega)]
theorem Mf(a b:List Int):trim ((List.range (max a.length b.length)).map λk=>cf a k+cf b k)=iw a b:=by
 unfold iw eG
 congr 2;funext k;rw[PY]
theorem Dj(a b:List Int):trim ((List.range (max a.length b.length)).map λk=>cf a k-cf b k)=cP a b:=by
 unfold cP eG
 congr 2;funext k;omega
noncomputable def dv(t b:Int):Int:=if b<0 then -((Nat.gcd t.natAbs b.natAbs:Nat):Int)else((Nat.gcd t.natAbs b.natAbs:Nat):Int)
noncomputable def rt(t b:Int):Int:=t.fdiv (dv t b)
noncomputable def rb(t b:Int):Int:=b.fdiv (dv t b)
theorem kg{t b:Int}(hb:b≠0):0<Nat.gcd t.natAbs b.natAbs:=Nat.gcd_pos_of_pos_right _ (Rq.mpr hb)
theorem mF{t b:Int}(hb:b≠0):dv t b≠0:=by have:=@kg t b hb;unfold dv;split<;>omega
theorem je(t b:Int):(dv t b).natAbs=Nat.gcd t.natAbs b.natAbs:=by unfold dv;split<;>omega
theorem KN(t b:Int):dv t b∣t:=RB.mp (by rw[je];exact QN _ _)
theorem KM(t b:Int):dv t b∣b:=RB.mp (by rw[je];exact Rf _ _)
theorem ur{a d:Int}(hd:d≠0)(h:d∣a):d*a.fdiv d=a:=by obtain⟨c,rfl⟩:=h;rw[Int.mul_fdiv_cancel_left c hd]
theorem g6{t b:Int}(hb:b≠0):dv t b*rt t b=t:=ur (mF hb) (KN t b)
theorem gu{t b:Int}(hb:b≠0):dv t b*rb t b=b:=ur (mF hb) (KM t b)
theorem dk{t b:Int}(hb:b≠0):0<rb t b:=by
 have h1:=@gu t b hb;have h2:=@kg t b hb;by_cases hn:b<0
 ·have hd:dv t b<0:=by unfold dv;rw[if_pos hn];omega
  apply Classical.byContradiction;intro h;have:0<=dv t b*rb t b:=Se (PD hd) (by omega);omega
 ·have hd:0<dv t b:=by unfold dv;rw[if_neg hn];omega
  apply Classical.byContradiction;intro h;have:dv t b*rb t b<=0:=RC (PD hd) (by omega);omega
theorem g7{t b:Int}(hb:b≠0):Nat.gcd (rt t b).natAbs (rb t b).natAbs=1:=by
 have h1:t.natAbs=Nat.gcd t.natAbs b.natAbs*(rt t b).natAbs:=by rw[<- je,<- PN,g6 hb]
 have h2:b.natAbs=Nat.gcd t.natAbs b.natAbs*(rb t b).natAbs:=by rw[<- je,<- PN,gu hb]
 have hp:=@kg t b hb
 have e:Nat.gcd t.natAbs b.natAbs=Nat.gcd t.natAbs b.natAbs*Nat.gcd (rt t b).natAbs (rb t b).natAbs:=by rw[<- RS,<- h1,<- h2]
 exact(Su hp (by rw[Nat.mul_one];exact e)).symm
theorem fb{t b:Int}(hb:b≠0):rt t b*b=t*rb t b:=by
 have e1:=@g6 t b hb;have e2:=@gu t b hb
 calc rt t b*b=rt t b*(dv t b*rb t b):=by rw[e2]
  _=(dv t b*rt t b)*rb t b:=by rw[<- P4,P9 (rt t b)]
  _=t*rb t b:=by rw[e1]
theorem Eo{t b:Int}(hb:b≠0):(rt t b).natAbs<=t.natAbs:=by
 have h1:t.natAbs=Nat.gcd t.natAbs b.natAbs*(rt t b).natAbs:=by rw[<- je,<- PN,g6 hb]
 rw[h1];exact RT _ (kg hb)
theorem EK{t b:Int}(hb:b≠0):(rb t b).natAbs<=b.natAbs:=by
 have h1:b.natAbs=Nat.gcd t.natAbs b.natAbs*(rb t b).natAbs:=by rw[<- je,<- PN,gu hb]
 rw[h1];exact RT _ (kg hb)
noncomputable def sg(x:Int):Int:=if x<0 then -1 else if 0<x then 1 else 0
theorem DM(x:Int):sg (-x) = -sg x:=by unfold sg;split<;>split<;>(try split)<;>(try split)<;>omega
theorem qu{x p:Int}(hp:0<p):sg (x*p)=sg x:=by
 unfold sg;by_cases h1:x<0
 ·rw[if_pos h1,if_pos (RD h1 hp)]
 ·by_cases h2:0<x
  ·have:=PB h2 hp;rw[if_neg h1,if_pos h2,if_neg (by omega),if_pos this]
  ·obtain rfl:x=0:=by omega
   simp
noncomputable def hv(t b:Int):List Int->Int
 | []=>0
 |v::l=>v*b^(l.length+1)+t*hv t b l
theorem oX(t b:Int):hv t b []=0:=rfl
theorem dP(t b v:Int)(l:List Int):hv t b (v::l)=v*b^(l.length+1)+t*hv t b l:=rfl
noncomputable def mb(a b:Int):Int->List Int->List Int
 |c,[]=>[c]
 |c,x::l=>(-a*x+c)::mb a b (b*x) l
theorem oC(a b:Int):∀(c:Int) (l:List Int),(mb a b c l).length=l.length+1
 |c,[]=>rfl
 |c,x::l=>by show(mb a b (b*x) l).length+1=_;rw[oC];rfl
theorem ji(a b:Int):∀(c:Int) (l:List Int) (k:Nat),cf (mb a b c l) k = -a*cf l k+(if k=0 then c else b*cf l (k-1))
 |c,[],0=>by show c=_;rw[cG];simp
 |c,[],k+1=>by show cf [] k=_;rw[cG,cG];simp[cG]
 |c,x::l,0=>rfl
 |c,x::l,k+1=>by
  show cf (mb a b (b*x) l) k=_;rw[ji a b (b*x) l k,pd,if_neg (Nat.succ_ne_zero k)];cases k with
  |zero=>rfl
  |succ k=>rw[if_neg (Nat.succ_ne_zero k)];rfl
theorem AB(t u a b:Int):∀(c:Int) (l:List Int),hv t u (mb a b c l)=c*u^(l.length+1)+(b*t-a*u)*hv t u l
 |c,[]=>by show c*u^1+t*0=c*u^1+(b*t-a*u)*0;simp
 |c,x::l=>by show(-a*x+c)*u^((mb a b (b*x) l).length+1)+t*hv t u (mb a b (b*x) l)=c*u^(l.length+1+1)+(b*t-a*u)*(x*u^(l.length+1)+t*hv t u l);rw[AB t u a b (b*x) l,oC];generalize hv t u l=h;rw[Ql u (l.length+1)];generalize u^(l.length+1)=p;grind
theorem uX(x y:Int)(k:Nat):cf [x,y] k=if k=0 then x else if k=1 then y else 0:=by
 rcases k with _ |_ |k
 ·rfl
 ·rfl
 ·rw[if_neg (by omega),if_neg (by omega)];exact cC (by simp)
theorem xR(l:List Int)(x y:Int)(n:Nat):∀j,sm l [x,y] n j=(if n<j then cf l n*x else 0)+(if 1<=n/\n-1<j then cf l (n-1)*y else 0)
 |0=>by rw[if_neg (by omega),if_neg (by omega)];rfl
 |j+1=>by
  show sm l [x,y] n j+tm l [x,y] n j=_;rw[xR l x y n j];unfold tm;rw[uX];by_cases h1:n<j
  ·rw[if_pos h1,if_neg (show ¬j<=n by omega),if_pos (show n<j+1 by omega),Qy];by_cases h2:1<=n
   ·rw[if_pos ⟨h2,by omega⟩,if_pos ⟨h2,by omega⟩]
   ·rw[if_neg (λz=>h2 z.1),if_neg (λz=>h2 z.1)]
  ·rw[if_neg h1,if_pos (show j<=n by omega),QK];by_cases h2:n=j
   ·subst h2;rw[Rp,if_pos rfl,if_pos (Q1 _),Int.add_comm];by_cases h3:1<=n
    ·rw[if_pos ⟨h3,by omega⟩,if_pos ⟨h3,by omega⟩]
    ·rw[if_neg (λz=>h3 z.1),if_neg (λz=>h3 z.1)]
   ·rw[if_neg (show ¬n-j=0 by omega),if_neg (show ¬n<j+1 by omega),QK,if_neg (show ¬(1<=n/\n-1<j) by omega),QK];by_cases h3:n-j=1
    ·rw[if_pos h3,if_pos (show 1<=n/\n-1<j+1 by omega),show n-1=j by omega]
    ·rw[if_neg h3,if_neg (show ¬(1<=n/\n-1<j+1) by omega),Qd]
theorem Hr{a b:Int}{l:List Int}(h:l≠[]):af l [-a,b]=mb a b 0 l:=by
 apply dU
 ·rw[oC];unfold af;rw[if_neg (by simp[h]),PC,Q5];simp
 ·intro k _;rw[aL,ji];unfold aB;rw[xR]
  have e1:(if k<l.length then cf l k * -a else 0) = -a*cf l k:=by
   by_cases hk:k<l.length
   ·rw[if_pos hk,P9]
   ·rw[if_neg hk,cC (QS hk),Qd]
  have e2:(if 1<=k/\k-1<l.length then cf l (k-1)*b else 0)=if k=0 then 0 else b*cf l (k-1):=by
   by_cases h0:k=0
   ·rw[if_neg (by omega),if_pos h0]
   ·rw[if_neg h0];by_cases hk:k-1<l.length
    ·rw[if_pos (by omega),P9]
    ·rw[if_neg (by omega),cC (QS hk),Qd]
  rw[e1,e2]
theorem oV(g t b:Int):∀l:List Int,hv (g*t) (g*b) l=g^l.length*hv t b l
 | []=>by simp[oX]
 |v::l=>by rw[dP,dP,oV g t b l,Int.mul_pow];show v*(g^(l.length+1)*b^(l.length+1))+g*t*(g^l.length*hv t b l)=g^(l.length+1)*(v*b^(l.length+1)+t*hv t b l);rw[Ql g l.length];generalize b^(l.length+1)=p;generalize g^l.length=q;generalize hv t b l=h;grind
theorem Ff{g:Int}(h:0<g)(n:Nat):0<g^n:=by
 induction n with
 |zero=>simp
 |succ n ih=>rw[Ql];exact PB ih h
def At(l:List Int)(t b top bot:Int):Prop:=hv t b l*bot=top*b^l.length
theorem At.sign{l:List Int}{t b top bot:Int}(hb:0<b)(hbot:0<bot)(h:At l t b top bot):sg (hv t b l)=sg top:=by
 unfold At at h
 rw[<- qu (x:=hv t b l) hbot,h,qu (Ff hb _)]
theorem mC(t u c:Int):hv t u [c]=c*u:=by show c*u^1+t*0=c*u;grind
theorem KO(t b:Int){l:List Int}{n:Nat}(h:n<l.length):hv t b (l.drop n)=cf l n*b^(l.length-n)+t*hv t b (l.drop (n+1)):=by
 rw[Sv h,dP,Rk,eJ h];have e:l.length-(n+1)+1=l.length-n:=by omega
 rw[e]
noncomputable def chF(z:Int×Int)(s:Int):Int×Int:=(if s*z.2<0 then z.1+1 else z.1,if s=0 then z.2 else s)
noncomputable def chS(l:List Int):Int×Int:=l.foldl chF (0,0)
theorem BF(l:List Int)(s:Int):chS (l++[s])=chF (chS l) s:=by unfold chS;rw[List.foldl_append];rfl
theorem qt(x:Int):sg x=0↔x=0:=by unfold sg;split<;>(try split)<;>omega
theorem BG:∀(n:Nat) (l:List Int),l.length=n->(∀s∈l,s.natAbs<=1)->(chS l).2.natAbs<=1/\0<=(chS l).1/\(chS l).1<=l.length
 |n,l,hn,h=>by
  rcases cZ l with rfl |⟨r,s,rfl⟩
  ·decide
  ·have hr:r.length+1=n:=by rw[<- hn,Qi];rfl
   obtain⟨i1,i2,i3⟩:=BG (n-1) r (by omega) (λx hx=>h x (Q0 _ hx));have hs:=h s (by simp);rw[BF];unfold chF;refine⟨?_,?_,?_⟩
   ·dsimp only;split
    ·exact i1
    ·exact hs
   ·dsimp only;split<;>omega
   ·dsimp only;rw[Qi];show _<=((r.length+1:Nat):Int);split<;>omega
termination_by n=>n
theorem Lf(l:List Int)(h:∀s∈l,s.natAbs<=1):(chS l).2.natAbs<=1/\0<=(chS l).1/\(chS l).1<=l.length:=BG _ l rfl h
theorem ye(x:Int):(sg x).natAbs<=1:=by unfold sg;split<;>(try split)<;>decide
theorem xU{q q' b:List Int}{c l:Int}{p n:Nat}(h:∀k,cf q' k=c*cf q k+(if k=p then l else 0)) :
 ∀j,sm q' b n j=c*sm q b n j+(if p<j/\p<=n then l*cf b (n-p)else 0)
 |0=>by rw[sm,sm,if_neg (by omega)];simp
 |j+1=>by
  rw[sm,sm,xU h j];unfold tm;by_cases hj:j<=n
  ·rw[if_pos hj,if_pos hj,h j];by_cases e:j=p
   ·subst e;rw[if_pos rfl,if_neg (by omega),if_pos ⟨by omega,hj⟩];grind
   ·rw[if_neg e];by_cases h2:p<j/\p<=n
    ·rw[if_pos h2,if_pos ⟨by omega,h2.2⟩];grind
    ·rw[if_neg h2,if_neg (by omega)];grind
  ·rw[if_neg hj,if_neg hj];by_cases h2:p<j/\p<=n
   ·rw[if_pos h2,if_pos ⟨by omega,h2.2⟩];grind
   ·rw[if_neg h2,if_neg (by omega)];grind
theorem Hq{q q' b:List Int}{c l:Int}{p n:Nat}(hl:q'.length=q.length)(hp:p<q.length)(h:∀k,cf q' k=c*cf q k+(if k=p then l else 0)) :
 aB q' b n=c*aB q b n+(if p<=n then l*cf b (n-p)else 0):=by
 unfold aB;rw[hl,xU h];by_cases h2:p<=n
 ·rw[if_pos h2,if_pos ⟨hp,h2⟩]
 ·rw[if_neg h2,if_neg (by omega)]
noncomputable def scL(c:Int)(l:List Int):List Int:=l.map λx=>c*x
theorem cv(c:Int)(l:List Int):(scL c l).length=l.length:=by unfold scL;rw[PC]
theorem bQ(c:Int)(l:List Int)(k:Nat):cf (scL c l) k=c*cf l k:=by
 by_cases h:k<l.length
 ·unfold cf scL;simp[h]
 ·rw[cC (by rw[cv];omega),cC (by omega)];simp
noncomputable def iX(r b:List Int)(p:Nat)(l:Int):List Int:=(List.range (r.length-1)).map λk=>cf r k-(if p<=k then l*cf b (k-p)else 0)
theorem zX(r b:List Int)(p:Nat)(l:Int):(iX r b p l).length=r.length-1:=by unfold iX;simp
theorem pi(r b:List Int)(p:Nat)(l:Int)(k:Nat):cf (iX r b p l) k=if k<r.length-1 then cf r k-(if p<=k then l*cf b (k-p)else 0)else 0:=by unfold iX;rw[kq]
theorem DJ(x:Int):sg x*x=(x.natAbs:Int):=by unfold sg;split<;>(try split)<;>omega
noncomputable def df(b:List Int)(z:List Int×List Int)(i:Nat):List Int×List Int :=
 let s:Int:=((cf b (b.length-1)).natAbs:Int)
 let l:=sg (cf b (b.length-1))*cf z.2 (z.2.length-1)
 ((scL s z.1).set i l,iX (scL s z.2) b i l)
noncomputable def aT(a b:List Int):Nat->List Int×List Int
 |0=>(List.replicate (a.length+1-b.length) 0,a)
 |i+1=>df b (aT a b i) (a.length+1-b.length-1-i)
structure DivInv(a b:List Int)(i:Nat):Prop where
 lq:(aT a b i).1.length=a.length+1-b.length
 lr:(aT a b i).2.length=a.length-i
 low:∀k,k+i<a.length+1-b.length->cf (aT a b i).1 k=0
 eqn:∀n,((cf b (b.length-1)).natAbs:Int)^i*cf a n=aB (aT a b i).1 b n+cf (aT a b i).2 n
theorem tq{a b:List Int}{n:Nat}(h:∀k,cf a k=0):aB a b n=0:=by apply kZ;intro i _;unfold tm;rw[h i];simp
theorem KR{A B i:Nat}(hi:i+1<=A+1-B)(hb:0<B):∃p,A+1-B=p+i+1/\p+i+B=A:=⟨A-B-i,by omega,by omega⟩
theorem Bm(p i:Nat):p<p+i+1:=Nat.lt_succ_of_le (Sd _ _)
theorem o9{P A C M R:Int}(en:P*A=M+R):P*C*A=C*M+C*R:=by rw[Int.mul_right_comm,en,P9,Int.mul_add]
theorem KS(x y z:Int):x+y=x+z+(y-z):=by omega
theorem jf{a b:List Int}(hb:b≠[]):∀i,i<=a.length+1-b.length->DivInv a b i
 |0,_=>⟨by simp[aT],by simp[aT],λk _=>by show cf (List.replicate _ 0) k=0;rw[mL],λn=>by
  show _=aB (List.replicate _ 0) b n+cf a n
  rw[tq λk=>mL _ _];simp⟩
 |i+1,hi=>by
  obtain⟨lq,lr,low,eqn⟩:=jf (a:=a) hb i (Nat.le_of_succ_le hi);have hbl:=PL.mpr hb;have e:aT a b (i+1)=df b (aT a b i) (a.length+1-b.length-1-i):=rfl;generalize aT a b i=z at e lq lr low eqn
  obtain⟨p,ep,ed⟩:=KR hi hbl;rw[ep,show p+i+1-1-i=p from Nat.add_sub_cancel _ _]at e;rw[ep]at lq low;have lz:z.2.length=p+b.length:=by rw[lr,<- ed,Nat.add_right_comm,Nat.add_sub_cancel]
  have hp:p<(scL ((cf b (b.length-1)).natAbs:Int) z.1).length:=by rw[cv,lq];exact Bm p i
  have hq:∀k,cf (df b z p).1 k=((cf b (b.length-1)).natAbs:Int)*cf z.1 k+(if k=p then sg (cf b (b.length-1))*cf z.2 (z.2.length-1)else 0):=by
   intro k;unfold df;dsimp only
   rw[mK hp,bQ];by_cases h:k=p
   ·rw[if_pos h,if_pos h,low k (by rw[h];exact Q1 _)];simp
   ·rw[if_neg h,if_neg h];simp
  have hlq:(df b z p).1.length=p+i+1:=by unfold df;dsimp only;rw[Rz,cv,lq]
  refine⟨?_,?_,?_,?_⟩
  ·rw[e,hlq,ep]
  ·rw[e];unfold df;dsimp only;rw[zX,cv,lr];rfl
  ·intro k hk;rw[ep]at hk;have hk':k<p:=by clear lq lr low eqn hp hq hlq lz e ep ed;omega
   rw[e,hq,if_neg (Qj hk'),low k (Nat.lt_trans (Nat.add_lt_add_right hk' i) (Q1 _))];simp
  ·intro n;rw[e,Hq (by rw[hlq,lq]) (by rw[lq];exact Bm p i) hq,Ql];have en:=eqn n;unfold df;dsimp only
   rw[pi,cv,bQ,lz];clear lq lr low eqn hp hq hlq e ep ed;by_cases h1:n<p+b.length-1
   ·rw[if_pos h1];by_cases h2:p<=n
    ·rw[if_pos h2,o9 en];exact KS _ _ _
    ·rw[if_neg h2,o9 en,Qy,Int.sub_zero]
   ·rw[if_neg h1];have h2:p<=n:=by clear en;omega
    by_cases h3:n=p+b.length-1
    ·have h4:n-p=b.length-1:=by clear en;omega
     rw[if_pos h2,h4];have sg:=DJ (cf b (b.length-1));rw[<- h3,o9 en,Qy,Int.mul_right_comm,sg]
    ·have hc:cf z.2 n=0:=cC (by rw[lz];clear en;omega);rw[if_pos h2,cC (l:=b) (k:=n-p) (by clear en;omega),o9 en,hc,Qd,Qd,Qy,Qy]
theorem Bk{a b:List Int}(hb:b≠[])(ha:Tr a)(hbt:Tr b):∀i,i+1<=a.length+1-b.length->cf (aT a b (i+1)).1 (a.length+1-b.length-1)≠0
 |0,h=>by
  obtain⟨lq,lr,_,_⟩:=jf (a:=a) hb 0 (by omega);have hbl:=PL.mpr hb;show cf (df b (aT a b 0) _).1 _≠0;unfold df;dsimp only
  rw[mK (by rw[cv,lq];omega),if_pos (by omega)];have hb1:=hbt (b.length-1) (by omega);have ha1:=ha (a.length-1) (by omega);refine Qe ?_ ?_
  ·unfold sg;split<;>(try split)<;>omega
  ·rw[lr];exact ha1
 |i+1,h=>by
  have ih:=Bk hb ha hbt i (by omega);obtain⟨lq,lr,_,_⟩:=jf (a:=a) hb (i+1) (by omega);have hbl:=PL.mpr hb;show cf (df b (aT a b (i+1)) _).1 _≠0;unfold df;dsimp only
  have hN:∀n,i+1+1<=n->¬n-1=n-1-(i+1):=λn hn e=>by omega
  rw[mK (by rw[cv,lq];omega),if_neg (hN _ h),bQ];have hb1:=hbt (b.length-1) (by omega);refine Qe ?_ ih;omega
noncomputable def bh(a b:List Int):Nat:=a.length+1-b.length
noncomputable def cw(a b:List Int):Int:=((cf b (b.length-1)).natAbs:Int)^bh a b
noncomputable def ck(a b:List Int):List Int:=(aT a b (bh a b)).1
noncomputable def aO(a b:List Int):List Int:=trim (aT a b (bh a b)).2
theorem ik{a b:List Int}(hb:b≠[])(n:Nat):cw a b*cf a n=aB (ck a b) b n+cf (aO a b) n:=by unfold aO ck cw;rw[gO];exact(jf hb (bh a b) (PF _)).eqn n
theorem gM{a b:List Int}(hb:b≠[]):(aO a b).length<b.length:=by
 have h:=(jf (a:=a) hb (bh a b) (PF _)).lr;have h2:=tN (aT a b (bh a b)).2;have hbl:=PL.mpr hb;unfold aO;unfold bh at *
 omega
theorem uQ{a b:List Int}(hb:b≠[]):(ck a b).length=bh a b:=(jf (a:=a) hb (bh a b) (PF _)).lq
theorem uO{a b:List Int}(hb:b≠[])(ha:Tr a)(hbt:Tr b):Tr (ck a b):=by
 intro n hn;rw[uQ hb]at hn;have h:=Bk hb ha hbt n (by unfold bh at hn;omega);unfold ck;rw[hn];have:a.length+1-b.length-1=n:=by unfold bh at hn;rw[hn];rfl
 rwa [this]at h
theorem gf(a b:List Int):Tr (aO a b):=fX _
theorem xX{a a' b b':List Int}{n:Nat}(h1:∀k,cf a k=cf a' k)(h2:∀k,cf b k=cf b' k):∀j,sm a b n j=sm a' b' n j
 |0=>rfl
 |j+1=>by rw[sm,sm,xX h1 h2 j];unfold tm;rw[h1 j,h2 (n-j)]
theorem xV{a b:List Int}{n:Nat}:∀d,sm a b n (a.length+d)=aB a b n
 |0=>rfl
 |d+1=>by rw[<- Nat.add_assoc,sm,xV d,CU (by omega)];omega
theorem k8{a b:List Int}{n N:Nat}(h:a.length<=N):sm a b n N=aB a b n:=by obtain⟨d,rfl⟩:=Nat.exists_eq_add_of_le h;exact xV d
theorem oz{a a' b b':List Int}{n:Nat}(h1:∀k,cf a k=cf a' k)(h2:∀k,cf b k=cf b' k):aB a b n=aB a' b' n:=by rw[<- k8 (Nat.le_max_left a.length a'.length),<- k8 (Nat.le_max_right a.length a'.length)];exact xX h1 h2 _
theorem xT{a b c q:List Int}{x y:Int}{n:Nat}(h:∀k,cf c k=x*cf a k+y*cf b k):∀j,sm c q n j=x*sm a q n j+y*sm b q n j
 |0=>by simp[sm]
 |j+1=>by
  rw[sm,sm,sm,xT h j];unfold tm;rw[h j];by_cases hj:j<=n
  ·rw[if_pos hj,if_pos hj,if_pos hj];grind
  ·rw[if_neg hj,if_neg hj,if_neg hj];grind
theorem fh{a b c q:List Int}{x y:Int}{n:Nat}(h:∀k,cf c k=x*cf a k+y*cf b k):aB c q n=x*aB a q n+y*aB b q n:=by
 have h1:a.length<=a.length+b.length+c.length:=by omega
 have h2:b.length<=a.length+b.length+c.length:=by omega
 have h3:c.length<=a.length+b.length+c.length:=by omega
 rw[<- k8 h1,<- k8 h2,<- k8 h3];exact xT h _
theorem xS{a b b':List Int}{c:Int}{n:Nat}(h:∀k,cf b' k=c*cf b k):∀j,sm a b' n j=c*sm a b n j
 |0=>by simp[sm]
 |j+1=>by
  rw[sm,sm,xS h j];unfold tm;rw[h (n-j)];by_cases hj:j<=n
  ·rw[if_pos hj,if_pos hj];grind
  ·rw[if_neg hj,if_neg hj];grind
theorem lY{a b b':List Int}{c:Int}{n:Nat}(h:∀k,cf b' k=c*cf b k):aB a b' n=c*aB a b n:=xS h _
theorem f9(c:Int)(l:List Int)(n:Nat):aB [c] l n=c*cf l n:=by unfold aB;show sm [c] l n 0+tm [c] l n 0=_;unfold sm tm;rw[if_pos (PK _),BI,QV,QK]
theorem tj{l:List Int}(ht:Tr l)(h:∀k,cf l k=0):l=[]:=by
 refine Classical.byContradiction λhne=>?_
 have hl:=PL.mpr hne;exact ht (l.length-1) (by omega) (h _)
theorem zw{d q:List Int}(hq:q≠[])(hqt:Tr q)(h:∀n,q.length<=n+1->aB d q n=0):∀k,cf d k=0:=by
 have e:trim d=[]:=by
  refine Classical.byContradiction λhne=>?_
  have hl:=PL.mpr hne;have hql:=PL.mpr hq;have ht:=fX d ((trim d).length-1) (by omega);have hb:=hqt (q.length-1) (by omega);have h1:=h ((trim d).length-1+(q.length-1)) (by omega);rw[<- oz (a:=trim d) (b:=q) (λk=>gO d k) (λ_=>rfl),tu (la:=(trim d).length-1) (lb:=q.length-1) (by omega) (by omega)]at h1;exact Qe ht hb h1
 intro k;rw[<- gO,e,cG]
theorem mG{a b:List Int}(hb:b≠[])(hbt:Tr b):cw a b≠0:=by
 have hbl:=PL.mpr hb;have h:=hbt (b.length-1) (by omega);have h1:((cf b (b.length-1)).natAbs:Int)≠0:=by omega
 unfold cw;generalize bh a b=n
 induction n with
 |zero=>rw[QO];decide
 |succ n ih=>rw[Ql];exact Qe ih h1
noncomputable def fj(d:Nat)(l:List Int):Nat:=l.foldl (λd v=>Nat.gcd d v.natAbs) d
noncomputable def aA(l:List Int):Nat:=fj 0 l
theorem o0(d:Nat):fj d []=d:=rfl
theorem ii(d:Nat)(v:Int)(l:List Int):fj d (v::l)=fj (Nat.gcd d v.natAbs) l:=rfl
theorem J3(d:Nat)(l:List Int)(v:Int):fj d (l++[v])=Nat.gcd (fj d l) v.natAbs:=by unfold fj;rw[List.foldl_append];rfl
theorem AH(l:List Int)(v:Int):aA (l++[v])=Nat.gcd (aA l) v.natAbs:=J3 0 l v
theorem Bf{m:Nat}:∀{l:List Int} {d:Nat},m∣fj d l↔m∣d/\∀v∈l,m∣v.natAbs
 | [],d=>by simp[o0]
 |v::l,d=>by rw[ii,Bf,Nat.dvd_gcd_iff];simp only[PM,forall_eq_or_imp];exact⟨λ⟨⟨a,b⟩,c⟩=>⟨a,b,c⟩,λ⟨a,b,c⟩=>⟨⟨a,b⟩,c⟩⟩
theorem dvd_gcdL{m:Nat}{l:List Int}:m∣aA l↔∀v∈l,m∣v.natAbs:=by unfold aA;rw[Bf];exact⟨λh=>h.2,λh=>⟨Nat.dvd_zero m,h⟩⟩
theorem oZ{l:List Int}{v:Int}(h:v∈l):aA l∣v.natAbs:=dvd_gcdL.mp (Nat.dvd_refl _) v h
theorem J1(v:Int):aA [v]=v.natAbs:=by show Nat.gcd 0 v.natAbs=_;exact RU _
theorem AG{a b:Int}(ha:0<=a)(hb:0<b):Nat.gcd b.natAbs (a%b).natAbs=Nat.gcd a.natAbs b.natAbs:=by
 have e:(a%b).natAbs=a.natAbs%b.natAbs:=by obtain⟨x,rfl⟩:=RV ha;obtain⟨y,rfl⟩:=RV (PD hb);rfl
 rw[e,RW,<- Nat.gcd_rec,RW]
noncomputable def ar(l:List Int):List Int:=l.map λx=>x/(aA l:Int)
noncomputable def ao(l:List Int):Int:=cf l (l.length-1)
theorem dM(r:List Int)(x:Int):ao (r++[x])=x:=by unfold ao;rw[Qi];exact ku r x
noncomputable def cz(l:List Int):List Int:=if ao l<0 then l.map λx => -x else l
noncomputable def aw(l:List Int):List Int:=cz (ar l)
theorem wo{c:Int->Int}(h0:∀x,c x=0↔x=0):∀(n:Nat) (l:List Int),l.length=n->trim (l.map c)=(trim l).map c
 |0,l,h=>by rw[Re.mp h];rfl
 |n+1,l,h=>by
  rcases cZ l with rfl |⟨r,x,rfl⟩
  ·rfl
  ·rw[Qk];show trim (r.map c++[c x])=_;by_cases hx:x=0
   ·subst hx;rw[(h0 0).mpr rfl,ni,ni];exact wo h0 n r (by simpa using h)
   ·rw[kN r hx,kN _ (λz=>hx ((h0 x).mp z)),Qk];rfl
def kG(l:List Int):Prop:=l=[]\/aA l=1
theorem x9{l:List Int}(h:kG l):ar l=l:=by
 rcases h with rfl |h
 ·rfl
 ·unfold ar;rw[h]
  conv=>rhs;rw[<- List.map_id l]
  apply RE;intro x _;show x/1=x;exact Int.ediv_one x
theorem J2{l:List Int}{s:Int}(hs:s=1\/s = -1):aA (l.map λx=>x*s)=aA l:=by
 have key:∀m:Nat,m∣aA (l.map λx=>x*s)↔m∣aA l:=by
  intro m;rw[dvd_gcdL,dvd_gcdL]
  have e:∀x:Int,(x*s).natAbs=x.natAbs:=λx=>by
   rcases hs with rfl |rfl
   ·rw[P8]
   ·rw[Rr,P8,QT]
  constructor
  ·intro h v hv;have:=h (v*s) (PV.mpr ⟨v,hv,rfl⟩)
   rwa [e]at this
  ·intro h v hv;obtain⟨u,hu,rfl⟩:=PV.mp hv;rw[e];exact h u hu
 exact Nat.dvd_antisymm ((key _).mp (Nat.dvd_refl _)) ((key _).mpr (Nat.dvd_refl _))
theorem Fc{l:List Int}(h:kG l):kG (l.map λx => -x):=by
 rcases h with rfl |h
 ·exact .inl rfl
 ·right
  have e:(l.map λx => -x)=l.map λx=>x*(-1):=by apply RE;intro x _;omega
  rw[e,J2 (.inr rfl),h]
theorem Ac(l:List Int):ao (l.map λx => -x) = -ao l:=by
 rcases cZ l with rfl |⟨r,x,rfl⟩
 ·rfl
 ·rw[Qk];show ao (r.map _++[-x])=_;rw[dM,dM]
theorem Fb{l:List Int}(h:kG l):kG (cz l):=by
 unfold cz;split
 ·exact Fc h
 ·exact h
theorem CQ{c:Int->Int}(h0:∀x,c x=0↔x=0){l:List Int}(h:Tr l):Tr (l.map c):=by rw[<- CK h,<- wo h0 _ l rfl];exact fX _
theorem CM{l:List Int}(h:Tr l):Tr (cz l):=by
 unfold cz;split
 ·exact CQ (λx=>by omega) h
 ·exact h
theorem AI(c:Int):∀(l:List Int) (d:Nat),fj (c.natAbs*d) (scL c l)=c.natAbs*fj d l
 | [],d=>rfl
 |v::l,d=>by show fj (Nat.gcd (c.natAbs*d) (c*v).natAbs) (scL c l)=c.natAbs*fj (Nat.gcd d v.natAbs) l;rw[PN,RS,AI c l]
theorem ui(c:Int)(l:List Int):aA (scL c l)=c.natAbs*aA l:=by have h:=AI c l 0;rw[Nat.mul_zero]at h;exact h
theorem i9{l:List Int}{x:Int}(h:x∈l):(aA l:Int)∣x:=RF.mpr (oZ h)
theorem DA{c:Int}(hc:0<c)(l:List Int):ar (scL c l)=ar l:=by
 unfold ar;rw[ui];unfold scL;rw[QL];refine RE λx _=>?_
 show c*x/((c.natAbs*aA l:Nat):Int)=x/(aA l:Int);have e:((c.natAbs*aA l:Nat):Int)=c*(aA l:Int):=by rw[QC];congr 1;omega
 rw[e,Int.mul_ediv_mul_of_pos _ _ hc]
theorem DB{c:Int}(hc:c<0)(l:List Int):ar (scL c l)=(ar l).map λx => -x:=by
 unfold ar;rw[ui];unfold scL;rw[QL,QL];refine RE λx hx=>?_
 show c*x/((c.natAbs*aA l:Nat):Int) = -(x/(aA l:Int));have e:((c.natAbs*aA l:Nat):Int)=(-c)*(aA l:Int):=by rw[QC];congr 1;omega
 have e2:c*x=(-c)*(-x):=by rw[Q6]
 rw[e,e2,Int.mul_ediv_mul_of_pos _ _ (by omega:0 < -c),Int.neg_ediv_of_dvd (i9 hx)]
theorem Fh{m:List Int}(h:Tr m):cz (m.map λx => -x)=cz m:=by
 rcases cZ m with rfl |⟨r,x,rfl⟩
 ·rfl
 have hx:x≠0:=tr_snoc.mp h;have h1:=Ac (r++[x]);rw[dM]at h1;unfold cz;rw[h1,dM];by_cases hn:x<0
 ·rw[if_neg (by omega),if_pos hn]
 ·rw[if_pos (by omega),if_neg hn,QL];rw[show((λx:Int => -x) ∘ λx:Int => -x)=id from by funext y;simp];exact List.map_id _
theorem gk{l:List Int}(h:Tr l):Tr (ar l):=by
 intro n hn;have hl:l.length=n+1:=by rw[<- hn];unfold ar;rw[PC]
 have hx:=h n hl;have hm:cf l n∈l:=by rw[eJ (by omega)];exact Ro _
 have e:cf (ar l) n=cf l n/(aA l:Int):=by
  have h1:n<l.length:=by omega
  unfold ar cf;simp[List.getD,h1]
 rw[e];intro z;have d:=i9 hm;have:=Int.mul_ediv_cancel' d;rw[z,Qd]at this;exact hx this.symm
theorem g8{c:Int}(hc:c≠0){l:List Int}(h:Tr l):aw (scL c l)=aw l:=by
 unfold aw;by_cases hp:0<c
 ·rw[DA hp]
 ·rw[DB (by omega),Fh (gk h)]
theorem kO{c:Int}(hc:c≠0){l:List Int}(h:Tr l):Tr (scL c l):=by intro n hn;rw[cv]at hn;rw[bQ];exact Qe hc (h n hn)
theorem Fj{a b:List Int}{x y:Int}(hx:x≠0)(hy:y≠0)(ha:Tr a)(hb:Tr b)(h:∀k,x*cf a k=y*cf b k):aw a=aw b:=by
 have e:scL x a=scL y b:=mE (kO hx ha) (kO hy hb) λk=>by rw[bQ,bQ,h k]
 rw[<- g8 hx ha,e,g8 hy hb]
noncomputable def slopeL(l:List Int):List Int:=(List.range (l.length-1)).map λ(k:Nat)=>((k:Int)+1)*cf l (k+1)
noncomputable def turnL(l:List Int):List Int:=(List.range l.length).map λk=>if k%2=0 then cf l k else -cf l k
theorem pL(l:List Int):(turnL l).length=l.length:=by simp[turnL]
theorem BJ(l:List Int)(k:Nat):cf (turnL l) k=if k%2=0 then cf l k else -cf l k:=by
 unfold turnL;rw[kq];by_cases h:k<l.length
 ·rw[if_pos h]
 ·rw[if_neg h,cC (QS h)];simp
noncomputable def lp(l:List Int)(m i n:Nat):Int:=if n%m=0/\n/m<i then cf l (n/m)else 0
noncomputable def rst(one other:List Int):List Int:=if other=[]then[]else aO one other
noncomputable def nxt(one other:List Int):List Int:=ar (cP [] (rst one other))
noncomputable def bT:Nat->List Int->List Int->List (List Int)
 |0,_,_=>[]
 |n+1,one,other=>if one=[]then[]else one::bT n other (nxt one other)
theorem lv(n:Nat)(o:List Int):bT n [] o=[]:=by cases n with |zero=>rfl |succ n=>show(if([]:List Int)=[]then _ else _)=_;rw[if_pos rfl]
noncomputable def up(f:Nat->Int)(n:Nat):Int:=if n=0 then 0 else f (n-1)
theorem xW(x:Int)(a b:List Int)(n:Nat):∀j,sm (x::a) b n (j+1)=x*cf b n+(if n=0 then 0 else sm a b (n-1) j)
 |0=>by
  show 0+tm (x::a) b n 0=_;unfold tm;rw[if_pos (PK _)];rw[BI,QV];by_cases h:n=0
  ·rw[if_pos h];omega
  ·rw[if_neg h];show _=_+0;omega
 |j+1=>by
  show sm (x::a) b n (j+1)+tm (x::a) b n (j+1)=_;rw[xW x a b n j];by_cases h:n=0
  ·rw[if_pos h,if_pos h];unfold tm;rw[if_neg (by omega)];omega
  ·rw[if_neg h,if_neg h];show _=_+(sm a b (n-1) j+tm a b (n-1) j)
   have e:tm (x::a) b n (j+1)=tm a b (n-1) j:=by
    unfold tm;rw[pd];by_cases h2:j+1<=n
    ·rw[if_pos h2,if_pos (by omega)]
     congr 2;omega
    ·rw[if_neg h2,if_neg (by omega)]
   rw[e];omega
theorem eu(x:Int)(a b:List Int)(n:Nat):aB (x::a) b n=x*cf b n+up (aB a b) n:=xW x a b n a.length
theorem fg(b:List Int)(n:Nat):aB [] b n=0:=rfl
theorem uZ(x:Int)(a:List Int)(n:Nat):cf (x::a) n=(if n=0 then x else 0)+up (cf a) n:=by
 cases n with
 |zero=>show x=x+0;omega
 |succ n=>show cf a n=0+cf a n;omega
theorem tz(y:Int)(b:List Int):∀(a:List Int) (n:Nat),aB a (y::b) n=y*cf a n+up (aB a b) n
 | [],n=>by
  rw[fg,cG];unfold up;split
  ·simp
  ·rw[fg];simp
 |x::a,n=>by
  rw[eu,uZ,uZ];cases n with
  |zero =>show x*(y+0)+0=y*(x+0)+0;simp only[Qy];exact P9 _ _
  |succ n =>show x*(0+cf b n)+aB a (y::b) n=y*(0+cf a n)+aB (x::a) b n;rw[tz y b a n,eu];simp only[QK];omega
theorem tx:∀(a:List Int) (n:Nat),aB a [] n=0
 | [],n=>rfl
 |x::a,n=>by
  rw[eu,cG];unfold up;split
  ·simp
  ·rw[tx a];simp
theorem gC:∀(a b:List Int) (n:Nat),aB a b n=aB b a n
 | [],b,n=>by rw[tx];rfl
 |x::a,b,n=>by
  rw[eu,tz]
  congr 1
  unfold up;split
  ·rfl
  ·exact gC a b _
theorem zy{a b c q:List Int}{x y:Int}{n:Nat}(h:∀k,cf c k=x*cf a k+y*cf b k):aB q c n=x*aB q a n+y*aB q b n:=by rw[gC q c,fh h,gC q a,gC q b]
theorem pe(a:List Int)(n:Nat):cf (0::a) n=up (cf a) n:=by rw[uZ];split<;>omega
theorem zx(a b:List Int)(n:Nat):aB (0::a) b n=up (aB a b) n:=by rw[eu];omega
theorem j5:∀(a b c:List Int) (n:Nat),aB (af a b) c n=aB a (af b c) n
 | [],b,c,n=>by rw[fg,tq λk=>by rw[aL,fg]]
 |x::a,b,c,n=>by
  rw[eu,aL]
  have e:∀k,cf (af (x::a) b) k=x*cf b k+1*cf (0::af a b) k:=λk=>by
   rw[aL,eu,pe,PY]
   congr 1
   unfold up;split
   ·rfl
   ·rw[aL]
  rw[fh e,zx,PY]
  congr 1
  unfold up;split
  ·rfl
  ·exact j5 a b c _
def Dv(d p:List Int):Prop:=∃(c:Int) (q:List Int),c≠0/\∀n,c*cf p n=aB q d n
theorem Dv.refl(d:List Int):Dv d d:=⟨1,[1],by decide,λn=>by rw[f9]⟩
theorem Dv.nil(d:List Int):Dv d []:=⟨1,[],by decide,λn=>by rw[cG,fg];rfl⟩
theorem Dv.trans{d e p:List Int}(h1:Dv d e)(h2:Dv e p):Dv d p:=by obtain⟨c1,q1,hc1,e1⟩:=h1;obtain⟨c2,q2,hc2,e2⟩:=h2;refine⟨c1*c2,af q2 q1,Qe hc1 hc2,λn=>?_⟩;rw[j5,P4,e2,<- lY (b':=af q1 d) (λk=>by rw[aL,e1])]
theorem Dv.up{d a b r q:List Int}{f:Int}(hf:f≠0)(h:∀n,f*cf a n=aB q b n+cf r n)(hb:Dv d b)(hr:Dv d r):Dv d a:=by obtain⟨c1,q1,hc1,e1⟩:=hb;obtain⟨c2,q2,hc2,e2⟩:=hr;refine⟨c1*c2*f,eG c1 (scL c2 (af q q1)) q2,Qe (Qe hc1 hc2) hf,λn=>?_⟩;rw[fh (a:=af q q1) (b:=q2) (x:=c2) (y:=c1) (λk=>by rw[ip,bQ]),j5,<- e2,lY (b:=b) (b':=af q1 d) (c:=c1) (λk=>by rw[aL,e1])];have:=h n;grind
theorem Dv.down{d a b r q:List Int}{f:Int}(h:∀n,f*cf a n=aB q b n+cf r n)(ha:Dv d a)(hb:Dv d b):Dv d r:=by obtain⟨c1,q1,hc1,e1⟩:=ha;obtain⟨c2,q2,hc2,e2⟩:=hb;refine⟨c1*c2,eG (-c1) (scL (f*c2) q1) (af q q2),Qe hc1 hc2,λn=>?_⟩;rw[fh (a:=q1) (b:=af q q2) (x:=f*c2) (y := -c1) (λk=>by rw[ip,bQ]),j5,<- e1,lY (b:=b) (b':=af q2 d) (c:=c2) (λk=>by rw[aL,e2])];have:=h n;grind
theorem Dv.prop_right{d p p':List Int}{x y:Int}(hx:x≠0)(h:∀n,x*cf p' n=y*cf p n)(hd:Dv d p):Dv d p':=by obtain⟨c,q,hc,e⟩:=hd;refine⟨c*x,scL y q,Qe hc hx,λn=>?_⟩;rw[fh (a:=q) (b:=[]) (x:=y) (y:=0) (λk=>by rw[bQ];simp),<- e];have:=h n;grind
theorem Dv.prop_left{d d' p:List Int}{x y:Int}(hx:x≠0)(hy:y≠0)(h:∀n,x*cf d' n=y*cf d n)(hd:Dv d p):Dv d' p :=
 Dv.trans (Dv.prop_right hy (λn=>(h n).symm) (Dv.refl d')) hd
theorem jZ{l:List Int}(h:Tr l):∃g:Int,g≠0/\∀n,cf l n=g*cf (aw l) n:=by
 by_cases hl:l=[]
 ·subst hl;exact⟨1,by decide,λn=>by rw[cG];show 0=1*cf [] n;rw[cG];rfl⟩
 have hg:(aA l:Int)≠0:=by obtain⟨r,x,rfl⟩:=(cZ l).resolve_left hl;have hx:x≠0:=tr_snoc.mp h;have h1:0<aA (r++[x]):=Nat.pos_of_dvd_of_pos (oZ (by simp:x∈r++[x])) (Rq.mpr hx);omega
 have e1:∀n,cf l n=(aA l:Int)*cf (ar l) n:=λn=>by
  unfold ar;by_cases hn:n<l.length
  ·rw[eJ hn,eJ (by rw[PC];exact hn),List.getElem_map];exact(Int.mul_ediv_cancel' (i9 (Ro hn))).symm
  ·rw[cC (by omega),cC (by rw[PC];omega),Qd]
 unfold aw cz;split
 ·refine⟨-(aA l:Int),by omega,λn=>?_⟩
  have e2:cf ((ar l).map λx => -x) n = -cf (ar l) n:=by
   by_cases hn:n<(ar l).length
   ·rw[eJ hn,eJ (by rw[PC];exact hn),List.getElem_map]
   ·rw[cC (l:=ar l) (by omega),cC (l:=(ar l).map λx => -x) (by rw[PC];omega)];rfl
  rw[e1,e2];grind
 ·exact⟨_,hg,e1⟩
theorem Dv.plain{d p:List Int}(hp:Tr p):Dv d (aw p)↔Dv d p:=by obtain⟨g,hg,e⟩:=jZ hp;exact⟨λh=>Dv.prop_right (x:=1) (y:=g) (by decide) (λn=>by rw[e];omega) h,λh=>Dv.prop_right (x:=g) (y:=1) hg (λn=>by rw[<- e];omega) h⟩
theorem plain_len(l:List Int):(aw l).length=l.length:=by unfold aw cz ar;split<;>simp
theorem gW{l:List Int}(h:Tr l):Tr (aw l):=CM (gk h)
noncomputable def cN:Nat->List Int->List Int->List Int
 |0,one,_=>one
 |n+1,one,other=>if other=[]then one else cN n other (aw (aO one other))
theorem Bu(n:Nat)(one:List Int):cN n one []=one:=by cases n<;>rfl
theorem Lc{n:Nat}{one other:List Int}(h:other≠[]):cN (n+1) one other=cN n other (aw (aO one other)):=by show(if other=[]then one else cN n other (aw (aO one other)))=_;rw[if_neg h]
theorem Bt:∀(n:Nat) (one other:List Int),other.length<=n->Tr one->Tr other->Tr (cN n one other)/\Dv (cN n one other) one/\Dv (cN n one other) other/\(∀d,Dv d one->Dv d other->Dv d (cN n one other))/\(one≠[]\/other≠[]->cN n one other≠[])/\(cN n one other=one\/cN n one other=other\/∃l,Tr l/\cN n one other=aw l)
 |n,one,[],_,t1,_=>by rw[Bu];exact⟨t1,Dv.refl _,Dv.nil _,λd h _=>h,λh=>h.resolve_right λz=>z rfl,.inl rfl⟩
 |0,one,x::o,h,_,_=>absurd h (Nat.not_succ_le_zero _)
 |n+1,one,x::o,h,t1,t2=>by
  have hne:x::o≠[]:=λz=>nomatch z
  rw[Lc hne];generalize x::o=other at h t2 hne
  have tr:=gf one other;have hl:=gM (a:=one) hne;obtain⟨c1,c2,c3,c4,c5,c6⟩:=Bt n other (aw (aO one other)) (by rw[plain_len];omega) t2 (gW tr);have eq:=λk=>ik (a:=one) hne k
  refine⟨c1,Dv.up (mG (a:=one) hne t2) eq c2 ((Dv.plain tr).mp c3),c2,λd h1 h2=>c4 d h2 ((Dv.plain tr).mpr (Dv.down eq h1 h2)),λ_=>c5 (.inl hne),?_⟩;rcases c6 with e |e |e
  ·exact .inr (.inl e)
  ·exact .inr (.inr ⟨_,tr,e⟩)
  ·exact .inr (.inr e)
def Cop(a:List Int)(m:Nat):Prop:=∀k:Nat,k∣m->(∀n,(k:Int)∣cf a n)->k=1
theorem uj:∀(N:Nat) (a b:List Int) (m:Nat),a.length+b.length<=N->Cop a m->Cop b m->(∀n,(m:Int)∣aB a b n)->m=1
 |_,[],b,m,_,h1,_,_=>h1 m (Nat.dvd_refl _) λn=>by rw[cG];exact Int.dvd_zero _
 |_,_::_,[],m,_,_,h2,_=>h2 m (Nat.dvd_refl _) λn=>by rw[cG];exact Int.dvd_zero _
 |0,_::_,_::_,_,h,_,_,_=>absurd h (by simp)
 |N+1,x::a,y::b,m,h,h1,h2,h3=>by
  have d1:Nat.gcd m x.natAbs=1:=by
   refine uj N a (y::b) _ (by simp at h ⊢;omega) (λk hk hn=>h1 k (Rs hk (QN _ _)) λn=>?_) (λk hk=>h2 k (Rs hk (QN _ _))) λn=>?_
   ·cases n with
    |zero=>exact RF.mpr (Rs hk (Rf _ _))
    |succ n=>exact hn n
   ·have e:=eu x a (y::b) (n+1);have g1:((Nat.gcd m x.natAbs:Nat):Int)∣aB (x::a) (y::b) (n+1):=Int.dvd_trans (Int.ofNat_dvd.mpr (QN _ _)) (h3 _);have g2:((Nat.gcd m x.natAbs:Nat):Int)∣x*cf (y::b) (n+1):=Int.dvd_mul_of_dvd_left (RF.mpr (Rf _ _))
    have e2:aB a (y::b) n=aB (x::a) (y::b) (n+1)-x*cf (y::b) (n+1):=by rw[e];show _=_+aB a (y::b) n-_;omega
    rw[e2];exact Int.dvd_sub g1 g2
  have d2:Nat.gcd m y.natAbs=1:=by
   refine uj N (x::a) b _ (by simp at h ⊢;omega) (λk hk=>h1 k (Rs hk (QN _ _))) (λk hk hn=>h2 k (Rs hk (QN _ _)) λn=>?_) λn=>?_
   ·cases n with
    |zero=>exact RF.mpr (Rs hk (Rf _ _))
    |succ n=>exact hn n
   ·have e:=tz y b (x::a) (n+1);have g1:((Nat.gcd m y.natAbs:Nat):Int)∣aB (x::a) (y::b) (n+1):=Int.dvd_trans (Int.ofNat_dvd.mpr (QN _ _)) (h3 _);have g2:((Nat.gcd m y.natAbs:Nat):Int)∣y*cf (x::a) (n+1):=Int.dvd_mul_of_dvd_left (RF.mpr (Rf _ _))
    have e2:aB (x::a) b n=aB (x::a) (y::b) (n+1)-y*cf (x::a) (n+1):=by rw[e];show _=_+aB (x::a) b n-_;omega
    rw[e2];exact Int.dvd_sub g1 g2
  have h0:=h3 0;rw[eu]at h0
  have h0':m∣x.natAbs*y.natAbs:=by
   rw[<- PN];refine RF.mp ?_
   have e:x*cf (y::b) 0+up (aB a (y::b)) 0=x*y:=by show x*y+0=x*y;omega
   rwa [e]at h0
  have h4:m∣y.natAbs:=Nat.Coprime.dvd_of_dvd_mul_left d1 h0';rw[Nat.gcd_eq_left h4]at d2;exact d2
theorem Hy{l:List Int}{v:Int}(h:v∈l):∃n,n<l.length/\cf l n=v:=by obtain⟨n,hn,e⟩:=List.getElem_of_mem h;exact⟨n,hn,by rw[eJ hn,e]⟩
theorem Br{a:List Int}{m:Nat}(h:aA a=1):Cop a m:=λk _ hn=>by
 have:k∣aA a:=dvd_gcdL.mpr λv hv=>by obtain⟨n,_,rfl⟩:=Hy hv;exact RF.mp (hn n)
 rw[h]at this;exact Nat.dvd_one.mp this
theorem Fd{a b:List Int}(ha:aA a=1)(hb:aA b=1):aA (af a b)=1:=by
 refine uj _ a b _ (PF _) (Br ha) (Br hb) λn=>?_
 rw[<- aL];by_cases hn:n<(af a b).length
 ·rw[eJ hn];exact i9 (Ro hn)
 ·rw[cC (by omega)];exact Int.dvd_zero _
structure Pln(l:List Int):Prop where
 tr:Tr l
 ne:l≠[]
 prim:aA l=1
 pos:0<ao l
theorem Ab{l:List Int}(h:Tr l)(hne:l≠[]):ao l≠0:=by have:=PL.mpr hne;exact h (l.length-1) (by omega)
theorem Pln.plain{l:List Int}(h:Pln l):aw l=l:=by unfold aw;rw[x9 (.inr h.prim)];unfold cz;rw[if_neg (by have:=h.pos;omega)]
theorem shr_scale{l:List Int}:scL (aA l:Int) (ar l)=l:=by unfold scL ar;rw[QL];refine(RE (g:=id) λx hx=>?_).trans (List.map_id _);exact Int.mul_ediv_cancel' (i9 hx)
theorem fG{l:List Int}(h:Tr l)(hne:l≠[]):Pln (aw l):=by
 have hg:0<aA l:=by obtain⟨r,x,rfl⟩:=(cZ l).resolve_left hne;have hx:x≠0:=tr_snoc.mp h;exact Nat.pos_of_dvd_of_pos (oZ (by simp:x∈r++[x])) (Rq.mpr hx)
 have h1:aA (ar l)=1:=by have e:=ui (aA l:Int) (ar l);rw[shr_scale,Qq]at e;exact Su hg (by rw[<- e,Nat.mul_one])
 have hs:ar l≠[]:=λz=>hne (by have:=congrArg List.length z;unfold ar at this;simpa using this)
 have hl:=Ab (gk h) hs
 have hp:aA (aw l)=1:=by
  rcases Fb (.inr h1:kG (ar l))with z |z
  ·exact absurd (congrArg List.length z) (by
    have:=plain_len l;unfold aw at this
    rw[this]
    exactλq=>hne (Re.mp q))
  ·exact z
 refine⟨gW h,λz=>hne (Re.mp (by rw[<- plain_len,z];rfl)),hp,?_⟩;unfold aw cz;split
 ·rw[Ac];omega
 ·omega
theorem bV{a b:List Int}(ha:a≠[])(hb:b≠[]):(af a b).length=a.length+b.length-1:=by unfold af;rw[if_neg (λz=>z.elim ha hb),PC,Q5]
theorem tR{a b:List Int}(ha:a≠[])(hb:b≠[]):ao (af a b)=ao a*ao b:=by
 have h1:=PL.mpr ha;have h2:=PL.mpr hb;unfold ao;rw[bV ha hb,aL];have e:a.length+b.length-1-1=(a.length-1)+(b.length-1):=by omega
 rw[e,tu (by omega) (by omega)]
theorem Pln.mul{a b:List Int}(ha:Pln a)(hb:Pln b):Pln (af a b):=by
 refine⟨nj ha.tr hb.tr,λz=>?_,Fd ha.prim hb.prim,by rw[tR ha.ne hb.ne];exact PB ha.pos hb.pos⟩;have h1:=PL.mpr ha.ne;have h2:=PL.mpr hb.ne;have:=bV ha.ne hb.ne;rw[z]at this;simp at this
 omega
theorem yX{p q d:List Int}{c:Int}(hc:c≠0)(hp:Tr p)(hpn:p≠[])(hq:Tr q)(hd:Pln d)(h:∀n,c*cf p n=aB q d n):af (aw q) d=aw p:=by
 have hqn:q≠[]:=λz=>by have h1:=PL.mpr hpn;have h2:=h (p.length-1);rw[z,fg]at h2;exact Qe hc (hp (p.length-1) (by omega)) h2
 obtain⟨g,hg,e⟩:=jZ hq;have hm:=(fG hq hqn).mul hd;rw[<- hm.plain];refine Fj hg hc hm.tr hp λk=>?_
 rw[h,aL,fh (a:=aw q) (b:=[]) (x:=g) (y:=0) (c:=q) (λk=>by rw[e];simp),fg];simp
theorem Dv.trim{d p:List Int}(h:Dv d p):∃(c:Int) (q:List Int),c≠0/\Tr q/\∀n,c*cf p n=aB q d n:=by obtain⟨c,q,hc,e⟩:=h;exact⟨c,RM.trim q,hc,fX q,λn=>by rw[e];exact(oz (λk=>gO q k) λ_=>rfl).symm⟩
theorem Dv.fellow{d p:List Int}(hd:Pln d)(hp:Tr p)(hpn:p≠[])(h:Dv d p):∃q,Pln q/\af q d=aw p:=by
 obtain⟨c,q,hc,hq,e⟩:=h.trim
 have hqn:q≠[]:=λz=>by have h1:=PL.mpr hpn;have h2:=e (p.length-1);rw[z,fg]at h2;exact Qe hc (hp (p.length-1) (by omega)) h2
 exact⟨aw q,fG hq hqn,yX hc hp hpn hq hd e⟩
theorem Pln.const{l:List Int}(h:Pln l)(h1:l.length=1):l=[1]:=by
 obtain⟨x,rfl⟩:∃x,l=[x]:=List.length_eq_one_iff.mp h1;have h2:=h.prim;rw[J1]at h2;have h3:0<x:=h.pos;have:x=1:=by omega
 rw[this]
theorem one_mul(l:List Int)(h:Tr l):af [1] l=l:=by
 refine mE (nj (tr_snoc (r:=[]).mpr (by decide)) h) h λk=>?_
 rw[aL,f9];omega
theorem sP{a b:List Int}(ha:Pln a)(hb:Pln b)(h1:Dv a b)(h2:Dv b a):a=b:=by obtain⟨q,hq,e⟩:=h1.fellow ha hb.tr hb.ne;obtain⟨r,hr,e'⟩:=h2.fellow hb ha.tr ha.ne;rw[hb.plain]at e;rw[ha.plain]at e';have l1:=bV hq.ne ha.ne;have l2:=bV hr.ne hb.ne;rw[e]at l1;rw[e']at l2;have p1:=PL.mpr hq.ne;have p2:=PL.mpr hr.ne;have p3:=PL.mpr ha.ne;have hq1:=hq.const (by omega);rw[hq1,one_mul a ha.tr]at e;exact e
theorem Dv.short{d r:List Int}(hd:d≠[])(hdt:Tr d)(hr:Tr r)(hl:r.length<d.length)(h:Dv d r):r=[]:=by
 obtain⟨c,q,hc,e⟩:=h;have z:=zw hd hdt (d:=q) λn hn=>by rw[<- e,cC (by omega),Qd]
 refine tj hr λk=>?_
 have h1:=e k;rw[tq z]at h1;exact(Q7.mp h1).resolve_left hc
theorem Dv.rest{d p:List Int}(hd:d≠[])(hdt:Tr d)(h:Dv d p):aO p d=[] :=
 Dv.short hd hdt (gf _ _) (gM hd) (Dv.down (λn=>ik (a:=p) hd n) h (Dv.refl d))
theorem Dv.mul_right(a b:List Int):Dv b (af a b):=⟨1,a,by decide,λn=>by rw[aL];omega⟩
theorem Dv.mul_left(a b:List Int):Dv a (af a b):=⟨1,b,by decide,λn=>by rw[aL,gC];omega⟩
theorem Md{l1 l2 r1 r2 pl pc a1 a2 c1 c2 x1 x2:Int}(ha:0<a2)(hc:0<c2)(e1:a1*pc=pl*a2)(e2:c1*(r2*a2)=r1*a1*c2)(e3:x1*(l2*c2)=(l1*c2+c1*l2)*x2) :
 x1*(l2*r2*pc)=(l1*r2*pc+r1*l2*pl)*x2:=by
 have h0:c2*a2≠0:=Qo (PB hc ha);refine RX h0 ?_
 calc x1*(l2*r2*pc)*(c2*a2)=x1*(l2*c2)*(r2*pc*a2):=by grind
  _=(l1*c2+c1*l2)*x2*(r2*pc*a2):=by rw[e3]
  _=x2*(l1*c2*r2*pc*a2+l2*pc*(c1*(r2*a2))):=by grind
  _=x2*(l1*c2*r2*pc*a2+l2*pc*(r1*a1*c2)):=by rw[e2]
  _=x2*c2*(l1*r2*pc*a2+l2*r1*(a1*pc)):=by grind
  _=x2*c2*(l1*r2*pc*a2+l2*r1*(pl*a2)):=by rw[e1]
  _=(l1*r2*pc+r1*l2*pl)*x2*(c2*a2):=by grind
theorem Lr{l r:Int}(hl:0<l)(hr:0<r){g:Nat}(hg:g=Nat.gcd l.natAbs r.natAbs):∃l' r':Int,0<l'/\0<r'/\(0:Int)<g/\l=g*l'/\r=g*r'/\l*r/g=l*r'/\l*r'/l=r'/\l*r'/r=l'/\0<l*r':=by
 have g0:0<g:=by rw[hg];exact Nat.gcd_pos_of_pos_left _ (by omega)
 have gi:(0:Int)<g:=by omega
 obtain⟨l',hl'⟩:(g:Int)∣l:=RB.mp (by rw[Qq,hg];exact QN _ _);obtain⟨r',hr'⟩:(g:Int)∣r:=RB.mp (by rw[Qq,hg];exact Rf _ _);have l0:0<l':=Sl (a:=(g:Int)) (by rw[Qd,<- hl'];exact hl) (PD gi);have r0:0<r':=Sl (a:=(g:Int)) (by rw[Qd,<- hr'];exact hr) (PD gi);refine⟨l',r',l0,r0,gi,hl',hr',?_,?_,?_,PB hl r0⟩
 ·have e:l*r=(l*r')*g:=by
   calc l*r=l*(g*r'):=by rw[<- hr']
    _=(l*r')*g:=by grind
  rw[e];exact Int.mul_ediv_cancel _ (Qo gi)
 ·exact Sm _ (Qo hl)
 ·have e:l*r'=l'*r:=by
   calc l*r'=(g*l')*r':=by rw[<- hl']
    _=l'*(g*r'):=by grind
    _=l'*r:=by rw[<- hr']
  rw[e];exact Int.mul_ediv_cancel _ (Qo hr)
noncomputable def cJ:List Int->List Int
 | []=>[]
 |v::l=>2^l.length*v::cJ l
theorem nC:∀l,(cJ l).length=l.length
 | []=>rfl
 |v::l=>by show(cJ l).length+1=_;rw[nC l];rfl
theorem Az(p q:Int):∀l,2*hv p q (cJ l)=hv p (2*q) l
 | []=>by show 2*0=(0:Int);rfl
 |v::l=>by have ih:=Az p q l;show 2*(2^l.length*v*q^((cJ l).length+1)+p*hv p q (cJ l))=v*(2*q)^(l.length+1)+p*hv p (2*q) l;rw[nC,<- ih,Int.mul_pow,Ql 2];grind
noncomputable def suf:List Int->List Int
 | []=>[]
 |v::l=>(v+(suf l).headD 0)::suf l
theorem jK:∀l,(suf l).length=l.length
 | []=>rfl
 |v::l=>by show(suf l).length+1=_;rw[jK l];rfl
theorem wG(p q:Int):∀l,hv (p+q) q l=(suf l).headD 0*q^l.length+p*hv (p+q) q ((suf l).tail)
 | []=>by show(0:Int)=0*q^0+p*0;omega
 |v::l=>by
  have ih:=wG p q l;show v*q^(l.length+1)+(p+q)*hv (p+q) q l=(v+(suf l).headD 0)*q^(l.length+1)+p*hv (p+q) q (suf l);cases hs:suf l with
  |nil =>
   have hl:l=[]:=by have:=jK l;rw[hs]at this;exact Rt this.symm
   subst hl;show v*q^1+(p+q)*0=(v+0)*q^1+p*0;grind
  |cons g r =>
   rw[hs]at ih;have hl:r.length+1=l.length:=by have:=jK l;rw[hs]at this;exact this
   have ih':hv (p+q) q l=g*q^l.length+p*hv (p+q) q r:=ih;show v*q^(l.length+1)+(p+q)*hv (p+q) q l=(v+g)*q^(l.length+1)+p*(g*q^(r.length+1)+(p+q)*hv (p+q) q r);rw[ih',hl,Ql];grind
noncomputable def ei:Nat->List Int->List Int
 |0,m=>suf m
 |_+1,[]=>[]
 |i+1,c::m=>c::ei i m
theorem sT:∀(i:Nat) (m:List Int),(ei i m).length=m.length
 |0,m=>jK m
 |_+1,[]=>rfl
 |i+1,c::m=>by show(ei i m).length+1=_;rw[sT i m];rfl
noncomputable def ga(p q:Int):Nat->List Int->Int
 |0,m=>hv (p+q) q m
 |_+1,[]=>0
 |i+1,c::m=>c*q^(m.length+1)+p*ga p q i m
theorem zJ(p q:Int):∀(i:Nat) (m:List Int),ga p q (i+1) (ei i m)=ga p q i m
 |0,m=>by
  show ga p q 1 (suf m)=hv (p+q) q m;rw[wG];cases hs:suf m with
  |nil =>show(0:Int)=0*q^m.length+p*hv (p+q) q [];rw[oX];omega
  |cons g r =>
   have hl:r.length+1=m.length:=by have:=jK m;rw[hs]at this;exact this
   show g*q^(r.length+1)+p*hv (p+q) q r=g*q^m.length+p*hv (p+q) q r;rw[hl]
 |i+1,[]=>rfl
 |i+1,c::m=>by show c*q^((ei i m).length+1)+p*ga p q (i+1) (ei i m)=c*q^(m.length+1)+p*ga p q i m;rw[zJ p q i m,sT]
theorem zL(p q:Int):∀(i:Nat) (m:List Int),m.length<=i+1->ga p q i m=hv p q m
 |0,[],_=>rfl
 |0,[c],_=>by show c*q^1+(p+q)*0=c*q^1+p*0;omega
 |0,_::_::_,h=>absurd h (by simp)
 |_+1,[],_=>rfl
 |i+1,c::m,h=>by show c*q^(m.length+1)+p*ga p q i m=c*q^(m.length+1)+p*hv p q m;rw[zL p q i m (by simpa using h)]
noncomputable def fL:Nat->List Int->List Int
 |0,l=>l
 |i+1,l=>ei i (fL i l)
theorem oA:∀(i:Nat) (l:List Int),(fL i l).length=l.length
 |0,_=>rfl
 |i+1,l=>by show(ei i (fL i l)).length=_;rw[sT,oA i l]
theorem zK(p q:Int):∀(i:Nat) (l:List Int),ga p q i (fL i l)=hv (p+q) q l
 |0,_=>rfl
 |i+1,l=>by show ga p q (i+1) (ei i (fL i l))=_;rw[zJ,zK p q i l]
noncomputable def md(l:List Int):List Int:=fL (l.length-1) l
theorem zF(l:List Int):(md l).length=l.length:=oA _ _
theorem JN(p q:Int)(l:List Int):hv p q (md l)=hv (p+q) q l:=by rw[<- zK p q (l.length-1) l];exact(zL p q (l.length-1) _ (by rw[zF];omega)).symm
theorem Ax:∀l:List Int,hv 1 1 l=l.sum
 | []=>rfl
 |v::l=>by show v*1^(l.length+1)+1*hv 1 1 l=v+l.sum;rw[Ax l,Int.one_pow];omega
noncomputable def cj(m s0 s1:Int):List Int->List Int
 | []=>[]
 |v::l=>mb (-s0) s1 (v*m^l.length) (cj m s0 s1 l)
theorem jL(m s0 s1:Int):∀l,(cj m s0 s1 l).length=l.length
 | []=>rfl
 |v::l=>by show(mb _ _ _ _).length=_;rw[oC,jL m s0 s1 l];rfl
theorem Ay(m s0 s1 p q:Int):∀l,m*hv p q (cj m s0 s1 l)=hv (s0*q+s1*p) (m*q) l
 | []=>by show m*0=(0:Int);omega
 |v::l=>by have ih:=Ay m s0 s1 p q l;show m*hv p q (mb (-s0) s1 (v*m^l.length) (cj m s0 s1 l))=v*(m*q)^(l.length+1)+(s0*q+s1*p)*hv (s0*q+s1*p) (m*q) l;rw[AB,jL,<- ih,Int.mul_pow,Ql m];grind
theorem wH(m s0 s1:Int):∀l,cf (cj m s0 s1 l) (l.length-1)=cf l (l.length-1)*s1^(l.length-1)
 | []=>by show(0:Int)=0*_;omega
 | [v]=>by show cf (mb (-s0) s1 (v*m^0) []) 0=v*s1^0;rw[ji,if_pos rfl,cG,QO,QO];omega
 |v::u::l=>by have ih:=wH m s0 s1 (u::l);show cf (mb (-s0) s1 _ (cj m s0 s1 (u::l))) (l.length+1)=cf (u::l) l.length*s1^(l.length+1);rw[ji,if_neg (by omega)];have e1:cf (cj m s0 s1 (u::l)) (l.length+1)=0:=cC (by rw[jL];exact PF _);have e2:cf (cj m s0 s1 (u::l)) (l.length+1-1)=cf (u::l) l.length*s1^l.length:=ih;rw[e1,e2,Ql];grind
theorem eT{x p:Int}(hp:0<p):sg (p*x)=sg x:=by rw[P9];exact qu hp
noncomputable def sgq(u v d:Int):Int :=
 if 0<=u/\0<=v then(if 0<u\/0<v then 1 else 0)
 else if u<=0/\v<=0 then -1
 else if 0<u then(if u*u<d*v*v then -1 else 1)
 else(if u*u>d*v*v then -1 else 1)
def NSq(d:Int):Prop:=0<d/\∀a b:Int,b≠0->a*a≠d*b*b
theorem Hf(n d:Nat)(h1:n*n<d)(h2:d<(n+1)*(n+1)):∀b a:Nat,0<b->a*a≠d*(b*b):=by
 intro b
 induction b using Nat.strongRecOn with
 |ind b ih =>
  intro a hb e
  have l1:n*b<a:=by
   refine Classical.byContradiction λz=>?_
   have z':a<=n*b:=by omega
   have h3:=QW z' z';have h4:n*n*(b*b)<d*(b*b):=Nat.mul_lt_mul_of_pos_right h1 (Nat.mul_pos hb hb);have e2:n*b*(n*b)=n*n*(b*b):=by grind
   omega
  have l2:a<(n+1)*b:=by
   refine Classical.byContradiction λz=>?_
   have z':(n+1)*b<=a:=by omega
   have h3:=QW z' z';have h4:d*(b*b)<(n+1)*(n+1)*(b*b):=Nat.mul_lt_mul_of_pos_right h2 (Nat.mul_pos hb hb);have e2:(n+1)*b*((n+1)*b)=(n+1)*(n+1)*(b*b):=by grind
   omega
  have e3:(n+1)*b=n*b+b:=by grind
  obtain⟨c,hc⟩:∃c,a=n*b+c:=⟨a-n*b,by omega⟩;have hc0:0<c:=by omega
  have hcb:c<b:=by omega
  have l3:n*a<=d*b:=by
   have h5:n*a*a<=d*b*a:=by
    have h6:n*(a*a)=n*(d*(b*b)):=by rw[e]
    have h7:n*b*(d*b)<=a*(d*b):=QD _ (QZ l1);have e4:n*a*a=n*(a*a):=by grind
    have e5:n*(d*(b*b))=n*b*(d*b):=by grind
    have e6:d*b*a=a*(d*b):=by grind
    omega
   exact Sw h5 (by omega)
  obtain⟨f,hf⟩:∃f,d*b=n*a+f:=⟨d*b-n*a,by omega⟩;refine ih c hcb f hc0 ?_
  have e7:(f:Int)=(d:Int)*b-n*a:=by have:=congrArg (λz:Nat=>(z:Int)) hf;simp only[Int.natCast_add,QC]at this;omega
  have e8:(c:Int)=(a:Int)-n*b:=by have:=congrArg (λz:Nat=>(z:Int)) hc;simp only[Int.natCast_add,QC]at this;omega
  have e9:(a:Int)*a=d*(b*b):=by have:=congrArg (λz:Nat=>(z:Int)) e;simp only[QC]at this;exact this
  have e10:(f:Int)*f=d*(c*c):=by
   rw[e7,e8];have:((d:Int)*b-n*a)*(d*b-n*a)-d*((a-n*b)*(a-n*b))=(d*(b*b)-a*a)*(d-n*n):=by grind
   rw[e9,Int.sub_self,Qp]at this;omega
  have e11:((f*f:Nat):Int)=((d*(c*c):Nat):Int):=by simp only[QC];exact e10
  exact Int.ofNat.inj e11
theorem hI{n d:Nat}(h1:n*n<d)(h2:d<(n+1)*(n+1)):NSq d:=by
 refine⟨by omega,λa b hb e=>?_⟩;refine Hf n d h1 h2 b.natAbs a.natAbs (by omega) ?_;have e1:((a.natAbs*a.natAbs:Nat):Int)=a*a:=Int.natAbs_mul_self;have e2:((b.natAbs*b.natAbs:Nat):Int)=b*b:=Int.natAbs_mul_self
 have:((a.natAbs*a.natAbs:Nat):Int)=((d*(b.natAbs*b.natAbs):Nat):Int):=by rw[QC (d) _,e1,e2,e,P4]
 exact Int.ofNat.inj this
theorem iF(u v d:Int):sgq u v d=1\/sgq u v d=0\/sgq u v d = -1:=by
 unfold sgq;split
 ·split
  ·exact .inl rfl
  ·exact .inr (.inl rfl)
 ·split
  ·exact .inr (.inr rfl)
  ·split<;>split<;>simp
theorem dY{u v d:Int}(hu:0<=u)(hv:0<=v)(h:0<u\/0<v):sgq u v d=1:=by unfold sgq;rw[if_pos ⟨hu,hv⟩,if_pos h]
theorem eQ{u v d:Int}(hu:u<=0)(hv:v<=0)(h:u<0\/v<0):sgq u v d = -1:=by unfold sgq;rw[if_neg (by omega),if_pos ⟨hu,hv⟩]
theorem fY{u v d:Int}(hu:0<u)(hv:v<0):sgq u v d=if u*u<d*v*v then -1 else 1:=by unfold sgq;rw[if_neg (by omega),if_neg (by omega),if_pos hu]
theorem fZ{u v d:Int}(hu:u<0)(hv:0<v):sgq u v d=if u*u>d*v*v then -1 else 1:=by unfold sgq;rw[if_neg (by omega),if_neg (by omega),if_neg (by omega)]
theorem li(d:Int):sgq 0 0 d=0:=rfl
theorem IK(u v:Int):(u=0/\v=0)\/(0<=u/\0<=v/\(0<u\/0<v))\/(u<=0/\v<=0/\(u<0\/v<0))\/(0<u/\v<0)\/(u<0/\0<v):=by omega
theorem jQ{g u v d:Int}(hg:0<g):sgq (g*u) (g*v) d=sgq u v d:=by
 have hp:∀x:Int,0<x->0<g*x:=λx h=>PB hg h
 have hn:∀x:Int,x<0->g*x<0:=λx h=>RY hg h
 have hz:∀x:Int,0<=x->0<=g*x:=λx h=>P5 (PD hg) h
 have hy:∀x:Int,x<=0->g*x<=0:=λx h=>RC (PD hg) h
 have gg:0<g*g:=PB hg hg;have e1:g*u*(g*u)=u*u*(g*g):=by grind
 have e2:d*(g*v)*(g*v)=d*v*v*(g*g):=by grind
 rcases IK u v with⟨rfl,rfl⟩ |⟨a,b,c⟩ |⟨a,b,c⟩ |⟨a,b⟩ |⟨a,b⟩
 ·rw[Qd]
 ·rw[dY a b c,dY (hz _ a) (hz _ b) (c.elim (λz=>.inl (hp _ z)) (λz=>.inr (hp _ z)))]
 ·rw[eQ a b c,eQ (hy _ a) (hy _ b) (c.elim (λz=>.inl (hn _ z)) (λz=>.inr (hn _ z)))]
 ·rw[fY a b,fY (hp _ a) (hn _ b),e1,e2];by_cases z:u*u<d*v*v
  ·rw[if_pos z,if_pos (Qv z gg)]
  ·rw[if_neg z,if_neg (λy=>z (Rg y (PD gg)))]
 ·rw[fZ a b,fZ (hn _ a) (hp _ b),e1,e2];by_cases z:u*u>d*v*v
  ·rw[if_pos z,if_pos (Qv z gg)]
  ·rw[if_neg z,if_neg (λy=>z (Rg y (PD gg)))]
theorem Ho{t h v:Int}{T X V:Nat}(ht:t.natAbs=T)(hh:X<=h.natAbs)(hv:v.natAbs<=V):T*X<=(v+t*h).natAbs+V:=by subst ht;have e1:t.natAbs*h.natAbs=(t*h).natAbs:=(PN t h).symm;have e2:t.natAbs*X<=t.natAbs*h.natAbs:=Q8 _ hh;have e3:=RG (v+t*h) v;rw[Int.add_comm v,Int.add_sub_cancel,Int.add_comm _ v]at e3;rw[e1]at e2;exact PX e2 (PX e3 (Nat.add_le_add_left hv _))
theorem BN{B n:Nat}{t:Int}(hn:0<n)(hB:1<=B)(ht:B*n<=t.natAbs)(z:Int):∀os:List Int,(∀x∈os,x.natAbs<=(B-1)*z.natAbs)->z.natAbs*n^(os.length+1)<=(hv t n (os++[z])).natAbs
 | [],_=>by show z.natAbs*n^1<=(z*(n:Int)^1+t*0).natAbs;rw[Qd,Qy,PN,RZ,Qq];exact PF _
 |v::os,h=>by
  have ih:=BN hn hB ht z os (λx hx=>h x (PP _ hx));have hvv:=h v (PU ..);rw[List.cons_append,dP]
  have e1:(v*(n:Int)^((os++[z]).length+1)).natAbs<=(B-1)*z.natAbs*n^(os.length+2):=by
   rw[PN,RZ,Qq];have:(os++[z]).length+1=os.length+2:=by simp
   rw[this];exact QD _ hvv
  have e2:=Ho (t:=t) rfl ih e1;have e3:B*n*(z.natAbs*n^(os.length+1))<=t.natAbs*(z.natAbs*n^(os.length+1)):=QD _ ht;have e4:(v::os).length+1=os.length+2:=by simp
  rw[e4];have e5:n^(os.length+2)=n*n^(os.length+1):=by rw[Rb,Q3]
  rw[e5]at e2 ⊢;generalize n^(os.length+1)=p at *
  generalize (v*(n:Int)^((os++[z]).length+1)+t*hv t n (os++[z])).natAbs=W at *
  obtain⟨C,rfl⟩:∃C,B=C+1:=⟨B-1,by omega⟩
  have e6:(C+1)*n*(z.natAbs*p)=C*z.natAbs*(n*p)+z.natAbs*(n*p):=by grind
  have e7:C+1-1=C:=rfl;rw[e7]at e2;omega
theorem ug{t n x y:Int}:∀(a b c:List Int),a.length=c.length->b.length=c.length->(∀k,cf c k=x*cf a k+y*cf b k)->hv t n c=x*hv t n a+y*hv t n b
 | [],[],[],_,_,_=>by simp[oX]
 |u::a,v::b,w::c,ha,hb,h=>by
  have h0:w=x*u+y*v:=h 0;have ih:=ug (t:=t) (n:=n) (x:=x) (y:=y) a b c (by simpa using ha) (by simpa using hb) (λk=>h (k+1));have la:a.length=c.length:=by simpa using ha
  have lb:b.length=c.length:=by simpa using hb
  rw[dP,dP,dP,ih,h0,la,lb];generalize n^(c.length+1)=p;grind
 | [],_::_,[],_,h,_=>by simp at h
 |_::_,_,[],h,_,_=>by simp at h
 | [],_,_::_,h,_,_=>by simp at h
 |_::_,[],_::_,_,h,_=>by simp at h
theorem AA(t n g:Int)(l:List Int):hv t n (scL g l)=g*hv t n l:=by have:=ug (t:=t) (n:=n) (x:=g) (y:=0) l l (scL g l) (by rw[cv]) (by rw[cv]) (λk=>by rw[bQ];simp);rw[this];simp
theorem Aw(t n:Int):∀(k:Nat) (l:List Int),hv t n (l++List.replicate k 0)=n^k*hv t n l
 |k,[]=>by
  rw[List.nil_append,oX,Qd]
  induction k with
  |zero=>rfl
  |succ k ih=>rw[Rl,dP,ih];simp
 |k,v::l=>by
  rw[List.cons_append,dP,Aw t n k l,dP];have:(l++List.replicate k (0:Int)).length+1=l.length+1+k:=by simp;omega
  rw[this,RH];generalize n^(l.length+1)=p;generalize n^k=q;grind
theorem Lg(l:List Int)(k j:Nat):cf (l++List.replicate k 0) j=cf l j:=by
 by_cases h:j<l.length
 ·rw[BL h]
 ·rw[mM (by omega),mL,cC (by omega)]
theorem oY(t n:Int){b:List Int}(hb:b≠[]):∀{a:List Int},a≠[]->n*hv t n (af a b)=hv t n a*hv t n b
 | [x],_=>by
  have e:af [x] b=scL x b:=by
   apply dU
   ·rw[bV (by simp) hb,cv];simp
   ·intro k _;rw[aL,f9,bQ]
  rw[e,AA,mC];grind
 |x::y::a,_=>by
  have ih:=oY t n hb (a:=y::a) (by simp);have lm:(af (x::y::a) b).length=(y::a).length+b.length:=by rw[bV (by simp) hb,Qw];omega
  have lm2:(af (y::a) b).length+1=(y::a).length+b.length:=by rw[bV (by simp) hb];have:=PL.mpr hb;rw[Qw];omega
  have e:=ug (t:=t) (n:=n) (x:=x) (y:=1) (b++List.replicate (y::a).length 0) (0::af (y::a) b) (af (x::y::a) b) (by rw[lm,Qi,Sk];omega) (by rw[lm,Qw,lm2])
   (λk=>by rw[aL,eu,Lg,pe];rw[PY];congr 1;unfold up;split<;>first |rfl |rw[aL])
  rw[e,Aw,dP (v:=0),dP (v:=x)];have:n*(x*(n^(y::a).length*hv t n b)+1*(0*n^((af (y::a) b).length+1)+t*hv t n (af (y::a) b)))=x*(n^(y::a).length*n)*hv t n b+t*(n*hv t n (af (y::a) b)):=by grind
  rw[this,ih,<- Ql];grind
noncomputable def pr(t n:Int):List (List Int)->Int
 | []=>1
 |s::ss=>hv t n s*pr t n ss
noncomputable def sl:List (List Int)->Nat
 | []=>0
 |s::ss=>s.length+sl ss
theorem j7{a b:List Int}(ha:a≠[])(hb:b≠[]):af a b≠[]:=λz=>by have:=bV ha hb;rw[z]at this;have h1:=PL.mpr ha;have h2:=PL.mpr hb;rw[Sf]at this;omega
noncomputable def aQ(acc:List Int)(ss:List (List Int)):List Int:=ss.foldl af acc
theorem jX:∀(ss:List (List Int)) (acc:List Int),acc≠[]->Tr acc->(∀s∈ss,s≠[]/\Tr s)->aQ acc ss≠[]/\Tr (aQ acc ss)/\(aQ acc ss).length+ss.length=acc.length+sl ss
 | [],acc,h1,h2,_=>⟨h1,h2,by simp[aQ,sl]⟩
 |s::ss,acc,h1,h2,h3=>by have hs:=h3 s (PU ..);obtain⟨a,b,c⟩:=jX ss (af acc s) (j7 h1 hs.1) (nj h2 hs.2) (λx hx=>h3 x (PP _ hx));refine⟨a,b,?_⟩;have l:=bV h1 hs.1;have p1:=PL.mpr h1;have p2:=PL.mpr hs.1;show(aQ (af acc s) ss).length+(ss.length+1)=acc.length+(s.length+sl ss);omega
theorem oW(t n:Int):∀(ss:List (List Int)) (acc:List Int),acc≠[]->(∀s∈ss,s≠[])->n^ss.length*hv t n (aQ acc ss)=hv t n acc*pr t n ss
 | [],acc,_,_=>by show n^0*hv t n acc=hv t n acc*1;simp
 |s::ss,acc,h1,h3=>by have hs:=h3 s (PU ..);have ih:=oW t n ss (af acc s) (j7 h1 hs) (λx hx=>h3 x (PP _ hx));have e:=oY t n hs h1;show n^(ss.length+1)*hv t n (aQ (af acc s) ss)=hv t n acc*(hv t n s*pr t n ss);rw[Ql,P9 _ n,P4,ih,<- P4,e,P4]
theorem Ko{c:Int}{ss:List (List Int)}{B n:Nat}{t:Int}(hc:c≠0)(hs:∀s∈ss,s≠[]/\Tr s)(hB:1<=B)
 (hb:∀x∈(af [c] (aQ [1] ss)).take ((af [c] (aQ [1] ss)).length-1),x.natAbs<=(B-1)*(ao (af [c] (aQ [1] ss))).natAbs) (hn:0<n) (ht:B*n<=t.natAbs):n^sl ss<=(pr t n ss).natAbs:=by
 obtain⟨p1,p2,p3⟩:=jX ss [1] (by simp) (by intro k hk;have:k=0:=by simpa using hk.symm
                                           subst this;decide) hs
 have hm:=oW t n ss [1] (by simp) (λs h=>(hs s h).1);generalize aQ [1] ss=Pr at *
 have hne:af [c] Pr≠[]:=j7 (by simp) p1;have hl:=tR (a:=[c]) (b:=Pr) (by simp) p1;have hlen:=bV (a:=[c]) (b:=Pr) (by simp) p1;have hv1:=oY t n p1 (a:=[c]) (by simp);obtain⟨os,z,e⟩:=(cZ (af [c] Pr)).resolve_left hne;rw[e]at hb hl hv1 hlen;rw[dM]at hb hl;have ht2:(os++[z]).take ((os++[z]).length-1)=os:=by simp
 rw[ht2]at hb;have hcau:=BN hn hB ht z os hb;have hlp:ao Pr≠0:=Ab p2 p1;have hz:z=c*ao Pr:=hl;rw[mC]at hv1;have hn0:(n:Int)≠0:=by omega
 have e2:hv t n (os++[z])=c*hv t n Pr:=by refine RI hn0 ?_;rw[hv1];grind
 rw[e2,hz,PN,PN,Nat.mul_assoc]at hcau;have hc1:0<c.natAbs:=Rq.mpr hc;have h4:=Sx hcau hc1;have h5:1*n^(os.length+1)<=(ao Pr).natAbs*n^(os.length+1):=QD _ (Rq.mpr hlp);have h6:os.length+1=Pr.length:=by simp at hlen;omega
 rw[h6]at h4 h5;have h7:n^Pr.length<=(hv t n Pr).natAbs:=by omega
 have h8:(n^ss.length*n^Pr.length)<=n*(pr t n ss).natAbs:=by
  have h9:=Q8 (n^ss.length) h7
  have h10:n^ss.length*(hv t n Pr).natAbs=n*(pr t n ss).natAbs:=by have:=congrArg Int.natAbs hm;rw[PN,RZ,Qq,mC,PY,PN,Qq]at this;exact this
  omega
 rw[<- Nat.pow_add]at h8;have h11:ss.length+Pr.length=sl ss+1:=by simp at p3;omega
 rw[h11,Rb,Q3]at h8;exact Sx h8 hn
theorem nq{r:List Int}(h:Tr r):cP [] r=scL (-1) r:=by
 refine mE (fX _) (kO (by decide) h) λk=>?_
 unfold cP;rw[gO,ip,bQ,cG];omega
theorem KQ{a b:List Int}(hb:b≠[])(hbt:Tr b):0<cw a b:=by
 have h:=mG (a:=a) hb hbt
 have h2:0<=cw a b:=by
  unfold cw;generalize bh a b=n
  induction n with
  |zero=>rw[QO];decide
  |succ n ih=>rw[Ql];exact P5 ih (Sg _)
 omega
theorem yw{n:Nat}{one:List Int}(h:one≠[])(hn:0<n):bT n one []=[one]:=by obtain⟨m,rfl⟩:∃m,n=m+1:=⟨n-1,by omega⟩;show(if one=[]then[]else one::bT m [] (nxt one []))=_;rw[if_neg h,lv]
noncomputable def Ends:Nat->List Int->List Int->Prop
 |0,one,_=>one=[]
 |n+1,one,other=>one=[]\/Ends n other (nxt one other)
noncomputable def gr(B:Nat):Nat->Nat
 |0=>B
 |1=>2*B
 |k+2=>2*gr B (k+1)+gr B k
theorem JV(B:Nat):∀k,gr B k<=gr B (k+1)
 |0=>by show B<=2*B;omega
 |k+1=>by show gr B (k+1)<=2*gr B (k+1)+gr B k;omega
theorem ge(B:Nat){j k:Nat}(h:j<=k):gr B j<=gr B k:=by
 induction h with
 |refl=>exact PF _
 |step _ ih=>exact PX ih (JV B _)
theorem uh(B j:Nat):∀d,gr B j+(d+2)*gr B (j+1)<=gr B (j+2+d)
 |0=>by show gr B j+2*gr B (j+1)<=2*gr B (j+1)+gr B j;omega
 |d+1=>by
  have ih:=uh B j d
  have e:gr B (j+2+(d+1))=2*gr B (j+2+d)+gr B (j+1+d):=by
   have:j+2+(d+1)=(j+1+d)+2:=by omega
   rw[this];show 2*gr B (j+1+d+1)+gr B (j+1+d)=_;have e2:j+1+d+1=j+2+d:=by omega
   rw[e2]
  have hm:gr B (j+1)<=gr B (j+1+d):=ge B (by omega);rw[e,Nat.add_mul]at *;have e3:(d+1)*gr B (j+1)=d*gr B (j+1)+gr B (j+1):=by rw[Nat.add_mul,Nat.one_mul]
  omega
theorem gD(a:List Int):af [] a=[]:=by unfold af;rw[if_pos (.inl rfl)]
theorem ib(a:List Int):af a []=[]:=by unfold af;rw[if_pos (.inr rfl)]
theorem lZ(a b:List Int):af a b=af b a:=by
 by_cases ha:a=[]
 ·rw[ha,gD,ib]
 by_cases hb:b=[]
 ·rw[hb,gD,ib]
 refine dU ?_ λk _=>?_
 ·rw[bV ha hb,bV hb ha];omega
 ·rw[aL,aL,gC]
theorem j6{a b:List Int}(ha:a≠[])(hb:b≠[]):af a b≠[]:=λz=>by have:=bV ha hb;rw[z,Sf]at this;have:=PL.mpr ha;have:=PL.mpr hb;omega
theorem ic(a b c:List Int):af (af a b) c=af a (af b c):=by
 by_cases ha:a=[]
 ·rw[ha,gD,gD,gD]
 by_cases hb:b=[]
 ·rw[hb,gD,ib,gD]
 by_cases hc:c=[]
 ·rw[hc,ib,ib,ib]
 have h1:=j6 ha hb;have h2:=j6 hb hc;refine dU ?_ λk _=>?_
 ·have:=PL.mpr hb;rw[bV h1 hc,bV ha h2,bV ha hb,bV hb hc];obtain⟨y,ey⟩:=Nat.exists_eq_succ_of_ne_zero (Nat.ne_of_gt this);rw[ey,Nat.succ_add,Nat.add_succ,Nat.succ_sub_one,Nat.succ_sub_one,Nat.add_assoc]
 ·rw[aL,aL,j5]
instance:Std.Commutative af:=⟨lZ⟩
instance:Std.Associative af:=⟨ic⟩
theorem ma(a:List Int):af [1] a=a:=by
 by_cases ha:a=[]
 ·rw[ha,ib]
 refine dU ?_ λk _=>?_
 ·rw[bV (by simp) ha];simp
 ·rw[aL,f9];omega
theorem cX(a:List Int):af a [1]=a:=by rw[lZ,ma]
theorem pln_one:Pln [1]:=⟨tr_snoc (r:=[]).mpr (by decide),by simp,by decide,by decide⟩
theorem yW{a:List Int}(h:Pln a):1<=a.length:=PL.mpr h.ne
def Sim(a b:List Int):Prop:=∃x y:Int,x≠0/\y≠0/\∀n,x*cf a n=y*cf b n
theorem Sim.refl(a:List Int):Sim a a:=⟨1,1,by decide,by decide,λ_=>rfl⟩
theorem Sim.dv{a b d:List Int}(h:Sim a b)(hd:Dv d b):Dv d a:=by obtain⟨x,y,hx,hy,e⟩:=h;exact Dv.prop_right hx e hd
theorem Sim.symm{a b:List Int}(h:Sim a b):Sim b a:=by obtain⟨x,y,hx,hy,e⟩:=h;exact⟨y,x,hy,hx,λn=>(e n).symm⟩
theorem Dv.cancel{d a b:List Int}(hd:d≠[])(ht:Tr d)(h:Dv (af d a) (af d b)):Dv a b:=by
 obtain⟨c,q,hc,e⟩:=h
 have key:∀k,cf (eG (-1) (scL c b) (af q a)) k=0:=by
  refine zw hd ht λn _=>?_
  rw[fh (a:=b) (b:=af q a) (x:=c) (y := -1) (λk=>by rw[ip,bQ])]
  have e1:aB (af q a) d n=aB q (af d a) n:=by
   rw[<- aL,<- aL]
   congr 1
   rw[ic,lZ a d]
  have e2:=e n;rw[aL,gC]at e2;rw[e1,<- e2];omega
 refine⟨c,q,hc,λn=>?_⟩;have:=key n;rw[ip,bQ,aL]at this;omega
theorem Fi{d a b:List Int}(hd:Pln d)(ha:Pln a)(hb:Pln b)(h:af d a=af d b):a=b :=
 sP ha hb (Dv.cancel hd.ne hd.tr (h ▸ Dv.refl _)) (Dv.cancel hd.ne hd.tr (h ▸ Dv.refl _))
noncomputable def prd(ss:List (List Int)):List Int:=ss.foldr af [1]
theorem AO:∀(ss:List (List Int)) (acc:List Int),ss.foldl af acc=af acc (prd ss)
 | [],acc=>(cX acc).symm
 |s::ss,acc=>by show ss.foldl af (af acc s)=af acc (af s (prd ss));rw[AO ss,ic]
theorem iI:∀(ss:List (List Int)),(∀s∈ss,Pln s)->Pln (prd ss)
 | [],_=>pln_one
 |s::ss,h=>(h s (PU ..)).mul (iI ss λx hx=>h x (PP _ hx))
structure Pri(s:List Int):Prop where
 pln:Pln s
 two:2<=s.length
 or:∀a b,Dv s (af a b)->Dv s a\/Dv s b
theorem Pri.not_one{s:List Int}(h:Pri s):¬Dv s [1]:=λz=>by have:=Dv.short h.pln.ne h.pln.tr pln_one.tr (by have:=h.two;show 1<s.length;omega) z;exact absurd this (by simp)
theorem Pri.prd{s:List Int}(h:Pri s):∀ss:List (List Int),Dv s (prd ss)->∃t∈ss,Dv s t
 | [],hd=>absurd hd h.not_one
 |t::ss,hd=>by
  rcases h.or t (RM.prd ss) hd with z |z
  ·exact⟨t,PU ..,z⟩
  ·obtain⟨t',ht,z'⟩:=Pri.prd h ss z;exact⟨t',PP _ ht,z'⟩
theorem Pri.same{s t:List Int}(hs:Pri s)(ht:Pri t)(h:Dv s t):s=t:=by
 obtain⟨q,hq,e⟩:=h.fellow hs.pln ht.pln.tr ht.pln.ne;rw[ht.pln.plain]at e;have l:=bV hq.ne hs.pln.ne;rw[e]at l;have:=hs.two;have:=yW hq;rcases ht.or q s (e ▸ Dv.refl _)with z |z
 ·exact absurd (Dv.short ht.pln.ne ht.pln.tr hq.tr (by omega) z) hq.ne
 ·exact sP hs.pln ht.pln h z
theorem o8:∀(ps:List (List Int)) {E:List Int},(∀p∈ps,Pri p)->Pln E->Dv E (prd ps)->E=[1]\/∃p∈ps,Dv p E
 | [],E,_,hE,h=>by
  refine .inl (hE.const ?_);have:=yW hE;refine Classical.byContradiction λz=>?_
  have:=Dv.short hE.ne hE.tr pln_one.tr (by show 1<E.length;omega) h;exact absurd this (by simp)
 |p::ps,E,hp,hE,h=>by
  obtain⟨c,q,hc,e⟩:=h;have P:=hp p (PU ..)
  have d1:Dv p (af q E):=Dv.prop_right (x:=1) (y:=c) (by decide) (λn=>by
   show 1*cf (af q E) n=c*cf (RM.prd (p::ps)) n
   rw[e,aL];omega) (Dv.mul_left p (prd ps))
  rcases P.or q E d1 with z |z
  ·obtain⟨c',q',hc',e'⟩:=z
   have d2:Dv (af p E) (af p (prd ps)):=by
    refine⟨c*c',q',Qe hc hc',λn=>?_⟩;have e1:=e n;rw[show af p (prd ps)=RM.prd (p::ps)from rfl]
    have e2:aB (af q' p) E n=c'*aB q E n:=by have:=fh (a:=q) (b:=[]) (x:=c') (y:=0) (c:=af q' p) (q:=E) (n:=n) (λk=>by rw[aL,<- e'];simp);rw[this];simp
    rw[<- j5,e2,<- e1,P9 c c',P4]
   rcases o8 ps (λx hx=>hp x (PP _ hx)) hE (Dv.cancel P.pln.ne P.pln.tr d2)with w |⟨t,ht,w⟩
   ·exact .inl w
   ·exact .inr ⟨t,PP _ ht,w⟩
  ·exact .inr ⟨p,PU ..,z⟩
theorem La{A B C D L M:List Int}{ps:List (List Int)}(hC:Pln C)(cA:Dv C A)(cB:Dv C B)(call:∀d,Dv d A->Dv d B->Dv d C)(hD:Pln D)(sA:Sim A (af D L))(sB:Sim B (af D M))(hps:∀p∈ps,Pri p)(hL:L=prd ps)(hM:∀p∈ps,¬Dv p M):C=D:=by
 have dC:Dv D C:=call D (sA.dv (Dv.mul_left _ _)) (sB.dv (Dv.mul_left _ _));obtain⟨E,hE,e⟩:=dC.fellow hD hC.tr hC.ne;rw[hC.plain,lZ]at e;have EL:Dv E L:=Dv.cancel hD.ne hD.tr (by rw[e];exact sA.symm.dv cA);have EM:Dv E M:=Dv.cancel hD.ne hD.tr (by rw[e];exact sB.symm.dv cB);rw[hL]at EL;rcases o8 ps hps hE EL with z |⟨p,hp,z⟩
 ·rw[<- e,z,cX]
 ·exact absurd (z.trans EM) (hM p hp)
theorem y4{A D L:List Int}(hA:Tr A)(hAn:A≠[])(hD:Pln D)(hL:Pln L)(e:aw A=af D L):aO A D=[]/\aw (ck A D)=L:=by
 have dv:Dv D A:=(Dv.plain hA).mp (by rw[e];exact Dv.mul_left _ _);have hr:=dv.rest hD.ne hD.tr;refine⟨hr,?_⟩;have eq:=λn=>ik (a:=A) hD.ne n
 have m:=yX (mG (a:=A) hD.ne hD.tr) hA hAn (uO hD.ne hA hD.tr) hD (λn=>by rw[eq n,hr,cG];omega)
 have hq:ck A D≠[]:=λz=>by rw[z]at m;have:aw []=[]:=rfl;rw[this,gD,e]at m;exact j6 hD.ne hL.ne m.symm
 have pq:=fG (uO hD.ne hA hD.tr) hq;refine Fi hD pq hL ?_;rw[lZ,m,e]
theorem fu(l:List Int)(n:Nat):cf (slopeL l) n=((n:Int)+1)*cf l (n+1):=by
 unfold slopeL;rw[kq];by_cases h:n<l.length-1
 ·rw[if_pos h]
 ·rw[if_neg h,cC (l:=l) (by omega),Qd]
theorem x5(x:Int)(a:List Int)(n:Nat):cf (slopeL (x::a)) n=1*cf a n+1*cf (0::slopeL a) n:=by
 rw[fu,pd,pe];cases n with
 |zero=>show(((0:Nat):Int)+1)*cf a 0=1*cf a 0+1*0;omega
 |succ n =>
  show(((n+1:Nat):Int)+1)*cf a (n+1)=1*cf a (n+1)+1*cf (slopeL a) n;rw[fu];have:((n+1:Nat):Int)=(n:Int)+1:=by omega
  rw[this,Int.add_mul];omega
theorem qi:∀(a b:List Int) (n:Nat),cf (slopeL (af a b)) n=aB (slopeL a) b n+aB a (slopeL b) n
 | [],b,n=>by rw[gD];show cf (slopeL []) n=aB (slopeL []) b n+aB [] (slopeL b) n;have:slopeL []=[]:=rfl;rw[this,cG,fg,fg];omega
 |x::a,b,n=>by
  rw[fu,aL,eu,fh (q:=b) (x5 x a),zx,eu,fu];show((n:Int)+1)*(x*cf b (n+1)+aB a b n)=_;cases n with
  |zero =>show(((0:Nat):Int)+1)*(x*cf b 1+aB a b 0)=1*aB a b 0+1*0+(x*((((0:Nat):Int)+1)*cf b 1)+0);simp;omega
  |succ n =>
   have ih:=qi a b n;rw[fu,aL]at ih;show(((n+1:Nat):Int)+1)*(x*cf b (n+1+1)+aB a b (n+1))=1*aB a b (n+1)+1*aB (slopeL a) b n+(x*((((n+1:Nat):Int)+1)*cf b (n+1+1))+aB a (slopeL b) n);have:((n+1:Nat):Int)=(n:Int)+1:=by omega
   rw[this];generalize aB a b (n+1)=z at *
   generalize aB (slopeL a) b n=z1 at *
   generalize aB a (slopeL b) n=z2 at *
   generalize cf b (n+1+1)=z3 at *
   generalize (n:Int)=m at *
   grind
noncomputable def pw(s:List Int):Nat->List Int
 |0=>[1]
 |n+1=>af s (pw s n)
theorem gv(s:List Int):pw s 1=s:=cX s
theorem yM(s:List Int):∀a b,af (pw s a) (pw s b)=pw s (a+b)
 |0,b=>by rw[Nat.zero_add];exact ma _
 |a+1,b=>by rw[show a+1+b=a+b+1 by omega];show af (af s (pw s a)) (pw s b)=af s (pw s (a+b));rw[ic,yM s a b]
theorem yL{s:List Int}(h:Pln s):∀n,Pln (pw s n)
 |0=>pln_one
 |n+1=>h.mul (yL h n)
theorem xZ(s:List Int):∀(k n:Nat),cf (slopeL (pw s (k+1))) n=((k:Int)+1)*aB (slopeL s) (pw s k) n
 |0,n=>by rw[gv];show _=(((0:Nat):Int)+1)*aB (slopeL s) [1] n;rw[gC,f9];omega
 |k+1,n=>by
  show cf (slopeL (af s (pw s (k+1)))) n=_;rw[qi];have e:aB s (slopeL (pw s (k+1))) n=((k:Int)+1)*aB s (af (slopeL s) (pw s k)) n:=lY λj=>by rw[xZ s k j,aL]
  have e2:aB s (af (slopeL s) (pw s k)) n=aB (slopeL s) (pw s (k+1)) n:=by
   show _=aB (slopeL s) (af s (pw s k)) n;rw[<- aL,<- aL]
   congr 1
   ac_rfl
  rw[e,e2];have:((k+1:Nat):Int)=(k:Int)+1:=by omega
  rw[this,Int.add_mul ((k:Int)+1) 1];omega
noncomputable def fP(g:Nat->Nat)(us:List (List Int×Nat)):List Int:=us.foldr (λp acc=>af (pw p.1 (g p.2)) acc) [1]
theorem fS(g:Nat->Nat)(p:List Int×Nat)(us:List (List Int×Nat)):fP g (p::us)=af (pw p.1 (g p.2)) (fP g us):=rfl
theorem uK(g h:Nat->Nat):∀us,af (fP g us) (fP h us)=fP (λm=>g m+h m) us
 | []=>ma _
 |p::us=>by
  rw[fS,fS,fS,<- uK g h us,<- yM]
  ac_rfl
theorem kn{g h:Nat->Nat}:∀us:List (List Int×Nat),(∀p∈us,g p.2=h p.2)->fP g us=fP h us
 | [],_=>rfl
 |p::us,H=>by rw[fS,fS,H p (PU ..),kn us λx hx=>H x (PP _ hx)]
theorem A9{g:Nat->Nat}:∀us:List (List Int×Nat),(∀p∈us,Pri p.1)->Pln (fP g us)
 | [],_=>pln_one
 |p::us,h=>(yL (h p (PU ..)).pln _).mul (A9 us λx hx=>h x (PP _ hx))
theorem A8(c:Nat->Bool):∀us:List (List Int×Nat),fP (λm=>if c m then 1 else 0) us=prd ((us.filter λp=>c p.2).map (·.1))
 | []=>rfl
 |p::us=>by
  rw[fS,A8 c us,List.filter_cons];cases h:c p.2 with
  |true =>simp only[if_true,QG];rw[gv];rfl
  |false =>simp only[Bool.false_eq_true,if_false];exact ma _
theorem Ba{g:Nat->Nat}:∀(us:List (List Int×Nat)) {p:List Int×Nat},p∈us->0<g p.2->Dv p.1 (fP g us)
 |q::us,p,hp,h0=>by
  rw[fS];rcases PM.mp hp with rfl |hp
  ·obtain⟨k,hk⟩:∃k,g p.2=k+1:=⟨g p.2-1,by omega⟩;rw[hk];show Dv p.1 (af (af p.1 (pw p.1 k)) _);rw[ic];exact Dv.mul_left _ _
  ·exact(Ba us hp h0).trans (Dv.mul_right _ _)
theorem Pri.pw{s t:List Int}(h:Pri s):∀n,Dv s (pw t n)->0<n/\Dv s t
 |0,hd=>absurd hd h.not_one
 |n+1,hd=>by
  refine⟨by omega,?_⟩;rcases h.or t (RM.pw t n) hd with z |z
  ·exact z
  ·exact(Pri.pw h n z).2
theorem Pri.fP{s:List Int}(h:Pri s){g:Nat->Nat}:∀us:List (List Int×Nat),Dv s (fP g us)->∃p∈us,0<g p.2/\Dv s p.1
 | [],hd=>absurd hd h.not_one
 |p::us,hd=>by
  rcases h.or (RM.pw p.1 (g p.2)) (RM.fP g us) hd with z |z
  ·exact⟨p,PU ..,(h.pw _ z)⟩
  ·obtain⟨q,hq,z'⟩:=Pri.fP h us z;exact⟨q,PP _ hq,z'⟩
structure Use(us:List (List Int×Nat)):Prop where
 pri:∀p∈us,Pri p.1
 pos:∀p∈us,1<=p.2
 nd:(us.map (·.1)).Nodup
theorem Use.tail{p:List Int×Nat}{us:List (List Int×Nat)}(h:Use (p::us)):Use us :=
 ⟨λx hx=>h.pri x (PP _ hx),λx hx=>h.pos x (PP _ hx),(Q2.mp h.nd).2⟩
theorem Use.head{p q:List Int×Nat}{us:List (List Int×Nat)}(h:Use (p::us))(hq:q∈us):p.1≠q.1:=λz =>(Q2.mp h.nd).1 (PV.mpr ⟨q,hq,z.symm⟩)
theorem gH(l:List Int):(slopeL l).length=l.length-1:=by unfold slopeL;simp
theorem iA{l:List Int}(h:Tr l):Tr (slopeL l):=λn hn=>by rw[gH]at hn;rw[fu];exact Qe (by omega) (h (n+1) (by omega))
theorem x4:∀us:List (List Int×Nat),Use us->∃M,(∀n,cf (slopeL (fP id us)) n=aB (fP (·-1) us) M n)/\∀q∈us,¬Dv q.1 M
 | [],_=>⟨[],λn=>by
  show cf (slopeL [1]) n=aB [1] [] n
  rw[tx];exact cG n,λ_ h=>nomatch h⟩
 |p::us,h=>by
  obtain⟨M',e',h'⟩:=x4 us h.tail;obtain⟨s,m⟩:=p;have P:Pri s:=h.pri _ (PU ..);obtain⟨k,hk⟩:∃k,m=k+1:=⟨m-1,by have:=h.pos _ (PU ..);simp at this;omega⟩;subst hk
  have eF:fP id us=af (fP (·-1) us) (fP (λ_=>1) us):=by rw[uK];exact kn us λp hp=>by have:=h.tail.pos p hp;show p.2=p.2-1+1;omega
  have hX:∀n,cf (eG 1 (af (scL ((k:Int)+1) (slopeL s)) (fP (λ_=>1) us)) (af s M')) n=1*cf (af (scL ((k:Int)+1) (slopeL s)) (fP (λ_=>1) us)) n+1*cf (af s M') n:=λn=>by rw[ip];omega
  refine⟨eG 1 (af (scL ((k:Int)+1) (slopeL s)) (fP (λ_=>1) us)) (af s M'),λn=>?_,λq hq hd=>?_⟩
  ·rw[fS,fS];show cf (slopeL (af (pw s (k+1)) (fP id us))) n=aB (af (pw s k) (fP (·-1) us)) _ n;rw[qi,zy hX]
   have a1:aB (slopeL (pw s (k+1))) (fP id us) n=aB (af (pw s k) (fP (·-1) us)) (af (scL ((k:Int)+1) (slopeL s)) (fP (λ_=>1) us)) n:=by
    rw[eF]
    have:aB (slopeL (pw s (k+1))) (af (fP (·-1) us) (fP (λ_=>1) us)) n=aB (af (scL ((k:Int)+1) (slopeL s)) (pw s k)) (af (fP (·-1) us) (fP (λ_=>1) us)) n:=by
     refine oz (λj=>?_) λ_=>rfl
     rw[xZ,aL];have:=fh (a:=slopeL s) (b:=[]) (x:=(k:Int)+1) (y:=0) (c:=scL ((k:Int)+1) (slopeL s)) (q:=pw s k) (n:=j) (λi=>by rw[bQ];simp);rw[this];simp
    rw[this,<- aL,<- aL]
    congr 1
    ac_rfl
   have a2:aB (pw s (k+1)) (slopeL (fP id us)) n=aB (af (pw s k) (fP (·-1) us)) (af s M') n:=by
    rw[oz (a':=pw s (k+1)) (b':=af (fP (·-1) us) M') (λ_=>rfl) (λj=>by rw[e',aL])];show aB (af s (pw s k)) _ n=_;rw[<- aL,<- aL]
    congr 1
    ac_rfl
   rw[a1,a2];omega
  ·have hX':∀n,1*cf (eG 1 (af (scL ((k:Int)+1) (slopeL s)) (fP (λ_=>1) us)) (af s M')) n=aB M' s n+cf (af (scL ((k:Int)+1) (slopeL s)) (fP (λ_=>1) us)) n:=λn=>by rw[hX,aL s,gC s];omega
   rcases PM.mp hq with rfl |hq
   ·have d1:=Dv.down hX' hd (Dv.refl _);rcases P.or _ _ d1 with z |z
    ·have t:Tr (scL ((k:Int)+1) (slopeL s)):=kO (by omega) (iA P.pln.tr);have l:(scL ((k:Int)+1) (slopeL s)).length=s.length-1:=by rw[cv,gH]
     have:=P.two;have n:=Dv.short P.pln.ne P.pln.tr t (by omega) z;rw[n]at l;simp at l
     omega
    ·obtain⟨q',hq',_,w⟩:=P.fP us z;exact h.head hq' (P.same (h.tail.pri q' hq') w)
   ·have Q:=h.tail.pri q hq;have d0:Dv q.1 (af (scL ((k:Int)+1) (slopeL s)) (fP (λ_=>1) us)):=(Ba us hq (g:=λ_=>1) (by decide)).trans (Dv.mul_right _ _);have d1:Dv q.1 (af s M'):=Dv.down (f:=1) (q:=[1]) (λn=>by rw[hX,f9];omega) hd d0;rcases Q.or _ _ d1 with z |z
    ·exact h.head hq (Q.same P z).symm
    ·exact h' q hq z
theorem ED{s a b:List Int}(hs:s≠[])(h:Dv s (af a b)):Dv s (af (aO a s) (aO b s)):=by
 have e1:=λn=>ik (a:=a) hs n
 have e2:=λn=>ik (a:=b) hs n
 have d1:Dv s (af (aO a s) b):=by
  refine Dv.down (f:=cw a s) (q:=af (ck a s) b) (b:=s) (λn=>?_) h (Dv.refl _);rw[aL,aL];have l:=fh (a:=af (ck a s) s) (b:=aO a s) (x:=1) (y:=1) (c:=scL (cw a s) a) (q:=b) (n:=n) (λk=>by rw[bQ,e1,aL];omega);have l2:=fh (a:=a) (b:=[]) (x:=cw a s) (y:=0) (c:=scL (cw a s) a) (q:=b) (n:=n) (λk=>by rw[bQ];simp)
  have l3:aB (af (ck a s) s) b n=aB (af (ck a s) b) s n:=by
   rw[<- aL,<- aL]
   congr 1
   ac_rfl
  rw[l2,l3]at l;rw[fg]at l;omega
 refine Dv.down (f:=cw b s) (q:=af (aO a s) (ck b s)) (b:=s) (λn=>?_) d1 (Dv.refl _);rw[aL,aL];have l:=zy (a:=af (ck b s) s) (b:=aO b s) (x:=1) (y:=1) (c:=scL (cw b s) b) (q:=aO a s) (n:=n) (λk=>by rw[bQ,e2,aL];omega);have l2:=lY (a:=aO a s) (b:=b) (b':=scL (cw b s) b) (c:=cw b s) (n:=n) (λk=>by rw[bQ])
 have l3:aB (aO a s) (af (ck b s) s) n=aB (af (aO a s) (ck b s)) s n:=by
  rw[<- aL,<- aL]
  congr 1
  ac_rfl
 rw[l2,l3]at l;omega
theorem uL{s a:List Int}(hs:s≠[])(ht:Tr s)(h:aO a s=[]):Dv s a :=
 ⟨cw a s,ck a s,mG hs ht,λn=>by rw[ik hs,h,cG];omega⟩
noncomputable def aJ(u e b:Int):List Int:=if e=0 then[-u,b]else[u*u-e,-2*b*u,b*b]
theorem gm{u e b:Int}(hb:1<=b):Tr (aJ u e b)/\2<=(aJ u e b).length:=by
 unfold aJ;split
 ·exact⟨(tr_snoc (r:=[-u])).mpr (by omega),by show 2<=2;decide⟩
 ·exact⟨(tr_snoc (r:=[u*u-e,-2*b*u])).mpr (Qe (by omega) (by omega)),by show 2<=3;decide⟩
theorem zf{n e:Int}(hn:0<=n)(h1:n*n<e)(h2:e<(n+1)*(n+1)):∀(k:Nat) (x y:Int),x.toNat<=k->0<x->0<=y->e*(x*x)=y*y->False
 |0,x,y,hk,hx,_,_=>by omega
 |k+1,x,y,hk,hx,hy,h=>by
  have hxx:0<x*x:=PB hx hx
  have a1:n*x<y:=by
   refine Qm.mp λz=>?_
   have:=QX z z hy (R0 hy z);have:=Qv h1 hxx;have e1:n*x*(n*x)=n*n*(x*x):=by grind
   omega
  have a2:y<(n+1)*x:=by
   refine Qm.mp λz=>?_
   have z0:0<=(n+1)*x:=P5 (by omega) (by omega);have:=QX z z z0 hy;have:=Qv h2 hxx;have e1:(n+1)*x*((n+1)*x)=(n+1)*(n+1)*(x*x):=by grind
   omega
  have a3:(n+1)*x=n*x+x:=by rw[Int.add_mul];omega
  refine zf hn h1 h2 k (y-n*x) ((e*x-n*y).natAbs:Int) (by omega) (by omega) (by omega) ?_;rw[Int.natAbs_mul_self' (e*x-n*y)];grind
def NS(e:Int):Prop:=e<=0\/∃n:Int,0<=n/\n*n<e/\e<(n+1)*(n+1)
theorem NS.no{e x y:Int}(h:NS e)(he:e≠0)(hx:x≠0)(eq:x*x*e=y*y):False:=by
 rcases h with h |⟨n,hn,h1,h2⟩
 ·have hxx:0<x*x:=by
   rcases QE hx with z |z
   ·exact QY z z
   ·exact PB z z
  have:x*x*e<0:=RY hxx (by omega)
  have:0<=y*y:=by
   rcases Int.le_total 0 y with z |z
   ·exact P5 z z
   ·exact Se z z
  omega
 ·refine zf hn h1 h2 _ (x.natAbs:Int) (y.natAbs:Int) (PF _) (by omega) (by omega) ?_;rw[Int.natAbs_mul_self' x,Int.natAbs_mul_self' y,<- eq,P9]
theorem EQ{u e b:Int}(hb:1<=b)(he:NS e){p q:List Int}(h:Dv (aJ u e b) (af p q)):Dv (aJ u e b) p\/Dv (aJ u e b) q:=by
 obtain⟨tr,l2⟩:=gm (u:=u) (e:=e) hb;have hne:aJ u e b≠[]:=λz=>by rw[z]at l2;simp at l2
 by_cases hp:aO p (aJ u e b)=[]
 ·exact .inl (uL hne tr hp)
 by_cases hq:aO q (aJ u e b)=[]
 ·exact .inr (uL hne tr hq)
 exfalso;have d:=ED hne h;have t1:=gf p (aJ u e b);have t2:=gf q (aJ u e b);have n1:=gM (a:=p) hne;have n2:=gM (a:=q) hne;generalize aO p (aJ u e b)=r1 at *
 generalize aO q (aJ u e b)=r2 at *
 have lm:=bV hp hq;have p1:=PL.mpr hp;have p2:=PL.mpr hq;by_cases hs:(af r1 r2).length<(aJ u e b).length
 ·exact j6 hp hq (Dv.short hne tr (nj t1 t2) hs d)
 by_cases h0:e=0
 ·have:(aJ u e b).length=2:=by unfold aJ;rw[if_pos h0];rfl
  omega
 have er:aJ u e b=[u*u-e,-2*b*u,b*b]:=by unfold aJ;rw[if_neg h0]
 rw[er]at hs n1 n2 d hne tr;simp only[Qw,Sf]at hs n1 n2
 obtain⟨α,β,rfl⟩:∃α β,r1=[α,β]:=by
  match r1,(show r1.length=2 by omega)with
  | [α,β],_=>exact⟨α,β,rfl⟩
 obtain⟨γ,δ,rfl⟩:∃γ δ,r2=[γ,δ]:=by
  match r2,(show r2.length=2 by omega)with
  | [γ,δ],_=>exact⟨γ,δ,rfl⟩
 have hβ:β≠0:=(tr_snoc (r:=[α])).mp t1;have hδ:δ≠0:=(tr_snoc (r:=[γ])).mp t2
 have em:af [α,β] [γ,δ]=[α*γ,α*δ+β*γ,β*δ]:=by
  refine dU (by rw[lm];rfl) λk hk=>?_
  rw[lm]at hk;rw[aL];have hk':k<3:=hk;have:k=0\/k=1\/k=2:=by omega
  rcases this with rfl |rfl |rfl
  ·show(0+(α*γ))+0=α*γ;omega
  ·show(0+(α*δ))+(β*γ)=α*δ+β*γ;omega
  ·show(0+α*cf [γ,δ] 2)+(β*δ)=β*δ;have:cf [γ,δ] 2=0:=rfl;rw[this];simp
 rw[em]at d;have hr:=d.rest hne tr;have eqn:=λn=>ik (a:=[α*γ,α*δ+β*γ,β*δ]) hne n
 have hf:=mG (a:=[α*γ,α*δ+β*γ,β*δ]) hne tr;have lq:=uQ (a:=[α*γ,α*δ+β*γ,β*δ]) hne;generalize cw [α*γ,α*δ+β*γ,β*δ] [u*u-e,-2*b*u,b*b]=f at *
 generalize ck [α*γ,α*δ+β*γ,β*δ] [u*u-e,-2*b*u,b*b]=Q at *
 rw[hr]at eqn;have lq':Q.length=1:=lq;obtain⟨κ,rfl⟩:∃κ,Q=[κ]:=List.length_eq_one_iff.mp lq';have g0:=eqn 0;have g1:=eqn 1;have g2:=eqn 2;rw[f9,cG]at g0 g1 g2
 replace g0:f*(α*γ)=κ*(u*u-e)+0:=g0
 replace g1:f*(α*δ+β*γ)=κ*(-2*b*u)+0:=g1
 replace g2:f*(β*δ)=κ*(b*b)+0:=g2
 have hκ:κ≠0:=λz=>by rw[z,Qp]at g2;exact Qe hf (Qe hβ hδ) (by omega)
 refine he.no h0 (x:=2*κ*b) (y:=f*(α*δ-β*γ)) (Qe (Qe (by decide) hκ) (by omega)) ?_;have k1:f*(α*δ-β*γ)*(f*(α*δ-β*γ))=f*(α*δ+β*γ)*(f*(α*δ+β*γ))-4*((f*(α*γ))*(f*(β*δ))):=by grind
 rw[k1,g0,g1,g2];grind
theorem EO{u e b:Int}(hb:1<=b)(he:NS e):Pri (aw (aJ u e b)):=by
 obtain⟨tr,l2⟩:=gm (u:=u) (e:=e) hb;have hne:aJ u e b≠[]:=λz=>by rw[z]at l2;simp at l2
 obtain⟨g,hg,eg⟩:=jZ tr;have to:∀p,Dv (aw (aJ u e b)) p->Dv (aJ u e b) p:=λp h=>Dv.prop_left (x:=1) (y:=g) (by decide) hg (λn=>by rw[eg];omega) h
 have fr:∀p,Dv (aJ u e b) p->Dv (aw (aJ u e b)) p:=λp h=>Dv.prop_left (x:=g) (y:=1) hg (by decide) (λn=>by rw[<- eg];omega) h
 refine⟨fG tr hne,by rw[plain_len];exact l2,λp q h=>?_⟩;exact(EQ hb he (to _ h)).imp (fr _) (fr _)
noncomputable def com(xs ys:List Int):List Int:=cN 20 (aw xs) (aw ys)
structure ComOk(xs ys:List Int):Prop where
 pln:xs≠[]\/ys≠[]->Pln (com xs ys)
 left:Dv (com xs ys) xs
 right:Dv (com xs ys) ys
 all:∀d,Dv d xs->Dv d ys->Dv d (com xs ys)
theorem Bs{xs ys:List Int}(h2:ys.length<=19)(t1:Tr xs)(t2:Tr ys):ComOk xs ys:=by
 obtain⟨c1,c2,c3,c4,c5,c6⟩:=Bt 20 (aw xs) (aw ys) (by rw[plain_len];omega) (gW t1) (gW t2);refine⟨λh=>?_,(Dv.plain t1).mp c2,(Dv.plain t2).mp c3,λd a b=>c4 d ((Dv.plain t1).mpr a) ((Dv.plain t2).mpr b)⟩;have hne:com xs ys≠[]:=c5 (h.imp (λz q=>z (Re.mp (by rw[<- plain_len,q];rfl))) (λz q=>z (Re.mp (by rw[<- plain_len,q];rfl))))
 obtain⟨l,tl,el⟩:∃l,Tr l/\com xs ys=aw l:=by
  rcases c6 with e |e |e
  ·exact⟨xs,t1,e⟩
  ·exact⟨ys,t2,e⟩
  ·exact e
 have hl:l≠[]:=λz=>hne (by rw[el,z];rfl)
 rw[el];exact fG tl hl
theorem Lb{A B D L M:List Int}{ps:List (List Int)}(tA:Tr A)(nA:A≠[])(tB:Tr B)(lB:B.length<=19)(hD:Pln D)(sA:Sim A (af D L))(sB:Sim B (af D M))(hps:∀p∈ps,Pri p)(hL:L=prd ps)(hM:∀p∈ps,¬Dv p M):com A B=D :=
 have C:=Bs lB tA tB
 La (C.pln (.inl nA)) C.left C.right C.all hD sA sB hps hL hM
noncomputable def eq1(k m:Nat):Nat:=if m=k then 1 else 0
noncomputable def sX(_:Nat):Nat:=1
noncomputable def mor(us:List (List Int×Nat))(k:Nat):List Int:=fP (·-k) us
noncomputable def flt(us:List (List Int×Nat)):List Int:=fP sX us
variable {us:List (List Int×Nat)}
theorem AR:flt us=prd (us.map (·.1)):=by
 have:=A8 (λ_=>true) us;have e:us.filter (λp=>(λ_=>true) p.2)=us:=List.filter_eq_self.mpr λ_ _=>rfl
 rw[e]at this;rw[<- this];exact kn us λp _=>rfl
theorem jd(h:Use us)(g:Nat->Nat):Pln (fP g us):=A9 us h.pri
noncomputable def whl(c:Int)(us:List (List Int×Nat)):List Int:=af [c] (fP id us)
theorem fW(c:Int):whl c us=scL c (fP id us):=by
 unfold whl;by_cases h:fP id us=[]
 ·rw[h,ib];rfl
 refine dU ?_ λk _=>?_
 ·rw[bV (by simp) h,cv];simp
 ·rw[aL,f9,bQ]
theorem kL(h:Use us){c:Int}(hc:c≠0):Tr (whl c us)/\whl c us≠[]/\aw (whl c us)=fP id us:=by have pl:=jd h id;rw[fW];refine⟨kO hc pl.tr,λz=>pl.ne (Re.mp (by rw[<- cv c,z];rfl)),?_⟩;rw[g8 hc pl.tr,pl.plain]
theorem v7(h:Use us):af (mor us 1) (flt us)=fP id us:=by unfold mor flt;rw[uK];exact kn us λp hp=>by have:=h.pos p hp;show p.2-1+1=p.2;omega
theorem v6(h:Use us){c:Int}(hc:c≠0)(hl:(whl c us).length<=20):com (whl c us) (slopeL (whl c us))=mor us 1:=by
 obtain⟨t,n,p⟩:=kL h hc;obtain⟨M,eM,hM⟩:=x4 us h;refine Lb (L:=flt us) (M:=M) (ps:=us.map (·.1)) t n (iA t) (by rw[gH];omega) (jd h _) ⟨1,c,by decide,hc,λk=>?_⟩ ⟨1,c,by decide,hc,λk=>?_⟩ (λp hp=>?_) AR (λp hp=>?_)
 ·rw[v7 h,fW,bQ];omega
 ·rw[aL];have e:=eM k;rw[fu]at e;show 1*cf (slopeL (whl c us)) k=c*aB (fP (·-1) us) M k;rw[<- e,fu,fW,bQ];grind
 ·obtain⟨q,hq,rfl⟩:=PV.mp hp;exact h.pri q hq
 ·obtain⟨q,hq,rfl⟩:=PV.mp hp;exact hM q hq
theorem Co(h:Use us){c:Int}(hc:c≠0):aO (whl c us) (mor us 1)=[]/\aw (ck (whl c us) (mor us 1))=flt us:=by obtain⟨t,n,p⟩:=kL h hc;exact y4 t n (jd h _) (jd h _) (by rw[p,v7 h])
noncomputable def dgs(g:Nat->Nat):List (List Int×Nat)->Nat
 | []=>0
 |p::us=>g p.2*(p.1.length-1)+dgs g us
theorem Bn{g h:Nat->Nat}:∀us:List (List Int×Nat),(∀p∈us,g p.2<=h p.2)->dgs g us<=dgs h us
 | [],_=>PF _
 |p::us,H=>by
  have:=Bn us λx hx=>H x (PP _ hx)
  have:=QD (p.1.length-1) (H p (PU ..));show g p.2*_+dgs g us<=h p.2*_+dgs h us;omega
theorem n6{s:List Int}(h:s≠[]):∀n,(pw s n).length=1+n*(s.length-1)/\pw s n≠[]
 |0=>⟨by rw[Nat.zero_mul];rfl,by simp[pw]⟩
 |n+1=>by obtain⟨a,b⟩:=n6 h n;have:=PL.mpr h;refine⟨?_,j6 h b⟩;show(af s (pw s n)).length=_;rw[bV h b,a,Nat.succ_mul];omega
theorem o6(g:Nat->Nat):∀us:List (List Int×Nat),(∀p∈us,p.1≠[])->(fP g us).length=1+dgs g us/\fP g us≠[]
 | [],_=>⟨rfl,by simp[fP]⟩
 |p::us,H=>by
  obtain⟨a,b⟩:=o6 g us λx hx=>H x (PP _ hx)
  obtain⟨c,d⟩:=n6 (H p (PU ..)) (g p.2);rw[fS];refine⟨?_,j6 d b⟩;rw[bV d b,a,c];show _=1+(g p.2*_+dgs g us);omega
noncomputable def aV(sq due:Int):Int:=if due<0\/due*due<sq then 1 else 0-(if sq<due*due then 1 else 0)
noncomputable def ap(l:List Int)(t n:Int):Int:=if 0<cf l 3 then aV (cf l 1*n*n) (cf l 2*t-cf l 0*n)else 0-aV (cf l 1*n*n) (0-(cf l 2*t-cf l 0*n))
theorem b7(sq d:Int):(aV sq d=1/\(d<0\/d*d<sq))\/(aV sq d=0/\0<=d/\d*d=sq)\/(aV sq d = -1/\0<=d/\sq<d*d):=by
 unfold aV;by_cases h:d<0\/d*d<sq
 ·rw[if_pos h];exact .inl ⟨rfl,h⟩
 ·rw[if_neg h];by_cases h2:sq<d*d
  ·rw[if_pos h2];exact .inr (.inr ⟨rfl,by omega,h2⟩)
  ·rw[if_neg h2];exact .inr (.inl ⟨rfl,by omega,by omega⟩)
structure Spt(l:List Int):Prop where
 is:∃u e b s:Int,l=[u,e,b,s]/\0<=e/\1<=b/\(s=1\/s = -1)
theorem dL{x y:Int}(hx:0<=x)(h:x<=y):x*x<=y*y:=QX h h hx (by omega)
theorem ny{x y:Int}(hx:0<=x)(h:x<y):x*x<y*y:=by have h1:x*x<=x*y:=QA (PD h) hx;have h2:x*y<y*y:=Qv h (by omega);omega
theorem Iy{x y:Int}(hy:0<=y)(h:x*x<y*y):x<y:=Qm.mp λz=>by have:=dL hy z;omega
theorem IG{x y:Int}(hy:0<=y)(h:x*x<=y*y):x<=y:=Rh.mp λz=>by have:=ny hy z;omega
theorem wE{g sq d:Int}(hg:0<g):aV (sq*(g*g)) (g*d)=aV sq d:=by
 have hgg:0<g*g:=PB hg hg;have e1:g*d*(g*d)=d*d*(g*g):=by grind
 have e2:(g*d<0)↔d<0:=by
  constructor
  ·intro h;refine Qm.mp λz=>?_
   have:=P5 (PD hg) z;omega
  ·intro h;exact RY hg h
 have e3:∀x y:Int,(x*(g*g)<y*(g*g))↔x<y:=λx y=>⟨λh=>Rg h (PD hgg),λh=>Qv h hgg⟩
 unfold aV;rw[e1];simp only[e2,e3]
theorem x8{g t n:Int}(l:List Int)(hg:0<g):ap l (g*t) (g*n)=ap l t n:=by
 have e1:cf l 1*(g*n)*(g*n)=cf l 1*n*n*(g*g):=by grind
 have e2:cf l 2*(g*t)-cf l 0*(g*n)=g*(cf l 2*t-cf l 0*n):=by grind
 have e3:0-g*(cf l 2*t-cf l 0*n)=g*(0-(cf l 2*t-cf l 0*n)):=by grind
 unfold ap;rw[e1,e2,e3,wE hg,wE hg]
theorem k9{t n t' n':Int}(l:List Int)(hn:0<n)(hn':0<n')(e:t*n'=t'*n):ap l t n=ap l t' n':=by
 rw[<- x8 (g:=n') l hn',<- x8 (g:=n) (t:=t') l hn];have e1:n'*t=n*t':=by rw[P9,e,P9]
 rw[e1,P9 n' n]
theorem fE(l:List Int)(t n:Int):ap l t n=1\/ap l t n=0\/ap l t n = -1:=by
 unfold ap;split
 ·rcases b7 (cf l 1*n*n) (cf l 2*t-cf l 0*n)with h |h |h<;>omega
 ·rcases b7 (cf l 1*n*n) (0-(cf l 2*t-cf l 0*n))with h |h |h<;>omega
theorem gY{l:List Int}(hl:Spt l){t n t' n':Int}(hn:0<n)(hn':0<n')(h:t*n'<t'*n)(hs:ap l t n<=0):ap l t' n' = -1:=by
 obtain⟨u,e,b,s,rfl,he,hb,hs1⟩:=hl
 have hlt:(b*t-u*n)*n'<(b*t'-u*n')*n:=by
  have h1:b*(t*n')<b*(t'*n):=Sy h (by omega);have e1:(b*t-u*n)*n'=b*(t*n')-u*n*n':=by grind
  have e2:(b*t'-u*n')*n=b*(t'*n)-u*n*n':=by grind
  omega
 have hnn:0<n*n:=PB hn hn;have hnn':0<n'*n':=PB hn' hn';rcases hs1 with rfl |rfl
 ·have z0:(0:Int)<1:=by decide
  have hs:aV (e*n*n) (b*t-u*n)<=0:=hs;show aV (e*n'*n') (b*t'-u*n') = -1;generalize b*t-u*n=a at *
  generalize b*t'-u*n'=a' at *
  have k1:0<=a/\e*n*n<=a*a:=by rcases b7 (e*n*n) a with h |h |h<;>omega
  have k2:0<=a*n':=P5 k1.1 (PD hn');have k3:0<a':=Rg (a:=n) (by omega) (PD hn);have k4:=ny k2 hlt;have k5:e*n*n*(n'*n')<=a*a*(n'*n'):=P6 k1.2 (PD hnn')
  have k6:e*n'*n'*(n*n)<a'*a'*(n*n):=by
   have e1:e*n'*n'*(n*n)=e*n*n*(n'*n'):=by grind
   have e2:a'*a'*(n*n)=a'*n*(a'*n):=by grind
   have e3:a*a*(n'*n')=a*n'*(a*n'):=by grind
   omega
  have k7:=Rg k6 (PD hnn);rcases b7 (e*n'*n') a' with h |h |h<;>omega
 ·have hs:0-aV (e*n*n) (0-(b*t-u*n))<=0:=hs;show 0-aV (e*n'*n') (0-(b*t'-u*n')) = -1;generalize ha:0-(b*t-u*n)=a at *
  generalize ha':0-(b*t'-u*n')=a' at *
  have hlt':a'*n<a*n':=by
   have e1:a'*n = -((b*t'-u*n')*n):=by rw[<- ha'];grind
   have e2:a*n' = -((b*t-u*n)*n'):=by rw[<- ha];grind
   omega
  have k1:a<0\/a*a<=e*n*n:=by rcases b7 (e*n*n) a with h |h |h<;>omega
  have k2:a'<0\/a'*a'<e*n'*n':=by
   by_cases z:a'<0
   ·exact .inl z
   right;have p1:0<=a'*n:=P5 (by omega) (PD hn);have p2:0<a:=Rg (a:=n') (by omega) (PD hn');have p3:=ny p1 hlt';have k5:a*a*(n'*n')<=e*n*n*(n'*n'):=P6 (by omega) (PD hnn')
   have k6:a'*a'*(n*n)<e*n'*n'*(n*n):=by
    have e1:e*n'*n'*(n*n)=e*n*n*(n'*n'):=by grind
    have e2:a'*a'*(n*n)=a'*n*(a'*n):=by grind
    have e3:a*a*(n'*n')=a*n'*(a*n'):=by grind
    omega
   exact Rg k6 (PD hnn)
  rcases b7 (e*n'*n') a' with h |h |h<;>omega
noncomputable def spF(f:List Int):List (List Int):=(if 0<=cf f 1 then[[cf f 0,cf f 1,cf f 2,1]]else[])++(if 0<cf f 1 then[[cf f 0,cf f 1,cf f 2,-1]]else[])
noncomputable def aI(fs:List (List Int)):List (List Int):=fs.flatMap spF
noncomputable def spr(t n:Int):List (List Int)->Int
 | []=>1
 |l::ls => -ap l t n*spr t n ls
theorem jM(t n:Int):∀a b,spr t n (a++b)=spr t n a*spr t n b
 | [],b=>by show _=1*_;rw[PY];rfl
 |x::a,b=>by show _*spr t n (a++b)=_*_*_;rw[jM t n a b,P4]
theorem pU{f l:List Int}{u e b:Int}(hf:f=[u,e,b])(hb:1<=b)(h:l∈spF f):Spt l/\∃s,l=[u,e,b,s]/\0<=e/\(s=1\/s = -1/\0<e):=by
 subst hf;have hd:spF [u,e,b]=(if 0<=e then[[u,e,b,1]]else[])++(if 0<e then[[u,e,b,-1]]else[]):=rfl;rw[hd]at h;rcases Qh.mp h with h |h
 ·by_cases z:0<=e
  ·rw[if_pos z]at h;obtain rfl:=PQ.mp h;exact⟨⟨u,e,b,1,rfl,z,hb,.inl rfl⟩,1,rfl,z,.inl rfl⟩
  ·rw[if_neg z]at h;cases h
 ·by_cases z:0<e
  ·rw[if_pos z]at h;obtain rfl:=PQ.mp h;exact⟨⟨u,e,b,-1,rfl,by omega,hb,.inr rfl⟩,-1,rfl,by omega,.inr ⟨rfl,z⟩⟩
  ·rw[if_neg z]at h;cases h
theorem EN{u e b t n:Int}(hn:0<n):sg (hv t n (aJ u e b))=spr t n (spF [u,e,b]):=by
 have hd:spF [u,e,b]=(if 0<=e then[[u,e,b,1]]else[])++(if 0<e then[[u,e,b,-1]]else[]):=rfl;rw[hd];by_cases h0:e=0
 ·subst h0;have er:aJ u 0 b=[-u,b]:=by unfold aJ;rw[if_pos rfl]
  have ev:hv t n [-u,b]=n*(b*t-u*n):=by show -u*n^2+t*(b*n^1+t*0)=_;grind
  rw[er,ev,eT hn,if_pos (Qg _),if_neg (by omega)];show _ = -aV (0*n*n) (b*t-u*n)*1;generalize b*t-u*n=a;rw[Qp,Qp];have:a<0\/a=0\/0<a:=by omega
  rcases this with h |h |h
  ·have h1:sg a = -1:=by unfold sg;rw[if_pos h]
   rcases b7 0 a with z |z |z<;>omega
  ·subst h;rfl
  ·have h1:sg a=1:=by unfold sg;rw[if_neg (by omega),if_pos h]
   have h2:=PB h h;rcases b7 0 a with z |z |z<;>omega
 ·have er:aJ u e b=[u*u-e,-2*b*u,b*b]:=by unfold aJ;rw[if_neg h0]
  have ev:hv t n [u*u-e,-2*b*u,b*b]=n*((b*t-u*n)*(b*t-u*n)-e*n*n):=by show(u*u-e)*n^3+t*((-2*b*u)*n^2+t*((b*b)*n^1+t*0))=_;grind
  rw[er,ev,eT hn];by_cases hp:0<=e
  ·rw[if_pos hp,if_pos (by omega)];show _ = -aV (e*n*n) (b*t-u*n)*(-(0-aV (e*n*n) (0-(b*t-u*n)))*1);generalize b*t-u*n=a;have hE:0<e*n*n:=PB (PB (by omega) hn) hn;generalize e*n*n=E at *
   have e1:(0-a)*(0-a)=a*a:=by grind
   have h1:=b7 E a;have h2:=b7 E (0-a);rw[e1]at h2;have az:a=0->a*a=0:=λz=>by rw[z];rfl
   have s3:(a*a<E/\sg (a*a-E) = -1)\/(a*a=E/\sg (a*a-E)=0)\/(E<a*a/\sg (a*a-E)=1):=by unfold sg;split<;>(try split)<;>omega
   generalize a*a=q at *
   rcases h1 with⟨x1,x2⟩ |⟨x1,x2⟩ |⟨x1,x2⟩<;>rcases h2 with⟨y1,y2⟩ |⟨y1,y2⟩ |⟨y1,y2⟩<;>rw[x1,y1]<;>simp<;>omega
  ·rw[if_neg hp,if_neg (by omega)]
   have h1:0<=(b*t-u*n)*(b*t-u*n):=by
    rcases Int.le_total 0 (b*t-u*n)with z |z
    ·exact P5 z z
    ·exact Se z z
   have h2:e*n*n<0:=by rw[P4];exact RD (by omega) (PB hn hn)
   show sg _=1;unfold sg;rw[if_neg (by omega),if_pos (by omega)]
noncomputable def ah(f:List Int):List Int:=aw (aJ (cf f 0) (cf f 1) (cf f 2))
theorem yf(x y:Int):sg (x*y)=sg x*sg y:=by
 rcases R3 x 0 with hx |hx |hx
 ·have h1:sg x = -1:=by unfold sg;rw[if_pos hx]
  have e:x*y = -((-x)*y):=by grind
  rw[e,DM,eT (by omega),h1];omega
 ·subst hx;rw[Qp];show(0:Int)=0*_;rw[Qp]
 ·have h1:sg x=1:=by unfold sg;rw[if_neg (by omega),if_pos hx]
  rw[eT hx,h1,PY]
theorem lQ{l:List Int}(h:Tr l)(hne:l≠[])(hp:0<ao l):∃g:Int,0<g/\l=scL g (aw l):=by
 obtain⟨g,hg,e⟩:=jZ h
 have e2:l=scL g (aw l):=by
  apply dU
  ·rw[cv,plain_len]
  ·intro k _;rw[bQ,e k]
 have hP:=fG h hne;refine⟨g,?_,e2⟩;obtain⟨r,x,er⟩:=(cZ l).resolve_left hne;have hx:ao l=cf l r.length:=by rw[er,dM,ku]
 obtain⟨r',x',er'⟩:=(cZ (aw l)).resolve_left hP.ne;have hx':ao (aw l)=cf (aw l) r'.length:=by rw[er',dM,ku]
 have hl:r.length=r'.length:=by have:=plain_len l;have h1:=congrArg List.length er;have h2:=congrArg List.length er';simp at h1 h2;omega
 have h3:=e r.length;rw[<- hx,hl,<- hx']at h3;have h4:=hP.pos;rw[h3]at hp;rcases QE hg with z |z
 ·have:=RD z h4;omega
 ·exact z
theorem DC{u e b t n:Int}(hb:1<=b)(hn:0<n):sg (hv t n (ah [u,e,b]))=spr t n (spF [u,e,b]):=by
 obtain⟨tr,l2⟩:=gm (u:=u) (e:=e) hb;have hne:aJ u e b≠[]:=λz=>by rw[z]at l2;simp at l2
 have hlast:0<ao (aJ u e b):=by
  unfold aJ;split
  ·show 0<ao ([-u]++[b]);rw[dM];omega
  ·show 0<ao ([u*u-e,-2*b*u]++[b*b]);rw[dM];exact PB (by omega) (by omega)
 obtain⟨g,hg,eg⟩:=lQ tr hne hlast;rw[<- EN hn];show sg (hv t n (aw (aJ u e b)))=_
 have e3:hv t n (aJ u e b)=g*hv t n (aw (aJ u e b)):=by
  calc hv t n (aJ u e b)=hv t n (scL g (aw (aJ u e b))):=by rw[<- eg]
   _=_:=AA _ _ _ _
 rw[e3,eT hg]
def fC(f:List Int):Prop:=∃u e b:Int,f=[u,e,b]/\1<=b
theorem yU{t n:Int}(hn:0<n):∀(fs:List (List Int)),(∀f∈fs,fC f)->sg (pr t n (fs.map ah))=spr t n (aI fs)
 | [],_=>rfl
 |f::fs,h=>by
  obtain⟨u,e,b,rfl,hb⟩:=h f (PU ..);have ih:=yU (t:=t) hn fs λx hx=>h x (PP _ hx)
  have e1:aI ([u,e,b]::fs)=spF [u,e,b]++aI fs:=by unfold aI;rw[List.flatMap_cons]
  show sg (hv t n (ah [u,e,b])*pr t n (fs.map ah))=_;rw[yf,DC hb hn,ih,e1,jM]
theorem qq{f:List Int}(h:fC f):ah f≠[]/\Tr (ah f):=by obtain⟨u,e,b,rfl,hb⟩:=h;obtain⟨tr,l2⟩:=gm (u:=u) (e:=e) hb;refine⟨λz=>?_,gW tr⟩;have:=plain_len (aJ u e b);have z':aw (aJ u e b)=[]:=z;rw[z']at this;simp at this;omega
theorem lI{t n c:Int}(hn:0<n){fs:List (List Int)}(h:∀f∈fs,fC f):sg (hv t n (af [c] (aQ [1] (fs.map ah))))=sg c*spr t n (aI fs):=by
 have hs:∀s∈fs.map ah,s≠[]/\Tr s:=λs hs=>by obtain⟨x,hx,rfl⟩:=PV.mp hs;exact qq (h x hx)
 obtain⟨p1,p2,p3⟩:=jX (fs.map ah) [1] (by simp) ((tr_snoc (r:=[])).mpr (by decide)) hs;have e1:=oY t n (a:=[c]) (b:=aQ [1] (fs.map ah)) p1 (by simp);have e2:=oW t n (fs.map ah) [1] (by simp) λs h=>(hs s h).1
 rw[mC]at e1 e2;rw[<- yU hn fs h]
 have e3:hv t n (af [c] (aQ [1] (fs.map ah)))=c*hv t n (aQ [1] (fs.map ah)):=by refine RI (Qo hn) ?_;rw[e1];grind
 rw[e3,yf];have e4:=congrArg sg e2;rw[eT (Qs hn),PY,eT hn]at e4;rw[e4]
def inS(l:List Int)(A B D:Int):Prop:=0<ap l A D/\ap l B D<=0
instance (l:List Int) (A B D:Int):Decidable (inS l A B D):=inferInstanceAs (Decidable (_/\_))
structure Fsm(u e b:Int):Prop where
 u1 : -1000000000<=u
 u2:u<=1000000000
 e0:0<=e
 e1:e<=10000000000000000
 b1:1<=b
 b2:b<=1000
theorem IH{x:Int}{n:Nat}(h1 : -(n:Int)<=x)(h2:x<=n):x.natAbs<=n:=by omega
theorem oP{x D:Int}(hD:0<D)(h1 : -(30000000000000*D)<=x)(h2:x<=30000000000000*D):x.natAbs<=30000000000000*D.natAbs:=by
 have e:((30000000000000*D.natAbs:Nat):Int)=30000000000000*D:=by rw[QC,Int.natAbs_of_nonneg (PD hD)];rfl
 exact IH (by rw[e];exact h1) (by rw[e];exact h2)
theorem zm{u e b s A B D:Int}(h:Fsm u e b)(hs:s=1\/s = -1/\0<e)(hD:2^200<=D)(hw:B=A+128)(hi:inS [u,e,b,s] A B D):((b*A-u*D)*(b*A-u*D)-e*D*D).natAbs<=30000000000000*D.natAbs:=by
 obtain⟨u1,u2,e0,e1,b1,b2⟩:=h;have hDD:0<D:=by omega
 have eB:b*B-u*D=b*A-u*D+128*b:=by rw[hw];grind
 have h36:e*D*D<=100000000*D*(100000000*D):=by
  have h1:e*(D*D)<=10000000000000000*(D*D):=P6 (by omega) (PD (PB hDD hDD));have e2:e*D*D=e*(D*D):=by grind
  have e3:100000000*D*(100000000*D)=10000000000000000*(D*D):=by grind
  omega
 have hE0:0<=e*D*D:=P5 (P5 e0 (by omega)) (by omega)
 have hbig:e=0\/16384000000<e*D*D:=by
  rcases QP 0 e with z |z
  ·right;have h1:1*(D*D)<=e*(D*D):=P6 (by omega) (PD (PB hDD hDD));have e2:e*D*D=e*(D*D):=by grind
   have h2:1*D<=D*D:=P6 (by omega) (by omega);omega
  ·left;omega
 rcases hs with rfl |⟨rfl,hp⟩
 ·have i1:0<aV (e*D*D) (b*A-u*D):=hi.1;have i2:aV (e*D*D) (b*B-u*D)<=0:=hi.2;rw[eB]at i2;generalize b*A-u*D=a at *
  have k1:a<0\/a*a<e*D*D:=by rcases b7 (e*D*D) a with z |z |z<;>omega
  have k2:0<=a+128*b/\e*D*D<=(a+128*b)*(a+128*b):=by rcases b7 (e*D*D) (a+128*b)with z |z |z<;>omega
  by_cases ha:a<0
  ·have q1:=dL k2.1 (show a+128*b<=128000 by omega);have z0:e=0:=by omega
   subst z0;have q2:(-a)*(-a)<=128000*128000:=dL (by omega) (by omega);have q3:(-a)*(-a)=a*a:=by grind
   have q4:0<=a*a:=by rw[<- q3];exact P5 (by omega) (by omega)
   rw[Qp,Qp];exact oP hDD (by omega) (by omega)
  ·have k3:a*a<e*D*D:=by omega
   have k4:a<100000000*D:=Iy (by omega) (by omega);have e3:(a+128*b)*(a+128*b)=a*a+256*(b*a)+16384*(b*b):=by grind
   have k5:b*a<=1000*a:=P6 b2 (by omega);have k6:b*b<=1000000:=QX b2 b2 (by omega) (by omega);exact oP hDD (by omega) (by omega)
 ·have i1:0<0-aV (e*D*D) (0-(b*A-u*D)):=hi.1;have i2:0-aV (e*D*D) (0-(b*B-u*D))<=0:=hi.2;rw[eB]at i2;have eq1:(b*A-u*D)*(b*A-u*D)=(0-(b*A-u*D))*(0-(b*A-u*D)):=by grind
  have eq2:0-(b*A-u*D+128*b)=0-(b*A-u*D)-128*b:=by omega
  rw[eq1];rw[eq2]at i2;generalize 0-(b*A-u*D)=c at *
  have k1:0<=c/\e*D*D<c*c:=by rcases b7 (e*D*D) c with z |z |z<;>omega
  have k2:c-128*b<0\/(c-128*b)*(c-128*b)<=e*D*D:=by rcases b7 (e*D*D) (c-128*b)with z |z |z<;>omega
  by_cases hc:c-128*b<0
  ·have q1:=dL k1.1 (show c<=128000 by omega);exact oP hDD (by omega) (by omega)
  ·have k3:(c-128*b)*(c-128*b)<=e*D*D:=by omega
   have k4:c-128*b<=100000000*D:=IG (by omega) (by omega);have e3:c*c=(c-128*b)*(c-128*b)+256*(b*c)-16384*(b*b):=by grind
   have k5:b*c<=1000*c:=P6 b2 (by omega);have k6:0<=b*b:=P5 (by omega) (by omega);exact oP hDD (by omega) (by omega)
theorem Cv{u e b A B D:Int}(h:Fsm u e b)(he:0<e)(hD:2^200<=D)(hw:B=A+128)(h1:inS [u,e,b,1] A B D)(h2:inS [u,e,b,-1] A B D):False:=by
 obtain⟨u1,u2,e0,e1,b1,b2⟩:=h;have hDD:0<D:=by omega
 have eB:b*B-u*D=b*A-u*D+128*b:=by rw[hw];grind
 have i1:aV (e*D*D) (b*B-u*D)<=0:=h1.2;have i2:0<0-aV (e*D*D) (0-(b*A-u*D)):=h2.1;rw[eB]at i1;generalize b*A-u*D=a at *
 have k1:0<=a+128*b:=by rcases b7 (e*D*D) (a+128*b)with z |z |z<;>omega
 have k2:0<=0-a/\e*D*D<(0-a)*(0-a):=by rcases b7 (e*D*D) (0-a)with z |z |z<;>omega
 have k3:=dL k2.1 (show 0-a<=128000 by omega);have h3:1*(D*D)<=e*(D*D):=P6 (by omega) (PD (PB hDD hDD));have e2:e*D*D=e*(D*D):=by grind
 have h4:1*D<=D*D:=P6 (by omega) (by omega);omega
theorem dJ{x y:Int}{a b:Nat}(hx:x.natAbs<=a)(hy:y.natAbs<=b):(x*y).natAbs<=a*b:=by rw[PN];exact QW hx hy
theorem zo(N:Nat):1000*1000*(30000000000000*N)+1000*1000*(30000000000000*N)<=60000000000000000000*N/\1000*1000*(30000000000000*N)<=30000000000000000000*N:=by omega
theorem Hl{n2 n3 n4 x1 x2 x3:Nat}(h:n4<=x1+x2+x3)(t1:x1<=482400000000000000000000000000000000000000000*n3)(t2:x2<=3600000000000000000000000000000000000000*n2)(t3:x3<=480000000000000000000000000000000000000000000*n3)(m1:n2<=n3)(m2:1606938044258990275541962092341162602522202993782792835301376*n3<=n4)(m4:0<n3):False:=by omega
theorem Hm{u e b u' e' b' A D:Int}(h:Fsm u e b)(h':Fsm u' e' b')(hD:2^200<=D)
 (n1:((b*A-u*D)*(b*A-u*D)-e*D*D).natAbs<=30000000000000*D.natAbs) (n2:((b'*A-u'*D)*(b'*A-u'*D)-e'*D*D).natAbs<=30000000000000*D.natAbs) :
 4*((b*u'-u*b')*(b*u'-u*b'))*(b*b*e')=(b'*b'*e-b*b*e'-(b*u'-u*b')*(b*u'-u*b'))*(b'*b'*e-b*b*e'-(b*u'-u*b')*(b*u'-u*b')):=by
 obtain⟨u1,u2,e0,e1,b1,b2⟩:=h;obtain⟨u1',u2',e0',e1',b1',b2'⟩:=h';obtain⟨N,rfl⟩:=RV (show 0<=D by omega);rw[Qq]at n1 n2;have hN:1606938044258990275541962092341162602522202993782792835301376<=N:=by omega
 have q9:(b'*b').natAbs<=1000*1000:=dJ (a:=1000) (b:=1000) (by omega) (by omega);have q9':(b*b).natAbs<=1000*1000:=dJ (a:=1000) (b:=1000) (by omega) (by omega);have d1:=dJ q9 n1;have d2:=dJ q9' n2
 have hU:(b*u'-u*b').natAbs<=2000000000000:=by have a1:(b*u').natAbs<=1000*1000000000:=dJ (by omega) (by omega);have a2:(u*b').natAbs<=1000000000*1000:=dJ (by omega) (by omega);exact PX (RG _ _) (Sh a1 a2)
 have hE1:(b'*b'*e).natAbs<=1000*1000*10000000000000000:=dJ q9 (by omega);have hE2:(b*b*e').natAbs<=1000*1000*10000000000000000:=dJ q9' (by omega);have r1:(b'*(b*A-u*N))*(b'*(b*A-u*N))=b'*b'*e*(N*N)+b'*b'*((b*A-u*N)*(b*A-u*N)-e*N*N):=by grind
 have r2:(b*(b'*A-u'*N))*(b*(b'*A-u'*N))=b*b*e'*(N*N)+b*b*((b'*A-u'*N)*(b'*A-u'*N)-e'*N*N):=by grind
 have r3:b'*(b*A-u*N)=b*(b'*A-u'*N)+(b*u'-u*b')*N:=by grind
 generalize b'*b'*((b*A-u*N)*(b*A-u*N)-e*N*N)=δ1 at *
 generalize b*b*((b'*A-u'*N)*(b'*A-u'*N)-e'*N*N)=δ2 at *
 rw[r3]at r1;generalize b*(b'*A-u'*N)=Y at *
 generalize b*u'-u*b'=U at *
 generalize b'*b'*e=E1 at *
 generalize b*b*e'=E2 at *
 clear n1 n2 q9 q9' r3 u1 u2 e0 e1 b1 b2 u1' u2' e0' e1' b1' b2' hD;have hUU:(U*U).natAbs<=2000000000000*2000000000000:=dJ hU hU;have hW:(E1-E2-U*U).natAbs<=4020000000000000000000000:=PX (RG _ _) (PX (Sh (PX (RG _ _) (Sh hE1 hE2)) hUU) (by decide));generalize hWd:E1-E2-U*U=W at *
 have r4:2*U*N*Y=W*(N*N)+(δ1-δ2):=by rw[<- hWd];grind
 have r5:(2*U*N*Y)*(2*U*N*Y)=4*(U*U)*(N*N)*(Y*Y):=by grind
 rw[r4,r2]at r5;have hM:(δ1-δ2).natAbs<=60000000000000000000*N:=PX (RG _ _) (PX (Sh d1 d2) (zo N).1);have hδ2:δ2.natAbs<=30000000000000000000*N:=PX d2 (zo N).2;generalize δ1-δ2=δ at *
 have hNN:(0:Int)<(N:Int)*N:=PB (by omega) (by omega);have r6:(4*(U*U)*E2-W*W)*(N*N)*(N*N)=2*W*δ*(N*N)+δ*δ-4*(U*U)*δ2*(N*N):=by grind
 refine Int.sub_eq_zero.mp (Classical.byContradiction λhne=>?_);generalize hZ:4*(U*U)*E2-W*W=Z at *
 have hZ1:1<=Z.natAbs:=by omega
 have b1:(Z*(N*N)*(N*N)).natAbs=Z.natAbs*(N*N)*(N*N):=by rw[PN,PN,PN,Qq]
 have t1:(2*W*δ*(N*N)).natAbs<=2*4020000000000000000000000*(60000000000000000000*N)*(N*N):=by refine dJ (dJ (dJ (by decide) hW) hM) ?_;rw[PN,Qq];exact PF _
 have t2:(δ*δ).natAbs<=60000000000000000000*N*(60000000000000000000*N):=dJ hM hM
 have t3:(4*(U*U)*δ2*(N*N)).natAbs<=4*(2000000000000*2000000000000)*(30000000000000000000*N)*(N*N):=by refine dJ (dJ (dJ (by decide) hUU) hδ2) ?_;rw[PN,Qq];exact PF _
 have t4:1*(N*N)*(N*N)<=Z.natAbs*(N*N)*(N*N):=QD _ (QD _ hZ1);rw[<- b1,r6]at t4;have e1:2*4020000000000000000000000*(60000000000000000000*N)*(N*N)=482400000000000000000000000000000000000000000*(N*N*N):=by grind
 have e2:60000000000000000000*N*(60000000000000000000*N)=3600000000000000000000000000000000000000*(N*N):=by grind
 have e3:4*(2000000000000*2000000000000)*(30000000000000000000*N)*(N*N)=480000000000000000000000000000000000000000000*(N*N*N):=by grind
 have e4:1*(N*N)*(N*N)=N*(N*N*N):=by grind
 have m1:1*(N*N)<=N*(N*N):=QD _ (by omega);have m2:1606938044258990275541962092341162602522202993782792835301376*(N*N*N)<=N*(N*N*N):=QD _ hN;have m3:N*(N*N)=N*N*N:=by grind
 have m4:0<N*N*N:=Nat.mul_pos (Nat.mul_pos (by omega) (by omega)) (by omega);rw[e4]at t4;rw[e1]at t1;rw[e2]at t2;rw[e3]at t3;rw[Nat.one_mul,m3]at m1;exact Hl (PX t4 (PX (RG _ _) (Nat.add_le_add_right (Sc _ _) _))) t1 t2 t3 m1 m2 m4
theorem DD{u e b u' e' b':Int}(h:Fsm u e b)(h':Fsm u' e' b')(hs:NS e)(hs':NS e')
 (eq:4*((b*u'-u*b')*(b*u'-u*b'))*(b*b*e')=(b'*b'*e-b*b*e'-(b*u'-u*b')*(b*u'-u*b'))*(b'*b'*e-b*b*e'-(b*u'-u*b')*(b*u'-u*b'))):ah [u,e,b]=ah [u',e',b']:=by
 obtain⟨u1,u2,e0,e1,b1,b2⟩:=h;obtain⟨u1',u2',e0',e1',b1',b2'⟩:=h'
 have key:b*u'-u*b'=0/\b'*b'*e=b*b*e':=by
  by_cases hz:e'=0
  ·subst hz
   have e3:(b'*b'*e-(b*u'-u*b')*(b*u'-u*b'))*(b'*b'*e-(b*u'-u*b')*(b*u'-u*b'))=0:=by
    have:b*b*(0:Int)=0:=Qd _;rw[this]at eq;rw[Qd]at eq;have h9:b'*b'*e-0-(b*u'-u*b')*(b*u'-u*b')=b'*b'*e-(b*u'-u*b')*(b*u'-u*b'):=by omega
    rw[h9]at eq;exact eq.symm
   have e4:b'*b'*e=(b*u'-u*b')*(b*u'-u*b'):=by rcases Q7.mp e3 with z |z<;>omega
   by_cases hz2:e=0
   ·subst hz2;rw[Qd]at e4;refine⟨?_,by rw[Qd,Qd]⟩;rcases Q7.mp e4.symm with z |z<;>exact z
   ·exact(hs.no hz2 (by omega) e4).elim
  ·by_cases hU:b*u'-u*b'=0
   ·rw[hU]at eq
    have e3:(b'*b'*e-b*b*e')*(b'*b'*e-b*b*e')=0:=by
     have h8:4*((0:Int)*0)*(b*b*e')=0:=by rw[Qd,Qd,Qp]
     rw[h8]at eq;have h9:b'*b'*e-b*b*e'-0*0=b'*b'*e-b*b*e':=by omega
     rw[h9]at eq;exact eq.symm
    refine⟨hU,?_⟩;rcases Q7.mp e3 with z |z<;>omega
   ·refine(hs'.no hz (x:=2*(b*u'-u*b')*b) (Qe (Qe (by decide) hU) (by omega)) (Eq.trans ?_ eq)).elim;grind
 obtain⟨k1,k2⟩:=key;show aw (aJ u e b)=aw (aJ u' e' b');obtain⟨tr,l2⟩:=gm (u:=u) (e:=e) b1;obtain⟨tr',l2'⟩:=gm (u:=u') (e:=e') b1';have hne:aJ u e b≠[]:=λz=>by rw[z]at l2;simp at l2
 have hne':aJ u' e' b'≠[]:=λz=>by rw[z]at l2';simp at l2'
 have hz:e=0↔e'=0:=by
  constructor
  ·intro z;rw[z,Qd]at k2;rcases Q7.mp k2.symm with y |y
   ·rcases Q7.mp y with y |y<;>omega
   ·exact y
  ·intro z;rw[z,Qd]at k2;rcases Q7.mp k2 with y |y
   ·rcases Q7.mp y with y |y<;>omega
   ·exact y
 have prop:∃x y:Int,x≠0/\y≠0/\∀n,x*cf (aJ u' e' b') n=y*cf (aJ u e b) n:=by
  by_cases h0:e=0
  ·have h0':=hz.mp h0;refine⟨b,b',by omega,by omega,λn=>?_⟩;unfold aJ;rw[if_pos h0,if_pos h0',uX,uX];split
   ·have:b*u'=u*b':=by omega
    grind
   ·split
    ·grind
    ·omega
  ·have h0':¬e'=0:=λz=>h0 (hz.mpr z)
   refine⟨b*b,b'*b',Qe (by omega) (by omega),Qe (by omega) (by omega),λn=>?_⟩;have k3:b*u'=u*b':=by omega
   unfold aJ;rw[if_neg h0,if_neg h0']
   match n with
   |0 =>
    show b*b*(u'*u'-e')=b'*b'*(u*u-e);have:(b*u')*(b*u')=(u*b')*(u*b'):=by rw[k3]
    grind
   |1 =>
    show b*b*(-2*b'*u')=b'*b'*(-2*b*u);have:b*b'*(b*u')=b*b'*(u*b'):=by rw[k3]
    grind
   |2 =>show b*b*(b'*b')=b'*b'*(b*b);grind
   |n+3 =>show b*b*0=b'*b'*0;omega
 obtain⟨x,y,hx,hy,hp⟩:=prop;refine sP (fG tr hne) (fG tr' hne') ?_ ?_
 ·rw[Dv.plain tr'];refine Dv.prop_right hx hp ?_;obtain⟨g,hg,eg⟩:=jZ tr;exact⟨1,[g],by decide,λn=>by rw[f9,<- eg];omega⟩
 ·rw[Dv.plain tr];refine Dv.prop_right (x:=y) (y:=x) hy (λn=>(hp n).symm) ?_;obtain⟨g,hg,eg⟩:=jZ tr';exact⟨1,[g],by decide,λn=>by rw[f9,<- eg];omega⟩
def FacG(f:List Int):Prop:=∃u e b:Int,f=[u,e,b] /\ -1000000000<=u/\u<=1000000000 /\ -10000000000000000<=e/\e<=10000000000000000/\1<=b/\b<=1000/\NS e
theorem FacG.q{f:List Int}(h:FacG f):fC f:=by obtain⟨u,e,b,rfl,_,_,_,_,h5,_⟩:=h;exact⟨u,e,b,rfl,h5⟩
def Cm(l l':List Int):Prop:=∀A B D:Int,2^200<=D->B=A+128->inS l A B D->inS l' A B D->False
theorem pT{fs:List (List Int)}(hF:∀f∈fs,FacG f)(hn:(fs.map ah).Nodup):(aI fs).Pairwise Cm:=by
 unfold aI;rw[List.pairwise_flatMap];constructor
 ·intro f hf;obtain⟨u,e,b,rfl,h1,h2,h3,h4,h5,h6,h7⟩:=hF f hf;have hd:spF [u,e,b]=(if 0<=e then[[u,e,b,1]]else[])++(if 0<e then[[u,e,b,-1]]else[]):=rfl;rw[hd];by_cases z:0<e
  ·rw[if_pos (by omega),if_pos z];show List.Pairwise _ [[u,e,b,1],[u,e,b,-1]];refine List.pairwise_pair.mpr λA B D hD hw a1 a2=>?_
   exact Cv ⟨h1,h2,by omega,h4,h5,h6⟩ z hD hw a1 a2
  ·rw[if_neg z];split
   ·exact List.pairwise_singleton _ _
   ·exact List.Pairwise.nil
 ·rw[List.nodup_iff_pairwise_ne,List.pairwise_map]at hn;refine hn.imp_of_mem λ{f g} hf hg hne x hx y hy A B D hD hw a1 a2=>hne ?_
  obtain⟨u,e,b,rfl,h1,h2,h3,h4,h5,h6,h7⟩:=hF f hf;obtain⟨u',e',b',rfl,h1',h2',h3',h4',h5',h6',h7'⟩:=hF g hg;obtain⟨_,s,rfl,he,hs⟩:=pU rfl h5 hx;obtain⟨_,s',rfl,he',hs'⟩:=pU rfl h5' hy;have F1:Fsm u e b:=⟨h1,h2,he,h4,h5,h6⟩;have F2:Fsm u' e' b':=⟨h1',h2',he',h4',h5',h6'⟩;exact DD F1 F2 h7 h7' (Hm F1 F2 hD (zm F1 hs hD hw a1) (zm F2 hs' hD hw a2))
theorem dD{fs:List (List Int)}(hF:∀f∈fs,fC f){l:List Int}(hl:l∈aI fs):Spt l:=by obtain⟨f,hf,hm⟩:=Q9.mp hl;obtain⟨u,e,b,rfl,hb⟩:=hF f hf;exact(pU rfl hb hm).1
noncomputable def pv:List Int->Rat->Rat
 | [],_=>0
 |c::l,x=>(c:Rat)+x*pv l x
theorem yP:∀(N:Nat) (a b c:List Int) (u v:Int) (x:Rat),a.length<=N->b.length<=N->c.length<=N->(∀n,cf c n=u*cf a n+v*cf b n)->pv c x=(u:Rat)*pv a x+(v:Rat)*pv b x
 |0,a,b,c,u,v,x,ha,hb,hc,_=>by rw[Rt (Nat.le_zero.mp ha),Rt (Nat.le_zero.mp hb),Rt (Nat.le_zero.mp hc)];show(0:Rat)=u*0+v*0;grind
 |N+1,a,b,c,u,v,x,ha,hb,hc,h=>by
  have key:∀l:List Int,l.length<=N+1->pv l x=(cf l 0:Rat)+x*pv l.tail x/\l.tail.length<=N/\∀n,cf l.tail n=cf l (n+1):=λl hl=>by
   cases l with
   |nil=>exact⟨by show(0:Rat)=((0:Int):Rat)+x*0;grind,PK _,λn=>by rw[cG];rfl⟩
   |cons y l=>exact⟨rfl,by simpa using hl,λn=>rfl⟩
  obtain⟨a1,a2,a3⟩:=key a ha;obtain⟨b1,b2,b3⟩:=key b hb;obtain⟨c1,c2,c3⟩:=key c hc;have ih:=yP N a.tail b.tail c.tail u v x a2 b2 c2 λn=>by rw[a3,b3,c3,h]
  have h0:(cf c 0:Rat)=(u:Rat)*(cf a 0:Rat)+(v:Rat)*(cf b 0:Rat):=by rw[h 0,Ri,PH,PH]
  rw[a1,b1,c1,ih,h0];grind
theorem n8{a b c:List Int}{u v:Int}(x:Rat)(h:∀n,cf c n=u*cf a n+v*cf b n):pv c x=(u:Rat)*pv a x+(v:Rat)*pv b x :=
 yP (a.length+b.length+c.length) a b c u v x (by omega) (by omega) (by omega) h
theorem lE{a c:List Int}{u:Int}(x:Rat)(h:∀n,cf c n=u*cf a n):pv c x=(u:Rat)*pv a x:=by
 have:=n8 (a:=a) (b:=[]) (c:=c) (u:=u) (v:=0) x λn=>by rw[h n,Qp,Qy]
 rw[this];show _+((0:Int):Rat)*0=_;grind
theorem yO(x:Rat):∀(a b c:List Int),(∀n,cf c n=aB a b n)->pv c x=pv a x*pv b x
 | [],b,c,h=>by
  have:=lE (a:=[]) (c:=c) (u:=0) x λn=>by rw[h n,fg];simp
  rw[this];show _=(0:Rat)*_;show((0:Int):Rat)*0=0*_;grind
 |y::a,b,c,h=>by
  have ih:=yO x a b (af a b) (aL a b)
  have:=n8 (a:=b) (b:=0::af a b) (c:=c) (u:=y) (v:=1) x λn=>by
   rw[h n,eu,pe,PY]
   congr 1
   unfold up;split
   ·rfl
   ·rw[aL]
  rw[this];show(y:Rat)*pv b x+((1:Int):Rat)*(((0:Int):Rat)+x*pv (af a b) x)=((y:Rat)+x*pv a x)*pv b x;rw[ih];grind
theorem dG{a b:Rat}(ha:0<a)(hb:0<b):0<a/b:=by rw[Rat.div_def];exact Qa ha (Rat.inv_pos.mpr hb)
noncomputable def Bd(M v:Rat):Prop := -M<=v/\v<=M
theorem Bd.mul{M N u v:Rat}(h1:Bd M u)(h2:Bd N v):Bd (M*N) (u*v):=by obtain⟨a,b⟩:=h1;obtain⟨c,d⟩:=h2;have p1:0<=(M-u)*(N-v):=Qb (by grind) (by grind);have p2:0<=(M+u)*(N+v):=Qb (by grind) (by grind);have p3:0<=(M-u)*(N+v):=Qb (by grind) (by grind);have p4:0<=(M+u)*(N-v):=Qb (by grind) (by grind);constructor<;>grind
theorem Bd.add{M N u v:Rat}(h1:Bd M u)(h2:Bd N v):Bd (M+N) (u+v):=by obtain⟨a,b⟩:=h1;obtain⟨c,d⟩:=h2;constructor<;>grind
theorem Bd.mono{M N u:Rat}(h1:Bd M u)(h:M<=N):Bd N u:=by obtain⟨a,b⟩:=h1;constructor<;>grind
def Nice(f:Rat->Rat):Prop:=∀R:Rat,0<=R->∃M:Rat,0<=M/\(∀x,Bd R x->Bd M (f x))/\∀x y,Bd R x->Bd R y->x<=y->Bd (M*(y-x)) (f y-f x)
theorem j4(c:Rat):Nice λ_=>c:=λR _=>by
 rcases Qx (a:=0) (b:=c)with h |h
 ·exact⟨c,h,λx _=>⟨by grind,by grind⟩,λx y _ _ hxy=>by
   have:=Qb h (show 0<=y-x by grind)
   exact⟨by grind,by grind⟩⟩
 ·exact⟨-c,by grind,λx _=>⟨by grind,by grind⟩,λx y _ _ hxy=>by
   have:=Qb (show 0 <= -c by grind) (show 0<=y-x by grind)
   exact⟨by grind,by grind⟩⟩
theorem nice_id:Nice λx=>x:=λR hR=>by refine⟨R+1,by grind,λx h=>h.mono (by grind),λx y _ _ hxy=>?_⟩;have:=Qb hR (show 0<=y-x by grind);exact⟨by grind,by grind⟩
theorem Nice.add{f g:Rat->Rat}(hf:Nice f)(hg:Nice g):Nice λx=>f x+g x:=λR hR=>by
 obtain⟨M,m0,m1,m2⟩:=hf R hR;obtain⟨N,n0,n1,n2⟩:=hg R hR;refine⟨M+N,by grind,λx h=>(m1 x h).add (n1 x h),λx y hx hy hxy=>?_⟩;have:=(m2 x y hx hy hxy).add (n2 x y hx hy hxy);have e1:M*(y-x)+N*(y-x)=(M+N)*(y-x):=by grind
 have e2:f y-f x+(g y-g x)=f y+g y-(f x+g x):=by grind
 rwa [e1,e2]at this
theorem Nice.mul{f g:Rat->Rat}(hf:Nice f)(hg:Nice g):Nice λx=>f x*g x:=λR hR=>by
 obtain⟨M,m0,m1,m2⟩:=hf R hR;obtain⟨N,n0,n1,n2⟩:=hg R hR;have p:=Qb m0 n0;refine⟨2*(M*N),by grind,λx h=>((m1 x h).mul (n1 x h)).mono (by grind),λx y hx hy hxy=>?_⟩;have:=((m2 x y hx hy hxy).mul (n1 y hy)).add ((m1 x hx).mul (n2 x y hx hy hxy));have e1:M*(y-x)*N+M*(N*(y-x))=2*(M*N)*(y-x):=by grind
 have e2:(f y-f x)*g y+f x*(g y-g x)=f y*g y-f x*g x:=by grind
 rwa [e1,e2]at this
theorem fK:∀l:List Int,Nice (pv l)
 | []=>j4 0
 |c::l=>(j4 (c:Rat)).add (nice_id.mul (fK l))
theorem yN:∀(l:List Int) (R:Rat),0<=R->∃M:Rat,0<=M/\∀x y,Bd R x->Bd R y->x<=y->Bd (M*((y-x)*(y-x))) (pv l y-pv l x-(y-x)*pv (slopeL l) x)
 | [],R,_=>⟨0,by grind,λx y _ _ _=>by
  have e:pv [] y-pv [] x-(y-x)*pv (slopeL []) x=0:=by show(0:Rat)-0-(y-x)*0=0;grind
  rw[e];constructor<;>grind⟩
 |c::l,R,hR=>by
  obtain⟨M,m0,m1⟩:=yN l R hR;obtain⟨N,n0,n1,n2⟩:=fK l R hR;have p:=Qb hR m0;refine⟨N+R*M,by grind,λx y hx hy hxy=>?_⟩
  have hd:pv (slopeL (c::l)) x=pv l x+x*pv (slopeL l) x:=by
   have:=n8 (a:=l) (b:=0::slopeL l) (c:=slopeL (c::l)) (u:=1) (v:=1) x λn=>x5 c l n
   rw[this];show((1:Int):Rat)*pv l x+((1:Int):Rat)*(((0:Int):Rat)+x*pv (slopeL l) x)=_;grind
  have hz:Bd (y-x) (y-x):=⟨by grind,by grind⟩;have:=(hz.mul (n2 x y hx hy hxy)).add (hx.mul (m1 x y hx hy hxy));have e1:(y-x)*(N*(y-x))+R*(M*((y-x)*(y-x)))=(N+R*M)*((y-x)*(y-x)):=by grind
  have e2:(y-x)*(pv l y-pv l x)+x*(pv l y-pv l x-(y-x)*pv (slopeL l) x)=pv (c::l) y-pv (c::l) x-(y-x)*pv (slopeL (c::l)) x:=by rw[hd];show _=((c:Rat)+y*pv l y)-((c:Rat)+x*pv l x)-_;grind
  rwa [e1,e2]at this
noncomputable def sgR(v:Rat):Int:=if v<0 then -1 else if 0<v then 1 else 0
theorem cH(v:Rat):(v<0/\sgR v = -1)\/(v=0/\sgR v=0)\/(0<v/\sgR v=1):=by
 unfold sgR;by_cases h:v<0
 ·exact .inl ⟨h,by rw[if_pos h]⟩
 ·by_cases h2:0<v
  ·exact .inr (.inr ⟨h2,by rw[if_neg h,if_pos h2]⟩)
  ·exact .inr (.inl ⟨by grind,by rw[if_neg h,if_neg h2]⟩)
def Sta(f:Rat->Rat)(x y:Rat):Prop:=sgR (f x)=sgR (f y)/\sgR (f x)≠0
theorem sZ{f:Rat->Rat}{x y D:Rat}(h:¬Sta f x y)(hd:Bd D (f y-f x)):Bd D (f x)/\Bd D (f y):=by
 obtain⟨d1,d2⟩:=hd
 have key:(f x<=0/\0<=f y)\/(0<=f x/\f y<=0):=by
  rcases cH (f x)with⟨a,b⟩ |⟨a,b⟩ |⟨a,b⟩<;>rcases cH (f y)with⟨c,d⟩ |⟨c,d⟩ |⟨c,d⟩
  ·exact absurd ⟨by rw[b,d],by rw[b];decide⟩ h
  ·exact .inl ⟨by grind,by grind⟩
  ·exact .inl ⟨by grind,by grind⟩
  ·exact .inr ⟨by grind,by grind⟩
  ·exact .inl ⟨by grind,by grind⟩
  ·exact .inl ⟨by grind,by grind⟩
  ·exact .inr ⟨by grind,by grind⟩
  ·exact .inr ⟨by grind,by grind⟩
  ·exact absurd ⟨by rw[b,d],by rw[b];decide⟩ h
 rcases key with⟨a,b⟩ |⟨a,b⟩
 ·exact⟨⟨by grind,by grind⟩,⟨by grind,by grind⟩⟩
 ·exact⟨⟨by grind,by grind⟩,⟨by grind,by grind⟩⟩
inductive SRow:List (List Int)->Prop
 |last {c:Int} (h:c≠0):SRow [[c]]
 |two {a:List Int} {c:Int} (h:c≠0):SRow [a,[c]]
 |cons {a b c:List Int} {r:List (List Int)} {q:List Int} {α β:Rat} (hα:0<α) (hβ:0<β) (e:∀x,α*pv a x=pv q x*pv b x-β*pv c x) (h:SRow (b::c::r)):SRow (a::b::c::r)
theorem sN(c:Int)(x:Rat):pv [c] x=(c:Rat):=by show(c:Rat)+x*0=c;grind
theorem bez:∀{row:List (List Int)},SRow row->∀a b r,row=a::b::r->∃(A B:Rat->Rat) (k:Rat),Nice A/\Nice B/\k≠0/\∀x,A x*pv a x+B x*pv b x=k
 |_,.last h,a,b,r,e=>by cases e
 |_,.two (c:=c) h,a,b,r,e=>by cases e;refine⟨λ_=>0,λ_=>1,(c:Rat),j4 0,j4 1,λz=>h (R4.mp (by rw[z];rfl)),λx=>?_⟩;rw[sN];grind
 |_,.cons (a:=a0) (b:=b0) (c:=c) (q:=q) (α:=α) (β:=β) hα hβ eq h,a,b,r,e=>by
  cases e;obtain⟨A,B,k,nA,nB,hk,hAB⟩:=bez h _ _ _ rfl;refine⟨λx=>(-α)*B x,λx=>β*A x+B x*pv q x,β*k,(j4 (-α)).mul nB,((j4 β).mul nA).add (nB.mul (fK q)),λz=>?_,λx=>?_⟩
  ·rcases Rat.mul_eq_zero.mp z with y |y
   ·grind
   ·exact hk y
  ·have h1:=hAB x;have h2:=eq x;have:(-α)*B x*pv a0 x+(β*A x+B x*pv q x)*pv b0 x=B x*(pv q x*pv b0 x-α*pv a0 x)+β*A x*pv b0 x:=by grind
   rw[this,h2];have:B x*(pv q x*pv b0 x-(pv q x*pv b0 x-β*pv c x))+β*A x*pv b0 x=β*(A x*pv b0 x+B x*pv c x):=by grind
   rw[this,h1]
theorem y6{a b:Rat->Rat}(na:Nice a)(nb:Nice b){A B:Rat->Rat}{k:Rat}(nA:Nice A)(nB:Nice B)(hk:0<k)(hAB:∀x,A x*a x+B x*b x=k\/A x*a x+B x*b x = -k){R:Rat}(hR:0<=R) :
 ∃(δ κ:Rat),0<δ/\0<κ/\∀x y,Bd R x->Bd R y->x<y->y-x<=δ->¬Sta a x y->Sta b x y/\(κ<=b x\/b x <= -κ)/\(κ<=b y\/b y <= -κ):=by
 obtain⟨M1,p1,q1,r1⟩:=na R hR;obtain⟨M2,p2,q2,r2⟩:=nb R hR;obtain⟨M3,p3,q3,_⟩:=nA R hR;obtain⟨M4,p4,q4,_⟩:=nB R hR;have h31:=Qb p3 p1;have h42:=Qb p4 p2;have hT:0<2*(M3*M1+M4*M2+1):=by grind
 have hT4:0<2*(M4+1):=by grind
 refine⟨k/(2*(M3*M1+M4*M2+1)),k/(2*(M4+1)),dG hk hT,dG hk hT4,λx y hx hy hxy hd hs=>?_⟩
 have hd':(y-x)*(2*(M3*M1+M4*M2+1))<=k:=by
  have:=Qf hd (PJ hT)
  rwa [P7 (by grind)]at this
 have hyx:0<y-x:=by grind
 obtain⟨a1,a2⟩:=sZ hs (r1 x y hx hy (by grind));have hM1:0<=M1*(y-x):=Qb p1 (PJ hyx)
 have far:∀z,Bd R z->Bd (M1*(y-x)) (a z)->k/(2*(M4+1))<=b z\/b z <= -(k/(2*(M4+1))):=λz hz ha=>by
  have e1:=(q3 z hz).mul ha
  have e2:2*(M3*(M1*(y-x)))<=k:=by have h1:=Qb h42 (PJ hyx);grind
  have hB:(k<=2*(B z*b z))\/(2*(B z*b z) <= -k):=by
   obtain⟨f1,f2⟩:=e1;rcases hAB z with g |g
   ·left;grind
   ·right;grind
  rcases Qx (a:=k/(2*(M4+1))) (b:=b z)with g |g
  ·exact .inl g
  ·rcases Qx (a:=b z) (b := -(k/(2*(M4+1))))with g2 |g2
   ·exact .inr g2
   ·exfalso;have hb:Bd (k/(2*(M4+1))) (b z):=⟨g2,g⟩;obtain⟨f1,f2⟩:=(q4 z hz).mul hb
    have e3:2*(M4*(k/(2*(M4+1))))<k:=by
     have e4:k/(2*(M4+1))*(2*(M4+1))=k:=P7 (by grind);have e5:=dG hk hT4;generalize k/(2*(M4+1))=w at *
     grind
    rcases hB with g3 |g3<;>grind
 refine⟨Classical.byContradiction λhs2=>?_,far x hx a1,far y hy a2⟩;obtain⟨b1,b2⟩:=sZ hs2 (r2 x y hx hy (by grind));obtain⟨e1,e2⟩:=(q3 x hx).mul a1;obtain⟨e3,e4⟩:=(q4 x hx).mul b1;have hM:0<=(M3*M1+M4*M2)*(y-x):=Qb (by grind) (PJ hyx);have e5:M3*(M1*(y-x))+M4*(M2*(y-x))=(M3*M1+M4*M2)*(y-x):=by grind
 have e6:(y-x)*(2*(M3*M1+M4*M2+1))=2*((M3*M1+M4*M2)*(y-x))+2*(y-x):=by grind
 rcases hAB x with g |g<;>grind
theorem BV{row:List (List Int)}(h:SRow row){a b:List Int}{r:List (List Int)}(e:row=a::b::r):∃(A B:Rat->Rat) (k:Rat),Nice A/\Nice B/\0<k/\∀x,A x*pv a x+B x*pv b x=k\/A x*pv a x+B x*pv b x = -k:=by
 obtain⟨A,B,k,nA,nB,hk,hAB⟩:=bez h a b r e;rcases Qx (a:=0) (b:=k)with g |g
 ·exact⟨A,B,k,nA,nB,by grind,λx=>.inl (hAB x)⟩
 ·exact⟨A,B,-k,nA,nB,by grind,λx=>.inr (by rw[hAB x];grind)⟩
noncomputable def vr:Int->List Int->Int
 |_,[]=>0
 |b,s::r=>(if s*b<0 then 1 else 0)+vr (if s=0 then b else s) r
theorem BE:∀(l:List Int) (n b:Int),l.foldl chF (n,b)=(n+vr b l,(l.foldl chF (n,b)).2)
 | [],n,b=>by show(n,b)=(n+0,b);rw[Qy]
 |s::r,n,b=>by
  show r.foldl chF (chF (n,b) s)=(n+((if s*b<0 then 1 else 0)+vr (if s=0 then b else s) r),(r.foldl chF (chF (n,b) s)).2)
  have e:chF (n,b) s=(n+(if s*b<0 then 1 else 0),if s=0 then b else s):=by
   unfold chF;by_cases h:s*b<0
   ·rw[if_pos h,if_pos h]
   ·rw[if_neg h,if_neg h,Qy]
  rw[e];have:=BE r (n+(if s*b<0 then 1 else 0)) (if s=0 then b else s);rw[Int.add_assoc]at this;exact this
theorem BH(l:List Int):(chS l).1=vr 0 l:=by unfold chS;rw[BE l 0 0];show 0+vr 0 l=_;omega
def ix(s:Int):Prop:=s=1\/s=0\/s = -1
inductive Al:Int->List Int->List Int->Prop
 |nil {b:Int}:Al b [] []
 |stab {b s:Int} {r r':List Int} (h:s≠0) (t:Al s r r'):Al b (s::r) (s::r')
 |unst {b s s':Int} {r r':List Int} (h1:ix s) (h2:ix s') (t:Al (-b) r r'):Al b (s :: -b::r) (s' :: -b::r')
theorem v9{b s:Int}(hb:b=1\/b = -1)(hs:ix s)(r:List Int):vr b (s :: -b::r)=1+vr (-b) r:=by
 have hb0:¬(-b=0):=by omega
 rcases hs with rfl |rfl |rfl
 ·rcases hb with rfl |rfl<;>simp[vr]
 ·rcases hb with rfl |rfl<;>simp[vr]
 ·rcases hb with rfl |rfl<;>simp[vr]
theorem Al.vr:∀{b:Int} {r r':List Int},Al b r r'->(b=1\/b = -1)->(∀s∈r,ix s)->RM.vr b r=RM.vr b r'
 |_,_,_,.nil,_,_=>rfl
 |b,_,_,.stab (s:=s) (r:=r) (r':=r') h t,hb,hu=>by
  have hs:ix s:=hu s (PU ..);have hs':s=1\/s = -1:=by rcases hs with z |z |z;exact .inl z;exact absurd z h;exact .inr z
  have ih:=Al.vr t hs' λx hx=>hu x (PP _ hx)
  show _+RM.vr (if s=0 then b else s) r=_+RM.vr (if s=0 then b else s) r';rw[if_neg h,ih]
 |b,_,_,.unst h1 h2 t,hb,hu=>by
  have ih:=Al.vr t (by omega) λx hx=>hu x (PP _ (PP _ hx))
  rw[v9 hb h1,v9 hb h2,ih]
noncomputable def sgX(row:List (List Int))(x:Rat):List Int:=row.map λf=>sgR (pv f x)
theorem nV(v:Rat):ix (sgR v):=by
 rcases cH v with⟨_,h⟩ |⟨_,h⟩ |⟨_,h⟩<;>rw[h]
 ·exact .inr (.inr rfl)
 ·exact .inr (.inl rfl)
 ·exact .inl rfl
theorem yg(row:List (List Int))(x:Rat):∀s∈sgX row x,ix s:=λs hs=>by obtain⟨f,_,rfl⟩:=PV.mp hs;exact nV _
def Ce(row:List (List Int))(R:Rat):Prop:=∃δ:Rat,0<δ/\∀x y,Bd R x->Bd R y->x<y->y-x<=δ->∀a r,row=a::r->Sta (pv a) x y->Al (sgR (pv a x)) (sgX r x) (sgX r y)
theorem DP{c:Int}(h:c≠0):sgR (c:Rat)≠0:=by
 rcases cH (c:Rat)with⟨_,e⟩ |⟨z,_⟩ |⟨_,e⟩
 ·rw[e];decide
 ·exact absurd (R4.mp (by rw[z];rfl)) h
 ·rw[e];decide
theorem zU:∀{row:List (List Int)},SRow row->∀R:Rat,0<=R->Ce row R/\Ce row.tail R
 |_,.last h,R,_=>⟨⟨1,by grind,λx y _ _ _ _ a r e _=>by cases e;exact .nil⟩,⟨1,by grind,λx y _ _ _ _ a r e _=>by cases e⟩⟩
 |_,.two (c:=c) h,R,_=>by refine⟨⟨1,by grind,λx y _ _ _ _ a r e _=>?_⟩,⟨1,by grind,λx y _ _ _ _ a r e _=>by cases e;exact .nil⟩⟩;cases e;show Al _ [sgR (pv [c] x)] [sgR (pv [c] y)];rw[sN,sN];exact .stab (DP h) .nil
 |_,.cons (a:=a) (b:=b) (c:=c) (r:=r) (q:=q) (α:=α) (β:=β) hα hβ eq h,R,hR=>by
  obtain⟨⟨δ1,d1,l1⟩,⟨δ2,d2,l2⟩⟩:=zU h R hR;refine⟨?_,⟨δ1,d1,l1⟩⟩;obtain⟨A,B,k,nA,nB,hk,hAB⟩:=BV h rfl;obtain⟨δ3,κ,d3,hκ,l3⟩:=y6 (fK b) (fK c) nA nB hk hAB hR;obtain⟨M,m0,m1,m2⟩:=fK b R hR;obtain⟨N,n0,n1,_⟩:=fK q R hR;have hMN:=Qb n0 m0;have hT:0<N*M+1:=by grind
  have hβκ:=Qa hβ hκ
  obtain⟨δ,hδ,g1,g2,g3,g4⟩:∃δ:Rat,0<δ/\δ<=δ1/\δ<=δ2/\δ<=δ3/\δ*(N*M+1)<=β*κ:=by
   have hw:=dG hβκ hT;have hw2:β*κ/(N*M+1)*(N*M+1)=β*κ:=P7 (by grind)
   have two:∀u v:Rat,0<u->0<v->∃w:Rat,0<w/\w<=u/\w<=v:=λu v hu hv=>by
    rcases Qx (a:=u) (b:=v)with z |z
    ·exact⟨u,hu,Qc,z⟩
    ·exact⟨v,hv,z,Qc⟩
   obtain⟨u,hu,u1,u2⟩:=two δ1 δ2 d1 d2;obtain⟨v,hv,v1,v2⟩:=two u δ3 hu d3;obtain⟨w,hw',w1,w2⟩:=two v _ hv hw;refine⟨w,hw',by grind,by grind,by grind,?_⟩;have:=Qf w2 (PJ hT)
   rwa [hw2]at this
  refine⟨δ,hδ,λx y hx hy hxy hd a' r' e sa=>?_⟩;cases e;show Al (sgR (pv a x)) (sgR (pv b x)::sgX (c::r) x) (sgR (pv b y)::sgX (c::r) y);by_cases sb:Sta (pv b) x y
  ·have t:=l1 x y hx hy hxy (by grind) b (c::r) rfl sb;rw[<- sb.1];exact .stab sb.2 t
  ·obtain⟨sc,c1,c2⟩:=l3 x y hx hy hxy (by grind) sb;obtain⟨b1,_⟩:=sZ sb (m2 x y hx hy (by grind));have hyx:0<y-x:=by grind
   have hop:sgR (pv c x) = -sgR (pv a x):=by
    obtain⟨f1,f2⟩:=(n1 x hx).mul b1;have e1:=eq x
    have e2:N*(M*(y-x))<β*κ:=by have h1:(y-x)*(N*M+1)<=δ*(N*M+1):=Qf hd (PJ hT);grind
    rcases c1 with z |z
    ·have h2:β*κ<=β*pv c x:=PZ z (PJ hβ);have h3:α*pv a x<0:=by grind
     have h4:pv a x<0:=by
      rcases Qx (a:=0) (b:=pv a x)with w |w
      ·have:=Qb (PJ hα) w;grind
      ·rcases cH (pv a x)with⟨w2,_⟩ |⟨w2,_⟩ |⟨w2,_⟩
       ·exact w2
       ·rw[w2]at h3;grind
       ·grind
     rcases cH (pv c x)with⟨w,_⟩ |⟨w,_⟩ |⟨_,w⟩
     ·grind
     ·grind
     ·rcases cH (pv a x)with⟨_,v⟩ |⟨v,_⟩ |⟨v,_⟩
      ·rw[w,v];decide
      ·grind
      ·grind
    ·have h2:β*pv c x<=β*(-κ):=PZ z (PJ hβ);have h3:0<α*pv a x:=by grind
     have h4:0<pv a x:=by
      rcases cH (pv a x)with⟨w2,_⟩ |⟨w2,_⟩ |⟨w2,_⟩
      ·have:=Qb (PJ hα) (show 0 <= -pv a x by grind);grind
      ·rw[w2]at h3;grind
      ·exact w2
     rcases cH (pv c x)with⟨_,w⟩ |⟨w,_⟩ |⟨w,_⟩
     ·rcases cH (pv a x)with⟨v,_⟩ |⟨v,_⟩ |⟨_,v⟩
      ·grind
      ·grind
      ·rw[w,v]
     ·grind
     ·grind
   have hop':sgR (pv c y) = -sgR (pv a x):=by rw[<- sc.1];exact hop
   have t:Al (sgR (pv c x)) (sgX r x) (sgX r y):=l2 x y hx hy hxy (by grind) c r rfl sc;rw[hop]at t;show Al _ (_::sgR (pv c x)::sgX r x) (_::sgR (pv c y)::sgX r y);rw[hop,hop'];exact .unst (nV _) (nV _) t
noncomputable def chg(f:Rat->Rat)(x y:Rat):Int:=if sgR (f x)≠0/\sgR (f y)≠sgR (f x)then 1 else 0
noncomputable def vrs(row:List (List Int))(x:Rat):Int:=vr 0 (sgX row x)
theorem pI{s:Int}(r:List Int):vr 0 (s::r)=vr s r:=by
 show(if s*0<0 then 1 else 0)+vr (if s=0 then 0 else s) r=_;rw[Qd,if_neg (by decide),QK];split
 ·rename_i h;rw[h]
 ·rfl
theorem Dk{F0 F1:List Int}{r:List (List Int)}(h:SRow (F0::F1::r)){γ:Rat}(hγ:0<γ)(hd:∀x,pv (slopeL F0) x=γ*pv F1 x){R:Rat}(hR:0<=R) :
 ∃δ:Rat,0<δ/\∀x y,Bd R x->Bd R y->x<y->y-x<=δ->vrs (F0::F1::r) x-vrs (F0::F1::r) y=chg (pv F0) x y:=by
 obtain⟨⟨δ1,d1,l1⟩,⟨δ2,d2,l2⟩⟩:=zU h R hR;obtain⟨A,B,k,nA,nB,hk,hAB⟩:=BV h rfl;obtain⟨δ3,κ,d3,hκ,l3⟩:=y6 (fK F0) (fK F1) nA nB hk hAB hR;obtain⟨M,m0,m1⟩:=yN F0 R hR;have hγκ:=Qa hγ hκ
 obtain⟨δ,hδ,g1,g2,g3,g4⟩:∃δ:Rat,0<δ/\δ<=δ1/\δ<=δ2/\δ<=δ3/\δ*(M+1)<=γ*κ:=by
  have hT:0<M+1:=by grind
  have hw:=dG hγκ hT;have hw2:γ*κ/(M+1)*(M+1)=γ*κ:=P7 (by grind)
  have two:∀u v:Rat,0<u->0<v->∃w:Rat,0<w/\w<=u/\w<=v:=λu v hu hv=>by
   rcases Qx (a:=u) (b:=v)with z |z
   ·exact⟨u,hu,Qc,z⟩
   ·exact⟨v,hv,z,Qc⟩
  obtain⟨u,hu,u1,u2⟩:=two δ1 δ2 d1 d2;obtain⟨v,hv,v1,v2⟩:=two u δ3 hu d3;obtain⟨w,hw',w1,w2⟩:=two v _ hv hw;refine⟨w,hw',by grind,by grind,by grind,?_⟩;have:=Qf w2 (PJ hT)
  rwa [hw2]at this
 refine⟨δ,hδ,λx y hx hy hxy hyd=>?_⟩;have e0:∀z,vrs (F0::F1::r) z=vr (sgR (pv F0 z)) (sgX (F1::r) z):=λz=>pI _
 have nz:∀{v:Rat},sgR v≠0->sgR v=1\/sgR v = -1:=λ{v} hv=>by rcases nV v with z |z |z;exact .inl z;exact absurd z hv;exact .inr z
 rw[e0,e0];by_cases s0:Sta (pv F0) x y
 ·have t:=(l1 x y hx hy hxy (by grind) F0 (F1::r) rfl s0).vr (nz s0.2) (yg _ _);rw[<- s0.1,t];unfold chg;rw[if_neg (λz=>z.2 s0.1.symm)];omega
 ·obtain⟨s1,c1,c2⟩:=l3 x y hx hy hxy (by grind) s0;have t:=(l2 x y hx hy hxy (by grind) F1 r rfl s1).vr (nz s1.2) (yg _ _);have hyx:0<y-x:=by grind
  have hyy:0<(y-x)*(y-x):=Qa hyx hyx;obtain⟨f1,f2⟩:=m1 x y hx hy (by grind)
  have small:M*((y-x)*(y-x))<(y-x)*(γ*κ):=by
   have h1:(y-x)*(M+1)<=γ*κ:=by have:=Qf hyd (show 0<=M+1 by grind);grind
   have h2:(y-x)*((y-x)*(M+1))<=(y-x)*(γ*κ):=PZ h1 (PJ hyx);grind
  rw[hd]at f1 f2;show vr (sgR (pv F0 x)) (sgR (pv F1 x)::sgX r x)-vr (sgR (pv F0 y)) (sgR (pv F1 y)::sgX r y)=_
  have hu:∀(b s:Int) (l:List Int),s≠0->vr b (s::l)=(if s*b<0 then 1 else 0)+vr s l:=λb s l hs=>by show _+vr (if s=0 then b else s) l=_;rw[if_neg hs]
  have s1':sgR (pv F1 y)=sgR (pv F1 x):=s1.1.symm;rw[s1',hu _ _ _ s1.2,hu _ _ _ s1.2,t];unfold chg;rcases c1 with z |z
  ·
   have h1:γ*κ<=γ*pv F1 x:=PZ z (PJ hγ);have h2:(y-x)*(γ*κ)<=(y-x)*(γ*pv F1 x):=PZ h1 (PJ hyx);have rise:pv F0 x<pv F0 y:=by grind
   have s1p:sgR (pv F1 x)=1:=by
    rcases cH (pv F1 x)with⟨w,_⟩ |⟨w,_⟩ |⟨_,w⟩
    ·grind
    ·grind
    ·exact w
   rw[s1p];rcases cH (pv F0 x)with⟨a1,a2⟩ |⟨a1,a2⟩ |⟨a1,a2⟩<;>rcases cH (pv F0 y)with⟨b1,b2⟩ |⟨b1,b2⟩ |⟨b1,b2⟩
   ·exact absurd ⟨by rw[a2,b2],by rw[a2];decide⟩ s0
   ·rw[a2,b2];simp
   ·rw[a2,b2];simp
   ·grind
   ·grind
   ·rw[a2,b2];simp
   ·grind
   ·grind
   ·exact absurd ⟨by rw[a2,b2],by rw[a2];decide⟩ s0
  ·have h1:γ*pv F1 x<=γ*(-κ):=PZ z (PJ hγ);have h2:(y-x)*(γ*pv F1 x)<=(y-x)*(γ*(-κ)):=PZ h1 (PJ hyx);have fall:pv F0 y<pv F0 x:=by grind
   have s1p:sgR (pv F1 x) = -1:=by
    rcases cH (pv F1 x)with⟨_,w⟩ |⟨w,_⟩ |⟨w,_⟩
    ·exact w
    ·grind
    ·grind
   rw[s1p];rcases cH (pv F0 x)with⟨a1,a2⟩ |⟨a1,a2⟩ |⟨a1,a2⟩<;>rcases cH (pv F0 y)with⟨b1,b2⟩ |⟨b1,b2⟩ |⟨b1,b2⟩
   ·exact absurd ⟨by rw[a2,b2],by rw[a2];decide⟩ s0
   ·grind
   ·grind
   ·rw[a2,b2];simp
   ·grind
   ·grind
   ·rw[a2,b2];simp
   ·rw[a2,b2];simp
   ·exact absurd ⟨by rw[a2,b2],by rw[a2];decide⟩ s0
structure Cut(s:Rat->Int):Prop where
 u:∀x,ix (s x)
 m:∀x y,x<y->s x<=0->s y = -1
noncomputable def cnt(S:List (Rat->Int))(x y:Rat):Int:=(S.map λs=>if 0<s x/\s y<=0 then(1:Int)else 0).sum
theorem Bv(x y:Rat):cnt [] x y=0:=rfl
theorem fm(s:Rat->Int)(S:List (Rat->Int))(x y:Rat):cnt (s::S) x y=(if 0<s x/\s y<=0 then 1 else 0)+cnt S x y:=by unfold cnt;rw[QG,List.sum_cons]
theorem uW{x y z:Rat}(hxy:x<y)(hyz:y<z):∀{S:List (Rat->Int)},(∀s∈S,Cut s)->cnt S x z=cnt S x y+cnt S y z
 | [],_=>rfl
 |s::S,h=>by
  have hs:=h s (PU ..);have ih:=uW hxy hyz (S:=S) λt ht=>h t (PP _ ht)
  rw[fm,fm,fm,ih]
  have e:(if 0<s x/\s z<=0 then(1:Int)else 0)=(if 0<s x/\s y<=0 then 1 else 0)+(if 0<s y/\s z<=0 then 1 else 0):=by
   by_cases hy:s y<=0
   ·have hz:=hs.m y z hyz hy;rw[if_neg (show ¬(0<s y/\s z<=0) by omega)];by_cases hx:0<s x
    ·rw[if_pos ⟨hx,by omega⟩,if_pos ⟨hx,hy⟩];rfl
    ·rw[if_neg (by omega),if_neg (by omega)];rfl
   ·have hx:0<s x:=by
     rcases QP 0 (s x)with q |q
     ·exact q
     ·have:=hs.m x y hxy q;omega
    rw[if_neg (show ¬(0<s x/\s y<=0) by omega)];by_cases hz:s z<=0
    ·rw[if_pos ⟨hx,hz⟩,if_pos ⟨by omega,hz⟩];rfl
    ·rw[if_neg (by omega),if_neg (by omega)];rfl
  rw[e];omega
noncomputable def cpr(x:Rat):List (Rat->Int)->Int
 | []=>1
 |s::S => -s x*cpr x S
theorem pb(x:Rat):∀a b,cpr x (a++b)=cpr x a*cpr x b
 | [],b=>by show _=1*_;rw[PY];rfl
 |s::a,b=>by show _*cpr x (a++b)=_*_*_;rw[pb x a b,P4]
def inC(s:Rat->Int)(x y:Rat):Prop:=0<=s x/\s y<=0
theorem IR{s:Rat->Int}(h:Cut s){x y:Rat}(hxy:x<y)(hn:¬inC s x y):s x=s y/\(s x=1\/s x = -1):=by
 have h1:=h.u x;have h2:=h.u y;unfold inC at hn
 by_cases hx:s x<=0
 ·have:=h.m x y hxy hx;rcases h1 with a |a |a<;>omega
 ·rcases h1 with a |a |a
  ·rcases h2 with b |b |b<;>omega
  ·omega
  ·omega
theorem tU{x y:Rat}(hxy:x<y):∀{S:List (Rat->Int)},(∀s∈S,Cut s)->(∀s∈S,¬inC s x y)->cpr x S=cpr y S/\(cpr x S=1\/cpr x S = -1)/\cnt S x y=0
 | [],_,_=>⟨rfl,.inl rfl,rfl⟩
 |s::S,h,hn=>by
  obtain⟨i1,i2,i3⟩:=tU hxy (S:=S) (λt ht=>h t (PP _ ht)) λt ht=>hn t (PP _ ht)
  obtain⟨a1,a2⟩:=IR (h s (PU ..)) hxy (hn s (PU ..));refine⟨by show -s x*cpr x S = -s y*cpr y S;rw[a1,i1],?_,?_⟩
  ·show -s x*cpr x S=1 \/ -s x*cpr x S = -1;rcases a2 with z |z<;>rcases i2 with w |w<;>rw[z,w]<;>decide
  ·rw[fm,i3,if_neg (by omega)];rfl
theorem uV(x y:Rat):∀a b,cnt (a++b) x y=cnt a x y+cnt b x y
 | [],b=>by rw[Bv];simp
 |s::a,b=>by rw[List.cons_append,fm,fm,uV x y a b];omega
theorem BD{f:Rat->Rat}{S:List (Rat->Int)}{ε:Int}(hε:ε=1\/ε = -1)(hS:∀s∈S,Cut s){x y:Rat}(hxy:x<y)(hx:sgR (f x)=ε*cpr x S)(hy:sgR (f y)=ε*cpr y S)(hp:S.Pairwise λs t=>¬(inC s x y/\inC t x y)):chg f x y=cnt S x y:=by
 by_cases hall:∀s∈S,¬inC s x y
 ·obtain⟨k1,k2,k3⟩:=tU hxy hS hall;rw[k3];unfold chg;rw[if_neg];rintro⟨_,h2⟩;exact h2 (by rw[hx,hy,k1])
 ·obtain⟨s,hs,hin⟩:∃s,s∈S/\inC s x y:=by refine Classical.byContradiction λz=>hall λs hs hi=>z ⟨s,hs,hi⟩
  obtain⟨pre,post,rfl⟩:=R5 hs
  have hno:∀t∈pre++post,¬inC t x y:=λt ht hi=>by
   rw[List.pairwise_append]at hp;rcases Qh.mp ht with z |z
   ·exact hp.2.2 t z s (PU ..) ⟨hi,hin⟩
   ·exact(List.pairwise_cons.mp hp.2.1).1 t z ⟨hin,hi⟩
  have hS':∀t∈pre++post,Cut t:=λt ht=>hS t (by
   rcases Qh.mp ht with z |z
   ·exact Q0 _ z
   ·exact Qz _ (PP _ z))
  obtain⟨k1,k2,k3⟩:=tU hxy hS' hno;have hc:=hS s hs
  have e1:∀z,cpr z (pre++s::post)=cpr z (pre++post) * -s z:=λz=>by rw[pb,pb];show cpr z pre*(-s z*cpr z post)=_;rw[P9 (-s z),P4]
  have e2:cnt (pre++s::post) x y=(if 0<s x/\s y<=0 then 1 else 0):=by rw[uV,fm];rw[uV]at k3;omega
  rw[e1]at hx hy;rw[<- k1]at hy;rw[e2];unfold inC at hin
  have h1:=hc.u x;have h2:=hc.u y;unfold chg;rw[hx,hy];generalize cpr x (pre++post)=c at *
  have hs0:s x=0->s y = -1:=λz=>hc.m x y hxy (by omega)
  rcases h1 with a |a |a
  ·rw[a];rcases h2 with b |b |b
   ·omega
   ·rw[b];rcases hε with rfl |rfl<;>rcases k2 with rfl |rfl<;>simp
   ·rw[b];rcases hε with rfl |rfl<;>rcases k2 with rfl |rfl<;>simp
  ·rw[a];simp
  ·omega
theorem Ca(q:Rat):∃n:Nat,q<=(n:Rat):=by refine⟨q.ceil.toNat,RJ (Rat.le_ceil (x:=q)) ?_⟩;have h:q.ceil<=(q.ceil.toNat:Int):=Int.self_le_toNat _;have h2:=QQ.mpr h;exact h2
theorem zp(n:Nat):(n:Rat)<=2^n:=by
 induction n with
 |zero=>decide
 |succ n ih =>
  have h1:((1:Nat):Rat)<=2^n:=by
   have:(1:Nat)<=2^n:=Q4 (by decide);have h2:((1:Nat):Rat)<=((2^n:Nat):Rat):=Rat.natCast_le_natCast.mpr this
   rwa [Rat.natCast_pow]at h2
  rw[Rat.pow_succ,Rat.natCast_add];grind
theorem ve{V:Rat->Int}{S:List (Rat->Int)}(hS:∀s∈S,Cut s){R δ:Rat}(hδ:0<δ)(h:∀x y,Bd R x->Bd R y->x<y->y-x<=δ->V x-V y=cnt S x y):∀(n:Nat) (x y:Rat),Bd R x->Bd R y->x<y->y-x<=2^n*δ->V x-V y=cnt S x y
 |0,x,y,hx,hy,hxy,hd=>h x y hx hy hxy (by rw[Rat.pow_zero]at hd;grind)
 |n+1,x,y,hx,hy,hxy,hd=>by
  have m1:x<(x+y)/2:=by grind
  have m2:(x+y)/2<y:=by grind
  have hm:Bd R ((x+y)/2):=by obtain⟨a,b⟩:=hx;obtain⟨c,d⟩:=hy;constructor<;>grind
  rw[Rat.pow_succ]at hd;have i1:=ve hS hδ h n x ((x+y)/2) hx hm m1 (by grind);have i2:=ve hS hδ h n ((x+y)/2) y hm hy m2 (by grind);rw[uW m1 m2 hS];omega
theorem Dl{F0 F1:List Int}{r:List (List Int)}(h:SRow (F0::F1::r)){γ:Rat}(hγ:0<γ)(hd:∀x,pv (slopeL F0) x=γ*pv F1 x){S:List (Rat->Int)}(hS:∀s∈S,Cut s){ε:Int}(hε:ε=1\/ε = -1)(hf:∀x,sgR (pv F0 x)=ε*cpr x S)
 {δ0:Rat} (hδ0:0<δ0) (hp:∀x y,x<y->y-x<=δ0->S.Pairwise λs t=>¬(inC s x y/\inC t x y)) {x y:Rat} (hxy:x<y):vrs (F0::F1::r) x-vrs (F0::F1::r) y=cnt S x y:=by
 obtain⟨R,hR,hx,hy⟩:∃R:Rat,0<=R/\Bd R x/\Bd R y:=by
  have ab:∀v:Rat,∃w:Rat,0<=w/\Bd w v:=λv=>by
   rcases Qx (a:=0) (b:=v)with z |z
   ·exact⟨v,z,by grind,by grind⟩
   ·exact⟨-v,by grind,by grind,by grind⟩
  obtain⟨u,u0,u1⟩:=ab x;obtain⟨v,v0,v1⟩:=ab y;exact⟨u+v,by grind,u1.mono (by grind),v1.mono (by grind)⟩
 obtain⟨δ1,d1,l1⟩:=Dk h hγ hd hR
 obtain⟨δ,hδ,g1,g2⟩:∃δ:Rat,0<δ/\δ<=δ0/\δ<=δ1:=by
  rcases Qx (a:=δ0) (b:=δ1)with z |z
  ·exact⟨δ0,hδ0,Qc,z⟩
  ·exact⟨δ1,d1,z,Qc⟩
 obtain⟨n,hn⟩:=Ca ((y-x)/δ);refine ve hS hδ (R:=R) (λx y hx hy hxy hdd=>?_) n x y hx hy hxy ?_
 ·rw[l1 x y hx hy hxy (by grind)];exact BD hε hS hxy (hf x) (hf y) (hp x y hxy (by grind))
 ·have h1:(y-x)/δ<=2^n:=RJ hn (zp n);have h2:=Qf h1 (PJ hδ)
  rwa [P7 (by grind)]at h2
theorem ue{n:Int}(hn:n≠0):(n:Rat)≠0:=λz=>hn (R4.mp (show((n:Int):Rat)=((0:Int):Rat) by rw[z];rfl))
theorem ow(q:Rat):(q.num:Rat)=q*((q.den:Int):Rat):=by
 have hd:((q.den:Int):Rat)≠0:=ue (by have:=q.den_pos;omega)
 have hx:(q.num:Rat)/((q.den:Int):Rat)=q:=by have:=Rat.mkRat_self q;rw[Rat.mkRat_eq_div]at this;exact this
 have:=P7 (a:=(q.num:Rat)) hd;rw[hx]at this;exact this.symm
theorem ER{t n:Int}(hn:0<n):((t:Rat)/(n:Rat)).num*n=t*(((t:Rat)/(n:Rat)).den:Int):=by
 have hn':(n:Rat)≠0:=ue (by omega);have hq:(t:Rat)/(n:Rat)*(n:Rat)=(t:Rat):=P7 hn';generalize (t:Rat)/(n:Rat)=q at hq ⊢
 apply R4.mp;rw[PH,PH,ow q,<- hq];grind
theorem iG{t n t' n':Int}(hn:0<n)(hn':0<n'):(t:Rat)/(n:Rat)<(t':Rat)/(n':Rat)↔t*n'<t'*n:=by
 have p1:(0:Rat)<(n:Rat):=PR.mpr hn;have p2:(0:Rat)<(n':Rat):=PR.mpr hn';have e1:(t:Rat)/(n:Rat)*(n:Rat)=(t:Rat):=P7 (by grind);have e2:(t':Rat)/(n':Rat)*(n':Rat)=(t':Rat):=P7 (by grind);generalize (t:Rat)/(n:Rat)=q at e1 ⊢
 generalize (t':Rat)/(n':Rat)=q' at e2 ⊢
 rw[<- PR,PH,PH,<- e1,<- e2];have p3:=Qa p1 p2;have e3:q*(n:Rat)*(n':Rat)=q*((n:Rat)*(n':Rat)):=by grind
 have e4:q'*(n':Rat)*(n:Rat)=q'*((n:Rat)*(n':Rat)):=by grind
 rw[e3,e4];constructor
 ·intro h;exact Ra h p3
 ·intro h;refine QR.mp λz=>?_
  have:=Qf z (PJ p3);grind
theorem yh{p v:Rat}(hp:0<p):sgR (p*v)=sgR v:=by
 rcases cH v with⟨a,b⟩ |⟨a,b⟩ |⟨a,b⟩
 ·have:p*v<0:=by have:=Qa hp (show 0 < -v by grind);grind
  rcases cH (p*v)with⟨_,d⟩ |⟨c,d⟩ |⟨c,d⟩
  ·rw[b,d]
  ·grind
  ·grind
 ·rw[a];have:p*0=0:=by grind
  rw[this]
 ·have:=Qa hp a;rcases cH (p*v)with⟨c,d⟩ |⟨c,d⟩ |⟨_,d⟩
  ·grind
  ·grind
  ·rw[b,d]
theorem DO(z:Int):sgR (z:Rat)=sg z:=by
 rcases cH (z:Rat)with⟨a,b⟩ |⟨a,b⟩ |⟨a,b⟩
 ·have:z<0:=PR.mp a;rw[b];unfold sg;rw[if_pos this]
 ·have:z=0:=R4.mp a;rw[this];rfl
 ·have:0<z:=PR.mp a;rw[b];unfold sg;rw[if_neg (by omega),if_pos this]
theorem uf{t n:Int}(hn:0<n):∀l:List Int,(hv t n l:Rat)=(n:Rat)^l.length*pv l ((t:Rat)/(n:Rat))
 | []=>by show((0:Int):Rat)=_*0;grind
 |c::l=>by
  have hn':(n:Rat)≠0:=ue (by omega);have hq:(t:Rat)/(n:Rat)*(n:Rat)=(t:Rat):=P7 hn';rw[dP,Ri,PH,PH,uf hn l,Rat.intCast_pow];show _=(n:Rat)^(l.length+1)*((c:Rat)+(t:Rat)/(n:Rat)*pv l ((t:Rat)/(n:Rat)));rw[Rat.pow_succ];generalize hqq:(t:Rat)/(n:Rat)=q at *
  rw[<- hq];grind
theorem qv{t n:Int}(hn:0<n)(l:List Int):sg (hv t n l)=sgR (pv l ((t:Rat)/(n:Rat))):=by rw[<- DO,uf hn];exact yh (Rat.pow_pos (PR.mpr hn))
def Cop2(a b:List Int):Prop:=∀d,d≠[]->Tr d->Dv d a->Dv d b->d.length<=1
theorem Hd{one other:List Int}(ho:other≠[]):∀n,cw one other*cf one n=aB (ck one other) other n-(aA (cP [] (aO one other)):Int)*cf (nxt one other) n:=λn=>by
 have h1:=ik (a:=one) ho n;have e:nxt one other=ar (cP [] (aO one other)):=by unfold nxt rst;rw[if_neg ho]
 have h2:=congrArg (λl=>cf l n) (shr_scale (l:=cP [] (aO one other)));simp only[bQ]at h2
 have h3:cf (cP [] (aO one other)) n = -cf (aO one other) n:=by rw[nq (gf _ _),bQ];omega
 rw[e,h2,h3,h1];omega
theorem CO(one other:List Int):Tr (nxt one other):=by unfold nxt;exact gk (by unfold cP;exact fX _)
theorem He{one other:List Int}(ho:other≠[]):(nxt one other).length<other.length:=by
 have h1:=gM (a:=one) ho;unfold nxt rst;rw[if_neg ho,nq (gf _ _)]
 have h2:(ar (scL (-1) (aO one other))).length<=(scL (-1) (aO one other)).length:=by unfold ar;rw[PC];exact PF _
 rw[cv]at h2;omega
theorem tO{l:List Int}(h:l.length<=1)(hne:l≠[]):∃c,l=[c]:=List.length_eq_one_iff.mp (by have:=PL.mpr hne;omega)
theorem yu:∀(n:Nat) (one other:List Int),other.length<=n->Tr one->one≠[]->Tr other->Cop2 one other->SRow (bT (n+1) one other)
 |0,one,other,hl,to,no,tt,hc=>by have e0:other=[]:=Rt (Nat.le_zero.mp hl);subst e0;have h1:=hc one no to (Dv.refl _) (Dv.nil _);obtain⟨c,rfl⟩:=tO h1 no;show SRow (if([c]:List Int)=[]then _ else[c]::bT 0 [] (nxt [c] []));rw[if_neg no];exact .last (tr_snoc (r:=[]) |>.mp to)
 |n+1,one,other,hl,to,no,tt,hc=>by
  have e:bT (n+1+1) one other=one::bT (n+1) other (nxt one other):=by show(if one=[]then _ else _)=_;rw[if_neg no]
  rw[e];by_cases ho:other=[]
  ·subst ho;have h1:=hc one no to (Dv.refl _) (Dv.nil _);obtain⟨c,rfl⟩:=tO h1 no;rw[lv];exact .last (tr_snoc (r:=[]) |>.mp to)
  have hs:=Hd (one:=one) ho;have hlen:=He (one:=one) ho;have tn:=CO one other;have fp:0<cw one other:=KQ ho tt;by_cases hn:nxt one other=[]
  ·
   have hdv:Dv other one:=⟨cw one other,ck one other,by omega,λk=>by rw[hs k,hn,cG];omega⟩;have h1:=hc other ho tt hdv (Dv.refl _);obtain⟨c,rfl⟩:=tO h1 ho;rw[hn,yw ho (by omega)];exact .two (tr_snoc (r:=[]) |>.mp tt)
  ·have hc2:Cop2 other (nxt one other):=λd dn dt h1 h2=>by
    refine hc d dn dt ?_ h1;refine Dv.up (f:=cw one other) (q:=ck one other) (r:=scL (-(aA (cP [] (aO one other)):Int)) (nxt one other)) (by omega) (λk=>?_) h1 ?_
    ·rw[hs k,bQ,QF];omega
    ·exact Dv.prop_right (x:=1) (y := -(aA (cP [] (aO one other)):Int)) (by decide) (λk=>by rw[bQ];omega) h2
   have ih:=yu n other (nxt one other) (by omega) tt ho tn hc2;have e2:bT (n+1) other (nxt one other)=other::bT n (nxt one other) (nxt other (nxt one other)):=by show(if other=[]then _ else _)=_;rw[if_neg ho]
   have n1:0<n:=by have:=PL.mpr hn;omega
   obtain⟨m,rfl⟩:∃m,n=m+1:=⟨n-1,by omega⟩;have e3:bT (m+1) (nxt one other) (nxt other (nxt one other))=nxt one other::bT m (nxt other (nxt one other)) (nxt (nxt one other) (nxt other (nxt one other))):=by show(if nxt one other=[]then _ else _)=_;rw[if_neg hn]
   rw[e2,e3]at ih ⊢
   have gp:0<(aA (cP [] (aO one other)):Int):=by
    rcases Nat.eq_zero_or_pos (aA (cP [] (aO one other)))with z |z
    ·exfalso;apply hn;refine tj tn λk=>?_
     have e:nxt one other=ar (cP [] (aO one other)):=by unfold nxt rst;rw[if_neg ho]
     rw[e];unfold ar;rw[z];unfold cf;simp[List.getD];cases(cP [] (aO one other))[k]? with
     |none=>rfl
     |some v=>simp
    ·omega
   refine .cons (q:=ck one other) (α:=(cw one other:Rat)) (β:=((aA (cP [] (aO one other)):Int):Rat)) (PR.mpr fp) (PR.mpr gp) (λx=>?_) ih;have h1:=lE (a:=one) (c:=scL (cw one other) one) (u:=cw one other) x λk=>bQ _ _ _
   have h2:=yO x (ck one other) other (af (ck one other) other) (aL _ _);have h3:=n8 (a:=af (ck one other) other) (b:=nxt one other) (c:=scL (cw one other) one) (u:=1) (v := -(aA (cP [] (aO one other)):Int)) x λk=>by rw[bQ,hs k,aL,QF];omega
   rw[<- h1,h3,h2,Ru];show((1:Int):Rat)*_+_=_;grind
theorem yR{ss:List (List Int)}(h:∀s∈ss,Pri s):aQ [1] ss=prd ss:=by unfold aQ;rw[AO,one_mul _ (iI ss λs hs=>(h s hs).pln).tr]
theorem fQ{f:List Int}(h:FacG f):Pri (ah f):=by obtain⟨u,e,b,rfl,_,_,_,_,h5,_,h7⟩:=h;exact EO h5 h7
noncomputable def iz(fs:List (List Int)):List (List Int×Nat):=fs.map λf=>(ah f,1)
theorem we{fs:List (List Int)}(hF:∀f∈fs,FacG f)(hn:(fs.map ah).Nodup):Use (iz fs):=by
 refine⟨λp hp=>?_,λp hp=>?_,?_⟩
 ·obtain⟨f,hf,rfl⟩:=PV.mp hp;exact fQ (hF f hf)
 ·obtain⟨f,hf,rfl⟩:=PV.mp hp;exact PF _
 ·unfold iz;rw[QL];exact hn
theorem wc{c:Int}{fs:List (List Int)}(hF:∀f∈fs,FacG f):whl c (iz fs)=af [c] (aQ [1] (fs.map ah)):=by
 unfold whl
 congr 1
 rw[yR λs hs=>by obtain⟨f,hf,rfl⟩:=PV.mp hs;exact fQ (hF f hf)]
 have e1:fP id (iz fs)=flt (iz fs):=kn _ λp hp=>by obtain⟨f,hf,rfl⟩:=PV.mp hp;rfl
 rw[e1,AR]
 congr 1
 unfold iz;rw[QL];rfl
theorem A7:∀us:List (List Int×Nat),fP (λ_=>0) us=[1]
 | []=>rfl
 |p::us=>by rw[fS,A7 us];rfl
theorem Ct{fs:List (List Int)}:mor (iz fs) 1=[1]:=by unfold mor;rw[kn (h:=λ_=>0) _ λp hp=>by obtain⟨f,hf,rfl⟩:=PV.mp hp;rfl];exact A7 _
theorem Fa{c:Int}{fs:List (List Int)}(hF:∀f∈fs,FacG f)(hn:(fs.map ah).Nodup)(hc:c≠0)(hl:(af [c] (aQ [1] (fs.map ah))).length<=20):Cop2 (af [c] (aQ [1] (fs.map ah))) (slopeL (af [c] (aQ [1] (fs.map ah)))):=λd dn dt h1 h2=>by
 have U:=we hF hn;have ew:=wc (c:=c) hF;obtain⟨tw,nw,_⟩:=kL U hc;have hcom:=v6 U hc (by rw[ew];exact hl);rw[Ct]at hcom;rw[<- ew]at h1 h2 hl;have h3:=(Bs (by rw[gH];omega) tw (iA tw)).all d h1 h2;rw[hcom]at h3;rcases Nat.lt_or_ge 1 d.length with z |z
 ·have:=Dv.short dn dt ((tr_snoc (r:=[])).mpr (by decide)) (show([1]:List Int).length<d.length from z) h3;cases this
 ·exact z
theorem lc{l:List Int}(h:Tr l)(hne:l≠[]):0<(aA l:Int)/\Tr (ar l)/\ar l≠[]/\∀n,cf l n=(aA l:Int)*cf (ar l) n:=by
 have e:=shr_scale (l:=l)
 have ec:∀n,cf l n=(aA l:Int)*cf (ar l) n:=λn=>by have:=congrArg (λz=>cf z n) e;simp only[bQ]at this;exact this.symm
 have hl:(ar l).length=l.length:=by unfold ar;rw[PC]
 refine⟨?_,gk h,λz=>by rw[z]at hl;exact hne (Rt hl.symm),ec⟩;rcases Nat.eq_zero_or_pos (aA l)with z |z
 ·exfalso;refine hne (tj h λk=>?_);rw[ec k,z];simp
 ·omega
theorem Cop2.shr{a b:List Int}(h:Cop2 a b)(ha:Tr a)(hna:a≠[])(hb:Tr b):Cop2 (ar a) (ar b):=λd dn dt h1 h2=>by
 obtain⟨_,_,_,ea⟩:=lc ha hna;refine h d dn dt (Dv.prop_right (x:=1) (y:=(aA a:Int)) (by decide) (λn=>by rw[ea n];omega) h1) ?_;by_cases hnb:b=[]
 ·rw[hnb];exact Dv.nil _
 ·obtain⟨_,_,_,eb⟩:=lc hb hnb;exact Dv.prop_right (x:=1) (y:=(aA b:Int)) (by decide) (λn=>by rw[eb n];omega) h2
noncomputable def sdR(l:List Int)(x:Rat):Int:=ap l x.num x.den
theorem fk(x:Rat):0<(x.den:Int):=by have:=x.den_pos;omega
theorem gq(l:List Int){t n:Int}(hn:0<n):sdR l ((t:Rat)/(n:Rat))=ap l t n:=by unfold sdR;exact k9 l (fk _) hn (ER hn)
theorem lu{l:List Int}(h:Spt l):Cut (sdR l):=by
 refine⟨λx=>?_,λx y hxy hs=>?_⟩
 ·rcases fE l x.num x.den with z |z |z
  ·exact .inl z
  ·exact .inr (.inl z)
  ·exact .inr (.inr z)
 ·exact gY h (fk x) (fk y) ((Rat.lt_iff x y).mp hxy) hs
theorem uT(x:Rat):∀ls:List (List Int),cpr x (ls.map sdR)=spr x.num x.den ls
 | []=>rfl
 |l::ls=>by show -sdR l x*_ = -ap l x.num x.den*_;rw[uT x ls];rfl
theorem uP(x:Rat):(x.num:Rat)/((x.den:Int):Rat)=x:=by have:=Rat.mkRat_self x;rw[Rat.mkRat_eq_div]at this;exact this
theorem vz{l l':List Int}(hl:Spt l)(hl':Spt l')(h:Cm l l'){x y:Rat}(hxy:x<y)(hd:y-x<=1/2^200):¬(inC (sdR l) x y/\inC (sdR l') x y):=by
 rintro⟨h1,h2⟩;have hD:(0:Rat)<2^200:=Rat.pow_pos (by decide);have hDi:((2^200:Int):Rat)=2^200:=Rat.intCast_pow 2 200;have f1:=Rat.floor_le (x*2^200);have f2:=Rat.lt_floor_add_one (x*2^200);rw[Ri]at f2
 have hd2:(y-x)*2^200<=1:=by
  have:=Qf hd (PJ hD)
  rwa [P7 (by grind)]at this
 have key:∀k:List Int,Spt k->inC (sdR k) x y->inS k ((x*2^200).floor-1) ((x*2^200).floor-1+128) (2^200):=λk hk hi=>by
  have hc:=lu hk
  have eA:((((x*2^200).floor-1:Int)):Rat)/((2^200:Int):Rat)*2^200=((x*2^200).floor:Rat)-1:=by rw[hDi,P7 (by grind),R6];rfl
  have eB:((((x*2^200).floor-1+128:Int)):Rat)/((2^200:Int):Rat)*2^200=((x*2^200).floor:Rat)-1+128:=by rw[hDi,P7 (by grind),Ri,R6];rfl
  constructor
  ·rw[<- gq k (by decide)];generalize ((((x*2^200).floor-1:Int)):Rat)/((2^200:Int):Rat)=a at *
   have hax:a<x:=by
    refine QR.mp λz=>?_
    have:=Qf z (PJ hD);grind
   rcases QP 0 (sdR k a)with w |w
   ·exact w
   ·have h3:=hc.m a x hax w;have h4:=hi.1;omega
  ·rw[<- gq k (by decide)];generalize ((((x*2^200).floor-1+128:Int)):Rat)/((2^200:Int):Rat)=b at *
   have hby:y<b:=by
    refine QR.mp λz=>?_
    have:=Qf z (PJ hD);have e1:((1:Int):Rat)=1:=rfl;grind
   have h3:=hc.m y b hby hi.2;omega
 exact h _ _ _ (Qg _) rfl (key l hl h1) (key l' hl' h2)
noncomputable def bI(ls:List (List Int))(t n t' n':Int):Int:=(ls.map λl=>if 0<ap l t n/\ap l t' n'<=0 then(1:Int)else 0).sum
theorem ko{t n t' n':Int}(hn:0<n)(hn':0<n'):∀ls:List (List Int),cnt (ls.map sdR) ((t:Rat)/(n:Rat)) ((t':Rat)/(n':Rat))=bI ls t n t' n'
 | []=>rfl
 |l::ls=>by have ih:=ko (t:=t) (t':=t') hn hn' ls;rw[QG,fm,ih,gq l hn,gq l hn'];unfold bI;rw[QG,List.sum_cons]
noncomputable def sgv(row:List (List Int))(t n:Int):List Int:=row.map λf=>sg (hv t n f)
theorem yc{t n:Int}(hn:0<n)(row:List (List Int)):sgv row t n=sgX row ((t:Rat)/(n:Rat)):=by unfold sgv sgX;exact RE λf _=>qv hn f
theorem KZ{c:Int}{fs:List (List Int)}(hF:∀f∈fs,FacG f)(hnd:(fs.map ah).Nodup)(hc:c≠0){P:List Int}(hP:P=af [c] (aQ [1] (fs.map ah)))(hl:P.length<=20){N:Nat}(hN:P.length<=N+1){t n t' n':Int}(hn:0<n)(hn':0<n')(hlt:t*n'<t'*n) :
 vr 0 (sgv (bT (N+1) (ar P) (ar (slopeL P))) t n)-vr 0 (sgv (bT (N+1) (ar P) (ar (slopeL P))) t' n')=bI (aI fs) t n t' n':=by
 have hFQ:∀f∈fs,fC f:=λf hf=>(hF f hf).q
 have U:=we hF hnd;have ew:=wc (c:=c) hF;obtain⟨tP,nP,_⟩:=kL U hc;rw[ew,<- hP]at tP nP;have cop:=Fa hF hnd hc (by rw[<- hP];exact hl);rw[<- hP]at cop;have tS:=iA tP;obtain⟨g0,t0,n0,e0⟩:=lc tP nP;have copS:=cop.shr tP nP tS;have lS:(ar (slopeL P)).length=P.length-1:=by unfold ar;rw[PC,gH]
 have hst:=yu N (ar P) (ar (slopeL P)) (by omega) t0 n0 (gk tS) copS;by_cases hs:slopeL P=[]
 ·
  have h1:P.length<=1:=by have:=congrArg List.length hs;rw[gH]at this;simp at this;omega
  have hfs:fs=[]:=by
   cases fs with
   |nil=>rfl
   |cons f fs =>
    exfalso
    have hss:∀s∈(f::fs).map ah,s≠[]/\Tr s:=λs h=>by obtain⟨x,hx,rfl⟩:=PV.mp h;exact qq (hFQ x hx)
    obtain⟨p1,p2,p3⟩:=jX ((f::fs).map ah) [1] (by simp) ((tr_snoc (r:=[])).mpr (by decide)) hss
    have hl2:2<=(ah f).length:=by obtain⟨u,e,b,rfl,hb⟩:=hFQ f (PU ..);obtain⟨_,l2⟩:=gm (u:=u) (e:=e) hb;show 2<=(aw (aJ u e b)).length;rw[plain_len];exact l2
    have hsl:∀ss:List (List Int),(∀s∈ss,s≠[])->ss.length<=sl ss:=λss=>by
     induction ss with
     |nil=>intro _;exact PF _
     |cons s ss ih =>
      intro h;have h1:=PL.mpr (h s (PU ..));have h2:=ih λx hx=>h x (PP _ hx)
      show ss.length+1<=s.length+sl ss;omega
    have h3:=hsl (fs.map ah) λs hs=>(hss s (PP _ hs)).1
    have h4:sl ((f::fs).map ah)=(ah f).length+sl (fs.map ah):=rfl
    have h5:P.length=(aQ [1] ((f::fs).map ah)).length:=by rw[hP,bV (by simp) p1];show 1+_-1=_;omega
    simp only[PC,Qw,Sf]at p3 h3;omega
  subst hfs
  have hr:bT (N+1) (ar P) (ar (slopeL P))=[ar P]:=by
   have:ar (slopeL P)=[]:=by rw[hs];rfl
   rw[this];exact yw n0 (by omega)
  rw[hr];show vr 0 [_]-vr 0 [_]=0;rw[pI,pI];rfl
 ·obtain⟨g1,t1,n1,e1⟩:=lc tS hs
  have hN1:1<=N:=by have:=PL.mpr n1;omega
  obtain⟨M,rfl⟩:∃M,N=M+1:=⟨N-1,by omega⟩
  have er:bT (M+1+1) (ar P) (ar (slopeL P))=ar P::ar (slopeL P)::bT M (nxt (ar P) (ar (slopeL P))) (nxt (ar (slopeL P)) (nxt (ar P) (ar (slopeL P)))):=by show(if ar P=[]then _ else ar P::(if ar (slopeL P)=[]then _ else _))=_;rw[if_neg n0,if_neg n1]
  rw[er]at hst ⊢;have g0':(0:Rat)<((aA P:Int):Rat):=PR.mpr g0;have g1':(0:Rat)<((aA (slopeL P):Int):Rat):=PR.mpr g1
  have hd:∀x,pv (slopeL (ar P)) x=((aA (slopeL P):Int):Rat)/((aA P:Int):Rat)*pv (ar (slopeL P)) x:=λx=>by
   have h1:=lE (a:=slopeL (ar P)) (c:=slopeL P) (u:=(aA P:Int)) x λk=>by rw[fu,fu,e0 (k+1)];grind
   have h2:=lE (a:=ar (slopeL P)) (c:=slopeL P) (u:=(aA (slopeL P):Int)) x e1;have h3:((aA (slopeL P):Int):Rat)/((aA P:Int):Rat)*((aA P:Int):Rat)=((aA (slopeL P):Int):Rat):=P7 (by grind);rw[h1]at h2
   have h4:((aA P:Int):Rat)*pv (slopeL (ar P)) x=((aA P:Int):Rat)*(((aA (slopeL P):Int):Rat)/((aA P:Int):Rat)*pv (ar (slopeL P)) x):=by
    rw[h2];generalize ((aA (slopeL P):Int):Rat)/((aA P:Int):Rat)=w at *
    rw[<- h3];grind
   generalize pv (slopeL (ar P)) x=u at *
   generalize ((aA (slopeL P):Int):Rat)/((aA P:Int):Rat)*pv (ar (slopeL P)) x=v at *
   have h5:((aA P:Int):Rat)*(u-v)=0:=by grind
   rcases Rat.mul_eq_zero.mp h5 with z |z
   ·grind
   ·grind
  have hS:∀s∈(aI fs).map sdR,Cut s:=λs hs=>by obtain⟨l,hl,rfl⟩:=PV.mp hs;exact lu (dD hFQ hl)
  have hsg:sg c=1\/sg c = -1:=by
   rcases QE hc with z |z
   ·right;unfold sg;rw[if_pos z]
   ·left;unfold sg;rw[if_neg (by omega),if_pos z]
  have hf:∀x,sgR (pv (ar P) x)=sg c*cpr x ((aI fs).map sdR):=λx=>by have h1:=lI (t:=x.num) (n:=x.den) (c:=c) (fk x) hFQ;rw[<- hP,qv (fk x),uP]at h1;rw[uT,<- h1,lE (a:=ar P) (c:=P) (u:=(aA P:Int)) x e0,yh g0']
  have hap:=pT hF hnd
  have hp:∀x y:Rat,x<y->y-x<=1/2^200->((aI fs).map sdR).Pairwise λs t=>¬(inC s x y/\inC t x y):=λx y hxy hdd=>by rw[List.pairwise_map];exact hap.imp_of_mem λ{l l'} hl hl' h=>vz (dD hFQ hl) (dD hFQ hl') h hxy hdd
  have:=Dl hst (dG g1' g0') hd hS hsg hf (dG (by decide) (Rat.pow_pos (by decide))) hp ((iG hn hn').mpr hlt);rw[ko hn hn']at this;rw[yc hn,yc hn'];exact this
theorem vc{C:Rat->Rat->Prop}(hadd:∀x y z,x<y->y<z->C x y->C y z->C x z){δ a b:Rat}(hδ:0<δ)(h:∀x y,a<=x->y<=b->x<y->y-x<=δ->C x y):∀(n:Nat) (x y:Rat),a<=x->y<=b->x<y->y-x<=2^n*δ->C x y
 |0,x,y,hx,hy,hxy,hd=>h x y hx hy hxy (by rw[Rat.pow_zero]at hd;grind)
 |n+1,x,y,hx,hy,hxy,hd=>by
  have m1:x<(x+y)/2:=by grind
  have m2:(x+y)/2<y:=by grind
  rw[Rat.pow_succ]at hd;exact hadd x _ y m1 m2 (vc hadd hδ h n x _ hx (by grind) m1 (by grind)) (vc hadd hδ h n _ y (by grind) hy m2 (by grind))
theorem qh{δ:Rat}(hδ:0<δ)(w:Rat):∃n:Nat,w<=2^n*δ:=by
 obtain⟨n,hn⟩:=Ca (w/δ);refine⟨n,?_⟩;have h1:w/δ<=2^n:=RJ hn (zp n);have h2:=Qf h1 (PJ hδ)
 rwa [P7 (by grind)]at h2
theorem pC(v:Rat):∃w:Rat,0<=w/\Bd w v:=by
 rcases Qx (a:=0) (b:=v)with z |z
 ·exact⟨v,z,by grind,by grind⟩
 ·exact⟨-v,by grind,by grind,by grind⟩
theorem IQ{f:Rat->Rat}(hf:Nice f){a b:Rat}(hab:a<b)(h:∀z,a<=z->z<=b->1<=f z\/f z <= -1):sgR (f a)=sgR (f b):=by
 obtain⟨u,u0,u1⟩:=pC a;obtain⟨v,v0,v1⟩:=pC b;obtain⟨M,m0,m1,m2⟩:=hf (u+v) (by grind)
 have hB:∀z,a<=z->z<=b->Bd (u+v) z:=λz h1 h2=>by obtain⟨p1,p2⟩:=u1;obtain⟨p3,p4⟩:=v1;constructor<;>grind
 have hT:0<M+1:=by grind
 obtain⟨n,hn⟩:=qh (dG (show(0:Rat)<1 by decide) hT) (b-a);refine vc (C:=λx y=>sgR (f x)=sgR (f y)) (λx y z _ _ h1 h2=>h1.trans h2) (dG (show(0:Rat)<1 by decide) hT) (a:=a) (b:=b) (λx y hx hy hxy hd=>?_) n a b (by grind) (by grind) hab hn
 have hd':(y-x)*(M+1)<=1:=by
  have:=Qf hd (PJ hT)
  rwa [P7 (by grind)]at this
 obtain⟨f1,f2⟩:=m2 x y (hB x hx (by grind)) (hB y (by grind) hy) (by grind);have hx1:=h x hx (by grind);have hy1:=h y (by grind) hy;rcases cH (f x)with⟨a1,a2⟩ |⟨a1,a2⟩ |⟨a1,a2⟩<;>rcases cH (f y)with⟨b1,b2⟩ |⟨b1,b2⟩ |⟨b1,b2⟩
 ·rw[a2,b2]
 ·grind
 ·grind
 ·grind
 ·grind
 ·grind
 ·grind
 ·grind
 ·rw[a2,b2]
theorem oy{s:Rat->Int}{ε:Rat}(hε:0<ε):∀(n:Nat) (x y:Rat),x<y->0<s x->s y<=0->y-x<=2^n*ε->∃x' y',x<=x'/\x'<y'/\y'<=y/\y'-x'<=ε/\0<s x'/\s y'<=0
 |0,x,y,hxy,hx,hy,hd=>⟨x,y,Qc,hxy,Qc,by rw[Rat.pow_zero]at hd;grind,hx,hy⟩
 |n+1,x,y,hxy,hx,hy,hd=>by
  have m1:x<(x+y)/2:=by grind
  have m2:(x+y)/2<y:=by grind
  rw[Rat.pow_succ]at hd;by_cases h:s ((x+y)/2)<=0
  ·obtain⟨x',y',h1,h2,h3,h4⟩:=oy hε n x _ m1 hx h (by grind);exact⟨x',y',h1,h2,by grind,h4⟩
  ·obtain⟨x',y',h1,h2,h3,h4⟩:=oy hε n _ y m2 (by omega) hy (by grind);exact⟨x',y',by grind,h2,h3,h4⟩
theorem zj{f:Rat->Rat}(hf:Nice f){S:List (Rat->Int)}{ε:Int}(hε:ε=1\/ε = -1)(hS:∀s∈S,Cut s)(hv:∀x,sgR (f x)=ε*cpr x S){δ:Rat}(hδ:0<δ)(hp:∀x y,x<y->y-x<=δ->S.Pairwise λs t=>¬(inC s x y/\inC t x y)){a b:Rat}(hab:a<b)(h:∀z,a<=z->z<=b->1<=f z\/f z <= -1){s:Rat->Int}(hs:s∈S):¬(0<s a/\s b<=0):=by
 rintro⟨ha,hb⟩;obtain⟨n,hn⟩:=qh hδ (b-a);obtain⟨x,y,h1,h2,h3,h4,h5,h6⟩:=oy hδ n a b hab ha hb hn;have hc:=BD hε hS h2 (hv x) (hv y) (hp x y h2 h4);have hsame:=IQ hf h2 λz hz1 hz2=>h z (by grind) (by grind)
 unfold chg at hc
 rw[if_neg (λz=>z.2 hsame.symm)]at hc
 have pos:∀(S:List (Rat->Int)),s∈S->1<=cnt S x y:=λS=>by
  induction S with
  |nil=>intro h;cases h
  |cons t S ih =>
   intro h
   have nn:∀S:List (Rat->Int),0<=cnt S x y:=λS=>by
    induction S with
    |nil=>exact Qg _
    |cons t S ih=>rw[fm];split<;>omega
   rw[fm];rcases PM.mp h with rfl |h
   ·rw[if_pos ⟨h5,h6⟩];have:=nn S;omega
   ·have:=ih h;split<;>omega
 have:=pos S hs;omega
theorem E7{ss:List (List Int)}(hs:∀s∈ss,s≠[]/\Tr s){t:Int}{n:Nat}(hn:0<n)(h:n^sl ss<=(pr t n ss).natAbs):1<=pv (aQ [1] ss) ((t:Rat)/((n:Int):Rat))\/pv (aQ [1] ss) ((t:Rat)/((n:Int):Rat)) <= -1:=by
 have hn':(0:Int)<(n:Int):=by omega
 obtain⟨p1,p2,p3⟩:=jX ss [1] (by simp) ((tr_snoc (r:=[])).mpr (by decide)) hs;have e1:=oW t n ss [1] (by simp) λs h=>(hs s h).1
 rw[mC,PY]at e1;have e2:=congrArg Int.natAbs e1;rw[PN,RZ,PN,Qq]at e2;have h3:n*n^sl ss<=n^ss.length*(hv t n (aQ [1] ss)).natAbs:=by rw[e2];exact Q8 _ h
 have e4:n*n^sl ss=n^ss.length*n^(aQ [1] ss).length:=by
  rw[<- Nat.pow_add,Q3,<- Rb]
  congr 1
  have:([1]:List Int).length=1:=rfl;omega
 rw[e4]at h3;have h5:=Sx h3 (Q4 hn);have e6:=uf (t:=t) hn' (aQ [1] ss);generalize pv (aQ [1] ss) ((t:Rat)/((n:Int):Rat))=q at *
 generalize hv t n (aQ [1] ss)=z at *
 have hp:(0:Rat)<((n:Int):Rat)^(aQ [1] ss).length:=Rat.pow_pos (PR.mpr hn')
 have e7:(((n^(aQ [1] ss).length:Nat):Int):Rat)=((n:Int):Rat)^(aQ [1] ss).length:=by rw[Rv,Rat.intCast_pow]
 rcases Int.le_total 0 z with w |w
 ·left;have h8:((n^(aQ [1] ss).length:Nat):Int)<=z:=by omega
  have h9:=QQ.mpr h8;rw[e7,e6]at h9;refine Qu.mp λhq=>?_
  have:=Sz hq hp;grind
 ·right;have h8:z <= -((n^(aQ [1] ss).length:Nat):Int):=by omega
  have h9:=QQ.mpr h8;rw[Ru,e7,e6]at h9;refine Qu.mp λhq=>?_
  have:=Sz hq hp;grind
theorem Dz{l:List Int}(hl:Spt l):∃M:Int,0<M/\∀T:Int,M<=T->ap l T 1<0/\0<ap l (-T) 1:=by
 obtain⟨u,e,b,s,rfl,he,hb,hs⟩:=hl;refine⟨(u.natAbs:Int)+e+1,by omega,λT hT=>?_⟩
 have h1:T<=b*T:=by have:=P6 hb (show 0<=T by omega);omega
 have g1:e+1<=b*T-u*1:=by omega
 have g2:e+1<=0-(b * -T-u*1):=by have:b * -T = -(b*T):=Rr _ _;omega
 have q1:=dL (show 0<=e+1 by omega) g1;have q2:=dL (show 0<=e+1 by omega) g2;have q3:(e+1)*(e+1)=e*e+2*e+1:=by grind
 have q4:0<=e*e:=P5 he he;rcases hs with rfl |rfl
 ·constructor
  ·show aV (e*1*1) (b*T-u*1)<0;rcases b7 (e*1*1) (b*T-u*1)with z |z |z<;>omega
  ·show 0<aV (e*1*1) (b * -T-u*1);rcases b7 (e*1*1) (b * -T-u*1)with z |z |z<;>omega
 ·constructor
  ·show 0-aV (e*1*1) (0-(b*T-u*1))<0;rcases b7 (e*1*1) (0-(b*T-u*1))with z |z |z<;>omega
  ·show 0<0-aV (e*1*1) (0-(b * -T-u*1));rcases b7 (e*1*1) (0-(b * -T-u*1))with z |z |z<;>omega
theorem wT{fs:List (List Int)}(hF:∀f∈fs,FacG f)(hnd:(fs.map ah).Nodup){B:Nat}(hB:1<=B)(hb:∀x∈(aQ [1] (fs.map ah)).take ((aQ [1] (fs.map ah)).length-1),x.natAbs<=(B-1)*(ao (aQ [1] (fs.map ah))).natAbs){l:List Int}(hl:l∈aI fs):ap l B 1<0/\0<ap l (-(B:Int)) 1:=by
 have hFQ:∀f∈fs,fC f:=λf hf=>(hF f hf).q
 have hss:∀s∈fs.map ah,s≠[]/\Tr s:=λs h=>by obtain⟨x,hx,rfl⟩:=PV.mp h;exact qq (hFQ x hx)
 have hT:Tr (aQ [1] (fs.map ah)):=(jX (fs.map ah) [1] (by simp) ((tr_snoc (r:=[])).mpr (by decide)) hss).2.1;have e1:af [1] (aQ [1] (fs.map ah))=aQ [1] (fs.map ah):=one_mul _ hT;have far:=λ(t:Int) (n:Nat)=>Ko (t:=t) (n:=n) (B:=B) (c:=1) (by decide) hss hB (by rw[e1];exact hb)
 have hspt:=dD hFQ hl;have hcut:=lu hspt
 have hS:∀s∈(aI fs).map sdR,Cut s:=λs hs=>by obtain⟨l,hl,rfl⟩:=PV.mp hs;exact lu (dD hFQ hl)
 have hf:∀x,sgR (pv (aQ [1] (fs.map ah)) x)=1*cpr x ((aI fs).map sdR):=λx=>by have h1:=lI (t:=x.num) (n:=x.den) (c:=1) (fk x) hFQ;rw[e1,qv (fk x),uP]at h1;rw[uT,h1];rfl
 have hap:=pT hF hnd
 have hp:∀x y:Rat,x<y->y-x<=1/2^200->((aI fs).map sdR).Pairwise λs t=>¬(inC s x y/\inC t x y):=λx y hxy hdd=>by rw[List.pairwise_map];exact hap.imp_of_mem λ{l l'} hl hl' h=>vz (dD hFQ hl) (dD hFQ hl') h hxy hdd
 have away:∀z:Rat,((B:Int):Rat)<=z\/z <= -((B:Int):Rat)->1<=pv (aQ [1] (fs.map ah)) z\/pv (aQ [1] (fs.map ah)) z <= -1:=λz hz=>by
  have h1:=E7 hss (t:=z.num) (n:=z.den) z.den_pos (far z.num z.den z.den_pos ?_)
  ·rw[uP]at h1;exact h1
  ·have hd:(0:Rat)<((z.den:Int):Rat):=PR.mpr (fk z);have hnum:=ow z;rcases hz with w |w
   ·have h2:=Qf w (PJ hd);rw[<- hnum,<- PH]at h2;have h3:=QQ.mp h2;have h4:((B*z.den:Nat):Int)=(B:Int)*(z.den:Int):=QC _ _;omega
   ·have h2:=Qf w (PJ hd);rw[<- hnum,<- Ru,<- PH]at h2;have h3:=QQ.mp h2;have h4:((B*z.den:Nat):Int)=(B:Int)*(z.den:Int):=QC _ _;have h5 : -(B:Int)*(z.den:Int) = -((B:Int)*(z.den:Int)):=QF _ _;omega
 obtain⟨M,hM,hfar⟩:=Dz hspt;have hmem:sdR l∈(aI fs).map sdR:=PV.mpr ⟨l,hl,rfl⟩;have δ0:(0:Rat)<1/2^200:=dG (by decide) (Rat.pow_pos (by decide))
 have int1:∀z:Int,sdR l (z:Rat)=ap l z 1:=λz=>by
  have:=gq l (t:=z) (n:=1) (by decide)
  have e:(z:Rat)/((1:Int):Rat)=(z:Rat):=by have:((1:Int):Rat)=1:=rfl;rw[this];grind
  rw[e]at this;exact this
 constructor
 ·
  have hlt:((B:Int):Rat)<((M+B:Int):Rat):=PR.mpr (by omega);have no:=zj (fK _) (.inl rfl) hS hf δ0 hp hlt (λz h1 _=>away z (.inl h1)) hmem;rw[int1,int1]at no;have hfr:=(hfar (M+B) (by omega)).1;rcases fE l B 1 with z |z |z
  ·exact absurd ⟨by omega,by omega⟩ no
  ·
   exfalso;have h1:=away (((B:Int)):Rat) (.inl Qc)
   have h2:sgR (pv (aQ [1] (fs.map ah)) ((B:Int):Rat))=0:=by
    rw[hf]
    have h3:∀(S:List (Rat->Int)) (x:Rat) (s:Rat->Int),s∈S->s x=0->cpr x S=0:=λS x s hs h0=>by obtain⟨pre,post,rfl⟩:=R5 hs;rw[pb];show _*(-s x*_)=0;rw[h0];simp
    rw[h3 _ _ _ hmem (by rw[int1];exact z)];rfl
   rcases cH (pv (aQ [1] (fs.map ah)) ((B:Int):Rat))with⟨a,c⟩ |⟨a,c⟩ |⟨a,c⟩
   ·omega
   ·grind
   ·omega
  ·omega
 ·have hlt:((-(M+B):Int):Rat)<((-(B:Int):Int):Rat):=PR.mpr (by omega);have no:=zj (fK _) (.inl rfl) hS hf δ0 hp hlt (λz _ h2=>away z (.inr (by rw[Ru]at h2;exact h2))) hmem;rw[int1,int1]at no;have hfr:=(hfar (M+B) (by omega)).2;rcases fE l (-(B:Int)) 1 with z |z |z
  ·omega
  ·exact absurd ⟨hfr,by omega⟩ no
  ·exact absurd ⟨hfr,by omega⟩ no
theorem lK{s:List Int}:∀(pre post:List (List Int)),prd (pre++s::post)=af s (prd (pre++post))
 | [],post=>rfl
 |t::pre,post=>by show af t (prd (pre++s::post))=af s (af t (prd (pre++post)));rw[lK pre post];ac_rfl
theorem zb{l:List Int}(h:Pln l):af [1] l=l:=one_mul l h.tr
theorem KP{ss:List (List Int)}(hp:∀s∈ss,Pri s)(hn:ss.Nodup){E:List Int}(hE:Pln E)(hl:E.length=3)(hd:Dv E (prd ss)):E∈ss\/∃p q,p∈ss/\q∈ss/\p≠q/\E=af p q:=by
 have ne1:E≠[1]:=λz=>by rw[z]at hl;cases hl
 obtain⟨p,hpm,hpd⟩:=(o8 ss hp hE hd).resolve_left ne1;have pp:=hp p hpm;obtain⟨q,hq,eq⟩:=Dv.fellow pp.pln hE.tr hE.ne hpd;rw[hE.plain]at eq;have hlen:=bV hq.ne pp.pln.ne;rw[eq,hl]at hlen;have l2:=pp.two;have ql:=PL.mpr hq.ne;rcases Nat.lt_or_ge p.length 3 with z |z
 ·
  have lp:p.length=2:=by omega
  have lq:q.length=2:=by omega
  obtain⟨pre,post,rfl⟩:=R5 hpm
  have hd2:Dv (af p q) (af p (prd (pre++post))):=by
   rw[<- lK];have:af p q=E:=by rw[<- eq];ac_rfl
   rw[this];exact hd
  have hd3:=Dv.cancel pp.pln.ne pp.pln.tr hd2
  have ho:∀s∈pre++post,Pri s:=λs hs=>hp s (by
   rcases Qh.mp hs with w |w
   ·exact Q0 _ w
   ·exact Qz _ (PP _ w))
  have nq1:q≠[1]:=λw=>by rw[w]at lq;cases lq
  obtain⟨p',hpm',hpd'⟩:=(o8 (pre++post) ho hq hd3).resolve_left nq1;have pp':=ho p' hpm';obtain⟨r,hr,er⟩:=Dv.fellow pp'.pln hq.tr hq.ne hpd';rw[hq.plain]at er;have hlen':=bV hr.ne pp'.pln.ne;rw[er,lq]at hlen';have l2':=pp'.two;have rl:=PL.mpr hr.ne;have r1:=hr.const (by omega);rw[r1,zb pp'.pln]at er
  have hmem:p'∈pre++p::post:=by
   rcases Qh.mp hpm' with w |w
   ·exact Q0 _ w
   ·exact Qz _ (PP _ w)
  refine .inr ⟨p,p',hpm,hmem,λw=>?_,?_⟩
  ·rw[List.nodup_append]at hn;rcases Qh.mp hpm' with y |y
   ·exact hn.2.2 p' y p (PU ..) w.symm
   ·exact(Q2.mp hn.2.1).1 (w ▸ y)
  ·rw[er,<- eq];ac_rfl
 ·left;have q1:=hq.const (by omega);rw[q1,zb pp.pln]at eq;rw[<- eq];exact hpm
theorem uM(u b:Int)(x:Rat):((b*x.num-u*(x.den:Int):Int):Rat)=((b:Rat)*x-(u:Rat))*((x.den:Int):Rat):=by rw[R6,PH,PH,ow x];grind
theorem Hi(u b:Int)(x:Rat):b*x.num-u*(x.den:Int)<0↔(b:Rat)*x-(u:Rat)<0:=by
 have hd:(0:Rat)<((x.den:Int):Rat):=PR.mpr (fk x);rw[<- PR,uM];constructor
 ·intro h;refine QR.mp λz=>?_
  have:=Qb z (PJ hd);have e:((0:Int):Rat)=0:=rfl;grind
 ·intro h;have:=Qa (show 0 < -((b:Rat)*x-(u:Rat)) by grind) hd;have e:((0:Int):Rat)=0:=rfl;grind
theorem wL(u e b:Int)(x:Rat):((b*x.num-u*(x.den:Int))*(b*x.num-u*(x.den:Int))<e*(x.den:Int)*(x.den:Int)↔((b:Rat)*x-(u:Rat))*((b:Rat)*x-(u:Rat))<(e:Rat))/\(e*(x.den:Int)*(x.den:Int)<(b*x.num-u*(x.den:Int))*(b*x.num-u*(x.den:Int))↔(e:Rat)<((b:Rat)*x-(u:Rat))*((b:Rat)*x-(u:Rat))):=by
 have hd:(0:Rat)<((x.den:Int):Rat):=PR.mpr (fk x);have hdd:=Qa hd hd;have e1:(((b*x.num-u*(x.den:Int))*(b*x.num-u*(x.den:Int)):Int):Rat)=((b:Rat)*x-(u:Rat))*((b:Rat)*x-(u:Rat))*(((x.den:Int):Rat)*((x.den:Int):Rat)):=by rw[PH,uM];grind
 have e2:((e*(x.den:Int)*(x.den:Int):Int):Rat)=(e:Rat)*(((x.den:Int):Rat)*((x.den:Int):Rat)):=by rw[PH,PH];grind
 have key:∀p q:Rat,(p*(((x.den:Int):Rat)*((x.den:Int):Rat))<q*(((x.den:Int):Rat)*((x.den:Int):Rat)))↔p<q:=λp q=>⟨λh=>QR.mp λz=>by
  have:=Qf z (PJ hdd)
  grind,λh=>Ra h hdd⟩
 constructor
 ·rw[<- PR,e1,e2,key]
 ·rw[<- PR,e1,e2,key]
theorem jI{u e b:Int}(x:Rat):(0<sdR [u,e,b,1] x↔(b:Rat)*x-(u:Rat)<0\/((b:Rat)*x-(u:Rat))*((b:Rat)*x-(u:Rat))<(e:Rat)):=by have h:sdR [u,e,b,1] x=aV (e*(x.den:Int)*(x.den:Int)) (b*x.num-u*(x.den:Int)):=rfl;rw[h,<- Hi,<- (wL u e b x).1];rcases b7 (e*(x.den:Int)*(x.den:Int)) (b*x.num-u*(x.den:Int))with⟨z,w⟩ |⟨z,w⟩ |⟨z,w⟩<;>rw[z]<;>omega
theorem ng{u e b:Int}(x:Rat):(0<sdR [u,e,b,-1] x↔(b:Rat)*x-(u:Rat)<=0/\(e:Rat)<((b:Rat)*x-(u:Rat))*((b:Rat)*x-(u:Rat))):=by
 have h:sdR [u,e,b,-1] x=0-aV (e*(x.den:Int)*(x.den:Int)) (0-(b*x.num-u*(x.den:Int))):=rfl;have e1:(0-(b*x.num-u*(x.den:Int)))*(0-(b*x.num-u*(x.den:Int)))=(b*x.num-u*(x.den:Int))*(b*x.num-u*(x.den:Int)):=by grind
 have hle:(b:Rat)*x-(u:Rat)<=0↔0<=0-(b*x.num-u*(x.den:Int)):=by
  have hd:(0:Rat)<((x.den:Int):Rat):=PR.mpr (fk x);have e3:=uM u b x;constructor
  ·intro h
   have:¬(0<b*x.num-u*(x.den:Int)):=λz=>by have z':=PR.mpr z;rw[e3]at z';have:=Qb (show 0 <= -((b:Rat)*x-(u:Rat)) by grind) (PJ hd);have e:((0:Int):Rat)=0:=rfl;grind
   omega
  ·intro h;refine Qu.mp λz=>?_
   have:=Qa z hd;rw[<- e3]at this;have:=PR.mp (show((0:Int):Rat)<_ from this);omega
 rw[h,hle,<- (wL u e b x).2];rcases b7 (e*(x.den:Int)*(x.den:Int)) (0-(b*x.num-u*(x.den:Int)))with⟨z,w⟩ |⟨z,w⟩ |⟨z,w⟩<;>rw[z]<;>rw[e1]at w<;>omega
structure Two(u e b x y x' y':Rat):Prop where
 xp:b*x-u<0\/(b*x-u)*(b*x-u)<e
 yp:0<=b*y-u/\e<=(b*y-u)*(b*y-u)
 xm:b*x'-u<=0/\e<(b*x'-u)*(b*x'-u)
 ym:0<b*y'-u\/(b*y'-u)*(b*y'-u)<=e
theorem Ep{a c:Rat}(hc:0<=c)(h:a*a<c*c):a<c:=QR.mp λz=>by have:=Qb (show 0<=a-c by grind) (show 0<=a+c by grind);grind
theorem Er{a c:Rat}(hc:0<=c)(h:a*a<=c*c):a<=c:=Qu.mp λz=>by have:=Qa (show 0<a-c by grind) (show 0<a+c by grind);grind
theorem Two.sum{u e b x y x' y':Rat}(h:Two u e b x y x' y'):2*u<=b*(y+y')/\b*(x+x')<2*u:=by
 obtain⟨xp,yp,xm,ym⟩:=h;constructor
 ·rcases ym with z |z
  ·grind
  ·have : -(b*y'-u)<=b*y-u:=Er yp.1 (by grind);grind
 ·rcases xp with z |z
  ·grind
  ·have:b*x-u < -(b*x'-u):=Ep (by grind) (by grind);grind
noncomputable def mx(a b:Rat):Rat:=if a<b then b else a
theorem zu(a b:Rat):a<=mx a b:=by unfold mx;split<;>grind
theorem zt(a b:Rat):b<=mx a b:=by unfold mx;split<;>grind
theorem zv(a b:Rat):mx a b=a\/mx a b=b:=by unfold mx;split<;>simp
theorem bil{X Y X' Y' a a' m:Rat}(h1:X<=a)(h2:a<=Y)(h3:X'<=a')(h4:a'<=Y')(c1:X*X'<=m)(c2:X*Y'<=m)(c3:Y*X'<=m)(c4:Y*Y'<=m):a*a'<=m:=by
 have g1:X*a'<=m:=by
  rcases Qx (a:=0) (b:=X)with z |z
  ·have:=Qb z (show 0<=Y'-a' by grind);grind
  ·have:=Qb (show 0 <= -X by grind) (show 0<=a'-X' by grind);grind
 have g2:Y*a'<=m:=by
  rcases Qx (a:=0) (b:=Y)with z |z
  ·have:=Qb z (show 0<=Y'-a' by grind);grind
  ·have:=Qb (show 0 <= -Y by grind) (show 0<=a'-X' by grind);grind
 rcases Qx (a:=0) (b:=a')with z |z
 ·have:=Qb z (show 0<=Y-a by grind);grind
 ·have:=Qb (show 0 <= -a' by grind) (show 0<=a-X by grind);grind
theorem Two.prod{u e b x y x' y' m w N:Rat}(h:Two u e b x y x' y')(hb:0<b)(he:0<e)(hirr:∀q:Rat,q*q≠e)(hxy:x<y)(hxy':x'<y')(hw:y-x<=w)(hw':y'-x'<=w)(n1:Bd N x)(n2:Bd N y)(n3:Bd N x')(n4:Bd N y')
 (c1:x*x'<=m) (c2:x*y'<=m) (c3:y*x'<=m) (c4:y*y'<=m) (hm:m=x*x'\/m=x*y'\/m=y*x'\/m=y*y'):u*u-e<b*b*m/\b*b*m<=u*u-e+2*(b*b)*(w*N):=by
 have hs:=h.sum;obtain⟨xp,yp,xm,ym⟩:=h;have hbb:=Qa hb hb
 have scale:∀a a':Rat,b*x-u<=a->a<=b*y-u->b*x'-u<=a'->a'<=b*y'-u->(a+u)*(a'+u)<=b*b*m:=λa a' g1 g2 g3 g4=>by
  have e1:∀p q:Rat,b*p*(b*q)=b*b*(p*q):=λp q=>by grind
  have k:∀p q:Rat,p*q<=m->b*p*(b*q)<=b*b*m:=λp q hpq=>by rw[e1];exact PZ hpq (PJ hbb)
  exact bil (X:=b*x) (Y:=b*y) (X':=b*x') (Y':=b*y') (by grind) (by grind) (by grind) (by grind) (k _ _ c1) (k _ _ c2) (k _ _ c3) (k _ _ c4)
 constructor
 ·obtain⟨a,a0,ae,ax,ay,am⟩:∃a:Rat,0<=a/\a*a<e/\b*x-u<=a/\a<=b*y-u /\ -(b*y'-u)<=a/\a <= -(b*x'-u):=by
   have p1:=zu (b*x-u) (mx (-(b*y'-u)) 0);have p2:=zt (b*x-u) (mx (-(b*y'-u)) 0);have p3:=zu (-(b*y'-u)) 0;have p4:=zt (-(b*y'-u)) 0
   have hX:b*x-u<=b*y-u:=by have:=Qa hb (show 0<y-x by grind);grind
   have hX':b*x'-u<=b*y'-u:=by have:=Qa hb (show 0<y'-x' by grind);grind
   have q1:=zv (b*x-u) (mx (-(b*y'-u)) 0);have q2:=zv (-(b*y'-u)) 0;have hxm:=xm.1;have hyp:=yp.1;refine⟨mx (b*x-u) (mx (-(b*y'-u)) 0),by grind,?_,p1,?_,by grind,?_⟩
   ·rcases q1 with z |z
    ·rw[z]at p2 ⊢;rcases xp with w |w
     ·grind
     ·exact w
    ·rw[z];rcases q2 with z2 |z2
     ·rw[z2]at p4 ⊢;have e1 : -(b*y'-u) * -(b*y'-u)=(b*y'-u)*(b*y'-u):=by grind
      rw[e1];rcases ym with w |w
      ·grind
      ·have:=hirr (b*y'-u);grind
     ·rw[z2];grind
   ·rcases q1 with z |z
    ·rw[z];exact hX
    ·rw[z];rcases q2 with z2 |z2
     ·rw[z2];grind
     ·rw[z2];exact hyp
   ·rcases q1 with z |z
    ·rw[z];grind
    ·rw[z];rcases q2 with z2 |z2
     ·rw[z2];grind
     ·rw[z2];grind
  have:=scale a (-a) ax ay (by grind) (by grind);grind
 ·obtain⟨c,c0,ce,cx,cy,cm,cm'⟩:∃c:Rat,0<=c/\e<=c*c/\b*x-u<=c/\c<=b*y-u /\ -(b*y'-u)<=c/\c <= -(b*x'-u):=by
   have hX:b*x-u<=b*y-u:=by have:=Qa hb (show 0<y-x by grind);grind
   have hX':b*x'-u<=b*y'-u:=by have:=Qa hb (show 0<y'-x' by grind);grind
   rcases Qx (a:=b*y-u) (b := -(b*x'-u))with z |z
   ·exact⟨b*y-u,yp.1,yp.2,hX,Qc,by grind,z⟩
   ·refine⟨-(b*x'-u),by grind,by grind,by grind,z,by grind,Qc⟩
  have hbw:0<=b*w:=Qb (PJ hb) (by grind)
  have side:∀p q:Rat,b*x-u<=b*p-u->b*p-u<=b*y-u->b*x'-u<=b*q-u->b*q-u<=b*y'-u->Bd N p->b*b*(p*q)<=u*u-e+2*(b*b)*(w*N):=λp q g1 g2 g3 g4 hp=>by
   have w1:b*(y-x)<=b*w:=PZ hw (PJ hb);have w2:b*(y'-x')<=b*w:=PZ hw' (PJ hb);have d1:Bd (b*w) (b*p-u-c):=⟨by grind,by grind⟩;have d2:Bd (b*w) (b*q-u+c):=⟨by grind,by grind⟩;have bN1:b*x'<=u-c/\u-c<=b*y':=⟨by grind,by grind⟩
   have k1 : -(b*N)<=b*x':=by have:=PZ n3.1 (PJ hb);grind
   have k2:b*y'<=b*N:=PZ n4.2 (PJ hb);have d3:Bd (b*N) (u-c):=⟨by grind,by grind⟩
   have d4:Bd (b*N) (b*p):=by obtain⟨r1,r2⟩:=hp;have s1:=PZ r1 (PJ hb);have s2:=PZ r2 (PJ hb);exact⟨by grind,s2⟩
   obtain⟨_,z1⟩:=d1.mul d3;obtain⟨_,z2⟩:=d2.mul d4;have e1:b*b*(p*q)=(c+u)*(u-c)+((b*p-u-c)*(u-c)+(b*q-u+c)*(b*p)):=by grind
   have e2:b*w*(b*N)=b*b*(w*N):=by grind
   rw[e2]at z1 z2;grind
  have hX:b*x-u<=b*y-u:=by have:=Qa hb (show 0<y-x by grind);grind
  have hX':b*x'-u<=b*y'-u:=by have:=Qa hb (show 0<y'-x' by grind);grind
  rcases hm with rfl |rfl |rfl |rfl
  ·exact side x x' Qc hX Qc hX' n1
  ·exact side x y' Qc hX hX' Qc n1
  ·exact side y x' hX Qc Qc hX' n2
  ·exact side y y' hX Qc hX' Qc n2
theorem AS{c t b Z:Int}(hb:0<b)(h1:(Z:Rat)<=(c:Rat)*((t:Rat)/(b:Rat)))(h2:(c:Rat)*((t:Rat)/(b:Rat))<(Z:Rat)+1):c*t/b=Z:=by
 have hb':(0:Rat)<(b:Rat):=PR.mpr hb;have e1:(t:Rat)/(b:Rat)*(b:Rat)=(t:Rat):=P7 (by grind);have g1:=Qf h1 (PJ hb');have g2:=Ra h2 hb'
 have e2:(c:Rat)*((t:Rat)/(b:Rat))*(b:Rat)=((c*t:Int):Rat):=by
  rw[PH];generalize (t:Rat)/(b:Rat)=q at *
  rw[<- e1];grind
 rw[e2]at g1 g2
 have i1:Z*b<=c*t:=by have:=g1;rw[<- PH]at this;exact QQ.mp this
 have i2:c*t<(Z+1)*b:=by
  have e3:((Z:Rat)+1)*(b:Rat)=(((Z+1)*b:Int):Rat):=by rw[PH,Ri];rfl
  rw[e3]at g2;exact PR.mp g2
 refine Int.le_antisymm ?_ ?_
 ·have:=(Int.ediv_lt_iff_lt_mul hb).mpr i2;omega
 ·exact(Int.le_ediv_iff_mul_le hb).mpr i1
theorem Bw{x y:Rat}:∀{S:List (Rat->Int)},(S.Pairwise λs t=>¬(inC s x y/\inC t x y))->cnt S x y<=1
 | [],_=>by rw[Bv];decide
 |s::S,h=>by
  obtain⟨h1,h2⟩:=List.pairwise_cons.mp h;rw[fm];have ih:=Bw h2;by_cases hs:0<s x/\s y<=0
  ·rw[if_pos hs]
   have z:∀(S:List (Rat->Int)),(∀t∈S,¬(inC s x y/\inC t x y))->cnt S x y=0:=λS=>by
    induction S with
    |nil=>intro _;rfl
    |cons t S ih =>intro h;rw[fm,ih λu hu=>h u (PP _ hu),if_neg λw=>h t (PU ..) ⟨⟨PD hs.1,hs.2⟩,⟨PD w.1,w.2⟩⟩];rfl
   rw[z S h1];decide
  ·rw[if_neg hs];omega
theorem mJ(ls:List (List Int))(t n t' n':Int):0<=bI ls t n t' n':=by
 induction ls with
 |nil=>exact Qg _
 |cons l ls ih =>
  unfold bI at ih ⊢
  rw[QG,List.sum_cons];split<;>omega
theorem du(l:List Int)(ls:List (List Int))(t n t' n':Int):bI (l::ls) t n t' n'=(if 0<ap l t n/\ap l t' n'<=0 then 1 else 0)+bI ls t n t' n':=by unfold bI;rw[QG,List.sum_cons]
theorem Le{fs:List (List Int)}(hF:∀f∈fs,fC f){a1 a2 b1 b2 c1 c2:Int}(a:0<a2)(b:0<b2)(c:0<c2)(h1:a1*b2<b1*a2)(h2:b1*c2<c1*b2):bI (aI fs) a1 a2 c1 c2=bI (aI fs) a1 a2 b1 b2+bI (aI fs) b1 b2 c1 c2:=by
 have hS:∀s∈(aI fs).map sdR,Cut s:=λs hs=>by obtain⟨l,hl,rfl⟩:=PV.mp hs;exact lu (dD hF hl)
 rw[<- ko a c,<- ko a b,<- ko b c];exact uW ((iG a b).mpr h1) ((iG b c).mpr h2) hS
theorem Ld{fs:List (List Int)}(hF:∀f∈fs,FacG f)(hn:(fs.map ah).Nodup){l1 l2 h1 h2:Int}(l2p:0<l2)(h2p:0<h2)(lt:l1*h2<h1*l2)(hw:(h1*l2-l1*h2)*2^200<=l2*h2):bI (aI fs) l1 l2 h1 h2<=1:=by
 rw[<- ko l2p h2p];refine Bw ?_;rw[List.pairwise_map]
 have hd:(h1:Rat)/(h2:Rat)-(l1:Rat)/(l2:Rat)<=1/2^200:=by
  have L2:(0:Rat)<(l2:Rat):=PR.mpr l2p;have H2:(0:Rat)<(h2:Rat):=PR.mpr h2p;have e1:(l1:Rat)/(l2:Rat)*(l2:Rat)=(l1:Rat):=P7 (QH L2);have e2:(h1:Rat)/(h2:Rat)*(h2:Rat)=(h1:Rat):=P7 (QH H2);generalize (l1:Rat)/(l2:Rat)=x at e1 ⊢
  generalize (h1:Rat)/(h2:Rat)=y at e2 ⊢
  have hw':((h1:Rat)*(l2:Rat)-(l1:Rat)*(h2:Rat))*2^200<=(l2:Rat)*(h2:Rat):=by have:=QQ.mpr hw;rw[PH,PH,R6,PH,PH]at this;exact this
  have M:(0:Rat)<(l2:Rat)*(h2:Rat):=Qa L2 H2;have P:(0:Rat)<2^200:=Rat.pow_pos (by decide);rw[<- e1,<- e2]at hw';have e3:(y*(h2:Rat)*(l2:Rat)-x*(l2:Rat)*(h2:Rat))*2^200=((y-x)*2^200)*((l2:Rat)*(h2:Rat)):=by grind
  rw[e3]at hw'
  have h4:(y-x)*2^200<=1:=by
   refine Qu.mp λz=>?_
   have:=Qa (show 0<(y-x)*2^200-1 by grind) M;grind
  have e5:(1:Rat)/2^200*2^200=1:=P7 (QH P);refine Qu.mp λz=>?_
  have:=Qa (show 0<(y-x)-1/2^200 by grind) P;grind
 exact(pT hF hn).imp_of_mem λ{l l'} hl hl' h=>vz (dD (λf hf=>(hF f hf).q) hl) (dD (λf hf=>(hF f hf).q) hl') h ((iG l2p h2p).mpr lt) hd
theorem By{l1 l2 h1 h2:Int}:∀{ls:List (List Int)},bI ls l1 l2 h1 h2=0->∀x∈ls,¬(0<ap x l1 l2/\ap x h1 h2<=0)
 | [],_,x,hx=>nomatch hx
 |l::ls,h,x,hx=>by
  rw[du]at h;have nn:=mJ ls l1 l2 h1 h2;by_cases hl:0<ap l l1 l2/\ap l h1 h2<=0
  ·rw[if_pos hl]at h;omega
  ·rw[if_neg hl]at h;rcases PM.mp hx with rfl |z
   ·exact hl
   ·exact By (by omega) x z
theorem mI{l1 l2 h1 h2:Int}:∀{ls:List (List Int)},bI ls l1 l2 h1 h2=1->∃pre s post,ls=pre++s::post/\(0<ap s l1 l2/\ap s h1 h2<=0)/\∀x∈pre++post,¬(0<ap x l1 l2/\ap x h1 h2<=0)
 | [],h=>by cases h
 |l::ls,h=>by
  rw[du]at h;by_cases hl:0<ap l l1 l2/\ap l h1 h2<=0
  ·rw[if_pos hl]at h;exact⟨[],l,ls,rfl,hl,By (ls:=ls) (by omega)⟩
  ·rw[if_neg hl]at h;obtain⟨pre,s,post,rfl,e2,e3⟩:=mI (l1:=l1) (l2:=l2) (h1:=h1) (h2:=h2) (ls:=ls) (by omega);refine⟨l::pre,s,post,rfl,e2,λx hx=>?_⟩;rcases PM.mp hx with rfl |z
   ·exact hl
   ·exact e3 x z
theorem BA{l1 l2 h1 h2:Int}:∀{ls:List (List Int)} {s:List Int},s∈ls->(0<ap s l1 l2/\ap s h1 h2<=0)->1<=bI ls l1 l2 h1 h2
 |l::ls,s,hs,h=>by
  rw[du];have nn:=mJ ls l1 l2 h1 h2;rcases PM.mp hs with rfl |z
  ·rw[if_pos h];omega
  ·have:=BA z h;split<;>omega
structure Dya(B:Int)(d:Nat)(l1 l2 h1 h2:Int):Prop where
 l2p:0<l2
 h2p:0<h2
 gl:Nat.gcd l1.natAbs l2.natAbs=1
 gh:Nat.gcd h1.natAbs h2.natAbs=1
 at':∃m:Int,0<=m/\m+1<=2^d/\l1*2^d=(2*m*B-B*2^d)*l2/\h1*2^d=(2*(m+1)*B-B*2^d)*h2
theorem Bc{X l1 l2:Int}{d k:Nat}(l2p:0<l2)(g:Nat.gcd l1.natAbs l2.natAbs=1)(e:l1*2^d=X*l2)(hX:X.natAbs<=2^k)(hk:d<=k):l1.natAbs<=2^k/\l2.natAbs<=2^k:=by
 have e':l1.natAbs*2^d=X.natAbs*l2.natAbs:=by have:=congrArg Int.natAbs e;rw[PN,PN,RZ]at this;exact this
 have hd:l2.natAbs∣2^d:=by refine Nat.Coprime.dvd_of_dvd_mul_left (k:=l2.natAbs) (m:=l1.natAbs) (by rw[Nat.Coprime,RW];exact g) ?_;exact⟨X.natAbs,by rw[e',Q3]⟩
 have p2:0<2^d:=Q4 (by decide);have hle:=Nat.le_of_dvd p2 hd;refine⟨?_,PX hle (Rn (by decide) hk)⟩;have h1:l1.natAbs*2^d<=X.natAbs*2^d:=by rw[e'];exact Q8 _ hle
 exact PX (Sw h1 p2) hX
theorem zd{B D m:Int}{N:Nat}(hN:(N:Int)=B*D)(B0:0<B)(m0:0<=m)(m1:m<=D):(2*m*B-B*D).natAbs<=N:=by
 have k1:0<=m*B:=P5 m0 (PD B0);have k2:m*B<=D*B:=P6 m1 (PD B0);have k4:D*B=B*D:=P9 _ _;have k5:2*m*B=2*(m*B):=P4 _ _ _;rw[k5];generalize m*B=x at *
 generalize B*D=y at *
 omega
theorem Dya.bits{kb d:Nat}{l1 l2 h1 h2:Int}(h:Dya (2^kb) d l1 l2 h1 h2):(l1.natAbs<=2^(kb+d)/\l2.natAbs<=2^(kb+d))/\h1.natAbs<=2^(kb+d)/\h2.natAbs<=2^(kb+d):=by
 obtain⟨l2p,h2p,gl,gh,m,m0,m1,e1,e2⟩:=h;have B0:(0:Int)<2^kb:=Qs (by decide);have eq:(((2:Nat)^(kb+d):Nat):Int)=2^kb*2^d:=by rw[Rv,RH];rfl
 exact⟨Bc l2p gl e1 (zd eq B0 m0 (by omega)) (by omega),Bc h2p gh e2 (zd eq B0 (by omega) m1) (by omega)⟩
theorem Dya.width{B:Int}{d:Nat}{l1 l2 h1 h2:Int}(h:Dya B d l1 l2 h1 h2):(h1*l2-l1*h2)*2^d=2*B*(l2*h2):=by obtain⟨l2p,h2p,gl,gh,m,m0,m1,e1,e2⟩:=h;grind
theorem Dya.lt{B:Int}(hB:0<B){d:Nat}{l1 l2 h1 h2:Int}(h:Dya B d l1 l2 h1 h2):l1*h2<h1*l2:=by
 have w:=h.width;have p:(0:Int)<2^d:=Qs (by decide);have q:0<2*B*(l2*h2):=PB (by omega) (PB h.l2p h.h2p);rw[<- w]at q
 have:0<h1*l2-l1*h2:=Qm.mp λz=>by have:=Int.mul_nonpos_of_nonpos_of_nonneg z (PD p);omega
 omega
theorem Dya.start{B:Int}:Dya B 0 (-B) 1 B 1:=⟨by decide,by decide,Si _,Si _,0,by decide,by decide,by grind,by grind⟩
theorem Dya.half{B:Int}{d:Nat}{l1 l2 h1 h2 c1 c2:Int}(h:Dya B d l1 l2 h1 h2)(c2p:0<c2)(gc:Nat.gcd c1.natAbs c2.natAbs=1)(e:c1*(2*l2*h2)=(l1*h2+h1*l2)*c2):Dya B (d+1) l1 l2 c1 c2/\Dya B (d+1) c1 c2 h1 h2:=by
 obtain⟨l2p,h2p,gl,gh,m,m0,m1,e1,e2⟩:=h
 have ec:c1*2^(d+1)=(2*(2*m+1)*B-B*2^(d+1))*c2:=by
  have hp:0<l2*h2:=PB l2p h2p;refine RX (a:=l2*h2) (by omega) ?_;rw[Ql];have q1:c1*(2^d*2)*(l2*h2)=c1*(2*l2*h2)*2^d:=by grind
  rw[q1,e];have q2:(l1*h2+h1*l2)*c2*2^d=(l1*2^d*h2+h1*2^d*l2)*c2:=by grind
  rw[q2,e1,e2];grind
 have p2:(2:Int)^(d+1)=2^d*2:=Ql ..;refine⟨⟨l2p,c2p,gl,gc,2*m,by omega,by omega,?_,ec⟩,⟨c2p,h2p,gc,gh,2*m+1,by omega,by omega,ec,?_⟩⟩
 ·rw[p2,<- P4,e1];grind
 ·rw[p2,<- P4,e2];grind
theorem Dya.few{fs:List (List Int)}(hF:∀f∈fs,FacG f)(hn:(fs.map ah).Nodup){kb d:Nat}{l1 l2 h1 h2:Int}(h:Dya (2^kb) d l1 l2 h1 h2)(hd:kb+201<=d):bI (aI fs) l1 l2 h1 h2<=1:=by
 have B0:(0:Int)<2^kb:=Qs (by decide);refine Ld hF hn h.l2p h.h2p (h.lt B0) ?_;have w:=h.width;obtain⟨j,rfl⟩:∃j,d=kb+201+j:=⟨d-(kb+201),by omega⟩
 have e:(2:Int)^(kb+201+j)=2*2^kb*(2^200*2^j):=by rw[RH,RH,show(2:Int)^201=2*2^200 by decide];grind
 have j0:(1:Int)<=2^j:=by have:=Qs (n:=2) (m:=j) (by decide);omega
 rw[e]at w;have lp:=h.lt B0;have e2:(h1*l2-l1*h2)*(2*2^kb*(2^200*2^j))=2*2^kb*((h1*l2-l1*h2)*2^200*2^j):=by grind
 rw[e2]at w;have w2:=RI (show 2*(2:Int)^kb≠0 by omega) w;have q:0<=(h1*l2-l1*h2)*2^200:=P5 (by omega) (PD (Qs (by decide)));have:=QA j0 q;rw[P8]at this;rw[<- w2];exact this
noncomputable def prQ(fs:List (List Int)):List Int:=aQ [1] (fs.map ah)
structure Fam(fs:List (List Int)):Prop where
 fac:∀f∈fs,FacG f
 nd:(fs.map ah).Nodup
variable {fs:List (List Int)}
theorem Fam.q(h:Fam fs):∀f∈fs,fC f:=λf hf=>(h.fac f hf).q
theorem Fam.pri(h:Fam fs):∀s∈fs.map ah,Pri s:=λs hs=>by obtain⟨f,hf,rfl⟩:=PV.mp hs;exact fQ (h.fac f hf)
theorem Fam.prd(h:Fam fs):prQ fs=prd (fs.map ah):=yR h.pri
theorem Fam.pln(h:Fam fs):Pln (prQ fs):=by rw[h.prd];exact iI _ λs hs=>(h.pri s hs).pln
theorem Fam.one(h:Fam fs):af [1] (prQ fs)=prQ fs:=one_mul _ h.pln.tr
theorem Fam.sign(h:Fam fs){t n:Int}(hn:0<n):sg (hv t n (prQ fs))=spr t n (aI fs):=by have:=lI (t:=t) (n:=n) (c:=1) hn h.q;rw[show af [1] (aQ [1] (fs.map ah))=aQ [1] (fs.map ah)from h.one]at this;rw[show sg 1=1 from rfl,PY]at this;exact this
theorem pP{t n:Int}:∀{ls:List (List Int)},spr t n ls=0->∃s∈ls,ap s t n=0
 | [],h=>by cases h
 |l::ls,h=>by
  rcases Q7.mp (show -ap l t n*spr t n ls=0 from h)with z |z
  ·exact⟨l,PU ..,by omega⟩
  ·obtain⟨s,hs,e⟩:=pP z;exact⟨s,PP _ hs,e⟩
theorem Fam.sub{fs gs:List (List Int)}(h:Fam fs)(s:gs.Sublist fs):Fam gs:=⟨λf hf=>h.fac f (s.subset hf),h.nd.sublist (s.map _)⟩
theorem Fam.single(h:Fam fs){f:List Int}(hf:f∈fs):Fam [f]:=h.sub (List.singleton_sublist.mpr hf)
theorem oe{f:List Int}(h:Fam [f]):prQ [f]=ah f:=by rw[h.prd];show af (ah f) [1]=_;exact cX _
structure OneS(fs:List (List Int))(f0 s0:List Int)(l1 l2 h1 h2:Int):Prop where
 fam:Fam fs
 mem:f0∈fs
 sp:s0∈spF f0
 l2p:0<l2
 h2p:0<h2
 lt:l1*h2<h1*l2
 inn:0<ap s0 l1 l2/\ap s0 h1 h2<=0
 only:∀s∈aI fs,0<ap s l1 l2->ap s h1 h2<=0->s=s0
theorem FJ{l1 l2 h1 h2:Int}(hF:Fam fs)(l2p:0<l2)(h2p:0<h2)(lt:l1*h2<h1*l2)(h:bI (aI fs) l1 l2 h1 h2=1):∃f0 s0,OneS fs f0 s0 l1 l2 h1 h2:=by
 obtain⟨pre,s,post,e,hin,hno⟩:=mI h;have hs:s∈aI fs:=by rw[e];simp
 obtain⟨f0,hf0,hsp⟩:=Q9.mp hs;refine⟨f0,s,hF,hf0,hsp,l2p,h2p,lt,hin,λx hx a b=>?_⟩;rw[e]at hx;rcases Qh.mp hx with z |z
 ·exact absurd ⟨a,b⟩ (hno x (Q0 _ z))
 ·rcases PM.mp z with z |z
  ·exact z
  ·exact absurd ⟨a,b⟩ (hno x (Qz _ z))
variable {f0 s0:List Int}{l1 l2 h1 h2:Int}
theorem nQ{s:List Int}(hs:Spt s){t n t' n':Int}(hn:0<n)(hn':0<n')(h:t*n'<=t'*n)(hz:ap s t n<=0):ap s t' n'<=0:=by
 rcases RK h with w |w
 ·have:=gY hs hn hn' w hz;omega
 ·rw[<- k9 s hn hn' w];exact hz
theorem OneS.zero(h:OneS fs f0 s0 l1 l2 h1 h2){x1 x2:Int}(x2p:0<x2)(a:l1*x2<x1*l2)(b:x1*h2<=h1*x2)(z:hv x1 x2 (prQ fs)=0):ap s0 x1 x2=0:=by
 have hs:=h.fam.sign (t:=x1) (n:=x2) x2p;rw[z]at hs;obtain⟨s,hm,hz⟩:=pP (show spr x1 x2 (aI fs)=0 from hs.symm);have hS:=dD h.fam.q hm
 have e:s=s0:=by refine h.only s hm (Qm.mp λw=>?_) (nQ hS x2p h.h2p b (by omega));have:=gY hS h.l2p x2p a w;omega
 rw[<- e];exact hz
theorem pV{u e b:Int}{s:List Int}(h:s∈spF [u,e,b]):∃σ:Int,s=[u,e,b,σ]/\(σ=1/\0<=e\/σ = -1/\0<e):=by
 unfold spF at h
 rcases Qh.mp h with w |w
 ·split at w
  ·rename_i he
   exact⟨1,PQ.mp w,.inl ⟨rfl,he⟩⟩
  ·cases w
 ·split at w
  ·rename_i he
   exact⟨-1,PQ.mp w,.inr ⟨rfl,he⟩⟩
  ·cases w
theorem qk{u e b σ t n:Int}(hNS:NS e)(he:0<e)(hn:0<n):ap [u,e,b,σ] t n≠0:=λz=>by
 unfold ap at z
 have key:∀d:Int,aV (e*n*n) d=0->False:=λd hd=>by
  rcases b7 (e*n*n) d with⟨c,_⟩ |⟨_,_,c⟩ |⟨c,_⟩
  ·omega
  ·exact hNS.no (x:=n) (y:=d) (by omega) (by omega) (by rw[c];grind)
  ·omega
 split at z
 ·exact key _ z
 ·exact key _ (by have:0-aV (e*n*n) (0-(b*t-u*n))=0:=z;show aV (e*n*n) (0-(b*t-u*n))=0;omega)
theorem uC{u e b:Int}(h:FacG [u,e,b]):1<=b/\NS e:=by obtain⟨u',e',b',he,_,_,_,_,h5,_,h7⟩:=h;cases he;exact⟨h5,h7⟩
theorem OneS.cases(h:OneS fs f0 s0 l1 l2 h1 h2):∃u e b σ:Int,f0=[u,e,b]/\s0=[u,e,b,σ]/\1<=b/\NS e/\(σ=1/\e=0\/(σ=1\/σ = -1)/\0<e):=by
 obtain⟨u,e,b,rfl,_⟩:=h.fam.fac f0 h.mem;obtain⟨hb,hn⟩:=uC (h.fam.fac _ h.mem);obtain⟨σ,rfl,hσ⟩:=pV h.sp;refine⟨u,e,b,σ,rfl,rfl,hb,hn,?_⟩;rcases hσ with⟨a,c⟩ |⟨a,c⟩
 ·rcases RK c with w |w
  ·exact .inr ⟨.inl a,w⟩
  ·exact .inl ⟨a,w.symm⟩
 ·exact .inr ⟨.inr a,c⟩
theorem OneS.none(h:OneS fs f0 s0 l1 l2 h1 h2){u e b σ:Int}(ef:s0=[u,e,b,σ])(hN:NS e)(he:0<e){x1 x2:Int}(x2p:0<x2)(a:l1*x2<x1*l2)(c:x1*h2<=h1*x2):hv x1 x2 (prQ fs)≠0:=λz=>by have:=h.zero x2p a c z;rw[ef]at this;exact qk hN he x2p this
theorem Aa(h:Fam fs)(hf:f0∈fs):∃r:Int,0<r/\ao (prQ fs)=ao (ah f0)*r:=by
 obtain⟨pre,post,e⟩:=R5 (List.mem_map_of_mem (f:=ah) hf);have hp:=h.pri;rw[h.prd];rw[e]at hp ⊢;have hq:Pln (RM.prd (pre++post)):=iI _ λs hs=>(hp s (by simp at hs ⊢;rcases hs with z |z<;>simp[z])).pln
 have hs:Pln (ah f0):=(hp _ (by simp)).pln;rw[lK,tR hs.ne hq.ne];exact⟨_,hq.pos,rfl⟩
theorem EE{a b c d:Int}(hb:0<b)(hd:0<d)(g1:Nat.gcd a.natAbs b.natAbs=1)(g2:Nat.gcd c.natAbs d.natAbs=1)(e:a*d=c*b):a=c/\b=d:=by
 have e':a.natAbs*d.natAbs=c.natAbs*b.natAbs:=by
  have:=congrArg Int.natAbs e
  rwa [PN,PN]at this
 have h1:b.natAbs∣d.natAbs:=Nat.Coprime.dvd_of_dvd_mul_left (k:=b.natAbs) (m:=a.natAbs) (by rw[Nat.Coprime,RW];exact g1) ⟨c.natAbs,by rw[e',Q3]⟩;have h2:d.natAbs∣b.natAbs:=Nat.Coprime.dvd_of_dvd_mul_left (k:=d.natAbs) (m:=c.natAbs) (by rw[Nat.Coprime,RW];exact g2) ⟨a.natAbs,by rw[<- e',Q3]⟩;have h3:=Nat.dvd_antisymm h1 h2;have h4:b=d:=by omega
 subst h4;exact⟨RX (by omega) e,rfl⟩
theorem nS{u b:Int}(hb:1<=b):∃g A0 A1:Int,0<g/\ah [u,0,b]=[A0,A1] /\ -u=g*A0/\b=g*A1/\0<A1/\Nat.gcd A0.natAbs A1.natAbs=1:=by
 have hr:aJ u 0 b=[-u,b]:=by unfold aJ;rw[if_pos rfl]
 have ht:=(gm (u:=u) (e:=0) hb).1;rw[hr]at ht;have hl:ao [-u,b]=b:=rfl;obtain⟨g,hg,e⟩:=lQ ht (by simp) (by rw[hl];omega);have hS:ah [u,0,b]=aw [-u,b]:=by show aw (aJ u 0 b)=_;rw[hr]
 have hp:=fG ht (by simp);rw[hS];have hl2:(aw [-u,b]).length=2:=RM.plain_len _;generalize aw [-u,b]=P at e hp hl2
 match P,hl2 with
 | [A0,A1],_ =>
  have e1 : -u=g*A0/\b=g*A1:=by have:[-u,b]=[g*A0,g*A1]:=e;simpa using this
  refine⟨g,A0,A1,hg,rfl,e1.1,e1.2,hp.pos,?_⟩
  have h2:aA [A0,A1]=Nat.gcd A0.natAbs A1.natAbs:=by unfold aA;rw[ii,ii,o0,RU]
  rw[<- h2];exact hp.prim
theorem KH{a y Z:Int}(hy:0<y)(h1:Z*y<=a)(h2:a<(Z+1)*y):a/y=Z :=
 Int.le_antisymm (Int.lt_add_one_iff.mp (Int.ediv_lt_of_lt_mul hy h2)) (Int.le_ediv_of_mul_le hy h1)
theorem side_line{u b t n:Int}:0<ap [u,0,b,1] t n↔b*t<u*n:=by
 unfold ap;rw[if_pos (show(0:Int)<cf [u,0,b,1] 3 from(by decide:(0:Int)<1))];show 0<aV (0*n*n) (b*t-u*n)↔_;rw[Qp,Qp];rcases b7 0 (b*t-u*n)with⟨c,d⟩ |⟨c,d,_⟩ |⟨c,d,_⟩
 ·rw[c];constructor
  ·intro _;rcases d with d |d
   ·omega
   ·have:0<=(b*t-u*n)*(b*t-u*n):=by
     rcases Int.le_total 0 (b*t-u*n)with w |w
     ·exact P5 w w
     ·exact Se w w
    omega
  ·intro _;decide
 ·rw[c];constructor
  ·intro z;exact absurd z (by decide)
  ·intro z;omega
 ·rw[c];constructor
  ·intro z;exact absurd z (by decide)
  ·intro z;omega
theorem OneS.line{u b:Int}(h:OneS fs [u,0,b] [u,0,b,1] l1 l2 h1 h2){x1 x2 y1 y2 B:Int}(x2p:0<x2)(y2p:0<y2)(hB:1<=B)(lo:0<ap [u,0,b,1] x1 x2)(hi:ap [u,0,b,1] y1 y2<=0)(hlt:x1*y2<y1*x2)(hw:(y1*x2-x1*y2)*(8*ao (prQ fs)*B)<=1*(x2*y2)) :
 let Z:=ao (prQ fs)*y1/y2
 ah [u,0,b]=[-(rt Z (ao (prQ fs))),rb Z (ao (prQ fs))]/\x1*rb Z (ao (prQ fs))<rt Z (ao (prQ fs))*x2/\hv (rt Z (ao (prQ fs))) (rb Z (ao (prQ fs))) (prQ fs)=0:=by
 have hb:=(uC (h.fam.fac _ h.mem)).1;obtain⟨g,A0,A1,hg,eS,e0,e1,hA,hgcd⟩:=nS (u:=u) hb;obtain⟨r,hr,eL⟩:=Aa h.fam h.mem;rw[eS]at eL;have eL':ao (prQ fs)=A1*r:=eL;have lo':=side_line.mp lo;have hi':u*y2<=b*y1:=Rh.mp λz=>by have:=side_line.mpr z;omega
 have Lp:0<ao (prQ fs):=h.fam.pln.pos
 have k1 : -A0*y2<=A1*y1:=by
  refine Int.le_of_mul_le_mul_left (a:=g) ?_ hg
  have q1:g*(-A0*y2)=u*y2:=by
   have:u=g * -A0:=by grind
   rw[this];grind
  have q2:g*(A1*y1)=b*y1:=by rw[e1];grind
  omega
 have k2:A1*x1 < -A0*x2:=by
  refine Sl (a:=g) ?_ (PD hg)
  have q1:g*(-A0*x2)=u*x2:=by
   have:u=g * -A0:=by grind
   rw[this];grind
  have q2:g*(A1*x1)=b*x1:=by rw[e1];grind
  omega
 have eZ:ao (prQ fs)*y1/y2 = -A0*r:=by
  refine KH y2p ?_ ?_
  ·rw[eL'];have:=QA k1 (PD hr);have q1:r*(-A0*y2) = -A0*r*y2:=by grind
   have q2:r*(A1*y1)=A1*r*y1:=by grind
   omega
  ·have w0:0<=(y1*x2-x1*y2)*ao (prQ fs):=P5 (by omega) (PD Lp);have w1:(y1*x2-x1*y2)*(8*ao (prQ fs)*B)=(y1*x2-x1*y2)*ao (prQ fs)*(8*B):=by grind
   have w2:=QA (show 1<=8*B by omega) w0;have w3:(y1*x2-x1*y2)*ao (prQ fs)<=x2*y2:=by omega
   rw[eL']at w3 ⊢;have w4:=Sy k2 (PB hr y2p);refine Rg (a:=x2) ?_ (PD x2p);have q1:A1*r*y1*x2=(y1*x2-x1*y2)*(A1*r)+r*y2*(A1*x1):=by grind
   have q2:(-A0*r+1)*y2*x2=r*y2*(-A0*x2)+x2*y2:=by grind
   rw[q1,q2];omega
 intro Z;have hZ:Z = -A0*r:=eZ
 clear_value Z
 subst hZ;have L0:ao (prQ fs)≠0:=by omega
 have hc:=fb (t := -A0*r) L0;have hgr:=g7 (t := -A0*r) L0;have hpr:=dk (t := -A0*r) L0
 obtain⟨m1,m2⟩:=EE (a:=rt (-A0*r) (ao (prQ fs))) (b:=rb (-A0*r) (ao (prQ fs))) (c := -A0) (d:=A1) hpr hA hgr (by rw[QT];exact hgcd) (by
  refine RX (a:=r) (by omega) ?_
  rw[P4,<- eL',hc];grind)
 rw[m1,m2];refine⟨by rw[eS,Int.neg_neg],by rw[P9];exact k2,?_⟩;have hs:=h.fam.sign (t := -A0) (n:=A1) hA
 have hz:spr (-A0) A1 (aI fs)=0:=by
  have hm:[u,0,b,1]∈aI fs:=Q9.mpr ⟨_,h.mem,h.sp⟩
  have hside:ap [u,0,b,1] (-A0) A1=0:=by
   unfold ap;rw[if_pos (show(0:Int)<cf [u,0,b,1] 3 from(by decide:(0:Int)<1))];show aV (0*A1*A1) (b * -A0-u*A1)=0
   have:b * -A0-u*A1=0:=by
    have q:u=g * -A0:=by grind
    rw[e1,q];grind
   rw[this,Qp,Qp];rfl
  have z0:∀ls:List (List Int),[u,0,b,1]∈ls->spr (-A0) A1 ls=0:=λls=>by
   induction ls with
   |nil=>intro h;cases h
   |cons l ls ih =>
    intro h;show -ap l (-A0) A1*spr (-A0) A1 ls=0;rcases PM.mp h with w |w
    ·rw[<- w,hside];omega
    ·rw[ih w,Qd]
  exact z0 _ hm
 rw[hz]at hs;exact(qt _).mp hs
theorem fF{g a b:Rat}(hg:0<g)(h:g*a<=g*b):a<=b:=Qu.mp λz=>by have:=Qa hg (show 0<a-b by grind);grind
theorem sH{g a b:Rat}(hg:0<g)(h:g*a<g*b):a<b:=QR.mp λz=>by have:=Qb (PJ hg) (show 0<=a-b by grind);grind
theorem Di{u b g A1 A2 r L w x y x' y':Rat}(hg:0<g)(hb:0<b)(hr:0<r)(hA:0<A2)(e1 : -2*b*u=g*A1)(e2:b*b=g*A2)(eL:L=A2*r)(s1:2*u<=b*(y+y'))(s2:b*(x+x')<2*u)(hw:y-x<=w)(hw':y'-x'<=w)(hwL:4*(L*w)<=1) : -A1*r<=L*(y+y')/\L*(y+y') < -A1*r+1:=by
 have hbr:=Qa hb hr;have hL:0<L:=by rw[eL];exact Qa hA hr
 have q1:g*(L*(y+y'))=b*r*(b*(y+y')):=by rw[eL];grind
 have q2:g*(-A1*r)=b*r*(2*u):=by grind
 constructor
 ·refine fF hg ?_;rw[q1,q2];exact PZ s1 (PJ hbr)
 ·have h1:L*(x+x') < -A1*r:=by
   refine sH hg ?_;have q3:g*(L*(x+x'))=b*r*(b*(x+x')):=by rw[eL];grind
   rw[q3,q2];have:=Qa hbr (show 0<2*u-b*(x+x') by grind);grind
  have h2:=PZ (show y+y'<=x+x'+2*w by grind) (PJ hL);have e3:L*(x+x'+2*w)=L*(x+x')+2*(L*w):=by grind
  grind
theorem E9{u e b g A0 A2 r L w N m:Rat}(hg:0<g)(hr:0<r)(hA:0<A2)(e0:u*u-e=g*A0)(e2:b*b=g*A2)(eL:L=A2*r)(p1:u*u-e<b*b*m)(p2:b*b*m<=u*u-e+2*(b*b)*(w*N))(hwL:2*(L*(w*N))<1):A0*r<=L*m/\L*m<A0*r+1:=by
 have q1:g*(L*m)=r*(b*b*m):=by rw[eL];grind
 have q2:g*(A0*r)=r*(u*u-e):=by grind
 constructor
 ·refine fF hg ?_;rw[q1,q2];exact PZ (PJ p1) (PJ hr)
 ·have h1:L*m<=A0*r+2*(L*(w*N)):=by
   refine fF hg ?_;have q3:g*(A0*r+2*(L*(w*N)))=r*(u*u-e+2*(b*b)*(w*N)):=by rw[eL];grind
   rw[q1,q3];exact PZ p2 (PJ hr)
  grind
theorem NS.irr{e:Int}(h:NS e)(he:0<e)(q:Rat):q*q≠(e:Rat):=λz=>by have hn:=ow q;have hd:=fk q;refine h.no (x:=(q.den:Int)) (y:=q.num) (by omega) (by omega) ?_;refine R4.mp ?_;rw[PH,PH,PH,hn,<- z];grind
theorem qp{u e b:Int}(hb:1<=b)(he:e≠0):∃g A0 A1 A2:Int,0<g/\ah [u,e,b]=[A0,A1,A2]/\u*u-e=g*A0 /\ -2*b*u=g*A1/\b*b=g*A2/\0<A2:=by
 have hr:aJ u e b=[u*u-e,-2*b*u,b*b]:=by unfold aJ;rw[if_neg he]
 have ht:=(gm (u:=u) (e:=e) hb).1;rw[hr]at ht;have hl:ao [u*u-e,-2*b*u,b*b]=b*b:=rfl;obtain⟨g,hg,e'⟩:=lQ ht (by simp) (by rw[hl];exact PB (by omega) (by omega));have hS:ah [u,e,b]=aw [u*u-e,-2*b*u,b*b]:=by show aw (aJ u e b)=_;rw[hr]
 have hp:=fG ht (by simp);rw[hS];have hl2:(aw [u*u-e,-2*b*u,b*b]).length=3:=RM.plain_len _;generalize aw [u*u-e,-2*b*u,b*b]=P at e' hp hl2
 match P,hl2 with
 | [A0,A1,A2],_ =>
  have e1:u*u-e=g*A0 /\ -2*b*u=g*A1/\b*b=g*A2:=by have:[u*u-e,-2*b*u,b*b]=[g*A0,g*A1,g*A2]:=e';simpa using this
  exact⟨g,A0,A1,A2,hg,rfl,e1.1,e1.2.1,e1.2.2,hp.pos⟩
theorem yo{L B:Int}{d w:Rat}(hLB:0<L*B)(hw:w*(8*((L:Rat)*(B:Rat)))=1)(h:d*(8*((L:Rat)*(B:Rat)))<=1):d<=w:=by
 have p:(0:Rat)<8*((L:Rat)*(B:Rat)):=by have:(0:Rat)<((L*B:Int):Rat):=PR.mpr hLB;rw[PH]at this;grind
 refine fF p ?_;grind
theorem wO{u e b L B:Int}(hF:Fam fs)(hm:[u,e,b]∈fs)(he:0<e)(hL:L=ao (prQ fs))(hB:1<=B){x y x' y' m:Rat}(T:Two u e b x y x' y')(hxy:x<y)(hxy':x'<y')(hw:(y-x)*(8*((L:Rat)*(B:Rat)))<=1)(hw':(y'-x')*(8*((L:Rat)*(B:Rat)))<=1)
 (n1:Bd (2*(B:Rat)-1/2) x) (n2:Bd (2*(B:Rat)-1/2) y) (n3:Bd (2*(B:Rat)-1/2) x') (n4:Bd (2*(B:Rat)-1/2) y') (c1:x*x'<=m) (c2:x*y'<=m) (c3:y*x'<=m) (c4:y*y'<=m) (hmm:m=x*x'\/m=x*y'\/m=y*x'\/m=y*y')
 {t1 t2 m1 m2:Int} (t2p:0<t2) (m2p:0<m2) (ht:(t1:Rat)/(t2:Rat)=y+y') (hmr:(m1:Rat)/(m2:Rat)=m):aw [L*m1/m2,-(L*t1/t2),L]=ah [u,e,b]:=by
 obtain⟨hb,hN⟩:=uC (hF.fac _ hm);obtain⟨g,A0,A1,A2,hg,eS,e0,e1,e2,hA⟩:=qp (u:=u) hb (show e≠0 by omega);obtain⟨r,hr,eL⟩:=Aa hF hm;rw[eS,<- hL]at eL;have eL':L=A2*r:=eL;have Lp:0<L:=by rw[eL'];exact PB hA hr
 have LB:0<L*B:=PB Lp (by omega);have cL:(0:Rat)<(L:Rat):=PR.mpr Lp;have cB:(1:Rat)<=(B:Rat):=QQ.mpr hB
 have cp:(0:Rat)<8*((L:Rat)*(B:Rat)):=by have:=Qa cL (show(0:Rat)<(B:Rat) by grind);grind
 obtain⟨w,hwd⟩:∃w:Rat,w*(8*((L:Rat)*(B:Rat)))=1:=⟨1/(8*((L:Rat)*(B:Rat))),P7 (QH cp)⟩;have h1:=yo LB hwd hw;have h2:=yo LB hwd hw';have cg:(0:Rat)<(g:Rat):=PR.mpr hg;have cb:(0:Rat)<(b:Rat):=PR.mpr (show(0:Int)<b by omega);have cr:(0:Rat)<(r:Rat):=PR.mpr hr;have cA:(0:Rat)<(A2:Rat):=PR.mpr hA;have ce:(0:Rat)<(e:Rat):=PR.mpr he
 have E0:(u:Rat)*(u:Rat)-(e:Rat)=(g:Rat)*(A0:Rat):=by rw[<- PH,<- R6,e0,PH]
 have E1 : -2*(b:Rat)*(u:Rat)=(g:Rat)*(A1:Rat):=by rw[<- PH,<- e1,PH,PH];rfl
 have E2:(b:Rat)*(b:Rat)=(g:Rat)*(A2:Rat):=by rw[<- PH,e2,PH]
 have EL:(L:Rat)=(A2:Rat)*(r:Rat):=by rw[eL',PH]
 have wp:0<w:=QR.mp λz=>by have:=Qb (show 0 <= -w by grind) (PJ cp);grind
 have LwB:8*((L:Rat)*w*(B:Rat))=1:=by grind
 have Lw:0<(L:Rat)*w:=Qa cL wp
 have Lw4:4*((L:Rat)*w)<=1:=by have:=PZ cB (PJ Lw);grind
 have S:=T.sum;obtain⟨f1,f2⟩:=Di cg cb cr cA E1 E2 EL S.1 S.2 h1 h2 Lw4;obtain⟨P1,P2⟩:=T.prod cb ce (hN.irr he) hxy hxy' h1 h2 n1 n2 n3 n4 c1 c2 c3 c4 hmm;obtain⟨f3,f4⟩:=E9 cg cr cA E0 E2 EL P1 P2 (by grind);have z1:L*t1/t2 = -A1*r:=AS t2p (by rw[ht,PH,Ru];exact f1) (by rw[ht,PH,Ru];exact f2);have z2:L*m1/m2=A0*r:=AS m2p (by rw[hmr,PH];exact f3) (by rw[hmr,PH];exact f4);rw[z1,z2,eL'];have hP:Pln (ah [u,e,b]):=(fQ (hF.fac _ hm)).pln
 have e3:[A0*r,-(-A1*r),A2*r]=scL r (ah [u,e,b]):=by
  rw[eS];show _=[r*A0,r*A1,r*A2];rw[P9 A0,P9 A2]
  congr 2
  grind
 rw[e3,g8 (by omega) hP.tr,hP.plain]
variable {fs:List (List Int)}{f0 s0:List Int}{l1 l2 h1 h2:Int}
theorem Dp{u e b σ:Int}{f:List Int}(hf:fC f)(h:[u,e,b,σ]∈spF f):f=[u,e,b]:=by obtain⟨u',e',b',rfl,_⟩:=hf;obtain⟨σ',eq,_⟩:=pV h;cases eq;rfl
theorem kS{u e b:Int}(he:0<e):spF [u,e,b]=[[u,e,b,1],[u,e,b,-1]]:=by show(if 0<=e then[[u,e,b,1]]else[])++(if 0<e then[[u,e,b,-1]]else[])=_;rw[if_pos (by omega),if_pos he];rfl
theorem kR{u b:Int}:spF [u,0,b]=[[u,0,b,1]]:=by show(if(0:Int)<=0 then[[u,0,b,1]]else[])++(if(0:Int)<0 then[[u,0,b,-1]]else[])=_;rw[if_pos (by decide),if_neg (by decide)];rfl
theorem wR(f:List Int):aI [f]=spF f:=by show spF f++[]=_;rw[List.append_nil]
theorem OneS.cnt(h:OneS fs f0 s0 l1 l2 h1 h2):bI (aI [f0]) l1 l2 h1 h2=1:=by
 obtain⟨u,e,b,σ,rfl,rfl,hb,hN,hc⟩:=h.cases;rw[wR];have hin:=h.inn
 have other:∀τ:Int,[u,e,b,τ]∈spF [u,e,b]->τ≠σ->¬(0<ap [u,e,b,τ] l1 l2/\ap [u,e,b,τ] h1 h2<=0):=λτ hτ hne z=>by
  have:=h.only _ (Q9.mpr ⟨_,h.mem,hτ⟩) z.1 z.2;simp at this
  exact hne this
 have c0:bI [] l1 l2 h1 h2=0:=rfl;rcases hc with⟨rfl,rfl⟩ |⟨hσ,he⟩
 ·rw[kR,du,if_pos hin,c0];rfl
 ·rw[kS he]at other ⊢;rcases hσ with rfl |rfl
  ·rw[du,du,if_pos hin,if_neg (other (-1) (by simp) (by decide)),c0];rfl
  ·rw[du,du,if_neg (other 1 (by simp) (by decide)),if_pos hin,c0];rfl
theorem OneS.sq(h:OneS fs f0 s0 l1 l2 h1 h2)(hl0:(ah f0).length=3){E:List Int}(hE:Pln E)(hl:E.length=3)(hd:Dv E (prQ fs)):∃gs,Fam gs/\(∀g∈gs,g∈fs)/\gs.length<=2/\E=prQ gs/\(bI (aI gs) l1 l2 h1 h2=1->E=ah f0):=by
 have hF:=h.fam
 have hs0:∀gs:List (List Int),Fam gs->(∀g∈gs,g∈fs)->bI (aI gs) l1 l2 h1 h2=1->f0∈gs:=λgs hG hsub hc=>by
  obtain⟨pre,s,post,eq,hin,_⟩:=mI hc;have hm:s∈aI gs:=by rw[eq];simp
  obtain⟨f,hf,hsf⟩:=Q9.mp hm;have e1:=h.only s (Q9.mpr ⟨f,hsub f hf,hsf⟩) hin.1 hin.2;obtain⟨u,e,b,σ,ef,es,_⟩:=h.cases;rw[e1,es]at hsf;have:=Dp (hG.q f hf) hsf;rw[ef,<- this];exact hf
 rw[hF.prd]at hd;rcases KP hF.pri hF.nd hE hl hd with hm |⟨p,q,hp,hq,hne,eE⟩
 ·obtain⟨f,hf,rfl⟩:=PV.mp hm;have hG:=hF.single hf;refine⟨[f],hG,λg hg=>by rw[PQ.mp hg];exact hf,by simp,(oe hG).symm,λhc=>?_⟩;have:=hs0 [f] hG (λg hg=>by rw[PQ.mp hg];exact hf) hc;rw[PQ.mp this]
 ·obtain⟨f,hf,rfl⟩:=PV.mp hp;obtain⟨f',hf',rfl⟩:=PV.mp hq
  have hsub:∀g∈[f,f'],g∈fs:=λg hg=>by
   rcases PM.mp hg with rfl |w
   ·exact hf
   ·rw[PQ.mp w];exact hf'
  have hG:Fam [f,f']:=⟨λg hg=>hF.fac g (hsub g hg),by simp;exact hne⟩
  have eP:E=prQ [f,f']:=by rw[hG.prd,eE];show _=af (ah f) (af (ah f') [1]);rw[cX]
  refine⟨[f,f'],hG,hsub,by simp,eP,λhc=>?_⟩;have hm:=hs0 [f,f'] hG hsub hc;have n1:=(fQ (hF.fac f hf));have n2:=(fQ (hF.fac f' hf'));have hlen:=bV n1.pln.ne n2.pln.ne;rw[<- eE,hl]at hlen;have t1:=n1.two;have t2:=n2.two;rcases PM.mp hm with rfl |w
  ·omega
  ·rw[PQ.mp w]at hl0;omega
theorem v5(hF:Fam fs)(hm:f0∈fs)(hl:(prQ fs).length<=(ah f0).length):prQ fs=ah f0:=by
 obtain⟨pre,post,e⟩:=R5 (List.mem_map_of_mem (f:=ah) hm);have hp:=hF.pri;rw[hF.prd]at hl ⊢;rw[e]at hp hl ⊢;have hq:Pln (RM.prd (pre++post)):=iI _ λs hs=>(hp s (by simp at hs ⊢;rcases hs with z |z<;>simp[z])).pln
 have hs:Pln (ah f0):=(hp _ (by simp)).pln;rw[lK]at hl ⊢;have hlen:=bV hs.ne hq.ne;have:=PL.mpr hs.ne;have:=PL.mpr hq.ne;rw[hq.const (by omega),cX]
theorem OneS.low(h:OneS fs f0 s0 l1 l2 h1 h2):sg (hv l1 l2 (ah f0))≠0:=by
 have hG:=h.fam.single h.mem;rw[<- oe hG,hG.sign h.l2p,wR];obtain⟨u,e,b,σ,rfl,rfl,hb,hN,hc⟩:=h.cases;intro z;obtain⟨s,hs,hz⟩:=pP z;have hin:=h.inn.1;rcases hc with⟨rfl,rfl⟩ |⟨hσ,he⟩
 ·rw[kR]at hs;rw[PQ.mp hs]at hz;omega
 ·obtain⟨τ,rfl,_⟩:=pV hs;exact qk hN he h.l2p hz
theorem pJ{u e b x1 x2 y1 y2 p1 p2 q1 q2:Int}(x2p:0<x2)(y2p:0<y2)(p2p:0<p2)(q2p:0<q2)(hx:0<ap [u,e,b,1] x1 x2)(hy:ap [u,e,b,1] y1 y2<=0)(hp:0<ap [u,e,b,-1] p1 p2)(hq:ap [u,e,b,-1] q1 q2<=0):Two u e b ((x1:Rat)/(x2:Rat)) ((y1:Rat)/(y2:Rat)) ((p1:Rat)/(p2:Rat)) ((q1:Rat)/(q2:Rat)):=by
 rw[<- gq _ x2p]at hx;rw[<- gq _ y2p]at hy;rw[<- gq _ p2p]at hp;rw[<- gq _ q2p]at hq;have hy':=λz=>(absurd (jI _ |>.mpr z) (Rh.mpr hy):False)
 have hq':=λz=>(absurd (ng _ |>.mpr z) (Rh.mpr hq):False)
 refine⟨(jI _).mp hx,?_,(ng _).mp hp,?_⟩
 ·generalize (b:Rat)*((y1:Rat)/(y2:Rat))-(u:Rat)=v at hy'
  refine⟨Qu.mp λz=>hy' (.inl z),Qu.mp λz=>hy' (.inr z)⟩
 ·generalize (b:Rat)*((q1:Rat)/(q2:Rat))-(u:Rat)=v at hq'
  by_cases z:0<v
  ·exact .inl z
  ·exact .inr (Qu.mp λw=>hq' ⟨Qu.mp z,w⟩)
theorem zn{s:List Int}(hs:Spt s){B L:Int}(hB:1<=B)(hL:1<=L)(hb:ap s B 1<0/\0<ap s (-B) 1){x1 x2 y1 y2:Int}(x2p:0<x2)(y2p:0<y2)(hx:0<ap s x1 x2)(hy:ap s y1 y2<=0)(hlt:x1*y2<y1*x2)(hw:(y1*x2-x1*y2)*(8*L*B)<=1*(x2*y2)) :
 Bd (2*(B:Rat)-1/2) ((x1:Rat)/(x2:Rat))/\Bd (2*(B:Rat)-1/2) ((y1:Rat)/(y2:Rat))/\(x1:Rat)/(x2:Rat)<(y1:Rat)/(y2:Rat)/\((y1:Rat)/(y2:Rat)-(x1:Rat)/(x2:Rat))*(8*((L:Rat)*(B:Rat)))<=1:=by
 have X2:(0:Rat)<(x2:Rat):=PR.mpr x2p;have Y2:(0:Rat)<(y2:Rat):=PR.mpr y2p;have e1:(x1:Rat)/(x2:Rat)*(x2:Rat)=(x1:Rat):=P7 (QH X2);have e2:(y1:Rat)/(y2:Rat)*(y2:Rat)=(y1:Rat):=P7 (QH Y2);have ltR:=(iG x2p y2p).mpr hlt
 have xB:x1<B*x2:=Qm.mp λz=>by have:=nQ hs (t:=B) (n:=1) (t':=x1) (n':=x2) (by decide) x2p (by omega) (by omega);omega
 have yB : -B*y2<y1:=Qm.mp λz=>by have:=nQ hs (t:=y1) (n:=y2) (t' := -B) (n':=1) y2p (by decide) (by omega) hy;omega
 have cB:(1:Rat)<=(B:Rat):=QQ.mpr hB;have cL:(1:Rat)<=(L:Rat):=QQ.mpr hL;have xB':(x1:Rat)<(B:Rat)*(x2:Rat):=by rw[<- PH];exact PR.mpr xB
 have yB' : -(B:Rat)*(y2:Rat)<(y1:Rat):=by rw[<- Ru,<- PH];exact PR.mpr yB
 have hw':((y1:Rat)*(x2:Rat)-(x1:Rat)*(y2:Rat))*(8*(L:Rat)*(B:Rat))<=(x2:Rat)*(y2:Rat):=by rw[PY]at hw;have:=QQ.mpr hw;rw[PH,PH,PH,PH,R6,PH,PH]at this;exact this
 generalize (x1:Rat)/(x2:Rat)=x at *
 generalize (y1:Rat)/(y2:Rat)=y at *
 rw[<- e1]at xB' hw';rw[<- e2]at yB' hw';have xb:x<(B:Rat):=sH X2 (by grind);have yb : -(B:Rat)<y:=sH Y2 (by grind);have M:=Qa X2 Y2
 have wd:(y-x)*(8*((L:Rat)*(B:Rat)))<=1:=by refine fF M ?_;grind
 have LB:1<=(L:Rat)*(B:Rat):=by have:=PZ cB (show 0<=(L:Rat) by grind);grind
 have w8:(y-x)*8<=1:=by have:=PZ LB (show 0<=(y-x)*8 by grind);grind
 exact⟨⟨by grind,by grind⟩,⟨by grind,by grind⟩,ltR,wd⟩
theorem wK:∀e:Nat,∃n:Nat,n*n<=e/\e<(n+1)*(n+1)
 |0=>⟨0,by decide,by decide⟩
 |e+1=>by
  obtain⟨n,h1,h2⟩:=wK e;by_cases h:e+1<(n+1)*(n+1)
  ·exact⟨n,by omega,h⟩
  ·refine⟨n+1,by omega,?_⟩;have e1:(n+1+1)*(n+1+1)=(n+1)*(n+1)+2*(n+1)+1:=by grind
   omega
theorem ze{d:Int}(h:NSq d)(v:Int):NS (d*v*v):=by
 by_cases hv:v=0
 ·left;rw[hv];omega
 ·right
  have hp:0<d*v*v:=by
   rw[P4];refine PB h.1 ?_;rcases QE hv with z |z
   ·exact QY z z
   ·exact PB z z
  obtain⟨n,h1,h2⟩:=wK (d*v*v).toNat;have h3:((n*n:Nat):Int)=(n:Int)*(n:Int):=QC _ _;have h4:(((n+1)*(n+1):Nat):Int)=((n:Int)+1)*((n:Int)+1):=by rw[QC];rfl
  have ne:=h.2 (n:Int) v hv;refine⟨n,by omega,?_,?_⟩
  ·omega
  ·omega
noncomputable def bZ(v:Int):Int:=if v<0 then -1 else 1
theorem qj{u v w d x1 x2:Int}(hd:NSq d)(x2p:0<x2):0<ap [u,d*v*v,w,bZ v] x1 x2↔0<sgq (u*x2-x1*w) (v*x2) d:=by
 have eq:d*v*v*x2*x2=d*(v*x2)*(v*x2):=by grind
 have ne:v≠0->(u*x2-x1*w)*(u*x2-x1*w)≠d*(v*x2)*(v*x2):=λhv=>hd.2 _ _ (Qe hv (by omega))
 unfold ap bZ;by_cases hv:v<0
 ·rw[if_pos hv,if_neg (show ¬(0:Int)<cf [u,d*v*v,w,-1] 3 from(by decide:¬(0:Int) < -1))];show 0<0-aV (d*v*v*x2*x2) (0-(w*x1-u*x2))↔_;rw[eq];have eA:0-(w*x1-u*x2)=u*x2-x1*w:=by grind
  rw[eA];have hvx:v*x2<0:=RD hv x2p;have hne:=ne (by omega);generalize u*x2-x1*w=A at *
  generalize v*x2=B at *
  rcases QP 0 A with z |z
  ·rw[fY z hvx];rcases b7 (d*B*B) A with⟨c,h1⟩ |⟨c,_,h1⟩ |⟨c,_,h1⟩
   ·rw[c,if_pos (by omega)];omega
   ·exact absurd h1 hne
   ·rw[c,if_neg (by omega)];omega
  ·rw[eQ z (by omega) (.inr hvx)];rcases b7 (d*B*B) A with⟨c,h1⟩ |⟨c,_,h1⟩ |⟨c,h0,h1⟩
   ·rw[c];omega
   ·exact absurd h1 hne
   ·have:A=0:=by omega
    subst this;have h5:0<d*B*B:=by rw[P4];exact PB hd.1 (QY hvx hvx)
    omega
 ·rw[if_neg hv,if_pos (show(0:Int)<cf [u,d*v*v,w,1] 3 from(by decide:(0:Int)<1))];show 0<aV (d*v*v*x2*x2) (w*x1-u*x2)↔_;rw[eq];have eA:w*x1-u*x2 = -(u*x2-x1*w):=by grind
  rw[eA];have hvx:0<=v*x2:=P5 (by omega) (by omega);have hz:v=0->v*x2=0:=λh=>by rw[h,Qp]
  have hp:v≠0->0<v*x2:=λh=>PB (by omega) x2p
  generalize u*x2-x1*w=A at *
  generalize v*x2=B at *
  have sqA : -A * -A=A*A:=by grind
  by_cases h0:v=0
  ·have hB:=hz h0;subst hB;have e0:d*0*0=0:=by omega
   rw[e0];rcases R3 A 0 with z |z |z
   ·rw[eQ (by omega) (Qg _) (.inl z)];rcases b7 0 (-A)with⟨c,h1 |h1⟩ |⟨c,_,h1⟩ |⟨c,_,h1⟩
    ·omega
    ·have:=QY z z;omega
    ·rw[c];omega
    ·rw[c]
   ·subst z;have a1:aV 0 (-0)=0:=by decide
    rw[a1,li]
   ·rw[dY (by omega) (Qg _) (.inl z)];unfold aV;rw[if_pos (.inl (by omega))]
  ·have hB:=hp h0;have hne:=ne h0;have hpos:0<d*B*B:=by rw[P4];exact PB hd.1 (PB hB hB)
   rcases QP A 0 with z |z
   ·rw[fZ z hB];rcases b7 (d*B*B) (-A)with⟨c,h1 |h1⟩ |⟨c,_,h1⟩ |⟨c,_,h1⟩
    ·omega
    ·rw[c,if_neg (by omega)]
    ·exact absurd (by omega) hne
    ·rw[c,if_pos (by omega)]
   ·rw[dY z (by omega) (.inr hB)]
    have:aV (d*B*B) (-A)=1:=by
     unfold aV;rw[if_pos];rcases RK z with y |y
     ·exact .inl (by omega)
     ·right;rw[<- y];omega
    rw[this]
theorem Bz{l1 l2 h1 h2:Int}:∀{ls:List (List Int)},(∀x∈ls,¬(0<ap x l1 l2/\ap x h1 h2<=0))->bI ls l1 l2 h1 h2=0
 | [],_=>rfl
 |l::ls,h=>by rw[du,if_neg (h l (PU ..)),Bz λx hx=>h x (PP _ hx)];rfl
theorem BC(l1 l2 h1 h2:Int):∀a b:List (List Int),bI (a++b) l1 l2 h1 h2=bI a l1 l2 h1 h2+bI b l1 l2 h1 h2
 | [],b=>by rw[List.nil_append];show _=0+_;omega
 |x::a,b=>by rw[List.cons_append,du,du,BC l1 l2 h1 h2 a b];omega
theorem wS(f:List Int)(fs:List (List Int)):aI (f::fs)=spF f++aI fs:=rfl
theorem za{u v w d l1 l2 h1 h2:Int}{rs:List (List Int)}(hd:NSq d)(hF:Fam ([u,d*v*v,w]::rs))(l2p:0<l2)(h2p:0<h2)(lt:l1*h2<h1*l2)(lo:0<sgq (u*l2-l1*w) (v*l2) d)(hi:¬0<sgq (u*h2-h1*w) (v*h2) d)(ol:0<v->u*l2<=l1*w)(oh:v<0->h1*w<=u*h2)(hno:∀x∈aI rs,¬(0<ap x l1 l2/\ap x h1 h2<=0)) :
 OneS ([u,d*v*v,w]::rs) [u,d*v*v,w] [u,d*v*v,w,bZ v] l1 l2 h1 h2/\bI (aI ([u,d*v*v,w]::rs)) l1 l2 h1 h2=1:=by
 have lo':=(qj (u:=u) (v:=v) (w:=w) (d:=d) (x1:=l1) hd l2p).mpr lo;have hi':ap [u,d*v*v,w,bZ v] h1 h2<=0:=Rh.mp λz=>hi ((qj hd h2p).mp z)
 have key:bZ v=1/\spF [u,d*v*v,w]=[[u,d*v*v,w,1]]/\v=0\/bZ v=1/\spF [u,d*v*v,w]=[[u,d*v*v,w,1],[u,d*v*v,w,-1]]/\¬(0<ap [u,d*v*v,w,-1] l1 l2/\ap [u,d*v*v,w,-1] h1 h2<=0)\/bZ v = -1/\spF [u,d*v*v,w]=[[u,d*v*v,w,1],[u,d*v*v,w,-1]]/\¬(0<ap [u,d*v*v,w,1] l1 l2/\ap [u,d*v*v,w,1] h1 h2<=0):=by
  by_cases hv:v=0
  ·left;subst hv;have e0:d*0*0=0:=by omega
   rw[e0];exact⟨rfl,kR,rfl⟩
  ·have he:0<d*v*v:=by
    rw[P4];refine PB hd.1 ?_;rcases QE hv with z |z
    ·exact QY z z
    ·exact PB z z
   right;rcases QE hv with z |z
   ·right;refine⟨by unfold bZ;rw[if_pos z],kS he,λhh=>?_⟩;have h5:=oh z
    have:ap [u,d*v*v,w,1] h1 h2=1:=by
     unfold ap;rw[if_pos (show(0:Int)<cf [u,d*v*v,w,1] 3 from(by decide:(0:Int)<1))];show aV (d*v*v*h2*h2) (w*h1-u*h2)=1;unfold aV;rw[if_pos];have e1:w*h1=h1*w:=P9 _ _;rcases RK h5 with y |y
     ·exact .inl (by omega)
     ·right;have:w*h1-u*h2=0:=by omega
      rw[this,Qp];exact PB (PB he h2p) h2p
    omega
   ·left;refine⟨by unfold bZ;rw[if_neg (by omega)],kS he,λhh=>?_⟩;have h5:=ol z
    have:ap [u,d*v*v,w,-1] l1 l2 = -1:=by
     unfold ap;rw[if_neg (show ¬(0:Int)<cf [u,d*v*v,w,-1] 3 from(by decide:¬(0:Int) < -1))];show 0-aV (d*v*v*l2*l2) (0-(w*l1-u*l2)) = -1
     have:aV (d*v*v*l2*l2) (0-(w*l1-u*l2))=1:=by
      unfold aV;rw[if_pos];have e1:w*l1=l1*w:=P9 _ _;rcases RK h5 with y |y
      ·exact .inl (by omega)
      ·right;have:0-(w*l1-u*l2)=0:=by omega
       rw[this,Qp];exact PB (PB he l2p) l2p
     omega
    omega
 have c0:bI (aI rs) l1 l2 h1 h2=0:=Bz hno;have e0:bI [] l1 l2 h1 h2=0:=rfl;refine⟨⟨hF,PU ..,?_,l2p,h2p,lt,⟨lo',hi'⟩,λs hs a b=>?_⟩,?_⟩
 ·rcases key with⟨k1,k2,_⟩ |⟨k1,k2,_⟩ |⟨k1,k2,_⟩<;>rw[k1,k2]<;>simp
 ·rw[wS]at hs;rcases Qh.mp hs with z |z
  ·rcases key with⟨k1,k2,_⟩ |⟨k1,k2,k3⟩ |⟨k1,k2,k3⟩
   ·rw[k2]at z;rw[k1];exact PQ.mp z
   ·rw[k2]at z;rw[k1];rcases PM.mp z with y |y
    ·exact y
    ·rw[PQ.mp y]at a b;exact absurd ⟨a,b⟩ k3
   ·rw[k2]at z;rw[k1];rcases PM.mp z with y |y
    ·rw[y]at a b;exact absurd ⟨a,b⟩ k3
    ·exact PQ.mp y
  ·exact absurd ⟨a,b⟩ (hno s z)
 ·rw[wS,BC,c0];rcases key with⟨k1,k2,_⟩ |⟨k1,k2,k3⟩ |⟨k1,k2,k3⟩
  ·rw[k1]at lo' hi';rw[k2,du,if_pos ⟨lo',hi'⟩,e0];rfl
  ·rw[k1]at lo' hi';rw[k2,du,du,if_pos ⟨lo',hi'⟩,if_neg k3,e0];rfl
  ·rw[k1]at lo' hi';rw[k2,du,du,if_neg k3,if_pos ⟨lo',hi'⟩,e0];rfl
theorem qm{u v w d x1 x2:Int}(hd:NSq d)(x2p:0<x2):ap [u,d*v*v,w,bZ v] x1 x2=sgq (u*x2-x1*w) (v*x2) d:=by
 have hu:=qj (u:=u) (v:=v) (w:=w) (x1:=x1) hd x2p;have c1:=fE [u,d*v*v,w,bZ v] x1 x2;have c2:=iF (u*x2-x1*w) (v*x2) d
 have hz:ap [u,d*v*v,w,bZ v] x1 x2=0↔sgq (u*x2-x1*w) (v*x2) d=0:=by
  by_cases hv:v=0
  ·subst hv;have e0:d*0*0=0:=by omega
   rw[e0,Qp];show ap [u,0,w,1] x1 x2=0↔_
   have hs:ap [u,0,w,1] x1 x2=aV 0 (w*x1-u*x2):=by unfold ap;rw[if_pos (show(0:Int)<cf [u,0,w,1] 3 from(by decide:(0:Int)<1))];show aV (0*x2*x2) (w*x1-u*x2)=_;rw[Qp,Qp]
   rw[hs];have eA:w*x1-u*x2 = -(u*x2-x1*w):=by grind
   rw[eA];generalize u*x2-x1*w=A;rcases R3 A 0 with z |z |z
   ·rw[eQ (by omega) (Qg _) (.inl z)];rcases b7 0 (-A)with⟨c,_⟩ |⟨c,_,h1⟩ |⟨c,_⟩
    ·rw[c];decide
    ·have:=PB (show 0 < -A by omega) (show 0 < -A by omega);omega
    ·rw[c]
   ·subst z;have a1:aV 0 (-0)=0:=by decide
    rw[a1,li]
   ·rw[dY (by omega) (Qg _) (.inl z)];unfold aV;rw[if_pos (.inl (by omega))]
  ·have he:0<d*v*v:=by
    rw[P4];refine PB hd.1 ?_;rcases QE hv with z |z
    ·exact QY z z
    ·exact PB z z
   have n1:ap [u,d*v*v,w,bZ v] x1 x2≠0:=qk (ze hd v) he x2p;have hvx:v*x2≠0:=Qe hv (by omega)
   have n2:sgq (u*x2-x1*w) (v*x2) d≠0:=by
    unfold sgq;split
    ·rw[if_pos (.inr (by omega))];decide
    ·split
     ·decide
     ·split
      ·split<;>decide
      ·split<;>decide
   exact⟨λz=>absurd z n1,λz=>absurd z n2⟩
 rcases c1 with z |z |z<;>rcases c2 with y |y |y<;>omega
theorem CA(c:Int)(l:List Int):turnL (scL c l)=scL c (turnL l):=by
 have e:(scL c l).length=l.length:=PC _;unfold turnL;rw[e];unfold scL;rw[QL];refine RE λk _=>?_
 have:cf (l.map λx=>c*x) k=c*cf l k:=bQ c l k;show(if k%2=0 then cf (l.map λx=>c*x) k else -cf (l.map λx=>c*x) k)=c*(if k%2=0 then cf l k else -cf l k);rw[this];split
 ·rfl
 ·grind
theorem wm{l:List Int}(h:Tr l):Tr (turnL l):=λn e=>by rw[pL]at e;have:=h n e;rw[BJ];split<;>omega
theorem wn{l:List Int}(h:Tr l)(hp:0<ao l):aw (turnL (aw l))=aw (turnL l):=by
 have hne:l≠[]:=λz=>by subst z;exact absurd hp (by decide)
 obtain⟨g0,t0,n0,e0⟩:=lc h hne
 have hl:ao l=(aA l:Int)*ao (ar l):=by have:=e0 (l.length-1);unfold ao;have e:(ar l).length=l.length:=PC _;rw[e];exact this
 have e1:aw l=ar l:=by unfold aw cz;rw[if_neg];intro z;have:=RY g0 z;omega
 have e2:l=scL (aA l:Int) (ar l):=shr_scale.symm;rw[e1]
 conv=>rhs;rw[e2,CA]
 rw[g8 (by omega) (wm t0)]
theorem yd{a b d:Int}(h:sgq a b d=0):a=0/\b=0:=by
 unfold sgq at h
 split at h
 ·split at h
  ·cases h
  ·omega
 ·split at h
  ·cases h
  ·split at h
   ·split at h<;>cases h
   ·split at h<;>cases h
theorem nU{d:Int}(hd:NSq d)(a b:Int):sgq (-a) (-b) d = -sgq a b d:=by
 unfold sgq;by_cases h1:0<=a/\0<=b
 ·rw[if_pos h1];by_cases h2:0<a\/0<b
  ·rw[if_pos h2,if_neg (by omega),if_pos (by omega)]
  ·rw[if_neg h2,if_pos (by omega),if_neg (by omega)];rfl
 ·by_cases h3:a<=0/\b<=0
  ·rw[if_neg h1,if_pos h3,if_pos (by omega),if_pos (by omega)];rfl
  ·have e1 : -a * -a=a*a:=Q6 _ _;have e2:d * -b * -b=d*b*b:=by grind
   rw[if_neg h1,if_neg h3,if_neg (by omega),if_neg (by omega),e1,e2];have hne:=hd.2 a b (by omega);by_cases h4:0<a
   ·rw[if_pos h4,if_neg (by omega)];by_cases h5:a*a<d*b*b
    ·rw[if_pos h5,if_neg (by omega)];rfl
    ·rw[if_neg h5,if_pos (by omega)]
   ·rw[if_neg h4,if_pos (by omega)];by_cases h5:a*a<d*b*b
    ·rw[if_pos h5,if_neg (by omega)]
    ·rw[if_neg h5,if_pos (by omega)];rfl
theorem Et{z B:Rat}(hB:1<=B)(h:z*z<=B):Bd B z:=by
 constructor
 ·refine Qu.mp λy=>?_
  have:=Ra (show B < -z by grind) (show 0 < -z by grind);have:=Qf hB (show 0 <= -z by grind);grind
 ·refine Qu.mp λy=>?_
  have:=Ra y (show 0<z by grind);have:=Qf hB (show 0<=z by grind);grind
theorem AD{z:Rat}(hz:0<z)(h:1/4<=z*z):1/2<=z:=Qu.mp λy=>by have:=Ra y hz;grind
theorem AE{z:Rat}(h:z*z<=1/4):Bd (1/2) z:=by
 constructor
 ·refine Qu.mp λy=>?_
  have:=Ra (show 1/2 < -z by grind) (show 0 < -z by grind);grind
 ·refine Qu.mp λy=>?_
  have:=Ra y (show 0<z by grind);grind
theorem eI{a b:Int}(h:a<=b):(a:Rat)<=(b:Rat):=QQ.mpr h
theorem zI{a b d:Int}(ha:0<a)(hd:0<=d)(hN:a*a≠d*b*b):∃η:Rat,0<η/\∀Z:Rat,Z<=0->Bd (1/4) (Z*Z-(d:Rat)*b*b)->(d*b*b<a*a->η<=a+Z)/\(a*a<d*b*b->η <= -(a+Z)):=by
 have hbb:0<=d*b*b:=by
  rw[P4];refine P5 hd ?_;rcases Int.le_total 0 b with z |z
  ·exact P5 z z
  ·exact Se z z
 have hB:(0:Rat)<=((d*b*b:Int):Rat):=eI (a:=0) hbb;have ha':(1:Rat)<=(a:Rat):=eI (a:=1) (by omega);have eB:((d*b*b:Int):Rat)=(d:Rat)*b*b:=by simp only[PH]
 have eA:((a*a:Int):Rat)=(a:Rat)*a:=by simp only[PH]
 obtain⟨G,hG⟩:∃G:Rat,G=(a:Rat)+((d*b*b:Int):Rat)+1:=⟨_,rfl⟩;have hGp:0<G:=by grind
 refine⟨1/2/G,dG (by grind) hGp,λZ hZ hbd=>?_⟩;have eη:1/2/G*G=1/2:=P7 (by grind);have hη:=dG (a:=1/2) (by grind) hGp;generalize 1/2/G=η at eη hη
 obtain⟨h1,h2⟩:=hbd;obtain⟨z1,z2⟩:=Et (z:=Z) (B:=((d*b*b:Int):Rat)+1) (by grind) (by rw[eB];grind);have aZ:0<(a:Rat)-Z:=by grind
 have aZ2:(a:Rat)-Z<=G:=by grind
 have prod:((a:Rat)+Z)*((a:Rat)-Z)=(a:Rat)*a-Z*Z:=by grind
 constructor
 ·intro hlt
  have h3:((d*b*b:Int):Rat)+1<=((a*a:Int):Rat):=by
   have:=eI (a:=d*b*b+1) (b:=a*a) (by omega)
   rwa [Ri]at this
  rw[eA,eB]at h3;refine Qu.mp λy=>?_
  have q1:=Ra y aZ;have q2:=PZ aZ2 (PJ hη);rw[prod]at q1;rw[eη]at q2;generalize (a:Rat)*a=A2 at *
  generalize (d:Rat)*b*b=D2 at *
  generalize Z*Z=Z2 at *
  generalize η*(a-Z)=E at *
  clear prod eη eA eB hB hG;grind
 ·intro hlt
  have h3:((a*a:Int):Rat)+1<=((d*b*b:Int):Rat):=by
   have:=eI (a:=a*a+1) (b:=d*b*b) (by omega)
   rwa [Ri]at this
  rw[eA,eB]at h3;refine Qu.mp λy=>?_
  have q1:=Ra y aZ;have q2:=PZ aZ2 (PJ hη);have q3 : -((a:Rat)+Z)*(a-Z)=Z*Z-a*a:=by grind
  rw[q3]at q1;rw[eη]at q2;generalize (a:Rat)*a=A2 at *
  generalize (d:Rat)*b*b=D2 at *
  generalize Z*Z=Z2 at *
  generalize η*(a-Z)=E at *
  clear prod eη eA eB hB hG q3;grind
theorem Hk{a b d:Int}(hd:NSq d)(h0:sgq a b d≠0):∃η:Rat,0<η/\∀Z:Rat,(b=0\/0<(b:Rat)*Z)->Bd (1/4) (Z*Z-(d:Rat)*b*b)->η<=(sgq a b d:Rat)*((a:Rat)+Z):=by
 have hd1:=hd.1;by_cases hb:b=0
 ·subst hb;refine⟨1/2,by grind,λZ _ hbd=>?_⟩;obtain⟨h1,h2⟩:=hbd
  obtain⟨z1,z2⟩:=AE (z:=Z) (by
   have:((0:Int):Rat)=0:=rfl
   rw[this]at h2;grind)
  rcases R3 a 0 with z |z |z
  ·rw[eQ (by omega) (Qg _) (.inl z)];have:=eI (a:=a) (b := -1) (by omega);have e:((-1:Int):Rat) = -1:=rfl;rw[e]at this ⊢;grind
  ·subst z;exact absurd (li d) h0
  ·rw[dY (by omega) (Qg _) (.inl z)];have:=eI (a:=1) (b:=a) (by omega);have e:((1:Int):Rat)=1:=rfl;rw[e]at this ⊢;grind
 ·have bb:1<=b*b:=by
   rcases QE hb with z |z
   ·have:=QY z z;omega
   ·have:=PB z z;omega
  have dbb:1<=d*b*b:=by rw[P4];have:=PB hd1 (show 0<b*b by omega);omega
  have eB:((d*b*b:Int):Rat)=(d:Rat)*b*b:=by simp only[PH]
  have dB:=eI dbb;rw[eB]at dB;have e1:((1:Int):Rat)=1:=rfl;have e2:((-1:Int):Rat) = -1:=rfl;rw[e1]at dB;rcases QE hb with z |z
  ·have zr:(b:Rat)<0:=PR.mpr z
   have sgnZ:∀Z:Rat,(b=0\/0<(b:Rat)*Z)->Z<0:=λZ h=>by
    rcases h with y |y
    ·exact absurd y hb
    ·refine QR.mp λx=>?_
     have:=Qf (PJ zr) x;grind
   rcases QP 0 a with y |y
   ·have hne:=hd.2 a b hb;obtain⟨η,hη,hh⟩:=zI y (PD hd1) hne;refine⟨η,hη,λZ hZ hbd=>?_⟩;obtain⟨k1,k2⟩:=hh Z (PJ (sgnZ Z hZ)) hbd;rw[fY y z];by_cases x:a*a<d*b*b
    ·rw[if_pos x,e2];have:=k2 x;grind
    ·rw[if_neg x,e1];have:=k1 (by omega);grind
   ·refine⟨1/2,by grind,λZ hZ hbd=>?_⟩;have hz:=sgnZ Z hZ;have:=AD (z := -Z) (by grind) (by obtain⟨h1,h2⟩:=hbd;grind);rw[eQ y (by omega) (.inr z),e2];have ya:=eI y;have e0:((0:Int):Rat)=0:=rfl;rw[e0]at ya;grind
  ·have zr:(0:Rat)<(b:Rat):=PR.mpr z
   have sgnZ:∀Z:Rat,(b=0\/0<(b:Rat)*Z)->0<Z:=λZ h=>by
    rcases h with y |y
    ·exact absurd y hb
    ·refine QR.mp λx=>?_
     have:=PZ x (PJ zr);grind
   rcases QP a 0 with y |y
   ·have hne:=hd.2 a b hb;obtain⟨η,hη,hh⟩:=zI (a := -a) (b:=b) (d:=d) (by omega) (PD hd1) (by rw[Q6];exact hne);refine⟨η,hη,λZ hZ hbd=>?_⟩;have hz:=sgnZ Z hZ
    obtain⟨k1,k2⟩:=hh (-Z) (by grind) (by have : -Z * -Z=Z*Z:=by grind
                                          rw[this];exact hbd)
    rw[Q6]at k1 k2;have en:((-a:Int):Rat) = -(a:Rat):=Ru _;rw[en]at k1 k2;rw[fZ y z];by_cases x:a*a>d*b*b
    ·rw[if_pos x,e2];have:=k1 x;grind
    ·rw[if_neg x,e1];have:=k2 (by omega);grind
   ·refine⟨1/2,by grind,λZ hZ hbd=>?_⟩;have hz:=sgnZ Z hZ;have:=AD hz (by obtain⟨h1,h2⟩:=hbd;grind);rw[dY y (by omega) (.inr z),e1];have ya:=eI y;have e0:((0:Int):Rat)=0:=rfl;rw[e0]at ya;grind
theorem JF{v:Int}(h:0<v):(0:Rat)<(v:Rat):=PR.mpr h
theorem wj{p q s t:Rat}(hp:0<=p)(hq:0<=q)(hs:0<s)(ht:0<t):∃ε:Rat,0<ε/\ε*p<=s/\ε*q<=t:=by
 have k1:=dG hs (show 0<p+1 by grind);have k2:=dG ht (show 0<q+1 by grind);have f1:s/(p+1)*(p+1)=s:=P7 (by grind);have f2:t/(q+1)*(q+1)=t:=P7 (by grind);generalize s/(p+1)=A at *
 generalize t/(q+1)=C at *
 rcases Qx (a:=A) (b:=C)with z |z
 ·have:=Qf z hq;exact⟨A,k1,by grind,by grind⟩
 ·have:=Qf z hp;exact⟨C,k2,by grind,by grind⟩
theorem Hj{u v w d:Int}(hw:0<w)(hd:NSq d){R ε:Rat}(hR:0<=R)(hε:0<ε):∃δ:Rat,0<δ/\∀x y:Rat,Bd R x->Bd R y->x<y->y-x<=δ->0<sdR [u,d*v*v,w,bZ v] x->¬0<sdR [u,d*v*v,w,bZ v] y->(v=0\/0<(v:Rat)*((w:Rat)*x-u))/\Bd ε (((w:Rat)*x-u)*((w:Rat)*x-u)-(d:Rat)*v*v):=by
 have hW:(1:Rat)<=(w:Rat):=eI (a:=1) (by omega);obtain⟨U,U0,U1⟩:=pC (u:Rat);have hWR:=Qb (show(0:Rat)<=w by grind) hR;obtain⟨B,hB⟩:∃B:Rat,B=(w:Rat)*R+U+1:=⟨_,rfl⟩;have hB1:1<=B:=by grind
 obtain⟨m,m0,m1,m2⟩:∃m:Rat,0<m/\m<=1/2/\m*(2*B)<=ε:=by
  have h2:0<2*B:=by grind
  have hw:=dG hε h2;have hw2:ε/(2*B)*(2*B)=ε:=P7 (by grind);rcases Qx (a:=ε/(2*B)) (b:=1/2)with z |z
  ·exact⟨_,hw,z,by rw[hw2];exact Qc⟩
  ·refine⟨1/2,by grind,Qc,?_⟩;have:=Qf z (PJ h2);rw[hw2]at this;grind
 have eδ:m/(w:Rat)*(w:Rat)=m:=P7 (by grind);refine⟨m/(w:Rat),dG m0 (by grind),λx y hx hy hxy hyd sx sy=>?_⟩
 have bdX:∀z:Rat,Bd R z->Bd B ((w:Rat)*z-u):=λz hz=>by obtain⟨a1,a2⟩:=hz;obtain⟨b1,b2⟩:=U1;have c1:=PZ a1 (show(0:Rat)<=w by grind);have c2:=PZ a2 (show(0:Rat)<=w by grind);constructor<;>grind
 obtain⟨X1,X2⟩:=bdX x hx;obtain⟨Y1,Y2⟩:=bdX y hy
 have hXY:(w:Rat)*x-u<(w:Rat)*y-u:=by have:=Sz hxy (show(0:Rat)<w by grind);grind
 have hYm:(w:Rat)*y-u<=(w:Rat)*x-u+m:=by have:=Qf hyd (show(0:Rat)<=w by grind);rw[eδ]at this;grind
 have eE:((d*v*v:Int):Rat)=(d:Rat)*v*v:=by simp only[PH]
 have e1:v≠0->(1:Rat)<=(d:Rat)*v*v:=λhv=>by
  rw[<- eE];refine eI (a:=1) ?_
  have:0<d*v*v:=by
   rw[P4];refine PB hd.1 ?_;rcases QE hv with z |z
   ·exact QY z z
   ·exact PB z z
  omega
 by_cases hv:v<0
 ·have es:bZ v = -1:=by unfold bZ;rw[if_pos hv]
  rw[es]at sx sy;rw[ng,eE]at sx;rw[ng,eE]at sy;have e1:=e1 (by omega);generalize (w:Rat)*x-u=X at *
  generalize (w:Rat)*y-u=Y at *
  generalize (d:Rat)*v*v=E at *
  obtain⟨sx1,sx2⟩:=sx;have vr:(v:Rat)<0:=PR.mpr hv
  have hX0:X<0:=QR.mp λz=>by
   have:X=0:=by grind
   subst this;grind
  have hY0:Y<=0:=Qu.mp λz=>by
   have q1 : -(1/2)<=X:=by grind
   have:=AE (z:=X);have:=PZ (show -X<=1/2 by grind) (show(0:Rat) <= -X by grind);grind
  have hYE:Y*Y<=E:=Qu.mp λz=>sy ⟨hY0,z⟩
  have q:=PZ (show -X-Y<=2*B by grind) (show(0:Rat)<=Y-X by grind);have q2:=Qf (show Y-X<=m by grind) (show(0:Rat)<=2*B by grind);have q3:(Y-X)*(-X-Y)=X*X-Y*Y:=by grind
  refine⟨.inr ?_,?_,?_⟩
  ·have:=Qa (show 0 < -(v:Rat) by grind) (show 0 < -X by grind);grind
  ·grind
  ·grind
 ·have es:bZ v=1:=by unfold bZ;rw[if_neg hv]
  rw[es]at sx sy;rw[jI,eE]at sx;rw[jI,eE]at sy;generalize (w:Rat)*x-u=X at *
  generalize (w:Rat)*y-u=Y at *
  have hY0:0<=Y:=Qu.mp λz=>sy (.inl z)
  have hYE:(d:Rat)*v*v<=Y*Y:=Qu.mp λz=>sy (.inr z)
  by_cases hv0:v=0
  ·have eV:(v:Rat)=0:=by rw[hv0];rfl
   rw[eV]at sx hYE ⊢
   have hX0:X<0:=by
    rcases sx with z |z
    ·exact z
    ·have:0<=X*X:=by
      rcases Qx (a:=0) (b:=X)with y |y
      ·exact Qb y y
      ·have:=Qb (show 0 <= -X by grind) (show 0 <= -X by grind);grind
     grind
   have q:=PZ (show -X<=m by grind) (show(0:Rat) <= -X by grind);have q1:=Qf (show -X<=m by grind) (PJ m0);have q2:=PZ (show m<=2*B by grind) (PJ m0);have q4:=Qb (show 0 <= -X by grind) (show 0 <= -X by grind);refine⟨.inl hv0,?_,?_⟩<;>grind
  ·have e1:=e1 hv0;have vr:(0:Rat)<(v:Rat):=JF (by omega);generalize (d:Rat)*v*v=E at *
   have hX0:0<X:=QR.mp λz=>by have:=PZ (show Y<=1/2 by grind) hY0;grind
   have hXE:X*X<E:=by
    rcases sx with z |z
    ·grind
    ·exact z
   have q:=PZ (show X+Y<=2*B by grind) (show(0:Rat)<=Y-X by grind);have q2:=Qf (show Y-X<=m by grind) (show(0:Rat)<=2*B by grind);have q3:(Y-X)*(X+Y)=Y*Y-X*X:=by grind
   refine⟨.inr (Qa vr hX0),?_,?_⟩<;>grind
theorem DG{a b d:Int}(h:sgq a b d=0):a=0/\b=0:=by
 unfold sgq at h
 split at h
 ·split at h
  ·cases h
  ·omega
 ·split at h
  ·cases h
  ·split at h
   ·split at h<;>cases h
   ·split at h<;>cases h
theorem Ex{d:Int}(hd:NSq d){ε:Rat}(hε:0<ε):∃Z:Rat,0<Z/\Bd ε (Z*Z-(d:Rat)):=by
 have d1:(1:Rat)<=(d:Rat):=eI (a:=1) (by have:=hd.1;omega);have hs:bZ 1=1:=rfl;have e1:d*1*1=d:=by omega
 obtain⟨δ,δ0,hδ⟩:=Hj (u:=0) (v:=1) (w:=1) (d:=d) (by decide) hd (R:=(d:Rat)+1) (by grind) hε;rw[e1,hs]at hδ;have z0:((0:Int):Rat)=0:=rfl;have z1:((1:Int):Rat)=1:=rfl;have lo:0<sdR [0,d,1,1] 0:=by rw[jI,z0,z1];right;grind
 have hi:¬0<sdR [0,d,1,1] ((d:Rat)+1):=by
  rw[jI,z0,z1];rintro(y |y)
  ·grind
  ·have:=PZ d1 (show(0:Rat)<=d by grind);grind
 obtain⟨n,hn⟩:=qh δ0 ((d:Rat)+1-0);obtain⟨x,y,a1,a2,a3,a4,a5,a6⟩:=oy (s:=sdR [0,d,1,1]) δ0 n 0 ((d:Rat)+1) (by grind) lo (by omega) hn;obtain⟨k1,k2⟩:=hδ x y (by constructor<;>grind) (by constructor<;>grind) a2 a4 a5 (by omega);rw[z0,z1]at k1 k2;refine⟨x,?_,?_⟩
 ·rcases k1 with z |z
  ·exact absurd z (by decide)
  ·grind
 ·obtain⟨q1,q2⟩:=k2;constructor<;>grind
theorem qr{d:Int}(hd:NSq d)(A B:Int):∃ε η:Rat,0<ε/\0<η/\∀Z:Rat,0<Z->Bd ε (Z*Z-(d:Rat))->(sgq A B d=0->(A:Rat)+B*Z=0)/\(sgq A B d≠0->η<=(sgq A B d:Rat)*((A:Rat)+B*Z)):=by
 have bb0:(0:Rat)<=(B:Rat)*B:=by
  rcases Qx (a:=0) (b:=(B:Rat))with y |y
  ·exact Qb y y
  ·have:=Qb (show 0 <= -(B:Rat) by grind) (show 0 <= -(B:Rat) by grind);grind
 by_cases h0:sgq A B d=0
 ·obtain⟨rfl,rfl⟩:=DG h0;refine⟨1,1,by grind,by grind,λZ _ _=>⟨λ_=>?_,λz=>absurd h0 z⟩⟩;have z0:((0:Int):Rat)=0:=rfl;rw[z0];grind
 ·obtain⟨η,hη,hn⟩:=Hk hd h0;obtain⟨ε,ε0,ε1,_⟩:=wj bb0 (Qc (a:=0)) (show(0:Rat)<1/4 by grind) (show(0:Rat)<1 by grind);refine⟨ε,η,ε0,hη,λZ hZ hb=>⟨λz=>absurd z h0,λ_=>hn _ ?_ ?_⟩⟩
  ·by_cases hB:B=0
   ·exact .inl hB
   ·right
    have:(1:Rat)<=(B:Rat)*B:=by
     have:1<=B*B:=by
      rcases QE hB with y |y
      ·have:=QY y y;omega
      ·have:=PB y y;omega
     have:=eI this
     rwa [PH]at this
    have:=Qa (show(0:Rat)<(B:Rat)*B by grind) hZ;grind
  ·obtain⟨q1,q2⟩:=hb;have k1:=Qf q1 bb0;have k2:=Qf q2 bb0;constructor<;>grind
theorem DI{d:Int}(hd:NSq d)(A1 B1 A2 B2 A3 B3:Int):∃η:Rat,0<η/\∀ε:Rat,0<ε->∃Z:Rat,Bd ε (Z*Z-(d:Rat))/\0<Z /\
 ((sgq A1 B1 d=0->(A1:Rat)+B1*Z=0)/\(sgq A1 B1 d≠0->η<=(sgq A1 B1 d:Rat)*((A1:Rat)+B1*Z))) /\
 ((sgq A2 B2 d=0->(A2:Rat)+B2*Z=0)/\(sgq A2 B2 d≠0->η<=(sgq A2 B2 d:Rat)*((A2:Rat)+B2*Z))) /\
 ((sgq A3 B3 d=0->(A3:Rat)+B3*Z=0)/\(sgq A3 B3 d≠0->η<=(sgq A3 B3 d:Rat)*((A3:Rat)+B3*Z))):=by
 obtain⟨ε1,η1,a1,b1,h1⟩:=qr hd A1 B1;obtain⟨ε2,η2,a2,b2,h2⟩:=qr hd A2 B2;obtain⟨ε3,η3,a3,b3,h3⟩:=qr hd A3 B3
 have two:∀u v:Rat,0<u->0<v->∃w:Rat,0<w/\w<=u/\w<=v:=λu v hu hv=>by
  rcases Qx (a:=u) (b:=v)with z |z
  ·exact⟨u,hu,Qc,z⟩
  ·exact⟨v,hv,z,Qc⟩
 obtain⟨e,he,e1,e2⟩:=two ε1 ε2 a1 a2;obtain⟨e',he',e3,e4⟩:=two e ε3 he a3;obtain⟨f,hf,f1,f2⟩:=two η1 η2 b1 b2;obtain⟨g,hg,g1,g2⟩:=two f η3 hf b3;refine⟨g,hg,λε hε=>?_⟩;obtain⟨w,hw,w1,w2⟩:=two e' ε he' hε;obtain⟨Z,Z0,hZ⟩:=Ex hd hw;obtain⟨p1,p2⟩:=h1 Z Z0 (hZ.mono (by grind));obtain⟨p3,p4⟩:=h2 Z Z0 (hZ.mono (by grind));obtain⟨p5,p6⟩:=h3 Z Z0 (hZ.mono (by grind));exact⟨Z,hZ.mono w2,Z0,⟨p1,λz=>RJ (by grind) (p2 z)⟩,⟨p3,λz=>RJ (by grind) (p4 z)⟩,⟨p5,λz=>RJ (by grind) (p6 z)⟩⟩
theorem DH{d:Int}(hd:NSq d)(x y x' y':Int):sgq (x*x'+d*y*y') (x*y'+x'*y) d=sgq x y d*sgq x' y' d:=by
 obtain⟨η,hη,hall⟩:=DI hd x y x' y' (x*x'+d*y*y') (x*y'+x'*y);obtain⟨M,M0,hM⟩:=pC ((y:Rat)*y')
 obtain⟨T,T0,hT1,hT2⟩:∃T:Rat,0<T/\T<=η/2/\T<=η*η/2:=by
  have:=Qa hη hη;rcases Qx (a:=η/2) (b:=η*η/2)with z |z
  ·exact⟨_,by grind,Qc,z⟩
  ·exact⟨_,by grind,z,Qc⟩
 obtain⟨ε,ε0,ε1,_⟩:=wj M0 (Qc (a:=0)) T0 (show(0:Rat)<1 by grind);obtain⟨Z,hZ,Z0,⟨p1,p2⟩,⟨p3,p4⟩,⟨p5,p6⟩⟩:=hall ε ε0
 have key:((x*x'+d*y*y':Int):Rat)+((x*y'+x'*y:Int):Rat)*Z=((x:Rat)+y*Z)*((x':Rat)+y'*Z)-(y:Rat)*y'*(Z*Z-d):=by simp only[Ri,PH];grind
 rw[key]at p5 p6;obtain⟨s1,s2⟩:=hM.mul hZ;have e1:((1:Int):Rat)=1:=rfl;have e2:((-1:Int):Rat) = -1:=rfl;have c3:=iF (x*x'+d*y*y') (x*y'+x'*y) d;generalize sgq (x*x'+d*y*y') (x*y'+x'*y) d=r at *
 generalize (y:Rat)*y'*(Z*Z-d)=E at *
 rcases iF x y d with a |a |a
 ·have a2:=p2 (by omega);rw[a,e1]at a2;rcases iF x' y' d with b |b |b
  ·have b2:=p4 (by omega);rw[b,e1]at b2;rw[a,b];have q1:=PZ (show η<=(x':Rat)+y'*Z by grind) (PJ hη);have q2:=Qf (show η<=(x:Rat)+y*Z by grind) (show 0<=(x':Rat)+y'*Z by grind);generalize ((x:Rat)+y*Z)*((x':Rat)+y'*Z)=G at *
   rcases c3 with z |z |z
   ·exact z
   ·have:=p5 z;grind
   ·have:=p6 (by omega);rw[z,e2]at this;grind
  ·have b2:=p3 b;rw[a,b];have q1:((x:Rat)+y*Z)*((x':Rat)+y'*Z)=0:=by rw[b2];grind
   rw[q1]at p5 p6;rcases c3 with z |z |z
   ·have:=p6 (by omega);rw[z,e1]at this;grind
   ·exact z
   ·have:=p6 (by omega);rw[z,e2]at this;grind
  ·have b2:=p4 (by omega);rw[b,e2]at b2;rw[a,b];have q1:=PZ (show η <= -((x':Rat)+y'*Z) by grind) (PJ hη);have q2:=Qf (show η<=(x:Rat)+y*Z by grind) (show 0 <= -((x':Rat)+y'*Z) by grind);have q3:((x:Rat)+y*Z) * -((x':Rat)+y'*Z) = -(((x:Rat)+y*Z)*((x':Rat)+y'*Z)):=by grind
   rw[q3]at q2;generalize ((x:Rat)+y*Z)*((x':Rat)+y'*Z)=G at *
   rcases c3 with z |z |z
   ·have:=p6 (by omega);rw[z,e1]at this;grind
   ·have:=p5 z;grind
   ·exact z
 ·have a2:=p1 a;rw[a];have q1:((x:Rat)+y*Z)*((x':Rat)+y'*Z)=0:=by rw[a2];grind
  rw[q1]at p5 p6;rcases c3 with z |z |z
  ·have:=p6 (by omega);rw[z,e1]at this;grind
  ·rw[z];omega
  ·have:=p6 (by omega);rw[z,e2]at this;grind
 ·have a2:=p2 (by omega);rw[a,e2]at a2;rcases iF x' y' d with b |b |b
  ·have b2:=p4 (by omega);rw[b,e1]at b2;rw[a,b];have q1:=PZ (show η<=(x':Rat)+y'*Z by grind) (PJ hη);have q2:=Qf (show η <= -((x:Rat)+y*Z) by grind) (show 0<=(x':Rat)+y'*Z by grind);have q3 : -((x:Rat)+y*Z)*((x':Rat)+y'*Z) = -(((x:Rat)+y*Z)*((x':Rat)+y'*Z)):=by grind
   rw[q3]at q2;generalize ((x:Rat)+y*Z)*((x':Rat)+y'*Z)=G at *
   rcases c3 with z |z |z
   ·have:=p6 (by omega);rw[z,e1]at this;grind
   ·have:=p5 z;grind
   ·exact z
  ·have b2:=p3 b;rw[a,b];have q1:((x:Rat)+y*Z)*((x':Rat)+y'*Z)=0:=by rw[b2];grind
   rw[q1]at p5 p6;rcases c3 with z |z |z
   ·have:=p6 (by omega);rw[z,e1]at this;grind
   ·exact z
   ·have:=p6 (by omega);rw[z,e2]at this;grind
  ·have b2:=p4 (by omega);rw[b,e2]at b2;rw[a,b];have q1:=PZ (show η <= -((x':Rat)+y'*Z) by grind) (PJ hη);have q2:=Qf (show η <= -((x:Rat)+y*Z) by grind) (show 0 <= -((x':Rat)+y'*Z) by grind);have q3 : -((x:Rat)+y*Z) * -((x':Rat)+y'*Z)=((x:Rat)+y*Z)*((x':Rat)+y'*Z):=by grind
   rw[q3]at q2;generalize ((x:Rat)+y*Z)*((x':Rat)+y'*Z)=G at *
   rcases c3 with z |z |z
   ·exact z
   ·have:=p5 z;grind
   ·have:=p6 (by omega);rw[z,e2]at this;grind
theorem wM{x:Int}(h:x≠0):0<x*x:=by
 rcases QE h with z |z
 ·exact QY z z
 ·exact PB z z
theorem zh{A V W K F d:Int}(hd:NSq d)(d16:d<=16)(K1:1<=K)(W1:0<W)(F1:0<F)(hV:V=F\/V = -F)(h0:0<sgq A V d)(h1:sgq (A*K-W) (V*K) d<0):K*K*((A*A-d*V*V).natAbs:Int)<W*W+8*(W*K*F):=by
 have dF:d*V*V<=16*(F*F):=by
  have e:d*V*V=d*(F*F):=by rcases hV with rfl |rfl<;>grind
  rw[e];exact P6 d16 (PD (PB F1 F1))
 have dp:0<d*V*V:=by
  have e:d*V*V=d*(F*F):=by rcases hV with rfl |rfl<;>grind
  rw[e];exact PB hd.1 (PB F1 F1)
 have WKF:0<W*K*F:=PB (PB W1 (by omega)) F1;have ek:d*(V*K)*(V*K)=K*K*(d*V*V):=by grind
 have abs4:∀x:Int,0<=x->x*x<d*V*V->x<4*F:=λx hx hxx=>Qm.mp λz=>by
  have:=dL (show(0:Int)<=4*F by omega) z;have e:4*F*(4*F)=16*(F*F):=by grind
  omega
 rcases hV with hV |hV
 ·have Vp:0<V:=by omega
  have VK:0<V*K:=PB Vp (by omega);have B0:A*K-W<0:=Qm.mp λz=>by rw[dY z (PD VK) (.inr VK)]at h1;exact absurd h1 (by decide)
  rw[fZ B0 VK,ek]at h1;have h2:(A*K-W)*(A*K-W)>K*K*(d*V*V):=Classical.byContradiction λz=>by rw[if_neg z]at h1;exact absurd h1 (by decide)
  have e2:(A*K-W)*(A*K-W)=K*K*(A*A)-2*(A*K*W)+W*W:=by grind
  have e3:K*K*(A*A-d*V*V)=K*K*(A*A)-K*K*(d*V*V):=by grind
  by_cases hA:A<0
  ·rw[fZ hA Vp]at h0;have h3:¬A*A>d*V*V:=λz=>by rw[if_pos z]at h0;exact absurd h0 (by decide)
   have hne:=hd.2 A V (by omega);have e4:((A*A-d*V*V).natAbs:Int) = -(A*A-d*V*V):=by omega
   have a4:=abs4 (-A) (by omega) (by rw[Q6];omega);have e5 : -(A*K*W) = -A*(W*K):=by grind
   have e6 : -A*(W*K)<=4*F*(W*K):=P6 (by omega) (PD (PB W1 (by omega)));have e7:4*F*(W*K)=4*(W*K*F):=by grind
   rw[e4,Rr,e3];omega
  ·have hAK:A*K<W:=by omega
   have AK0:0<=A*K:=P5 (by omega) (by omega);have q1:=ny AK0 hAK;have e4:A*K*(A*K)=K*K*(A*A):=by grind
   have q0:0<=A*K*W:=P5 AK0 (by omega);have KK:0<K*K:=PB (by omega) (by omega);have q2:0<=K*K*(A*A):=by rw[<- e4];exact P5 AK0 AK0
   have q3:0<K*K*(d*V*V):=PB KK dp
   have e5:K*K*((A*A-d*V*V).natAbs:Int)=K*K*(A*A-d*V*V)\/K*K*((A*A-d*V*V).natAbs:Int) = -(K*K*(A*A-d*V*V)):=by
    rcases Int.natAbs_eq (A*A-d*V*V)with z |z
    ·left;rw[<- z]
    ·right;rw[<- Rr];congr 1;omega
   rcases e5 with z |z<;>rw[z,e3]<;>omega
 ·have Vn:V<0:=by omega
  have VK:V*K<0:=RD Vn (by omega);have Ap:0<A:=Qm.mp λz=>by rw[eQ z (PD Vn) (.inr Vn)]at h0;exact absurd h0 (by decide)
  rw[fY Ap Vn]at h0;have h3:¬A*A<d*V*V:=λz=>by rw[if_pos z]at h0;exact absurd h0 (by decide)
  have e4:((A*A-d*V*V).natAbs:Int)=A*A-d*V*V:=by omega
  have e3:K*K*(A*A-d*V*V)=K*K*(A*A)-K*K*(d*V*V):=by grind
  have KK:0<K*K:=PB (by omega) (by omega);have q3:0<K*K*(d*V*V):=PB KK dp;have e5:A*K*(A*K)=K*K*(A*A):=by grind
  rw[e4,e3];by_cases hB:A*K-W<=0
  ·have q1:=dL (P5 (PD Ap) (show 0<=K by omega)) (show A*K<=W by omega);omega
  ·rw[fY (by omega) VK,ek]at h1;have h2:(A*K-W)*(A*K-W)<K*K*(d*V*V):=Classical.byContradiction λz=>by rw[if_neg z]at h1;exact absurd h1 (by decide)
   have e2:(A*K-W)*(A*K-W)=K*K*(A*A)-2*(A*K*W)+W*W:=by grind
   have h4:A*K-W<4*(K*F):=Qm.mp λz=>by
    have q:=dL (show(0:Int)<=4*(K*F)from P5 (by decide) (PD (PB (by omega) F1))) z;have e:4*(K*F)*(4*(K*F))=K*K*(16*(F*F)):=by grind
    have:=QA dF (PD KK);omega
   have h5:(A*K-W)*W<=4*(K*F)*W:=P6 (by omega) (by omega);have e6:(A*K-W)*W=A*K*W-W*W:=by grind
   have e7:4*(K*F)*W=4*(W*K*F):=by grind
   omega
noncomputable def sdT(d:Int)(T:Int×Int×Int)(x1 x2:Int):Int:=sgq (T.1*x2-x1*T.2.2) (T.2.1*x2) d
noncomputable def nxT(d:Int)(T:Int×Int×Int)(q:Int):Int×Int×Int :=
 if 0<(T.1-q*T.2.2)*(T.1-q*T.2.2)-d*T.2.1*T.2.1 then(T.1-q*T.2.2,-T.2.1,((T.1-q*T.2.2)*(T.1-q*T.2.2)-d*T.2.1*T.2.1)/T.2.2)else(-(T.1-q*T.2.2),T.2.1,-((T.1-q*T.2.2)*(T.1-q*T.2.2)-d*T.2.1*T.2.1)/T.2.2)
structure TOk(d F:Int)(T:Int×Int×Int):Prop where
 ns:NSq d
 d16:d<=16
 F1:0<F
 w:0<T.2.2
 v:T.2.1=F\/T.2.1 = -F
 dv:T.2.2∣T.1*T.1-d*T.2.1*T.2.1
theorem TOk.v0{d F:Int}{T:Int×Int×Int}(h:TOk d F T):T.2.1≠0:=by have:=h.F1;rcases h.v with z |z<;>omega
theorem gn{d F:Int}{T:Int×Int×Int}(h:TOk d F T){x1 x2:Int}(hx:0<x2):sdT d T x1 x2=1\/sdT d T x1 x2 = -1:=by
 rcases iF (T.1*x2-x1*T.2.2) (T.2.1*x2) d with z |z |z
 ·exact .inl z
 ·exact absurd (yd z).2 (Qe h.v0 (by omega))
 ·exact .inr z
theorem yl{d F:Int}{T:Int×Int×Int}(h:TOk d F T){x1 x2:Int}(hx:0<x2):sdT d T x1 x2=ap [T.1,d*T.2.1*T.2.1,T.2.2,bZ T.2.1] x1 x2:=(qm h.ns hx).symm
theorem TOk.spt{d F:Int}{T:Int×Int×Int}(h:TOk d F T):Spt [T.1,d*T.2.1*T.2.1,T.2.2,bZ T.2.1]:=by refine⟨_,_,_,_,rfl,?_,h.w,by unfold bZ;split<;>simp⟩;rw[P4];exact PD (PB h.ns.1 (wM h.v0))
theorem gZ{d F:Int}{T:Int×Int×Int}(h:TOk d F T){x1 x2 y1 y2:Int}(hx:0<x2)(hy:0<y2)(hle:x1*y2<=y1*x2)(hp:0<sdT d T y1 y2):0<sdT d T x1 x2:=by rw[yl h hx];rw[yl h hy]at hp;exact Qm.mp λz=>by have:=nQ h.spt hx hy hle z;omega
theorem Be{d F:Int}{T:Int×Int×Int}(h:TOk d F T)(q:Int):T.2.2∣(T.1-q*T.2.2)*(T.1-q*T.2.2)-d*T.2.1*T.2.1:=by
 have e:(T.1-q*T.2.2)*(T.1-q*T.2.2)-d*T.2.1*T.2.1=(T.1*T.1-d*T.2.1*T.2.1)+T.2.2*(q*q*T.2.2-2*q*T.1):=by grind
 rw[e];exact Int.dvd_add h.dv (Int.dvd_mul_right _ _)
theorem zg{d F:Int}{T:Int×Int×Int}(h:TOk d F T)(q:Int):(T.1-q*T.2.2)*(T.1-q*T.2.2)-d*T.2.1*T.2.1≠0:=λz=>h.ns.2 (T.1-q*T.2.2) T.2.1 h.v0 (by omega)
theorem iO{d F:Int}{T:Int×Int×Int}(h:TOk d F T)(q:Int):∃ε W':Int,(ε=1\/ε = -1)/\0<W'/\nxT d T q=(ε*(T.1-q*T.2.2),-ε*T.2.1,W')/\T.2.2*W'=ε*((T.1-q*T.2.2)*(T.1-q*T.2.2)-d*T.2.1*T.2.1)/\TOk d F (nxT d T q):=by
 have hd:=Be h q;have hn:=zg h q;have hw:=h.w
 obtain⟨ε,W',e1,e2,e3,e4⟩:∃ε W':Int,(ε=1\/ε = -1)/\0<W'/\nxT d T q=(ε*(T.1-q*T.2.2),-ε*T.2.1,W')/\T.2.2*W'=ε*((T.1-q*T.2.2)*(T.1-q*T.2.2)-d*T.2.1*T.2.1):=by
  unfold nxT;generalize (T.1-q*T.2.2)*(T.1-q*T.2.2)-d*T.2.1*T.2.1=N at *
  obtain⟨c,rfl⟩:=hd;by_cases hp:0<T.2.2*c
  ·rw[if_pos hp];have cp:0<c:=Qm.mp λz=>by have:=RC (PD hw) z;omega
   refine⟨1,c,.inl rfl,cp,?_,by rw[PY]⟩;rw[Sm _ (by omega),PY];show(_,-T.2.1,_)=(_,-1*T.2.1,_);rw[RL]
  ·rw[if_neg hp]
   have cn:c<0:=Qm.mp λz=>by have:=P5 (PD hw) z;omega
   refine⟨-1,-c,.inr rfl,by omega,?_,by rw[Rr,RL]⟩;rw[<- Rr,Sm _ (by omega),RL,Int.neg_neg,PY]
 refine⟨ε,W',e1,e2,e3,e4,?_⟩;rw[e3];refine⟨h.ns,h.d16,h.F1,e2,?_,?_⟩
 ·show -ε*T.2.1=F \/ -ε*T.2.1 = -F;rcases e1 with rfl |rfl<;>rcases h.v with z |z<;>rw[z]<;>omega
 ·show W'∣ε*(T.1-q*T.2.2)*(ε*(T.1-q*T.2.2))-d*(-ε*T.2.1)*(-ε*T.2.1)
  have e5:ε*(T.1-q*T.2.2)*(ε*(T.1-q*T.2.2))-d*(-ε*T.2.1)*(-ε*T.2.1)=W'*(ε*T.2.2):=by
   have e6:ε*ε=1:=by rcases e1 with rfl |rfl<;>rfl
   have e7:ε*(T.1-q*T.2.2)*(ε*(T.1-q*T.2.2))-d*(-ε*T.2.1)*(-ε*T.2.1)=ε*ε*((T.1-q*T.2.2)*(T.1-q*T.2.2)-d*T.2.1*T.2.1):=by grind
   rw[e7,P4 ε ε,<- e4];grind
  rw[e5];exact Int.dvd_mul_right _ _
theorem ou{d F:Int}{T:Int×Int×Int}(h:TOk d F T){q x1 x2:Int}(h0:0<sdT d T q 1)(hx:0<x1-q*x2):sdT d (nxT d T q) x2 (x1-q*x2) = -sdT d T x1 x2:=by
 obtain⟨ε,W',e1,e2,e3,e4,_⟩:=iO h q;have hw:=h.w;unfold sdT;rw[e3];show sgq (ε*(T.1-q*T.2.2)*(x1-q*x2)-x2*W') (-ε*T.2.1*(x1-q*x2)) d=_
 have g1:sgq (T.1-q*T.2.2) T.2.1 d=1:=by have:0<sgq (T.1*1-q*T.2.2) (T.2.1*1) d:=h0;rw[P8,P8]at this;rcases iF (T.1-q*T.2.2) T.2.1 d with z |z |z<;>omega
 generalize hU:T.1-q*T.2.2=U at *
 generalize hV:T.2.1=V at *
 generalize hW:T.2.2=W at *
 generalize hX:x1-q*x2=X at *
 have m:=DH h.ns (W*(ε*U*X-x2*W')) (W*(-ε*V*X)) U V;rw[g1,P8,jQ hw]at m;have ee:ε*ε=1:=by rcases e1 with rfl |rfl<;>rfl
 have p1:W*(ε*U*X-x2*W')*U+d*(W*(-ε*V*X))*V=(W*W')*(W*X-x2*U):=by
  have:W*(ε*U*X-x2*W')*U+d*(W*(-ε*V*X))*V=ε*(U*U-d*V*V)*(W*X)-(W*W')*(x2*U):=by grind
  rw[this,<- e4];grind
 have p2:W*(ε*U*X-x2*W')*V+U*(W*(-ε*V*X))=(W*W')*(-(x2*V)):=by grind
 rw[p1,p2,jQ (PB hw e2)]at m;rw[<- m];have p3:W*X-x2*U = -(T.1*x2-x1*W):=by rw[<- hX,<- hU];grind
 have p4 : -(x2*V) = -(V*x2):=by rw[P9]
 rw[p3,p4,nU h.ns]
theorem uk{d F:Int}{T:Int×Int×Int}(h:TOk d F T)(W33:T.2.2<=2^33)(F24:F<=2^25){n:Int}(h0:0<sdT d T n 1):0<sdT d T (n*2^29+1) (2^29):=by
 have hw:=h.w;rcases gn h (x1:=n*2^29+1) (x2:=2^29) (by decide)with z |z
 ·omega
 ·exfalso
  have h0':0<sgq (T.1-n*T.2.2) T.2.1 d:=by
   have:0<sgq (T.1*1-n*T.2.2) (T.2.1*1) d:=h0
   rwa [P8,P8]at this
  have z':sgq ((T.1-n*T.2.2)*2^29-T.2.2) (T.2.1*2^29) d<0:=by
   have e:(T.1-n*T.2.2)*2^29-T.2.2=T.1*2^29-(n*2^29+1)*T.2.2:=by grind
   rw[e];have:sgq (T.1*2^29-(n*2^29+1)*T.2.2) (T.2.1*2^29) d = -1:=z;rw[this];decide
  have nl:=zh h.ns h.d16 (by decide) hw h.F1 h.v h0' z';have hd:=Be h n;have hn:=zg h n;generalize (T.1-n*T.2.2)*(T.1-n*T.2.2)-d*T.2.1*T.2.1=N at *
  have hle:T.2.2<=(N.natAbs:Int):=by
   obtain⟨c,rfl⟩:=hd;have c0:c≠0:=λz=>hn (by rw[z,Qd])
   rw[PN,QC];have c1:(1:Int)<=(c.natAbs:Int):=by omega
   have w1:(T.2.2.natAbs:Int)=T.2.2:=by omega
   rw[w1];have:=QA c1 (PD hw);omega
  generalize T.2.2=W at *
  have q1:W*W<=2^33*W:=P6 W33 (PD hw);have q2:W*2^29*F<=W*2^29*2^25:=QA F24 (by omega);have q3:(2:Int)^29*2^29*W<=2^29*2^29*(N.natAbs:Int):=QA hle (by decide);omega
theorem TOk.neg{d F:Int}{T:Int×Int×Int}(h:TOk d F T):TOk d F (-T.1,-T.2.1,T.2.2):=by
 refine⟨h.ns,h.d16,h.F1,h.w,?_,?_⟩
 ·show -T.2.1=F \/ -T.2.1 = -F;rcases h.v with z |z<;>omega
 ·show T.2.2 ∣ -T.1 * -T.1-d * -T.2.1 * -T.2.1;have e : -T.1 * -T.1-d * -T.2.1 * -T.2.1=T.1*T.1-d*T.2.1*T.2.1:=by grind
  rw[e];exact h.dv
theorem yn{d F:Int}{T:Int×Int×Int}(h:TOk d F T)(x1 x2:Int):sdT d (-T.1,-T.2.1,T.2.2) (-x1) x2 = -sdT d T x1 x2:=by unfold sdT;show sgq (-T.1*x2 - -x1*T.2.2) (-T.2.1*x2) d=_;rw[show -T.1*x2 - -x1*T.2.2 = -(T.1*x2-x1*T.2.2) by grind,QF,nU h.ns]
theorem J4{d F:Int}{T:Int×Int×Int}(h:TOk d F T)(W33:T.2.2<=2^33)(F24:F<=2^25){n:Int}(h0:sdT d T n 1<0):sdT d T (n*2^29-1) (2^29)<0:=by have g:=uk h.neg W33 F24 (n := -n) (by rw[yn h];omega);rw[show -n*2^29+1 = -(n*2^29-1) by grind,yn h]at g;omega
theorem Hh{d F:Int}{T:Int×Int×Int}(h:TOk d F T)(W33:T.2.2<=2^33)(F24:F<=2^25){x1 x2 y1 y2 n:Int}(hx:0<x2)(hy:0<y2)(sx:sdT d T x1 x2=1)(sy:sdT d T y1 y2 = -1)(wide:(y1*x2-x1*y2)*2^29<=x2*y2):¬(x1<n*x2/\n*y2<=y1):=λ⟨h1,h2⟩=>by
 rcases gn h (x1:=n) (x2:=1) (by decide)with z |z
 ·have g:=uk h W33 F24 (n:=n) (by omega)
  have lt:(n*2^29+1)*y2<y1*2^29:=Qm.mp λz=>by have:=gZ h hy (show(0:Int)<2^29 by decide) z g;omega
  have q1:=Qv lt hx;have q2:=Qv h1 (show(0:Int)<y2*2^29 from PB hy (by decide));have e1:(n*2^29+1)*y2*x2=n*x2*(y2*2^29)+x2*y2:=by grind
  have e2:(y1*x2-x1*y2)*2^29=y1*2^29*x2-x1*(y2*2^29):=by grind
  omega
 ·have g:=J4 h W33 F24 (n:=n) (by omega)
  have lt:x1*2^29<(n*2^29-1)*x2:=Qm.mp λz=>by have:=gZ h (show(0:Int)<2^29 by decide) hx z (by omega);omega
  have q1:=Qv lt hy;have q2:=P6 h2 (show(0:Int)<=x2*2^29 from PD (PB hx (by decide)));have e1:(n*2^29-1)*x2*y2=n*y2*(x2*2^29)-x2*y2:=by grind
  have e2:(y1*x2-x1*y2)*2^29=y1*(x2*2^29)-x1*2^29*y2:=by grind
  omega
def Qt(d:Int)(T:Int×Int×Int)(q:Int):Prop:=0<sdT d T q 1/\sdT d T (q+1) 1<0
noncomputable def di(d:Int):Int×Int×Int->List Int->Prop
 |_,[]=>True
 |T,q::qs=>Qt d T q/\di d (nxT d T q) qs
theorem E5{d F:Int}{T:Int×Int×Int}(h:TOk d F T){a b:Int}(ha:Qt d T a)(hb:Qt d T b):a=b:=by
 have key:∀a b:Int,Qt d T a->Qt d T b->¬a<b:=λa b ha hb z=>by have:=gZ h (x1:=a+1) (x2:=1) (y1:=b) (y2:=1) (by decide) (by decide) (by omega) hb.1;have:=ha.2;omega
 have:=key a b ha hb;have:=key b a hb ha;omega
theorem yk{d F:Int}:∀{T:Int×Int×Int} (_:TOk d F T) (a b:List Int),di d T a->di d T b->a.length<=b.length->a=b.take a.length
 |_,_,[],b,_,_,_=>by rw[Sf,R7]
 |_,_,a::as,[],_,_,hl=>absurd hl (by simp)
 |T,h,a::as,b::bs,ha,hb,hl=>by have e:=E5 h ha.1 hb.1;subst e;obtain⟨_,_,_,_,_,_,h'⟩:=iO h a;rw[Qw,Sn,<- yk h' as bs ha.2 hb.2 (by simpa using hl)]
theorem yi{d:Int}:∀{T:Int×Int×Int} (n:Nat) (a:List Int),di d T a->di d T (a.take n)
 |_,0,a,_=>by rw[R7];trivial
 |_,n+1,[],h=>h
 |_,n+1,a::as,h=>⟨h.1,yi n as h.2⟩
noncomputable def gL(d:Int)(T:Int×Int×Int)(qs:List Int):Int×Int×Int:=qs.foldl (nxT d) T
theorem yj{d:Int}:∀{T:Int×Int×Int} (a:List Int) (q:Int),di d T a->Qt d (gL d T a) q->di d T (a++[q])
 |_,[],q,_,h=>⟨h,trivial⟩
 |_,a::as,q,h,hq=>⟨h.1,yj as q h.2 hq⟩
noncomputable def CfR:Int->Int->List Int->Prop
 |_,b,[]=>b=0
 |t,b,q::L=>0<b/\q=t/b/\CfR b (t%b) L
noncomputable def f7:List Int->List Int->List Int
 |x::xs,y::ys=>if x=y then x::f7 xs ys else[]
 |_,_=>[]
theorem fl{t b q:Int}(hb:0<b)(e:q=t/b):q*b<=t/\t<(q+1)*b/\t%b=t-q*b:=by
 have h1:=R8 t (show b≠0 by omega);have h2:=RO t hb;have h3:=Int.mul_ediv_add_emod t b;rw[<- e]at h3;have e2:(q+1)*b=q*b+b:=by grind
 have e3:b*q=q*b:=P9 _ _;refine⟨by omega,by omega,by omega⟩
theorem sO{d F:Int}:∀(L1 L2:List Int) {T:Int×Int×Int} {x1 x2 y1 y2:Int},TOk d F T->CfR x1 x2 L1->CfR y1 y2 L2->(0<x2->0<y2->sdT d T x1 x2*sdT d T y1 y2 = -1)->di d T (f7 L1 L2)
 | [],_,_,_,_,_,_,_,_,_,_=>trivial
 |_::_,[],_,_,_,_,_,_,_,_,_=>trivial
 |a::L1,b::L2,T,x1,x2,y1,y2,h,hx,hy,hs=>by
  obtain⟨x2p,ea,cx⟩:=hx;obtain⟨y2p,eb,cy⟩:=hy;show di d T (if a=b then a::f7 L1 L2 else[]);by_cases e':¬a=b
  ·rw[if_neg e'];trivial
  have e:a=b:=Classical.not_not.mp e';rw[if_pos e];subst e;have hs':=hs x2p y2p;obtain⟨f1,f2,f3⟩:=fl x2p ea;obtain⟨g1,g2,g3⟩:=fl y2p eb
  have hq:Qt d T a:=by
   have cc:∀{u1 u2 w1 w2:Int},0<u2->0<w2->a*u2<=u1->w1<(a+1)*w2->sdT d T u1 u2=1->sdT d T w1 w2 = -1->Qt d T a:=λ{u1 u2 w1 w2} hu hw l1 l2 s1 s2=>by
    refine⟨gZ h (y1:=u1) (by decide) hu (by rw[P8];exact l1) (by omega),?_⟩;rcases gn h (x1:=a+1) (x2:=1) (by decide)with z |z
    ·have:=gZ h hw (show(0:Int)<1 by decide) (x1:=w1) (y1:=a+1) (by rw[P8];exact PD l2) (by omega);omega
    ·omega
   rcases gn h (x1:=x1) x2p with z |z<;>rcases gn h (x1:=y1) y2p with z' |z'<;>rw[z,z']at hs'
   ·exact absurd hs' (by decide)
   ·exact cc x2p y2p f1 g2 z z'
   ·exact cc y2p x2p g1 f2 z' z
   ·exact absurd hs' (by decide)
  refine⟨hq,?_⟩;obtain⟨_,_,_,_,_,_,h'⟩:=iO h a;rw[f3]at cx;rw[g3]at cy;refine sO L1 L2 h' cx cy λp1 p2=>?_
  rw[ou h hq.1 p1,ou h hq.1 p2,Q6];exact hs'
theorem sY{d F:Int}{T:Int×Int×Int}(h:TOk d F T){q:Int}(hq:Qt d T q):(nxT d T q).2.2<=T.2.2+8*F/\(T.1-q*T.2.2).natAbs<T.2.2+4*F+1:=by
 obtain⟨ε,W',e1,e2,e3,e4,_⟩:=iO h q;have hw:=h.w
 have a0:0<sgq (T.1-q*T.2.2) T.2.1 d:=by
  have:0<sgq (T.1*1-q*T.2.2) (T.2.1*1) d:=hq.1
  rwa [P8,P8]at this
 have a1:sgq ((T.1-q*T.2.2)*1-T.2.2) (T.2.1*1) d<0:=by
  have:sgq (T.1*1-(q+1)*T.2.2) (T.2.1*1) d<0:=hq.2
  rwa [show T.1*1-(q+1)*T.2.2=(T.1-q*T.2.2)*1-T.2.2 by grind]at this
 have nl:=zh h.ns h.d16 (Qg 1) hw h.F1 h.v a0 a1;constructor
 ·rw[e3];show W'<=_
  have e5:(((T.1-q*T.2.2)*(T.1-q*T.2.2)-d*T.2.1*T.2.1).natAbs:Int)=T.2.2*W':=by have p:=PB hw e2;rcases e1 with rfl |rfl<;>omega
  rw[e5]at nl;have e6:(1:Int)*1*(T.2.2*W')=T.2.2*W':=by rw[PY,PY]
  have e7:T.2.2*T.2.2+8*(T.2.2*1*F)=T.2.2*(T.2.2+8*F):=by grind
  rw[e6,e7]at nl;exact PD (Sl nl (PD hw))
 ·rw[P8,P8]at a1;have F1:=h.F1;have d16:=h.d16
  have dF:d*T.2.1*T.2.1<=16*(F*F):=by
   have e:d*T.2.1*T.2.1=d*(F*F):=by rcases h.v with z |z<;>rw[z]<;>grind
   rw[e];exact P6 d16 (PD (PB F1 F1))
  have big:∀x:Int,4*F<=x->d*T.2.1*T.2.1<=x*x:=λx hx=>by
   have:=dL (show(0:Int)<=4*F by omega) hx;have e:4*F*(4*F)=16*(F*F):=by grind
   omega
  generalize T.1-q*T.2.2=A at *
  have hne:=h.ns.2
  have up:A<T.2.2+4*F:=Qm.mp λz=>by
   have b:=big (A-T.2.2) (by omega);rcases h.v with y |y
   ·rw[dY (by omega) (by omega) (.inl (by omega))]at a1;exact absurd a1 (by decide)
   ·rw[fY (by omega) (by omega),if_neg (by omega)]at a1;exact absurd a1 (by decide)
  have dn : -(4*F)<A:=Qm.mp λz=>by
   have b:=big (-A) (by omega);rw[Q6]at b;have:=hne A T.2.1 h.v0;rcases h.v with y |y
   ·rw[fZ (by omega) (by omega),if_pos (by omega)]at a0;exact absurd a0 (by decide)
   ·rw[eQ (by omega) (by omega) (.inl (by omega))]at a0;exact absurd a0 (by decide)
  omega
theorem wk{d F:Int}{T:Int×Int×Int}(h:TOk d F T)(W33:T.2.2<=2^33)(F24:F<=2^25){u1 u2 w1 w2 a b:Int}(hu:0<u2)(hw:0<w2)(su:sdT d T u1 u2=1)(sw:sdT d T w1 w2 = -1)(wide:(w1*u2-u1*w2)*2^30<=u2*w2)(ea:a=u1/u2)(eb:b=w1/w2):a=b/\u2<=(u1-a*u2)*2^30/\w2<=(w1-a*w2)*2^30:=by
 obtain⟨f1,f2,_⟩:=fl hu ea;obtain⟨g1,g2,_⟩:=fl hw eb;have up:0<u2*w2:=PB hu hw
 have lt:u1*w2<w1*u2:=Qm.mp λz=>by have:=gZ h (x1:=w1) (x2:=w2) (y1:=u1) (y2:=u2) hw hu (by omega) (by omega);omega
 have wide29:(w1*u2-u1*w2)*2^29<=u2*w2:=by omega
 have eab:a=b:=by
  have h1:¬a<b:=λz=>by refine Hh h W33 F24 (n:=b) hu hw su sw wide29 ⟨?_,g1⟩;have:=P6 (show a+1<=b by omega) (PD hu);omega
  have h2:¬b<a:=λz=>by
   have q1:=Qv g2 hu;have q2:=P6 f1 (PD hw);have q3:=P6 (show b+1<=a by omega) (PD up);have e1:(b+1)*w2*u2=(b+1)*(u2*w2):=by grind
   have e2:a*u2*w2=a*(u2*w2):=by grind
   omega
  omega
 subst eab;have s0:0<sdT d T a 1:=gZ h (y1:=u1) (by decide) hu (by rw[P8];exact f1) (by omega);have g:=uk h W33 F24 s0
 have l1:(a*2^29+1)*w2<w1*2^29:=Qm.mp λz=>by have:=gZ h (x1:=w1) (x2:=w2) (y1:=a*2^29+1) (y2:=2^29) hw (by decide) (by omega) g;omega
 have e3:(a*2^29+1)*w2=a*w2*2^29+w2:=by grind
 refine⟨rfl,?_,by omega⟩;refine SA ?_ hw;have q1:=Qv l1 hu;have e4:(a*2^29+1)*w2*u2=a*(u2*w2)*2^29+u2*w2:=by grind
 have e5:w1*2^29*u2=w1*u2*2^29:=by grind
 have e6:(u1-a*u2)*2^30*w2=u1*w2*2^30-a*(u2*w2)*2^30:=by grind
 omega
theorem Fe{d F:Int}(F24:F<=2^25)(j:Nat):∀(L1 L2:List Int) (T:Int×Int×Int) (x1 x2 y1 y2:Int),TOk d F T->T.2.2+8*F*(j:Int)<=2^33->0<x2->0<y2->CfR x1 x2 L1->CfR y1 y2 L2->sdT d T x1 x2*sdT d T y1 y2 = -1->((x1*y2-y1*x2).natAbs:Int)*2^(60*j+31)<=x2*y2->j<=(f7 L1 L2).length:=by
 induction j with
 |zero=>intros;exact PK _
 |succ j ih =>
  intro L1 L2 T x1 x2 y1 y2 h hW x2p y2p hx hy hs wide;cases L1 with
  |nil=>exact absurd hx (Qo x2p)
  |cons a L1 =>
  cases L2 with
  |nil=>exact absurd hy (Qo y2p)
  |cons b L2 =>
  have F1:=h.F1;have jF:0<=8*F*(j:Int):=P5 (by omega) (by omega)
  have eW:8*F*((j+1:Nat):Int)=8*F*(j:Int)+8*F:=by
   have:((j+1:Nat):Int)=(j:Int)+1:=by omega
   rw[this];grind
  rw[eW]at hW;have W33:T.2.2<=2^33:=by omega
  obtain⟨_,ea,cx⟩:=id hx;obtain⟨_,eb,cy⟩:=id hy;have xyp:=PB x2p y2p;have hp:(2:Int)^(60*(j+1)+31)=2^(60*j+31)*2^60:=by rw[<- RH];congr 1
  have p1:(1:Int)<=2^(60*j+31):=by have:(0:Int)<2^(60*j+31):=Qs (by decide);omega
  rw[hp]at wide;generalize (2:Int)^(60*j+31)=P at *
  have w30:((x1*y2-y1*x2).natAbs:Int)*2^30<=x2*y2:=by
   have q:=QA p1 (show(0:Int)<=((x1*y2-y1*x2).natAbs:Int)from Sg _);have e:((x1*y2-y1*x2).natAbs:Int)*(P*2^60)=((x1*y2-y1*x2).natAbs:Int)*P*2^60:=by grind
   omega
  have key:a=b/\x2<=(x1-a*x2)*2^30/\y2<=(y1-a*y2)*2^30:=by
   rcases gn h (x1:=x1) x2p with z |z<;>rcases gn h (x1:=y1) y2p with z' |z'<;>rw[z,z']at hs
   ·exact absurd hs (by decide)
   ·exact wk h W33 F24 x2p y2p z z' (by omega) ea eb
   ·obtain⟨k1,k2,k3⟩:=wk h W33 F24 y2p x2p z' z (by rw[P9 y2 x2];omega) eb ea;subst k1;exact⟨rfl,k3,k2⟩
   ·exact absurd hs (by decide)
  obtain⟨e,r1,r2⟩:=key;subst e
  have hq:Qt d T a:=by
   have:=sO (a::L1) (a::L2) h hx hy λ_ _=>hs
   have e:f7 (a::L1) (a::L2)=a::f7 L1 L2:=if_pos rfl;rw[e]at this;exact this.1
  obtain⟨f1,f2,f3⟩:=fl x2p ea;obtain⟨g1,g2,g3⟩:=fl y2p eb;rw[f3]at cx;rw[g3]at cy;have xp:0<x1-a*x2:=by omega
  have yp:0<y1-a*y2:=by omega
  obtain⟨_,_,_,_,_,_,h'⟩:=iO h a;have n3:=(sY h hq).1
  have ih:=ih L1 L2 _ _ _ _ _ h' (by omega) xp yp cx cy (by rw[ou h hq.1 xp,ou h hq.1 yp,Q6];exact hs) (by
   have e1:(x2*(y1-a*y2)-y2*(x1-a*x2)).natAbs=(x1*y2-y1*x2).natAbs:=by rw[show x2*(y1-a*y2)-y2*(x1-a*x2) = -(x1*y2-y1*x2) by grind,QT]
   rw[e1];refine SA (a:=2^60) ?_ (by decide);have q1:x2*y2<=(x1-a*x2)*2^30*((y1-a*y2)*2^30):=QX r1 r2 (PD y2p) (by omega);have e2:(x1-a*x2)*2^30*((y1-a*y2)*2^30)=(x1-a*x2)*(y1-a*y2)*2^60:=by grind
   have e3:((x1*y2-y1*x2).natAbs:Int)*P*2^60=((x1*y2-y1*x2).natAbs:Int)*(P*2^60):=by grind
   omega)
  have e:f7 (a::L1) (a::L2)=a::f7 L1 L2:=if_pos rfl;rw[e,Qw];omega
theorem zZ{u v w d r q:Int}(hd:NSq d)(hw:0<w)(hv:v≠0)(r0:0<=r)(h1:r*r<=d*v*v)(h2:d*v*v<(r+1)*(r+1))(hq:q=if v<0 then(u-r-1)/w else(u+r)/w):0<sgq (u-q*w) v d/\sgq (u-(q+1)*w) v d<0:=by
 have hne:=hd.2 r v hv;have e1:(q+1)*w=q*w+w:=by grind
 by_cases hn:v<0
 ·rw[if_pos hn]at hq;obtain⟨f1,f2,_⟩:=fl hw hq;constructor
  ·have q1:=dL (show(0:Int)<=r+1 by omega) (show r+1<=u-q*w by omega);rw[fY (by omega) hn,if_neg (by omega)];decide
  ·by_cases h0:u-(q+1)*w<=0
   ·rw[eQ h0 (by omega) (.inr hn)];decide
   ·have q1:=dL (show(0:Int)<=u-(q+1)*w by omega) (show u-(q+1)*w<=r by omega);rw[fY (by omega) hn,if_pos (by omega)];decide
 ·have hp:0<v:=by omega
  rw[if_neg hn]at hq;obtain⟨f1,f2,_⟩:=fl hw hq;constructor
  ·by_cases h0:0<=u-q*w
   ·rw[dY h0 (by omega) (.inr hp)];decide
   ·have q1:=dL (show(0:Int) <= -(u-q*w) by omega) (show -(u-q*w)<=r by omega);rw[Q6]at q1;rw[fZ (by omega) hp,if_neg (by omega)];decide
  ·have q1:=dL (show(0:Int)<=r+1 by omega) (show r+1 <= -(u-(q+1)*w) by omega);rw[Q6]at q1;rw[fZ (by omega) hp,if_pos (by omega)];decide
noncomputable def cT(g:Int)(u v w:Int):Int×Int×Int:=(g*u,g*v,g*w)
theorem E6{d g u v w q:Int}(hg:0<g)(h0:0<sgq (u-q*w) v d)(h1:sgq (u-(q+1)*w) v d<0):Qt d (cT g u v w) q:=by
 have key:∀q:Int,sdT d (cT g u v w) q 1=sgq (u-q*w) v d:=λq=>by show sgq (g*u*1-q*(g*w)) (g*v*1) d=_;rw[show g*u*1-q*(g*w)=g*(u-q*w) by grind,show g*v*1=g*v by rw[P8],jQ hg]
 refine⟨?_,?_⟩
 ·rw[key];exact h0
 ·rw[key];exact h1
theorem IA{a b c G:Nat}(hG:G=Nat.gcd (Nat.gcd (G*a) (G*b)) (G*c))(h0:0<G):Nat.gcd (Nat.gcd a b) c=1:=by rw[RS,RS]at hG;exact Su h0 (by rw[Nat.mul_one];exact hG.symm)
theorem KJ{a b c w k:Nat}(h:Nat.gcd (Nat.gcd a b) c=1)(ha:w∣k*a)(hb:w∣k*b)(hc:w∣k*c):w∣k:=by
 have:=Nat.dvd_gcd (Nat.dvd_gcd ha hb) hc
 rwa [RS,RS,h,Nat.mul_one]at this
theorem EC(ε g u v w q d:Int):ε*((g*u-q*(g*w))*(g*u-q*(g*w))-d*(g*v)*(g*v))=g*(ε*g*((u-q*w)*(u-q*w)-d*v*v)):=by grind
theorem EB(ε g u w q:Int):w*(ε*(g*u-q*(g*w)))=ε*g*(w*(u-q*w)):=by grind
theorem EA(ε g v w:Int):w*(-ε*(g*v))=ε*g*(-w*v):=by grind
theorem II{d F g u v w q b a1 a2 a3:Int}(h:TOk d F (cT g u v w))(hg:0<g)(hb:b.natAbs=Nat.gcd (Nat.gcd (w*(u-q*w)).natAbs (-w*v).natAbs) ((u-q*w)*(u-q*w)-d*v*v).natAbs)(hs:(0<b↔0<(u-q*w)*(u-q*w)-d*v*v))(b0:b≠0)(e1:w*(u-q*w)=b*a1)(e2 : -w*v=b*a2)(e3:(u-q*w)*(u-q*w)-d*v*v=b*a3):∃g':Int,0<g'/\nxT d (cT g u v w) q=cT g' a1 a2 a3/\0<a3:=by
 obtain⟨ε,W',p1,p2,p3,p4,_⟩:=iO h q
 have hw:0<w:=by have:0<g*w:=h.w;exact Qm.mp λz=>by have:=RC (PD hg) z;omega
 have p4':g*w*W'=ε*((g*u-q*(g*w))*(g*u-q*(g*w))-d*(g*v)*(g*v)):=p4
 have p5:w*W'=ε*g*((u-q*w)*(u-q*w)-d*v*v):=by refine RI (a:=g) (by omega) ?_;rw[<- P4 g w W',p4'];exact EC ε g u v w q d
 have n0:(u-q*w)*(u-q*w)-d*v*v≠0:=λz=>by rw[z,Qd]at p5;have:=PB hw p2;omega
 have kp:0<ε*g*b:=by
  have wp:=PB hw p2;rw[p5]at wp;rcases p1 with rfl |rfl
  ·rw[PY]at wp ⊢;have:=hs.mpr (Qm.mp λz=>by have:=RC (PD hg) z;omega);exact PB hg this
  ·have bn:¬0<b:=λz=>by have:=PB hg (hs.mp z);rw[RL,QF]at wp;omega
   rw[RL,QF];have:=RY hg (show b<0 by omega);omega
 have k3:w*W'=ε*g*b*a3:=by rw[p5,e3];exact(P4 _ _ _).symm
 have k1:w*(ε*(g*u-q*(g*w)))=ε*g*b*a1:=by rw[EB,e1];exact(P4 _ _ _).symm
 have k2:w*(-ε*(g*v))=ε*g*b*a2:=by rw[EA,e2];exact(P4 _ _ _).symm
 have low:Nat.gcd (Nat.gcd a1.natAbs a2.natAbs) a3.natAbs=1:=by refine IA (G:=b.natAbs) ?_ (by omega);rw[<- PN,<- PN,<- PN,<- e1,<- e2,<- e3];exact hb
 have dw:w.natAbs∣(ε*g*b).natAbs:=by
  refine KJ low ?_ ?_ ?_
  ·rw[<- PN,<- k1,PN];exact Nat.dvd_mul_right _ _
  ·rw[<- PN,<- k2,PN];exact Nat.dvd_mul_right _ _
  ·rw[<- PN,<- k3,PN];exact Nat.dvd_mul_right _ _
 obtain⟨g',eg⟩:=RB.mp dw
 have g0:0<g':=by rw[eg]at kp;exact Qm.mp λz=>by have:=RC (PD hw) z;omega
 rw[eg,P4]at k1 k2 k3;have w0:w≠0:=by omega
 have c3:=RI w0 k3;refine⟨g',g0,?_,?_⟩
 ·rw[p3];show(ε*(g*u-q*(g*w)),-ε*(g*v),W')=(g'*a1,g'*a2,g'*a3);rw[RI w0 k1,RI w0 k2,c3]
 ·rw[c3]at p2;exact Qm.mp λz=>by have:=RC (PD g0) z;omega
theorem DR{d F B:Int}(n:Nat):∀(qs:List Int) (T:Int×Int×Int),qs.length<=n->TOk d F T->di d T qs->(T.1.natAbs:Int)<=B->T.2.2+8*F*(n:Int)+4*F<=B->TOk d F (gL d T qs)/\((gL d T qs).1.natAbs:Int)<=B/\(gL d T qs).2.2<=T.2.2+8*F*(n:Int):=by
 induction n with
 |zero =>intro qs T hl h _ b1 b2;have:qs=[]:=Re.mp (by omega);subst this;exact⟨h,b1,by show T.2.2<=_;rw[Int.natCast_zero,Qd,Qy];exact Qg _⟩
 |succ n ih =>
  intro qs T hl h hs b1 b2;have F1:=h.F1
  have eW:8*F*((n+1:Nat):Int)=8*F*(n:Int)+8*F:=by
   have:((n+1:Nat):Int)=(n:Int)+1:=by omega
   rw[this];grind
  have nF:0<=8*F*(n:Int):=P5 (by omega) (by omega);rw[eW]at b2;cases qs with
  |nil=>exact⟨h,b1,by show T.2.2<=_;rw[eW];omega⟩
  |cons q qs =>
   obtain⟨hq,hs⟩:=hs;obtain⟨ε,W',p1,p2,p3,p4,h'⟩:=iO h q;obtain⟨t1,t2⟩:=sY h hq
   have hu:((nxT d T q).1.natAbs:Int)<=B:=by
    rw[p3];show((ε*(T.1-q*T.2.2)).natAbs:Int)<=B
    have:(ε*(T.1-q*T.2.2)).natAbs=(T.1-q*T.2.2).natAbs:=by rw[PN];rcases p1 with rfl |rfl<;>exact Nat.one_mul _
    rw[this];omega
   obtain⟨r1,r2,r3⟩:=ih qs (nxT d T q) (by simpa using hl) h' hs hu (by omega);exact⟨r1,r2,by rw[eW];show(gL d (nxT d T q) qs).2.2<=_;omega⟩
theorem KG{d:Int}(T:Int×Int×Int)(qs:List Int)(q:Int):gL d T (qs++[q])=nxT d (gL d T qs) q:=by unfold gL;rw[List.foldl_append];rfl
theorem nr{u v w d:Int}(hd:NSq d)(d16:d<=16)(hw:0<w)(hv:v≠0):TOk d (w*(v.natAbs:Int)) (cT w u v w):=by
 refine⟨hd,d16,PB hw (by omega),PB hw hw,?_,?_⟩
 ·show w*v=_\/w*v=_;rcases Int.natAbs_eq v with z |z
  ·left;rw[<- z]
  ·right;rw[<- Rr];congr 1
 ·show w*w∣w*u*(w*u)-d*(w*v)*(w*v);exact⟨u*u-d*v*v,by grind⟩
theorem wJ{u v w d x1 x2:Int}(hw:0<w):sdT d (cT w u v w) x1 x2=sgq (u*x2-x1*w) (v*x2) d:=by show sgq (w*u*x2-x1*(w*w)) (w*v*x2) d=_;rw[show w*u*x2-x1*(w*w)=w*(u*x2-x1*w) by grind,show w*v*x2=w*(v*x2) by rw[P4],jQ hw]
end RM
open PySem.W in
local macro_rules | `(tactic|walk_at "comp_ok")=>`(tactic|exact⟨by with_unfolding_all rfl,by decide +kernel,rfl,by decide +kernel,by repeat' (first |exact List.forall_mem_nil _ |refine List.forall_mem_cons.2 ⟨rfl,?_⟩),by rfl,by repeat' (first |exact .nil |refine .cons ⟨rfl,by first |exact Or.inl rfl |exact Or.inr rfl,rfl⟩ ?_)⟩)
namespace R75
open PySem L2 RM
noncomputable def top(i:Nat):Stmt:=PySem.Challenge.pw_rootspan_k75_quotients_of_roots.main.body.getD i (.Pass ⟨0,0,0,0⟩)
abbrev qL:Stmt:=top 10
abbrev qK:Stmt:=top 11
abbrev qy:Stmt:=top 12
abbrev jS:Stmt:=ja (top 13) 0
abbrev se:Stmt:=ja (top 13) 1
abbrev sh:Stmt:=ja (top 13) 2
abbrev sd:Stmt:=ja (top 13) 3
abbrev sj:Stmt:=ja (top 13) 5
abbrev si:Stmt:=ja (top 13) 7
abbrev qT:Stmt:=top 15
abbrev rD:Stmt:=top 16
abbrev rN:Stmt:=top 17
abbrev qC:Stmt:=top 18
abbrev rG:Stmt:=top 19
abbrev q8:Stmt:=top 20
abbrev qI:Stmt:=top 21
abbrev qA:Stmt:=top 22
abbrev nX:Stmt:=top 23
abbrev qU:Stmt:=top 24
abbrev qz:Stmt:=top 25
abbrev qJ:Stmt:=top 26
abbrev rC:Stmt:=top 28
abbrev qM:Stmt:=top 29
abbrev rh:Stmt:=top 30
abbrev qN:Stmt:=top 32
abbrev qO:Stmt:=top 33
abbrev rH:Stmt:=top 34
abbrev rE:Stmt:=top 35
abbrev rK:Stmt:=top 37
abbrev rJ:Stmt:=top 38
abbrev re:Stmt:=top 39
abbrev qZ:Stmt:=top 40
abbrev rq:Stmt:=top 41
abbrev qD:Stmt:=top 42
abbrev rz:Stmt:=top 43
abbrev qF:Stmt:=top 44
abbrev rd:Stmt:=top 45
abbrev rM:Stmt:=top 46
abbrev rB:Stmt:=top 48
abbrev rF:Stmt:=top 49
abbrev qV:Stmt:=top 50
abbrev qx:Stmt:=top 51
abbrev qG:Stmt:=top 53
abbrev rk:Stmt:=top 55
abbrev rA:Stmt:=top 56
abbrev rj:Stmt:=top 57
abbrev qE:Stmt:=top 58
abbrev qB:Stmt:=top 59
abbrev sk:Stmt:=ja (top 62) 0
abbrev jR:Stmt:=top 63
abbrev qP:Stmt:=top 64
abbrev qQ:Stmt:=top 65
abbrev rf:Stmt:=top 66
abbrev qY:Stmt:=top 67
abbrev qH:Stmt:=top 68
abbrev qS:Stmt:=top 70
abbrev rL:Stmt:=top 71
abbrev qR:Stmt:=top 72
abbrev qW:Stmt:=top 74
abbrev qX:Stmt:=top 75
abbrev rZ:Stmt:=top 77
abbrev rP:Stmt:=top 78
abbrev rY:Stmt:=top 79
abbrev rT:Stmt:=top 80
abbrev rW:Stmt:=top 81
abbrev rQ:Stmt:=top 82
abbrev r8:Stmt:=top 83
abbrev rO:Stmt:=top 84
abbrev rR:Stmt:=top 85
abbrev rV:Stmt:=top 86
abbrev rS:Stmt:=top 87
abbrev rX:Stmt:=top 88
abbrev r9:Stmt:=top 89
abbrev rm:Stmt:=top 90
theorem scM{N P:List Str}{sc:Scope}(a:sc.kind=.function:=by rfl)(b:sc.isCoroutine=false:=by rfl)(c:sc.isGenerator=false:=by rfl)(e:N.Nodup:=by decide +kernel)(f:N.take P.length=P:=by rfl)(g:∀x∈P,sc.names.lookup x=some .local\/sc.names.lookup x=some .cell:=by decide +kernel)(h:∀y∈sc.names,y.2≠.free:=by decide +kernel):FnScope N P sc:=⟨a,b,c,e,f,g,h⟩
theorem sc_shared:FnScope ["row","divisor","value"] ["row"] (aD qL):=scM
theorem sc_shared_by_two:FnScope ["one","other","greater","less","rest"] ["one","other"] (aD qK):=scM
theorem DU:FnScope ["value"] ["value"] (aD qy):=scM
theorem sc_Ratio___init__:FnScope ["self","top","bottom","divisor"] ["self","top","bottom"] (aD jS):=scM
theorem Eh:FnScope ["self","other"] ["self","other"] (aD se):=scM
theorem Ei:FnScope ["self","other"] ["self","other"] (aD sh):=scM
theorem Eg:FnScope ["self","other"] ["self","other"] (aD sd):=scM
theorem Ek:FnScope ["self","other"] ["self","other"] (aD sj):=scM
theorem Ej:FnScope ["self"] ["self"] (aD si):=scM
theorem sc_poly:FnScope ["row","length"] ["row"] (aD qT):=scM
theorem D9:FnScope ["row"] ["row"] (aD rD):=scM
theorem sc_added:FnScope ["first","second","length"] ["first","second"] (aD rN):=scM
theorem sc_taken:FnScope ["first","second","length"] ["first","second"] (aD qC):=scM
theorem Eb:FnScope ["row","place"] ["row","place"] (aD rG):=scM
theorem sc_multiplied:FnScope ["first","second","product","j","one","k","other"] ["first","second"] (aD q8):=scM
theorem DY:FnScope ["row"] ["row"] (aD qI):=scM
theorem DV:FnScope ["row"] ["row"] (aD qA):=scM
theorem sc_shrunk:FnScope ["row","divisor"] ["row"] (aD nX):=scM
theorem sc_plain:FnScope ["row","small"] ["row"] (aD qU):=scM
theorem sc_value_parts:FnScope ["row","top","bottom","above","below","value"] ["row","top","bottom"] (aD qz):=scM
theorem DZ:FnScope ["row","ratio"] ["row","ratio"] (aD qJ):=scM
theorem sc_divided:FnScope ["first","second","size","sign","steps","factor","quotient","rest","place","lead"] ["first","second"] (aD rC):=scM
theorem D0:FnScope ["row","factor"] ["row","factor"] (aD qM):=scM
theorem sc_lowered:FnScope ["row","second","place","lead","kept","k","value"] ["row","second","place","lead"] (aD rh):=scM
theorem D3:FnScope ["polynomial"] ["polynomial"] (aD qN):=scM
theorem sc_row_from:FnScope ["first","second","row","one","other","rest"] ["first","second"] (aD qO):=scM
theorem sc_changes:FnScope ["row","ratio","many","before","polynomial","sign"] ["row","ratio"] (aD rH):=scM
theorem Ea:FnScope ["row","low","high"] ["row","low","high"] (aD rE):=scM
theorem sc_bound:FnScope ["row","last","greatest","size"] ["row"] (aD rK):=scM
theorem sc_cells:FnScope ["row","chain","high","low","waiting","found","cell","many","cut","there"] ["row"] (aD rJ):=scM
theorem D5:FnScope ["low","high"] ["low","high"] (aD re):=scM
theorem sc_narrowed:FnScope ["row","low","high","width","reach","steps","found"] ["row","low","high","width"] (aD qZ):=scM
theorem sc_halvings:FnScope ["reach","width","wide","goal","steps"] ["reach","width"] (aD rq):=scM
theorem sc_stretched:FnScope ["row","low","reach","bottom","start","step","found","power","value"] ["row","low","reach"] (aD qD):=scM
theorem sc_halved:FnScope ["row","end","steps","place","pieces","ahead","left","k","there"] ["row","end","steps"] (aD rz):=scM
theorem sc_spread:FnScope ["row","found","factor","value"] ["row"] (aD qF):=scM
theorem sc_moved:FnScope ["row","found","start","k"] ["row"] (aD rd):=scM
theorem Ec:FnScope ["low","reach","place","pieces"] ["low","reach","place","pieces"] (aD rM):=scM
theorem D8:FnScope ["divisor","row"] ["divisor","row"] (aD rB):=scM
theorem sc_common:FnScope ["first","second","one","other","rest"] ["first","second"] (aD rF):=scM
theorem sc_part:FnScope ["row","divisor","found"] ["row","divisor"] (aD qV):=scM
theorem DT:FnScope ["row"] ["row"] (aD qx):=scM
theorem sc_span_product:FnScope ["first","second","least","greatest","found"] ["first","second"] (aD qG):=scM
theorem sc_least:FnScope ["row","low","high","whole","width","span","line","cell","square"] ["row","low","high"] (aD rk):=scM
theorem D7:FnScope ["whole"] ["whole"] (aD rA):=scM
theorem sc_line_of:FnScope ["whole","span","found"] ["whole","span"] (aD rj):=scM
theorem sc_square_of:FnScope ["whole","span","other","last","together"] ["whole","span","other"] (aD qE):=scM
theorem DW:FnScope ["factor","ratio"] ["factor","ratio"] (aD qB):=scM
theorem El:FnScope ["self","row","low","high"] ["self","row","low","high"] (aD sk):=scM
theorem sc_number:FnScope ["row","low","high","start","end","simple","many"] ["row","low","high"] (aD jR):=scM
theorem D4:FnScope ["height"] ["height"] (aD qP):=scM
theorem sc_refuse_great:FnScope ["row","limit"] ["row"] (aD qQ):=scM
theorem D6:FnScope ["simple","low","high"] ["simple","low","high"] (aD rf):=scM
theorem sc_number_in:FnScope ["simple","low","high","row","span","half"] ["simple","low","high"] (aD qY):=scM
theorem DX:FnScope ["one","width"] ["one","width"] (aD qH):=scM
theorem sc_quotients:FnScope ["one","many","width","found"] ["one","many"] (aD qS):=scM
theorem sc_between:FnScope ["one","width","span","found","first","second"] ["one","width"] (aD rL):=scM
theorem sc_ratio_quotients:FnScope ["ratio","found","top","bottom","rest"] ["ratio"] (aD qR):=scM
theorem sc_opposite:FnScope ["one","row"] ["one"] (aD qW):=scM
theorem sc_only_root:FnScope ["row","worth"] ["row"] (aD qX):=scM
theorem Ee:FnScope ["_law_script","_law_k"] ["_law_script","_law_k"] (aD rZ):=scM
theorem Ed:FnScope ["_law_found"] ["_law_found"] (aD rP):=scM
theorem sc__law_divisor:FnScope ["_law_one","_law_other","_law_rest"] ["_law_one","_law_other"] (aD rY):=scM
theorem sc__law_plain:FnScope ["_law_row","_law_by","_law_one"] ["_law_row"] (aD rT):=scM
theorem sc__law_least:FnScope ["_law_worth_here","_law_u","_law_v","_law_w","_law_d"] ["_law_worth_here"] (aD rW):=scM
theorem sc__law_times:FnScope ["_law_one","_law_other","_law_found","_law_k","_law_j"] ["_law_one","_law_other"] (aD rQ):=scM
theorem Ef:FnScope ["_law_cell"] ["_law_cell"] (aD r8):=scM
theorem sc__law_worth:FnScope ["_law_script","_law_k","_law_v","_law_cell"] ["_law_script","_law_k"] (aD rO):=scM
theorem sc__law_span:FnScope ["_law_worth_here","_law_more","_law_u","_law_v","_law_w","_law_d"] ["_law_worth_here","_law_more"] (aD rR):=scM
theorem sc__law_padded:FnScope ["_law_worth_here","_law_span_here","_law_cell","_law_u","_law_v","_law_w","_law_d","_law_found","_law_far"] ["_law_worth_here","_law_span_here","_law_cell"] (aD rV):=scM
theorem sc__law_root:FnScope ["_law_whole_here","_law_low","_law_high","_law_middle"] ["_law_whole_here"] (aD rS):=scM
theorem sc__law_due:FnScope ["_law_worth_here","_law_many","_law_u","_law_v","_law_w","_law_d","_law_found","_law_k","_law_first","_law_by"] ["_law_worth_here","_law_many"] (aD rX):=scM
theorem sc__law_alike:FnScope ["_law_found","_law_due_here","_law_k"] ["_law_found","_law_due_here"] (aD r9):=scM
theorem sc_law:FnScope ["_law_script","_law_worth_here","_law_span_here","_law_n","_law_many","_law_due_here","_law_found","_law_other"] ["_law_script"] (aD rm):=scM
structure Txt(K:PySem.W.Frag)(mg:Str->Option Value):Prop where
 abs_:mg "abs"=none
 len_:mg "len"=none
 max_:mg "max"=none
 range_:mg "range"=none
 enumerate_:mg "enumerate"=none
 reversed_:mg "reversed"=none
 list_:mg "list"=none
 sum_:mg "sum"=none
 any_:mg "any"=none
 zip_:mg "zip"=none
 isinstance_:mg "isinstance"=none
 int_:mg "int"=none
 bool_:mg "bool"=none
 HIGHEST_:∃t:Tok,mg "HIGHEST"=some (.int 8 t)
def nI(K:PySem.W.Frag):Sp:=λvs H Q _=>∃(a:Addr) (ns:List Int),vs=[.ref a]/\SqL K H a (ns.map V.int)/\ns.length<=63/\∀H',Q (.bl true) H'
section
variable {P:Program}{w:World}{K:PySem.W.Frag}{mg:Str->Option Value}{base:Heap}
theorem sD(n:Nat):(List.replicate n [V.int 0]).flatten=(List.replicate n (0:Int)).map V.int:=by
 induction n with
 |zero=>rfl
 |succ n ih=>rw[Rl,Sa,ih,Rl];rfl
theorem mB{n j:Nat}{i:Int}(e:i=j)(h:j<n):ixN n i=some j:=by subst e;unfold ixN;rw[if_pos (Sg _),if_pos (by omega)];simp
theorem oF(l:List Int)(j:Nat)(x:Int):(l.map V.int).set j (.int x)=(l.set j x).map V.int:=by rw[List.map_set]
theorem kB{l:List Int}{j:Nat}{i:Int}(e:i=j)(h:j<l.length):atI (l.map V.int) i=some (.int (cf l j)):=by subst e;exact kC (by rw[List.getElem?_map,jb h];rfl)
def SameB(p:Addr)(H H':Hp):Prop:=∀b o,b≠p->H b=some o->H' b=some o
theorem SameB.refl(p:Addr)(H:Hp):SameB p H H:=λ_ _ _ h=>h
theorem SameB.then_new{p q:Addr}{H H1:Hp}{o:HO}(s:SameB p H H1)(h:H1 q=none):SameB p H (upd H1 q o):=λb u n e=>by rw[upd_ne (aW (s b u n e) h)];exact s b u n e
theorem SameB.then_upd{p:Addr}{H H1:Hp}{o:HO}(s:SameB p H H1):SameB p H (upd H1 p o):=λb u n e=>by rw[upd_ne n];exact s b u n e
def AllB(k:Nat)(l:List Int):Prop:=∀x∈l,Bits k x
theorem AllB.cf{k:Nat}{l:List Int}(h:AllB k l)(n:Nat):Bits k (cf l n):=by
 by_cases hn:n<l.length
 ·rw[eJ hn];exact h _ (Ro hn)
 ·rw[cC (QS hn)];exact Bits.zero
theorem eo{H H2:Hp}{p:Addr}{o:HO}(s:Same H H2)(hp:H p=none):Same H (upd H2 p o):=λb u e=>by rw[upd_ne (aW e hp)];exact s b u e
theorem HC(l:List Int)(x:Int):l.map V.int++[V.int x]=(l++[x]).map V.int:=by rw[Qk];rfl
noncomputable def gj(ms:List Int)(lo hi:Option Int):List Int:=(ms.drop (HT.sIx ms.length 0 lo)).take (HT.sIx ms.length ms.length hi-HT.sIx ms.length 0 lo)
theorem mH(ms:List Int)(lo hi:Option Int):gN (ms.map V.int) lo hi=(gj ms lo hi).map V.int:=by unfold gN gj;rw[PC,<- List.map_drop,<- List.map_take]
theorem KW{ms:List Int}{lo hi:Option Int}{x:Int}(h:x∈gj ms lo hi):x∈ms:=So (Sq h)
theorem AllB.cut{k:Nat}{ms:List Int}{lo hi:Option Int}(h:AllB k ms):AllB k (gj ms lo hi):=λx hx=>h x (KW hx)
theorem AllB.app{k:Nat}{l r:List Int}(h1:AllB k l)(h2:AllB k r):AllB k (l++r):=λx hx=>(Qh.mp hx).elim (h1 x) (h2 x)
theorem AllB.zeros{k n:Nat}:AllB k (List.replicate n 0):=λx hx=>by rw[List.eq_of_mem_replicate hx];exact Bits.zero
theorem AllB.mono{j k:Nat}{l:List Int}(h:AllB j l)(hk:j<=k:=by decide):AllB k l:=λx hx=>(h x hx).mono hk
theorem AllB.nil{k:Nat}:AllB k []:=λ_ h=>nomatch h
theorem AllB.snoc{k:Nat}{l:List Int}{x:Int}(h:AllB k l)(hx:Bits k x):AllB k (l++[x]):=h.app λy hy=>by rw[PQ.mp hy];exact hx
theorem Hx{l:List Int}{x:Int}(h:x∈trim l):x∈l:=by
 unfold trim at h
 rw[List.mem_reverse]at h;exact List.mem_reverse.mp ((List.dropWhile_sublist _).subset h)
theorem AllB.trim{k:Nat}{l:List Int}(h:AllB k l):AllB k (trim l):=λx hx=>h x (Hx hx)
theorem fO{l:List Int}{i:Nat}{x:V}(h:(l.map V.int)[i]?=some x):∃c,l[i]?=some c/\x=.int c/\c∈l/\l.take (i+1)=l.take i++[c]:=by
 rw[List.getElem?_map]at h;cases e:l[i]? with
 |none=>rw[e]at h;cases h
 |some c=>rw[e]at h;exact⟨c,rfl,(Option.some.inj h).symm,List.mem_of_getElem? e,by rw[QI,e];rfl⟩
def mkL(H:Hp)(Q:VK)(r:List Int):Prop:=∀(p:Addr) (H':Hp),Same H H'->H p=none->H' p=some (.lst (r.map V.int))->Q (.ref p) H'
def kT(K:PySem.W.Frag):Sp:=λvs H Q _=>∃(a:Addr) (ns:List Int),vs=[.ref a]/\SqL K H a (ns.map V.int)/\mkL H Q (trim ns)
inductive jP(K:PySem.W.Frag)(vs:List V)(H:Hp)(Q:VK)(E:XK):Prop
 |mk (a:Addr) (ns:List Int) (k:Nat):vs=[.ref a,.int k]->SqL K H a (ns.map V.int)->Q (.int (ns.getD k 0)) H->jP K vs H Q E
inductive nM(K:PySem.W.Frag)(g:List Int->List Int->List Int)(vs:List V)(H:Hp)(Q:VK)(E:XK):Prop
 |mk (a b:Addr) (xs ys:List Int):vs=[.ref a,.ref b]->SqL K H a (xs.map V.int)->SqL K H b (ys.map V.int)->xs.length<=1000000->ys.length<=1000000->mkL H Q (g xs ys)->nM K g vs H Q E
theorem zM(i j:Nat):(if((j:Nat):Int)>((i:Nat):Int)then((j:Nat):Int)else((i:Nat):Int))=((max i j:Nat):Int):=by split<;>omega
theorem nN{n:Nat}(h:n<=sizeLine) : -(2^62)<=((n:Nat):Int)/\((n:Nat):Int)<2^62:=by have:=sizeLine_eq;omega
def RwH(H:Hp)(ps:List Addr)(xss:List (List Int)):Prop:=ps.length=xss.length/\∀(i:Nat) (p:Addr) (xs:List Int),ps[i]?=some p->xss[i]?=some xs->H p=some (.lst (xs.map V.int))
theorem RwH.nil{H:Hp}:RwH H [] []:=⟨rfl,λi p xs h=>by simp at h⟩
theorem RwH.same{H H':Hp}{ps:List Addr}{xss:List (List Int)}(h:RwH H ps xss)(s:Same H H'):RwH H' ps xss:=⟨h.1,λi p xs a b=>s _ _ (h.2 i p xs a b)⟩
theorem RwH.snoc{H:Hp}{ps:List Addr}{xss:List (List Int)}{p:Addr}{xs:List Int}(h:RwH H ps xss)(hp:H p=some (.lst (xs.map V.int))):RwH H (ps++[p]) (xss++[xs]):=by
 refine⟨by rw[Qi,Qi,h.1];rfl,λi q ys a b=>?_⟩;by_cases hi:i<ps.length
 ·rw[List.getElem?_append_left hi]at a;rw[List.getElem?_append_left (by rw[<- h.1];exact hi)]at b;exact h.2 i q ys a b
 ·rw[List.getElem?_append_right (by omega)]at a;rw[List.getElem?_append_right (by rw[<- h.1];omega),<- h.1]at b;by_cases h0:i-ps.length=0
  ·rw[h0]at a b;obtain rfl:p=q:=by simpa using a
   obtain rfl:xs=ys:=by simpa using b
   exact hp
  ·rw[List.getElem?_eq_none_iff.mpr (by simp;omega)]at a;cases a
theorem RwH.get{H:Hp}{ps:List Addr}{xss:List (List Int)}{i:Nat}(h:RwH H ps xss)(hi:i<xss.length):∃p,ps[i]?=some p/\H p=some (.lst ((xss.getD i []).map V.int)):=by
 have hi':i<ps.length:=by rw[h.1];exact hi
 refine⟨ps[i],List.getElem?_eq_getElem hi',h.2 i _ _ (List.getElem?_eq_getElem hi') ?_⟩;rw[List.getElem?_eq_getElem hi];simp[List.getD,hi]
theorem RwH.of_get{H:Hp}{ps:List Addr}{xss:List (List Int)}{i:Nat}{x:V}(h:RwH H ps xss)(hx:(ps.map V.ref)[i]?=some x):∃p xs,x=.ref p/\ps[i]?=some p/\xss[i]?=some xs/\H p=some (.lst (xs.map V.int))/\i<xss.length:=by
 rw[List.getElem?_map]at hx;cases e:ps[i]? with
 |none=>rw[e]at hx;cases hx
 |some p =>
  rw[e]at hx;have hi:i<ps.length:=(List.getElem?_eq_some_iff.mp e).1;have hi':i<xss.length:=by rw[<- h.1];exact hi
  exact⟨p,xss[i],(Option.some.inj hx).symm,rfl,List.getElem?_eq_getElem hi',h.2 i p _ e (List.getElem?_eq_getElem hi'),hi'⟩
theorem HD(ps:List Addr)(p:Addr):ps.map V.ref++[V.ref p]=(ps++[p]).map V.ref:=by rw[Qk];rfl
def sp2:Sp:=λvs H Q _=>∃a b:Int,vs=[.int a,.int b]/\Q (.int (Nat.gcd a.natAbs b.natAbs:Nat)) H
theorem mS(i:Int):(if i<0 then -i else i)=(i.natAbs:Int):=by split<;>omega
theorem FZ(F:Fun K "shared_by_two" "shared_by_two" qK f fd)(T:Txt K mg):FnOk P w K mg base CX0 1 f fd ["one","other"] sp2:=by
 refine F.ok sc_shared_by_two (λvs H Q E h=>?_) (λcdv A outer s H vs Q E hr h=>?_)
 ·obtain⟨a,b,rfl,_⟩:=h;rfl
 ·obtain⟨a,b,rfl,k⟩:=h
  refine⟨_,(ag (ak (i:=2) sc_shared_by_two.nd rfl (Or.inl rfl) (bz fv (by rfl) T.abs_ PyProof.Rows.boot_abs (aa (pv 0) ac)))
   (ag (ak (i:=3) sc_shared_by_two.nd rfl (Or.inl rfl) (bz fv (by rfl) T.abs_ PyProof.Rows.boot_abs (aa (pv 1) ac)))
   (ag (fc PassesOwn.never (aH f8 (pv 3) ad (aG _))
     (ag (ak (i:=4) sc_shared_by_two.nd rfl (Or.inl rfl) (aj cR (pv 2) (pv 3)))
       (ag (ak (i:=2) sc_shared_by_two.nd rfl (Or.inl rfl) (pv 3))
       (al (ak (i:=3) sc_shared_by_two.nd rfl (Or.inl rfl) (pv 4))))))
   (al (aC (pv 2)))))),?_⟩
  refine⟨_,rfl,_,rfl,?_⟩;refine⟨_,rfl,_,rfl,?_⟩;refine⟨λm σ' H'=>∃(x y:Int) (z:Option V),σ'=[some (.int a),some (.int b),some (.int x),some (.int y),z]/\H=H'/\0<=x/\0<=y/\y.natAbs=m/\Nat.gcd x.natAbs y.natAbs=Nat.gcd a.natAbs b.natAbs,⟨_,_,_,none,rfl,rfl,?_,?_,rfl,?_⟩,?_⟩
  ·rw[mS];exact Sg _
  ·rw[mS];exact Sg _
  ·rw[mS,mS,Qq,Qq]
  ·rintro m σ' H' ⟨x,y,z,rfl,rfl,hx,hy,rfl,hg⟩;refine⟨_,rfl,_,_,rfl,rfl,_,rfl,?_⟩;refine da (λhn=>?_) (λh0=>?_)
   ·have hp:0<y:=by have:y≠0:=hn;omega
    refine⟨λσ'' H''=>∃m',m'<y.natAbs/\∃(x' y':Int) (z:Option V),σ''=[some (.int a),some (.int b),some (.int x'),some (.int y'),z]/\H=H''/\0<=x'/\0<=y'/\y'.natAbs=m'/\Nat.gcd x'.natAbs y'.natAbs=Nat.gcd a.natAbs b.natAbs,λ_ _ h=>h,?_⟩;refine⟨_,rfl,_,rfl,_,_,rfl,rfl,hp,?_⟩;refine⟨_,rfl,?_⟩;refine⟨_,rfl,?_⟩;have h1:=R8 x (Qo hp);have h2:=RO x hp;exact⟨(x%y).natAbs,by omega,y,x%y,_,rfl,rfl,hy,h1,rfl,by rw[AG hx hp];exact hg⟩
   ·refine⟨_,rfl,?_⟩;have e:(y:Int)=0:=h0;subst e
    have e2:(x:Int)=((Nat.gcd a.natAbs b.natAbs:Nat):Int):=by rw[<- hg];show x=((Nat.gcd x.natAbs 0:Nat):Int);rw[Nat.gcd_zero_right];omega
    rw[e2];exact k
def pZ(K:PySem.W.Frag):Sp:=λvs H Q _=>∃(a:Addr) (ns:List Int),vs=[.ref a]/\SqL K H a (ns.map V.int)/\Q (.int (aA ns:Nat)) H
theorem Ga(F:Fun K "shared" "shared" qL f fd)(T:Txt K mg)(vP:Cal P w K mg base 1 "shared_by_two" ["one","other"] sp2 Ku Ke):FnOk P w K mg base CX0 2 f fd ["row"] (pZ K):=by
 obtain⟨vE,tG,tX,vi⟩:=vP;refine F.ok sc_shared (λvs H Q E h=>?_) (λcdv A outer s H vs Q E hr h=>?_)
 ·obtain⟨a,ns,rfl,_⟩:=h;rfl
 ·obtain⟨a,ns,rfl,hS,k⟩:=h
  refine⟨_,(ag (ak (i:=1) sc_shared.nd rfl (Or.inl rfl) ad)
   (ag (cV PassesOwn.never rfl (fH (K:=K) rfl (pv 0)) (aS (i:=2) sc_shared.nd rfl (Or.inl rfl))
     (al (ak (i:=1) sc_shared.nd rfl (Or.inl rfl) (aq vE (hr.mono) rfl tG tX vi .nil ai (aa (pv 1) (aa (pv 2) ac))))))
   (al (aC (pv 1))))),?_⟩
  refine⟨_,rfl,a,rfl,⟨_,hS⟩,o1 (K:=K) (a:=a) (xs:=ns.map V.int) (λi σ' H'=>∃z:Option V,σ'=[some (.ref a),some (.int (aA (ns.take i):Nat)),z]/\H=H') ⟨none,rfl,rfl⟩ (λi σ' H' _ ⟨z,_,e⟩=>by rw[<- e];exact hS) ?_ ?_⟩
  ·rintro i y σ' H' hi ⟨z,rfl,rfl⟩;rw[List.getElem?_map]at hi;cases e:ns[i]? with
   |none=>rw[e]at hi;cases hi
   |some n =>
    rw[e]at hi;obtain rfl:=Option.some.inj hi;refine⟨_,rfl,_,rfl,_,_,rfl,?_⟩;have e3:ns.take (i+1)=ns.take i++[n]:=by rw[QI,e];rfl
    refine⟨some (.int n),?_,rfl⟩;rw[e3,AH,Qq];rfl
  ·rintro σ' H' ⟨z,rfl,rfl⟩;refine⟨_,rfl,?_⟩;rw[PC,QU];exact k
noncomputable def gK(t b:Int):List (Str×V):=cQ "bottom" (.int b) (cQ "top" (.int t) [])
theorem CV:¬(("top":Str)="bottom"):=by decide +kernel
theorem ca(t b:Int):(gK t b).lookup ("bottom":Str)=some (.int b):=by unfold gK;rw[eD,if_pos rfl]
theorem c8(t b:Int):(gK t b).lookup ("top":Str)=some (.int t):=by unfold gK;rw[eD,if_neg CV,eD,if_pos rfl]
theorem de(t b:Int){m:Str}(h1:¬m="bottom")(h2:¬m="top"):(gK t b).lookup m=none:=by unfold gK;rw[eD,if_neg h1,eD,if_neg h2];rfl
structure RCI(K:PySem.W.Frag)(mg:Str->Option Value)(C:Addr):Prop where
 cl:Cls K C
 nT:NoAttr K C "top"
 nB:NoAttr K C "bottom"
 mg:mg "Ratio"=some (.ref C)
 ha:PySem.W.findIn K (.ref C) "__class__"=some (some (.builtin "object.__class__"))
 hn:PySem.W.specialIn K (.builtin "object.__class__") "__get__"=some (some (.builtin "getset_descriptor.__get__"))
 ht:PySem.W.takesIn K (.builtin "object.__class__")=some true
 hm:PySem.W.mroIn K C (.type "object")=some true
def RA(C:Addr)(H:Hp)(p:Addr)(t b:Int):Prop:=∃dx,H p=some (.ins C dx (gK t b))
theorem RA.same{C:Addr}{H H':Hp}{p:Addr}{t b:Int}(h:RA C H p t b)(s:Same H H'):RA C H' p t b:=let⟨dx,e⟩:=h;⟨dx,s _ _ e⟩
def mkR(C:Addr)(H:Hp)(Q:VK)(t b:Int):Prop:=∀(x:Addr) (H':Hp),Same H H'->H x=none->RA C H' x (rt t b) (rb t b)->Q (.ref x) H'
inductive c9(C:Addr)(vs:List V)(H:Hp)(Q:VK)(E:XK):Prop
 |mk (p dx:Addr) (t b:Int):vs=[.ref p,.int t,.int b]->H p=some (.ins C dx [])->b≠0->Bits 9000 b->Q .non (upd H p (.ins C dx (gK (rt t b) (rb t b))))->c9 C vs H Q E
theorem cU{C:Addr}{H1:Hp}{q:Addr->Hp->Prop}{E:XK}{t b:Int}(hb:b≠0)(bb:Bits 9000 b)(h:∀(x:Addr) (H':Hp),Same H1 H'->H1 x=none->RA C H' x (rt t b) (rb t b)->q x H'):∀x dx:Addr,H1 x=none->H1 dx=none->dx≠x->c9 C (.ref x::([.int t,.int b]++[])) (upd (upd H1 dx (.own x)) x (.ins C dx [])) (λv H2=>v=.non/\q x H2) E:=λx dx nx ndx ne=>by
 refine⟨x,dx,t,b,rfl,au,hb,bb,rfl,?_⟩;rw[nc]
 have s0:Same H1 (upd (upd H1 dx (.own x)) x (.ins C dx (gK (rt t b) (rb t b)))):=λc o e=>by rw[upd_ne (aW e nx),upd_ne (aW e ndx)];exact e
 exact h x _ s0 nx ⟨dx,au⟩
theorem Bi{t b:Int}(hb:b≠0)(bb:Bits 9000 b):Bits 9000 (dv t b):=bb.of_le (by rw[je];exact Nat.le_of_dvd (Rq.mpr hb) (Rf _ _))
theorem G9(F:FunD K "__init__" "Ratio.__init__" jS dV f fd)(T:Txt K mg)(R:RCI K mg C)(vP:Cal P w K mg base 1 "shared_by_two" ["one","other"] sp2 Ku Ke):FnOk P w K mg base CX0 2 f fd ["self","top","bottom"] (c9 C):=by
 obtain⟨vE,tG,tX,vi⟩:=vP;refine F.ok sc_Ratio___init__ (λvs H Q E h=>?_) (λcdv A outer s H vs Q E hr h=>?_)
 ·obtain⟨p,dx,t,b,rfl,_⟩:=h;rfl
 ·obtain⟨p,dx,t,b,rfl,hp,hb,bb,k⟩:=h
  refine⟨_,(ag (aR (aH cW (pv 2) ad (aG _))
   (al iH)
   aU)
   (ag (ak (i:=3) sc_Ratio___init__.nd rfl (Or.inl rfl) (aq vE (hr.mono) rfl tG tX vi .nil ai (aa (pv 1) (aa (pv 2) ac))))
   (ag (aR (aH dH (pv 2) ad (aG _))
     (al (ak (i:=3) sc_Ratio___init__.nd rfl (Or.inl rfl) (bK bJ (pv 3))))
     aU)
   (ag (lH (pv 0) (aj iN (pv 1) (pv 3)) rfl)
   (al (lH (pv 0) (aj iN (pv 2) (pv 3)) rfl)))))),?_⟩
  refine cs ⟨_,rfl,_,_,rfl,rfl,_,rfl,aP (λh=>absurd h hb) (λ_=>?_)⟩;refine av ⟨_,rfl,_,rfl,t,b,rfl,?_⟩;refine dN (λσ' H'=>H=H'/\σ'=[some (.ref p),some (.int t),some (.int b),some (.int (dv t b))]) ?_ ?_
  ·rintro σ' H' ⟨rfl,rfl⟩;refine⟨_,rfl,_,rfl,_,_,rfl,rfl,⟨mF hb,Bi hb bb⟩,_,rfl,p,C,dx,_,rfl,hp,R.cl,R.nT,by show 0<1000;decide,?_⟩;refine⟨_,rfl,_,rfl,_,_,rfl,rfl,⟨mF hb,Bi hb bb⟩,_,rfl,p,C,dx,_,rfl,au,R.cl,R.nB,by show 1<1000;decide,?_⟩;show Q .non (upd (upd H p _) p _);rw[nc];exact k
  ·intro rest;refine⟨_,rfl,_,_,rfl,rfl,_,rfl,?_⟩;refine aP (λh=>?_) (λh=>?_)
   ·refine⟨_,rfl,_,rfl,rest _ _ ⟨rfl,?_⟩⟩;have e:dv t b = -((Nat.gcd t.natAbs b.natAbs:Nat):Int):=by unfold dv;rw[if_pos h]
    rw[e];rfl
   ·refine rest _ _ ⟨rfl,?_⟩;have e:dv t b=((Nat.gcd t.natAbs b.natAbs:Nat):Int):=by unfold dv;rw[if_neg h]
    rw[e];rfl
def kU:Sp:=λvs H Q _=>∃x:Int,vs=[.int x]/\Q (.int (sg x)) H
theorem FM(F:Fun K "whole_sign" "whole_sign" qy f fd)(T:Txt K mg):FnOk P w K mg base CX0 1 f fd ["value"] kU:=by
 refine F.ok DU (λvs H Q E h=>?_) (λcdv A outer s H vs Q E hr h=>?_)
 ·obtain⟨x,rfl,_⟩:=h;rfl
 ·obtain⟨x,rfl,k⟩:=h
  refine⟨_,(ag (aR (aH dH (pv 0) ad (aG _))
   (al (aC (bK bJ ad)))
   aU)
   (ag (aR (aH fJ (pv 0) ad (aG _))
     (al (aC ad))
     aU)
   (al (aC ad)))),?_⟩
  refine cs ⟨_,rfl,_,_,rfl,rfl,_,rfl,aP (λh=>?_) (λh=>?_)⟩
  ·have e:sg x = -1:=by unfold sg;rw[if_pos h]
   rw[e]at k;exact⟨_,rfl,k⟩
  refine cs ⟨_,rfl,_,_,rfl,rfl,_,rfl,aP (λh'=>?_) (λh'=>?_)⟩
  ·have e:sg x=1:=by unfold sg;rw[if_neg h,if_pos h']
   rw[e]at k;exact k
  ·have e:sg x=0:=by unfold sg;rw[if_neg h,if_neg h']
   rw[e]at k;exact k
inductive nK(C:Addr)(vs:List V)(H:Hp)(Q:VK)(E:XK):Prop
 |mk (p q:Addr) (t b u d:Int):vs=[.ref p,.ref q]->RA C H p t b->RA C H q u d->Bits 100000 t->Bits 100000 b->Bits 100000 u->Bits 100000 d->Q (.int (sg (t*d-u*b))) H->nK C vs H Q E
theorem G8(F:Fun K "against" "Ratio.against" sj f fd)(T:Txt K mg)(R:RCI K mg C)(jA:Cal P w K mg base 1 "whole_sign" ["value"] kU uE ut):FnOk P w K mg base CX0 2 f fd ["self","other"] (nK C):=by
 obtain⟨ju,iR,iY,jl⟩:=jA;refine F.ok Ek (λvs H Q E h=>?_) (λcdv A outer s H vs Q E hr h=>?_)
 ·obtain⟨p,q,t,b,u,d,rfl,_⟩:=h;rfl
 ·obtain⟨p,q,t,b,u,d,rfl,⟨dx,hp⟩,⟨dy,hq⟩,bt,bb,bu,bd,k⟩:=h;refine⟨_,(al (aC (aq ju (hr.mono) rfl iR iY jl .nil ai (aa (aj cq (aj aK (aN (K:=K) rfl (pv 0) rfl) (aN (K:=K) rfl (pv 1) rfl)) (aj aK (aN (K:=K) rfl (pv 1) rfl) (aN (K:=K) rfl (pv 0) rfl))) ac)))),?_⟩;refine⟨_,rfl,p,C,dx,_,_,rfl,hp,R.cl,R.nT,c8 _ _,_,rfl,q,C,dy,_,_,rfl,hq,R.cl,R.nB,ca _ _,_,_,rfl,rfl,⟨bt.mono,bd.mono⟩,?_⟩;exact⟨_,rfl,q,C,dy,_,_,rfl,hq,R.cl,R.nT,c8 _ _,_,rfl,p,C,dx,_,_,rfl,hp,R.cl,R.nB,ca _ _,_,_,rfl,rfl,⟨bu.mono,bb.mono⟩,_,_,rfl,rfl,_,rfl,k⟩
theorem Gi(F:Fun K "poly" "poly" qT f fd)(T:Txt K mg):FnOk P w K mg base CX0 1 f fd ["row"] (kT K):=by
 refine F.ok sc_poly (λvs H Q E h=>?_) (λcdv A outer s H vs Q E hr h=>?_)
 ·obtain⟨a,ns,rfl,_⟩:=h;rfl
 ·obtain⟨a,ns,rfl,hS,k⟩:=h
  refine⟨_,(ag (ak (i:=1) sc_poly.nd rfl (Or.inl rfl) (bz (cY (K:=K) rfl) (by rfl) T.len_ PySem.boot_len (aa (pv 0) ac)))
   (ag (fc PassesOwn.never (PW.pt (lC (aH fJ (pv 1) ad (aG _)) (ly (aH cW (aE (b5 (K:=K) rfl) (pv 0) (aj cq (pv 1) ad) (λ_ _=>rfl)) ad (aG _)))))
     (al (ak (i:=1) sc_poly.nd rfl (Or.inl rfl) (aj cq (pv 1) ad))))
   (al (aC (iM (iD (K:=K) rfl) (pv 0) iL (iK (pv 1))))))),?_⟩
  refine⟨_,rfl,a,_,rfl,.inl hS,?_⟩;refine⟨λm σ' H'=>∃n:Nat,n<=ns.length/\σ'=[some (.ref a),some (.int n)]/\H=H'/\n=m/\trim (ns.take n)=trim ns,⟨_,ns.length,PF _,?_,rfl,rfl,?_⟩,?_⟩
  ·rw[PC];rfl
  ·rw[QU]
  ·rintro m σ' H' ⟨n,hn,rfl,rfl,rfl,ht⟩
   have fin:trim (ns.take n)=ns.take n->∃v,([some (V.ref a),some (V.int n)]:St)[0]?=some (some v)/\∃v_1,([some (V.ref a),some (V.int n)]:St)[1]?=some (some v_1)/\∃i,v_1=V.int i/\sK K v none (some i) H Q:=λh=>by
    refine⟨_,rfl,_,rfl,n,rfl,a,_,rfl,hS,λp hp=>k p _ (Same.upd_new hp) hp ?_⟩;rw[au,<- ht,h]
    have e:gN (ns.map V.int) none (some (n:Int))=(ns.take n).map V.int:=by unfold gN;rw[HT.sIx_none,HT.sIx_nat,Rw,QV,PC,Nat.min_eq_left hn,List.map_take]
    rw[e]
   refine⟨_,rfl,_,_,rfl,rfl,_,rfl,?_⟩;refine aP (λhp=>?_) (λhp=>?_)
   ·obtain⟨j,rfl⟩:∃j,n=j+1:=⟨n-1,by have:(0:Int)<n:=hp;omega⟩;have hj:j<ns.length:=hn;refine⟨_,rfl,_,rfl,_,_,rfl,rfl,a,_,j,.int (cf ns j),rfl,?_,hS,kC ?_,_,_,rfl,rfl,_,rfl,?_⟩
    ·show V.int (((j+1:Nat):Int)-1)=V.int j
     congr 1;omega
    ·rw[List.getElem?_map,jb hj];rfl
    refine aP (λh0=>?_) (λh0=>?_)
    ·refine⟨λσ'' H''=>∃m',m'<j+1/\∃n:Nat,n<=ns.length/\σ''=[some (.ref a),some (.int n)]/\H=H''/\n=m'/\trim (ns.take n)=trim ns,λ_ _ h=>h,?_⟩;refine⟨_,rfl,_,_,rfl,rfl,j,Q1 _,j,QZ hj,?_,rfl,rfl,?_⟩
     ·show[some (V.ref a),some (V.int (((j+1:Nat):Int)-1))]=[some (V.ref a),some (V.int j)]
      congr 4;omega
     ·rw[<- ht,CI hj h0]
    ·exact fin (CJ hj h0)
   ·obtain rfl:n=0:=by have:¬(0:Int)<n:=hp;omega
    exact fin (by rw[R7];rfl)
def gX:Sp:=λvs H Q _=>∃(a:Addr) (xs:List V),vs=[.ref a]/\H a=some (.lst xs)/\Q (.int ((xs.length:Int)-1)) H
theorem GG(F:Fun K "degree" "degree" rD f fd)(T:Txt K mg):FnOk P w K mg base CX0 1 f fd ["row"] gX:=by
 refine F.ok D9 (λvs H Q E h=>?_) (λcdv A outer s H vs Q E hr h=>?_)
 ·obtain⟨a,xs,rfl,_⟩:=h;rfl
 ·obtain⟨a,xs,rfl,hA,k⟩:=h;refine⟨_,(al (aC (aj cq (bz (cY (K:=K) rfl) (by rfl) T.len_ PySem.boot_len (aa (pv 0) ac)) ad))),?_⟩;exact⟨_,rfl,a,_,rfl,.inl (SqL.of hA),_,_,rfl,rfl,k⟩
theorem GJ(F:Fun K "coefficient" "coefficient" rG f fd)(T:Txt K mg):FnOk P w K mg base CX0 1 f fd ["row","place"] (jP K):=by
 refine F.ok Eb (λvs H Q E h=>?_) (λcdv A outer s H vs Q E hr h=>?_)
 ·obtain⟨a,ns,k,rfl,_⟩:=h;rfl
 ·obtain⟨a,ns,n,rfl,hS,k⟩:=h
  refine⟨_,(ag (aR (aH dH (pv 1) (bz (cY (K:=K) rfl) (by rfl) T.len_ PySem.boot_len (aa (pv 0) ac)) (aG _))
   (al (aC (aE (b5 (K:=K) rfl) (pv 0) (pv 1) (λ_ _=>rfl))))
   aU)
   (al (aC ad))),?_⟩
  refine⟨_,rfl,_,rfl,a,_,rfl,.inl hS,_,_,rfl,rfl,_,rfl,?_⟩;refine aP (λh1=>?_) (λh1=>?_)
  ·rw[PC]at h1;have h2:n<ns.length:=by omega
   refine⟨_,rfl,_,rfl,a,_,_,_,rfl,rfl,hS,kC (v:=.int (ns.getD n 0)) ?_,k⟩;rw[List.getElem?_map,List.getElem?_eq_getElem h2];simp[List.getD,h2]
  ·rw[PC]at h1;have h2:ns.length<=n:=by omega
   have e:ns.getD n 0=0:=by simp[List.getD,List.getElem?_eq_none_iff.mpr h2]
   rw[e]at k;exact k
theorem FQ(F:Fun K "taken" "taken" qC f fd)(T:Txt K mg)(jC:Cal P w K mg base 1 "poly" ["row"] (kT K) uG uw)(vU:Cal P w K mg base 1 "coefficient" ["row","place"] (jP K) Ky Ki):FnOk P w K mg base CX0 2 f fd ["first","second"] (nM K cP):=by
 obtain⟨jw,iT,i6,jn⟩:=jC;obtain⟨mV,mi,mw,mP⟩:=vU;refine F.ok sc_taken (λvs H Q E h=>?_) (λcdv A outer s H vs Q E hr h=>?_)
 ·obtain⟨a,b,xs,ys,rfl,_⟩:=h;rfl
 ·obtain⟨a,b,xs,ys,rfl,hA,hB,hx,hy,k⟩:=h
  refine⟨_,(ag (ak (i:=2) sc_taken.nd rfl (Or.inl rfl) (bz (BO rfl) (by rfl) T.max_ PyProof.Rows.boot_max (aa (bz (cY (K:=K) rfl) (by rfl) T.len_ PySem.boot_len (aa (pv 0) ac)) (aa (bz (cY (K:=K) rfl) (by rfl) T.len_ PySem.boot_len (aa (pv 1) ac)) ac))))
   (al (aC (aq jw (hr.mono) rfl iT i6 jn .nil ai (aa (fI (own:=["k"]) (fr:=["first","second"]) (js:=[0,1]) (by walk_at "comp_ok") rfl (g9 rfl T.range_ (aa (pv 2) ac)) (λ_ _ _ _=>(aS (i:=0) (show List.Nodup (["k","first","second"]:List Str)from by decide +kernel) rfl (Or.inl rfl))) (λ_ _ _ _=>(aj cq (aq mV (hr.mono) rfl mi mw mP .nil ai (aa (pv 1) (aa (pv 0) ac))) (aq mV (hr.mono) rfl mi mw mP .nil ai (aa (pv 2) (aa (pv 0) ac)))))) ac))))),?_⟩
  refine⟨_,rfl,a,_,rfl,.inl hA,_,rfl,b,_,rfl,.inl hB,_,_,rfl,?_⟩;rw[zM,PC,PC];have hz:max xs.length ys.length<=sizeLine:=by have:=sizeLine_eq;omega
  refine⟨_,rfl,_,rfl,(nN hz).1,(nN hz).2,uU (lo:=0) (n:=max xs.length ys.length) (λi zs σ' H'=>∃z:Option V,σ'=[z,some (.ref a),some (.ref b)]/\zs=((List.range i).map λk=>V.int (cf xs k-cf ys k))/\H=H') hz ⟨none,rfl,rfl,rfl⟩ ?_ ?_ ?_⟩
  ·rintro i zs σ' H' _ ⟨z,rfl,rfl,rfl⟩;simp
  ·rintro i zs σ' H' hi ⟨z,rfl,rfl,rfl⟩;refine⟨_,rfl,_,rfl,a,xs,i,?_,hA,_,rfl,_,rfl,b,ys,i,?_,hB,_,_,rfl,rfl,_,rfl,?_,rfl⟩
   ·show[V.ref a,V.int (0+(i:Int))]=_;rw[QK]
   ·show[V.ref b,V.int (0+(i:Int))]=_;rw[QK]
   ·rw[List.range_succ,Qk];rfl
  ·rintro zs σ' H' p ⟨z,rfl,rfl,rfl⟩ hp;refine⟨p,(List.range (max xs.length ys.length)).map λk=>cf xs k-cf ys k,rfl,SqL.of ?_,?_⟩
   ·rw[au,QL];rfl
   ·intro p' H' sm hp' e;refine k p' H' ((Same.upd_new hp).trans sm) ((Same.upd_new hp).free hp') ?_;rw[e,Dj]
inductive sp1(g:List Int->List Int)(vs:List V)(H:Hp)(Q:VK)(E:XK):Prop
 |mk (a:Addr) (ns:List Int):vs=[.ref a]->H a=some (.lst (ns.map V.int))->ns.length<=100000->AllB 100000 ns->mkL H Q (g ns)->sp1 g vs H Q E
theorem Hn{k:Nat}{n:Nat}(h:n<2^k):Bits k (n:Int):=by show((n:Int)).natAbs<2^k;rw[Qq];exact h
theorem Dr{n:Nat}(h:n<=1000000):Bits 1000000 (n:Int):=(Hn (k:=20) (Rc h (by decide))).mono
theorem sJ(f:Nat->V)(i:Nat):(List.range i).map f++[f i]=(List.range (i+1)).map f:=by rw[List.range_succ,Qk];rfl
theorem FW(F:Fun K "slope" "slope" qI f fd)(T:Txt K mg):FnOk P w K mg base CX0 1 f fd ["row"] (sp1 slopeL):=by
 refine F.ok DY (λvs H Q E h=>?_) (λcdv A outer s H vs Q E hr h=>?_)
 ·obtain⟨a,ns,rfl,_⟩:=h;rfl
 ·obtain⟨a,ns,rfl,hA,hn,hb,k⟩:=h;have big:=sizeLine_eq;refine⟨_,(al (aC (fI (own:=["k"]) (fr:=["row"]) (js:=[0]) (by walk_at "comp_ok") rfl (Fo rfl T.range_ (aa ad (aa (bz (cY (K:=K) rfl) (by rfl) T.len_ PySem.boot_len (aa (pv 0) ac)) ac))) (λ_ _ _ _=>(aS (i:=0) (show List.Nodup (["k","row"]:List Str)from by decide +kernel) rfl (Or.inl rfl))) (λ_ _ _ _=>(aj aK (pv 0) (aE (b5 (K:=K) rfl) (pv 1) (pv 0) (λ_ _=>rfl))))))),?_⟩;have hl:(ns.map V.int).length=ns.length:=PC _;refine bj ⟨_,rfl,a,_,rfl,.inl (SqL.of hA),1,_,rfl,⟨by decide,by decide,by rw[hl];omega,by rw[hl];omega⟩,uU (lo:=1) (λi ys σ' H'=>∃z:Option V,σ'=[z,some (.ref a)]/\ys=((List.range i).map λ(j:Nat)=>V.int (((j:Int)+1)*cf ns (j+1)))/\H=H') (by rw[hl];omega) ⟨none,rfl,rfl,rfl⟩ ?_ ?_ ?_⟩
  ·rintro i ys σ' H' _ ⟨z,rfl,rfl,rfl⟩;simp
  ·rintro i ys σ' H' hi ⟨z,rfl,rfl,rfl⟩;rw[hl]at hi;have hi':i+1<ns.length:=by omega
   have e0:(1:Int)+(i:Int)=((i+1:Nat):Int):=by omega
   refine⟨_,rfl,_,rfl,_,rfl,a,_,_,_,rfl,rfl,SqL.of hA,kB e0 hi',_,_,rfl,rfl,⟨by rw[e0];exact Dr (by omega),(hb.cf _).mono⟩,_,rfl,?_,rfl⟩;rw[<- sJ];show _++[V.int ((1+(i:Int))*cf ns (i+1))]=_;rw[Int.add_comm 1]
  ·rintro ys σ' H' p ⟨z,rfl,rfl,rfl⟩ hp;refine k p _ (Same.upd_new hp) hp ?_;have en:(((ns.map V.int).length:Int)-1).toNat=ns.length-1:=by rw[hl];omega
   rw[au,en];unfold RM.slopeL;rw[QL];rfl
def pY:Sp:=λvs H Q _=>∃(a:Addr) (ns:List Int),vs=[.ref a]/\H a=some (.lst (ns.map V.int))/\Tr ns/\ns.length<=1000000/\mkL H Q (ar ns)
theorem J0{ns:List Int}(ht:Tr ns)(hne:ns≠[]):0<(aA ns:Int):=by
 obtain⟨r,x,rfl⟩:=(cZ ns).resolve_left hne;have hx:x≠0:=tr_snoc.mp ht;have hm:x∈r++[x]:=by simp
 have h1:0<aA (r++[x]):=Nat.pos_of_dvd_of_pos (oZ hm) (Rq.mpr hx);omega
theorem FY(F:Fun K "shrunk" "shrunk" nX f fd)(T:Txt K mg)(hNS:base.NoSeer)(hTr:P.given.tree=none)(vQ:Cal P w K mg base 2 "shared" ["row"] (pZ K) Kv Kf):FnOk P w K mg base CX0 33 f fd ["row"] pY:=by
 obtain⟨vF,tI,tY,vj⟩:=vQ;refine F.ok sc_shrunk (λvs H Q E h=>?_) (λcdv A outer s H vs Q E hr h=>?_)
 ·obtain⟨a,ns,rfl,_⟩:=h;rfl
 ·obtain⟨a,ns,rfl,hA,ht,hn,k⟩:=h;have big:=sizeLine_eq;have hdp:(A.deeper (PyProof.Rows.envOfC (Str.ofString "shrunk") (aD nX) s.heap.objs.size f cdv)).depth+100<recursionLimit:=by have:=hr.dp;omega
  refine⟨_,(ag (ak (i:=1) sc_shrunk.nd rfl (Or.inr rfl) (aq vF (hr.mono) rfl tI tY vj .nil ai (aa (pv 0) ac)))
   (al (aC (fI (own:=["value"]) (fr:=["divisor"]) (js:=[1]) (by walk_at "comp_ok") rfl (fH (K:=K) rfl (pv 0)) (λ_ _ _ _=>(aS (i:=0) (show List.Nodup (["value","divisor"]:List Str)from by decide +kernel) rfl (Or.inl rfl))) (λ_ _ _ _=>(aj (FH hNS hTr hdp rfl rfl rfl rfl rfl) (pv 0) (pv 1))))))),?_⟩
  refine av ⟨_,rfl,a,ns,rfl,SqL.of hA,?_⟩;refine bj ⟨_,rfl,a,rfl,⟨_,SqL.of hA⟩,jh (K:=K) (a:=a) (xs:=ns.map V.int) (λi ys σ' H'=>∃(z0:Option V),σ'=[z0,some (.int (aA ns:Nat))]/\ys=((ns.take i).map λx=>x/(aA ns:Int)).map V.int/\H=H') (by rw[PC];omega) ⟨none,rfl,rfl,rfl⟩ ?_ ?_ ?_⟩
  ·rintro i ys σ' H' _ ⟨z0,rfl,rfl,rfl⟩;exact⟨SqL.of hA,by rw[PC,PC,QB];exact RP _ _⟩
  ·rintro i x ys σ' H' hi ⟨z0,rfl,rfl,rfl⟩;rw[List.getElem?_map]at hi;cases e:ns[i]? with
   |none=>rw[e]at hi;cases hi
   |some c =>rw[e]at hi;obtain rfl:=Option.some.inj hi;have g1:=J0 ht (λz=>by rw[z]at e;simp at e);refine⟨_,rfl,_,rfl,_,_,rfl,rfl,g1,_,rfl,?_,rfl⟩;rw[QI,e];simp
  ·rintro ys σ' H' p ⟨z0,rfl,rfl,rfl⟩ hp;refine k p _ (Same.upd_new hp) hp ?_;rw[au,PC,QU];rfl
inductive jO(vs:List V)(H:Hp)(Q:VK)(E:XK):Prop
 |mk (a:Addr) (ns:List Int):vs=[.ref a]->H a=some (.lst (ns.map V.int))->Tr ns->ns.length<=1000000->mkL H Q (aw ns)->jO vs H Q E
theorem B7(r:List Int)(x:Int):atI ((r++[x]).map V.int) (-1)=some (.int x):=by rw[Qk];exact vy _ _
theorem Gj(F:Fun K "plain" "plain" qU f fd)(T:Txt K mg)(vO:Cal P w K mg base 33 "shrunk" ["row"] pY Kt Kd):FnOk P w K mg base CX0 34 f fd ["row"] jO:=by
 obtain⟨mT,mf,mr,mN⟩:=vO;refine F.ok sc_plain (λvs H Q E h=>?_) (λcdv A outer s H vs Q E hr h=>?_)
 ·obtain⟨a,ns,rfl,_⟩:=h;rfl
 ·obtain⟨a,ns,rfl,hA,ht,hn,k⟩:=h;have big:=sizeLine_eq;have hu:=hr.units
  refine⟨_,(ag (ak (i:=1) sc_plain.nd rfl (Or.inl rfl) (aq mT (hr.mono) rfl mf mr mN .nil ai (aa (pv 0) ac)))
   (ag (aR (PW.pt (lC (aH (lX (K:=K) rfl hu) (pv 1) (aX ac) (aG _)) (ly (aH dH (aE (b5 (K:=K) rfl) (pv 1) (bK bJ ad) (λ_ _=>rfl)) ad (aG _)))))
     (al (aC (fI (own:=["value"]) (fr:=[]) (js:=[]) (by walk_at "comp_ok") rfl (fH (K:=K) rfl (pv 1)) (λ_ _ _ _=>(aS (i:=0) (show List.Nodup (["value"]:List Str)from by decide +kernel) rfl (Or.inl rfl))) (λ_ _ _ _=>(bK bJ (pv 0))))))
     aU)
   (al (aC (pv 1))))),?_⟩
  refine av ⟨_,rfl,a,ns,rfl,hA,ht,hn,λp H1 s1 hp e1=>?_⟩;have hsl:(ar ns).length=ns.length:=PC _;have done:cz (ar ns)=ar ns->Q (.ref p) H1:=λe=>k p H1 s1 hp (by rw[e1];show _=some (HO.lst ((cz (ar ns)).map V.int));rw[e])
  refine dN (λσ' H'=>σ'=[some (.ref a),some (.ref p)]/\Same H H'/\H' p=some (.lst ((ar ns).map V.int))/\cz (ar ns)=ar ns) ?_ ?_
  ·rintro σ' H' ⟨rfl,s2,e2,e3⟩;exact⟨_,rfl,k p H' s2 hp (by rw[e2];show _=some (HO.lst ((cz (ar ns)).map V.int));rw[e3])⟩
  intro rest;refine jV ⟨_,rfl,PK _,λq hq=>?_⟩;have s2:Same H (upd H1 q (.lst [])):=s1.then_new hq;have e2:upd H1 q (.lst []) p=some (.lst ((ar ns).map V.int)):=by rw[upd_ne (aW e1 hq)];exact e1
  refine⟨p,q,ar ns,[],rfl,rfl,SqL.of e2,SqL.of au,_,rfl,?_⟩;refine da (λhne=>?_) (λhe=>?_)
  ·obtain⟨r,x,er⟩:=(cZ (ar ns)).resolve_left hne;refine⟨_,rfl,_,rfl,p,_,_,.int x,rfl,rfl,SqL.of e2,(by rw[er];exact B7 r x),_,_,rfl,rfl,_,rfl,?_⟩;have elast:ao (ar ns)=x:=by rw[er,dM]
   refine aP (λhx=>?_) (λhx=>?_)
   ·have hx':x<0:=hx;have epos:cz (ar ns)=(ar ns).map λx => -x:=by unfold cz;rw[elast,if_pos hx']
    refine bj ⟨_,rfl,p,rfl,⟨_,SqL.of e2⟩,jh (K:=K) (a:=p) (xs:=(ar ns).map V.int) (λi ys σ' H'=>∃(z0:Option V),σ'=[z0]/\ys=(((ar ns).take i).map λx => -x).map V.int/\upd H1 q (.lst [])=H') (by rw[PC,hsl];omega) ⟨none,rfl,rfl,rfl⟩ ?_ ?_ ?_⟩
    ·rintro i ys σ' H' _ ⟨z0,rfl,rfl,rfl⟩;exact⟨SqL.of e2,by rw[PC,PC,QB];exact RP _ _⟩
    ·rintro i x ys σ' H' hi ⟨z0,rfl,rfl,rfl⟩;rw[List.getElem?_map]at hi;cases e:(ar ns)[i]? with
     |none=>rw[e]at hi;cases hi
     |some c =>rw[e]at hi;obtain rfl:=Option.some.inj hi;refine⟨_,rfl,_,rfl,_,rfl,?_,rfl⟩;rw[QI,e];simp
    ·rintro ys σ' H' p' ⟨z0,rfl,rfl,rfl⟩ hp';refine k p' _ (s2.then_new hp') (s2.free hp') ?_;rw[au,PC,QU];show _=some (HO.lst ((cz (ar ns)).map V.int));rw[epos]
   ·exact rest _ _ ⟨rfl,s2,e2,by unfold cz;rw[elast,if_neg hx]⟩
  ·have he':ar ns=[]:=he;exact rest _ _ ⟨rfl,s2,e2,by rw[he'];rfl⟩
inductive xi(vs:List V)(H:Hp)(Q:VK)(E:XK):Prop
 |mk (a:Addr) (xs:List Int) (c:Int):vs=[.ref a,.int c]->H a=some (.lst (xs.map V.int))->xs.length<=1000000->Bits 1000000 c->AllB 1000000 xs->mkL H Q (scL c xs)->xi vs H Q E
theorem Gb(F:Fun K "scaled" "scaled" qM f fd)(T:Txt K mg):FnOk P w K mg base CX0 1 f fd ["row","factor"] xi:=by
 refine F.ok D0 (λvs H Q E h=>?_) (λcdv A outer s H vs Q E hr h=>?_)
 ·obtain⟨a,xs,c,rfl,_⟩:=h;rfl
 ·obtain⟨a,xs,c,rfl,hA,hn,bc,bx,k⟩:=h;have big:=sizeLine_eq;refine⟨_,(al (aC (fI (own:=["value"]) (fr:=["factor"]) (js:=[1]) (by walk_at "comp_ok") rfl (fH (K:=K) rfl (pv 0)) (λ_ _ _ _=>(aS (i:=0) (show List.Nodup (["value","factor"]:List Str)from by decide +kernel) rfl (Or.inl rfl))) (λ_ _ _ _=>(aj aK (pv 1) (pv 0)))))),?_⟩;refine bj ⟨_,rfl,a,rfl,⟨_,SqL.of hA⟩,jh (K:=K) (a:=a) (xs:=xs.map V.int) (λi ys σ' H'=>∃(z0:Option V),σ'=[z0,some (.int c)]/\ys=(scL c (xs.take i)).map V.int/\H=H') (by rw[PC];omega) ⟨none,rfl,rfl,rfl⟩ ?_ ?_ ?_⟩
  ·rintro i ys σ' H' _ ⟨z0,rfl,rfl,rfl⟩;exact⟨SqL.of hA,by rw[PC,cv,QB];exact RP _ _⟩
  ·rintro i x ys σ' H' hi ⟨z0,rfl,rfl,rfl⟩;obtain⟨y,_,rfl,hm,et⟩:=fO hi;refine⟨_,rfl,_,rfl,_,_,rfl,rfl,⟨bc,bx y hm⟩,_,rfl,?_,rfl⟩;rw[et];simp[scL]
  ·rintro ys σ' H' p ⟨z0,rfl,rfl,rfl⟩ hp;refine k p _ (Same.upd_new hp) hp ?_;rw[au,PC,QU]
theorem Bq(ms:List Int):gj ms none (some (-1))=ms.take (ms.length-1):=by
 unfold gj;rw[HT.sIx_none,Rw,QV]
 congr 1
 show(if(-1:Int)<0 then((-1:Int)+(ms.length:Int)).toNat else min (-1:Int).toNat ms.length)=_;rw[if_pos (by decide)];omega
theorem BK{ms:List Int}{n k:Nat}:cf (ms.take n) k=if k<n then cf ms k else 0:=by
 unfold cf;by_cases h:k<n
 ·rw[if_pos h];simp[List.getD,List.getElem?_take,h]
 ·rw[if_neg h];simp[List.getD,List.getElem?_take,h]
inductive xE(vs:List V)(H:Hp)(Q:VK)(E:XK):Prop
 |mk (a b:Addr) (rs ys:List Int) (p:Nat) (l:Int):vs=[.ref a,.ref b,.int p,.int l]->H a=some (.lst (rs.map V.int))->H b=some (.lst (ys.map V.int))->rs.length=p+ys.length->ys≠[]->Bits 1000000 l->AllB 1000000 ys->mkL H Q (iX rs ys p l)->xE vs H Q E
theorem Gw(F:Fun K "lowered" "lowered" rh f fd)(T:Txt K mg):FnOk P w K mg base CX0 1 f fd ["row","second","place","lead"] xE:=by
 refine F.ok sc_lowered (λvs H Q E h=>?_) (λcdv A outer s H vs Q E hr h=>?_)
 ·obtain⟨a,b,rs,ys,p,l,rfl,_⟩:=h;rfl
 ·obtain⟨a,b,rs,ys,p,l,rfl,hA,hB,hl,hy,bl,by',k⟩:=h;have hyl:=PL.mpr hy
  refine⟨_,(ag (ak (i:=4) sc_lowered.nd rfl (Or.inl rfl) (iM (iD (K:=K) rfl) (pv 0) iL (iK (bK bJ ad))))
   (ag (cV PassesOwn.never rfl (om rfl T.enumerate_ (aa (iM (iD (K:=K) rfl) (pv 1) iL (iK (bK bJ ad))) ac)) (gA rfl (cu (aS (i:=5) sc_lowered.nd rfl (Or.inl rfl)) (cu (aS (i:=6) sc_lowered.nd rfl (Or.inl rfl)) gz)))
     (al (gw (aj cq (aE (b5 (K:=K) rfl) (pv 4) (aj aY (pv 2) (pv 5)) (λ_ _=>rfl)) (aj aK (pv 3) (pv 6))) (lT (pv 4) (aj aY (pv 2) (pv 5)) ll))))
   (al (aC (pv 4))))),?_⟩
  refine av ⟨_,rfl,_,rfl,_,rfl,a,_,rfl,SqL.of hA,λkp hkp=>?_⟩;rw[mH,Bq];have s1:=Same.upd_new (o:=.lst ((rs.take (rs.length-1)).map V.int)) hkp;have nkb:b≠kp:=aW hB hkp;refine⟨_,rfl,_,rfl,_,rfl,b,_,rfl,SqL.of (s1 _ _ hB),λp2 hp2=>?_⟩;rw[mH,Bq];have n2:kp≠p2:=aW au hp2;generalize hH2:upd (upd H kp (.lst ((rs.take (rs.length-1)).map V.int))) p2 (.lst ((ys.take (ys.length-1)).map V.int))=H2;have hk2:H2 kp=some (.lst ((rs.take (rs.length-1)).map V.int)):=by rw[<- hH2,upd_ne n2,au]
  have hq2:H2 p2=some (.lst ((ys.take (ys.length-1)).map V.int)):=by rw[<- hH2,au]
  have s2:Same H H2:=by rw[<- hH2];exact s1.then_new hp2
  have lt:(rs.take (rs.length-1)).length=rs.length-1:=by rw[QB];omega
  have lty:(ys.take (ys.length-1)).length=ys.length-1:=by rw[QB];omega
  refine⟨p2,rfl,⟨_,SqL.of hq2⟩,um (K:=K) (a:=p2) (xs:=(ys.take (ys.length-1)).map V.int) (λi σ' H'=>∃(acc:List Int) (z5 z6:Option V),σ'=[some (.ref a),some (.ref b),some (.int p),some (.int l),some (.ref kp),z5,z6]/\SameB kp H2 H'/\H' kp=some (.lst (acc.map V.int))/\acc.length=rs.length-1/\∀n,n<acc.length->cf acc n=cf rs n-(if p<=n/\n-p<i then l*cf ys (n-p)else 0))
   ⟨_,none,none,rfl,SameB.refl _ _,hk2,lt,λn hn=>by rw[BK,if_pos (by omega),if_neg (by omega)];omega⟩ ?_ ?_ ?_⟩
  ·rintro i σ' H' _ ⟨acc,z5,z6,rfl,sb,_⟩;exact SqL.of (sb _ _ (Ne.symm n2) hq2)
  ·rintro i x σ' H' q hi ⟨acc,z5,z6,rfl,sb,hpa,hal,hac⟩ hq
   have hil:i<ys.length-1:=by apply Classical.byContradiction;intro hn;rw[List.getElem?_eq_none_iff.mpr (by rw[PC,lty];omega)]at hi;cases hi
   rw[List.getElem?_map,jb (by rw[lty];exact hil),BK,if_pos hil]at hi;obtain rfl:=Option.some.inj hi;refine⟨q,_,rfl,SqT.of au,rfl,_,_,rfl,_,_,rfl,rfl,?_⟩;have nqp:kp≠q:=aW hpa hq;have hpa':upd H' q (.tup [.int i,.int (cf ys i)]) kp=some (.lst (acc.map V.int)):=by rw[upd_ne nqp];exact hpa
   have hpi:p+i<acc.length:=by omega
   have epi:((p:Nat):Int)+((i:Nat):Int)=((p+i:Nat):Int):=by omega
   refine⟨_,rfl,_,rfl,_,rfl,_,_,rfl,rfl,kp,_,_,_,rfl,rfl,SqL.of hpa',kB epi hpi,_,rfl,_,rfl,_,_,rfl,rfl,⟨bl,by'.cf i⟩,_,_,rfl,rfl,_,rfl,_,rfl,_,rfl,_,_,rfl,rfl,kp,_,_,p+i,rfl,rfl,hpa',mB epi (by rw[PC];exact hpi),?_⟩;refine⟨acc.set (p+i) (cf acc (p+i)-l*cf ys i),_,_,rfl,(sb.then_new hq).then_upd,by rw[au,oF],by rw[Rz];exact hal,λn hn=>?_⟩;rw[Rz]at hn;rw[mK hpi];by_cases e:n=p+i
   ·subst e;rw[if_pos rfl,hac _ hpi,if_neg (by omega),if_pos (by omega),Nat.add_sub_cancel_left];omega
   ·rw[if_neg e,hac n hn];by_cases h1:p<=n/\n-p<i
    ·rw[if_pos h1,if_pos (by omega)]
    ·rw[if_neg h1,if_neg (by omega)]
  ·rintro σ' H' ⟨acc,z5,z6,rfl,sb,hpa,hal,hac⟩;rw[PC,lty]at hac;refine⟨_,rfl,k kp H' (λb' o e=>sb b' o (aW e hkp) (s2 b' o e)) hkp ?_⟩;rw[hpa]
   have e:acc=iX rs ys p l:=by
    apply dU
    ·rw[hal,zX]
    ·intro n hn;have hn':n<rs.length-1:=by omega
     rw[hac n hn,pi,if_pos hn'];by_cases h1:p<=n
     ·have h2:p<=n/\n-p<ys.length-1:=⟨h1,by omega⟩;rw[if_pos h1,if_pos h2]
     ·have h2:¬(p<=n/\n-p<ys.length-1):=λz=>h1 z.1
      rw[if_neg h1,if_neg h2]
   rw[e]
theorem AllB.of_cf{k:Nat}{l:List Int}(h:∀n,Bits k (RM.cf l n)):AllB k l:=λx hx=>by
 obtain⟨i,hi,rfl⟩:=List.mem_iff_getElem.mp hx;have:=h i
 rwa [eJ hi]at this
theorem vA{k:Nat}{x:Int}(h:Bits k x):Bits k ((x.natAbs:Nat):Int):=h.of_le (by rw[Qq];exact PF _)
theorem sg_bits{x:Int}:Bits 1 (sg x):=by show(sg x).natAbs<2^1;unfold sg;split<;>(try split)<;>decide
theorem lj{k:Nat}{x y:Int}(h:Bits k y):Bits k (sg x*y):=h.of_le (by
 rw[PN];have h2:(sg x).natAbs<=1:=by unfold sg;split<;>(try split)<;>decide
 calc (sg x).natAbs*y.natAbs<=1*y.natAbs:=QD _ h2
  _=y.natAbs:=Nat.one_mul _)
theorem Bl{xs ys:List Int}{b:Nat}(hx:AllB b xs)(hy:AllB b ys):∀i,AllB (b+i*(b+1)) (aT xs ys i).1/\AllB (b+i*(b+1)) (aT xs ys i).2
 |0=>by rw[Nat.zero_mul];exact⟨AllB.zeros,hx⟩
 |i+1=>by
  obtain⟨h1,h2⟩:=Bl hx hy i;have e:b+(i+1)*(b+1)=b+i*(b+1)+b+1:=by rw[Nat.succ_mul];omega
  have hs:Bits b (((RM.cf ys (ys.length-1)).natAbs:Nat):Int):=vA (hy.cf _);rw[e];show AllB _ (df ys (aT xs ys i) _).1/\AllB _ (df ys (aT xs ys i) _).2;unfold df;dsimp only
  constructor
  ·intro x hx;rcases List.mem_or_eq_of_mem_set hx with h |rfl
   ·obtain⟨y,hy',rfl⟩:=PV.mp h;have:=hs.mul (h1 y hy');exact this.mono (by omega)
   ·exact(lj (h2.cf _)).mono (by omega)
  ·refine AllB.of_cf λn=>?_
   rw[pi];by_cases hn:n<(scL (((RM.cf ys (ys.length-1)).natAbs:Nat):Int) (aT xs ys i).2).length-1
   ·rw[if_pos hn,bQ]
    have m1:Bits (b+i*(b+1)+b) ((((RM.cf ys (ys.length-1)).natAbs:Nat):Int)*RM.cf (aT xs ys i).2 n):=by have:=hs.mul (h2.cf n);rwa [Nat.add_comm]at this
    refine m1.sub ?_;by_cases hp:(xs.length+1-ys.length-1-i)<=n
    ·rw[if_pos hp];exact(lj (h2.cf _)).mul (hy.cf _)
    ·rw[if_neg hp];exact Bits.zero
   ·rw[if_neg hn];exact Bits.zero
theorem jk{k:Nat}{b:Int}(h:Bits k b):∀n,Bits (k*n+1) (b^n)
 |0=>by show((b^0:Int)).natAbs<2^(k*0+1);rw[QO,Nat.mul_zero];decide
 |n+1=>by rw[Ql];have:=(jk h n).mul h;exact this.mono (by rw[Nat.mul_succ];omega)
def Hw(H:Hp)(Q:VK)(xs ys:List Int):Prop:=∀(t q r:Addr) (H':Hp),Same H H'->H t=none->H q=none->H r=none->q≠r->q≠t->r≠t->H' t=some (.tup [.int (cw xs ys),.ref q,.ref r])->H' q=some (.lst ((ck xs ys).map V.int))->H' r=some (.lst ((aO xs ys).map V.int))->Q (.ref t) H'
inductive kY(vs:List V)(H:Hp)(Q:VK)(E:XK):Prop
 |mk (a b:Addr) (xs ys:List Int) (n:Nat):vs=[.ref a,.ref b]->H a=some (.lst (xs.map V.int))->H b=some (.lst (ys.map V.int))->ys≠[]->AllB n xs->AllB n ys->(xs.length+2)*(n+1)<=1000000->ys.length<=1000000->Hw H Q xs ys->kY vs H Q E
theorem vw{l:List Int}(h:l≠[]):atI (l.map V.int) (-1)=some (.int (cf l (l.length-1))):=by
 obtain⟨r,x,rfl⟩:=(cZ l).resolve_left h;have e:(r++[x]).length-1=r.length:=by simp
 rw[e,ku,Qk];exact vy _ _
theorem GF(F:Fun K "divided" "divided" rC f fd)(T:Txt K mg)(jA:Cal P w K mg base 1 "whole_sign" ["value"] kU uE ut)(eK:Cal P w K mg base 1 "degree" ["row"] gX km ki)(Nb:Cal P w K mg base 1 "scaled" ["row","factor"] xi OS N6)(Nq:Cal P w K mg base 1 "lowered" ["row","second","place","lead"] xE O6 Ol)(jC:Cal P w K mg base 1 "poly" ["row"] (kT K) uG uw):FnOk P w K mg base CX0 2 f fd ["first","second"] kY:=by
 obtain⟨ju,iR,iY,jl⟩:=jA;obtain⟨dA,dm,dq,dz⟩:=eK;obtain⟨Cf,zN,Ae,BW⟩:=Nb;obtain⟨MH,Ig,Jl,LQ⟩:=Nq;obtain⟨jw,iT,i6,jn⟩:=jC;refine F.ok sc_divided (λvs H Q E h=>?_) (λcdv A outer s H vs Q E hr h=>?_)
 ·obtain⟨a,b,xs,ys,n,rfl,_⟩:=h;rfl
 ·obtain⟨a,b,xs,ys,nb,rfl,hA,hB,hy,bx,by',hsz,hyn,k⟩:=h;have big:=sizeLine_eq;have hu:=hr.units;have hyl:=PL.mpr hy
  have hxl:xs.length<=1000000:=by have:=Q8 (xs.length+2) (show 1<=nb+1 by omega);omega
  have bsz:∀i,i<=xs.length->nb+i*(nb+1)<=1000000:=λi hi=>by have h1:=QD (nb+1) hi;rw[Nat.add_mul]at hsz;omega
  have hnb:nb<=1000000:=by have:=bsz 0 (PK _);omega
  refine⟨_,(ag (aR (aH (j1 (K:=K) rfl hu) (pv 1) (aX ac) (aG _))
   (al iH)
   aU)
   (ag (ak (i:=2) sc_divided.nd rfl (Or.inl rfl) (bz fv (by rfl) T.abs_ PyProof.Rows.boot_abs (aa (aE (b5 (K:=K) rfl) (pv 1) (bK bJ ad) (λ_ _=>rfl)) ac)))
   (ag (ak (i:=3) sc_divided.nd rfl (Or.inl rfl) (aq ju (hr.mono) rfl iR iY jl .nil ai (aa (aE (b5 (K:=K) rfl) (pv 1) (bK bJ ad) (λ_ _=>rfl)) ac)))
   (ag (ak (i:=4) sc_divided.nd rfl (Or.inl rfl) (aj aY (aj cq (aq dA (hr.mono) rfl dm dq dz .nil ai (aa (pv 0) ac)) (aq dA (hr.mono) rfl dm dq dz .nil ai (aa (pv 1) ac))) ad))
   (ag (ak (i:=5) sc_divided.nd rfl (Or.inl rfl) ad)
   (ag (ak (i:=6) sc_divided.nd rfl (Or.inl rfl) (aj sW (aX (aa ad ac)) (pv 4)))
   (ag (ak (i:=7) sc_divided.nd rfl (Or.inl rfl) (oq (va (K:=K) rfl) (by rfl) T.list_ PyProof.Rows.boot_list (aa (pv 0) ac)))
   (ag (cV PassesOwn.never rfl (yY rfl T.range_ (aa (aj cq (pv 4) ad) (aa (bK bJ ad) (aa (bK bJ ad) ac)))) (aS (i:=8) sc_divided.nd rfl (Or.inl rfl))
     (ag (ak (i:=9) sc_divided.nd rfl (Or.inl rfl) (aj aK (pv 3) (aE (b5 (K:=K) rfl) (pv 7) (bK bJ ad) (λ_ _=>rfl))))
       (ag (ak (i:=5) sc_divided.nd rfl (Or.inl rfl) (aj aK (pv 5) (pv 2)))
       (ag (ak (i:=6) sc_divided.nd rfl (Or.inl rfl) (aq Cf (hr.mono) rfl zN Ae BW .nil ai (aa (pv 6) (aa (pv 2) ac))))
       (ag (gw (pv 9) (lT (pv 6) (pv 8) ll))
       (al (ak (i:=7) sc_divided.nd rfl (Or.inl rfl) (aq MH (hr.mono) rfl Ig Jl LQ .nil ai (aa (aq Cf (hr.mono) rfl zN Ae BW .nil ai (aa (pv 7) (aa (pv 2) ac))) (aa (pv 1) (aa (pv 8) (aa (pv 9) ac))))))))))))
   (al (aC (db (aa (pv 5) (aa (pv 6) (aa (aq jw (hr.mono) rfl iT i6 jn .nil ai (aa (pv 7) ac)) ac)))))))))))))),?_⟩
  refine cs ⟨_,rfl,PK _,λp1 hp1=>?_⟩;have s1:Same H (upd H p1 (.lst [])):=Same.upd_new hp1;refine⟨b,p1,ys,[],rfl,rfl,SqL.of (s1 _ _ hB),SqL.of au,_,rfl,aP (λh0=>absurd h0 hy) (λ_=>?_)⟩;generalize upd H p1 (.lst [])=H1 at s1 ⊢
  refine av ⟨_,rfl,_,rfl,b,_,_,_,rfl,rfl,SqL.of (s1 _ _ hB),vw hy,_,rfl,?_⟩;rw[mS];refine av ⟨_,rfl,_,rfl,b,_,_,_,rfl,rfl,SqL.of (s1 _ _ hB),vw hy,_,rfl,?_⟩;refine av ⟨_,rfl,a,_,rfl,s1 _ _ hA,_,rfl,b,_,rfl,s1 _ _ hB,_,_,rfl,rfl,_,_,rfl,rfl,?_⟩;dsimp only
  rw[PC,PC];have est:((xs.length:Int)-1-((ys.length:Int)-1)+1).toNat=bh xs ys:=by unfold bh;omega
  generalize hst:((xs.length:Int)-1-((ys.length:Int)-1)+1)=st at est ⊢
  refine av ?_;refine av ⟨by show 1<=sizeLine;decide,λp2 hp2=>⟨_,rfl,p2,_,_,rfl,rfl,au,by omega,by omega,by show 1*_<=_;omega,λq hq=>?_⟩⟩;rw[est,sD];have s2:=s1.then_new (o:=.lst [V.int 0]) hp2;have s3:=s2.then_new (o:=.lst ((List.replicate (bh xs ys) (0:Int)).map V.int)) hq;have fq:H q=none:=s2.free hq;refine av ⟨_,rfl,a,_,rfl,.inl (SqL.of (s3 _ _ hA)),λr hr'=>?_⟩;have hq3:upd (upd H1 p2 (.lst [V.int 0])) q (.lst ((List.replicate (bh xs ys) (0:Int)).map V.int)) q=some (.lst ((List.replicate (bh xs ys) (0:Int)).map V.int)):=au;have s4:=s3.then_new (o:=.lst (xs.map V.int)) hr';have fr:H r=none:=s3.free hr';have nqr:q≠r:=aW hq3 hr';generalize hH4:upd (upd (upd H1 p2 (.lst [V.int 0])) q (.lst ((List.replicate (bh xs ys) (0:Int)).map V.int))) r (.lst (xs.map V.int))=H4 at s4 ⊢
  have hq4:H4 q=some (.lst ((List.replicate (bh xs ys) (0:Int)).map V.int)):=by rw[<- hH4,upd_ne nqr];exact hq3
  have hr4:H4 r=some (.lst (xs.map V.int)):=by rw[<- hH4,au]
  have hs:Bits nb (((cf ys (ys.length-1)).natAbs:Nat):Int):=vA (by'.cf _);refine⟨_,rfl,_,_,rfl,rfl,_,rfl,_,rfl,st-1,-1,rfl,by omega,?_⟩;have en:(st-1 - -1).toNat=bh xs ys:=by rw[<- est];congr 1;omega
  rw[en]
  refine AM (λi σ' H'=>∃(q r:Addr) (z8 z9:Option V),σ'=[some (.ref a),some (.ref b),some (.int ((cf ys (ys.length-1)).natAbs:Nat)),some (.int (sg (cf ys (ys.length-1)))),some (.int st),some (.int (((cf ys (ys.length-1)).natAbs:Int)^i)),some (.ref q),some (.ref r),z8,z9]/\Same H H'/\H q=none/\H r=none/\q≠r/\H' q=some (.lst ((aT xs ys i).1.map V.int))/\H' r=some (.lst ((aT xs ys i).2.map V.int)))
   ⟨q,r,none,none,rfl,s4,fq,fr,nqr,hq4,hr4⟩ ?_ ?_
  ·rintro i σ' H' hi ⟨q,r,z8,z9,rfl,sm,fq,fr,nqr,hq',hr'⟩;obtain⟨lq,lr,low,_⟩:=jf (a:=xs) hy i (QZ hi);obtain⟨bq,br⟩:=Bl bx by' i;have hix:i<xs.length:=by unfold bh at hi;omega
   have bi:=bsz i (QZ hix);have rne:(aT xs ys i).2≠[]:=λz=>by rw[z]at lr;simp at lr;omega
   have ep:st-1+(i:Int) * -1=((xs.length+1-ys.length-1-i:Nat):Int):=by unfold bh at hi est;omega
   refine av ⟨_,rfl,_,rfl,_,rfl,r,_,_,_,rfl,rfl,SqL.of hr',vw rne,_,_,rfl,rfl,⟨sg_bits.mono,(br.cf _).mono bi⟩,?_⟩
   have bpow:Bits 1000000 (((cf ys (ys.length-1)).natAbs:Int)^i):=(jk hs i).mono (by
    have:=QD i (show nb<=nb+1 by omega);rw[Q3 (nb+1) i]at this;have h2:=bsz (i+1) hix;rw[Nat.succ_mul]at h2
    omega)
   refine av ⟨_,rfl,_,rfl,_,_,rfl,rfl,⟨bpow,hs.mono hnb⟩,?_⟩;dsimp only
   rw[<- Ql];refine av ⟨_,rfl,_,rfl,q,_,_,rfl,hq',by rw[lq];omega,hs.mono hnb,bq.mono bi,λq1 H2 sm2 hq1 eq1=>?_⟩;have fq1:H q1=none:=sm.free hq1;have sm2':=sm.trans sm2;have hpl:xs.length+1-ys.length-1-i<(scL ((cf ys (ys.length-1)).natAbs:Int) (aT xs ys i).1).length:=by rw[cv,lq];unfold bh at hi;omega
   refine⟨_,rfl,_,rfl,_,rfl,q1,_,_,_,rfl,rfl,eq1,mB ep (by rw[PC];exact hpl),?_⟩;rw[oF];have sm3:Same H (upd H2 q1 (.lst (((scL ((cf ys (ys.length-1)).natAbs:Int) (aT xs ys i).1).set (xs.length+1-ys.length-1-i) (sg (cf ys (ys.length-1))*cf (aT xs ys i).2 ((aT xs ys i).2.length-1))).map V.int))):=eo sm2' fq1;have nq1r:q1≠r:=λz=>by rw[z,hr']at hq1;cases hq1
   have hr3:upd H2 q1 (.lst (((scL ((cf ys (ys.length-1)).natAbs:Int) (aT xs ys i).1).set (xs.length+1-ys.length-1-i) (sg (cf ys (ys.length-1))*cf (aT xs ys i).2 ((aT xs ys i).2.length-1))).map V.int)) r=some (.lst ((aT xs ys i).2.map V.int)):=by rw[upd_ne (Ne.symm nq1r)];exact sm2 _ _ hr'
   have hq3:upd H2 q1 (.lst (((scL ((cf ys (ys.length-1)).natAbs:Int) (aT xs ys i).1).set (xs.length+1-ys.length-1-i) (sg (cf ys (ys.length-1))*cf (aT xs ys i).2 ((aT xs ys i).2.length-1))).map V.int)) q1=some (.lst (((scL ((cf ys (ys.length-1)).natAbs:Int) (aT xs ys i).1).set (xs.length+1-ys.length-1-i) (sg (cf ys (ys.length-1))*cf (aT xs ys i).2 ((aT xs ys i).2.length-1))).map V.int)):=au;generalize upd H2 q1 (.lst (((scL ((cf ys (ys.length-1)).natAbs:Int) (aT xs ys i).1).set (xs.length+1-ys.length-1-i) (sg (cf ys (ys.length-1))*cf (aT xs ys i).2 ((aT xs ys i).2.length-1))).map V.int))=H3 at sm3 hr3 hq3 ⊢
   refine⟨_,rfl,_,rfl,r,_,_,rfl,hr3,by rw[lr];omega,hs.mono hnb,br.mono bi,λr1 H5 sm5 hr1 er1=>?_⟩;have sm35:=sm3.trans sm5;refine⟨_,rfl,_,rfl,_,rfl,r1,b,_,_,(xs.length+1-ys.length-1-i),sg (cf ys (ys.length-1))*cf (aT xs ys i).2 ((aT xs ys i).2.length-1),?_,er1,sm35 _ _ hB,?_,hy,(lj (br.cf _)).mono bi,by'.mono hnb,λr2 H6 sm6 hr2 er2=>?_⟩
   ·rw[<- ep];rfl
   ·rw[cv,lr];unfold bh at hi;omega
   ·have nqr2:q1≠r2:=λz=>by rw[<- z,sm5 _ _ hq3]at hr2;cases hr2
    exact⟨q1,r2,_,_,rfl,sm35.trans sm6,fq1,sm35.free hr2,nqr2,sm6 _ _ (sm5 _ _ hq3),er2⟩
  ·rintro σ' H' ⟨q,r,z8,z9,rfl,sm,fq,fr,nqr,hq',hr'⟩;refine⟨_,rfl,_,rfl,_,rfl,r,_,rfl,SqL.of hr',λr1 H2 sm2 hr1 er1=>⟨by show 3<=sizeLine;decide,λt ht=>?_⟩⟩;have nqr1:q≠r1:=λz=>by rw[<- z,hq']at hr1;cases hr1
   have ntq:q≠t:=aW (sm2 _ _ hq') ht;have ntr:r1≠t:=aW er1 ht;refine k t q r1 _ ((sm.trans sm2).then_new ht) ((sm.trans sm2).free ht) fq (sm.free hr1) nqr1 ntq ntr au ?_ ?_
   ·rw[upd_ne ntq];exact sm2 _ _ hq'
   ·rw[upd_ne ntr];exact er1
def Vp(C:Addr)(H:Hp)(vs:List V)(a r:Addr)(ns:List Int)(t b:Int):Prop:=vs=[.ref a,.ref r]/\H a=some (.lst (ns.map V.int))/\RA C H r t b/\ns.length<=20/\AllB 95000 ns/\Bits 3000 t/\Bits 3000 b
def VpI(H:Hp)(vs:List V)(a:Addr)(ns:List Int)(t b:Int):Prop:=vs=[.ref a,.int t,.int b]/\H a=some (.lst (ns.map V.int))/\ns.length<=20/\AllB 95000 ns/\Bits 3000 t/\Bits 3000 b
def wX:Sp:=λvs H Q _=>∃(a:Addr) (ns:List Int) (t b:Int),VpI H vs a ns t b/\∀(p:Addr) (H':Hp),Same H H'->H p=none->H' p=some (.tup [.int (hv t b ns),.int (b^ns.length)])->Q (.ref p) H'
theorem AC{t b:Int}(bt:Bits 3000 t)(bb:Bits 3000 b):∀{l:List Int},AllB 95000 l->Bits (95000+1+(3000+1)*l.length) (hv t b l)
 | [],_=>by refine Bits.mono (j:=1) ?_ (by omega);show(0:Int).natAbs<2^1;decide
 |v::l,h=>by
  rw[dP];have h1:=h v (PU ..);have h2:=AC bt bb (l:=l) λx hx=>h x (PP _ hx)
  have e1:=(h1.mul (jk bb (l.length+1))).mono (k:=95000+1+(3000+1)*l.length+3000) (by omega);have e2:=(bt.mul h2).mono (k:=95000+1+(3000+1)*l.length+3000) (by omega);exact(e1.add e2).mono (by rw[Qw];omega)
theorem FN(F:Fun K "value_parts" "value_parts" qz f fd)(T:Txt K mg):FnOk P w K mg base CX0 1 f fd ["row","top","bottom"] wX:=by
 refine F.ok sc_value_parts (λvs H Q E h=>?_) (λcdv A outer s H vs Q E hr h=>?_)
 ·obtain⟨a,ns,t,b,⟨rfl,_⟩,_⟩:=h;rfl
 ·obtain⟨a,ns,t,b,⟨rfl,hA,hn,hb,bt,bb⟩,k⟩:=h
  refine⟨_,(ag (ak (i:=3) sc_value_parts.nd rfl (Or.inl rfl) ad)
   (ag (ak (i:=4) sc_value_parts.nd rfl (Or.inl rfl) ad)
   (ag (cV PassesOwn.never rfl (sQ rfl T.reversed_ (aa (pv 0) ac)) (aS (i:=5) sc_value_parts.nd rfl (Or.inl rfl))
     (ag (ak (i:=4) sc_value_parts.nd rfl (Or.inl rfl) (aj aK (pv 4) (pv 2)))
       (al (ak (i:=3) sc_value_parts.nd rfl (Or.inl rfl) (aj aY (aj aK (pv 3) (pv 1)) (aj aK (pv 5) (pv 4)))))))
   (al (aC (db (aa (pv 3) (aa (pv 4) ac)))))))),?_⟩
  have hl:(ns.map V.int).length=ns.length:=PC _;refine av ?_;refine av ?_;refine⟨_,rfl,a,_,rfl,SqL.of hA,ul (K:=K) (a:=a) (xs:=ns.map V.int) (λi σ' H'=>∃z:Option V,σ'=[some (.ref a),some (.int t),some (.int b),some (.int (hv t b (ns.drop (ns.length-i)))),some (.int (b^i)),z]/\H=H') ⟨none,?_,rfl⟩ ?_ ?_ ?_⟩
  ·rw[QV,List.drop_length,QO];rfl
  ·rintro i σ' H' _ ⟨z,rfl,rfl⟩;exact SqL.of hA
  ·rintro i x σ' H' hi hx ⟨z,rfl,rfl⟩;rw[hl]at hi hx;obtain⟨c,ec,rfl,hc,_⟩:=fO hx;have hi':i<ns.length:=hi;have e1:ns.length-(i+1)=ns.length-1-i:=by omega
   have hd:=KO t b (l:=ns) (n:=ns.length-1-i) (by omega);have e2:ns.length-1-i+1=ns.length-i:=by omega
   have e3:ns.length-(ns.length-1-i)=i+1:=by omega
   rw[e2,e3,uY ec]at hd;have bs:=AC bt bb (l:=ns.drop (ns.length-i)) λx hx=>hb x (So hx)
   rw[Rk]at bs;have bp:=jk bb i;have bq:=jk bb (i+1);refine⟨_,rfl,_,rfl,_,_,rfl,rfl,⟨bp.mono (by omega),bb.mono⟩,?_⟩;refine⟨_,rfl,_,rfl,_,_,rfl,rfl,⟨bs.mono (by omega),bt.mono⟩,_,rfl,_,rfl,_,_,rfl,rfl,⟨(hb c hc).mono,?_⟩,_,_,rfl,rfl,?_⟩
   ·show Bits 1000000 (b^i*b);rw[<- Ql];exact bq.mono (by omega)
   refine⟨some (.int c),?_,rfl⟩;rw[e1,hd,Ql b i,Int.add_comm,P9 t];rfl
  ·rintro σ' H' ⟨z,rfl,rfl⟩;rw[hl,Rp,Rw];exact⟨_,rfl,_,rfl,by show 2<=sizeLine;decide,λp hp=>k p _ (Same.upd_new hp) hp au⟩
inductive kW(C:Addr)(vs:List V)(H:Hp)(Q:VK)(E:XK):Prop
 |mk (a r:Addr) (ns:List Int) (t b:Int):Vp C H vs a r ns t b->(∀H',Same H H'->Q (.int (sg (hv t b ns))) H')->kW C vs H Q E
theorem FX(F:Fun K "sign_at" "sign_at" qJ f fd)(T:Txt K mg)(R:RCI K mg C)(MY:Cal P w K mg base 1 "value_parts" ["row","top","bottom"] wX OK NX)(jA:Cal P w K mg base 1 "whole_sign" ["value"] kU uE ut):FnOk P w K mg base CX0 2 f fd ["row","ratio"] (kW C):=by
 obtain⟨Mm,HJ,IT,Lu⟩:=MY;obtain⟨ju,iR,iY,jl⟩:=jA;refine F.ok DZ (λvs H Q E h=>?_) (λcdv A outer s H vs Q E hr h=>?_)
 ·obtain⟨a,r,ns,t,b,⟨rfl,_⟩,_⟩:=h;rfl
 ·obtain⟨a,r,ns,t,b,hV,k⟩:=h;obtain⟨rfl,hA,⟨dx,hR⟩,hn,hbs,bt,bb⟩:=hV;refine⟨_,(al (aC (aq ju (hr.mono) rfl iR iY jl .nil ai (aa (aE (aM (K:=K) rfl) (aq Mm (hr.mono) rfl HJ IT Lu .nil ai (aa (pv 0) (aa (aN (K:=K) rfl (pv 1) rfl) (aa (aN (K:=K) rfl (pv 1) rfl) ac)))) ad (λ_ _=>rfl)) ac)))),?_⟩;refine⟨_,rfl,_,rfl,r,C,dx,_,_,rfl,hR,R.cl,R.nT,c8 _ _,_,rfl,r,C,dx,_,_,rfl,hR,R.cl,R.nB,ca _ _,a,ns,t,b,⟨rfl,hA,hn,hbs,bt,bb⟩,λp H1 s1 hp e1=>?_⟩;exact⟨p,_,_,_,rfl,rfl,SqT.of e1,rfl,_,rfl,k H1 s1⟩
theorem b60:Bits 200 (10^60):=by show((10:Int)^60).natAbs<2^200;decide +kernel
theorem B8{xs:List V}{n:Int}(hn:n=xs.length)(h:0<n)(c:Int):∃v,v∈xs/\atI xs (c%n)=some v:=by
 have h1:=R8 c (Qo h);have h2:=RO c h;obtain⟨j,hj⟩:=RV h1;have hl:j<xs.length:=by omega
 refine⟨xs[j],Ro hl,?_⟩;rw[hj];exact kC (by simp[hl])
def Fit(one other:List Int):Prop:=Tr one/\Tr other/\∃n,AllB n one/\AllB n other/\(one.length+2)*(n+1)<=1000000/\other.length<=1000000
noncomputable def Run:Nat->List Int->List Int->Prop
 |0,one,_=>one=[]
 |n+1,one,other=>one=[]\/(Fit one other/\Run n other (nxt one other))
def zH(H:Hp)(Q:VK)(xss:List (List Int)):Prop:=∀(l:Addr) (ps:List Addr) (H':Hp),Same H H'->H l=none->(∀p∈ps,H p=none/\p≠l)->H' l=some (.lst (ps.map V.ref))->RwH H' ps xss->Q (.ref l) H'
theorem RwH.upd_ne{H:Hp}{ps:List Addr}{xss:List (List Int)}{a:Addr}{o:HO}(h:RwH H ps xss)(hn:∀p∈ps,p≠a):RwH (upd H a o) ps xss:=⟨h.1,λi p xs e1 e2=>by rw[L2.upd_ne (hn p (List.mem_of_getElem? e1))];exact h.2 i p xs e1 e2⟩
inductive xj(vs:List V)(H:Hp)(Q:VK)(E:XK):Prop
 |mk (a b:Addr) (xs ys:List Int) (n:Nat):vs=[.ref a,.ref b]->H a=some (.lst (xs.map V.int))->H b=some (.lst (ys.map V.int))->Tr xs->Tr ys->xs.length<=1000->ys.length<=1000->n<=1000->Run n (ar xs) (ar ys)->zH H Q (bT n (ar xs) (ar ys))->xj vs H Q E
theorem Gd(F:Fun K "row_from" "row_from" qO f fd)(T:Txt K mg)(vO:Cal P w K mg base 33 "shrunk" ["row"] pY Kt Kd)(jD:Cal P w K mg base 2 "divided" ["first","second"] kY uH uz)(M5:Cal P w K mg base 2 "taken" ["first","second"] (nM K cP) OM NZ):FnOk P w K mg base CX0 34 f fd ["first","second"] xj:=by
 obtain⟨mT,mf,mr,mN⟩:=vO;obtain⟨jx,iU,i7,jo⟩:=jD;obtain⟨Mo,HL,IV,Lx⟩:=M5;refine F.ok sc_row_from (λvs H Q E h=>?_) (λcdv A outer s H vs Q E hr h=>?_)
 ·obtain⟨a,b,xs,ys,n,rfl,_⟩:=h;rfl
 ·obtain⟨a,b,xs,ys,n,rfl,hA,hB,xtr,ytr,hx,hy,hn,hrun,k⟩:=h;have big:=sizeLine_eq;have hu:=hr.units
  refine⟨_,(ag (ak (i:=2) sc_row_from.nd rfl (Or.inl rfl) (aX ac))
   (ag (ak (i:=3) sc_row_from.nd rfl (Or.inl rfl) (aq mT (hr.mono) rfl mf mr mN .nil ai (aa (pv 0) ac)))
   (ag (ak (i:=4) sc_row_from.nd rfl (Or.inl rfl) (aq mT (hr.mono) rfl mf mr mN .nil ai (aa (pv 1) ac)))
   (ag (fc PassesOwn.never (aH (lX (K:=K) rfl hu) (pv 3) (aX ac) (aG _))
     (ag (fe (gB PySem.F.plainAttrs_list PySem.F.slot_list_append PySem.F.type_list_append gE (pv 2) (aa (pv 3) ac)))
       (ag (ak (i:=5) sc_row_from.nd rfl (Or.inl rfl) (oo (aH (j1 (K:=K) rfl hu) (pv 4) (aX ac) (aG _)) (aX ac) (aE (aM (K:=K) rfl) (aq jx (hr.mono) rfl iU i7 jo .nil ai (aa (pv 3) (aa (pv 4) ac))) ad (λ_ _=>rfl))))
       (ag (ak (i:=3) sc_row_from.nd rfl (Or.inl rfl) (pv 4))
       (al (ak (i:=4) sc_row_from.nd rfl (Or.inl rfl) (aq mT (hr.mono) rfl mf mr mN .nil ai (aa (aq Mo (hr.mono) rfl HL IV Lx .nil ai (aa (aX ac) (aa (pv 5) ac))) ac))))))))
   (al (aC (pv 2))))))),?_⟩
  refine av ⟨PK _,λl hl=>?_⟩;have s1:=Same.upd_new (o:=.lst []) hl;have hl1:upd H l (.lst []) l=some (.lst (([]:List Addr).map V.ref)):=au;generalize upd H l (.lst [])=H1 at s1 hl1 ⊢
  refine av ⟨_,rfl,a,xs,rfl,s1 _ _ hA,xtr,by omega,λp1 H2 sm2 hp1 e1=>?_⟩;have s2:=s1.trans sm2;refine av ⟨_,rfl,b,ys,rfl,s2 _ _ hB,ytr,by omega,λp2 H3 sm3 hp2 e2=>?_⟩;have s3:=s2.trans sm3;have n1l:p1≠l:=λz=>by rw[z,hl1]at hp1;cases hp1
  have n2l:p2≠l:=λz=>by rw[z,sm2 _ _ hl1]at hp2;cases hp2
  generalize ar xs=one' at hrun k e1
  generalize ar ys=other at hrun k e2
  refine⟨λm σ' H'=>∃(po pt:Addr) (one other':List Int) (ps:List Addr) (acc:List (List Int)) (z5:Option V),σ'=[some (.ref a),some (.ref b),some (.ref l),some (.ref po),some (.ref pt),z5]/\Same H H'/\H' l=some (.lst (ps.map V.ref))/\RwH H' ps acc/\(∀p∈ps,H p=none/\p≠l)/\H' po=some (.lst (one.map V.int))/\H' pt=some (.lst (other'.map V.int))/\H po=none/\H pt=none/\po≠l/\pt≠l/\Run m one other'/\acc++bT m one other'=bT n one' other/\ps.length+m<=1000,
   ⟨_,p1,p2,one',other,[],[],none,rfl,s3,sm3 _ _ (sm2 _ _ hl1),RwH.nil,(λp hp=>nomatch hp),sm3 _ _ e1,e2,s1.free hp1,s2.free hp2,n1l,n2l,hrun,rfl,by show 0+n<=1000;omega⟩,?_⟩
  rintro m σ' H4 ⟨po,pt,one,other',ps,acc,z5,rfl,s4,hl4,hR4,hf4,ho4,ht4,fo,ft,nol,ntl,hrun4,hacc,hlen⟩;refine⟨_,rfl,PK _,λq hq=>?_⟩;have t5:=Same.upd_new (o:=.lst []) hq;refine⟨po,q,one,[],rfl,rfl,SqL.of (t5 _ _ ho4),SqL.of au,_,rfl,da (λhne=>?_) (λhe=>?_)⟩
  rotate_left
  ·have he':one=[]:=he;subst he';rw[lv,List.append_nil]at hacc;refine⟨_,rfl,k l ps _ (s4.trans t5) hl hf4 (t5 _ _ hl4) ?_⟩;rw[<- hacc];exact hR4.same t5
  have hne':one≠[]:=hne
  obtain⟨m1,rfl⟩:∃m1,m=m1+1:=by
   cases m with
   |zero=>exact absurd hrun4 hne'
   |succ m1=>exact⟨m1,rfl⟩
  obtain⟨⟨otr,ttr,nb,bo,bt,hsz,htl⟩,hrun5⟩:=(show one=[]\/(Fit one other'/\Run m1 other' (nxt one other'))from hrun4).resolve_left hne'
  have hacc5:(acc++[one])++bT m1 other' (nxt one other')=bT n one' other:=by rw[<- hacc];show _=acc++(if one=[]then[]else one::bT m1 other' (nxt one other'));rw[if_neg hne',Sb];rfl
  generalize hH5:upd H4 q (.lst [])=H5 at t5 ⊢
  refine⟨λσ'' H''=>∃m',m'<m1+1/\∃(po pt:Addr) (one other':List Int) (ps:List Addr) (acc:List (List Int)) (z5:Option V),σ''=[some (.ref a),some (.ref b),some (.ref l),some (.ref po),some (.ref pt),z5]/\Same H H''/\H'' l=some (.lst (ps.map V.ref))/\RwH H'' ps acc/\(∀p∈ps,H p=none/\p≠l)/\H'' po=some (.lst (one.map V.int))/\H'' pt=some (.lst (other'.map V.int))/\H po=none/\H pt=none/\po≠l/\pt≠l/\Run m' one other'/\acc++bT m' one other'=bT n one' other/\ps.length+m'<=1000,λ_ _ h=>h,?_⟩;have hl5:=t5 _ _ hl4;refine gt ⟨_,rfl,.inl ⟨rfl,_,SqL.of hl5⟩,_,rfl,l,_,_,rfl,rfl,hl5,by rw[PC];omega,?_⟩;rw[HD];have s6:Same H (upd H5 l (.lst ((ps++[po]).map V.ref))):=eo (s4.trans t5) hl;have hl6:upd H5 l (.lst ((ps++[po]).map V.ref)) l=some (.lst ((ps++[po]).map V.ref)):=au
  have hf6:∀p∈ps++[po],H p=none/\p≠l:=λp hp=>by
   rcases Qh.mp hp with h |h
   ·exact hf4 p h
   ·rw[PQ.mp h];exact⟨fo,nol⟩
  have hR6:RwH (upd H5 l (.lst ((ps++[po]).map V.ref))) (ps++[po]) (acc++[one]):=((hR4.same t5).snoc (t5 _ _ ho4)).upd_ne λp hp=>(hf6 p hp).2
  have ho6:upd H5 l (.lst ((ps++[po]).map V.ref)) po=some (.lst (one.map V.int)):=by rw[L2.upd_ne nol];exact t5 _ _ ho4
  have ht6:upd H5 l (.lst ((ps++[po]).map V.ref)) pt=some (.lst (other'.map V.int)):=by rw[L2.upd_ne ntl];exact t5 _ _ ht4
  generalize upd H5 l (.lst ((ps++[po]).map V.ref))=H6 at s6 hl6 hR6 ho6 ht6 ⊢
  refine EH (λσ' H'=>∃pr:Addr,σ'=[some (.ref a),some (.ref b),some (.ref l),some (.ref po),some (.ref pt),some (.ref pr)]/\Same H6 H'/\H' pr=some (.lst ((rst one other').map V.int))) ?_ ?_
  case refine_2 =>
   intro rest;refine cD (EG ⟨_,rfl,PK _,λq2 hq2=>?_⟩);have t7:=Same.upd_new (o:=.lst []) hq2;refine⟨pt,q2,other',[],rfl,rfl,SqL.of (t7 _ _ ht6),SqL.of au,_,rfl,aP (λh0=>?_) (λh0=>?_)⟩
   ·have h0':other'=[]:=h0;refine⟨PK _,λq3 hq3=>rest _ _ ⟨q3,rfl,t7.then_new hq3,?_⟩⟩;rw[au];unfold rst;rw[if_pos h0'];rfl
   ·have h0':other'≠[]:=h0;refine⟨_,rfl,_,rfl,po,pt,one,other',nb,rfl,t7 _ _ ho6,t7 _ _ ht6,h0',bo,bt,hsz,htl,λt q' r H8 sm8 _ _ _ _ _ _ et _ er=>?_⟩;refine⟨t,_,_,_,rfl,rfl,SqT.of et,rfl,rest _ _ ⟨r,rfl,t7.trans sm8,?_⟩⟩;rw[er];unfold rst;rw[if_neg h0']
  rintro σ' H8 ⟨pr,rfl,t8,hr8⟩;refine av ⟨_,rfl,?_⟩;refine cD ⟨PK _,λq hq=>?_⟩;have t9:=t8.then_new (o:=.lst []) hq
  have hrl:(rst one other').length<=1000000:=by
   unfold rst;split
   ·exact PK _
   ·rename_i h0
    have:=gM (a:=one) h0;omega
  refine⟨_,rfl,q,pr,[],rst one other',rfl,SqL.of au,SqL.of (by rw[L2.upd_ne (aW hr8 hq)];exact hr8),PK _,hrl,λp9 H9 sm9 hp9 e9=>?_⟩;have hsl:(cP [] (rst one other')).length<=1000000:=PX (tN _) (by unfold eG;rw[PC,Q5];exact Nat.max_le.mpr ⟨PK _,hrl⟩);refine⟨p9,_,rfl,e9,fX _,hsl,λp10 H10 sm10 hp10 e10=>?_⟩;have t10:Same H6 H10:=(t9.trans sm9).trans sm10;have f10:H6 p10=none:=(t9.trans sm9).free hp10;refine⟨m1,Q1 _,pt,p10,other',nxt one other',ps++[po],acc++[one],_,rfl,s6.trans t10,t10 _ _ hl6,hR6.same t10,hf6,t10 _ _ ht6,e10,ft,s6.free f10,ntl,(λz=>by rw[z,hl6]at f10;cases f10),hrun5,hacc5,by rw[Qi];show ps.length+1+m1<=1000;omega⟩
inductive nE(vs:List V)(H:Hp)(Q:VK)(E:XK):Prop
 |mk (a:Addr) (xs:List Int) (n:Nat):vs=[.ref a]->H a=some (.lst (xs.map V.int))->Tr xs->AllB 90000 xs->xs.length<=1000->n<=1000->Run n (ar xs) (ar (slopeL xs))->zH H Q (bT n (ar xs) (ar (slopeL xs)))->nE vs H Q E
theorem wq{xs:List Int}(h:Tr xs):Tr (slopeL xs):=by
 intro n hn;unfold slopeL at *
 rw[PC,Q5]at hn;rw[kq,if_pos (by omega)];exact Qe (by omega) (h (n+1) (by omega))
theorem Gc(F:Fun K "row_of" "row_of" qN f fd)(T:Txt K mg)(Nc:Cal P w K mg base 34 "row_from" ["first","second"] xj OT N7)(vN:Cal P w K mg base 1 "slope" ["row"] (sp1 slopeL) Ks Kc):FnOk P w K mg base CX0 35 f fd ["polynomial"] nE:=by
 obtain⟨Mu,HS,I9,LE⟩:=Nc;obtain⟨vD,tF,tV,vh⟩:=vN;refine F.ok D3 (λvs H Q E h=>?_) (λcdv A outer s H vs Q E hr h=>?_)
 ·obtain⟨a,xs,n,rfl,_⟩:=h;rfl
 ·obtain⟨a,xs,n,rfl,hA,xtr,bx,hx,hn,hrun,k⟩:=h;refine⟨_,(al (aC (aq Mu (hr.mono) rfl HS I9 LE .nil ai (aa (pv 0) (aa (aq vD (hr.mono) rfl tF tV vh .nil ai (aa (pv 0) ac)) ac))))),?_⟩;refine bj ⟨_,rfl,_,rfl,a,xs,rfl,hA,by omega,bx.mono,λp H1 s1 hp e1=>?_⟩;have hsl:(slopeL xs).length<=1000:=by unfold slopeL;rw[PC,Q5];omega
  exact⟨a,p,xs,slopeL xs,n,rfl,s1 _ _ hA,e1,xtr,wq xtr,hx,hsl,hn,hrun,λl ps H' sm hl hf e r=>k l ps H' (s1.trans sm) (s1.free hl) (λp hp=>⟨s1.free (hf p hp).1,(hf p hp).2⟩) e r⟩
noncomputable def sgs(t b:Int)(xss:List (List Int)):List Int:=xss.map λp=>sg (hv t b p)
inductive qf(C:Addr)(vs:List V)(H:Hp)(Q:VK)(E:XK):Prop
 |mk (l r:Addr) (ps:List Addr) (xss:List (List Int)) (t b:Int):vs=[.ref l,.ref r]->H l=some (.lst (ps.map V.ref))->RwH H ps xss->RA C H r t b->Bits 3000 t->Bits 3000 b->(∀xs∈xss,xs.length<=20/\AllB 95000 xs)->xss.length<=1000000->(∀H',Same H H'->Q (.int (chS (sgs t b xss)).1) H')->qf C vs H Q E
theorem DF(t b:Int)(xss:List (List Int)):∀s∈sgs t b xss,s.natAbs<=1:=λs hs=>by obtain⟨x,_,rfl⟩:=PV.mp hs;exact ye _
theorem DE{t b:Int}{xss:List (List Int)}{i:Nat}{xs:List Int}(h:xss[i]?=some xs):sgs t b (xss.take (i+1))=sgs t b (xss.take i)++[sg (hv t b xs)]:=by unfold sgs;rw[QI,h,Qk];rfl
theorem zc{x:Int}(h:x.natAbs<=1):Bits 1000000 x:=Bits.mono (j:=1) (Rc h (by decide)) (by decide)
theorem GK(F:Fun K "changes" "changes" rH f fd)(T:Txt K mg)(R:RCI K mg C)(jB:Cal P w K mg base 2 "sign_at" ["row","ratio"] (kW C) uF uv):FnOk P w K mg base CX0 3 f fd ["row","ratio"] (qf C):=by
 obtain⟨jv,iS,iZ,jm⟩:=jB;refine F.ok sc_changes (λvs H Q E h=>?_) (λcdv A outer s H vs Q E hr h=>?_)
 ·obtain⟨l,r,ps,xss,t,b,rfl,_⟩:=h;rfl
 ·obtain⟨l,r,ps,xss,t,b,rfl,hL,hR,hRA,bt,bb,hb,hn,k⟩:=h
  refine⟨_,(ag (ak (i:=2) sc_changes.nd rfl (Or.inl rfl) ad)
   (ag (ak (i:=3) sc_changes.nd rfl (Or.inl rfl) ad)
   (ag (cV PassesOwn.never rfl (fH (K:=K) rfl (pv 0)) (aS (i:=4) sc_changes.nd rfl (Or.inl rfl))
     (ag (ak (i:=5) sc_changes.nd rfl (Or.inl rfl) (aq jv (hr.mono) rfl iS iZ jm .nil ai (aa (pv 4) (aa (pv 1) ac))))
       (ag (aR (aH dH (aj aK (pv 5) (pv 3)) ad (aG _))
         (al (ak (i:=2) sc_changes.nd rfl (Or.inl rfl) (aj aY (pv 2) ad)))
         aU)
       (al (aR (aH f8 (pv 5) ad (aG _))
         (al (ak (i:=3) sc_changes.nd rfl (Or.inl rfl) (pv 5)))
         aU)))))
   (al (aC (pv 2)))))),?_⟩
  have hpl:(ps.map V.ref).length=xss.length:=by rw[PC,hR.1]
  refine av ?_;refine av ?_;refine⟨_,rfl,l,rfl,⟨_,SqL.of hL⟩,o1 (K:=K) (a:=l) (xs:=ps.map V.ref) (λi σ' H'=>∃(z4 z5:Option V),σ'=[some (.ref l),some (.ref r),some (.int (chS (sgs t b (xss.take i))).1),some (.int (chS (sgs t b (xss.take i))).2),z4,z5]/\Same H H') ⟨none,none,rfl,λ_ _ e=>e⟩ ?_ ?_ ?_⟩
  ·rintro i σ' H' _ ⟨z4,z5,rfl,sm⟩;exact SqL.of (sm _ _ hL)
  ·rintro i x σ' H1 hi ⟨z4,z5,rfl,s1⟩;obtain⟨p,xs,rfl,ep,ex,hp,hlt⟩:=hR.of_get hi;obtain⟨hx1,hx2⟩:=hb xs (List.mem_of_getElem? ex);show cI (iB _ (jc 5)) _ _ _ _;refine av ⟨_,rfl,_,rfl,p,r,xs,t,b,⟨rfl,s1 _ _ hp,hRA.same s1,hx1,hx2,bt.mono,bb.mono⟩,λH2 sm2=>?_⟩;have s2:=s1.trans sm2;obtain⟨c1,c2,c3⟩:=Lf _ (DF t b (xss.take i));rw[DE ex,BF];have hs:=ye (hv t b xs);generalize sg (hv t b xs)=s at hs ⊢
   generalize chS (sgs t b (xss.take i))=z at c1 ⊢
   obtain⟨m,bf⟩:=z;dsimp only
   refine dN (λσ' H'=>σ'=[some (.ref l),some (.ref r),some (.int (if s*bf<0 then m+1 else m)),some (.int bf),some (.ref p),some (.int s)]/\H2=H') ?_ ?_
   case refine_2 =>
    intro rest;refine⟨_,rfl,_,rfl,_,_,rfl,rfl,⟨zc hs,zc c1⟩,_,_,rfl,rfl,_,rfl,aP (λh1=>?_) (λh1=>?_)⟩
    ·refine cD ⟨_,rfl,_,_,rfl,rfl,rest _ _ ⟨?_,rfl⟩⟩;rw[if_pos h1];rfl
    ·refine rest _ _ ⟨?_,rfl⟩;rw[if_neg h1];rfl
   rintro σ' H' ⟨rfl,rfl⟩;refine⟨_,rfl,_,_,rfl,rfl,_,rfl,da (λh1=>?_) (λh1=>?_)⟩
   ·refine cD ⟨_,rfl,some (.ref p),some (.int s),?_,s2⟩;unfold chF;have h1':¬s=0:=h1;rw[if_neg h1'];rfl
   ·refine⟨some (.ref p),some (.int s),?_,s2⟩;unfold chF;have h1':s=0:=h1;rw[if_pos h1']
  ·rintro σ' H' ⟨z4,z5,rfl,sm⟩;rw[hpl,QU];exact⟨_,rfl,k H' sm⟩
inductive qe(C:Addr)(vs:List V)(H:Hp)(Q:VK)(E:XK):Prop
 |mk (l r r2:Addr) (ps:List Addr) (xss:List (List Int)) (t b t2 b2:Int):vs=[.ref l,.ref r,.ref r2]->H l=some (.lst (ps.map V.ref))->RwH H ps xss->RA C H r t b->RA C H r2 t2 b2->Bits 3000 t->Bits 3000 b->Bits 3000 t2->Bits 3000 b2->(∀xs∈xss,xs.length<=20/\AllB 95000 xs)->xss.length<=1000000->(∀H',Same H H'->Q (.int ((chS (sgs t b xss)).1-(chS (sgs t2 b2 xss)).1)) H')->qe C vs H Q E
theorem GH(F:Fun K "count" "count" rE f fd)(T:Txt K mg)(R:RCI K mg C)(vV:Cal P w K mg base 3 "changes" ["row","ratio"] (qf C) Kz Kj):FnOk P w K mg base CX0 4 f fd ["row","low","high"] (qe C):=by
 obtain⟨kJ,ka,ke,ky⟩:=vV;refine F.ok Ea (λvs H Q E h=>?_) (λcdv A outer s H vs Q E hr h=>?_)
 ·obtain⟨l,r,r2,ps,xss,t,b,t2,b2,rfl,_⟩:=h;rfl
 ·obtain⟨l,r,r2,ps,xss,t,b,t2,b2,rfl,hL,hR,h1,h2,bt,bb,bt2,bb2,hb,hn,k⟩:=h;refine⟨_,(al (aC (aj cq (aq kJ (hr.mono) rfl ka ke ky .nil ai (aa (pv 0) (aa (pv 1) ac))) (aq kJ (hr.mono) rfl ka ke ky .nil ai (aa (pv 0) (aa (pv 2) ac)))))),?_⟩;refine bj ⟨_,rfl,_,rfl,l,r,ps,xss,t,b,rfl,hL,hR,h1,bt,bb,hb,hn,λH1 s1=>?_⟩;refine⟨_,rfl,_,rfl,l,r2,ps,xss,t2,b2,rfl,s1 _ _ hL,hR.same s1,h2.same s1,bt2,bb2,hb,hn,λH2 s2=>?_⟩;exact⟨_,_,rfl,rfl,k _ (s1.trans s2)⟩
theorem mR(i:Int):(if i<0 then -i else i)=(i.natAbs:Int):=by split<;>omega
theorem Ma{l:List Int}(h:l≠[]):atI (l.map V.int) (-1)=some (.int (ao l)):=by obtain⟨r,x,rfl⟩:=(cZ l).resolve_left h;rw[dM,Qk];exact vy _ _
theorem KY{l:List Int}:gj l none (some (-1))=l.take (l.length-1):=by
 unfold gj;rw[HT.sIx_none]
 have e:HT.sIx l.length l.length (some (-1))=l.length-1:=by unfold HT.sIx;simp;omega
 rw[e,Rw,QV]
def isB(os:List Int)(l k:Nat):Prop:=(∀x∈os,x.natAbs<=(2^k-1)*l)/\∀j,j<k->∃x∈os,(2^j-1)*l<x.natAbs
def nJ(K:PySem.W.Frag):Sp:=λvs H Q _=>∃(a:Addr) (ns:List Int),vs=[.ref a]/\SqL K H a (ns.map V.int)/\Tr ns/\ns≠[]/\ns.length<=100000/\AllB 100000 ns /\
 ∀(k:Nat) (H':Hp),k<=100000->isB (ns.take (ns.length-1)) (ao ns).natAbs k->Same H H'->Q (.int ((2^k:Nat):Int)) H'
theorem EY{os:List Int}{F:Int->Prop}(h:∀g:Nat,(∀x∈os,x.natAbs<=g)->(g=0\/∃x∈os,x.natAbs=g)->F g) :
 (∀M,M∈os.map (λx=>(x.natAbs:Int))->(∀a∈os.map (λx=>(x.natAbs:Int)),a<=M)->F M)/\(os.map (λx=>(x.natAbs:Int))=[]->F 0):=by
 constructor
 ·intro M hM ha;obtain⟨x,hx,rfl⟩:=PV.mp hM;exact h x.natAbs (λy hy=>Int.ofNat_le.mp (ha _ (PV.mpr ⟨y,hy,rfl⟩))) (.inr ⟨x,hx,rfl⟩)
 ·intro e;have:os=[]:=List.map_eq_nil_iff.mp e;subst this;exact h 0 (λx hx=>nomatch hx) (.inl rfl)
theorem GM(F:Fun K "bound" "bound" rK f fd)(T:Txt K mg):FnOk P w K mg base CX0 1 f fd ["row"] (nJ K):=by
 refine F.ok sc_bound (λvs H Q E h=>?_) (λcdv A outer s H vs Q E hr h=>?_)
 ·obtain⟨a,ns,rfl,_⟩:=h;rfl
 ·obtain⟨a,ns,rfl,hA,ht,hne,hn,hb,k⟩:=h;have big:=sizeLine_eq
  refine⟨_,(ag (ak (i:=1) sc_bound.nd rfl (Or.inl rfl) (bz fv (by rfl) T.abs_ PyProof.Rows.boot_abs (aa (aE (b5 (K:=K) rfl) (pv 0) (bK bJ ad) (λ_ _=>rfl)) ac)))
   (ag (ak (i:=2) sc_bound.nd rfl (Or.inl rfl) (Fy (K:=K) rfl rfl (by rfl) T.max_ (fI (own:=["value"]) (fr:=[]) (js:=[]) (by walk_at "comp_ok") rfl (fH (K:=K) rfl (iM (iD (K:=K) rfl) (pv 0) iL (iK (bK bJ ad)))) (λ_ _ _ _=>(aS (i:=0) (show List.Nodup (["value"]:List Str)from by decide +kernel) rfl (Or.inl rfl))) (λ_ _ _ _=>(bz fv (by rfl) T.abs_ PyProof.Rows.boot_abs (aa (pv 0) ac)))) ad))
   (ag (ak (i:=3) sc_bound.nd rfl (Or.inl rfl) ad)
   (ag (fc PassesOwn.never (aH dH (aj aK (aj cq (pv 3) ad) (pv 1)) (pv 2) (aG _))
     (al (ak (i:=3) sc_bound.nd rfl (Or.inl rfl) (aj aK ad (pv 3)))))
   (al (aC (pv 3))))))),?_⟩
  refine av ⟨_,rfl,_,rfl,a,_,_,_,rfl,rfl,hA,Ma hne,_,rfl,?_⟩;rw[mR]
  have hl0:ao ns≠0:=by obtain⟨r,x,rfl⟩:=(cZ ns).resolve_left hne;rw[dM];exact tr_snoc.mp ht
  generalize hL:(ao ns).natAbs=L at k ⊢
  have hL1:1<=L:=by omega
  have bL:Bits 100000 (L:Int):=by obtain⟨r,x,rfl⟩:=(cZ ns).resolve_left hne;rw[dM]at hL;exact(hb x (by simp)).of_le (by omega)
  refine av ⟨_,rfl,_,rfl,_,rfl,a,_,rfl,hA,λp1 hp1=>?_⟩;rw[mH,KY];have s1:Same H (upd H p1 (.lst ((ns.take (ns.length-1)).map V.int))):=Same.upd_new hp1;have q1:upd H p1 (.lst ((ns.take (ns.length-1)).map V.int)) p1=some (.lst ((ns.take (ns.length-1)).map V.int)):=au;generalize hO:ns.take (ns.length-1)=os at k s1 q1 ⊢
  generalize upd H p1 (.lst (os.map V.int))=H1 at s1 q1 ⊢
  have bO:AllB 100000 os:=λx hx=>hb x (Sq (hO ▸ hx))
  have lO:os.length<=100000:=by rw[<- hO,QB];omega
  refine⟨p1,rfl,⟨_,SqL.of q1⟩,jh (K:=K) (a:=p1) (xs:=os.map V.int) (λi ys σ' H'=>∃(z0:Option V),σ'=[z0]/\ys=((os.take i).map λx=>(x.natAbs:Int)).map V.int/\H1=H') (by rw[PC];omega) ⟨none,rfl,rfl,rfl⟩ ?_ ?_ ?_⟩
  ·rintro i ys σ' H' _ ⟨z0,rfl,rfl,rfl⟩;exact⟨SqL.of q1,by rw[PC,PC,QB];exact RP _ _⟩
  ·rintro i x ys σ' H' hi ⟨z0,rfl,rfl,rfl⟩;rw[List.getElem?_map]at hi;cases e:os[i]? with
   |none=>rw[e]at hi;cases hi
   |some c =>rw[e]at hi;obtain rfl:=Option.some.inj hi;refine⟨_,rfl,_,rfl,_,rfl,?_,rfl⟩;rw[QI,e,mR];simp
  ·rintro ys σ' H' p ⟨z0,rfl,rfl,rfl⟩ hp;rw[PC,QU];have s2:Same H (upd H1 p (.lst ((os.map λx=>(x.natAbs:Int)).map V.int))):=s1.then_new hp;refine⟨p,_,rfl,SqL.of au,?_⟩;generalize upd H1 p (.lst ((os.map λx=>(x.natAbs:Int)).map V.int))=H2 at s2 ⊢
   refine And.symm (EY λg hg1 hg2=>?_)
   have bg:g<2^100000:=by
    rcases hg2 with rfl |⟨x,hx,rfl⟩
    ·exact Q4 (by decide)
    ·exact bO x hx
   refine av ?_;refine⟨λm σ' H'=>∃k0:Nat,σ'=[some (.ref a),some (.int L),some (.int g),some (.int ((2^k0:Nat):Int))]/\H2=H'/\2*g+2-2^k0=m/\2^k0<=2*g+1/\∀j,j<k0->(2^j-1)*L<g,⟨_,0,rfl,rfl,rfl,by omega,λj hj=>absurd hj (R9 _)⟩,?_⟩;rintro m σ' H' ⟨k0,rfl,rfl,rfl,h2,h3⟩
   have hk0:k0<=100000:=by
    have e:2^k0<2^100001:=by rw[Rb 2 100000];omega
    have:=(Sj (a:=2) (by decide)).mp e;omega
   have hp:1<=2^k0:=Q4 (by decide)
   have bk:Bits 100002 ((2^k0:Nat):Int):=by show((2^k0:Nat):Int).natAbs<_;rw[Qq];exact(Sj (a:=2) (by decide)).mpr (by omega)
   have bk1:Bits 100002 (((2^k0:Nat):Int)-1):=bk.of_le (by omega)
   have cast:(((2^k0:Nat):Int)-1)*(L:Int)=(((2^k0-1)*L:Nat):Int):=by rw[QC,Int.natCast_sub hp];rfl
   refine⟨_,rfl,_,_,rfl,rfl,_,rfl,_,_,rfl,rfl,⟨bk1.mono,bL.mono⟩,_,rfl,_,_,rfl,rfl,_,rfl,?_⟩;rw[cast];refine aP (λhlt=>?_) (λhge=>?_)
   ·have hlt':(2^k0-1)*L<g:=by exact RQ.mp hlt
    have h4:2^k0-1<g:=Rc (Nat.le_mul_of_pos_right _ hL1) hlt';refine⟨λσ'' H''=>∃m',m'<2*g+2-2^k0/\∃k0:Nat,σ''=[some (.ref a),some (.int L),some (.int g),some (.int ((2^k0:Nat):Int))]/\H2=H''/\2*g+2-2^k0=m'/\2^k0<=2*g+1/\∀j,j<k0->(2^j-1)*L<g,λ_ _ h=>h,?_⟩;refine⟨_,rfl,_,_,rfl,rfl,⟨Bits.mono (j:=2) (by show(2:Int).natAbs<2^2;decide) (by decide),bk.mono⟩,?_⟩;have e2:(2:Int)*((2^k0:Nat):Int)=((2^(k0+1):Nat):Int):=by rw[Rb];omega
    have e3:2^(k0+1)=2*2^k0:=by rw[Rb];omega
    refine⟨2*g+2-2^(k0+1),by omega,k0+1,by rw[<- e2];rfl,rfl,rfl,by omega,λj hj=>?_⟩;by_cases ej:j=k0
    ·subst ej;exact hlt'
    ·exact h3 j (by omega)
   ·have hge':¬(2^k0-1)*L<g:=λz=>hge (RQ.mpr z)
    refine⟨_,rfl,k k0 H2 hk0 ⟨λx hx=>PX (hg1 x hx) (by omega),λj hj=>?_⟩ s2⟩;have h5:=h3 j hj;rcases hg2 with rfl |⟨x,hx,e⟩
    ·exact absurd h5 (R9 _)
    ·exact⟨x,hx,by rw[e];exact h5⟩
def vL(one other:List Int):Prop:=Tr one/\Tr other/\∃n,AllB n one/\AllB n other/\(one.length+2)*(n+1)<=1000000/\other.length<=1000000
noncomputable def kF:Nat->List Int->List Int->Prop
 |0,_,other=>other=[]
 |n+1,one,other=>other=[]\/(vL one other/\kF n other (aw (aO one other)))
inductive xM(vs:List V)(H:Hp)(Q:VK)(E:XK):Prop
 |mk (a b:Addr) (xs ys:List Int) (n:Nat):vs=[.ref a,.ref b]->H a=some (.lst (xs.map V.int))->H b=some (.lst (ys.map V.int))->Tr xs->Tr ys->xs.length<=1000->ys.length<=1000->kF n (aw xs) (aw ys)->mkL H Q (cN n (aw xs) (aw ys))->xM vs H Q E
theorem GI(F:Fun K "common" "common" rF f fd)(T:Txt K mg)(gS:Cal P w K mg base 34 "plain" ["row"] jO o4 o2)(jD:Cal P w K mg base 2 "divided" ["first","second"] kY uH uz):FnOk P w K mg base CX0 35 f fd ["first","second"] xM:=by
 obtain⟨fU,fM,fN,fT⟩:=gS;obtain⟨jx,iU,i7,jo⟩:=jD;refine F.ok sc_common (λvs H Q E h=>?_) (λcdv A outer s H vs Q E hr h=>?_)
 ·obtain⟨a,b,xs,ys,n,rfl,_⟩:=h;rfl
 ·obtain⟨a,b,xs,ys,n,rfl,hA,hB,xtr,ytr,hx,hy,hrun,k⟩:=h;have big:=sizeLine_eq;have hu:=hr.units
  refine⟨_,(ag (ak (i:=2) sc_common.nd rfl (Or.inl rfl) (aq fU (hr.mono) rfl fM fN fT .nil ai (aa (pv 0) ac)))
   (ag (ak (i:=3) sc_common.nd rfl (Or.inl rfl) (aq fU (hr.mono) rfl fM fN fT .nil ai (aa (pv 1) ac)))
   (ag (fc PassesOwn.never (aH (lX (K:=K) rfl hu) (pv 3) (aX ac) (aG _))
     (ag (ak (i:=4) sc_common.nd rfl (Or.inl rfl) (aq fU (hr.mono) rfl fM fN fT .nil ai (aa (aE (aM (K:=K) rfl) (aq jx (hr.mono) rfl iU i7 jo .nil ai (aa (pv 2) (aa (pv 3) ac))) ad (λ_ _=>rfl)) ac)))
       (ag (ak (i:=2) sc_common.nd rfl (Or.inl rfl) (pv 3))
       (al (ak (i:=3) sc_common.nd rfl (Or.inl rfl) (pv 4))))))
   (al (aC (pv 2)))))),?_⟩
  refine av ⟨_,rfl,a,xs,rfl,hA,xtr,by omega,λp1 H1 s1 hp1 e1=>?_⟩;refine av ⟨_,rfl,b,ys,rfl,s1 _ _ hB,ytr,by omega,λp2 H2 sm2 hp2 e2=>?_⟩;have s2:=s1.trans sm2;generalize aw xs=one' at hrun k e1
  generalize aw ys=other' at hrun k e2
  refine⟨λm σ' H'=>∃(po pt:Addr) (one other:List Int) (z4:Option V),σ'=[some (.ref a),some (.ref b),some (.ref po),some (.ref pt),z4]/\Same H H'/\H' po=some (.lst (one.map V.int))/\H' pt=some (.lst (other.map V.int))/\H po=none/\H pt=none/\kF m one other/\cN m one other=cN n one' other',
   ⟨_,p1,p2,one',other',none,rfl,s2,sm2 _ _ e1,e2,hp1,s1.free hp2,hrun,rfl⟩,?_⟩
  rintro m σ' H3 ⟨po,pt,one,other,z4,rfl,s3,ho,ht,fo,ft,hrun3,hcom⟩;refine⟨_,rfl,PK _,λq hq=>?_⟩;have t4:=Same.upd_new (o:=.lst []) hq;refine⟨pt,q,other,[],rfl,rfl,SqL.of (t4 _ _ ht),SqL.of au,_,rfl,da (λhne=>?_) (λhe=>?_)⟩
  rotate_left
  ·have he':other=[]:=he;subst he';rw[Bu]at hcom;refine⟨_,rfl,k po _ (s3.trans t4) fo ?_⟩;rw[<- hcom];exact t4 _ _ ho
  have hne':other≠[]:=hne
  obtain⟨m1,rfl⟩:∃m1,m=m1+1:=by
   cases m with
   |zero=>exact absurd hrun3 hne'
   |succ m1=>exact⟨m1,rfl⟩
  obtain⟨⟨otr,ttr,nb,bo,bt,hsz,htl⟩,hrun5⟩:=(show other=[]\/(vL one other/\kF m1 other (aw (aO one other)))from hrun3).resolve_left hne'
  have hcom5:cN m1 other (aw (aO one other))=cN n one' other':=by
   rw[<- hcom];show _=if other=[]then one else cN m1 other (aw (aO one other))
   rw[if_neg hne']
  generalize hH5:upd H3 q (.lst [])=H5 at t4 ⊢
  refine⟨λσ'' H''=>∃m',m'<m1+1/\∃(po pt:Addr) (one other:List Int) (z4:Option V),σ''=[some (.ref a),some (.ref b),some (.ref po),some (.ref pt),z4]/\Same H H''/\H'' po=some (.lst (one.map V.int))/\H'' pt=some (.lst (other.map V.int))/\H po=none/\H pt=none/\kF m' one other/\cN m' one other=cN n one' other',λ_ _ h=>h,?_⟩
  have hrl:(aO one other).length<=1000000:=by have:=gM (a:=one) hne';omega
  refine av ⟨_,rfl,_,rfl,po,pt,one,other,nb,rfl,t4 _ _ ho,t4 _ _ ht,hne',bo,bt,hsz,htl,λt q' r H8 sm8 _ _ _ _ _ _ et _ er=>?_⟩;refine⟨t,_,_,_,rfl,rfl,SqT.of et,rfl,r,_,rfl,er,gf _ _,hrl,λp9 H9 sm9 hp9 e9=>?_⟩;refine av ⟨_,rfl,?_⟩;refine⟨_,rfl,?_⟩;have t9:=(t4.trans sm8).trans sm9;exact⟨m1,Q1 _,pt,p9,other,_,_,rfl,s3.trans t9,t9 _ _ ht,e9,ft,s3.free ((t4.trans sm8).free hp9),hrun5,hcom5⟩
inductive xq(vs:List V)(H:Hp)(Q:VK)(E:XK):Prop
 |mk (a b:Addr) (xs ys:List Int) (n:Nat):vs=[.ref a,.ref b]->H a=some (.lst (xs.map V.int))->H b=some (.lst (ys.map V.int))->Tr xs->Tr ys->AllB n xs->AllB n ys->(xs.length+2)*(n+1)<=1000000->ys.length<=1000000->ys≠[]->aO xs ys=[]->mkL H Q (aw (ck xs ys))->xq vs H Q E
theorem Gk(F:Fun K "part" "part" qV f fd)(T:Txt K mg)(jD:Cal P w K mg base 2 "divided" ["first","second"] kY uH uz)(gS:Cal P w K mg base 34 "plain" ["row"] jO o4 o2):FnOk P w K mg base CX0 35 f fd ["row","divisor"] xq:=by
 obtain⟨jx,iU,i7,jo⟩:=jD;obtain⟨fU,fM,fN,fT⟩:=gS;refine F.ok sc_part (λvs H Q E h=>?_) (λcdv A outer s H vs Q E hr h=>?_)
 ·obtain⟨a,b,xs,ys,n,rfl,_⟩:=h;rfl
 ·obtain⟨a,b,xs,ys,nb,rfl,hA,hB,xtr,ytr,bx,by',hsz,hyn,hy,hR,k⟩:=h;have hu:=hr.units
  refine⟨_,(ag (ak (i:=2) sc_part.nd rfl (Or.inl rfl) (aq jx (hr.mono) rfl iU i7 jo .nil ai (aa (pv 0) (aa (pv 1) ac))))
   (ag (aR (aH (lX (K:=K) rfl hu) (aE (aM (K:=K) rfl) (pv 2) ad (λ_ _=>rfl)) (aX ac) (aG _))
     (al iH)
     aU)
   (al (aC (aq fU (hr.mono) rfl fM fN fT .nil ai (aa (aE (aM (K:=K) rfl) (pv 2) ad (λ_ _=>rfl)) ac)))))),?_⟩
  refine av ⟨_,rfl,_,rfl,a,b,xs,ys,nb,rfl,hA,hB,hy,bx,by',hsz,hyn,λt q r H1 sm1 ft fq fr _ _ _ et eq er=>?_⟩;refine cs ⟨_,rfl,t,_,_,_,rfl,rfl,SqT.of et,rfl,PK _,λp hp=>?_⟩;have s2:=Same.upd_new (o:=.lst []) hp;refine⟨r,p,_,[],rfl,rfl,SqL.of (s2 _ _ er),SqL.of au,_,rfl,da (λh=>absurd hR h) (λh=>?_)⟩;have lq:=uQ (a:=xs) hy
  have hxl:xs.length<=1000000:=by have:=Q8 (xs.length+2) (show 1<=nb+1 by omega);omega
  have hN:bh xs ys<=xs.length+1:=by unfold bh;omega
  have hN2:bh xs ys<=xs.length:=by have:=PL.mpr hy;unfold bh;omega
  exact⟨_,rfl,t,_,_,_,rfl,rfl,SqT.of (s2 _ _ et),rfl,q,ck xs ys,rfl,s2 _ _ eq,uO hy xtr ytr,by omega,λp' H' sm' hp' e'=>k p' H' ((sm1.then_new hp).trans sm') ((sm1.then_new hp).free hp') e'⟩
theorem GP(F:Fun K "added" "added" rN f fd)(T:Txt K mg)(jC:Cal P w K mg base 1 "poly" ["row"] (kT K) uG uw)(vU:Cal P w K mg base 1 "coefficient" ["row","place"] (jP K) Ky Ki):FnOk P w K mg base CX0 2 f fd ["first","second"] (nM K iw):=by
 obtain⟨jw,iT,i6,jn⟩:=jC;obtain⟨mV,mi,mw,mP⟩:=vU;refine F.ok sc_added (λvs H Q E h=>?_) (λcdv A outer s H vs Q E hr h=>?_)
 ·obtain⟨a,b,xs,ys,rfl,_⟩:=h;rfl
 ·obtain⟨a,b,xs,ys,rfl,hA,hB,hx,hy,k⟩:=h
  refine⟨_,(ag (ak (i:=2) sc_added.nd rfl (Or.inl rfl) (bz (BO rfl) (by rfl) T.max_ PyProof.Rows.boot_max (aa (bz (cY (K:=K) rfl) (by rfl) T.len_ PySem.boot_len (aa (pv 0) ac)) (aa (bz (cY (K:=K) rfl) (by rfl) T.len_ PySem.boot_len (aa (pv 1) ac)) ac))))
   (al (aC (aq jw (hr.mono) rfl iT i6 jn .nil ai (aa (fI (own:=["k"]) (fr:=["first","second"]) (js:=[0,1]) (by walk_at "comp_ok") rfl (g9 rfl T.range_ (aa (pv 2) ac)) (λ_ _ _ _=>(aS (i:=0) (show List.Nodup (["k","first","second"]:List Str)from by decide +kernel) rfl (Or.inl rfl))) (λ_ _ _ _=>(aj aY (aq mV (hr.mono) rfl mi mw mP .nil ai (aa (pv 1) (aa (pv 0) ac))) (aq mV (hr.mono) rfl mi mw mP .nil ai (aa (pv 2) (aa (pv 0) ac)))))) ac))))),?_⟩
  refine⟨_,rfl,a,_,rfl,.inl hA,_,rfl,b,_,rfl,.inl hB,_,_,rfl,?_⟩;rw[zM,PC,PC];have hz:max xs.length ys.length<=sizeLine:=by have:=sizeLine_eq;omega
  refine⟨_,rfl,_,rfl,(nN hz).1,(nN hz).2,uU (lo:=0) (n:=max xs.length ys.length) (λi zs σ' H'=>∃z:Option V,σ'=[z,some (.ref a),some (.ref b)]/\zs=((List.range i).map λk=>V.int (cf xs k+cf ys k))/\H=H') hz ⟨none,rfl,rfl,rfl⟩ ?_ ?_ ?_⟩
  ·rintro i zs σ' H' _ ⟨z,rfl,rfl,rfl⟩;simp
  ·rintro i zs σ' H' hi ⟨z,rfl,rfl,rfl⟩;refine⟨_,rfl,_,rfl,a,xs,i,?_,hA,_,rfl,_,rfl,b,ys,i,?_,hB,_,_,rfl,rfl,_,rfl,?_,rfl⟩
   ·show[V.ref a,V.int (0+(i:Int))]=_;rw[QK]
   ·show[V.ref b,V.int (0+(i:Int))]=_;rw[QK]
   ·rw[List.range_succ,Qk];rfl
  ·rintro zs σ' H' p ⟨z,rfl,rfl,rfl⟩ hp;refine⟨p,(List.range (max xs.length ys.length)).map λk=>cf xs k+cf ys k,rfl,SqL.of ?_,?_⟩
   ·rw[au,QL];rfl
   ·intro p' H' sm hp' e;refine k p' H' ((Same.upd_new hp).trans sm) ((Same.upd_new hp).free hp') ?_;rw[e,Mf]
inductive xz(vs:List V)(H:Hp)(Q:VK)(E:XK):Prop
 |mk (a b:Addr) (xs ys:List Int):vs=[.ref a,.ref b]->H a=some (.lst (xs.map V.int))->H b=some (.lst (ys.map V.int))->xs.length<=1000000->ys.length<=1000000->AllB 1000000 xs->AllB 1000000 ys->mkL H Q (af xs ys)->xz vs H Q E
theorem Gr(F:Fun K "multiplied" "multiplied" q8 f fd)(T:Txt K mg):FnOk P w K mg base CX0 1 f fd ["first","second"] xz:=by
 refine F.ok sc_multiplied (λvs H Q E h=>?_) (λcdv A outer s H vs Q E hr h=>?_)
 ·obtain⟨a,b,xs,ys,rfl,_⟩:=h;rfl
 ·obtain⟨a,b,xs,ys,rfl,hA,hB,hx,hy,bx,by',k⟩:=h;have hu:=hr.units
  refine⟨_,(ag (aR (PW.pt (sM (aH (j1 (K:=K) rfl hu) (pv 0) (aX ac) (aG _)) (sL (aH (j1 (K:=K) rfl hu) (pv 1) (aX ac) (aG _)))))
   (al (aC (aX ac)))
   aU)
   (ag (ak (i:=2) sc_multiplied.nd rfl (Or.inl rfl) (aj sW (aX (aa ad ac)) (aj cq (aj aY (bz (cY (K:=K) rfl) (by rfl) T.len_ PySem.boot_len (aa (pv 0) ac)) (bz (cY (K:=K) rfl) (by rfl) T.len_ PySem.boot_len (aa (pv 1) ac))) ad)))
   (ag (cV PassesOwn.never rfl (om rfl T.enumerate_ (aa (pv 0) ac)) (gA rfl (cu (aS (i:=3) sc_multiplied.nd rfl (Or.inl rfl)) (cu (aS (i:=4) sc_multiplied.nd rfl (Or.inl rfl)) gz)))
     (al (cV PassesOwn.never rfl (om rfl T.enumerate_ (aa (pv 1) ac)) (gA rfl (cu (aS (i:=5) sc_multiplied.nd rfl (Or.inl rfl)) (cu (aS (i:=6) sc_multiplied.nd rfl (Or.inl rfl)) gz)))
       (al (gw (aj aY (aE (b5 (K:=K) rfl) (pv 2) (aj aY (pv 3) (pv 5)) (λ_ _=>rfl)) (aj aK (pv 4) (pv 6))) (lT (pv 2) (aj aY (pv 3) (pv 5)) ll))))))
   (al (aC (pv 2)))))),?_⟩
  refine⟨_,rfl,PK _,λp1 hp1=>?_⟩;have s1:Same H (upd H p1 (.lst [])):=Same.upd_new hp1;refine⟨a,p1,xs,[],rfl,rfl,SqL.of (s1 _ _ hA),SqL.of au,_,rfl,?_⟩;refine aP (λh0=>?_) (λh0=>?_)
  ·refine yA ⟨PK _,λp2 hp2=>k p2 _ (s1.then_new hp2) (s1.free hp2) ?_⟩;rw[au];unfold af;rw[if_pos (.inl h0)];rfl
  refine⟨_,rfl,PK _,λp2 hp2=>?_⟩;have s2:Same H (upd (upd H p1 (.lst [])) p2 (.lst [])):=s1.then_new hp2;refine⟨b,p2,ys,[],rfl,rfl,SqL.of (s2 _ _ hB),SqL.of au,_,rfl,?_⟩;refine aP (λh1=>?_) (λh1=>?_)
  ·refine⟨PK _,λp3 hp3=>k p3 _ (s2.then_new hp3) (s2.free hp3) ?_⟩;rw[au];unfold af;rw[if_pos (.inr h1)];rfl
  generalize upd (upd H p1 (.lst [])) p2 (.lst [])=H2 at s2 ⊢
  obtain⟨la,ea⟩:∃la,xs.length=la+1:=⟨xs.length-1,by have:=PL.mpr h0;omega⟩;obtain⟨lb,eb⟩:∃lb,ys.length=lb+1:=⟨ys.length-1,by have:=PL.mpr h1;omega⟩;refine⟨(by show 1<=sizeLine;decide),λp3 hp3=>?_⟩;have s3:=s2.then_new (o:=.lst [V.int 0]) hp3;have big:=sizeLine_eq;refine⟨_,rfl,a,_,rfl,.inl (SqL.of (s3 _ _ hA)),_,rfl,b,_,rfl,.inl (SqL.of (s3 _ _ hB)),_,_,rfl,rfl,_,_,rfl,rfl,p3,_,_,rfl,rfl,au,?_,?_,?_,λp hp=>?_⟩
  ·rw[PC,PC];omega
  ·rw[PC,PC];omega
  ·rw[PC,PC];show 1*_<=_;omega
  have en:(((xs.map V.int).length:Int)+((ys.map V.int).length:Int)-1).toNat=la+lb+1:=by rw[PC,PC];omega
  rw[en,sD];have s4:=s3.then_new (o:=.lst ((List.replicate (la+lb+1) (0:Int)).map V.int)) hp;have npa:a≠p:=s3.ne hA hp;have npb:b≠p:=s3.ne hB hp;generalize hH4:upd (upd H2 p3 (.lst [V.int 0])) p (.lst ((List.replicate (la+lb+1) (0:Int)).map V.int))=H4 at s4 ⊢
  have hp4:H4 p=some (.lst ((List.replicate (la+lb+1) (0:Int)).map V.int)):=by rw[<- hH4,au]
  refine⟨_,rfl,a,rfl,⟨_,SqL.of (s4 _ _ hA)⟩,um (K:=K) (a:=a) (xs:=xs.map V.int) (λj σ' H'=>∃(acc:List Int) (z3 z4 z5 z6:Option V),σ'=[some (.ref a),some (.ref b),some (.ref p),z3,z4,z5,z6]/\SameB p H4 H'/\H' p=some (.lst (acc.map V.int))/\acc.length=la+lb+1/\∀n,n<acc.length->cf acc n=sm xs ys n j)
   ⟨List.replicate (la+lb+1) 0,none,none,none,none,rfl,SameB.refl _ _,hp4,by simp,λn _=>by rw[mL];rfl⟩ ?_ ?_ ?_⟩
  ·rintro j σ' H' _ ⟨acc,z3,z4,z5,z6,rfl,sb,_⟩;exact SqL.of (sb _ _ npa (s4 _ _ hA))
  ·rintro j x σ' H' q hj ⟨acc,z3,z4,z5,z6,rfl,sb,hpa,hal,hac⟩ hq;rw[List.getElem?_map]at hj
   have hjl:j<xs.length:=by apply Classical.byContradiction;intro hn;rw[List.getElem?_eq_none_iff.mpr (QS hn)]at hj;cases hj
   rw[jb hjl]at hj;obtain rfl:=Option.some.inj hj;refine⟨q,_,rfl,SqT.of au,rfl,_,_,rfl,_,_,rfl,rfl,?_⟩;have nqp:p≠q:=aW hpa hq;have sb1:SameB p H4 (upd H' q (.tup [.int j,.int (cf xs j)])):=sb.then_new hq
   refine⟨_,rfl,b,rfl,⟨_,SqL.of (sb1 _ _ npb (s4 _ _ hB))⟩,um (K:=K) (a:=b) (xs:=ys.map V.int) (λi σ' H'=>∃(acc:List Int) (z5 z6:Option V),σ'=[some (.ref a),some (.ref b),some (.ref p),some (.int j),some (.int (cf xs j)),z5,z6]/\SameB p H4 H'/\H' p=some (.lst (acc.map V.int))/\acc.length=la+lb+1/\∀n,n<acc.length->cf acc n=sm xs ys n j+(if j<=n/\n-j<i then tm xs ys n j else 0))
    ⟨acc,z5,z6,rfl,sb1,by rw[upd_ne nqp];exact hpa,hal,zB hac⟩ ?_ ?_ ?_⟩
   ·rintro i σ' H' _ ⟨acc,z5,z6,rfl,sb,_⟩;exact SqL.of (sb _ _ npb (s4 _ _ hB))
   ·rintro i x σ' H' q hi ⟨acc,z5,z6,rfl,sb,hpa,hal,hac⟩ hq;rw[List.getElem?_map]at hi
    have hil:i<ys.length:=by apply Classical.byContradiction;intro hn;rw[List.getElem?_eq_none_iff.mpr (QS hn)]at hi;cases hi
    rw[jb hil]at hi;obtain rfl:=Option.some.inj hi;refine⟨q,_,rfl,SqT.of au,rfl,_,_,rfl,_,_,rfl,rfl,?_⟩;have nqp:p≠q:=aW hpa hq;have hpa':upd H' q (.tup [.int i,.int (cf ys i)]) p=some (.lst (acc.map V.int)):=by rw[upd_ne nqp];exact hpa
    have hji:j+i<acc.length:=by omega
    have eji:((j:Nat):Int)+((i:Nat):Int)=((j+i:Nat):Int):=by omega
    refine⟨_,rfl,_,rfl,_,rfl,_,_,rfl,rfl,p,_,_,_,rfl,rfl,SqL.of hpa',kB eji hji,_,rfl,_,rfl,_,_,rfl,rfl,⟨bx.cf j,by'.cf i⟩,_,_,rfl,rfl,_,rfl,_,rfl,_,rfl,_,_,rfl,rfl,p,_,_,j+i,rfl,rfl,hpa',mB eji (by rw[PC];exact hji),?_⟩;refine⟨acc.set (j+i) (cf acc (j+i)+cf xs j*cf ys i),_,_,rfl,(sb.then_new hq).then_upd,by rw[au,oF],by rw[Rz];exact hal,zA hjl hil hji hac⟩
   ·rintro σ' H' ⟨acc,z5,z6,rfl,sb,hpa,hal,hac⟩;rw[PC]at hac;exact⟨acc,_,_,_,_,rfl,sb,hpa,hal,zC hac⟩
  ·rintro σ' H' ⟨acc,z3,z4,z5,z6,rfl,sb,hpa,hal,hac⟩;rw[PC]at hac;refine⟨_,rfl,k p H' (λb' o e=>sb b' o (s3.ne e hp) (s4 b' o e)) (s3.free hp) ?_⟩;rw[hpa]
   have e:acc=af xs ys:=by
    apply dU
    ·rw[hal];unfold af;rw[if_neg (by intro z;exact z.elim h0 h1),PC,Q5];omega
    ·intro n _;rw[aL,zD (by omega) hac]
   rw[e]
inductive qa(C:Addr)(vs:List V)(H:Hp)(Q:VK)(E:XK):Prop
 |mk (p q:Addr) (t b u d:Int) (i j:Nat):vs=[.ref p,.ref q]->RA C H p t b->RA C H q u d->Bits 100000 t->Bits i b->Bits 100000 u->Bits j d->i+j<=9000->0<b->0<d->mkR C H Q (t*d+u*b) (b*d)->qa C vs H Q E
theorem G5(F:Fun K "plus" "Ratio.plus" se f fd)(T:Txt K mg)(R:RCI K mg C)(ci:KCal P w K mg base 2 C "Ratio" ["self","top","bottom"] (c9 C) dS dR dW [.int 1]):FnOk P w K mg base CX0 4 f fd ["self","other"] (qa C):=by
 obtain⟨bH,bF,bC,bX,cO,cM⟩:=ci;refine F.ok Eh (λvs H Q E h=>?_) (λcdv A outer s H vs Q E hr h=>?_)
 ·obtain⟨p,q,t,b,u,d,i,j,rfl,_⟩:=h;rfl
 ·obtain⟨p,q,t,b,u,d,i,j,rfl,⟨dx,hp⟩,⟨dy,hq⟩,bt,bb,bu,bd,hij,hb,hd,k⟩:=h;have bb':Bits 1000000 b:=bb.mono (by omega);have bd':Bits 1000000 d:=bd.mono (by omega);refine⟨_,(al (aC (b9 bF bH (hr.mono) rfl bC bX .nil ai (aa (aj aY (aj aK (aN (K:=K) rfl (pv 0) rfl) (aN (K:=K) rfl (pv 1) rfl)) (aj aK (aN (K:=K) rfl (pv 1) rfl) (aN (K:=K) rfl (pv 0) rfl))) (aa (aj aK (aN (K:=K) rfl (pv 0) rfl) (aN (K:=K) rfl (pv 1) rfl)) ac))))),?_⟩;refine⟨_,rfl,p,C,dx,_,_,rfl,hp,R.cl,R.nT,c8 _ _,_,rfl,q,C,dy,_,_,rfl,hq,R.cl,R.nB,ca _ _,_,_,rfl,rfl,⟨bt.mono,bd'⟩,?_⟩;refine⟨_,rfl,q,C,dy,_,_,rfl,hq,R.cl,R.nT,c8 _ _,_,rfl,p,C,dx,_,_,rfl,hp,R.cl,R.nB,ca _ _,_,_,rfl,rfl,⟨bu.mono,bb'⟩,_,_,rfl,rfl,?_⟩;refine⟨_,rfl,p,C,dx,_,_,rfl,hp,R.cl,R.nB,ca _ _,_,rfl,q,C,dy,_,_,rfl,hq,R.cl,R.nB,ca _ _,_,_,rfl,rfl,⟨bb',bd'⟩,?_⟩;exact cU (Qo (PB hb hd)) ((bb.mul bd).mono hij) k
inductive kX(C:Addr)(vs:List V)(H:Hp)(Q:VK)(E:XK):Prop
 |mk (p q:Addr) (t b u d:Int) (i j:Nat):vs=[.ref p,.ref q]->RA C H p t b->RA C H q u d->Bits 100000 t->Bits i b->Bits 100000 u->Bits j d->i+j<=9000->0<b->0<d->mkR C H Q (t*d-u*b) (b*d)->kX C vs H Q E
theorem G6(F:Fun K "minus" "Ratio.minus" sh f fd)(T:Txt K mg)(R:RCI K mg C)(ci:KCal P w K mg base 2 C "Ratio" ["self","top","bottom"] (c9 C) dS dR dW [.int 1]):FnOk P w K mg base CX0 4 f fd ["self","other"] (kX C):=by
 obtain⟨bH,bF,bC,bX,cO,cM⟩:=ci;refine F.ok Ei (λvs H Q E h=>?_) (λcdv A outer s H vs Q E hr h=>?_)
 ·obtain⟨p,q,t,b,u,d,i,j,rfl,_⟩:=h;rfl
 ·obtain⟨p,q,t,b,u,d,i,j,rfl,⟨dx,hp⟩,⟨dy,hq⟩,bt,bb,bu,bd,hij,hb,hd,k⟩:=h;have bb':Bits 1000000 b:=bb.mono (by omega);have bd':Bits 1000000 d:=bd.mono (by omega);refine⟨_,(al (aC (b9 bF bH (hr.mono) rfl bC bX .nil ai (aa (aj cq (aj aK (aN (K:=K) rfl (pv 0) rfl) (aN (K:=K) rfl (pv 1) rfl)) (aj aK (aN (K:=K) rfl (pv 1) rfl) (aN (K:=K) rfl (pv 0) rfl))) (aa (aj aK (aN (K:=K) rfl (pv 0) rfl) (aN (K:=K) rfl (pv 1) rfl)) ac))))),?_⟩;refine⟨_,rfl,p,C,dx,_,_,rfl,hp,R.cl,R.nT,c8 _ _,_,rfl,q,C,dy,_,_,rfl,hq,R.cl,R.nB,ca _ _,_,_,rfl,rfl,⟨bt.mono,bd'⟩,?_⟩;refine⟨_,rfl,q,C,dy,_,_,rfl,hq,R.cl,R.nT,c8 _ _,_,rfl,p,C,dx,_,_,rfl,hp,R.cl,R.nB,ca _ _,_,_,rfl,rfl,⟨bu.mono,bb'⟩,_,_,rfl,rfl,?_⟩;refine⟨_,rfl,p,C,dx,_,_,rfl,hp,R.cl,R.nB,ca _ _,_,rfl,q,C,dy,_,_,rfl,hq,R.cl,R.nB,ca _ _,_,_,rfl,rfl,⟨bb',bd'⟩,?_⟩;exact cU (Qo (PB hb hd)) ((bb.mul bd).mono hij) k
inductive jN(C:Addr)(vs:List V)(H:Hp)(Q:VK)(E:XK):Prop
 |mk (p q:Addr) (t b u d:Int) (i j:Nat):vs=[.ref p,.ref q]->RA C H p t b->RA C H q u d->Bits 100000 t->Bits i b->Bits 100000 u->Bits j d->i+j<=9000->0<b->0<d->mkR C H Q (t*u) (b*d)->jN C vs H Q E
theorem G4(F:Fun K "times" "Ratio.times" sd f fd)(T:Txt K mg)(R:RCI K mg C)(ci:KCal P w K mg base 2 C "Ratio" ["self","top","bottom"] (c9 C) dS dR dW [.int 1]):FnOk P w K mg base CX0 4 f fd ["self","other"] (jN C):=by
 obtain⟨bH,bF,bC,bX,cO,cM⟩:=ci;refine F.ok Eg (λvs H Q E h=>?_) (λcdv A outer s H vs Q E hr h=>?_)
 ·obtain⟨p,q,t,b,u,d,i,j,rfl,_⟩:=h;rfl
 ·obtain⟨p,q,t,b,u,d,i,j,rfl,⟨dx,hp⟩,⟨dy,hq⟩,bt,bb,bu,bd,hij,hb,hd,k⟩:=h;refine⟨_,(al (aC (b9 bF bH (hr.mono) rfl bC bX .nil ai (aa (aj aK (aN (K:=K) rfl (pv 0) rfl) (aN (K:=K) rfl (pv 1) rfl)) (aa (aj aK (aN (K:=K) rfl (pv 0) rfl) (aN (K:=K) rfl (pv 1) rfl)) ac))))),?_⟩;refine⟨_,rfl,p,C,dx,_,_,rfl,hp,R.cl,R.nT,c8 _ _,_,rfl,q,C,dy,_,_,rfl,hq,R.cl,R.nT,c8 _ _,_,_,rfl,rfl,⟨bt.mono,bu.mono⟩,?_⟩;refine⟨_,rfl,p,C,dx,_,_,rfl,hp,R.cl,R.nB,ca _ _,_,rfl,q,C,dy,_,_,rfl,hq,R.cl,R.nB,ca _ _,_,_,rfl,rfl,⟨bb.mono (by omega),bd.mono (by omega)⟩,?_⟩;exact cU (Qo (PB hb hd)) ((bb.mul bd).mono hij) k
theorem Bj{l:List Int}{i:Nat}{c:Int}(hi:i<l.length)(e:l[l.length-1-i]?=some c):l.drop (l.length-(i+1))=c::l.drop (l.length-i):=by
 have h:l.length-(i+1)=l.length-1-i:=by omega
 rw[h,Sv (by omega)];have h2:l.length-1-i+1=l.length-i:=by omega
 rw[h2];have h3:=List.getElem?_eq_getElem (l:=l) (i:=l.length-1-i) (by omega);rw[h3]at e;rw[Option.some.inj e]
theorem jY(n:Nat):(0:Int)<2^n:=Qs (by decide)
theorem iJ(n:Nat):(2:Int)^n=((2^n:Nat):Int):=by rw[Rv];rfl
theorem lN{n k:Nat}(h:n<k):Bits k ((2:Int)^n):=by rw[iJ];show(((2^n:Nat):Int)).natAbs<2^k;rw[Qq];exact(Sj (by decide)).mpr h
theorem kM:Bits 1000000 (2:Int):=Bits.mono (j:=2) (by show(2:Int).natAbs<2^2;decide) (by decide)
theorem FK:Bits 1000000 (1:Int):=Bits.mono (j:=1) (by show(1:Int).natAbs<2^1;decide) (by decide)
inductive xG(C:Addr)(vs:List V)(H:Hp)(Q:VK)(E:XK):Prop
 |mk (r wd:Addr) (r1 r2 w1 w2:Int) (kr kw:Nat):vs=[.ref r,.ref wd]->RA C H r r1 r2->RA C H wd w1 w2->0<r2->0<w1->Bits kr r1->Bits 100000 r2->Bits 100000 w1->Bits kw w2->kr+kw<=100000->(∀n:Nat,n<=kr+kw->r1*w2<=w1*r2*2^n->(∀j:Nat,j<n->w1*r2*2^j<r1*w2)->Q (.int n) H)->xG C vs H Q E
theorem GA(F:Fun K "halvings" "halvings" rq f fd)(T:Txt K mg)(R:RCI K mg C):FnOk P w K mg base CX0 1 f fd ["reach","width"] (xG C):=by
 refine F.ok sc_halvings (λvs H Q E h=>?_) (λcdv A outer s H vs Q E hr h=>?_)
 ·obtain⟨r,wd,r1,r2,w1,w2,kr,kw,rfl,_⟩:=h;rfl
 ·obtain⟨r,wd,r1,r2,w1,w2,kr,kw,rfl,⟨dr,hR⟩,⟨dw,hW⟩,hr2,hw1,br1,br2,bw1,bw2,hkk,k⟩:=h
  refine⟨_,(ag (ak (i:=2) sc_halvings.nd rfl (Or.inl rfl) (aj aK (aN (K:=K) rfl (pv 0) rfl) (aN (K:=K) rfl (pv 1) rfl)))
   (ag (ak (i:=3) sc_halvings.nd rfl (Or.inl rfl) (aj aK (aN (K:=K) rfl (pv 1) rfl) (aN (K:=K) rfl (pv 0) rfl)))
   (ag (ak (i:=4) sc_halvings.nd rfl (Or.inl rfl) ad)
   (ag (fc PassesOwn.never (aH fJ (pv 2) (pv 3) (aG _))
     (ag (ak (i:=3) sc_halvings.nd rfl (Or.inl rfl) (aj aK ad (pv 3)))
       (al (ak (i:=4) sc_halvings.nd rfl (Or.inl rfl) (aj aY (pv 4) ad)))))
   (al (aC (pv 4))))))),?_⟩
  refine av ⟨_,rfl,r,C,dr,_,_,rfl,hR,R.cl,R.nT,c8 _ _,_,rfl,wd,C,dw,_,_,rfl,hW,R.cl,R.nB,ca _ _,_,_,rfl,rfl,⟨br1.mono (by omega),bw2.mono (by omega)⟩,?_⟩;refine av ⟨_,rfl,wd,C,dw,_,_,rfl,hW,R.cl,R.nT,c8 _ _,_,rfl,r,C,dr,_,_,rfl,hR,R.cl,R.nB,ca _ _,_,_,rfl,rfl,⟨bw1.mono,br2.mono⟩,?_⟩;have bW:Bits (kr+kw) (r1*w2):=br1.mul bw2;have g0:0<w1*r2:=PB hw1 hr2;refine av ?_;dsimp only
  generalize r1*w2=W at *
  generalize w1*r2=g at *
  show cI _ _ _ _ _
  have b0:∀n:Nat,(∀j:Nat,j<n->g*2^j<W)->n<=kr+kw:=λn hn=>by
   rcases Nat.lt_or_ge (kr+kw) n with z |z
   ·have h1:=hn (kr+kw) z
    have h2:(2:Int)^(kr+kw)<=g*2^(kr+kw):=by have:=P6 (show(1:Int)<=g by omega) (PD (jY (kr+kw)));omega
    have h3:W.natAbs<2^(kr+kw):=bW;have h5:(W.natAbs:Int)<((2^(kr+kw):Nat):Int):=RQ.mpr h3;rw[<- iJ]at h5;generalize (2:Int)^(kr+kw)=Y at *
    omega
   ·exact z
  refine⟨λm σ' H'=>∃n:Nat,σ'=[some (.ref r),some (.ref wd),some (.int W),some (.int (g*2^n)),some (.int n)]/\H=H'/\m=(W-g*2^n).toNat/\∀j:Nat,j<n->g*2^j<W,⟨_,0,by rw[QO,P8];rfl,rfl,rfl,λj hj=>absurd hj (R9 _)⟩,?_⟩;rintro m σ' H' ⟨n,rfl,rfl,rfl,hj⟩;refine⟨_,rfl,_,rfl,_,_,rfl,rfl,_,rfl,aP (λhgt=>?_) (λhle=>?_)⟩
  ·have hgt':g*2^n<W:=hgt;have gp:0<g*2^n:=PB g0 (jY n);have bg:Bits (kr+kw) (g*2^n):=bW.of_le (by omega);refine⟨λσ'' H''=>∃m',m'<(W-g*2^n).toNat/\∃n:Nat,σ''=[some (.ref r),some (.ref wd),some (.int W),some (.int (g*2^n)),some (.int n)]/\H=H''/\m'=(W-g*2^n).toNat/\∀j:Nat,j<n->g*2^j<W,λ_ _ h=>h,?_⟩;have e2:2*(g*2^n)=g*2^(n+1):=by rw[Ql];grind
   refine av ⟨_,rfl,_,_,rfl,rfl,⟨kM,bg.mono (by omega)⟩,?_⟩;refine cD ⟨_,rfl,_,_,rfl,rfl,?_⟩;refine⟨(W-g*2^(n+1)).toNat,by rw[<- e2];omega,n+1,by rw[<- e2];rfl,rfl,rfl,λj h'=>?_⟩;by_cases ej:j=n
   ·subst ej;exact hgt'
   ·exact hj j (by omega)
  ·refine⟨_,rfl,k n (b0 n hj) ?_ hj⟩;have:¬g*2^n<W:=hle;omega
theorem eU{k:Nat}{t b:Int}(hb:b≠0)(h:Bits k t):Bits k (rt t b):=h.of_le (Eo hb)
theorem eY{k:Nat}{t b:Int}(hb:b≠0)(h:Bits k b):Bits k (rb t b):=h.of_le (EK hb)
theorem ox:¬(("plus":Str)="bottom")/\¬(("plus":Str)="top"):=⟨by decide +kernel,by decide +kernel⟩
theorem hJ:¬(("minus":Str)="bottom")/\¬(("minus":Str)="top"):=⟨by decide +kernel,by decide +kernel⟩
theorem dO:¬(("times":Str)="bottom")/\¬(("times":Str)="top"):=⟨by decide +kernel,by decide +kernel⟩
def xQ(C:Addr):Sp:=λvs H Q _=>∃(l r:Addr) (l1 l2 r1 r2 pl pc:Int) (i j n:Nat),vs=[.ref l,.ref r,.int pl,.int pc]/\RA C H l l1 l2/\RA C H r r1 r2/\0<l2/\0<r2/\0<pc/\Bits i l1/\Bits i l2/\Bits j r1/\Bits j r2/\Bits n pl/\Bits n pc/\i+(j+n)<=9000 /\
 ∀(x:Addr) (H':Hp) (x1 x2:Int),Same H H'->H x=none->RA C H' x x1 x2->0<x2->x1*(l2*r2*pc)=(l1*r2*pc+r1*l2*pl)*x2->Bits (i+(j+n)+1) x1->Bits (i+(j+n)+1) x2->Nat.gcd x1.natAbs x2.natAbs=1->Q (.ref x) H'
theorem GO(F:Fun K "along" "along" rM f fd)(T:Txt K mg)(R:RCI K mg C)(vZ:MCal P w K mg base 4 C "plus" ["self","other"] (qa C) KE Kn)(gT:MCal P w K mg base 4 C "times" ["self","other"] (jN C) o5 o3)(ci:KCal P w K mg base 2 C "Ratio" ["self","top","bottom"] (c9 C) dS dR dW [.int 1]):FnOk P w K mg base CX0 5 f fd ["low","reach","place","pieces"] (xQ C):=by
 obtain⟨vK,tD,vt⟩:=vZ;obtain⟨fz,fi,fy⟩:=gT;obtain⟨bH,bF,bC,bX,cO,cM⟩:=ci;refine F.ok Ec (λvs H Q E h=>?_) (λcdv A outer s H vs Q E hr h=>?_)
 ·obtain⟨l,r,l1,l2,r1,r2,pl,pc,i,j,n,rfl,_⟩:=h;rfl
 ·obtain⟨l,r,l1,l2,r1,r2,pl,pc,i,j,n,rfl,hL,hR,hl2,hr2,hpc,bl1,bl2,br1,br2,bpl,bpc,hijn,k⟩:=h;refine⟨_,(al (aC (c7 (pv 0) R.cl tD vK (hr.mono) vt .nil ai (aa (c7 (pv 1) R.cl fi fz (hr.mono) fy .nil ai (aa (b9 bF bH (hr.mono) rfl bC bX .nil ai (aa (pv 2) (aa (pv 3) ac))) ac)) ac)))),?_⟩;obtain⟨dl,hl⟩:=id hL;obtain⟨dr,hrr⟩:=id hR;have pc0:pc≠0:=Qo hpc;refine bj ⟨_,rfl,l,dl,_,rfl,hl,de _ _ ox.1 ox.2,_,rfl,r,dr,_,rfl,hrr,de _ _ dO.1 dO.2,_,rfl,_,rfl,cU pc0 (bpc.mono (by omega)) λxa H1 s1 ha hRa=>?_⟩;have a0:0<rb pl pc:=dk pc0;have ba1:Bits n (rt pl pc):=eU pc0 bpl;have ba2:Bits n (rb pl pc):=eY pc0 bpc;have ea:=fb (t:=pl) pc0;generalize rt pl pc=a1 at *
  generalize rb pl pc=a2 at *
  refine⟨r,xa,r1,r2,a1,a2,j,n,rfl,hR.same s1,hRa,br1.mono (by omega),br2,ba1.mono (by omega),ba2,by omega,hr2,a0,λxc H2 s2 hc hRc=>?_⟩;have d0:r2*a2≠0:=Qo (PB hr2 a0);have c0:0<rb (r1*a1) (r2*a2):=dk d0;have bc1:Bits (j+n) (rt (r1*a1) (r2*a2)):=eU d0 (br1.mul ba1);have bc2:Bits (j+n) (rb (r1*a1) (r2*a2)):=eY d0 (br2.mul ba2);have ec:=fb (t:=r1*a1) d0;generalize rt (r1*a1) (r2*a2)=c1 at *
  generalize rb (r1*a1) (r2*a2)=c2 at *
  have t2:=s1.trans s2;refine⟨l,xc,l1,l2,c1,c2,i,j+n,rfl,hL.same t2,hRc,bl1.mono (by omega),bl2,bc1.mono (by omega),bc2,hijn,hl2,c0,λxx H3 s3 hx hRx=>?_⟩;have x0:l2*c2≠0:=Qo (PB hl2 c0);refine k xx H3 _ _ (t2.trans s3) (t2.free hx) hRx (dk x0) (Md a0 c0 ea ec (fb x0)) ?_ ?_ (g7 x0)
  ·refine(eU x0 ?_);exact Bits.add (bl1.mul bc2) ((bc1.mul bl2).mono (by omega))
  ·exact(eY x0 (bl2.mul bc2)).mono (by omega)
theorem Hz{i j:Nat}{a b c:Int}{l:List Int}(hl:AllB i l)(ha:Bits j a)(hb:Bits j b)(hc:Bits (i+j) c):AllB (i+j+1) (mb a b c l):=AllB.of_cf λn=>by
 rw[ji];refine Bits.add ?_ ?_
 ·exact(ha.neg.mul (hl.cf n)).mono (by omega)
 ·split
  ·exact hc
  ·exact(hb.mul (hl.cf (n-1))).mono (by omega)
theorem wI{kv j:Nat}{m s0 s1:Int}(hm:Bits j m)(h0:Bits j s0)(h1:Bits j s1):∀{l:List Int},AllB kv l->AllB (kv+(j+1)*l.length+1) (cj m s0 s1 l)
 | [],_=>AllB.nil
 |v::l,h=>by
  have ih:=wI hm h0 h1 (l:=l) λx hx=>h x (PP _ hx)
  have hv:=h v (PU ..)
  have:=Hz (c:=v*m^l.length) ih h0.neg h1 ((hv.mul (jk hm l.length)).mono (by
   have:(j+1)*l.length=j*l.length+l.length:=by rw[Nat.add_mul,Nat.one_mul]
   omega))
  refine AllB.mono this ?_;rw[Qw,Nat.mul_add,Nat.mul_one];omega
theorem Dm{a b c:Int}{l:List Int}(hne:l≠[])(hT:Tr (mb a b c l)):iw (af l [-a,b]) (trim [c])=mb a b c l:=by
 refine mE (fX _) hT λk=>?_
 unfold iw;rw[gO,ip,gO,PY,Hr hne,ji,ji];rcases k with _ |k
 ·show _+0+c=_+c;omega
 ·rw[if_neg (by omega),if_neg (by omega)];show _+cf [] k=_;rw[cG];omega
theorem CL{m s0 s1:Int}(hs:0<s1){l:List Int}(hne:l≠[])(hl:Tr l):Tr (cj m s0 s1 l):=by
 have h1:=wH m s0 s1 l;have hlen:=jL m s0 s1 l;have hp:0<l.length:=PL.mpr hne;have h2:cf l (l.length-1)≠0:=hl _ (by omega);intro n hn;have:n=l.length-1:=by omega
 subst this;rw[h1];exact Qe h2 (Qo (Qs hs))
theorem CS{l:List Int}(hl:Tr l){i:Nat}(h:i<l.length):Tr (l.drop i):=by
 intro n hn;rw[Rk]at hn
 have e:cf (l.drop i) n=cf l (i+n):=by unfold cf;simp[List.getD]
 rw[e];exact hl _ (by omega)
def wZ(C:Addr):Sp:=λvs H Q _=>∃(a l r:Addr) (ns:List Int) (l1 l2 r1 r2:Int),vs=[.ref a,.ref l,.ref r]/\H a=some (.lst (ns.map V.int))/\RA C H l l1 l2/\RA C H r r1 r2/\Tr ns/\ns≠[]/\ns.length<=12/\AllB 1000 ns/\0<l2/\0<r1/\0<r2/\Bits 1400 l1/\Bits 1400 l2/\Bits 2900 r1/\Bits 2900 r2 /\
 ∀m s0 s1:Int,0<m->s0*l2=l1*m->s1*r2=r1*m->0<s1->AllB 60000 (cj m s0 s1 ns)->mkL H Q (cj m s0 s1 ns)
theorem FR(F:Fun K "stretched" "stretched" qD f fd)(T:Txt K mg)(R:RCI K mg C)(vQ:Cal P w K mg base 2 "shared" ["row"] (pZ K) Kv Kf)(ND:Cal P w K mg base 2 "added" ["first","second"] (nM K iw) Pi Ox)(Nm:Cal P w K mg base 1 "multiplied" ["first","second"] xz O2 Og)(jC:Cal P w K mg base 1 "poly" ["row"] (kT K) uG uw):FnOk P w K mg base CX0 3 f fd ["row","low","reach"] (wZ C):=by
 obtain⟨vF,tI,tY,vj⟩:=vQ;obtain⟨MQ,Ir,Ju,LZ⟩:=ND;obtain⟨MD,Ib,Jh,LM⟩:=Nm;obtain⟨jw,iT,i6,jn⟩:=jC;refine F.ok sc_stretched (λvs H Q E h=>?_) (λcdv A outer s H vs Q E hr h=>?_)
 ·obtain⟨a,l,r,ns,l1,l2,r1,r2,rfl,_⟩:=h;rfl
 ·obtain⟨a,l,r,ns,l1,l2,r1,r2,rfl,hA,⟨dl,hL⟩,⟨dr,hR⟩,hT,hne,hln,hbn,hl2,hr1,hr2,bl1,bl2,br1,br2,k⟩:=h
  refine⟨_,(ag (ak (i:=3) sc_stretched.nd rfl (Or.inl rfl) (aj cS (aj aK (aN (K:=K) rfl (pv 1) rfl) (aN (K:=K) rfl (pv 2) rfl)) (aq vF (hr.mono) rfl tI tY vj .nil ai (aa (aX (aa (aN (K:=K) rfl (pv 1) rfl) (aa (aN (K:=K) rfl (pv 2) rfl) ac))) ac))))
   (ag (ak (i:=4) sc_stretched.nd rfl (Or.inl rfl) (aj aK (aN (K:=K) rfl (pv 1) rfl) (aj cS (pv 3) (aN (K:=K) rfl (pv 1) rfl))))
   (ag (ak (i:=5) sc_stretched.nd rfl (Or.inl rfl) (aj aK (aN (K:=K) rfl (pv 2) rfl) (aj cS (pv 3) (aN (K:=K) rfl (pv 2) rfl))))
   (ag (ak (i:=6) sc_stretched.nd rfl (Or.inl rfl) (aX ac))
   (ag (ak (i:=7) sc_stretched.nd rfl (Or.inl rfl) ad)
   (ag (cV PassesOwn.never rfl (sQ rfl T.reversed_ (aa (pv 0) ac)) (aS (i:=8) sc_stretched.nd rfl (Or.inl rfl))
     (ag (ak (i:=6) sc_stretched.nd rfl (Or.inl rfl) (aq MQ (hr.mono) rfl Ir Ju LZ .nil ai (aa (aq MD (hr.mono) rfl Ib Jh LM .nil ai (aa (pv 6) (aa (aX (aa (pv 4) (aa (pv 5) ac))) ac))) (aa (aq jw (hr.mono) rfl iT i6 jn .nil ai (aa (aX (aa (aj aK (pv 8) (pv 7)) ac)) ac)) ac))))
       (al (ak (i:=7) sc_stretched.nd rfl (Or.inl rfl) (aj aK (pv 7) (pv 3))))))
   (al (aC (pv 6))))))))),?_⟩
  obtain⟨l',r',pl',pr',pg,el,er,em,e1,e2,pm⟩:=Lr hl2 hr2 (g:=aA [l2,r2]) (by show Nat.gcd (Nat.gcd 0 l2.natAbs) r2.natAbs=_;rw[RU]);have bg:Bits 9000 ((aA [l2,r2]:Nat):Int):=Bits.mono (j:=1400) (bl2.of_le (by rw[Qq];exact Nat.le_of_dvd (by omega) (by show Nat.gcd (Nat.gcd 0 l2.natAbs) r2.natAbs∣_;rw[RU];exact QN _ _))) (by decide)
  have bl':Bits 1400 l':=bl2.of_le (by
   rw[el,PN]
   exact RT _ (by omega))
  have br':Bits 2900 r':=br2.of_le (by
   rw[er,PN]
   exact RT _ (by omega))
  refine av ⟨_,rfl,l,C,dl,_,_,rfl,hL,R.cl,R.nB,ca _ _,_,rfl,r,C,dr,_,_,rfl,hR,R.cl,R.nB,ca _ _,_,_,rfl,rfl,⟨bl2.mono,br2.mono⟩,?_⟩;refine⟨_,rfl,l,C,dl,_,_,rfl,hL,R.cl,R.nB,ca _ _,_,rfl,r,C,dr,_,_,rfl,hR,R.cl,R.nB,ca _ _,by show 2<=sizeLine;decide,λp0 hp0=>?_⟩;have s0':=Same.upd_new (o:=.lst [V.int l2,V.int r2]) hp0;refine⟨p0,[l2,r2],rfl,SqL.of au,_,_,rfl,rfl,⟨pg,bg⟩,?_⟩;generalize upd H p0 (.lst [V.int l2,V.int r2])=H0 at s0' ⊢
  dsimp only
  rw[em];refine av ⟨_,rfl,l,C,dl,_,_,rfl,s0' _ _ hL,R.cl,R.nT,c8 _ _,_,rfl,_,rfl,l,C,dl,_,_,rfl,s0' _ _ hL,R.cl,R.nB,ca _ _,_,_,rfl,rfl,⟨hl2,bl2.mono⟩,?_⟩;dsimp only
  rw[e1];refine⟨_,_,rfl,rfl,⟨bl1.mono,br'.mono⟩,?_⟩;refine av ⟨_,rfl,r,C,dr,_,_,rfl,s0' _ _ hR,R.cl,R.nT,c8 _ _,_,rfl,_,rfl,r,C,dr,_,_,rfl,s0' _ _ hR,R.cl,R.nB,ca _ _,_,_,rfl,rfl,⟨hr2,br2.mono⟩,?_⟩;dsimp only
  rw[e2];refine⟨_,_,rfl,rfl,⟨br1.mono,bl'.mono⟩,?_⟩;have q0:l1*r'*l2=l1*(l2*r'):=by grind
  have q1:r1*l'*r2=r1*(l2*r'):=by
   calc r1*l'*r2=r1*l'*(((aA [l2,r2]:Nat):Int)*r'):=by rw[<- er]
    _=r1*((((aA [l2,r2]:Nat):Int)*l')*r'):=by grind
    _=r1*(l2*r'):=by rw[<- el]
  have q2:0<r1*l':=PB hr1 pl';have bm:Bits 4300 (l2*r'):=bl2.mul br';have bs0:Bits 4300 (l1*r'):=bl1.mul br';have bs1:Bits 4300 (r1*l'):=br1.mul bl';dsimp only
  generalize l2*r'=m at *
  generalize l1*r'=s0 at *
  generalize r1*l'=s1 at *
  have sb:∀{l:List Int},AllB 1000 l->l.length<=12->AllB 60000 (cj m s0 s1 l):=λ{l} h hl=>(wI bm bs0 bs1 h).mono (by omega)
  refine av ⟨PK _,λp1 hp1=>?_⟩;have s1':=s0'.then_new (o:=.lst []) hp1;have h1:upd H0 p1 (.lst []) p1=some (.lst []):=au;have f1:H p1=none:=s0'.free hp1;generalize upd H0 p1 (.lst [])=H1 at s1' h1 ⊢
  refine av ?_;have hl:(ns.map V.int).length=ns.length:=PC _;refine⟨_,rfl,a,_,rfl,SqL.of (s1' _ _ hA),ul (K:=K) (a:=a) (xs:=ns.map V.int) (λi σ' H'=>∃(p:Addr) (z:Option V),σ'=[some (.ref a),some (.ref l),some (.ref r),some (.int m),some (.int s0),some (.int s1),some (.ref p),some (.int (m^i)),z]/\Same H H'/\H p=none/\H' p=some (.lst ((cj m s0 s1 (ns.drop (ns.length-i))).map V.int))) ⟨p1,none,by rw[QO];rfl,s1',f1,by rw[QV,List.drop_length];exact h1⟩ ?_ ?_ ?_⟩
  ·rintro i σ' H' _ ⟨p,z,rfl,sm,_⟩;exact SqL.of (sm _ _ hA)
  ·rintro i x σ' H2 hi hx ⟨p,z,rfl,s2,fp,e2'⟩;rw[hl]at hi hx;obtain⟨c,ec,rfl,hc,_⟩:=fO hx;have bc:=hbn c hc;have hd:=Bj hi ec;have len:(ns.drop (ns.length-i)).length=i:=by rw[Rk];omega
   have hbd:AllB 1000 (ns.drop (ns.length-i)):=λx hx=>hbn x (So hx)
   have aF:=sb hbd (by omega);have lF:(cj m s0 s1 (ns.drop (ns.length-i))).length=i:=by rw[jL,len]
   have bP:Bits 60000 (m^i):=(jk bm i).mono (by omega)
   have eF:iw (af (cj m s0 s1 (ns.drop (ns.length-i))) [s0,s1]) (trim [c*m^i])=cj m s0 s1 (ns.drop (ns.length-(i+1))):=by
    have hT':Tr (cj m s0 s1 (ns.drop (ns.length-(i+1)))):=CL q2 (by rw[hd];simp) (CS hT (by omega));rw[hd]at hT' ⊢
    have hT2:Tr (mb (-s0) s1 (c*m^i) (cj m s0 s1 (ns.drop (ns.length-i)))):=by have:cj m s0 s1 (c::ns.drop (ns.length-i))=mb (-s0) s1 (c*m^(ns.drop (ns.length-i)).length) (cj m s0 s1 (ns.drop (ns.length-i))):=rfl;rw[this,len]at hT';exact hT'
    show _=mb (-s0) s1 (c*m^(ns.drop (ns.length-i)).length) (cj m s0 s1 (ns.drop (ns.length-i)));rw[len];by_cases hi0:i=0
    ·subst hi0;have e0:cj m s0 s1 (ns.drop (ns.length-0))=[]:=by rw[QV,List.drop_length];rfl
     rw[e0]at hT2 ⊢;refine mE (fX _) hT2 λk=>?_
     unfold iw;rw[gO,ip,aL,gO,PY];show 0+_=_;rw[QK];rfl
    ·have hn':cj m s0 s1 (ns.drop (ns.length-i))≠[]:=λz=>by rw[z]at lF;exact hi0 lF.symm
     have:=Dm (a := -s0) (b:=s1) (c:=c*m^i) hn' hT2;rw[Int.neg_neg]at this;exact this
   show cI (iB _ (jc 6)) _ _ _ _
   have bs:AllB 4300 [s0,s1]:=λx hx=>by
    simp only[PM,QJ,or_false]at hx;rcases hx with rfl |rfl
    ·exact bs0
    ·exact bs1
   generalize cj m s0 s1 (ns.drop (ns.length-i))=Fs at *
   refine av ⟨_,rfl,_,rfl,_,rfl,by show 2<=sizeLine;decide,λp3 hp3=>?_⟩;have s3:=s2.then_new (o:=.lst ([s0,s1].map V.int)) hp3;have e3:upd H2 p3 (.lst ([s0,s1].map V.int)) p=some (.lst (Fs.map V.int)):=(Same.upd_new hp3) _ _ e2';have h3:upd H2 p3 (.lst ([s0,s1].map V.int)) p3=some (.lst ([s0,s1].map V.int)):=au;refine⟨p,p3,Fs,[s0,s1],rfl,e3,h3,by omega,by show 2<=1000000;decide,aF.mono,bs.mono,λp4 H4 s4 hp4 e4=>?_⟩;have t4:=s3.trans s4;refine⟨_,rfl,_,rfl,_,_,rfl,rfl,⟨bc.mono,bP.mono⟩,by show 1<=sizeLine;decide,λp5 hp5=>?_⟩;have s5:=t4.then_new (o:=.lst ([c*m^i].map V.int)) hp5;have e5:upd H4 p5 (.lst ([c*m^i].map V.int)) p4=some (.lst ((af Fs [s0,s1]).map V.int)):=(Same.upd_new hp5) _ _ e4;have h5:upd H4 p5 (.lst ([c*m^i].map V.int)) p5=some (.lst ([c*m^i].map V.int)):=au;refine⟨p5,[c*m^i],rfl,SqL.of h5,λp6 H6 s6 hp6 e6=>?_⟩;have t6:=s5.trans s6;refine⟨p4,p6,af Fs [s0,s1],trim [c*m^i],rfl,SqL.of (s6 _ _ e5),SqL.of e6,?_,?_,λp7 H7 s7 hp7 e7=>?_⟩
   ·have:(af Fs [s0,s1]).length<=1000:=by
     unfold af;split
     ·exact PK _
     ·rw[PC,Q5];show _+2-1<=_;omega
    omega
   ·have:=tN [c*m^i];have:(trim [c*m^i]).length<=1:=this;omega
   rw[eF]at e7;refine cD ⟨_,rfl,_,rfl,_,_,rfl,rfl,⟨bP.mono,bm.mono⟩,?_⟩;refine⟨p7,some (.int c),?_,t6.trans s7,t6.free hp7,e7⟩;rw[Ql];rfl
  ·rintro σ' H' ⟨p,z,rfl,sm,fp,e⟩;rw[hl,Rp,Rw]at e;exact⟨_,rfl,k m s0 s1 pm q0 q1 q2 (sb hbn hln) p H' sm fp e⟩
def w6:Sp:=λvs H Q _=>∃(a:Addr) (ns:List Int),vs=[.ref a]/\H a=some (.lst (ns.map V.int))/\ns.length<=1000/\AllB 500000 ns/\mkL H Q (cJ ns)
theorem FT(F:Fun K "spread" "spread" qF f fd)(T:Txt K mg):FnOk P w K mg base CX0 1 f fd ["row"] w6:=by
 refine F.ok sc_spread (λvs H Q E h=>?_) (λcdv A outer s H vs Q E hr h=>?_)
 ·obtain⟨a,ns,rfl,_⟩:=h;rfl
 ·obtain⟨a,ns,rfl,hA,hn,hb,k⟩:=h;have big:=sizeLine_eq
  refine⟨_,(ag (ak (i:=1) sc_spread.nd rfl (Or.inl rfl) (aX ac))
   (ag (ak (i:=2) sc_spread.nd rfl (Or.inl rfl) ad)
   (ag (cV PassesOwn.never rfl (sQ rfl T.reversed_ (aa (pv 0) ac)) (aS (i:=3) sc_spread.nd rfl (Or.inl rfl))
     (ag (fe (gB PySem.F.plainAttrs_list PySem.F.slot_list_append PySem.F.type_list_append gE (pv 1) (aa (aj aK (pv 2) (pv 3)) ac)))
       (al (ak (i:=2) sc_spread.nd rfl (Or.inl rfl) (aj aK ad (pv 2))))))
   (ag (fe (y0 PySem.F.plainAttrs_list PySem.F.slot_list_reverse PySem.F.type_list_reverse Hs (pv 1)))
   (al (aC (pv 1))))))),?_⟩
  refine av ⟨PK _,λp1 hp1=>?_⟩;have s1':=Same.upd_new (o:=.lst []) hp1;have h1:upd H p1 (.lst []) p1=some (.lst []):=au;generalize upd H p1 (.lst [])=H1 at s1' h1 ⊢
  refine av ?_;have hl:(ns.map V.int).length=ns.length:=PC _;refine⟨_,rfl,a,_,rfl,SqL.of (s1' _ _ hA),ul (K:=K) (a:=a) (xs:=ns.map V.int) (λi σ' H'=>∃z:Option V,σ'=[some (.ref a),some (.ref p1),some (.int (2^i)),z]/\Same H H'/\H' p1=some (.lst ((cJ (ns.drop (ns.length-i))).reverse.map V.int))) ⟨none,rfl,s1',by rw[QV,List.drop_length];exact h1⟩ ?_ ?_ ?_⟩
  ·rintro i σ' H' _ ⟨z,rfl,sm,_⟩;exact SqL.of (sm _ _ hA)
  ·rintro i x σ' H2 hi hx ⟨z,rfl,s2,h2⟩;rw[hl]at hi hx;obtain⟨c,ec,rfl,hc,_⟩:=fO hx;have hd:=Bj hi ec;have len:(ns.drop (ns.length-i)).length=i:=by rw[Rk];omega
   show cI (np _) _ _ _ _;refine gt ⟨_,rfl,.inl ⟨rfl,_,SqL.of h2⟩,_,rfl,_,rfl,_,_,rfl,rfl,⟨(lN (n:=i) (k:=1001) (by omega)).mono,(hb c hc).mono⟩,p1,_,_,rfl,rfl,h2,by rw[PC,List.length_reverse,nC,len];omega,?_⟩;refine cD ⟨_,rfl,_,_,rfl,rfl,⟨kM,(lN (n:=i) (k:=1001) (by omega)).mono⟩,?_⟩;refine⟨some (.int c),?_,eo s2 hp1,?_⟩
   ·show[some (V.ref a),some (V.ref p1),some (V.int (2*2^i)),some (V.int c)]=_;rw[Ql,P9]
   ·rw[au,hd,HC];show some (HO.lst (((cJ (ns.drop (ns.length-i))).reverse++[2^i*c]).map V.int))=some (HO.lst ((2^(ns.drop (ns.length-i)).length*c::cJ (ns.drop (ns.length-i))).reverse.map V.int));rw[List.reverse_cons,len]
  ·rintro σ' H2 ⟨z,rfl,s2,h2⟩;rw[hl,Rp,Rw]at h2;dsimp only
   refine gt ⟨_,rfl,.inl ⟨rfl,_,SqL.of h2⟩,p1,_,rfl,rfl,h2,?_⟩;refine⟨_,rfl,k p1 _ (eo s2 hp1) hp1 ?_⟩;rw[au,<- List.map_reverse,List.reverse_reverse]
noncomputable def dQ(m:List Int)(j:Nat):List Int:=m.take (m.length-1-j)++suf (m.drop (m.length-1-j))
theorem sU:∀(i:Nat) (m:List Int),ei i m=m.take i++suf (m.drop i)
 |0,m=>by rw[R7,Rw];rfl
 |i+1,[]=>rfl
 |i+1,c::m=>by show c::ei i m=c::(m.take i++suf (m.drop i));rw[sU i m]
theorem JT(m:List Int)(j:Nat):(dQ m j).length=m.length:=by unfold dQ;rw[Qi,jK,<- Qi,List.take_append_drop]
theorem JR(m:List Int):dQ m 0=m:=by
 unfold dQ;rw[QV];cases hd:m.drop (m.length-1)with
 |nil =>have:m.length-1=m.length\/True:=.inr trivial;have h1:m.length<=m.length-1:=List.drop_eq_nil_iff.mp hd;have:m=[]:=Rt (by omega);subst this;rfl
 |cons c r =>have hl:=congrArg List.length hd;rw[Rk,Qw]at hl;have:r=[]:=Rt (by omega);subst this;show _++[c+0]=_;rw[Qy,<- hd,List.take_append_drop]
theorem JU(m:List Int){i:Nat}(h:i+1<=m.length):dQ m (m.length-1-i)=ei i m:=by
 unfold dQ;rw[sU];have:m.length-1-(m.length-1-i)=i:=by omega
 rw[this]
theorem JS(m:List Int){j:Nat}(h:j+2<=m.length):(dQ m j).set (m.length-2-j) (cf (dQ m j) (m.length-2-j)+cf (dQ m j) (m.length-1-j))=dQ m (j+1):=by
 have e1:m.length-1-(j+1)=m.length-2-j:=by omega
 have e2:m.length-1-j=m.length-2-j+1:=by omega
 have hk:m.length-2-j<m.length:=by omega
 unfold dQ;rw[e1,e2];generalize m.length-2-j=k at hk e2
 have hd:m.drop k=m[k]::m.drop (k+1):=Sv hk;have ht:m.take (k+1)=m.take k++[m[k]]:=by rw[QI,List.getElem?_eq_getElem hk];rfl
 rw[hd,ht];have lt:(m.take k).length=k:=by rw[QB];omega
 have c1:cf (m.take k++[m[k]]++suf (m.drop (k+1))) k=m[k]:=by rw[Sb,mM (by omega),lt,Rp];rfl
 have c2:cf (m.take k++[m[k]]++suf (m.drop (k+1))) (k+1)=(suf (m.drop (k+1))).headD 0:=by
  rw[mM (by rw[Qi,lt];exact PF _),Qi,lt];show cf _ (k+1-(k+1))=_;rw[Rp];cases suf (m.drop (k+1))with
  |nil=>rfl
  |cons _ _=>rfl
 rw[c1,c2];show _=m.take k++((m[k]+(suf (m.drop (k+1))).headD 0)::suf (m.drop (k+1)));rw[Sb,List.set_append_right _ _ (by omega),lt,Rp];rfl
theorem wF{M:Nat}:∀{l:List Int},(∀x∈l,x.natAbs<=M)->∀x∈suf l,x.natAbs<=l.length*M
 | [],_,x,hx=>nomatch hx
 |v::l,h,x,hx=>by
  have ih:=wF (l:=l) λx hx=>h x (PP _ hx)
  have hv:=h v (PU ..)
  have hh:((suf l).headD 0).natAbs<=l.length*M:=by
   cases hs:suf l with
   |nil=>show(0:Int).natAbs<=_;exact PK _
   |cons g r=>exact ih g (by rw[hs];exact PU ..)
  rw[Qw,Nat.add_mul,Nat.one_mul];rcases PM.mp hx with e |e
  ·subst e;exact PX (Sc _ _) (PX (Sh hv hh) (Rj (Nat.add_comm _ _)))
  ·exact PX (ih x e) (Sd _ _)
theorem FC{i k:Nat}{m:List Int}(h:AllB i m)(hl:m.length<=16):AllB (i+4) (ei k m):=by
 rw[sU];refine AllB.app (λx hx=>(h x (Sq hx)).mono (by omega)) λx hx=>?_
 have h1:=wF (M:=2^i-1) (l:=m.drop k) (λy hy=>by have:y.natAbs<2^i:=h y (So hy);omega) x hx;have h2:(m.drop k).length*(2^i-1)<=16*(2^i-1):=QD _ (by rw[Rk];omega);have h3:0<2^i:=Q4 (by decide);show x.natAbs<2^(i+4);have h4:2^(i+4)=2^i*16:=by rw[Nat.pow_add]
 omega
theorem zE{i:Nat}{m:List Int}(h:AllB i m)(hl:m.length<=16):∀n,AllB (i+4*n) (fL n m)
 |0=>h
 |n+1=>by have:=FC (k:=n) (zE h hl n) (by rw[oA];exact hl);exact this.mono (by omega)
theorem Hv{i:Nat}{m:List Int}(h:AllB i m)(hl:m.length<=12):AllB (i+44) (md m):=(zE h (by omega) _).mono (by omega)
theorem wP{i:Nat}:∀{m:List Int},AllB i m->m.length<=12->AllB (i+13) (cJ m)
 | [],_,_=>AllB.nil
 |v::m,h,hl=>by
  have ih:=wP (m:=m) (λx hx=>h x (PP _ hx)) (by rw[Qw]at hl;omega);intro x hx;rcases PM.mp hx with e |e
  ·subst e;have:=(lN (n:=m.length) (k:=13) (by rw[Qw]at hl;omega)).mul (h v (PU ..));exact this.mono (by omega)
  ·exact ih x e
def xA:Sp:=λvs H Q _=>∃(a:Addr) (ns:List Int),vs=[.ref a]/\H a=some (.lst (ns.map V.int))/\1<=ns.length/\ns.length<=1000/\mkL H Q (md ns)
theorem qw(l:List Int)(k:Nat)(v:Int):(l.map V.int).set k (.int v)=(l.set k v).map V.int:=by rw[List.map_set]
theorem vx{l:List Int}{k:Nat}{j:Int}(e:j=(k:Int))(h:k<l.length):atI (l.map V.int) j=some (.int (cf l k)):=by subst e;refine kC ?_;rw[List.getElem?_map,List.getElem?_eq_getElem h];show some (V.int l[k])=_;rw[uY (List.getElem?_eq_getElem h)]
theorem Gs(F:Fun K "moved" "moved" rd f fd)(T:Txt K mg)(eK:Cal P w K mg base 1 "degree" ["row"] gX km ki):FnOk P w K mg base CX0 2 f fd ["row"] xA:=by
 obtain⟨dA,dm,dq,dz⟩:=eK;refine F.ok sc_moved (λvs H Q E h=>?_) (λcdv A outer s H vs Q E hr h=>?_)
 ·obtain⟨a,ns,rfl,_⟩:=h;rfl
 ·obtain⟨a,ns,rfl,hA,hn1,hn,k⟩:=h;have big:=sizeLine_eq
  refine⟨_,(ag (ak (i:=1) sc_moved.nd rfl (Or.inl rfl) (oq (va (K:=K) rfl) (by rfl) T.list_ PyProof.Rows.boot_list (aa (pv 0) ac)))
   (ag (cV PassesOwn.never rfl (g9 rfl T.range_ (aa (aq dA (hr.mono) rfl dm dq dz .nil ai (aa (pv 0) ac)) ac)) (aS (i:=2) sc_moved.nd rfl (Or.inl rfl))
     (al (cV PassesOwn.never rfl (yY rfl T.range_ (aa (aj cq (aq dA (hr.mono) rfl dm dq dz .nil ai (aa (pv 0) ac)) ad) (aa (aj cq (pv 2) ad) (aa (bK bJ ad) ac)))) (aS (i:=3) sc_moved.nd rfl (Or.inl rfl))
       (al (gw (aj aY (aE (b5 (K:=K) rfl) (pv 1) (pv 3) (λ_ _=>rfl)) (aE (b5 (K:=K) rfl) (pv 1) (aj aY (pv 3) ad) (λ_ _=>rfl))) (lT (pv 1) (pv 3) ll))))))
   (al (aC (pv 1))))),?_⟩
  refine av ⟨_,rfl,a,_,rfl,.inl (SqL.of hA),λp hp=>?_⟩;have s1':=Same.upd_new (o:=.lst (ns.map V.int)) hp;have h1:upd H p (.lst (ns.map V.int)) p=some (.lst (ns.map V.int)):=au;generalize upd H p (.lst (ns.map V.int))=H1 at s1' h1 ⊢
  have hl:(ns.map V.int).length=ns.length:=PC _;have ed:((ns.map V.int).length:Int)-1=((ns.length-1:Nat):Int):=by rw[hl];omega
  refine⟨_,rfl,a,_,rfl,s1' _ _ hA,_,rfl,(by rw[ed];omega),(by rw[ed];omega),?_⟩;rw[ed];refine kh (lo:=0) (n:=ns.length-1) (λi σ' H'=>∃z2 z3:Option V,σ'=[some (.ref a),some (.ref p),z2,z3]/\Same H H'/\H' p=some (.lst ((fL i ns).map V.int))) ⟨none,none,rfl,s1',h1⟩ ?_ ?_
  ·rintro i σ' H2 hi ⟨z2,z3,rfl,s2,h2⟩;have lm:(fL i ns).length=ns.length:=oA _ _;generalize hM:fL i ns=M at h2 lm
   obtain⟨r,er⟩:∃r,ns.length=r+2:=⟨ns.length-2,by omega⟩;have er1:ns.length-1=r+1:=by rw[er];rfl
   have er2:ns.length-2=r:=by rw[er];rfl
   have hr':r+2<=100000:=by rw[<- er];omega
   rw[er1]at hi;refine⟨_,rfl,a,_,rfl,s2 _ _ hA,_,_,rfl,rfl,_,rfl,_,_,rfl,rfl,_,rfl,(r:Int),(i:Int)-1,?_,⟨by omega,by omega,by omega,by omega⟩,?_⟩
   ·rw[ed,er1];have e1:((r+1:Nat):Int)-1=(r:Int):=by omega
    have e2:(0:Int)+(i:Int)-1=(i:Int)-1:=by omega
    dsimp only
    rw[e1,e2]
   have en:((r:Int)-((i:Int)-1)).toNat=r+1-i:=by omega
   rw[en];refine AM (λj σ' H'=>∃z3:Option V,σ'=[some (.ref a),some (.ref p),some (.int (0+(i:Int))),z3]/\Same H H'/\H' p=some (.lst ((dQ M j).map V.int))) ⟨z3,rfl,s2,by rw[JR];exact h2⟩ ?_ ?_
   ·rintro j σ' H3 hj ⟨z3,rfl,s3,h3⟩;have hj':j<=r:=by omega
    have lh:(dQ M j).length=r+2:=by rw[JT,lm,er]
    have hs:=JS M (j:=j) (by rw[lm,er];omega);rw[lm,er1,er2]at hs;have k1:(r:Int)+(j:Int) * -1=((r-j:Nat):Int):=by omega
    have k2:(r:Int)+(j:Int) * -1+1=((r+1-j:Nat):Int):=by omega
    refine⟨_,rfl,_,rfl,p,_,_,_,rfl,rfl,SqL.of h3,vx k1 (by omega),_,rfl,_,rfl,_,_,rfl,rfl,p,_,_,_,rfl,rfl,SqL.of h3,vx k2 (by omega),_,_,rfl,rfl,_,rfl,_,rfl,p,_,_,r-j,rfl,rfl,h3,?_,?_⟩
    ·exact mB k1 (by rw[PC];omega)
    refine⟨_,rfl,eo s3 hp,?_⟩;rw[au,qw,hs]
   ·rintro σ' H3 ⟨z3,rfl,s3,h3⟩;refine⟨_,_,rfl,s3,?_⟩
    have:dQ M (r+1-i)=fL (i+1) ns:=by rw[<- er1,<- lm,JU M (by rw[lm,er];omega),<- hM];rfl
    rw[<- this];exact h3
  ·rintro σ' H2 ⟨z2,z3,rfl,s2,h2⟩;exact⟨_,rfl,k p H2 s2 hp h2⟩
structure RootB(ns:List Int)(ε:Int)(up:Int->Int->Prop):Prop where
 e1:ε=1\/ε = -1
 r1:∀p c,0<p->p<=c->up p c->sg (hv p c ns) = -ε
 r2:∀p c,0<p->p<=c->¬up p c->sg (hv p c ns)=ε\/sg (hv p c ns)=0
 r3:∀p c p' c',0<p->p<=c->0<p'->p'<=c'->¬up p c->p*c'<p'*c->sg (hv p' c' ns)=ε
 sc:∀p c,0<c->(up (2*p) (2*c)↔up p c)
 top:¬up 1 1
theorem JM(p c:Int)(l:List Int):sg (hv (2*p) (2*c) l)=sg (hv p c l):=by rw[oV];exact eT (Qs (by decide))
def xH:Sp:=λvs H Q _=>∃(a:Addr) (ns:List Int) (e:Int) (n:Nat) (ε:Int) (up:Int->Int->Prop),vs=[.ref a,.int e,.int n]/\H a=some (.lst (ns.map V.int))/\1<=ns.length/\ns.length<=12/\AllB 60000 ns/\n<=4000/\RootB ns ε up/\e=sg (hv 1 1 ns) /\
 ∀(p:Addr) (H':Hp) (pl:Nat),Same H H'->H p=none->H' p=some (.tup [.int pl,.int (2^n)])->pl<2^n->(pl=0\/up pl (2^n))->¬up ((pl:Int)+1) (2^n)->Q (.ref p) H'
theorem GC(F:Fun K "halved" "halved" rz f fd)(T:Txt K mg)(M8:Cal P w K mg base 1 "spread" ["row"] w6 OP N3)(jA:Cal P w K mg base 1 "whole_sign" ["value"] kU uE ut)(Nn:Cal P w K mg base 2 "moved" ["row"] xA O3 Oh):FnOk P w K mg base CX0 3 f fd ["row","end","steps"] xH:=by
 obtain⟨Mr,HP,IY,LA⟩:=M8;obtain⟨ju,iR,iY,jl⟩:=jA;obtain⟨ME,Ic,Ji,LN⟩:=Nn;refine F.ok sc_halved (λvs H Q E h=>?_) (λcdv A outer s H vs Q E hr h=>?_)
 ·obtain⟨a,ns,e,n,ε,up,rfl,_⟩:=h;rfl
 ·obtain⟨a,ns,e,n,ε,up,rfl,hA,h1n,hln,hbn,hn,hB,he,k⟩:=h
  refine⟨_,(ag (ak (i:=3) sc_halved.nd rfl (Or.inl rfl) ad)
   (ag (ak (i:=4) sc_halved.nd rfl (Or.inl rfl) ad)
   (ag (ak (i:=5) sc_halved.nd rfl (Or.inl rfl) (pv 1))
   (ag (ak (i:=6) sc_halved.nd rfl (Or.inl rfl) (pv 0))
   (ag (cV PassesOwn.never rfl (g9 rfl T.range_ (aa (pv 2) ac)) (aS (i:=7) sc_halved.nd rfl (Or.inl rfl))
     (ag (ak (i:=3) sc_halved.nd rfl (Or.inl rfl) (aj aK ad (pv 3)))
       (ag (ak (i:=4) sc_halved.nd rfl (Or.inl rfl) (aj aK ad (pv 4)))
       (ag (ak (i:=6) sc_halved.nd rfl (Or.inl rfl) (aq Mr (hr.mono) rfl HP IY LA .nil ai (aa (pv 6) ac)))
       (ag (ak (i:=8) sc_halved.nd rfl (Or.inl rfl) (aq ju (hr.mono) rfl iR iY jl .nil ai (aa (bz (Lj (K:=K) rfl rfl) (by rfl) T.sum_ PyProof.Rows.boot_sum (aa (pv 6) ac)) ac)))
       (al (aR (PW.pt (lC (aH f8 (pv 8) ad (aG _)) (ly (aH f8 (pv 8) (pv 5) (aG _)))))
         (ag (ak (i:=3) sc_halved.nd rfl (Or.inl rfl) (aj aY (pv 3) ad))
           (al (ak (i:=6) sc_halved.nd rfl (Or.inl rfl) (aq ME (hr.mono) rfl Ic Ji LN .nil ai (aa (pv 6) ac)))))
         (al (ak (i:=5) sc_halved.nd rfl (Or.inl rfl) (pv 8))))))))))
   (al (aC (db (aa (pv 3) (aa (pv 4) ac)))))))))),?_⟩
  refine av ?_;refine av ?_;refine av ⟨_,rfl,?_⟩;refine av ⟨_,rfl,?_⟩;refine⟨_,rfl,n,rfl,by omega,by omega,kh (lo:=0) (n:=n) (λi σ' H'=>∃(p:Addr) (pl:Nat) (L:List Int) (z7 z8:Option V),σ'=[some (.ref a),some (.int e),some (.int n),some (.int pl),some (.int (2^i)),some (.int (sg (hv ((pl:Int)+1) (2^i) ns))),some (.ref p),z7,z8]/\Same H H'/\H' p=some (.lst (L.map V.int))/\L.length=ns.length/\AllB (60000+60*i) L/\(∀p q:Int,2^i*hv p q L=hv (pl*q+p) (2^i*q) ns)/\pl<2^i/\(pl=0\/up pl (2^i))/\¬up ((pl:Int)+1) (2^i)) ⟨a,0,ns,none,none,by rw[he];rfl,Same.refl _,hA,rfl,hbn,λp q=>by rw[QO,PY,PY];show _=hv (0*q+p) q ns;rw[Qp,QK],by decide,.inl rfl,by rw[QO];exact hB.top⟩ ?_ ?_⟩
  ·rintro i σ' H1 hi ⟨p,pl,L,z7,z8,rfl,s1,h1,lL,bL,hval,hpl,hup,hnup⟩;show cI (iB _ (jc 3)) _ _ _ _;have b2i:Bits 4002 ((2:Int)^i):=lN (by omega);have p2i:=jY i;have cpl:(pl:Int)<2^i:=by rw[iJ];exact RQ.mpr hpl
   have bpl:Bits 4002 (pl:Int):=b2i.of_le (by rw[iJ];omega);refine av ⟨_,rfl,_,_,rfl,rfl,⟨kM,bpl.mono⟩,?_⟩;refine av ⟨_,rfl,_,_,rfl,rfl,⟨kM,b2i.mono⟩,?_⟩;refine av ⟨_,rfl,p,L,rfl,h1,by omega,bL.mono (by omega),λp2 H2 s2 hp2 e2=>?_⟩;have t2:=s1.trans s2;have lS:(cJ L).length=ns.length:=by rw[nC,lL]
   have bS:AllB (60000+60*i+13) (cJ L):=wP bL (by omega);have e2i:(2:Int)*2^i=2^(i+1):=by rw[Ql,P9]
   have vS:∀p q:Int,2^(i+1)*hv p q (cJ L)=hv (((2*pl:Nat):Int)*q+p) (2^(i+1)*q) ns:=λp q=>by
    have h3:=hval p (2*q);rw[<- Az]at h3;have h4:(2:Int)^(i+1)*hv p q (cJ L)=2^i*(2*hv p q (cJ L)):=by rw[Ql];grind
    rw[h4,h3]
    have h5:(pl:Int)*(2*q)+p=((2*pl:Nat):Int)*q+p:=by
     have:((2*pl:Nat):Int)=2*(pl:Int):=by omega
     rw[this];grind
    have h6:(2:Int)^i*(2*q)=2^(i+1)*q:=by rw[Ql];grind
    rw[h5,h6]
   refine av ⟨_,rfl,p2,cJ L,rfl,SqL.of e2,_,rfl,?_⟩;have p2i1:=jY (i+1)
   have ethere:sg (cJ L).sum=sg (hv (((2*pl:Nat):Int)+1) (2^(i+1)) ns):=by have h3:=vS 1 1;rw[P8,P8]at h3;rw[<- Ax,<- h3,eT p2i1]
   have c2pl:(((2*pl:Nat):Int)+1)<=2^(i+1):=by rw[<- e2i];omega
   have hold:sg (hv ((pl:Int)+1) (2^i) ns)=sg (hv (2*((pl:Int)+1)) (2^(i+1)) ns):=by rw[<- e2i,JM]
   have plc:(pl:Int)+1<=2^i:=by omega
   generalize hth:sg (cJ L).sum=th at ethere
   show jJ _ _ _ _ _ _;have epl:(2:Int)*(pl:Int)=((2*pl:Nat):Int):=by omega
   have n2i:2^(i+1)=2*2^i:=by rw[Rb,Q3]
   refine dZ (λσ' H'=>σ'=[some (.ref a),some (.int e),some (.int n),some (.int (2*(pl:Int))),some (.int (2*2^i)),some (.int (sg (hv ((pl:Int)+1) (2^i) ns))),some (.ref p2),some (.int (0+(i:Int))),some (.int th)]/\H2=H') ⟨by rw[<- hth];rfl,rfl⟩ ?_;rintro σ' H' ⟨rfl,rfl⟩;by_cases hu:up (((2*pl:Nat):Int)+1) (2^(i+1))
   ·
    have r1:=hB.r1 _ _ (by omega) c2pl hu;rw[<- ethere]at r1;have r2:=hB.r2 _ _ (by omega) plc hnup;have n0:th≠0:=by rcases hB.e1 with z |z<;>omega
    have n1:th≠sg (hv ((pl:Int)+1) (2^i) ns):=by rcases hB.e1 with z |z<;>rcases r2 with y |y<;>omega
    refine jU (jV ⟨_,rfl,_,_,rfl,rfl,_,rfl,da (λ_=>?_) (λh0=>absurd h0 n0)⟩);refine⟨_,rfl,_,rfl,_,_,rfl,rfl,_,rfl,da (λ_=>?_) (λh0=>absurd h0 n1)⟩;refine av ⟨_,rfl,_,_,rfl,rfl,?_⟩;refine cD ⟨_,rfl,p2,cJ L,rfl,e2,by omega,by omega,λp3 H3 s3 hp3 e3=>?_⟩;refine⟨p3,2*pl+1,md (cJ L),some (.int (0+(i:Int))),some (.int th),?_,t2.trans s3,e3,by rw[zF,lS],(Hv bS (by omega)).mono (by omega),λp q=>?_,by omega,.inr ?_,?_⟩
    ·have q1:(2:Int)*(pl:Int)+1=((2*pl+1:Nat):Int):=by omega
     have q2:((2*pl+1:Nat):Int)+1=2*((pl:Int)+1):=by omega
     rw[q2,<- hold,<- q1,<- e2i];rfl
    ·rw[JN,vS]
     have:((2*pl:Nat):Int)*q+(p+q)=((2*pl+1:Nat):Int)*q+p:=by
      have:((2*pl+1:Nat):Int)=((2*pl:Nat):Int)+1:=by omega
      rw[this];grind
     rw[this]
    ·exact hu
    ·have q2:((2*pl+1:Nat):Int)+1=2*((pl:Int)+1):=by omega
     rw[q2,<- e2i,hB.sc _ _ p2i];exact hnup
   ·
    have r2:=hB.r2 _ _ (by omega) c2pl hu;rw[<- ethere]at r2
    have r3:=hB.r3 _ _ ((pl:Int)+1) (2^i) (by omega) c2pl (by omega) plc hu (by
     have h7:(((2*pl:Nat):Int)+1)*2^i<(2*(pl:Int)+2)*2^i:=Qv (by omega) p2i;have h8:((pl:Int)+1)*2^(i+1)=(2*(pl:Int)+2)*2^i:=by rw[Ql];grind
     omega)
    have low:∃(p:Addr) (q:Nat) (L':List Int) (z7 z8:Option V),[some (V.ref a),some (V.int e),some (V.int n),some (V.int (2*(pl:Int))),some (V.int (2*2^i)),some (V.int th),some (V.ref p2),some (V.int (0+(i:Int))),some (V.int th)]=[some (.ref a),some (.int e),some (.int n),some (.int q),some (.int (2^(i+1))),some (.int (sg (hv ((q:Int)+1) (2^(i+1)) ns))),some (.ref p),z7,z8]/\Same H H2/\H2 p=some (.lst (L'.map V.int))/\L'.length=ns.length/\AllB (60000+60*(i+1)) L'/\(∀p q':Int,2^(i+1)*hv p q' L'=hv (q*q'+p) (2^(i+1)*q') ns)/\q<2^(i+1)/\(q=0\/up q (2^(i+1)))/\¬up ((q:Int)+1) (2^(i+1)):=by
     refine⟨p2,2*pl,cJ L,some (.int (0+(i:Int))),some (.int th),by rw[e2i,epl,ethere],t2,e2,lS,bS.mono (by omega),vS,by omega,?_,hu⟩;rcases hup with z |z
     ·exact .inl (by omega)
     ·refine .inr ?_;rw[<- epl,<- e2i,hB.sc _ _ p2i];exact z
    by_cases n0:th=0
    ·refine jU (jV ⟨_,rfl,_,_,rfl,rfl,_,rfl,da (λh0=>absurd n0 h0) (λ_=>?_)⟩);exact f6 (cD ⟨_,rfl,low⟩)
    ·have n1:th=sg (hv ((pl:Int)+1) (2^i) ns):=by
      rcases r2 with z |z
      ·rw[z,r3]
      ·exact absurd z n0
     refine jU (jV ⟨_,rfl,_,_,rfl,rfl,_,rfl,da (λ_=>?_) (λh0=>absurd h0 n0)⟩);refine⟨_,rfl,_,rfl,_,_,rfl,rfl,_,rfl,da (λh0=>absurd n1 h0) (λ_=>?_)⟩;exact cD ⟨_,rfl,low⟩
  ·rintro σ' H1 ⟨p,pl,L,z7,z8,rfl,s1,h1,lL,bL,hval,hpl,hup,hnup⟩;dsimp only
   refine bj ⟨_,rfl,_,rfl,by show 2<=sizeLine;decide,λp' hp'=>?_⟩;exact k p' _ pl (s1.then_new hp') (s1.free hp') au hpl hup hnup
structure RootU(ns:List Int)(l1 l2 h1 h2 ε:Int)(Up:Int->Int->Prop):Prop where
 e1:ε=1\/ε = -1
 r1:∀x1 x2,0<x2->l1*x2<x1*l2->x1*h2<=h1*x2->Up x1 x2->sg (hv x1 x2 ns) = -ε
 r2:∀x1 x2,0<x2->l1*x2<x1*l2->x1*h2<=h1*x2->¬Up x1 x2->sg (hv x1 x2 ns)=ε\/sg (hv x1 x2 ns)=0
 r3:∀x1 x2 y1 y2,0<x2->0<y2->l1*x2<x1*l2->y1*h2<=h1*y2->¬Up x1 x2->x1*y2<y1*x2->sg (hv y1 y2 ns)=ε
 sc:∀x1 x2 y1 y2,0<x2->0<y2->x1*y2=y1*x2->Up x1 x2->Up y1 y2
 low:Up l1 l2
 top:¬Up h1 h2
structure EndsG(k:Nat)(l1 l2 h1 h2:Int):Prop where
 l2p:0<l2
 h2p:0<h2
 bl1:Bits k l1
 bl2:Bits k l2
 bh1:Bits k h1
 bh2:Bits k h2
 lt:l1*h2<h1*l2
 gl:Nat.gcd l1.natAbs l2.natAbs=1
 gh:Nat.gcd h1.natAbs h2.natAbs=1
theorem EndsG.mono{j k:Nat}{l1 l2 h1 h2:Int}(e:EndsG j l1 l2 h1 h2)(h:j<=k:=by decide):EndsG k l1 l2 h1 h2:=⟨e.l2p,e.h2p,e.bl1.mono h,e.bl2.mono h,e.bh1.mono h,e.bh2.mono h,e.lt,e.gl,e.gh⟩
structure NarP(l1 l2 h1 h2 w1 w2:Int)(Up:Int->Int->Prop)(kb:Nat)(n pl:Nat)(x1 x2 y1 y2:Int):Prop where
 ends:EndsG kb x1 x2 y1 y2
 ux:Up x1 x2
 uy:¬Up y1 y2
 lo:l1*x2<=x1*l2
 hi:y1*h2<=h1*y2
 wide:(y1*x2-x1*y2)*w2<=w1*(x2*y2)
 pls:pl<2^n
 ex:x1*(l2*h2*2^n)=(l1*h2*2^n+(h1*l2-l1*h2)*pl)*x2
 ey:y1*(l2*h2*2^n)=(l1*h2*2^n+(h1*l2-l1*h2)*(pl+1))*y2
 big:∀j:Nat,j<n->w1*(h2*l2)*2^j<(h1*l2-l1*h2)*w2
 fit:(h1*l2-l1*h2)*w2<=w1*(h2*l2)*2^n
theorem DN{x1 x2 y1 y2:Int}(hx:0<x2)(hy:0<y2)(e:x1*y2=y1*x2)(l:List Int):sg (hv x1 x2 l)=sg (hv y1 y2 l):=by
 have h1:=oV y2 x1 x2 l;have h2:=oV x2 y1 y2 l;have e1:y2*x1=x2*y1:=by rw[P9 y2,e,P9]
 rw[e1,P9 y2 x2]at h1;rw[h1]at h2;have h3:=congrArg sg h2;rw[eT (Qs hy),eT (Qs hx)]at h3;exact h3
theorem cancel{a b c:Int}(hc:0<c)(h:a*c=b*c):a=b:=RX (Qo hc) h
theorem jj{a b c:Int}(hc:0<c)(h:a*c<=b*c):a<=b:=SA h hc
theorem ir{a b c:Int}(hc:0<c)(h:a*c<b*c):a<b:=Rg h (PD hc)
theorem Cb{l1 l2 h1 h2 r1 r2 x1 x2 pc pl:Int}(hr:0<r2)(er:r1*(h2*l2)=(h1*l2-l1*h2)*r2)(e:x1*(l2*r2*pc)=(l1*r2*pc+r1*l2*pl)*x2):x1*(l2*h2*pc)=(l1*h2*pc+(h1*l2-l1*h2)*pl)*x2:=by
 refine cancel hr ?_
 calc x1*(l2*h2*pc)*r2=(x1*(l2*r2*pc))*h2:=by grind
  _=(l1*r2*pc+r1*l2*pl)*x2*h2:=by rw[e]
  _=(l1*h2*pc*r2+(r1*(h2*l2))*pl)*x2:=by grind
  _=(l1*h2*pc*r2+((h1*l2-l1*h2)*r2)*pl)*x2:=by rw[er]
  _=(l1*h2*pc+(h1*l2-l1*h2)*pl)*x2*r2:=by grind
theorem zq{l1 l2 h1 h2 w1 w2 x1 x2 y1 y2 pc pl:Int}(hl:0<l2)(hh:0<h2)(hx:0<x2)(hy:0<y2)(hpc:0<pc)(hp0:0<=pl)(hp1:pl+1<=pc)(hD:0<h1*l2-l1*h2)(ex:x1*(l2*h2*pc)=(l1*h2*pc+(h1*l2-l1*h2)*pl)*x2)(ey:y1*(l2*h2*pc)=(l1*h2*pc+(h1*l2-l1*h2)*(pl+1))*y2)(fit:(h1*l2-l1*h2)*w2<=w1*(h2*l2)*pc):x1*y2<y1*x2/\l1*x2<=x1*l2/\y1*h2<=h1*y2/\(y1*x2-x1*y2)*w2<=w1*(x2*y2):=by
 have hlh:0<l2*h2:=PB hl hh;have hM:0<l2*h2*pc:=PB hlh hpc;have hxy:0<x2*y2:=PB hx hy
 have hd:(y1*x2-x1*y2)*(l2*h2*pc)=(h1*l2-l1*h2)*(x2*y2):=by
  calc (y1*x2-x1*y2)*(l2*h2*pc)=(y1*(l2*h2*pc))*x2-(x1*(l2*h2*pc))*y2:=by grind
   _=((l1*h2*pc+(h1*l2-l1*h2)*(pl+1))*y2)*x2-((l1*h2*pc+(h1*l2-l1*h2)*pl)*x2)*y2:=by rw[ex,ey]
   _=(h1*l2-l1*h2)*(x2*y2):=by grind
 have hi:y1*h2<=h1*y2:=by
  refine jj (c:=l2*pc) (PB hl hpc) ?_;have e1:y1*h2*(l2*pc)=y1*(l2*h2*pc):=by grind
  have e2:h1*y2*(l2*pc)=(l1*h2*pc+(h1*l2-l1*h2)*pc)*y2:=by grind
  rw[e1,ey,e2];refine P6 ?_ (PD hy);have:=QA hp1 (PD hD);omega
 generalize h1*l2-l1*h2=D at *
 refine⟨?_,?_,hi,?_⟩
 ·have h3:0<(y1*x2-x1*y2)*(l2*h2*pc):=by rw[hd];exact PB hD hxy
  have h4:0<y1*x2-x1*y2:=ir hM (by rw[Qp];exact h3);omega
 ·refine jj (c:=h2*pc) (PB hh hpc) ?_;have e1:x1*l2*(h2*pc)=x1*(l2*h2*pc):=by grind
  have e2:l1*x2*(h2*pc)=l1*h2*pc*x2:=by grind
  rw[e1,ex,e2,Int.add_mul];have:0<=D*pl*x2:=P5 (P5 (PD hD) hp0) (PD hx);omega
 ·refine jj hM ?_;have e1:(y1*x2-x1*y2)*w2*(l2*h2*pc)=((y1*x2-x1*y2)*(l2*h2*pc))*w2:=by grind
  have e2:w1*(x2*y2)*(l2*h2*pc)=w1*(h2*l2)*pc*(x2*y2):=by grind
  have e3:D*(x2*y2)*w2=D*w2*(x2*y2):=by grind
  rw[e1,hd,e2,e3];exact P6 fit (PD hxy)
def nG(C:Addr):Sp:=λvs H Q _=>∃(a l h wd:Addr) (ns:List Int) (l1 l2 h1 h2 w1 w2:Int) (k kw:Nat) (ε:Int) (Up:Int->Int->Prop),vs=[.ref a,.ref l,.ref h,.ref wd]/\H a=some (.lst (ns.map V.int))/\Tr ns/\ns≠[]/\ns.length<=12/\AllB 1000 ns/\RA C H l l1 l2/\RA C H h h1 h2/\RA C H wd w1 w2/\EndsG k l1 l2 h1 h2/\0<w1/\0<w2/\Bits kw w1/\Bits kw w2/\k<=1400/\2*k+kw<=3900/\5*k+kw<=8900/\RootU ns l1 l2 h1 h2 ε Up /\
 ∀(p x y:Addr) (H':Hp) (n pl:Nat) (x1 x2 y1 y2:Int),Same H H'->H p=none->H' p=some (.tup [.ref x,.ref y])->RA C H' x x1 x2->RA C H' y y1 y2->NarP l1 l2 h1 h2 w1 w2 Up (5*k+kw+4) n pl x1 x2 y1 y2->Q (.ref p) H'
theorem Gq(F:Fun K "narrowed" "narrowed" qZ f fd)(T:Txt K mg)(R:RCI K mg C)(jE:MCal P w K mg base 4 C "minus" ["self","other"] (kX C) uI uA)(Nu:Cal P w K mg base 1 "halvings" ["reach","width"] (xG C) O9 Oo)(Nv:Cal P w K mg base 3 "halved" ["row","end","steps"] xH Pa Op)(M6:Cal P w K mg base 3 "stretched" ["row","low","reach"] (wZ C) ON N0)(jB:Cal P w K mg base 2 "sign_at" ["row","ratio"] (kW C) uF uv)(NC:Cal P w K mg base 5 "along" ["low","reach","place","pieces"] (xQ C) Ph Ow):FnOk P w K mg base CX0 6 f fd ["row","low","high","width"] (nG C):=by
 obtain⟨iy,ie,iu⟩:=jE;obtain⟨MK,Ij,Jo,LT⟩:=Nu;obtain⟨ML,Ik,Jp,LU⟩:=Nv;obtain⟨Mp,HM,IW,Ly⟩:=M6;obtain⟨jv,iS,iZ,jm⟩:=jB;obtain⟨Ch,zP,Ag,BY⟩:=NC;refine F.ok sc_narrowed (λvs H Q E h=>?_) (λcdv A outer s H vs Q E hr h=>?_)
 ·obtain⟨a,l,h,wd,ns,l1,l2,h1,h2,w1,w2,k,kw,ε,Up,rfl,_⟩:=h;rfl
 ·obtain⟨a,l,h,wd,ns,l1,l2,h1,h2,w1,w2,kb,kw,ε,Up,rfl,hA,hT,hne,hln,hbn,hl,hh,hw,en,hw1,hw2,bw1,bw2,hk1,hk2,hk3,hU,k⟩:=h
  refine⟨_,(ag (ak (i:=4) sc_narrowed.nd rfl (Or.inl rfl) (c7 (pv 2) R.cl ie iy (hr.mono) iu .nil ai (aa (pv 1) ac)))
   (ag (ak (i:=5) sc_narrowed.nd rfl (Or.inl rfl) (aq MK (hr.mono) rfl Ij Jo LT .nil ai (aa (pv 4) (aa (pv 3) ac))))
   (ag (aR (aH cW (pv 5) ad (aG _))
     (al (aC (db (aa (pv 1) (aa (pv 2) ac)))))
     aU)
   (ag (ak (i:=6) sc_narrowed.nd rfl (Or.inl rfl) (aq ML (hr.mono) rfl Ik Jp LU .nil ai (aa (aq Mp (hr.mono) rfl HM IW Ly .nil ai (aa (pv 0) (aa (pv 1) (aa (pv 4) ac)))) (aa (aq jv (hr.mono) rfl iS iZ jm .nil ai (aa (pv 0) (aa (pv 2) ac))) (aa (pv 5) ac)))))
   (al (aC (db (aa (aq Ch (hr.mono) rfl zP Ag BY .nil ai (aa (pv 1) (aa (pv 4) (aa (aE (aM (K:=K) rfl) (pv 6) ad (λ_ _=>rfl)) (aa (aE (aM (K:=K) rfl) (pv 6) ad (λ_ _=>rfl)) ac))))) (aa (aq Ch (hr.mono) rfl zP Ag BY .nil ai (aa (pv 1) (aa (pv 4) (aa (aj aY (aE (aM (K:=K) rfl) (pv 6) ad (λ_ _=>rfl)) ad) (aa (aE (aM (K:=K) rfl) (pv 6) ad (λ_ _=>rfl)) ac))))) ac))))))))),?_⟩
  obtain⟨dl,hl'⟩:=id hl;obtain⟨dh,hh'⟩:=id hh;obtain⟨l2p,h2p,bl1,bl2,bh1,bh2,lt,_,_⟩:=id en;refine av ⟨_,rfl,h,dh,_,rfl,hh',de _ _ hJ.1 hJ.2,_,rfl,h,l,h1,h2,l1,l2,kb,kb,rfl,hh,hl,bh1.mono (by omega),bh2,bl1.mono (by omega),bl2,by omega,h2p,l2p,λr H1 s1 fr hr1=>?_⟩;have d0:h2*l2≠0:=Qo (PB h2p l2p);have er:=fb (t:=h1*l2-l1*h2) d0;have r2p:0<rb (h1*l2-l1*h2) (h2*l2):=dk d0;have br1:Bits (2*kb+1) (rt (h1*l2-l1*h2) (h2*l2)):=eU d0 (Bits.sub ((bh1.mul bl2).mono (by omega)) ((bl1.mul bh2).mono (by omega)));have br2:Bits (2*kb+1) (rb (h1*l2-l1*h2) (h2*l2)):=eY d0 ((bh2.mul bl2).mono (by omega));generalize rt (h1*l2-l1*h2) (h2*l2)=r1 at *
  generalize rb (h1*l2-l1*h2) (h2*l2)=r2 at *
  have hD:0<h1*l2-l1*h2:=by omega
  have hhl:0<h2*l2:=PB h2p l2p;have r1p:0<r1:=ir hhl (by rw[Qp,er];exact PB hD r2p);have hA1:=s1 _ _ hA;have hl1:=hl.same s1;have hh1:=hh.same s1;refine av ⟨_,rfl,_,rfl,r,wd,r1,r2,w1,w2,2*kb+1,kw,rfl,hr1,hw.same s1,r2p,hw1,br1,br2.mono (by omega),bw1.mono (by omega),bw2,by omega,λn hn hle hmin=>?_⟩
  have fit:(h1*l2-l1*h2)*w2<=w1*(h2*l2)*2^n:=by
   refine jj r2p ?_
   calc (h1*l2-l1*h2)*w2*r2=((h1*l2-l1*h2)*r2)*w2:=by grind
    _=r1*(h2*l2)*w2:=by rw[er]
    _=r1*w2*(h2*l2):=by grind
    _<=w1*r2*2^n*(h2*l2):=P6 hle (PD hhl)
    _=w1*(h2*l2)*2^n*r2:=by grind
  have bigg:∀j:Nat,j<n->w1*(h2*l2)*2^j<(h1*l2-l1*h2)*w2:=λj hj=>by
   refine ir r2p ?_
   calc w1*(h2*l2)*2^j*r2=w1*r2*2^j*(h2*l2):=by grind
    _<r1*w2*(h2*l2):=Qv (hmin j hj) hhl
    _=r1*(h2*l2)*w2:=by grind
    _=(h1*l2-l1*h2)*r2*w2:=by rw[er]
    _=(h1*l2-l1*h2)*w2*r2:=by grind
  refine cs ⟨_,rfl,_,_,rfl,rfl,_,rfl,aP (λh0=>?_) (λ_=>?_)⟩
  ·obtain rfl:n=0:=by have:(n:Int)=0:=h0;omega
   refine bj ⟨_,rfl,_,rfl,by show 2<=sizeLine;decide,λp hp=>?_⟩;have sp:=Same.upd_new (o:=.tup [V.ref l,V.ref h]) hp;have ex:l1*(l2*h2*2^0)=(l1*h2*2^0+(h1*l2-l1*h2)*((0:Nat):Int))*l2:=by rw[QO];show _=(_+_*0)*_;grind
   have ey:h1*(l2*h2*2^0)=(l1*h2*2^0+(h1*l2-l1*h2)*(((0:Nat):Int)+1))*h2:=by rw[QO];show _=(_+_*(0+1))*_;grind
   have nf:=zq (w1:=w1) (w2:=w2) (pc:=2^0) l2p h2p l2p h2p (jY 0) (Qg 0) (by decide) hD ex ey fit;exact k p l h _ 0 0 l1 l2 h1 h2 (s1.then_new hp) (s1.free hp) au (hl1.same sp) (hh1.same sp) ⟨en.mono (by omega),hU.low,hU.top,Qg _,Qg _,nf.2.2.2,by decide,ex,ey,bigg,fit⟩
  refine av ⟨_,rfl,_,rfl,_,rfl,a,l,r,ns,l1,l2,r1,r2,rfl,hA1,hl1,hr1,hT,hne,hln,hbn,l2p,r1p,r2p,bl1.mono hk1,bl2.mono hk1,br1.mono (by omega),br2.mono (by omega),λm s0 s1' pm e0 e1 hs1 bS p2 H2 s2 hp2 eq2=>?_⟩;have t2:=s1.trans s2;refine⟨_,rfl,_,rfl,a,h,ns,h1,h2,⟨rfl,t2 _ _ hA,hh.same t2,by omega,hbn.mono,bh1.mono (by omega),bh2.mono (by omega)⟩,λH3 s3=>?_⟩;have t3:=t2.trans s3;have lp:0<l2*r2:=PB l2p r2p
  have top:(s0+s1')*h2=h1*m:=by
   refine cancel lp ?_
   calc (s0+s1')*h2*(l2*r2)=((s0*l2)*r2+(s1'*r2)*l2)*h2:=by grind
    _=(l1*m*r2+r1*m*l2)*h2:=by rw[e0,e1]
    _=m*(l1*r2*h2+r1*(h2*l2)):=by grind
    _=m*(l1*r2*h2+(h1*l2-l1*h2)*r2):=by rw[er]
    _=h1*m*(l2*r2):=by grind
  have pt:∀p c:Int,0<p->p<=c->0<m*c/\l1*(m*c)<(s0*c+s1'*p)*l2/\(s0*c+s1'*p)*h2<=h1*(m*c):=λp c hp hc=>by
   refine⟨PB pm (by omega),?_,?_⟩
   ·have:(s0*c+s1'*p)*l2=l1*(m*c)+s1'*p*l2:=by
     calc (s0*c+s1'*p)*l2=(s0*l2)*c+s1'*p*l2:=by grind
      _=l1*m*c+s1'*p*l2:=by rw[e0]
      _=l1*(m*c)+s1'*p*l2:=by grind
    rw[this];have:=PB (PB hs1 hp) l2p;omega
   ·have h3:s1'*p<=s1'*c:=QA hc (PD hs1);have h4:(s0*c+s1'*p)*h2<=(s0*c+s1'*c)*h2:=P6 (by omega) (PD h2p)
    have h5:(s0*c+s1'*c)*h2=h1*(m*c):=by
     calc (s0*c+s1'*c)*h2=((s0+s1')*h2)*c:=by grind
      _=h1*m*c:=by rw[top]
      _=h1*(m*c):=by grind
    omega
  have vs:∀p c:Int,sg (hv p c (cj m s0 s1' ns))=sg (hv (s0*c+s1'*p) (m*c) ns):=λp c=>by rw[<- Ay,eT pm]
  have hB:RootB (cj m s0 s1' ns) ε (λp c=>Up (s0*c+s1'*p) (m*c)):=by
   refine⟨hU.e1,λp c hp hc hu=>?_,λp c hp hc hu=>?_,λp c p' c' hp hc hp' hc' hu hlt=>?_,λp c hc=>?_,λhu=>?_⟩
   ·rw[vs];obtain⟨q1,q2,q3⟩:=pt p c hp hc;exact hU.r1 _ _ q1 q2 q3 hu
   ·rw[vs];obtain⟨q1,q2,q3⟩:=pt p c hp hc;exact hU.r2 _ _ q1 q2 q3 hu
   ·rw[vs];obtain⟨q1,q2,q3⟩:=pt p c hp hc;obtain⟨q1',q2',q3'⟩:=pt p' c' hp' hc';refine hU.r3 _ _ _ _ q1 q1' q2 q3' hu ?_;have h3:s1'*m*(p*c')<s1'*m*(p'*c):=Sy hlt (PB hs1 pm);have e3:(s0*c+s1'*p)*(m*c')=s0*c*(m*c')+s1'*m*(p*c'):=by grind
    have e4:(s0*c'+s1'*p')*(m*c)=s0*c*(m*c')+s1'*m*(p'*c):=by grind
    omega
   ·have g1:0<m*c:=PB pm hc;have g2:0<m*(2*c):=PB pm (by omega);constructor
    ·exact hU.sc _ _ _ _ g2 g1 (by grind)
    ·exact hU.sc _ _ _ _ g1 g2 (by grind)
   ·refine hU.top (hU.sc _ _ _ _ (by rw[P8];exact pm) h2p ?_ hu);rw[P8,P8,P8];exact top
  have lstr:=jL m s0 s1' ns;have hn1:1<=ns.length:=PL.mpr hne;refine⟨_,rfl,p2,cj m s0 s1' ns,_,n,ε,_,rfl,s3 _ _ eq2,by omega,by omega,bS,by omega,hB,?_,λp4 H4 pl s4 hp4 e4 hpl hup hnup=>?_⟩
  ·rw[vs];refine DN h2p (by rw[P8];exact pm) ?_ ns;rw[P8,P8,P8];exact top.symm
  have t4:=t3.trans s4;have u4:=(s2.trans s3).trans s4;have b2n:Bits (n+1) ((2:Int)^n):=lN (by omega);have cpl:(pl:Int)<2^n:=by rw[iJ];exact RQ.mpr hpl
  have bpl:Bits (n+1) (pl:Int):=b2n.of_le (by rw[iJ];omega);have bpl1:Bits (n+1) ((pl:Int)+1):=b2n.of_le (by rw[iJ];omega);have p2n:=jY n;refine bj ⟨_,rfl,_,rfl,_,rfl,p4,_,_,_,rfl,rfl,SqT.of e4,rfl,_,rfl,p4,_,_,_,rfl,rfl,SqT.of e4,rfl,l,r,l1,l2,r1,r2,pl,2^n,kb,2*kb+1,n+1,rfl,hl.same t4,hr1.same u4,l2p,r2p,p2n,bl1,bl2,br1,br2,bpl,b2n,by omega,λx H5 x1 x2 s5 hx hRx x2p ex bx1 bx2 gx=>?_⟩;have e5:=s5 _ _ e4;have t5:=t4.trans s5;have u5:=u4.trans s5;refine⟨_,rfl,_,rfl,_,rfl,p4,_,_,_,rfl,rfl,SqT.of e5,rfl,_,_,rfl,rfl,_,rfl,p4,_,_,_,rfl,rfl,SqT.of e5,rfl,l,r,l1,l2,r1,r2,pl+1,2^n,kb,2*kb+1,n+1,rfl,hl.same t5,hr1.same u5,l2p,r2p,p2n,bl1,bl2,br1,br2,bpl1,b2n,by omega,λy H6 y1 y2 s6 hy hRy y2p ey by1 by2 gy=>?_⟩;refine⟨by show 2<=sizeLine;decide,λp hp=>?_⟩;have sp:=Same.upd_new (o:=.tup [V.ref x,V.ref y]) hp;have t6:=t5.trans s6;have ex':=Cb r2p er ex;have ey':=Cb r2p er ey;have nf:=zq (w1:=w1) (w2:=w2) l2p h2p x2p y2p p2n (show(0:Int)<=(pl:Int) by omega) (by omega) hD ex' ey' fit
  have cross:∀(q z1 z2:Int),z1*(l2*r2*2^n)=(l1*r2*2^n+r1*l2*q)*z2->(s0*2^n+s1'*q)*z2=z1*(m*2^n):=λq z1 z2 ez=>by
   refine cancel lp ?_
   calc (s0*2^n+s1'*q)*z2*(l2*r2)=((s0*l2)*r2*2^n+(s1'*r2)*l2*q)*z2:=by grind
    _=(l1*m*r2*2^n+r1*m*l2*q)*z2:=by rw[e0,e1]
    _=m*((l1*r2*2^n+r1*l2*q)*z2):=by grind
    _=m*(z1*(l2*r2*2^n)):=by rw[ez]
    _=z1*(m*2^n)*(l2*r2):=by grind
  have hm2:0<m*2^n:=PB pm p2n;refine k p x y _ n pl x1 x2 y1 y2 (t6.then_new hp) (t6.free hp) au ((hRx.same s6).same sp) (hRy.same sp) ⟨⟨x2p,y2p,bx1.mono (by omega),bx2.mono (by omega),by1.mono (by omega),by2.mono (by omega),nf.1,gx,gy⟩,?_,?_,nf.2.1,nf.2.2.1,nf.2.2.2,hpl,ex',ey',bigg,fit⟩
  ·rcases hup with z |z
   ·refine hU.sc _ _ _ _ l2p x2p ?_ hU.low;rw[z]at ex';refine cancel (PB h2p p2n) ?_
    calc l1*x2*(h2*2^n)=(l1*h2*2^n+(h1*l2-l1*h2)*((0:Nat):Int))*x2:=by show _=(_+_*0)*_;grind
     _=x1*(l2*h2*2^n):=ex'.symm
     _=x1*l2*(h2*2^n):=by grind
   ·exact hU.sc _ _ _ _ hm2 x2p (cross _ _ _ ex) z
  ·intro hu;exact hnup (hU.sc _ _ _ _ y2p hm2 (cross _ _ _ ey).symm hu)
theorem Ge(F:Fun K "refuse_high" "refuse_high" qP f fd)(T:Txt K mg):FnOk P w K mg base CX0 1 f fd ["height"] (λvs H Q _=>∃i:Int,vs=[.int i]/\i<=8/\Q .non H):=by
 obtain⟨tH,hHIGHEST⟩:=T.HIGHEST_;refine F.ok D4 (λvs H Q E h=>?_) (λcdv A outer s H vs Q E hr h=>?_)
 ·obtain⟨i,rfl,_⟩:=h;rfl
 ·obtain⟨i,rfl,hi,k⟩:=h
  refine⟨_,(al (aR (aH fJ (pv 0) (Fz (v:=.int 8) rfl hHIGHEST ⟨_,rfl⟩) (aG _))
   (al iH)
   aU)),?_⟩
  refine jU ⟨_,rfl,_,_,rfl,rfl,_,rfl,aP (λh=>absurd (show i>8 from h) (by omega)) (λ_=>?_)⟩;exact k
structure NCI(K:PySem.W.Frag)(mg:Str->Option Value)(CN:Addr):Prop where
 cl:Cls K CN
 nP:NoAttr K CN "poly"
 nL:NoAttr K CN "low"
 nH:NoAttr K CN "high"
 mg:mg "Number"=some (.ref CN)
 ha:PySem.W.findIn K (.ref CN) "__class__"=some (some (.builtin "object.__class__"))
 hn:PySem.W.specialIn K (.builtin "object.__class__") "__get__"=some (some (.builtin "getset_descriptor.__get__"))
 ht:PySem.W.takesIn K (.builtin "object.__class__")=some true
 hm:PySem.W.mroIn K CN (.type "object")=some true
noncomputable def ij(p l h:Addr):List (Str×V):=cQ "high" (.ref h) (cQ "low" (.ref l) (cQ "poly" (.ref p) []))
theorem Fq:¬(("poly":Str)="high"):=by decide +kernel
theorem Fk:¬(("poly":Str)="low"):=by decide +kernel
theorem ID:¬(("low":Str)="high"):=by decide +kernel
theorem AU(p l h:Addr):(ij p l h).lookup ("high":Str)=some (.ref h):=by unfold ij;rw[eD,if_pos rfl]
theorem AT(p l h:Addr):(ij p l h).lookup ("low":Str)=some (.ref l):=by unfold ij;rw[eD,if_neg ID,eD,if_pos rfl]
theorem uo(p l h:Addr):(ij p l h).lookup ("poly":Str)=some (.ref p):=by unfold ij;rw[eD,if_neg Fq,eD,if_neg Fk,eD,if_pos rfl]
def NA(CN:Addr)(H:Hp)(x p l h:Addr):Prop:=∃dx,H x=some (.ins CN dx (ij p l h))
theorem NA.same{CN:Addr}{H H':Hp}{x p l h:Addr}(n:NA CN H x p l h)(s:Same H H'):NA CN H' x p l h:=let⟨dx,e⟩:=n;⟨dx,s _ _ e⟩
inductive iC(CN:Addr)(vs:List V)(H:Hp)(Q:VK)(E:XK):Prop
 |mk (x dx r l h:Addr) (ns:List V):vs=[.ref x,.ref r,.ref l,.ref h]->H x=some (.ins CN dx [])->H r=some (.lst ns)->(∀p,H p=none->Q .non (upd (upd H p (.lst ns)) x (.ins CN dx (ij p l h))))->iC CN vs H Q E
theorem Ha(F:Fun K "__init__" "Number.__init__" sk f fd)(T:Txt K mg)(RN:NCI K mg CN):FnOk P w K mg base CX0 1 f fd ["self","row","low","high"] (iC CN):=by
 refine F.ok El (λvs H Q E h=>?_) (λcdv A outer s H vs Q E hr h=>?_)
 ·obtain⟨x,dx,r,l,h,ns,rfl,_⟩:=h;rfl
 ·obtain⟨x,dx,r,l,h,ns,rfl,hx,hR,k⟩:=h
  refine⟨_,(ag (lH (pv 0) (oq (va (K:=K) rfl) (by rfl) T.list_ PyProof.Rows.boot_list (aa (pv 1) ac)) rfl)
   (ag (lH (pv 0) (pv 2) rfl)
   (al (lH (pv 0) (pv 3) rfl)))),?_⟩
  refine⟨_,rfl,r,_,rfl,.inl (SqL.of hR),λp hp=>?_⟩;have npx:x≠p:=aW hx hp;refine⟨_,rfl,x,CN,dx,_,rfl,by rw[upd_ne npx];exact hx,RN.cl,RN.nP,by show 0<1000;decide,?_⟩;refine⟨_,rfl,_,rfl,x,CN,dx,_,rfl,au,RN.cl,RN.nL,by show 1<1000;decide,?_⟩;refine⟨_,rfl,_,rfl,x,CN,dx,_,rfl,au,RN.cl,RN.nH,by show 2<1000;decide,?_⟩;show Q .non (upd (upd (upd (upd H p _) x _) x _) x _);rw[nc,nc];exact k p hp
def xl:Sp:=λvs H Q _=>∃(a:Addr) (ns:List Int),vs=[.ref a]/\H a=some (.lst (ns.map V.int))/\ns.length<=1000/\AllB 300 ns/\∀H',Same H H'->Q .non H'
theorem L8:Bits 399 (10^60*10^60)/\(2:Int)^300<=10^60*10^60:=by
 constructor
 ·show((10:Int)^60*10^60).natAbs<2^399;decide +kernel
 ·decide +kernel
theorem Gf(F:Fun K "refuse_great" "refuse_great" qQ f fd)(T:Txt K mg):FnOk P w K mg base CX0 1 f fd ["row"] xl:=by
 refine F.ok sc_refuse_great (λvs H Q E h=>?_) (λcdv A outer s H vs Q E hr h=>?_)
 ·obtain⟨a,ns,rfl,_⟩:=h;rfl
 ·obtain⟨a,ns,rfl,hA,hl,hb,k⟩:=h;have big:=sizeLine_eq
  refine⟨_,(ag (ak (i:=1) sc_refuse_great.nd rfl (Or.inr rfl) (aj aK (aj ot ad ad) (aj ot ad ad)))
   (al (aR (E8 (bz (Lq (K:=K) rfl rfl) (by rfl) T.any_ PyProof.Rows.boot_any (aa (fI (own:=["value"]) (fr:=["limit"]) (js:=[1]) (by walk_at "comp_ok") rfl (fH (K:=K) rfl (pv 0)) (λ_ _ _ _=>(aS (i:=0) (show List.Nodup (["value","limit"]:List Str)from by decide +kernel) rfl (Or.inl rfl))) (λ_ _ _ _=>(sR y8 (bz fv (by rfl) T.abs_ PyProof.Rows.boot_abs (aa (pv 0) ac)) (pv 1) (aG _)))) ac)) (by intro _;rfl))
     (al iH)
     aU))),?_⟩
  have b6:Bits 1000000 ((10:Int)^60):=b60.mono;refine av ⟨_,_,rfl,rfl,⟨by decide,by decide,by decide⟩,_,_,rfl,rfl,⟨by decide,by decide,by decide⟩,_,_,rfl,rfl,⟨b6,b6⟩,?_⟩;refine jU ⟨_,rfl,a,rfl,⟨_,SqL.of hA⟩,jh (K:=K) (a:=a) (xs:=ns.map V.int) (λi ys σ' H'=>∃(z0:Option V) (bs:List Bool),σ'=[z0,some (.int (10^60*10^60))]/\ys=bs.map V.bl/\bs.length=i/\(∀x∈bs,x=false)/\H=H') (by rw[PC];omega) ⟨none,[],rfl,rfl,rfl,(λ_ h=>nomatch h),rfl⟩ ?_ ?_ ?_⟩
  ·rintro i ys σ' H' _ ⟨z0,bs,rfl,rfl,rfl,_,rfl⟩;exact⟨SqL.of hA,by rw[PC];exact PF _⟩
  ·rintro i x ys σ' H' hi ⟨z0,bs,rfl,rfl,rfl,hbs,rfl⟩;obtain⟨c,_,rfl,hc,_⟩:=fO hi;refine⟨_,rfl,_,rfl,_,rfl,_,_,rfl,rfl,?_⟩;refine⟨_,bs++[false],rfl,?_,by rw[Qi];rfl,λx hx=>?_,rfl⟩
   ·have hlt:¬((if c<0 then -c else c)≥10^60*10^60):=by
     have h1:c.natAbs<2^300:=hb c hc;have h2:=L8.2;have h3:((2^300:Nat):Int)=(2:Int)^300:=by rw[Rv];rfl
     have h4:(c.natAbs:Int)<(2:Int)^300:=by rw[<- h3];exact RQ.mpr h1
     generalize (2:Int)^300=X at h2 h4
     generalize (10:Int)^60*10^60=Y at h2 ⊢
     split<;>omega
    rw[Qk];show _++[V.bl (decide _)]=_;rw[decide_eq_false hlt];rfl
   ·rcases Qh.mp hx with h |h
    ·exact hbs x h
    ·exact PQ.mp h
  rintro ys σ' H' p ⟨z0,bs,rfl,rfl,hbl,hbs,rfl⟩ hp;refine⟨p,bs,rfl,SqL.of au,?_⟩
  have e:bs.any id=false:=by rw[List.any_eq_false];intro x hx;rw[hbs x hx];decide
  rw[e];refine⟨_,rfl,f6 ?_⟩;exact k _ (Same.upd_new hp)
theorem DL{x:Int}(h:x<0):sg x = -1:=by unfold sg;split<;>(try split)<;>omega
theorem DK{x:Int}(h:0<x):sg x=1:=by unfold sg;split<;>(try split)<;>omega
theorem ia:(¬("against":Str)="bottom")/\¬("against":Str)="top":=⟨by decide +kernel,by decide +kernel⟩
theorem b1k{k:Nat}(h:1<=k):Bits k (1:Int):=Bits.mono (j:=1) (by show(1:Int).natAbs<2^1;decide) h
theorem Bh(t:Int):dv t 1=1:=by unfold dv;rw[if_neg (by decide)];show((Nat.gcd t.natAbs 1:Nat):Int)=1;rw[Si];rfl
theorem jT(t:Int):rt t 1=t:=by have h:=g6 (t:=t) (b:=1) (by decide);rw[Bh,PY]at h;exact h
theorem jW(t:Int):rb t 1=1:=by have h:=gu (t:=t) (b:=1) (by decide);rw[Bh,PY]at h;exact h
theorem Bg{b:Int}(hb:0<b):dv 1 b=1:=by unfold dv;rw[if_neg (by omega)];show((Nat.gcd 1 b.natAbs:Nat):Int)=1;rw[Nat.gcd_one_left];rfl
theorem sr{b:Int}(hb:0<b):rt 1 b=1:=by have h:=g6 (t:=1) (b:=b) (by omega);rw[Bg hb,PY]at h;exact h
theorem sI{b:Int}(hb:0<b):rb 1 b=b:=by have h:=gu (t:=1) (b:=b) (by omega);rw[Bg hb,PY]at h;exact h
theorem oG{CN:Addr}{H3:Hp}{q:Addr->Hp->Prop}{E:XK}{r l h:Addr}{ns:List V}(e3:H3 r=some (.lst ns))(k:∀(x p:Addr) (H':Hp),Same H3 H'->H3 x=none->NA CN H' x p l h->H' p=some (.lst ns)->H3 p=none->q x H'):∀x dx:Addr,H3 x=none->H3 dx=none->dx≠x->iC CN (.ref x::([.ref r,.ref l,.ref h]++[])) (upd (upd H3 dx (.own x)) x (.ins CN dx [])) (λv H2=>v=.non/\q x H2) E:=λx dx nx ndx ne=>by
 have npx:r≠x:=aW e3 nx;have npd:r≠dx:=aW e3 ndx;refine⟨x,dx,r,l,h,_,rfl,au,by rw[upd_ne npx,upd_ne npd];exact e3,λq hq=>⟨rfl,?_⟩⟩;have nqx:q≠x:=λz=>by rw[z,au]at hq;cases hq
 have nqd:q≠dx:=λz=>by rw[z,upd_ne ne,au]at hq;cases hq
 have hq3:H3 q=none:=by rw[upd_ne nqx,upd_ne nqd]at hq;exact hq
 refine k x q _ (λc o ec=>?_) nx ⟨dx,au⟩ (by rw[upd_ne nqx,au]) hq3;have ncx:c≠x:=aW ec nx;have ncd:c≠dx:=aW ec ndx;have e4:upd (upd H3 dx (.own x)) x (.ins CN dx []) c=some o:=by rw[upd_ne ncx,upd_ne ncd];exact ec
 rw[upd_ne ncx,upd_ne (aW e4 hq)];exact e4
theorem uR{xs ys:List Int}{x y:Nat}(hx:AllB x xs)(hy:AllB y ys):∀i,AllB (x+i*(y+1)) (aT xs ys i).1/\AllB (x+i*(y+1)) (aT xs ys i).2
 |0=>by rw[Nat.zero_mul];exact⟨AllB.zeros,hx⟩
 |i+1=>by
  obtain⟨h1,h2⟩:=uR hx hy i;have e:x+(i+1)*(y+1)=x+i*(y+1)+y+1:=by rw[Nat.succ_mul];omega
  have hs:Bits y (((RM.cf ys (ys.length-1)).natAbs:Nat):Int):=vA (hy.cf _);rw[e];show AllB _ (df ys (aT xs ys i) _).1/\AllB _ (df ys (aT xs ys i) _).2;unfold df;dsimp only
  constructor
  ·intro v hv;rcases List.mem_or_eq_of_mem_set hv with h |rfl
   ·obtain⟨u,hu,rfl⟩:=PV.mp h;exact(hs.mul (h1 u hu)).mono (by omega)
   ·exact(lj (h2.cf _)).mono (by omega)
  ·refine AllB.of_cf λn=>?_
   rw[pi];by_cases hn:n<(scL (((RM.cf ys (ys.length-1)).natAbs:Nat):Int) (aT xs ys i).2).length-1
   ·rw[if_pos hn,bQ]
    have m1:Bits (x+i*(y+1)+y) ((((RM.cf ys (ys.length-1)).natAbs:Nat):Int)*RM.cf (aT xs ys i).2 n):=by have:=hs.mul (h2.cf n);rwa [Nat.add_comm]at this
    refine m1.sub ?_;by_cases hp:(xs.length+1-ys.length-1-i)<=n
    ·rw[if_pos hp];exact(lj (h2.cf _)).mul (hy.cf _)
    ·rw[if_neg hp];exact Bits.zero
   ·rw[if_neg hn];exact Bits.zero
theorem lf{n:Nat}{l:List Int}(h:AllB n l):AllB n (ar l):=by
 intro y hy;obtain⟨x,hx,rfl⟩:=PV.mp hy;obtain⟨d,hd⟩:=i9 hx;by_cases hg:(aA l:Int)=0
 ·rw[hg,Int.ediv_zero];exact Bits.zero
 ·have e:x/(aA l:Int)=d:=by rw[hd];exact Sm d hg
  rw[e];refine(h x hx).of_le ?_;rw[hd,PN];exact RT _ (Rq.mpr hg)
theorem qo(l:List Int):(ar l).length=l.length:=PC _
theorem yr(n:Nat)(o:List Int):Run n [] o:=by cases n with |zero=>rfl |succ n=>exact .inl rfl
theorem Bb(n:Nat)(o:List Int):RM.Ends n [] o:=by cases n with |zero=>rfl |succ n=>exact .inl rfl
theorem gr8:gr 540 6=91260:=by decide
def Okr(xs:List Int):Prop:=Tr xs/\AllB 91260 xs/\xs.length<=7
theorem yq:∀(n:Nat) (one other:List Int) (x y s:Nat),one.length=s+1->s<=6->other.length<=s->s<n->Tr one->Tr other->AllB x one->AllB y other->x+1<=gr 540 (6-s)->y+1<=gr 540 (6-s+1)->Run n one other/\RM.Ends n one other/\∀xs∈bT n one other,Okr xs
 |0,one,other,x,y,s,_,_,_,h,_,_,_,_,_,_=>absurd h (R9 _)
 |m+1,one,other,x,y,s,hl,hs8,hol,hsm,t1,t2,b1,b2,g1,g2=>by
  have hne:one≠[]:=λz=>by rw[z]at hl;simp at hl
  have m1:gr 540 (6-s)<=91260:=by rw[<- gr8];exact ge 540 (by omega)
  have bo1:AllB 91260 one:=b1.mono (by omega)
  have bo2:AllB 91260 other:=by
   by_cases ho:other=[]
   ·rw[ho];exact AllB.nil
   ·have:=PL.mpr ho;have m2:gr 540 (6-s+1)<=91260:=by rw[<- gr8];exact ge 540 (by omega)
    exact b2.mono (by omega)
  have fit:Fit one other:=⟨t1,t2,91260,bo1,bo2,by rw[hl];omega,by omega⟩
  have eS:bT (m+1) one other=one::bT m other (nxt one other):=by show(if one=[]then[]else one::bT m other (nxt one other))=_;rw[if_neg hne]
  have ok1:Okr one:=⟨t1,bo1,by omega⟩;by_cases ho:other=[]
  ·subst ho;refine⟨.inr ⟨fit,yr _ _⟩,.inr (Bb _ _),λxs hx=>?_⟩;rw[eS,lv]at hx;rw[PQ.mp hx];exact ok1
  ·have hop:=PL.mpr ho;obtain⟨d,hd⟩:∃d,other.length=d+1:=⟨other.length-1,by omega⟩;have hN:bh one other=(s-d-1)+2:=by unfold bh;omega
   have e6:6-s+2+(s-d-1)=6-d+1:=by omega
   have rb:AllB (x+bh one other*(y+1)) (aO one other):=((uR b1 b2 (bh one other)).2).trim
   have nb:AllB (x+bh one other*(y+1)) (nxt one other):=by
    unfold nxt rst;rw[if_neg ho,nq (gf _ _)];refine lf λv hv=>?_
    obtain⟨u,hu,rfl⟩:=PV.mp hv;have:=(rb u hu).neg
    rwa [show -1*u = -u by omega]
   have nl:(nxt one other).length<=d:=by unfold nxt rst;rw[if_neg ho,nq (gf _ _),qo,cv];have:=gM (a:=one) ho;omega
   have nt:Tr (nxt one other):=gk (fX _);have jump:=uh 540 (6-s) (s-d-1);rw[e6]at jump;have mm:=Q8 (s-d-1+2) g2;obtain⟨r1,r2,r3⟩:=yq m other (nxt one other) y (x+bh one other*(y+1)) d hd (by omega) nl (by omega) t2 nt b2 nb (PX g2 (ge 540 (by omega))) (by rw[hN];omega);refine⟨.inr ⟨fit,r1⟩,.inr r2,λxs hx=>?_⟩;rw[eS]at hx;rcases PM.mp hx with rfl |hx
   ·exact ok1
   ·exact r3 xs hx
theorem yx:∀(n:Nat) (one other:List Int),(bT n one other).length<=n
 |0,_,_=>PF _
 |n+1,one,other=>by
  show(if one=[]then[]else one::bT n other (nxt one other)).length<=n+1;split
  ·exact PK _
  ·have:=yx n other (nxt one other);rw[Qw];omega
theorem x6{n:Nat}{xs:List Int}(h:AllB n xs)(hl:xs.length<=9):AllB (n+4) (slopeL xs):=by intro x hx;obtain⟨k,hk,rfl⟩:=PV.mp hx;have hk':k<xs.length-1:=List.mem_range.mp hk;have b1:Bits 4 ((k:Int)+1):=Rc (show((k:Int)+1).natAbs<=8 by omega) (by decide);exact(b1.mul (h.cf (k+1))).mono (by omega)
theorem Dt(xs:List Int):(slopeL xs).length=xs.length-1:=by unfold slopeL;rw[PC,Q5]
theorem Eu{kps:List Int}(ktr:Tr kps)(kb:AllB 530 kps)(kl:kps.length<=7):Run 9 (ar kps) (ar (slopeL kps))/\RM.Ends 9 (ar kps) (ar (slopeL kps))/\∀xs∈bT 9 (ar kps) (ar (slopeL kps)),Okr xs:=by
 by_cases h0:kps=[]
 ·subst h0
  exact⟨yr _ _,Bb _ _,λxs hx=>by
   have e:ar []=[]:=rfl;rw[e,lv]at hx
   exact nomatch hx⟩
 ·have hl:=PL.mpr h0;obtain⟨s,hs⟩:∃s,kps.length=s+1:=⟨kps.length-1,by omega⟩;refine yq 9 (ar kps) (ar (slopeL kps)) 530 534 s (by rw[qo,hs]) (by omega) (by rw[qo,Dt,hs];omega) (by omega) (gk ktr) (gk (wq ktr)) (lf kb) (lf (x6 kb (by omega))) ?_ ?_
  ·exact PX (show 531<=gr 540 0 by decide) (ge 540 (PK _))
  ·exact PX (show 535<=gr 540 1 by decide) (ge 540 (by omega))
theorem oi{n:Nat}{l:List Int}(h:AllB n l):AllB n (aw l):=by
 unfold aw cz;split
 ·intro y hy;obtain⟨x,hx,rfl⟩:=PV.mp hy;exact(lf h x hx).neg
 ·exact lf h
theorem JW:∀s:Nat,s<=8->1<=s->(s+3)*(gr 240 (8-s+1)+1)<=1000000
 |0,_,h=>absurd h (by decide)
 |1,_,_=>by show 4*(236400+1)<=1000000;decide
 |2,_,_=>by show 5*(97920+1)<=1000000;decide
 |3,_,_=>by show 6*(40560+1)<=1000000;decide
 |4,_,_=>by show 7*(16800+1)<=1000000;decide
 |5,_,_=>by show 8*(6960+1)<=1000000;decide
 |6,_,_=>by show 9*(2880+1)<=1000000;decide
 |7,_,_=>by show 10*(1200+1)<=1000000;decide
 |8,_,_=>by show 11*(480+1)<=1000000;decide
 |n+9,h,_=>absurd h (by omega)
theorem yt:∀(n:Nat) (one other:List Int) (x y s:Nat),one.length=s+1->s<=8->other.length<=s->s<n->Tr one->Tr other->AllB x one->AllB y other->x+1<=gr 240 (8-s)->y+1<=gr 240 (8-s+1)->kF n one other
 |0,one,other,x,y,s,_,_,_,h,_,_,_,_,_,_=>absurd h (R9 _)
 |m+1,one,other,x,y,s,hl,hs8,hol,hsm,t1,t2,b1,b2,g1,g2=>by
  by_cases ho:other=[]
  ·exact .inl ho
  have hop:=PL.mpr ho;obtain⟨d,hd⟩:∃d,other.length=d+1:=⟨other.length-1,by omega⟩;have hN:bh one other=(s-d-1)+2:=by unfold bh;omega
  have e6:8-s+2+(s-d-1)=8-d+1:=by omega
  have rb:AllB (x+bh one other*(y+1)) (aO one other):=((uR b1 b2 (bh one other)).2).trim;have jump:=uh 240 (8-s) (s-d-1);rw[e6]at jump;have mm:=Q8 (s-d-1+2) g2;have nl:=gM (a:=one) ho;have m0:=ge 240 (show 8-s<=8-s+1 by omega);have fit:vL one other:=⟨t1,t2,gr 240 (8-s+1),b1.mono (by omega),b2.mono (by omega),by rw[hl];exact JW s hs8 (by omega),by omega⟩
  exact .inr ⟨fit,yt m other (aw (aO one other)) y (x+bh one other*(y+1)) d hd (by omega) (by rw[RM.plain_len];omega) (by omega) t2 (gW (gf _ _)) b2 (oi rb) (PX g2 (ge 240 (by omega))) (by
   rw[hN];generalize (s-d-1+2)*(y+1)=z at mm ⊢
   generalize (s-d-1+2)*gr 240 (8-s+1)=z2 at mm jump
   omega)⟩
structure Made(kp:List Int)(c:Int)(us:List (List Int×Nat)):Prop where
 is:kp=whl c us
 c0:c≠0
 bc:Bits 10 c
 use:Use us
 deg:dgs id us<=8
 one:2<=kp.length
 bits:AllB 230 (fP id us)
 more:AllB 230 (mor us 1)
theorem Made.len{kp:List Int}{c:Int}{us:List (List Int×Nat)}(h:Made kp c us):kp.length<=9/\(mor us 1).length<=9/\1<=(mor us 1).length/\AllB 241 kp:=by
 have ne:∀p∈us,p.1≠[]:=λp hp=>(h.use.pri p hp).pln.ne
 have h1:=(o6 id us ne).1;have h2:=(o6 (·-1) us ne).1;have h3:dgs (·-1) us<=dgs id us:=Bn us λp _=>Nat.sub_le _ _
 have h4:=h.deg;refine⟨by rw[h.is,fW,cv];omega,by unfold mor;omega,by unfold mor;omega,?_⟩;rw[h.is,fW];intro x hx;obtain⟨y,hy,rfl⟩:=PV.mp hx;exact(h.bc.mul (h.bits y hy)).mono
theorem Made.slope{kp:List Int}{c:Int}{us:List (List Int×Nat)}(h:Made kp c us):AllB 234 (aw (slopeL kp)):=by
 have pl:=jd h.use id;have hl:=h.len.1
 have e:slopeL kp=scL c (slopeL (fP id us)):=by
  rw[h.is];refine dU ?_ λk _=>?_
  ·rw[cv,gH,gH,fW,cv]
  ·rw[bQ,fu,fu,fW,bQ];grind
 rw[e,g8 h.c0 (iA pl.tr)];exact oi (x6 h.bits (by rw[h.is,fW,cv]at hl;exact hl))
def wU:Sp:=λvs H Q _=>∃(a:Addr) (kp:List Int) (c:Int) (us:List (List Int×Nat)),vs=[.ref a]/\H a=some (.lst (kp.map V.int))/\Made kp c us/\mkL H Q (flt us)
theorem FL(F:Fun K "without_squares" "without_squares" qx f fd)(T:Txt K mg)(Nh:Cal P w K mg base 35 "part" ["row","divisor"] xq OX Ob)(Ny:Cal P w K mg base 35 "common" ["first","second"] xM Pd Ot)(vN:Cal P w K mg base 1 "slope" ["row"] (sp1 slopeL) Ks Kc):FnOk P w K mg base CX0 36 f fd ["row"] wU:=by
 obtain⟨Mx,HW,Jc,LH⟩:=Nh;obtain⟨MO,Io,Js,LX⟩:=Ny;obtain⟨vD,tF,tV,vh⟩:=vN;refine F.ok DT (λvs H Q E h=>?_) (λcdv A outer s H vs Q E hr h=>?_)
 ·obtain⟨a,kp,c,us,rfl,_⟩:=h;rfl
 ·obtain⟨a,kp,c,us,rfl,hA,hM,k⟩:=h;have hu:=hr.units;have eW:=hM.is;obtain⟨tW,nW,pW⟩:=kL hM.use hM.c0;obtain⟨lW,lM,lM1,bW⟩:=hM.len;have hsl:=hM.slope;have l2':=hM.one;have eC:=v6 hM.use hM.c0 (by rw[<- eW];omega);obtain⟨r1,r2⟩:=Co hM.use hM.c0;rw[<- eW]at tW nW pW eC r1 r2;have lS:=gH kp
  refine⟨_,(ag (aR (aH (j1 (K:=K) rfl hu) (pv 0) (aX ac) (aG _))
   (al (aC (aX ac)))
   aU)
   (al (aC (aq Mx (hr.mono) rfl HW Jc LH .nil ai (aa (pv 0) (aa (aq MO (hr.mono) rfl Io Js LX .nil ai (aa (pv 0) (aa (aq vD (hr.mono) rfl tF tV vh .nil ai (aa (pv 0) ac)) ac))) ac)))))),?_⟩
  refine cs ⟨_,rfl,PK _,λp0 hp0=>?_⟩;have s0:Same H (upd H p0 (.lst [])):=Same.upd_new hp0;refine⟨a,p0,kp,[],rfl,rfl,SqL.of (s0 _ _ hA),SqL.of au,_,rfl,aP (λh0=>absurd h0 nW) (λ_=>?_)⟩;generalize upd H p0 (.lst [])=H0 at s0 ⊢
  have hA0:=s0 _ _ hA;refine bj ⟨_,rfl,_,rfl,_,rfl,a,kp,rfl,hA0,by omega,bW.mono,λp1 H1 s1 hp1 e1=>?_⟩;have t1:=s0.trans s1;obtain⟨s,hs⟩:∃s,kp.length=s+1:=⟨kp.length-1,by omega⟩;refine⟨a,p1,kp,slopeL kp,20,rfl,t1 _ _ hA,e1,tW,iA tW,by omega,by omega,yt 20 (aw kp) (aw (slopeL kp)) 230 234 s (by rw[RM.plain_len];exact hs) (by omega) (by rw[RM.plain_len];omega) (by omega) (gW tW) (gW (iA tW)) (by rw[pW];exact hM.bits) hsl ?_ ?_,λp2 H2 s2 hp2 e2=>?_⟩
  ·exact PX (show 231<=gr 240 0 by decide) (ge 240 (PK _))
  ·exact PX (show 235<=gr 240 1 by decide) (ge 240 (by omega))
  have e2':H2 p2=some (.lst ((mor us 1).map V.int)):=by rw[<- eC];exact e2
  have t2:=t1.trans s2;refine⟨a,p2,kp,_,241,rfl,t2 _ _ hA,e2',tW,(jd hM.use _).tr,bW,hM.more.mono,by have:(kp.length+2)*(241+1)<=11*242:=QD _ (by omega);omega,by omega,(jd hM.use _).ne,r1,λp3 H3 s3 hp3 e3=>?_⟩;rw[r2]at e3;exact k p3 H3 (t2.trans s3) (t2.free hp3) e3
structure Whl(fs:List (List Int)):Prop where
 fam:Fam fs
 l2:2<=(prQ fs).length
 l7:(prQ fs).length<=7
 bits:AllB 250 (prQ fs)
noncomputable def dj(fs:List (List Int)):List (List Int):=bT 9 (ar (prQ fs)) (ar (slopeL (prQ fs)))
theorem nY{fs:List (List Int)}(hF:Fam fs)(hl:(prQ fs).length<=7){t n t' n':Int}(hn:0<n)(hn':0<n')(hlt:t*n'<t'*n):((chS (sgs t n (dj fs))).1:Int)-(chS (sgs t' n' (dj fs))).1=bI (aI fs) t n t' n':=by have:=KZ (N:=8) (c:=1) hF.fac hF.nd (by decide) (P:=prQ fs) hF.one.symm (by omega) (by omega) hn hn' hlt;rw[BH,BH];exact this
theorem sC{fs:List (List Int)}(hF:Fam fs)(hl:(prQ fs).length<=7)(hb:AllB 250 (prQ fs)):Run 9 (ar (prQ fs)) (ar (slopeL (prQ fs)))/\(∀xs∈dj fs,xs.length<=20/\AllB 95000 xs)/\(dj fs).length<=1000000:=by
 obtain⟨r1,_,r3⟩:=Eu hF.pln.tr (hb.mono) hl;refine⟨r1,λxs hx=>?_,?_⟩
 ·obtain⟨_,b,l⟩:=r3 xs hx;exact⟨by omega,b.mono⟩
 ·have:=yx 9 (ar (prQ fs)) (ar (slopeL (prQ fs)));show(bT 9 _ _).length<=_;omega
inductive xy(C:Addr)(vs:List V)(H:Hp)(Q:VK)(E:XK):Prop
 |mk (a l h:Addr) (fs:List (List Int)) (l1 l2 h1 h2:Int):vs=[.ref a,.ref l,.ref h]->H a=some (.lst ((prQ fs).map V.int))->Whl fs->RA C H l l1 l2->RA C H h h1 h2->EndsG 250 l1 l2 h1 h2->(∀H',Same H H'->Q (.int (bI (aI fs) l1 l2 h1 h2)) H')->xy C vs H Q E
theorem Gv(F:Fun K "many_within" "many_within" rf f fd)(T:Txt K mg)(R:RCI K mg C)(m8:MCal P w K mg base 2 C "against" ["self","other"] (nK C) A6 AY)(vT:Cal P w K mg base 4 "count" ["row","low","high"] (qe C) Kx Kh)(mX:Cal P w K mg base 35 "row_of" ["polynomial"] nE AZ AV):FnOk P w K mg base CX0 36 f fd ["simple","low","high"] (xy C):=by
 obtain⟨kK,j8,kA⟩:=m8;obtain⟨vH,tK,ua,vm⟩:=vT;obtain⟨mU,mh,mv,mO⟩:=mX;refine F.ok D6 (λvs H Q E h=>?_) (λcdv A outer s H vs Q E hr h=>?_)
 ·obtain⟨a,l,h,fs,l1,l2,h1,h2,rfl,_⟩:=h;rfl
 ·obtain⟨a,l,h,fs,l1,l2,h1,h2,rfl,hA,hW,hl,hh,en,k⟩:=h
  refine⟨_,(ag (aR (aH y8 (c7 (pv 1) R.cl j8 kK (hr.mono) kA .nil ai (aa (pv 2) ac)) ad (aG _))
   (al (aC ad))
   aU)
   (al (aC (aq vH (hr.mono) rfl tK ua vm .nil ai (aa (aq mU (hr.mono) rfl mh mv mO .nil ai (aa (pv 0) ac)) (aa (pv 1) (aa (pv 2) ac))))))),?_⟩
  have l7:=hW.l7;obtain⟨rn,rx,rl⟩:=sC hW.fam l7 hW.bits;obtain⟨dxl,hl'⟩:=id hl;refine cs ⟨_,rfl,l,dxl,_,rfl,hl',de _ _ ia.1 ia.2,_,rfl,l,h,l1,l2,h1,h2,rfl,hl,hh,en.bl1.mono,en.bl2.mono,en.bh1.mono,en.bh2.mono,_,_,rfl,rfl,_,rfl,aP (λhge=>?_) (λ_=>?_)⟩
  ·have:sg (l1*h2-h1*l2) = -1:=DL (by have:=en.lt;omega);rw[this]at hge;exact absurd hge (by decide)
  refine bj ⟨_,rfl,a,prQ fs,9,rfl,hA,hW.fam.pln.tr,hW.bits.mono,by omega,by decide,rn,λlr ps H1 s1 hl1 hnew el hR=>?_⟩;refine⟨_,rfl,_,rfl,lr,l,h,ps,dj fs,l1,l2,h1,h2,rfl,el,hR,hl.same s1,hh.same s1,en.bl1.mono,en.bl2.mono,en.bh1.mono,en.bh2.mono,rx,rl,λH2 s2=>?_⟩;have:=k H2 (s1.trans s2);rw[<- nY hW.fam l7 en.l2p en.h2p en.lt]at this;exact this
theorem sG{Q:Hp->Prop}{H1 H2:Hp}(e:H1=H2)(h:Q H2):Q H1:=by rw[e];exact h
inductive xC(C:Addr)(vs:List V)(H:Hp)(Q:VK)(E:XK):Prop
 |mk (p q:Addr) (t b u d:Int):vs=[.ref p,.ref q]->RA C H p t b->RA C H q u d->Bits 900 t->Bits 900 b->Bits 900 u->Bits 900 d->0<b->0<d->mkR C H Q (t*d+u*b) (2*b*d)->xC C vs H Q E
theorem Gu(F:Fun K "middle" "middle" re f fd)(T:Txt K mg)(R:RCI K mg C)(ci:KCal P w K mg base 2 C "Ratio" ["self","top","bottom"] (c9 C) dS dR dW [.int 1]):FnOk P w K mg base CX0 4 f fd ["low","high"] (xC C):=by
 obtain⟨bH,bF,bC,bX,cO,cM⟩:=ci;refine F.ok D5 (λvs H Q E h=>?_) (λcdv A outer s H vs Q E hr h=>?_)
 ·obtain⟨p,q,t,b,u,d,rfl,_⟩:=h;rfl
 ·obtain⟨p,q,t,b,u,d,rfl,⟨dx,hp⟩,⟨dy,hq⟩,bt,bb,bu,bd,hb,hd,k⟩:=h;have b2:Bits 2 (2:Int):=by show(2:Int).natAbs<2^2;decide
  have b2b:Bits 902 (2*b):=b2.mul bb |>.mono
  refine⟨_,(al (aC (b9 bF bH (hr.mono) rfl bC bX .nil ai (aa (aj aY (aj aK (aN (K:=K) rfl (pv 0) rfl) (aN (K:=K) rfl (pv 1) rfl)) (aj aK (aN (K:=K) rfl (pv 1) rfl) (aN (K:=K) rfl (pv 0) rfl))) (aa (aj aK (aj aK ad (aN (K:=K) rfl (pv 0) rfl)) (aN (K:=K) rfl (pv 1) rfl)) ac))))),?_⟩;refine⟨_,rfl,p,C,dx,_,_,rfl,hp,R.cl,R.nT,c8 _ _,_,rfl,q,C,dy,_,_,rfl,hq,R.cl,R.nB,ca _ _,_,_,rfl,rfl,⟨bt.mono,bd.mono⟩,?_⟩;refine⟨_,rfl,q,C,dy,_,_,rfl,hq,R.cl,R.nT,c8 _ _,_,rfl,p,C,dx,_,_,rfl,hp,R.cl,R.nB,ca _ _,_,_,rfl,rfl,⟨bu.mono,bb.mono⟩,_,_,rfl,rfl,?_⟩;refine⟨_,rfl,p,C,dx,_,_,rfl,hp,R.cl,R.nB,ca _ _,_,_,rfl,rfl,⟨b2.mono,bb.mono⟩,_,rfl,q,C,dy,_,_,rfl,hq,R.cl,R.nB,ca _ _,_,_,rfl,rfl,⟨b2b.mono,bd.mono⟩,?_⟩;exact cU (Qo (PB (by omega) hd)) ((b2b.mul bd).mono) k
theorem Aq{os:List Int}{l j k:Nat}(h1:isB os l j)(h2:isB os l k):j=k:=by
 rcases Nat.lt_trichotomy j k with z |z |z
 ·obtain⟨x,hx,h⟩:=h2.2 j z;have:=h1.1 x hx;omega
 ·exact z
 ·obtain⟨x,hx,h⟩:=h1.2 k z;have:=h2.1 x hx;omega
theorem BP{ns:List Int}(h:AllB 250 ns)(hp:0<ao ns){kb:Nat}(hB:isB (ns.take (ns.length-1)) (ao ns).natAbs kb):kb<=252:=by
 rcases Nat.lt_or_ge kb 253 with z |z
 ·omega
 ·obtain⟨x,hx,h2⟩:=hB.2 252 (by omega);have h3:x.natAbs<2^250:=h x (Sq hx);have h4:2^250<=2^252-1:=by decide +kernel
  have h5:2^252-1<=(2^252-1)*(ao ns).natAbs:=Nat.le_mul_of_pos_right _ (by omega);omega
def NL(H H':Hp):Prop:=∀c o,H c=some o->(∀xs,o≠.lst xs)->H' c=some o
theorem NL.of{H H':Hp}(s:Same H H'):NL H H':=λc o e _=>s c o e
theorem NL.upd{H:Hp}{p:Addr}{xs:List V}{o:HO}(hp:H p=some (.lst xs)):NL H (upd H p o):=λc o' e hn=>by
 have:c≠p:=λz=>by rw[z,hp]at e;exact hn xs (Option.some.inj e).symm
 rw[upd_ne this];exact e
theorem NL.trans{H1 H2 H3:Hp}(a:NL H1 H2)(b:NL H2 H3):NL H1 H3:=λc o e hn=>b c o (a c o e hn) hn
theorem RA.nl{C:Addr}{H H':Hp}{p:Addr}{t b:Int}(h:RA C H p t b)(s:NL H H'):RA C H' p t b:=let⟨dx,e⟩:=h;⟨dx,s _ _ e (λ_=>by simp)⟩
structure Cel where
 q:Addr
 lo:Addr
 hi:Addr
 l1:Int
 l2:Int
 h1:Int
 h2:Int
 d:Nat
noncomputable def VV(fs:List (List Int))(t n:Int):Int:=(chS (sgs t n (dj fs))).1
noncomputable def Cel.cn(x:Cel)(fs:List (List Int)):Int:=bI (aI fs) x.l1 x.l2 x.h1 x.h2
def Cel.inn(x:Cel)(s:List Int):Prop:=0<ap s x.l1 x.l2/\ap s x.h1 x.h2<=0
structure WtH(C:Addr)(H:Hp)(fs:List (List Int))(kb:Nat)(x:Cel):Prop where
 tup:H x.q=some (.tup [.ref x.lo,.ref x.hi,.int (VV fs x.l1 x.l2),.int (VV fs x.h1 x.h2)])
 lo:RA C H x.lo x.l1 x.l2
 hi:RA C H x.hi x.h1 x.h2
 dy:Dya (2^kb) x.d x.l1 x.l2 x.h1 x.h2
 dd:x.d<=kb+201
theorem WtH.nl{C:Addr}{H H':Hp}{fs:List (List Int)}{kb:Nat}{x:Cel}(h:WtH C H fs kb x)(s:NL H H'):WtH C H' fs kb x:=⟨s _ _ h.tup (λ_=>by simp),h.lo.nl s,h.hi.nl s,h.dy,h.dd⟩
structure FdH(C:Addr)(H:Hp)(fs:List (List Int))(kb:Nat)(x:Cel):Prop where
 tup:H x.q=some (.tup [.ref x.lo,.ref x.hi])
 lo:RA C H x.lo x.l1 x.l2
 hi:RA C H x.hi x.h1 x.h2
 dy:Dya (2^kb) x.d x.l1 x.l2 x.h1 x.h2
 dd:x.d<=kb+201
 one:x.cn fs=1
theorem FdH.nl{C:Addr}{H H':Hp}{fs:List (List Int)}{kb:Nat}{x:Cel}(h:FdH C H fs kb x)(s:NL H H'):FdH C H' fs kb x:=⟨s _ _ h.tup (λ_=>by simp),h.lo.nl s,h.hi.nl s,h.dy,h.dd,h.one⟩
theorem o7{kb d:Nat}{l1 l2 h1 h2:Int}(h:Dya (2^kb) d l1 l2 h1 h2)(hk:kb<=252)(hd:d<=kb+201):Bits 710 l1/\Bits 710 l2/\Bits 710 h1/\Bits 710 h2:=by obtain⟨⟨a,b⟩,c,e⟩:=h.bits;have hp:2^(kb+d)<2^710:=(Sj (by decide)).mpr (by omega);exact⟨Rc a hp,Rc b hp,Rc c hp,Rc e hp⟩
theorem KI{kb d:Nat}{l1 l2 h1 h2:Int}(h:Dya (2^kb) d l1 l2 h1 h2)(hk:kb<=252)(hd:d<=kb+201):EndsG 710 l1 l2 h1 h2:=by obtain⟨a,b,c,e⟩:=o7 h hk hd;exact⟨h.l2p,h.h2p,a,b,c,e,h.lt (Qs (by decide)),h.gl,h.gh⟩
noncomputable def wgt(fs:List (List Int))(kb:Nat)(x:Cel):Nat:=1+2*((x.cn fs).toNat*(kb+201-x.d))
noncomputable def eN(fs:List (List Int))(kb:Nat)(ws:List Cel):Nat:=(ws.map (wgt fs kb)).sum
theorem jH(fs:List (List Int))(kb:Nat)(ws:List Cel)(x:Cel):eN fs kb (ws++[x])=eN fs kb ws+wgt fs kb x:=by unfold eN;rw[Qk,List.sum_append];simp
theorem pH(fs:List (List Int))(kb:Nat):∀ws:List Cel,ws.length<=eN fs kb ws
 | []=>PF _
 |x::ws=>by have:=pH fs kb ws;show ws.length+1<=wgt fs kb x+eN fs kb ws;unfold wgt;omega
noncomputable def qs(ws:List Cel):List V:=ws.map λx=>V.ref x.q
theorem n5(ws:List Cel)(x:Cel):qs (ws++[x])=qs ws++[V.ref x.q]:=by unfold qs;rw[Qk];rfl
theorem BB(l1 l2 h1 h2:Int):∀ls:List (List Int),bI ls l1 l2 h1 h2<=ls.length
 | []=>Qg _
 |l::ls=>by rw[du];have:=BB l1 l2 h1 h2 ls;rw[Qw];split<;>omega
theorem wQ:∀fs:List (List Int),(aI fs).length<=2*fs.length
 | []=>PF _
 |f::fs=>by
  have:=wQ fs;show(spF f++aI fs).length<=2*(fs.length+1);rw[Qi]
  have h2:(spF f).length<=2:=by unfold spF;rw[Qi];split<;>split<;>simp
  omega
theorem Kp{fs:List (List Int)}(h:Fam fs):fs.length+1<=(prQ fs).length:=by
 have hp:=h.pri;rw[h.prd];generalize hs:fs.map ah=ss at hp
 have e:fs.length=ss.length:=by rw[<- hs,PC]
 rw[e];clear e hs h
 induction ss with
 |nil=>simp[prd]
 |cons s ss ih =>
  have h1:=ih λx hx=>hp x (PP _ hx)
  have h2:=hp s (PU ..);have h3:Pln (prd ss):=iI ss λx hx=>(hp x (PP _ hx)).pln
  have h4:=bV h2.pln.ne h3.ne;have h5:=h2.two;show ss.length+1+1<=(af s (prd ss)).length;omega
def cov(s:List Int)(xs:List Cel):Prop:=∃x∈xs,x.inn s
theorem cov_snoc{s:List Int}{xs:List Cel}{x:Cel}:cov s (xs++[x])↔cov s xs\/x.inn s:=by
 constructor
 ·rintro⟨y,hy,h⟩;rcases Qh.mp hy with z |z
  ·exact .inl ⟨y,z,h⟩
  ·rw[PQ.mp z]at h;exact .inr h
 ·rintro(⟨y,hy,h⟩ |h)
  ·exact⟨y,Q0 _ hy,h⟩
  ·exact⟨x,by simp,h⟩
def xN(C:Addr):Sp:=λvs H Q _=>∃(a:Addr) (fs:List (List Int)),vs=[.ref a]/\H a=some (.lst ((prQ fs).map V.int))/\Whl fs /\
 ∀(kb:Nat) (p:Addr) (ys:List Cel) (H':Hp),kb<=252->isB ((prQ fs).take ((prQ fs).length-1)) (ao (prQ fs)).natAbs kb->Same H H'->H p=none->H' p=some (.lst (qs ys))->(∀y∈ys,FdH C H' fs kb y)->(∀s∈aI fs,cov s ys)->ys.length<=12000->Q (.ref p) H'
theorem GL(F:Fun K "cells" "cells" rJ f fd)(T:Txt K mg)(R:RCI K mg C)(eK:Cal P w K mg base 1 "degree" ["row"] gX km ki)(mX:Cal P w K mg base 35 "row_of" ["polynomial"] nE AZ AV)(ci:KCal P w K mg base 2 C "Ratio" ["self","top","bottom"] (c9 C) dS dR dW [.int 1])(mZ:Cal P w K mg base 1 "bound" ["row"] (nJ K) A5 AX)(vV:Cal P w K mg base 3 "changes" ["row","ratio"] (qf C) Kz Kj)(No:Cal P w K mg base 4 "middle" ["low","high"] (xC C) O4 Oi):FnOk P w K mg base CX0 36 f fd ["row"] (xN C):=by
 obtain⟨dA,dm,dq,dz⟩:=eK;obtain⟨mU,mh,mv,mO⟩:=mX;obtain⟨bH,bF,bC,bX,cO,cM⟩:=ci;obtain⟨jy,iV,i8,jp⟩:=mZ;obtain⟨kJ,ka,ke,ky⟩:=vV;obtain⟨MF,Id,Jj,LO⟩:=No;refine F.ok sc_cells (λvs H Q E h=>?_) (λcdv A outer s H vs Q E hr h=>?_)
 ·obtain⟨a,fs,rfl,_⟩:=h;rfl
 ·obtain⟨a,fs,rfl,hA,hW,k⟩:=h;have big:=sizeLine_eq;have hP:=hW.fam.pln;have l7:=hW.l7;have l2':=hW.l2;have hml:((prQ fs).map V.int).length=(prQ fs).length:=PC _;obtain⟨rn,rx,rl⟩:=sC hW.fam l7 hW.bits
  refine⟨_,(ag (aR (aH dH (aq dA (hr.mono) rfl dm dq dz .nil ai (aa (pv 0) ac)) ad (aG _))
   (al (aC (aX ac)))
   aU)
   (ag (ak (i:=1) sc_cells.nd rfl (Or.inl rfl) (aq mU (hr.mono) rfl mh mv mO .nil ai (aa (pv 0) ac)))
   (ag (ak (i:=2) sc_cells.nd rfl (Or.inl rfl) (b9 bF bH (hr.mono) rfl bC cO cM ai (aa (aq jy (hr.mono) rfl iV i8 jp .nil ai (aa (pv 0) ac)) ac)))
   (ag (ak (i:=3) sc_cells.nd rfl (Or.inl rfl) (b9 bF bH (hr.mono) rfl bC cO cM ai (aa (bK bJ (aq jy (hr.mono) rfl iV i8 jp .nil ai (aa (pv 0) ac))) ac)))
   (ag (ak (i:=4) sc_cells.nd rfl (Or.inl rfl) (aX (aa (db (aa (pv 3) (aa (pv 2) (aa (aq kJ (hr.mono) rfl ka ke ky .nil ai (aa (pv 1) (aa (pv 3) ac))) (aa (aq kJ (hr.mono) rfl ka ke ky .nil ai (aa (pv 1) (aa (pv 2) ac))) ac))))) ac)))
   (ag (ak (i:=5) sc_cells.nd rfl (Or.inl rfl) (aX ac))
   (ag (fc PassesOwn.never (aH fJ (bz (cY (K:=K) rfl) (by rfl) T.len_ PySem.boot_len (aa (pv 4) ac)) ad (aG _))
     (ag (ak (i:=6) sc_cells.nd rfl (Or.inl rfl) (y0 PySem.F.plainAttrs_list PySem.F.slot_list_pop PySem.F.type_list_pop Ht (pv 4)))
       (ag (ak (i:=7) sc_cells.nd rfl (Or.inl rfl) (aj cq (aE (aM (K:=K) rfl) (pv 6) ad (λ_ _=>rfl)) (aE (aM (K:=K) rfl) (pv 6) ad (λ_ _=>rfl))))
       (ag (aR (aH cW (pv 7) ad (aG _))
         (al (fe (gB PySem.F.plainAttrs_list PySem.F.slot_list_append PySem.F.type_list_append gE (pv 5) (aa (db (aa (aE (aM (K:=K) rfl) (pv 6) ad (λ_ _=>rfl)) (aa (aE (aM (K:=K) rfl) (pv 6) ad (λ_ _=>rfl)) ac))) ac))))
         aU)
       (al (aR (aH fJ (pv 7) ad (aG _))
         (ag (ak (i:=8) sc_cells.nd rfl (Or.inl rfl) (aq MF (hr.mono) rfl Id Jj LO .nil ai (aa (aE (aM (K:=K) rfl) (pv 6) ad (λ_ _=>rfl)) (aa (aE (aM (K:=K) rfl) (pv 6) ad (λ_ _=>rfl)) ac))))
           (ag (ak (i:=9) sc_cells.nd rfl (Or.inl rfl) (aq kJ (hr.mono) rfl ka ke ky .nil ai (aa (pv 1) (aa (pv 8) ac))))
           (ag (fe (gB PySem.F.plainAttrs_list PySem.F.slot_list_append PySem.F.type_list_append gE (pv 4) (aa (db (aa (pv 8) (aa (aE (aM (K:=K) rfl) (pv 6) ad (λ_ _=>rfl)) (aa (pv 9) (aa (aE (aM (K:=K) rfl) (pv 6) ad (λ_ _=>rfl)) ac))))) ac)))
           (al (fe (gB PySem.F.plainAttrs_list PySem.F.slot_list_append PySem.F.type_list_append gE (pv 4) (aa (db (aa (aE (aM (K:=K) rfl) (pv 6) ad (λ_ _=>rfl)) (aa (pv 8) (aa (aE (aM (K:=K) rfl) (pv 6) ad (λ_ _=>rfl)) (aa (pv 9) ac))))) ac)))))))
         aU))))))
   (al (aC (pv 5)))))))))),?_⟩
  refine cs ⟨_,rfl,a,_,rfl,hA,_,_,rfl,rfl,_,rfl,aP (λh0=>absurd (show(((prQ fs).map V.int).length:Int)-1<1 from h0) (by rw[hml];omega)) (λ_=>?_)⟩;refine av ⟨_,rfl,a,prQ fs,9,rfl,hA,hP.tr,hW.bits.mono,by omega,by decide,rn,λpc ps H1 s1 hpc hnew ec hR=>?_⟩;have hR':RwH H1 ps (dj fs):=hR;refine av ⟨_,rfl,a,prQ fs,rfl,SqL.of (s1 _ _ hA),hP.tr,hP.ne,by omega,hW.bits.mono,λkb H2 hkb hB s2=>cU (t:=((2^kb:Nat):Int)) (b:=1) (by decide) (b1k (by decide)) λph H3 s3 hph hRh=>?_⟩;rw[jT,jW]at hRh;have t3:=(s1.trans s2).trans s3;refine av ⟨_,rfl,a,prQ fs,rfl,SqL.of (t3 _ _ hA),hP.tr,hP.ne,by omega,hW.bits.mono,λkb' H4 hkb' hB' s4=>?_⟩;obtain rfl:=Aq hB hB';refine⟨_,rfl,cU (t := -((2^kb:Nat):Int)) (b:=1) (by decide) (b1k (by decide)) λpl H5 s5 hpl hRl=>?_⟩;rw[jT,jW]at hRl;have hk:=BP hW.bits hP.pos hB;have eB:((2^kb:Nat):Int)=(2:Int)^kb:=by rw[Rv];rfl
  rw[eB]at hRh hRl;have B0:(0:Int)<2^kb:=Qs (by decide);have t5:=(t3.trans s4).trans s5;have u5:=(s2.trans s3).trans (s4.trans s5);have ec5:=u5 _ _ ec;have hR5:=hR'.same u5;have hRh5:=hRh.same (s4.trans s5);have dy0:Dya (2^kb) 0 (-(2^kb)) 1 (2^kb) 1:=Dya.start;obtain⟨b1,b2,b3,b4⟩:=o7 dy0 hk (by omega);refine av ⟨_,rfl,_,rfl,_,rfl,_,rfl,pc,pl,ps,dj fs,_,_,rfl,ec5,hR5,hRl,b1.mono,b2.mono,rx,rl,λH6 s6=>?_⟩;refine⟨_,rfl,_,rfl,pc,ph,ps,dj fs,_,_,rfl,s6 _ _ ec5,hR5.same s6,hRh5.same s6,b3.mono,b4.mono,rx,rl,λH7 s7=>⟨by show 4<=sizeLine;omega,λq0 hq0=>⟨by show 1<=sizeLine;omega,λpw hpw=>?_⟩⟩⟩;have u7:=s6.trans s7;have ec7:=u7 _ _ ec5;have hR7:=hR5.same u7;have hRl7:=hRl.same u7;have hRh7:=hRh5.same u7;have t7:=t5.trans u7;have w7:Same H7 (upd H7 q0 (.tup [.ref pl,.ref ph,.int (VV fs (-(2^kb)) 1),.int (VV fs (2^kb) 1)])):=Same.upd_new hq0;have e8:upd H7 q0 (.tup [.ref pl,.ref ph,.int (VV fs (-(2^kb)) 1),.int (VV fs (2^kb) 1)]) q0=some (.tup [.ref pl,.ref ph,.int (VV fs (-(2^kb)) 1),.int (VV fs (2^kb) 1)]):=au;have hpw':upd H7 q0 (.tup [.ref pl,.ref ph,.int (VV fs (-(2^kb)) 1),.int (VV fs (2^kb) 1)]) pw=none:=hpw;refine av ⟨PK _,λpf hpf=>?_⟩;have hpf':upd (upd H7 q0 (.tup [.ref pl,.ref ph,.int (VV fs (-(2^kb)) 1),.int (VV fs (2^kb) 1)])) pw (.lst [V.ref q0]) pf=none:=hpf;show cI _ _ _ _ _;refine dZ (λσ' H'=>σ'=[some (.ref a),some (.ref pc),some (.ref ph),some (.ref pl),some (.ref pw),some (.ref pf),none,none,none,none]/\upd (upd (upd H7 q0 (.tup [.ref pl,.ref ph,.int (VV fs (-(2^kb)) 1),.int (VV fs (2^kb) 1)])) pw (.lst [V.ref q0])) pf (.lst [])=H') ⟨rfl,rfl⟩ ?_;rintro σ' H10 ⟨rfl,eH10⟩;generalize upd H7 q0 (.tup [.ref pl,.ref ph,.int (VV fs (-(2^kb)) 1),.int (VV fs (2^kb) 1)])=H8 at w7 e8 hpw' hpf' eH10
  have sw:Same H8 (upd H8 pw (.lst [V.ref q0])):=Same.upd_new hpw';have sf:Same (upd H8 pw (.lst [V.ref q0])) H10:=by rw[<- eH10];exact Same.upd_new hpf'
  have s810:=sw.trans sf;have fw:H8 pw=none:=hpw';have ff:H8 pf=none:=sw.free hpf';have nwf:pw≠pf:=aW (au (H:=H8) (o:=.lst [V.ref q0])) hpf';have ew10:H10 pw=some (.lst [V.ref q0]):=sf _ _ au;have ef10:H10 pf=some (.lst []):=by rw[<- eH10];exact au
  have x0w:WtH C H10 fs kb ⟨q0,pl,ph,-(2^kb),1,2^kb,1,0⟩:=⟨s810 _ _ e8,hRl7.same (w7.trans s810),hRh7.same (w7.trans s810),dy0,PK _⟩
  have cov0:∀s∈aI fs,cov s [⟨q0,pl,ph,-(2^kb),1,2^kb,1,0⟩]:=λs hs=>by obtain⟨z1,z2⟩:=wT hW.fam.fac hW.fam.nd (B:=2^kb) (Q4 (by decide)) hB.1 hs;rw[eB]at z1 z2;exact⟨_,PQ.mpr rfl,z2,PD z1⟩
  clear eH10 sw sf;have hsp:=wQ fs;have hfl:=Kp hW.fam
  have hm0:eN fs kb [⟨q0,pl,ph,-(2^kb),1,2^kb,1,0⟩]<=11000:=by
   show wgt fs kb _+0<=11000;unfold wgt;have h1:=BB (-(2^kb)) 1 (2^kb) 1 (aI fs)
   have h2:(Cel.cn ⟨q0,pl,ph,-(2^kb),1,2^kb,1,0⟩ fs).toNat<=12:=by show(bI (aI fs) (-(2^kb)) 1 (2^kb) 1).toNat<=12;omega
   have h3:=QW h2 (show kb+201-0<=453 by omega);have h4:(kb+201-(Cel.mk q0 pl ph (-(2^kb)) 1 (2^kb) 1 0).d)=kb+201-0:=rfl;rw[h4];omega
  refine⟨λm σ' H'=>∃(ws ys:List Cel) (z6 z7 z8 z9:Option V),m=eN fs kb ws/\σ'=[some (.ref a),some (.ref pc),some (.ref ph),some (.ref pl),some (.ref pw),some (.ref pf),z6,z7,z8,z9]/\Same H8 H'/\H' pw=some (.lst (qs ws))/\H' pf=some (.lst (qs ys))/\(∀x∈ws,WtH C H' fs kb x)/\(∀y∈ys,FdH C H' fs kb y)/\(∀s∈aI fs,cov s ws\/cov s ys)/\ys.length+m<=11000,
   ⟨_,[⟨q0,pl,ph,-(2^kb),1,2^kb,1,0⟩],[],none,none,none,none,rfl,rfl,s810,ew10,ef10,λx hx=>by rw[PQ.mp hx];exact x0w,(λy hy=>nomatch hy),λs hs=>.inl (cov0 s hs),by show 0+_<=_;omega⟩,?_⟩
  clear hm0 cov0 x0w ew10 ef10 s810;rintro m σ' H' ⟨ws,ys,z6,z7,z8,z9,rfl,rfl,sm,ew,ef,hws,hys,hcov,hlen⟩;have hwl:=pH fs kb ws;have hql:(qs ws).length=ws.length:=PC _;refine⟨_,rfl,pw,_,rfl,.inl (SqL.of ew),_,_,rfl,rfl,_,rfl,aP (λhgt=>?_) (λhle=>?_)⟩
  rotate_left
  ·
   have h0:ws=[]:=Re.mp (by have:¬((qs ws).length:Int)>0:=hle;rw[hql]at this;omega);subst h0;refine⟨_,rfl,k kb pf ys H' hk hB (t7.trans (w7.trans sm)) ((t7.trans w7).free ff) ef hys (λs hs=>?_) (by omega)⟩;rcases hcov s hs with⟨x,hx,_⟩ |z
   ·cases hx
   ·exact z
  ·have hne:ws≠[]:=λz=>by rw[z]at hql;have:((qs ws).length:Int)>0:=hgt;rw[z]at this;exact absurd this (by decide)
   obtain⟨ws',x,rfl⟩:∃ws' x,ws=ws'++[x]:=⟨ws.dropLast,ws.getLast hne,(List.dropLast_concat_getLast hne).symm⟩;rw[jH]at hlen;rw[n5]at ew;have hx:=hws x (by simp);have hw':∀y∈ws',WtH C H' fs kb y:=λy hy=>hws y (by simp[hy])
   clear hws hql hgt hne;have hwl:=pH fs kb ws';refine⟨λσ'' H''=>∃m',m'<eN fs kb (ws'++[x])/\∃(ws ys:List Cel) (z6 z7 z8 z9:Option V),m'=eN fs kb ws/\σ''=[some (.ref a),some (.ref pc),some (.ref ph),some (.ref pl),some (.ref pw),some (.ref pf),z6,z7,z8,z9]/\Same H8 H''/\H'' pw=some (.lst (qs ws))/\H'' pf=some (.lst (qs ys))/\(∀x∈ws,WtH C H'' fs kb x)/\(∀y∈ys,FdH C H'' fs kb y)/\(∀s∈aI fs,cov s ws\/cov s ys)/\ys.length+m'<=11000,λ_ _ h=>h,?_⟩;rw[jH];refine av ⟨_,rfl,.inl ⟨rfl,_,SqL.of ew⟩,pw,_,V.ref x.q,rfl,rfl,ew,by rw[Qi];simp,?_⟩;rw[List.dropLast_concat];have ew1:upd H' pw (.lst (qs ws')) pw=some (.lst (qs ws')):=au;have ef1:upd H' pw (.lst (qs ws')) pf=some (.lst (qs ys)):=by rw[upd_ne (Ne.symm nwf)];exact ef
   have n1:NL H' (upd H' pw (.lst (qs ws'))):=NL.upd ew;have sm1:Same H8 (upd H' pw (.lst (qs ws'))):=eo sm fw;generalize upd H' pw (.lst (qs ws'))=K1 at ew1 ef1 n1 sm1 ⊢
   have hx1:=hx.nl n1;have hw1:∀y∈ws',WtH C K1 fs kb y:=λy hy=>(hw' y hy).nl n1
   have hy1:∀y∈ys,FdH C K1 fs kb y:=λy hy=>(hys y hy).nl n1
   clear hw' hys ew ef sm n1 hx;refine av ⟨_,rfl,x.q,_,_,_,rfl,rfl,SqT.of hx1.tup,rfl,_,rfl,x.q,_,_,_,rfl,rfl,SqT.of hx1.tup,rfl,_,_,rfl,rfl,?_⟩;have ecn:VV fs x.l1 x.l2-VV fs x.h1 x.h2=x.cn fs:=nY hW.fam l7 hx1.dy.l2p hx1.dy.h2p (hx1.dy.lt B0);dsimp only
   rw[ecn];have cn0:0<=x.cn fs:=mJ _ _ _ _ _;refine dN (λσ' H'=>∃ys:List Cel,σ'=[some (.ref a),some (.ref pc),some (.ref ph),some (.ref pl),some (.ref pw),some (.ref pf),some (.ref x.q),some (.int (x.cn fs)),z8,z9]/\Same H8 H'/\H' pw=some (.lst (qs ws'))/\H' pf=some (.lst (qs ys))/\WtH C H' fs kb x/\(∀y∈ws',WtH C H' fs kb y)/\(∀y∈ys,FdH C H' fs kb y)/\(∀s∈aI fs,cov s ws'\/(x.cn fs≠1/\x.inn s)\/cov s ys)/\ys.length+eN fs kb ws'+(if x.cn fs=1 then 0 else wgt fs kb x)<=11000) ?_ ?_
   case refine_2 =>
    intro rest;refine⟨_,rfl,_,_,rfl,rfl,_,rfl,aP (λh1=>?_) (λh1=>?_)⟩
    ·have h1':x.cn fs=1:=h1;refine yD ⟨_,rfl,.inl ⟨rfl,_,SqL.of ef1⟩,_,rfl,x.q,_,_,_,rfl,rfl,SqT.of hx1.tup,rfl,_,rfl,x.q,_,_,_,rfl,rfl,SqT.of hx1.tup,rfl,by show 2<=sizeLine;omega,λp hp=>?_⟩;have s2:Same K1 (upd K1 p (.tup [V.ref x.lo,V.ref x.hi])):=Same.upd_new hp;have e2:upd K1 p (.tup [V.ref x.lo,V.ref x.hi]) p=some (.tup [V.ref x.lo,V.ref x.hi]):=au;generalize upd K1 p (.tup [V.ref x.lo,V.ref x.hi])=K2 at s2 e2 ⊢
     have ef2:=s2 _ _ ef1;have hyl:(qs ys).length=ys.length:=PC _;refine⟨pf,_,_,rfl,rfl,ef2,by rw[hyl];omega,?_⟩;have n3:NL K1 (upd K2 pf (.lst (qs ys++[V.ref p]))):=(NL.of s2).trans (NL.upd ef2);have n4:NL K2 (upd K2 pf (.lst (qs ys++[V.ref p]))):=NL.upd ef2;refine rest _ _ ⟨ys++[⟨p,x.lo,x.hi,x.l1,x.l2,x.h1,x.h2,x.d⟩],rfl,eo (sm1.trans s2) ff,by rw[upd_ne nwf];exact s2 _ _ ew1,by rw[au,n5],hx1.nl n3,λy hy=>(hw1 y hy).nl n3,λy hy=>?_,λs hs=>?_,?_⟩
     ·rcases Qh.mp hy with z |z
      ·exact(hy1 y z).nl n3
      ·rw[PQ.mp z];exact⟨n4 _ _ e2 (λ_=>by simp),hx1.lo.nl n3,hx1.hi.nl n3,hx1.dy,hx1.dd,h1'⟩
     ·rcases hcov s hs with z |z
      ·rcases cov_snoc.mp z with z |z
       ·exact .inl z
       ·exact .inr (.inr (cov_snoc.mpr (.inr z)))
      ·exact .inr (.inr (cov_snoc.mpr (.inl z)))
     ·rw[if_pos h1',Qi];show ys.length+1+_+0<=_;have:1<=wgt fs kb x:=by unfold wgt;omega
      omega
    ·have h1':¬x.cn fs=1:=h1;refine rest _ _ ⟨ys,rfl,sm1,ew1,ef1,hx1,hw1,hy1,λs hs=>?_,by rw[if_neg h1'];omega⟩;rcases hcov s hs with z |z
     ·rcases cov_snoc.mp z with z |z
      ·exact .inl z
      ·exact .inr (.inl ⟨h1',z⟩)
     ·exact .inr (.inr z)
   clear hcov hlen hy1 hw1 hx1 ef1 ew1 sm1 ys;rintro σ' K3 ⟨ys,rfl,sm1,ew1,ef1,hx1,hw1,hy1,hcov,hlen⟩;refine⟨_,rfl,_,_,rfl,rfl,_,rfl,aP (λh2=>?_) (λh2=>?_)⟩
   rotate_left
   ·
    have h2':¬x.cn fs>1:=h2;refine⟨eN fs kb ws',by unfold wgt;omega,ws',ys,_,_,_,_,rfl,rfl,sm1,ew1,ef1,hw1,hy1,λs hs=>?_,by split at hlen<;>omega⟩;rcases hcov s hs with z |⟨z1,z2⟩ |z
    ·exact .inl z
    ·have:1<=x.cn fs:=BA hs z2;omega
    ·exact .inr z
   have h2':x.cn fs>1:=h2;rw[if_neg (show ¬x.cn fs=1 by omega)]at hlen
   have hdl:x.d<kb+201:=Nat.not_le.mp λz=>by have:x.cn fs<=1:=Dya.few hW.fam.fac hW.fam.nd hx1.dy z;omega
   obtain⟨c1,c2,c3,c4⟩:=o7 hx1.dy hk hx1.dd;refine av ⟨_,rfl,x.q,_,_,_,rfl,rfl,SqT.of hx1.tup,rfl,_,rfl,x.q,_,_,_,rfl,rfl,SqT.of hx1.tup,rfl,x.lo,x.hi,_,_,_,_,rfl,hx1.lo,hx1.hi,c1.mono,c2.mono,c3.mono,c4.mono,hx1.dy.l2p,hx1.dy.h2p,λpm K4 s4 hpm hRm=>?_⟩;have n0:2*x.l2*x.h2≠0:=Qo (PB (by have:=hx1.dy.l2p;omega) hx1.dy.h2p);obtain⟨dl,dr⟩:=hx1.dy.half (dk n0) (g7 n0) (fb n0);generalize rt (x.l1*x.h2+x.h1*x.l2) (2*x.l2*x.h2)=m1 at hRm dl dr
   generalize rb (x.l1*x.h2+x.h1*x.l2) (2*x.l2*x.h2)=m2 at hRm dl dr
   have hx4:=hx1.nl (NL.of s4);obtain⟨g1,g2,g3,g4⟩:=o7 dl hk (by omega);have sm4:=sm1.trans s4;refine av ⟨_,rfl,_,rfl,pc,pm,ps,dj fs,m1,m2,rfl,sm4 _ _ (w7 _ _ ec7),hR7.same (w7.trans sm4),hRm,g3.mono,g4.mono,rx,rl,λK5 s5=>?_⟩;have hx5:=hx4.nl (NL.of s5);have u5:=s4.trans s5;refine gt ⟨_,rfl,.inl ⟨rfl,_,SqL.of (u5 _ _ ew1)⟩,_,rfl,_,rfl,x.q,_,_,_,rfl,rfl,SqT.of hx5.tup,rfl,_,rfl,_,rfl,x.q,_,_,_,rfl,rfl,SqT.of hx5.tup,rfl,by show 4<=sizeLine;omega,λq1 hq1=>?_⟩;have s6:Same K5 (upd K5 q1 (.tup [V.ref pm,V.ref x.hi,V.int (VV fs m1 m2),V.int (VV fs x.h1 x.h2)])):=Same.upd_new hq1;have e6:upd K5 q1 (.tup [V.ref pm,V.ref x.hi,V.int (VV fs m1 m2),V.int (VV fs x.h1 x.h2)]) q1=some (.tup [V.ref pm,V.ref x.hi,V.int (VV fs m1 m2),V.int (VV fs x.h1 x.h2)]):=au;refine sG (H2:=upd K5 q1 (.tup [V.ref pm,V.ref x.hi,V.int (VV fs m1 m2),V.int (VV fs x.h1 x.h2)])) rfl ?_;generalize upd K5 q1 (.tup [V.ref pm,V.ref x.hi,V.int (VV fs m1 m2),V.int (VV fs x.h1 x.h2)])=K6 at s6 e6 ⊢
   have u6:=u5.trans s6;have ew6:=u6 _ _ ew1;have ef6:=u6 _ _ ef1;have hql:(qs ws').length=ws'.length:=PC _;refine⟨pw,_,_,rfl,rfl,ew6,by rw[hql];omega,?_⟩;have ew7:upd K6 pw (.lst (qs ws'++[V.ref q1])) pw=some (.lst (qs ws'++[V.ref q1])):=au;have ef7:upd K6 pw (.lst (qs ws'++[V.ref q1])) pf=some (.lst (qs ys)):=by rw[upd_ne (Ne.symm nwf)];exact ef6
   have n7:NL K6 (upd K6 pw (.lst (qs ws'++[V.ref q1]))):=NL.upd ew6;have sm7:Same H8 (upd K6 pw (.lst (qs ws'++[V.ref q1]))):=eo (sm1.trans u6) fw;generalize upd K6 pw (.lst (qs ws'++[V.ref q1]))=K7 at ew7 ef7 n7 sm7 ⊢
   have m5:NL K5 K7:=(NL.of s6).trans n7;have hx7:=hx5.nl m5;refine yD ⟨_,rfl,.inl ⟨rfl,_,SqL.of ew7⟩,_,rfl,x.q,_,_,_,rfl,rfl,SqT.of hx7.tup,rfl,_,rfl,_,rfl,x.q,_,_,_,rfl,rfl,SqT.of hx7.tup,rfl,_,rfl,by show 4<=sizeLine;omega,λq2 hq2=>?_⟩;have s8:Same K7 (upd K7 q2 (.tup [V.ref x.lo,V.ref pm,V.int (VV fs x.l1 x.l2),V.int (VV fs m1 m2)])):=Same.upd_new hq2;have e8':upd K7 q2 (.tup [V.ref x.lo,V.ref pm,V.int (VV fs x.l1 x.l2),V.int (VV fs m1 m2)]) q2=some (.tup [V.ref x.lo,V.ref pm,V.int (VV fs x.l1 x.l2),V.int (VV fs m1 m2)]):=au;refine sG (H2:=upd K7 q2 (.tup [V.ref x.lo,V.ref pm,V.int (VV fs x.l1 x.l2),V.int (VV fs m1 m2)])) rfl ?_;generalize upd K7 q2 (.tup [V.ref x.lo,V.ref pm,V.int (VV fs x.l1 x.l2),V.int (VV fs m1 m2)])=K8 at s8 e8' ⊢
   have ew8:=s8 _ _ ew7;have hql8:(qs ws'++[V.ref q1]).length=ws'.length+1:=by rw[Qi,hql];rfl
   refine⟨pw,_,_,rfl,rfl,ew8,by rw[hql8];omega,?_⟩;have n9:NL K8 (upd K8 pw (.lst ((qs ws'++[V.ref q1])++[V.ref q2]))):=NL.upd ew8;have m7:NL K7 (upd K8 pw (.lst ((qs ws'++[V.ref q1])++[V.ref q2]))):=(NL.of s8).trans n9;have m6:=n7.trans m7;have mm5:=m5.trans m7;have m3:=(NL.of u5).trans mm5;have ladd:x.cn fs=(Cel.mk q2 x.lo pm x.l1 x.l2 m1 m2 (x.d+1)).cn fs+(Cel.mk q1 pm x.hi m1 m2 x.h1 x.h2 (x.d+1)).cn fs:=Le hW.fam.q dl.l2p dl.h2p dr.h2p (dl.lt B0) (dr.lt B0)
   have wl:wgt fs kb ⟨q1,pm,x.hi,m1,m2,x.h1,x.h2,x.d+1⟩+wgt fs kb ⟨q2,x.lo,pm,x.l1,x.l2,m1,m2,x.d+1⟩<wgt fs kb x:=by
    have p1:0<=(Cel.mk q2 x.lo pm x.l1 x.l2 m1 m2 (x.d+1)).cn fs:=mJ _ _ _ _ _;have p2:0<=(Cel.mk q1 pm x.hi m1 m2 x.h1 x.h2 (x.d+1)).cn fs:=mJ _ _ _ _ _;unfold wgt;show 1+2*(_*(kb+201-(x.d+1)))+(1+2*(_*(kb+201-(x.d+1))))<_;generalize (Cel.mk q2 x.lo pm x.l1 x.l2 m1 m2 (x.d+1)).cn fs=A at *
    generalize (Cel.mk q1 pm x.hi m1 m2 x.h1 x.h2 (x.d+1)).cn fs=B at *
    obtain⟨A,rfl⟩:=RV p1;obtain⟨B,rfl⟩:=RV p2;obtain⟨t,ht⟩:∃t,kb+201-x.d=t+1:=⟨kb+201-x.d-1,by omega⟩;have ht':kb+201-(x.d+1)=t:=by omega
    have hc:(x.cn fs).toNat=A+B:=by omega
    rw[hc,ht,ht'];show 1+2*(B*t)+(1+2*(A*t))<1+2*((A+B)*(t+1));have e1:(A+B)*(t+1)=A*t+B*t+(A+B):=by rw[Nat.mul_succ,Nat.add_mul]
    rw[e1];omega
   refine⟨eN fs kb (ws'++[⟨q1,pm,x.hi,m1,m2,x.h1,x.h2,x.d+1⟩]++[⟨q2,x.lo,pm,x.l1,x.l2,m1,m2,x.d+1⟩]),by rw[jH,jH];omega,_,ys,_,_,_,_,rfl,rfl,eo (sm7.trans s8) fw,by rw[au,n5,n5],by rw[upd_ne (Ne.symm nwf)];exact s8 _ _ ef7,λy hy=>?_,λy hy=>(hy1 y hy).nl m3,λs hs=>?_,by rw[jH,jH];omega⟩
   ·rcases Qh.mp hy with z |z
    ·rcases Qh.mp z with z |z
     ·exact(hw1 y z).nl m3
     ·rw[PQ.mp z];exact⟨m6 _ _ e6 (λ_=>by simp),(hRm.same s5).nl mm5,hx5.hi.nl mm5,dr,by show x.d+1<=_;omega⟩
    ·rw[PQ.mp z];exact⟨n9 _ _ e8' (λ_=>by simp),hx5.lo.nl mm5,(hRm.same s5).nl mm5,dl,by show x.d+1<=_;omega⟩
   ·rcases hcov s hs with z |⟨_,z2⟩ |z
    ·exact .inl (cov_snoc.mpr (.inl (cov_snoc.mpr (.inl z))))
    ·rcases QP 0 (ap s m1 m2)with v |v
     ·exact .inl (cov_snoc.mpr (.inl (cov_snoc.mpr (.inr ⟨v,z2.2⟩))))
     ·exact .inl (cov_snoc.mpr (.inr ⟨z2.1,v⟩))
    ·exact .inr z
theorem mq{ns:List Int}(h:ns≠[]):atI (ns.map V.int) (-1)=some (.int (ao ns)):=by obtain⟨r,x,rfl⟩:=(cZ ns).resolve_left h;rw[dM];exact B7 r x
theorem mn{k:Nat}{ns:List Int}(h:AllB k ns):Bits k (ao ns):=h.cf _
def xI(C:Addr):Sp:=λvs H Q _=>∃(a:Addr) (fs:List (List Int)),vs=[.ref a]/\H a=some (.lst ((prQ fs).map V.int))/\Whl fs/\∀(x:Addr) (H':Hp) (kb:Nat),kb<=252->isB ((prQ fs).take ((prQ fs).length-1)) (ao (prQ fs)).natAbs kb->Same H H'->H x=none->RA C H' x 1 (8*ao (prQ fs)*2^kb)->0<8*ao (prQ fs)*(2:Int)^kb->Bits 520 (8*ao (prQ fs)*(2:Int)^kb)->Q (.ref x) H'
theorem GD(F:Fun K "fine_width" "fine_width" rA f fd)(T:Txt K mg)(R:RCI K mg C)(ci:KCal P w K mg base 2 C "Ratio" ["self","top","bottom"] (c9 C) dS dR dW [.int 1])(mZ:Cal P w K mg base 1 "bound" ["row"] (nJ K) A5 AX):FnOk P w K mg base CX0 4 f fd ["whole"] (xI C):=by
 obtain⟨bH,bF,bC,bX,cO,cM⟩:=ci;obtain⟨jy,iV,i8,jp⟩:=mZ;refine F.ok D7 (λvs H Q E h=>?_) (λcdv A outer s H vs Q E hr h=>?_)
 ·obtain⟨a,fs,rfl,_⟩:=h;rfl
 ·obtain⟨a,fs,rfl,hA,hW,k⟩:=h;refine⟨_,(al (aC (b9 bF bH (hr.mono) rfl bC bX .nil ai (aa ad (aa (aj aK (aj aK ad (aE (b5 (K:=K) rfl) (pv 0) (bK bJ ad) (λ_ _=>rfl))) (aq jy (hr.mono) rfl iV i8 jp .nil ai (aa (pv 0) ac))) ac))))),?_⟩;have hP:=hW.fam.pln;have l7:=hW.l7;have hb:=hW.bits;have b8:Bits 4 (8:Int):=by show(8:Int).natAbs<2^4;decide
  have hp:=hP.pos;refine bj ⟨_,rfl,_,rfl,a,_,_,_,rfl,rfl,SqL.of hA,mq hP.ne,_,_,rfl,rfl,⟨b8.mono,(mn hb).mono⟩,_,rfl,a,prQ fs,rfl,SqL.of hA,hP.tr,hP.ne,by omega,hb.mono,λkb H1 hkb hB s1=>?_⟩;have hk:=BP hb hp hB
  have b2:Bits 253 ((2^kb:Nat):Int):=by show(((2^kb:Nat):Int)).natAbs<2^253;rw[Qq];exact(Sj (by decide)).mpr (by omega)
  have b3:Bits 254 (8*ao (prQ fs)):=(b8.mul (mn hb)).mono;have pk:(0:Int)<((2^kb:Nat):Int):=RQ.mpr (Q4 (by decide));have hD:0<8*ao (prQ fs)*((2^kb:Nat):Int):=PB (by omega) pk;have bD:Bits 520 (8*ao (prQ fs)*((2^kb:Nat):Int)):=(b3.mul b2).mono;refine⟨_,_,rfl,rfl,⟨b3.mono,b2.mono⟩,cU (t:=1) (by omega) (bD.mono) λx H2 s2 hx hR=>?_⟩;rw[sr hD,sI hD]at hR;have eB:((2^kb:Nat):Int)=(2:Int)^kb:=by rw[Rv];rfl
  rw[eB]at hR hD bD;exact k x H2 kb hk hB (s1.trans s2) (s1.free hx) hR hD bD
def xJ(C:Addr):Sp:=λvs H Q _=>∃(p:Addr) (t b:Int),vs=[.ref p]/\RA C H p t b/\0<b/\Bits 9000 b/\Q (.int (t/b)) H
theorem G7(F:Fun K "floor" "Ratio.floor" si f fd)(T:Txt K mg)(R:RCI K mg C):FnOk P w K mg base CX0 1 f fd ["self"] (xJ C):=by
 refine F.ok Ej (λvs H Q E h=>?_) (λcdv A outer s H vs Q E hr h=>?_)
 ·obtain⟨p,t,b,rfl,_⟩:=h;rfl
 ·obtain⟨p,t,b,rfl,⟨dx,hp⟩,hb,bb,k⟩:=h;refine⟨_,(al (aC (aj cS (aN (K:=K) rfl (pv 0) rfl) (aN (K:=K) rfl (pv 0) rfl)))),?_⟩;exact⟨_,rfl,p,C,dx,_,_,rfl,hp,R.cl,R.nT,c8 _ _,_,rfl,p,C,dx,_,_,rfl,hp,R.cl,R.nB,ca _ _,_,_,rfl,rfl,⟨hb,bb⟩,k⟩
theorem zk:¬(("floor":Str)="bottom")/\¬(("floor":Str)="top"):=⟨by decide +kernel,by decide +kernel⟩
theorem ET{a c:Int}(hc:0<c):rt a c/rb a c=a/c:=by
 have h0:c≠0:=by omega
 have e1:=g6 (t:=a) h0;have e2:=gu (t:=a) h0
 have hp:0<dv a c:=by unfold dv;rw[if_neg (by omega)];have:=kg (t:=a) h0;omega
 have e3:dv a c*rt a c/(dv a c*rb a c)=rt a c/rb a c:=Int.mul_ediv_mul_of_pos _ _ hp;rw[e1,e2]at e3;exact e3.symm
inductive pX(C:Addr)(vs:List V)(H:Hp)(Q:VK)(E:XK):Prop
 |mk (r:Addr) (c t b:Int):vs=[.int c,.ref r]->RA C H r t b->0<b->Bits 10000 c->Bits 10000 t->Bits 8900 b->(∀H',Same H H'->Q (.int (c*t/b)) H')->pX C vs H Q E
theorem FP(F:Fun K "times_floor" "times_floor" qB f fd)(T:Txt K mg)(R:RCI K mg C)(ci:KCal P w K mg base 2 C "Ratio" ["self","top","bottom"] (c9 C) dS dR dW [.int 1])(gT:MCal P w K mg base 4 C "times" ["self","other"] (jN C) o5 o3)(NP:MCal P w K mg base 1 C "floor" ["self"] (xJ C) Pw OI):FnOk P w K mg base CX0 5 f fd ["factor","ratio"] (pX C):=by
 obtain⟨bH,bF,bC,bX,cO,cM⟩:=ci;obtain⟨fz,fi,fy⟩:=gT;obtain⟨MV,Hu,L7⟩:=NP;refine F.ok DW (λvs H Q E h=>?_) (λcdv A outer s H vs Q E hr h=>?_)
 ·obtain⟨r,c,t,b,rfl,_⟩:=h;rfl
 ·obtain⟨r,c,t,b,rfl,hR,hb,bc,bt,bb,k⟩:=h;refine⟨_,(al (aC (Fx (c7 (b9 bF bH (hr.mono) rfl bC cO cM ai (aa (pv 0) ac)) R.cl fi fz (hr.mono) fy .nil ai (aa (pv 1) ac)) R.cl Hu MV (hr.mono) L7 .nil ai))),?_⟩;refine bj ⟨_,rfl,cU (t:=c) (b:=1) (by decide) (b1k (by decide)) λx H1 s1 hx hX=>?_⟩;rw[jT,jW]at hX;obtain⟨dx,hX'⟩:=id hX;refine⟨x,dx,_,rfl,hX',de _ _ dO.1 dO.2,_,rfl,x,r,c,1,t,b,1,8900,rfl,hX,hR.same s1,bc.mono,b1k (by decide),bt.mono,bb,by decide,by decide,hb,λy H2 s2 hy hY=>?_⟩;obtain⟨dy,hY'⟩:=id hY;have d0:1*b≠0:=by omega
  refine⟨y,dy,_,rfl,hY',de _ _ zk.1 zk.2,y,_,_,rfl,hY,dk d0,(eY d0 (by rw[PY];exact bb)).mono,?_⟩;rw[ET (show 0<1*b by omega),PY];exact k H2 (s1.trans s2)
noncomputable def vl(p:Int×Int):Rat:=(p.1:Rat)/(p.2:Rat)
theorem Cq{a b c d:Int}(hb:0<b)(hd:0<d)(h:¬c*b<a*d):(a:Rat)/(b:Rat)<=(c:Rat)/(d:Rat):=Qu.mp λz=>h ((iG hd hb).mp z)
theorem wa{t b:Int}(hb:0<b):((rt t b:Int):Rat)/((rb t b:Int):Rat)=(t:Rat)/(b:Rat):=by
 have h0:b≠0:=by omega
 have hc:=fb (t:=t) h0;have hp:=dk (t:=t) h0;have cb:(0:Rat)<(b:Rat):=PR.mpr hb;have cr:(0:Rat)<((rb t b:Int):Rat):=PR.mpr hp;have e1:((rt t b:Int):Rat)/((rb t b:Int):Rat)*((rb t b:Int):Rat)=((rt t b:Int):Rat):=P7 (QH cr);have e2:(t:Rat)/(b:Rat)*(b:Rat)=(t:Rat):=P7 (QH cb);have e3:((rt t b:Int):Rat)*(b:Rat)=(t:Rat)*((rb t b:Int):Rat):=by rw[<- PH,hc,PH]
 generalize ((rt t b:Int):Rat)/((rb t b:Int):Rat)=X at e1 ⊢
 generalize (t:Rat)/(b:Rat)=Y at e2 ⊢
 rw[<- e1,<- e2]at e3;have hM:=Qa cr cb;have e4:(((rb t b:Int):Rat)*(b:Rat))*X=(((rb t b:Int):Rat)*(b:Rat))*Y:=by grind
 exact Rat.le_antisymm (fF hM (by rw[e4];exact Qc)) (fF hM (by rw[e4];exact Qc))
theorem Cp{a b c d:Int}(hb:0<b)(hd:0<d):((a*c:Int):Rat)/((b*d:Int):Rat)=(a:Rat)/(b:Rat)*((c:Rat)/(d:Rat)):=by
 have cb:(0:Rat)<(b:Rat):=PR.mpr hb;have cd:(0:Rat)<(d:Rat):=PR.mpr hd;rw[PH,PH];have hM:=Qa cb cd;have e1:(a:Rat)/(b:Rat)*(b:Rat)=(a:Rat):=P7 (QH cb);have e2:(c:Rat)/(d:Rat)*(d:Rat)=(c:Rat):=P7 (QH cd);have e3:(a:Rat)*(c:Rat)/((b:Rat)*(d:Rat))*((b:Rat)*(d:Rat))=(a:Rat)*(c:Rat):=P7 (QH hM);generalize (a:Rat)/(b:Rat)=X at e1 ⊢
 generalize (c:Rat)/(d:Rat)=Y at e2 ⊢
 generalize (a:Rat)*(c:Rat)/((b:Rat)*(d:Rat))=Z at e3 ⊢
 rw[<- e1,<- e2]at e3;have e4:((b:Rat)*(d:Rat))*Z=((b:Rat)*(d:Rat))*(X*Y):=by grind
 exact Rat.le_antisymm (fF hM (by rw[e4];exact Qc)) (fF hM (by rw[e4];exact Qc))
theorem Cr{a b c d:Int}(hb:0<b)(hd:0<d):((a*d+c*b:Int):Rat)/((b*d:Int):Rat)=(a:Rat)/(b:Rat)+(c:Rat)/(d:Rat):=by
 have cb:(0:Rat)<(b:Rat):=PR.mpr hb;have cd:(0:Rat)<(d:Rat):=PR.mpr hd;rw[Ri,PH,PH,PH];have hM:=Qa cb cd;have e1:(a:Rat)/(b:Rat)*(b:Rat)=(a:Rat):=P7 (QH cb);have e2:(c:Rat)/(d:Rat)*(d:Rat)=(c:Rat):=P7 (QH cd);have e3:((a:Rat)*(d:Rat)+(c:Rat)*(b:Rat))/((b:Rat)*(d:Rat))*((b:Rat)*(d:Rat))=(a:Rat)*(d:Rat)+(c:Rat)*(b:Rat):=P7 (QH hM);generalize ((a:Rat)*(d:Rat)+(c:Rat)*(b:Rat))/((b:Rat)*(d:Rat))=Z at e3 ⊢
 generalize (a:Rat)/(b:Rat)=X at e1 ⊢
 generalize (c:Rat)/(d:Rat)=Y at e2 ⊢
 rw[<- e1,<- e2]at e3;have e4:((b:Rat)*(d:Rat))*Z=((b:Rat)*(d:Rat))*(X+Y):=by grind
 exact Rat.le_antisymm (fF hM (by rw[e4];exact Qc)) (fF hM (by rw[e4];exact Qc))
structure MaxP(x1 x2 y1 y2 p1 p2 q1 q2 m1 m2:Int):Prop where
 m2p:0<m2
 b1:Bits 6000 m1
 b2:Bits 6000 m2
 c1:vl (x1,x2)*vl (p1,p2)<=vl (m1,m2)
 c2:vl (x1,x2)*vl (q1,q2)<=vl (m1,m2)
 c3:vl (y1,y2)*vl (p1,p2)<=vl (m1,m2)
 c4:vl (y1,y2)*vl (q1,q2)<=vl (m1,m2)
 is:vl (m1,m2)=vl (x1,x2)*vl (p1,p2)\/vl (m1,m2)=vl (x1,x2)*vl (q1,q2)\/vl (m1,m2)=vl (y1,y2)*vl (p1,p2)\/vl (m1,m2)=vl (y1,y2)*vl (q1,q2)
structure TwoS(C:Addr)(H:Hp)(p q x y x' y':Addr)(x1 x2 y1 y2 p1 p2 q1 q2:Int):Prop where
 hp:H p=some (.tup [.ref x,.ref y])
 hq:H q=some (.tup [.ref x',.ref y'])
 hx:RA C H x x1 x2
 hy:RA C H y y1 y2
 hx':RA C H x' p1 p2
 hy':RA C H y' q1 q2
 e1:EndsG 1774 x1 x2 y1 y2
 e2:EndsG 4074 p1 p2 q1 q2
theorem TwoS.same{C:Addr}{H H':Hp}{p q x y x' y':Addr}{x1 x2 y1 y2 p1 p2 q1 q2:Int}(h:TwoS C H p q x y x' y' x1 x2 y1 y2 p1 p2 q1 q2)(s:Same H H'):TwoS C H' p q x y x' y' x1 x2 y1 y2 p1 p2 q1 q2:=⟨s _ _ h.hp,s _ _ h.hq,h.hx.same s,h.hy.same s,h.hx'.same s,h.hy'.same s,h.e1,h.e2⟩
inductive xf(C:Addr)(vs:List V)(H:Hp)(Q:VK)(E:XK):Prop
 |mk (p q x y x' y':Addr) (x1 x2 y1 y2 p1 p2 q1 q2:Int):vs=[.ref p,.ref q]->TwoS C H p q x y x' y' x1 x2 y1 y2 p1 p2 q1 q2->(∀(t lo hi:Addr) (H':Hp) (m1 m2:Int),Same H H'->H t=none->H' t=some (.tup [.ref lo,.ref hi])->RA C H' hi m1 m2->MaxP x1 x2 y1 y2 p1 p2 q1 q2 m1 m2->Q (.ref t) H')->xf C vs H Q E
structure PrH(C:Addr)(H:Hp)(r:Addr)(m1 m2:Int)(v:Rat):Prop where
 ra:RA C H r m1 m2
 m2p:0<m2
 b1:Bits 6000 m1
 b2:Bits 6000 m2
 is:vl (m1,m2)=v
theorem PrH.same{C:Addr}{H H':Hp}{r:Addr}{m1 m2:Int}{v:Rat}(h:PrH C H r m1 m2 v)(s:Same H H'):PrH C H' r m1 m2 v:=⟨h.ra.same s,h.m2p,h.b1,h.b2,h.is⟩
theorem og{C:Addr}{H:Hp}{r:Addr}{a b c d:Int}(hb:0<b)(hd:0<d)(ba:Bits 1774 a)(bb:Bits 1774 b)(bc:Bits 4074 c)(bd:Bits 4074 d)(h:RA C H r (rt (a*c) (b*d)) (rb (a*c) (b*d))):PrH C H r (rt (a*c) (b*d)) (rb (a*c) (b*d)) (vl (a,b)*vl (c,d)):=by
 have hp:0<b*d:=PB hb hd;have h0:b*d≠0:=by omega
 refine⟨h,dk h0,(eU h0 (ba.mul bc)).mono,(eY h0 (bb.mul bd)).mono,?_⟩;show((rt (a*c) (b*d):Int):Rat)/((rb (a*c) (b*d):Int):Rat)=_;rw[wa hp,Cp hb hd];rfl
theorem FU(F:Fun K "span_product" "span_product" qG f fd)(T:Txt K mg)(R:RCI K mg C)(gT:MCal P w K mg base 4 C "times" ["self","other"] (jN C) o5 o3)(m8:MCal P w K mg base 2 C "against" ["self","other"] (nK C) A6 AY):FnOk P w K mg base CX0 5 f fd ["first","second"] (xf C):=by
 obtain⟨fz,fi,fy⟩:=gT;obtain⟨kK,j8,kA⟩:=m8;refine F.ok sc_span_product (λvs H Q E h=>?_) (λcdv A outer s H vs Q E hr h=>?_)
 ·obtain⟨p,q,x,y,x',y',x1,x2,y1,y2,p1,p2,q1,q2,rfl,_⟩:=h;rfl
 ·obtain⟨p,q,x,y,x',y',x1,x2,y1,y2,p1,p2,q1,q2,rfl,h,k⟩:=h;have big:=sizeLine_eq
  refine⟨_,(ag (ak (i:=2) sc_span_product.nd rfl (Or.inl rfl) (c7 (aE (aM (K:=K) rfl) (pv 0) ad (λ_ _=>rfl)) R.cl fi fz (hr.mono) fy .nil ai (aa (aE (aM (K:=K) rfl) (pv 1) ad (λ_ _=>rfl)) ac)))
   (ag (ak (i:=3) sc_span_product.nd rfl (Or.inl rfl) (pv 2))
   (ag (cV PassesOwn.never rfl (Fm (K:=K) rfl (db (aa (c7 (aE (aM (K:=K) rfl) (pv 0) ad (λ_ _=>rfl)) R.cl fi fz (hr.mono) fy .nil ai (aa (aE (aM (K:=K) rfl) (pv 1) ad (λ_ _=>rfl)) ac)) (aa (c7 (aE (aM (K:=K) rfl) (pv 0) ad (λ_ _=>rfl)) R.cl fi fz (hr.mono) fy .nil ai (aa (aE (aM (K:=K) rfl) (pv 1) ad (λ_ _=>rfl)) ac)) (aa (c7 (aE (aM (K:=K) rfl) (pv 0) ad (λ_ _=>rfl)) R.cl fi fz (hr.mono) fy .nil ai (aa (aE (aM (K:=K) rfl) (pv 1) ad (λ_ _=>rfl)) ac)) ac))))) (aS (i:=4) sc_span_product.nd rfl (Or.inl rfl))
     (ag (aR (aH dH (c7 (pv 4) R.cl j8 kK (hr.mono) kA .nil ai (aa (pv 2) ac)) ad (aG _))
       (al (ak (i:=2) sc_span_product.nd rfl (Or.inl rfl) (pv 4)))
       aU)
       (al (aR (aH fJ (c7 (pv 4) R.cl j8 kK (hr.mono) kA .nil ai (aa (pv 3) ac)) ad (aG _))
         (al (ak (i:=3) sc_span_product.nd rfl (Or.inl rfl) (pv 4)))
         aU))))
   (al (aC (db (aa (pv 2) (aa (pv 3) ac)))))))),?_⟩
  have e1:=h.e1;have e2:=h.e2;obtain⟨dx,hx0⟩:=id h.hx;refine av ⟨_,rfl,p,_,_,_,rfl,rfl,SqT.of h.hp,rfl,x,dx,_,rfl,hx0,de _ _ dO.1 dO.2,_,rfl,q,_,_,_,rfl,rfl,SqT.of h.hq,rfl,x,x',x1,x2,p1,p2,1774,4074,rfl,h.hx,h.hx',e1.bl1.mono,e1.bl2,e2.bl1.mono,e2.bl2,by decide,e1.l2p,e2.l2p,λr0 H1 s1 hr0 hR0=>?_⟩;have P0:=og e1.l2p e2.l2p e1.bl1 e1.bl2 e2.bl1 e2.bl2 hR0;refine av ⟨_,rfl,?_⟩;have h1:=h.same s1;obtain⟨dx1,hx1⟩:=id h1.hx;refine⟨_,rfl,p,_,_,_,rfl,rfl,SqT.of h1.hp,rfl,x,dx1,_,rfl,hx1,de _ _ dO.1 dO.2,_,rfl,q,_,_,_,rfl,rfl,SqT.of h1.hq,rfl,x,y',x1,x2,q1,q2,1774,4074,rfl,h1.hx,h1.hy',e1.bl1.mono,e1.bl2,e2.bh1.mono,e2.bh2,by decide,e1.l2p,e2.h2p,λr1 H2 s2 hr1 hR1=>?_⟩;have P1:=og e1.l2p e2.h2p e1.bl1 e1.bl2 e2.bh1 e2.bh2 hR1;have h2:=h1.same s2;obtain⟨dy2,hy2⟩:=id h2.hy;refine⟨_,rfl,p,_,_,_,rfl,rfl,SqT.of h2.hp,rfl,y,dy2,_,rfl,hy2,de _ _ dO.1 dO.2,_,rfl,q,_,_,_,rfl,rfl,SqT.of h2.hq,rfl,y,x',y1,y2,p1,p2,1774,4074,rfl,h2.hy,h2.hx',e1.bh1.mono,e1.bh2,e2.bl1.mono,e2.bl2,by decide,e1.h2p,e2.l2p,λr2 H3 s3 hr2 hR2=>?_⟩;have P2:=og e1.h2p e2.l2p e1.bh1 e1.bh2 e2.bl1 e2.bl2 hR2;have h3:=h2.same s3;obtain⟨dy3,hy3⟩:=id h3.hy;refine⟨_,rfl,p,_,_,_,rfl,rfl,SqT.of h3.hp,rfl,y,dy3,_,rfl,hy3,de _ _ dO.1 dO.2,_,rfl,q,_,_,_,rfl,rfl,SqT.of h3.hq,rfl,y,y',y1,y2,q1,q2,1774,4074,rfl,h3.hy,h3.hy',e1.bh1.mono,e1.bh2,e2.bh1.mono,e2.bh2,by decide,e1.h2p,e2.h2p,λr3 H4 s4 hr3 hR3=>⟨by show 3<=sizeLine;omega,λpt hpt=>?_⟩⟩;have P3:=og e1.h2p e2.h2p e1.bh1 e1.bh2 e2.bh1 e2.bh2 hR3;have s5:Same H4 (upd H4 pt (.tup [V.ref r1,V.ref r2,V.ref r3])):=Same.upd_new hpt;have q5:upd H4 pt (.tup [V.ref r1,V.ref r2,V.ref r3]) pt=some (.tup [V.ref r1,V.ref r2,V.ref r3]):=au;refine sG (H2:=upd H4 pt (.tup [V.ref r1,V.ref r2,V.ref r3])) rfl ?_;generalize upd H4 pt (.tup [V.ref r1,V.ref r2,V.ref r3])=H5 at s5 q5 ⊢
  have A0:=(P0.same s2).same (s3.trans (s4.trans s5));have A1:=P1.same (s3.trans (s4.trans s5));have A2:=P2.same (s4.trans s5);have A3:=P3.same s5;have t5:=(s1.trans s2).trans (s3.trans (s4.trans s5));clear P0 P1 P2 P3 hR0 hR1 hR2 hR3
  have get:∀(i:Nat) (z:V),[V.ref r1,V.ref r2,V.ref r3][i]?=some z->∃(r:Addr) (t b:Int) (v:Rat),z=.ref r/\PrH C H5 r t b v/\[vl (x1,x2)*vl (p1,p2),vl (x1,x2)*vl (q1,q2),vl (y1,y2)*vl (p1,p2),vl (y1,y2)*vl (q1,q2)].take (i+1+1)=[vl (x1,x2)*vl (p1,p2),vl (x1,x2)*vl (q1,q2),vl (y1,y2)*vl (p1,p2),vl (y1,y2)*vl (q1,q2)].take (i+1)++[v]:=λi z hz=>by
   match i,hz with
   |0,hz=>exact⟨r1,_,_,_,(Option.some.inj hz).symm,A1,rfl⟩
   |1,hz=>exact⟨r2,_,_,_,(Option.some.inj hz).symm,A2,rfl⟩
   |2,hz=>exact⟨r3,_,_,_,(Option.some.inj hz).symm,A3,rfl⟩
  generalize hV:[vl (x1,x2)*vl (p1,p2),vl (x1,x2)*vl (q1,q2),vl (y1,y2)*vl (p1,p2),vl (y1,y2)*vl (q1,q2)]=W at get
  refine⟨pt,rfl,⟨_,SqT.of q5⟩,J9 (K:=K) (a:=pt) (xs:=[V.ref r1,V.ref r2,V.ref r3]) (λi σ' H'=>∃(lo g:Addr) (l1 l2 g1 g2:Int) (vo vg:Rat) (z4:Option V),σ'=[some (.ref p),some (.ref q),some (.ref lo),some (.ref g),z4]/\H5=H'/\PrH C H5 lo l1 l2 vo/\PrH C H5 g g1 g2 vg/\vg∈W.take (i+1)/\∀v∈W.take (i+1),v<=vg)
   ⟨r0,r0,_,_,_,_,_,_,none,rfl,rfl,A0,A0,by rw[<- hV];exact PQ.mpr rfl,λv hv=>by rw[<- hV]at hv;rw[PQ.mp hv];exact Qc⟩ ?_ ?_ ?_⟩
  ·rintro i σ' H' _ ⟨lo,g,l1,l2,g1,g2,vo,vg,z4,rfl,rfl,_⟩;exact SqT.of q5
  ·rintro i z σ' H' hi ⟨lo,g,l1,l2,g1,g2,vo,vg,z4,rfl,rfl,Po,Pg,hmem,hall⟩;obtain⟨r,t,b,v,rfl,Pr,ht⟩:=get i z hi;obtain⟨dr,hr'⟩:=id Pr.ra;dsimp only
   refine dN (λσ' H'=>∃(lo:Addr) (l1 l2:Int) (vo:Rat),σ'=[some (.ref p),some (.ref q),some (.ref lo),some (.ref g),some (.ref r)]/\H5=H'/\PrH C H5 lo l1 l2 vo) ?_ ?_
   case refine_2 =>
    intro rest;refine⟨_,rfl,r,dr,_,rfl,hr',de _ _ ia.1 ia.2,_,rfl,r,lo,t,b,l1,l2,rfl,Pr.ra,Po.ra,Pr.b1.mono,Pr.b2.mono,Po.b1.mono,Po.b2.mono,_,_,rfl,rfl,_,rfl,aP (λ_=>?_) (λ_=>?_)⟩
    ·exact⟨_,rfl,rest _ _ ⟨r,t,b,v,rfl,rfl,Pr⟩⟩
    ·exact rest _ _ ⟨lo,l1,l2,vo,rfl,rfl,Po⟩
   rintro σ' H' ⟨lo',l1',l2',vo',rfl,rfl,Po'⟩;refine⟨_,rfl,r,dr,_,rfl,hr',de _ _ ia.1 ia.2,_,rfl,r,g,t,b,g1,g2,rfl,Pr.ra,Pg.ra,Pr.b1.mono,Pr.b2.mono,Pg.b1.mono,Pg.b2.mono,_,_,rfl,rfl,_,rfl,aP (λh0=>?_) (λh0=>?_)⟩
   ·have h0':sg (t*g2-g1*b)>0:=h0
    have hlt:g1*b<t*g2:=Qm.mp λz=>by
     have:sg (t*g2-g1*b)<=0:=by unfold sg;split<;>(try split)<;>omega
     omega
    have hv:vg<v:=by rw[<- Pg.is,<- Pr.is];exact(iG Pg.m2p Pr.m2p).mpr hlt
    refine⟨_,rfl,lo',r,l1',l2',t,b,vo',v,_,rfl,rfl,Po',Pr,by rw[ht];simp,λu hu=>?_⟩;rw[ht]at hu;rcases Qh.mp hu with z |z
    ·exact RJ (hall u z) (PJ hv)
    ·rw[PQ.mp z];exact Qc
   ·have h0':¬sg (t*g2-g1*b)>0:=h0
    have hle:v<=vg:=by
     rw[<- Pg.is,<- Pr.is];refine Cq Pr.m2p Pg.m2p λz=>h0' ?_
     have z':g1*b<t*g2:=z;have:sg (t*g2-g1*b)=1:=DK (by omega);omega
    refine⟨lo',g,l1',l2',g1,g2,vo',vg,_,rfl,rfl,Po',Pg,by rw[ht];exact Q0 _ hmem,λu hu=>?_⟩;rw[ht]at hu;rcases Qh.mp hu with z |z
    ·exact hall u z
    ·rw[PQ.mp z];exact hle
  ·rintro σ' H' ⟨lo,g,l1,l2,g1,g2,vo,vg,z4,rfl,rfl,Po,Pg,hmem,hall⟩;refine⟨_,rfl,_,rfl,by show 2<=sizeLine;omega,λt ht=>?_⟩;have s6:Same H5 (upd H5 t (.tup [V.ref lo,V.ref g])):=Same.upd_new ht;refine k t lo g _ g1 g2 (t5.trans s6) (t5.free ht) au (Pg.ra.same s6) ⟨Pg.m2p,Pg.b1,Pg.b2,?_,?_,?_,?_,?_⟩
   all_goals rw[Pg.is]
   ·exact hall _ (by rw[<- hV];exact PU ..)
   ·exact hall _ (by rw[<- hV];exact PP _ (PU ..))
   ·exact hall _ (by rw[<- hV];exact PP _ (PP _ (PU ..)))
   ·exact hall _ (by rw[<- hV];exact PP _ (PP _ (PP _ (PU ..))))
   ·rw[<- hV]at hmem;rcases PM.mp hmem with z |z
    ·exact .inl z
    rcases PM.mp z with z |z
    ·exact .inr (.inl z)
    rcases PM.mp z with z |z
    ·exact .inr (.inr (.inl z))
    ·exact .inr (.inr (.inr (PQ.mp z)))
structure SqR(x1 x2 y1 y2 p1 p2 q1 q2 t1 t2 m1 m2:Int):Prop where
 mx:MaxP x1 x2 y1 y2 p1 p2 q1 q2 m1 m2
 t2p:0<t2
 bt:Bits 6000 t1
 sum:vl (t1,t2)=vl (y1,y2)+vl (q1,q2)
inductive w5(C:Addr)(vs:List V)(H:Hp)(Q:VK)(E:XK):Prop
 |mk (a p q x y x' y':Addr) (ns:List Int) (x1 x2 y1 y2 p1 p2 q1 q2:Int):vs=[.ref a,.ref p,.ref q]->H a=some (.lst (ns.map V.int))->Pln ns->AllB 250 ns->TwoS C H p q x y x' y' x1 x2 y1 y2 p1 p2 q1 q2->(∀t1 t2 m1 m2:Int,SqR x1 x2 y1 y2 p1 p2 q1 q2 t1 t2 m1 m2->mkL H Q (aw [ao ns*m1/m2,-(ao ns*t1/t2),ao ns]))->w5 C vs H Q E
theorem FS(F:Fun K "square_of" "square_of" qE f fd)(T:Txt K mg)(R:RCI K mg C)(vM:Cal P w K mg base 5 "times_floor" ["factor","ratio"] (pX C) Kr Kb)(vZ:MCal P w K mg base 4 C "plus" ["self","other"] (qa C) KE Kn)(M9:Cal P w K mg base 5 "span_product" ["first","second"] (xf C) OQ N4)(gS:Cal P w K mg base 34 "plain" ["row"] jO o4 o2):FnOk P w K mg base CX0 35 f fd ["whole","span","other"] (w5 C):=by
 obtain⟨pD,oH,oQ,pj⟩:=vM;obtain⟨vK,tD,vt⟩:=vZ;obtain⟨Ms,HQ,IZ,LC⟩:=M9;obtain⟨fU,fM,fN,fT⟩:=gS;refine F.ok sc_square_of (λvs H Q E h=>?_) (λcdv A outer s H vs Q E hr h=>?_)
 ·obtain⟨a,p,q,x,y,x',y',ns,x1,x2,y1,y2,p1,p2,q1,q2,rfl,_⟩:=h;rfl
 ·obtain⟨a,p,q,x,y,x',y',ns,x1,x2,y1,y2,p1,p2,q1,q2,rfl,hA,hP,hb,h,k⟩:=h;have big:=sizeLine_eq
  refine⟨_,(ag (ak (i:=3) sc_square_of.nd rfl (Or.inl rfl) (aE (b5 (K:=K) rfl) (pv 0) (bK bJ ad) (λ_ _=>rfl)))
   (ag (ak (i:=4) sc_square_of.nd rfl (Or.inl rfl) (aq pD (hr.mono) rfl oH oQ pj .nil ai (aa (pv 3) (aa (c7 (aE (aM (K:=K) rfl) (pv 1) ad (λ_ _=>rfl)) R.cl tD vK (hr.mono) vt .nil ai (aa (aE (aM (K:=K) rfl) (pv 2) ad (λ_ _=>rfl)) ac)) ac))))
   (al (aC (aq fU (hr.mono) rfl fM fN fT .nil ai (aa (aX (aa (aq pD (hr.mono) rfl oH oQ pj .nil ai (aa (pv 3) (aa (aE (aM (K:=K) rfl) (aq Ms (hr.mono) rfl HQ IZ LC .nil ai (aa (pv 1) (aa (pv 2) ac))) ad (λ_ _=>rfl)) ac))) (aa (bK bJ (pv 4)) (aa (pv 3) ac)))) ac)))))),?_⟩
  have e1:=h.e1;have e2:=h.e2;have bl:=mn hb;have lp:=hP.pos;refine av ⟨_,rfl,_,rfl,a,_,_,_,rfl,rfl,SqL.of hA,mq hP.ne,?_⟩;obtain⟨dy,hy0⟩:=id h.hy;have hp2:0<y2*q2:=PB e1.h2p e2.h2p;have h0:y2*q2≠0:=by omega
  have bsum:Bits 5850 (y1*q2+q1*y2):=by have a1:Bits 5848 (y1*q2):=e1.bh1.mul e2.bh2;have a2:Bits 5848 (q1*y2):=(e2.bh1.mul e1.bh2).mono;exact(a1.add a2).mono
  refine av ⟨_,rfl,_,rfl,p,_,_,_,rfl,rfl,SqT.of h.hp,rfl,y,dy,_,rfl,hy0,de _ _ ox.1 ox.2,_,rfl,q,_,_,_,rfl,rfl,SqT.of h.hq,rfl,y,y',y1,y2,q1,q2,1774,4074,rfl,h.hy,h.hy',e1.bh1.mono,e1.bh2,e2.bh1.mono,e2.bh2,by decide,e1.h2p,e2.h2p,λr H1 s1 hr0 hR=>?_⟩;refine⟨r,ao ns,_,_,rfl,hR,dk h0,bl.mono,(eU h0 bsum).mono,(eY h0 (e1.bh2.mul e2.bh2)).mono,λH2 s2=>?_⟩;have t2:=s1.trans s2;have h2:=h.same t2;refine bj ⟨_,rfl,_,rfl,_,rfl,p,q,x,y,x',y',x1,x2,y1,y2,p1,p2,q1,q2,rfl,h2,λt lo hi H3 m1 m2 s3 ht et hm mx=>?_⟩;refine⟨t,_,_,_,rfl,rfl,SqT.of et,rfl,hi,ao ns,m1,m2,rfl,hm,mx.m2p,bl.mono,mx.b1.mono,mx.b2.mono,λH4 s4=>?_⟩;refine⟨_,rfl,_,rfl,_,rfl,by show 3<=sizeLine;omega,λpl hpl=>?_⟩;have t4:=(t2.trans s3).trans s4;have trl:Tr [ao ns*m1/m2,-(ao ns*rt (y1*q2+q1*y2) (y2*q2)/rb (y1*q2+q1*y2) (y2*q2)),ao ns]:=(tr_snoc (r:=[ao ns*m1/m2,-(ao ns*rt (y1*q2+q1*y2) (y2*q2)/rb (y1*q2+q1*y2) (y2*q2))])).mpr (by omega);refine⟨pl,[ao ns*m1/m2,-(ao ns*rt (y1*q2+q1*y2) (y2*q2)/rb (y1*q2+q1*y2) (y2*q2)),ao ns],rfl,au,trl,by show 3<=1000000;decide,λp5 H5 s5 hp5 e5=>?_⟩;have t5:=(t4.then_new (o:=.lst _) hpl).trans s5;refine k _ _ m1 m2 ⟨mx,dk h0,(eU h0 bsum).mono,?_⟩ p5 H5 t5 ((t4.then_new hpl).free hp5) e5;show((rt (y1*q2+q1*y2) (y2*q2):Int):Rat)/((rb (y1*q2+q1*y2) (y2*q2):Int):Rat)=_;rw[wa hp2,Cr e1.h2p e2.h2p];rfl
theorem pR{t n t' n':Int}:∀{ls:List (List Int)},(∀l∈ls,ap l t n=ap l t' n')->spr t n ls=spr t' n' ls
 | [],_=>rfl
 |l::ls,h=>by show -ap l t n*spr t n ls = -ap l t' n'*spr t' n' ls;rw[h l (PU ..),pR λx hx=>h x (PP _ hx)]
theorem pQ{t n:Int}:∀{ls:List (List Int)},(∀l∈ls,ap l t n≠0)->spr t n ls=1\/spr t n ls = -1
 | [],_=>.inl rfl
 |l::ls,h=>by
  have h1:=h l (PU ..);have h2:=pQ (ls:=ls) λx hx=>h x (PP _ hx)
  show -ap l t n*spr t n ls=1 \/ -ap l t n*spr t n ls = -1;rcases fE l t n with z |z |z
  ·rw[z];omega
  ·exact absurd z h1
  ·rw[z];omega
theorem Dy{l:List Int}(hl:Spt l){t n t' n':Int}(hn:0<n)(hn':0<n')(h:t*n'<=t'*n)(hs:0<ap l t' n'):0<ap l t n:=by
 rcases QP 0 (ap l t n)with z |z
 ·exact z
 ·exfalso;rcases RK h with y |y
  ·have:=gY hl hn hn' y z;omega
  ·rw[k9 l hn hn' y]at z;omega
theorem nO{l:List Int}(hl:Spt l){l1 l2 h1 h2 x1 x2:Int}(l2p:0<l2)(h2p:0<h2)(x2p:0<x2)(lt:l1*h2<h1*l2)(hno:¬(0<ap l l1 l2/\ap l h1 h2<=0))(hx:l1*x2<x1*l2)(hx':x1*h2<=h1*x2):ap l x1 x2=ap l h1 h2/\ap l h1 h2≠0:=by
 rcases QP 0 (ap l l1 l2)with z |z
 ·have h3:0<ap l h1 h2:=by
   rcases QP 0 (ap l h1 h2)with y |y
   ·exact y
   ·exact absurd ⟨z,y⟩ hno
  have h4:=Dy hl x2p h2p hx' h3;rcases fE l x1 x2 with y |y |y<;>rcases fE l h1 h2 with w |w |w<;>omega
 ·have e1:=gY hl l2p x2p hx z;have e2:=gY hl l2p h2p lt z;omega
theorem Ew{fs pre post:List (List Int)}{s:List Int}{c l1 l2 h1 h2:Int}(hF:∀f∈fs,fC f)(hc:c≠0)(hsp:aI fs=pre++s::post)(l2p:0<l2)(h2p:0<h2)(lt:l1*h2<h1*l2)(hin:0<ap s l1 l2/\ap s h1 h2<=0)(hno:∀x∈pre++post,¬(0<ap x l1 l2/\ap x h1 h2<=0)) :
 ∃ε,RootU (af [c] (aQ [1] (fs.map ah))) l1 l2 h1 h2 ε (λx1 x2=>0<ap s x1 x2):=by
 have hS:∀x∈aI fs,Spt x:=λx hx=>dD hF hx
 have hs:Spt s:=hS s (by rw[hsp];simp);have ho:∀x∈pre++post,Spt x:=λx hx=>hS x (by rw[hsp];simp at hx ⊢;rcases hx with h |h<;>simp[h])
 have val:∀x1 x2,0<x2->l1*x2<x1*l2->x1*h2<=h1*x2->sg (hv x1 x2 (af [c] (aQ [1] (fs.map ah))))=sg c*spr h1 h2 (pre++post) * -ap s x1 x2:=λx1 x2 x2p a b=>by
  rw[lI x2p hF,hsp,jM];show sg c*(spr x1 x2 pre*(-ap s x1 x2*spr x1 x2 post))=_;have e:spr x1 x2 (pre++post)=spr h1 h2 (pre++post):=pR λy hy=>(nO (ho y hy) l2p h2p x2p lt (hno y hy) a b).1
  rw[<- e,jM];grind
 have hu:=pQ (t:=h1) (n:=h2) (ls:=pre++post) λy hy=>(nO (ho y hy) l2p h2p h2p lt (hno y hy) lt (Qg _)).2
 have hsg:sg c=1\/sg c = -1:=by
  rcases QE hc with z |z
  ·right;unfold sg;rw[if_pos z]
  ·left;unfold sg;rw[if_neg (by omega),if_pos z]
 have e1:sg c*spr h1 h2 (pre++post)=1\/sg c*spr h1 h2 (pre++post) = -1:=by rcases hsg with z |z<;>rcases hu with y |y<;>rw[z,y]<;>decide
 generalize sg c*spr h1 h2 (pre++post)=ε at val e1
 refine⟨ε,e1,λx1 x2 x2p a b hU=>?_,λx1 x2 x2p a b hU=>?_,λx1 x2 y1 y2 x2p y2p a b hU hlt=>?_,λx1 x2 y1 y2 x2p y2p e hU=>?_,hin.1,λz=>?_⟩
 ·rw[val x1 x2 x2p a b];rcases fE s x1 x2 with z |z |z
  ·rw[z];omega
  ·rw[z]at hU;exact absurd hU (by decide)
  ·rw[z]at hU;exact absurd hU (by decide)
 ·rw[val x1 x2 x2p a b];rcases fE s x1 x2 with z |z |z
  ·exact absurd (show 0<ap s x1 x2 by omega) hU
  ·rw[z];right;omega
  ·rw[z];left;omega
 ·have hU':ap s x1 x2<=0:=Rh.mp hU;have z:=gY hs x2p y2p hlt hU'
  have a':l1*y2<y1*l2:=by
   refine ir x2p ?_;have q1:=Qv a y2p;have q2:=Qv hlt l2p;have e2:l1*y2*x2=l1*x2*y2:=by grind
   have e3:x1*l2*y2=x1*y2*l2:=by grind
   have e4:y1*l2*x2=y1*x2*l2:=by grind
   omega
  rw[val y1 y2 y2p a' b,z];omega
 ·show 0<ap s y1 y2;rw[<- k9 s x2p y2p e];exact hU
 ·have z':0<ap s h1 h2:=z;omega
noncomputable def gG(f0:List Int):List Int:=if cf f0 1=0 then ah f0 else[]
structure Nar1(fs:List (List Int))(s0:List Int)(l1 l2 h1 h2 x1 x2 y1 y2:Int)(kb:Nat):Prop where
 ends:EndsG 1774 x1 x2 y1 y2
 ux:0<ap s0 x1 x2
 uy:ap s0 y1 y2<=0
 lo:l1*x2<=x1*l2
 hi:y1*h2<=h1*y2
 wide:(y1*x2-x1*y2)*(8*ao (prQ fs)*2^kb)<=1*(x2*y2)
inductive xF(C:Addr)(vs:List V)(H:Hp)(Q:VK)(E:XK):Prop
 |mk (a p x y:Addr) (fs:List (List Int)) (f0 s0:List Int) (l1 l2 h1 h2 x1 x2 y1 y2:Int) (kb:Nat):vs=[.ref a,.ref p]->H a=some (.lst ((prQ fs).map V.int))->H p=some (.tup [.ref x,.ref y])->RA C H x x1 x2->RA C H y y1 y2->Whl fs->OneS fs f0 s0 l1 l2 h1 h2->Nar1 fs s0 l1 l2 h1 h2 x1 x2 y1 y2 kb->mkL H Q (gG f0)->xF C vs H Q E
theorem Gx(F:Fun K "line_of" "line_of" rj f fd)(T:Txt K mg)(R:RCI K mg C)(ci:KCal P w K mg base 2 C "Ratio" ["self","top","bottom"] (c9 C) dS dR dW [.int 1])(vM:Cal P w K mg base 5 "times_floor" ["factor","ratio"] (pX C) Kr Kb)(m8:MCal P w K mg base 2 C "against" ["self","other"] (nK C) A6 AY)(jB:Cal P w K mg base 2 "sign_at" ["row","ratio"] (kW C) uF uv):FnOk P w K mg base CX0 6 f fd ["whole","span"] (xF C):=by
 obtain⟨bH,bF,bC,bX,cO,cM⟩:=ci;obtain⟨pD,oH,oQ,pj⟩:=vM;obtain⟨kK,j8,kA⟩:=m8;obtain⟨jv,iS,iZ,jm⟩:=jB;refine F.ok sc_line_of (λvs H Q E h=>?_) (λcdv A outer s H vs Q E hr h=>?_)
 ·obtain⟨a,p,x,y,fs,f0,s0,l1,l2,h1,h2,x1,x2,y1,y2,kb,rfl,_⟩:=h;rfl
 ·obtain⟨a,p,x,y,fs,f0,s0,l1,l2,h1,h2,x1,x2,y1,y2,kb,rfl,hA,hp,hx,hy,hW,hO,hN,k⟩:=h
  refine⟨_,(ag (ak (i:=2) sc_line_of.nd rfl (Or.inl rfl) (b9 bF bH (hr.mono) rfl bC bX .nil ai (aa (aq pD (hr.mono) rfl oH oQ pj .nil ai (aa (aE (b5 (K:=K) rfl) (pv 0) (bK bJ ad) (λ_ _=>rfl)) (aa (aE (aM (K:=K) rfl) (pv 1) ad (λ_ _=>rfl)) ac))) (aa (aE (b5 (K:=K) rfl) (pv 0) (bK bJ ad) (λ_ _=>rfl)) ac))))
   (ag (aR (PW.pt (lC (aH fJ (c7 (pv 2) R.cl j8 kK (hr.mono) kA .nil ai (aa (aE (aM (K:=K) rfl) (pv 1) ad (λ_ _=>rfl)) ac)) ad (aG _)) (ly (aH cW (aq jv (hr.mono) rfl iS iZ jm .nil ai (aa (pv 0) (aa (pv 2) ac))) ad (aG _)))))
     (al (aC (aX (aa (bK bJ (aN (K:=K) rfl (pv 2) rfl)) (aa (aN (K:=K) rfl (pv 2) rfl) ac)))))
     aU)
   (al (aC (aX ac))))),?_⟩
  have big:=sizeLine_eq;have en:=hN.ends;have hb:=hW.bits;have hP:=hW.fam.pln;have l7:=hW.l7;have bl:=mn hb;have lp:=hP.pos;have B1:(1:Int)<=2^kb:=by have:=Qs (n:=2) (m:=kb) (by decide);omega
  refine av ⟨_,rfl,_,rfl,a,_,_,_,rfl,rfl,SqL.of hA,mq hP.ne,_,rfl,p,_,_,_,rfl,rfl,SqT.of hp,rfl,y,ao (prQ fs),y1,y2,rfl,hy,en.h2p,bl.mono,en.bh1.mono,en.bh2.mono,λH1 s1=>?_⟩;have bm:Bits 2300 (ao (prQ fs)*y1/y2):=Bits.of_le ((bl.mul en.bh1).mono (k:=2300) (by decide)) (SB _ _);have l0:ao (prQ fs)≠0:=by omega
  have two:(gG f0=[-(rt (ao (prQ fs)*y1/y2) (ao (prQ fs))),rb (ao (prQ fs)*y1/y2) (ao (prQ fs))]/\x1*rb (ao (prQ fs)*y1/y2) (ao (prQ fs))<rt (ao (prQ fs)*y1/y2) (ao (prQ fs))*x2/\hv (rt (ao (prQ fs)*y1/y2) (ao (prQ fs))) (rb (ao (prQ fs)*y1/y2) (ao (prQ fs))) (prQ fs)=0)\/(gG f0=[]/\(x1*rb (ao (prQ fs)*y1/y2) (ao (prQ fs))<rt (ao (prQ fs)*y1/y2) (ao (prQ fs))*x2->hv (rt (ao (prQ fs)*y1/y2) (ao (prQ fs))) (rb (ao (prQ fs)*y1/y2) (ao (prQ fs))) (prQ fs)≠0)):=by
   obtain⟨u,e,b,σ,rfl,rfl,hb1,hNS,hc⟩:=hO.cases;rcases hc with⟨rfl,rfl⟩ |⟨hσ,he⟩
   ·left;have e0:gG [u,0,b]=ah [u,0,b]:=if_pos rfl;rw[e0];exact hO.line en.l2p en.h2p B1 hN.ux hN.uy en.lt hN.wide
   ·right;refine⟨if_neg (show ¬e=0 by omega),λhlt=>?_⟩;have hpos:=dk (t:=ao (prQ fs)*y1/y2) l0;have hc:=fb (t:=ao (prQ fs)*y1/y2) l0;have hfl:ao (prQ fs)*y1/y2*y2<=ao (prQ fs)*y1:=Int.ediv_mul_le _ (by have:=en.h2p;omega);generalize rt (ao (prQ fs)*y1/y2) (ao (prQ fs))=m1 at *
    generalize rb (ao (prQ fs)*y1/y2) (ao (prQ fs))=m2 at *
    generalize ao (prQ fs)*y1/y2=Z at *
    have my:m1*y2<=y1*m2:=by
     refine jj lp ?_;have:=P6 hfl (PD hpos);have e1:m1*y2*ao (prQ fs)=Z*y2*m2:=by rw[Int.mul_right_comm,hc];grind
     have e2:y1*m2*ao (prQ fs)=ao (prQ fs)*y1*m2:=by grind
     omega
    refine hO.none rfl hNS he hpos ?_ ?_
    ·refine ir en.l2p ?_;have q1:=P6 hN.lo (PD hpos);have q2:=Qv hlt hO.l2p;have e1:l1*m2*x2=l1*x2*m2:=by grind
     have e2:x1*l2*m2=x1*m2*l2:=by grind
     have e3:m1*l2*x2=m1*x2*l2:=by grind
     omega
    ·refine jj en.h2p ?_;have q1:=P6 hN.hi (PD hpos);have q2:=P6 my (PD hO.h2p);have e1:m1*h2*y2=m1*y2*h2:=by grind
     have e2:y1*m2*h2=y1*h2*m2:=by grind
     have e3:h1*m2*y2=h1*y2*m2:=by grind
     omega
  generalize ao (prQ fs)*y1/y2=m at bm two ⊢
  refine⟨_,rfl,_,rfl,a,_,_,_,rfl,rfl,SqL.of (s1 _ _ hA),mq hP.ne,cU l0 (bl.mono) λr H2 s2 hr2 hR=>?_⟩;have t2:=s1.trans s2;obtain⟨dr,hR'⟩:=id hR
  have sgl:∀c d:Int,sg (c-d)>0↔d<c:=λc d=>by unfold sg;split<;>(try split)<;>constructor<;>intro z<;>omega
  refine cs (jV ⟨_,rfl,r,dr,_,rfl,hR',de _ _ ia.1 ia.2,_,rfl,p,_,_,_,rfl,rfl,SqT.of (t2 _ _ hp),rfl,r,x,_,_,x1,x2,rfl,hR,hx.same t2,(eU l0 bm).mono,(eY l0 bl).mono,en.bl1.mono,en.bl2.mono,_,_,rfl,rfl,_,rfl,aP (λh0=>?_) (λh0=>?_)⟩)
  ·have h0':=(sgl _ _).mp h0;refine⟨_,rfl,_,rfl,a,r,prQ fs,_,_,⟨rfl,t2 _ _ hA,hR,by omega,hb.mono,(eU l0 bm).mono,(eY l0 bl).mono⟩,λH3 s3=>⟨_,_,rfl,rfl,_,rfl,aP (λh3=>?_) (λh3=>?_)⟩⟩
   ·have h3':sg (hv (rt m (ao (prQ fs))) (rb m (ao (prQ fs))) (prQ fs))=0:=h3;rcases two with⟨z1,_,_⟩ |⟨_,z2⟩
    ·have hR3:=s3 _ _ hR';refine bj ⟨_,rfl,r,C,dr,_,_,rfl,hR3,R.cl,R.nT,c8 _ _,_,rfl,_,rfl,r,C,dr,_,_,rfl,hR3,R.cl,R.nB,ca _ _,by show 2<=sizeLine;omega,λq hq=>?_⟩;refine k q _ ((t2.trans s3).then_new hq) ((t2.trans s3).free hq) ?_;rw[au,z1];rfl
    ·exact absurd ((qt _).mp h3') (z2 h0')
   ·rcases two with⟨_,_,z3⟩ |⟨z1,_⟩
    ·exact absurd ((qt _).mpr z3) h3
    ·exact bj ⟨PK _,λq hq=>k q _ ((t2.trans s3).then_new hq) ((t2.trans s3).free hq) (by rw[au,z1];rfl)⟩
  ·rcases two with⟨_,z2,_⟩ |⟨z1,_⟩
   ·exact absurd ((sgl _ _).mpr z2) h0
   ·exact f6 (bj ⟨PK _,λq hq=>k q _ (t2.then_new hq) (t2.free hq) (by rw[au,z1];rfl)⟩)
theorem yy{fs:List (List Int)}{l1 l2 h1 h2:Int}(hF:Fam fs)(l2p:0<l2)(h2p:0<h2)(lt:l1*h2<h1*l2)(h:bI (aI fs) l1 l2 h1 h2=1):∃s ε,s∈aI fs/\0<ap s l1 l2/\ap s h1 h2<=0/\RootU (prQ fs) l1 l2 h1 h2 ε (λt n=>0<ap s t n):=by obtain⟨pre,s,post,e,hin,hno⟩:=mI h;obtain⟨ε,hr⟩:=Ew (c:=1) hF.q (by decide) e l2p h2p lt hin hno;rw[show af [1] (aQ [1] (fs.map ah))=prQ fs from hF.one]at hr;exact⟨s,ε,by rw[e];simp,hin.1,hin.2,hr⟩
theorem xY{i j:Nat}{a b:List Int}{n:Nat}(ha:AllB i a)(hb:AllB j b):∀m,Bits (i+j+m) (sm a b n m)
 |0=>Bits.zero
 |m+1=>by
  rw[sm];refine(xY ha hb m).add ?_;unfold tm;split
  ·exact((ha.cf m).mul (hb.cf _)).mono (by omega)
  ·exact Bits.zero
theorem iP{i j k:Nat}{a b:List Int}(ha:AllB i a)(hb:AllB j b)(hk:i+j+a.length<=k):AllB k (af a b):=AllB.of_cf λn=>by rw[aL];exact(xY ha hb a.length).mono hk
inductive xK(vs:List V)(H:Hp)(Q:VK)(E:XK):Prop
 |mk (a b:Addr) (xs ys:List Int) (n:Nat):vs=[.ref b,.ref a]->H a=some (.lst (xs.map V.int))->H b=some (.lst (ys.map V.int))->ys≠[]->AllB n xs->AllB n ys->(xs.length+2)*(n+1)<=1000000->ys.length<=1000000->(∀H',Same H H'->Q (.bl (decide (aO xs ys=[]))) H')->xK vs H Q E
theorem GE(F:Fun K "divides" "divides" rB f fd)(T:Txt K mg)(jD:Cal P w K mg base 2 "divided" ["first","second"] kY uH uz):FnOk P w K mg base CX0 3 f fd ["divisor","row"] xK:=by
 obtain⟨jx,iU,i7,jo⟩:=jD;refine F.ok D8 (λvs H Q E h=>?_) (λcdv A outer s H vs Q E hr h=>?_)
 ·obtain⟨a,b,xs,ys,n,rfl,_⟩:=h;rfl
 ·obtain⟨a,b,xs,ys,nb,rfl,hA,hB,hy,bx,by',hsz,hyn,k⟩:=h;have hu:=hr.units;refine⟨_,(al (aC (sR (j1 (K:=K) rfl hu) (aE (aM (K:=K) rfl) (aq jx (hr.mono) rfl iU i7 jo .nil ai (aa (pv 1) (aa (pv 0) ac))) ad (λ_ _=>rfl)) (aX ac) (aG _)))),?_⟩;refine bj ⟨_,rfl,_,rfl,a,b,xs,ys,nb,rfl,hA,hB,hy,bx,by',hsz,hyn,λt q r H1 sm1 ht hq hr' _ _ _ et eq er=>?_⟩;refine⟨t,_,_,_,rfl,rfl,SqT.of et,rfl,PK _,λp hp=>?_⟩;exact⟨r,p,_,[],rfl,rfl,SqL.of (by rw[upd_ne (aW er hp)];exact er),SqL.of au,k _ (sm1.then_new hp)⟩
theorem iE{f:List Int}(h:FacG f):AllB 62 (ah f)/\(ah f).length<=3:=by
 obtain⟨u,e,b,rfl,h1,h2,h3,h4,h5,h6,_⟩:=h;have sm:∀{x:Int} {n:Nat},x.natAbs<n->n<=2^62->Bits 62 x:=λh1 h2=>Qr h1 h2
 have hr:AllB 62 (aJ u e b)/\(aJ u e b).length<=3:=by
  unfold aJ;split
  ·refine⟨λx hx=>?_,by show 2<=3;decide⟩;rcases PM.mp hx with rfl |hx
   ·exact sm (n:=1000000001) (by omega) (by decide)
   ·rw[PQ.mp hx];exact sm (n:=1001) (by omega) (by decide)
  ·refine⟨λx hx=>?_,PF _⟩;have u1:u.natAbs<=1000000000:=by omega
   have uu:(u*u).natAbs<=1000000000*1000000000:=by rw[PN];exact QW u1 u1
   have bu:(b*u).natAbs<=1000*1000000000:=by rw[PN];exact QW (by omega) u1
   have bb:(b*b).natAbs<=1000*1000:=by rw[PN];exact QW (by omega) (by omega)
   have e2 : -2*b*u = -2*(b*u):=P4 _ _ _;rw[e2]at hx;generalize u*u=A at *
   generalize b*u=B at *
   generalize b*b=D at *
   rcases PM.mp hx with rfl |hx
   ·exact sm (n:=2000000000000000000) (by omega) (by decide)
   rcases PM.mp hx with rfl |hx
   ·exact sm (n:=2000000000001) (by omega) (by decide)
   ·rw[PQ.mp hx];exact sm (n:=1000001) (by omega) (by decide)
 exact⟨oi hr.1,by show(aw _).length<=3;rw[RM.plain_len];exact hr.2⟩
theorem Cu{gs:List (List Int)}(h:Fam gs)(hl:gs.length<=2):AllB 250 (prQ gs):=by
 have one:AllB 1 ([1]:List Int):=λx hx=>by rw[PQ.mp hx];exact b1k (by decide)
 rw[h.prd]
 match gs,hl with
 | [],_=>exact one.mono
 | [f],_ =>obtain⟨b,l⟩:=iE (h.fac f (by simp));show AllB 250 (af (ah f) [1]);rw[cX];exact b.mono
 | [f,f'],_ =>obtain⟨b,l⟩:=iE (h.fac f (by simp));obtain⟨b',l'⟩:=iE (h.fac f' (by simp));show AllB 250 (af (ah f) (af (ah f') [1]));rw[cX];exact(iP b b' (PF _)).mono (by omega)
theorem Do{fs:List (List Int)}{u e b σ l1 l2 h1 h2 x1 x2 y1 y2 p1 p2 q1 q2 t1 t2 m1 m2:Int}{kb:Nat}(hO:OneS fs [u,e,b] [u,e,b,σ] l1 l2 h1 h2)(hW:Whl fs)(he:0<e)(hσ:σ=1\/σ = -1)(hB:isB ((prQ fs).take ((prQ fs).length-1)) (ao (prQ fs)).natAbs kb)(N1:Nar1 fs [u,e,b,σ] l1 l2 h1 h2 x1 x2 y1 y2 kb)
 (E2:EndsG 4074 p1 p2 q1 q2) (up:0<ap [u,e,b,-σ] p1 p2) (uq:ap [u,e,b,-σ] q1 q2<=0) (wide:(q1*p2-p1*q2)*(8*ao (prQ fs)*2^kb)<=1*(p2*q2)) (hS:SqR x1 x2 y1 y2 p1 p2 q1 q2 t1 t2 m1 m2):aw [ao (prQ fs)*m1/m2,-(ao (prQ fs)*t1/t2),ao (prQ fs)]=ah [u,e,b]:=by
 have hF:=hW.fam;have hL:=hF.pln.pos;have B1:(1:Int)<=2^kb:=by have:=Qs (n:=2) (m:=kb) (by decide);omega
 have eB:((2^kb:Nat):Int)=(2:Int)^kb:=by rw[Rv];rfl
 have mem0:[u,e,b,σ]∈aI fs:=Q9.mpr ⟨_,hO.mem,hO.sp⟩;have mem1:[u,e,b,-σ]∈aI fs:=Q9.mpr ⟨_,hO.mem,by rw[kS he];rcases hσ with rfl |rfl<;>simp⟩
 have bd:∀s∈aI fs,ap s (2^kb) 1<0/\0<ap s (-(2^kb)) 1:=λs hs=>by have:=wT hF.fac hF.nd (B:=2^kb) (Q4 (by decide)) hB.1 hs;rw[eB]at this;exact this
 have en:=N1.ends;obtain⟨a1,a2,a3,a4⟩:=zn (dD hF.q mem0) B1 (show 1<=ao (prQ fs) by omega) (bd _ mem0) en.l2p en.h2p N1.ux N1.uy en.lt N1.wide;obtain⟨c1,c2,c3,c4⟩:=zn (dD hF.q mem1) B1 (show 1<=ao (prQ fs) by omega) (bd _ mem1) E2.l2p E2.h2p up uq E2.lt wide;have mx:=hS.mx;have i1:=mx.c1;have i2:=mx.c2;have i3:=mx.c3;have i4:=mx.c4;have im:=mx.is;have is:=hS.sum;unfold vl at i1 i2 i3 i4 im is
 dsimp only at i1 i2 i3 i4 im is
 rcases hσ with rfl |rfl
 ·exact wO hF hO.mem he rfl B1 (pJ en.l2p en.h2p E2.l2p E2.h2p N1.ux N1.uy up uq) a3 c3 a4 c4 a1 a2 c1 c2 i1 i2 i3 i4 im hS.t2p mx.m2p is rfl
 ·skip
  exact wO hF hO.mem he rfl B1 (pJ E2.l2p E2.h2p en.l2p en.h2p up uq N1.ux N1.uy) c3 a3 c4 a4 c1 c2 a1 a2 (by rw[Rx];exact i1) (by rw[Rx];exact i3) (by rw[Rx];exact i2) (by rw[Rx];exact i4) (by
   rcases im with z |z |z |z
   ·exact .inl (by rw[z,Rx])
   ·exact .inr (.inr (.inl (by rw[z,Rx])))
   ·exact .inr (.inl (by rw[z,Rx]))
   ·exact .inr (.inr (.inr (by rw[z,Rx])))) hS.t2p mx.m2p (by rw[is,Rat.add_comm]) rfl
theorem KL{fs:List (List Int)}{f0:List Int}(hF:Fam fs)(hm:f0∈fs):aO (prQ fs) (ah f0)=[]:=by
 obtain⟨pre,post,e⟩:=R5 (List.mem_map_of_mem (f:=ah) hm);have hp:=hF.pri;have hP:=hF.pln;have e0:=hF.prd;rw[e]at hp e0;have hq:Pln (RM.prd (pre++post)):=iI _ λs hs=>(hp s (by simp at hs ⊢;rcases hs with z |z<;>simp[z])).pln
 have hs:Pln (ah f0):=(hp _ (by simp)).pln;rw[lK]at e0;exact(y4 hP.tr hP.ne hs hq (by rw[hP.plain,e0])).1
inductive xD(C:Addr)(vs:List V)(H:Hp)(Q:VK)(E:XK):Prop
 |mk (a l h:Addr) (fs:List (List Int)) (f0 s0:List Int) (l1 l2 h1 h2:Int):vs=[.ref a,.ref l,.ref h]->H a=some (.lst ((prQ fs).map V.int))->RA C H l l1 l2->RA C H h h1 h2->Whl fs->OneS fs f0 s0 l1 l2 h1 h2->bI (aI fs) l1 l2 h1 h2=1->EndsG 250 l1 l2 h1 h2->mkL H Q (ah f0)->xD C vs H Q E
theorem Gy(F:Fun K "least" "least" rk f fd)(T:Txt K mg)(gS:Cal P w K mg base 34 "plain" ["row"] jO o4 o2)(eK:Cal P w K mg base 1 "degree" ["row"] gX km ki)(Nw:Cal P w K mg base 4 "fine_width" ["whole"] (xI C) Pb Oq)(mY:Cal P w K mg base 6 "narrowed" ["row","low","high","width"] (nG C) A4 AW)(Nr:Cal P w K mg base 6 "line_of" ["whole","span"] (xF C) O7 Om)(Nz:Cal P w K mg base 36 "cells" ["row"] (xN C) Pe Ou)(M7:Cal P w K mg base 35 "square_of" ["whole","span","other"] (w5 C) OO N2)(Nx:Cal P w K mg base 3 "divides" ["divisor","row"] xK Pc Os)(vT:Cal P w K mg base 4 "count" ["row","low","high"] (qe C) Kx Kh)(mX:Cal P w K mg base 35 "row_of" ["polynomial"] nE AZ AV):FnOk P w K mg base CX0 37 f fd ["row","low","high"] (xD C):=by
 obtain⟨fU,fM,fN,fT⟩:=gS;obtain⟨dA,dm,dq,dz⟩:=eK;obtain⟨MM,Il,Jq,LV⟩:=Nw;obtain⟨kI,j9,kd,kx⟩:=mY;obtain⟨MI,Ih,Jm,LR⟩:=Nr;obtain⟨MP,Iq,Jt,LY⟩:=Nz;obtain⟨Mq,HN,IX,Lz⟩:=M7;obtain⟨MN,Im,Jr,LW⟩:=Nx;obtain⟨vH,tK,ua,vm⟩:=vT;obtain⟨mU,mh,mv,mO⟩:=mX;refine F.ok sc_least (λvs H Q E h=>?_) (λcdv A outer s H vs Q E hr h=>?_)
 ·obtain⟨a,l,h,fs,f0,s0,l1,l2,h1,h2,rfl,_⟩:=h;rfl
 ·obtain⟨a,l,h,fs,f0,s0,l1,l2,h1,h2,rfl,hA,hl,hh,hW,hO,hcn,en,k⟩:=h;have hu:=hr.units;have big:=sizeLine_eq;have hF:=hW.fam;have hP:=hF.pln;have l7:=hW.l7;have l2':=hW.l2;have hml:((prQ fs).map V.int).length=(prQ fs).length:=PC _;have pf0:=fQ (hF.fac f0 hO.mem);have hL:=hP.pos
  refine⟨_,(ag (ak (i:=3) sc_least.nd rfl (Or.inl rfl) (aq fU (hr.mono) rfl fM fN fT .nil ai (aa (pv 0) ac)))
   (ag (aR (aH dH (aq dA (hr.mono) rfl dm dq dz .nil ai (aa (pv 3) ac)) ad (aG _))
     (al (aC (pv 3)))
     aU)
   (ag (ak (i:=4) sc_least.nd rfl (Or.inl rfl) (aq MM (hr.mono) rfl Il Jq LV .nil ai (aa (pv 3) ac)))
   (ag (ak (i:=5) sc_least.nd rfl (Or.inl rfl) (aq kI (hr.mono) rfl j9 kd kx .nil ai (aa (pv 3) (aa (pv 1) (aa (pv 2) (aa (pv 4) ac))))))
   (ag (ak (i:=6) sc_least.nd rfl (Or.inl rfl) (aq MI (hr.mono) rfl Ih Jm LR .nil ai (aa (pv 3) (aa (pv 5) ac))))
   (ag (aR (aH (lX (K:=K) rfl hu) (pv 6) (aX ac) (aG _))
     (al (aC (pv 6)))
     aU)
   (ag (aR (aH cW (aq dA (hr.mono) rfl dm dq dz .nil ai (aa (pv 3) ac)) ad (aG _))
     (al (aC (pv 3)))
     aU)
   (ag (cV PassesOwn.never rfl (fH (K:=K) rfl (aq MP (hr.mono) rfl Iq Jt LY .nil ai (aa (pv 3) ac))) (aS (i:=7) sc_least.nd rfl (Or.inl rfl))
     (ag (ak (i:=8) sc_least.nd rfl (Or.inl rfl) (aq Mq (hr.mono) rfl HN IX Lz .nil ai (aa (pv 3) (aa (pv 5) (aa (aq kI (hr.mono) rfl j9 kd kx .nil ai (aa (pv 3) (aa (aE (aM (K:=K) rfl) (pv 7) ad (λ_ _=>rfl)) (aa (aE (aM (K:=K) rfl) (pv 7) ad (λ_ _=>rfl)) (aa (pv 4) ac))))) ac)))))
       (al (aR (PW.pt (lC (lG (aq MN (hr.mono) rfl Im Jr LW .nil ai (aa (pv 8) (aa (pv 3) ac)))) (ly (aH cW (aq vH (hr.mono) rfl tK ua vm .nil ai (aa (aq mU (hr.mono) rfl mh mv mO .nil ai (aa (pv 8) ac)) (aa (pv 1) (aa (pv 2) ac)))) ad (aG _)))))
         (al (aC (pv 8)))
         aU))))
   (al (aC (pv 3))))))))))),?_⟩
  refine av ⟨_,rfl,a,prQ fs,rfl,hA,hP.tr,by omega,λp H1 s1 hp e1=>?_⟩;rw[hP.plain]at e1;refine cs ⟨_,rfl,p,_,rfl,e1,_,_,rfl,rfl,_,rfl,aP (λh0=>?_) (λh0=>?_)⟩
  ·have h0':((prQ fs).map V.int).length-(1:Int)<2:=h0;rw[hml]at h0';have e:=v5 hF hO.mem (by have:=pf0.two;omega);rw[e]at e1;exact⟨_,rfl,k p H1 s1 hp e1⟩
  refine av ⟨_,rfl,p,fs,rfl,e1,hW,λwd H2 kb hk hB s2 hwd hWd hD bD=>?_⟩;have t2:=s1.trans s2;have e2:=s2 _ _ e1;obtain⟨sx,ε,hsx,hx1,hx2,ru⟩:=yy hF en.l2p en.h2p en.lt hcn;obtain rfl:=hO.only sx hsx hx1 hx2;refine av ⟨_,rfl,_,rfl,_,rfl,_,rfl,p,l,h,wd,prQ fs,l1,l2,h1,h2,1,8*ao (prQ fs)*2^kb,250,520,ε,_,rfl,e2,hP.tr,hP.ne,by omega,hW.bits.mono,hl.same t2,hh.same t2,hWd,en,by decide,hD,b1k (by decide),bD,by decide,by decide,by decide,ru,λps x y H3 n pl x1 x2 y1 y2 s3 hps e3 hx hy nar=>?_⟩;have t3:=t2.trans s3;have ep3:=s3 _ _ e2;have N1:Nar1 fs sx l1 l2 h1 h2 x1 x2 y1 y2 kb:=⟨nar.ends,nar.ux,Rh.mp nar.uy,nar.lo,nar.hi,nar.wide⟩;refine av ⟨_,rfl,_,rfl,p,ps,x,y,fs,f0,sx,l1,l2,h1,h2,x1,x2,y1,y2,kb,rfl,ep3,e3,hx,hy,hW,hO,N1,λpl' H4 s4 hpl e4=>?_⟩;refine cs ⟨_,rfl,PK _,λp0 hp0=>?_⟩;have s5:=Same.upd_new (o:=.lst []) hp0;obtain⟨u,e,b,σ,rfl,rfl,hb1,hNS,hc⟩:=hO.cases;have hne:ah [u,e,b]≠[]:=pf0.pln.ne;refine⟨pl',p0,gG [u,e,b],[],rfl,rfl,SqL.of (s5 _ _ e4),SqL.of au,_,rfl,da (λh3=>?_) (λh3=>?_)⟩
  ·have h3':gG [u,e,b]≠[]:=h3
   have e0:gG [u,e,b]=ah [u,e,b]:=by
    by_cases z:e=0
    ·exact if_pos z
    ·exact absurd (if_neg z) h3'
   rw[e0]at e4;exact⟨_,rfl,k pl' _ (t3.trans (s4.trans s5)) (t3.free hpl) (s5 _ _ e4)⟩
  have h3':gG [u,e,b]=[]:=h3
  have he:0<e:=by
   rcases hc with⟨_,rfl⟩ |⟨_,he⟩
   ·exact absurd ((if_pos rfl:gG [u,0,b]=ah [u,0,b]).symm.trans h3') hne
   ·exact he
  have hσ:σ=1\/σ = -1:=by
   rcases hc with⟨z,_⟩ |⟨z,_⟩
   ·exact .inl z
   ·exact z
  have hl3:(ah [u,e,b]).length=3:=by obtain⟨g,A0,A1,A2,_,eS,_⟩:=qp (u:=u) hb1 (show e≠0 by omega);rw[eS];rfl
  generalize upd H4 p0 (.lst [])=H5 at s5 ⊢
  have u5:=s3.trans (s4.trans s5);have ep5:=u5 _ _ e2;refine cs ⟨_,rfl,p,_,rfl,ep5,_,_,rfl,rfl,_,rfl,aP (λh0=>?_) (λ_=>?_)⟩
  ·have h0':(((prQ fs).map V.int).length:Int)-1=2:=h0;rw[hml]at h0';have eW:=v5 hF hO.mem (by omega);rw[eW]at ep5;exact⟨_,rfl,k p H5 (t2.trans u5) hp ep5⟩
  refine⟨_,rfl,p,fs,rfl,ep5,hW,λkb' pc ys H6 hk' hB' s6 hpc ec hys hcov hyl=>?_⟩;obtain rfl:=Aq hB hB';have t5:=t2.trans u5;have u6:=u5.trans s6;have hsp1:[u,e,b,-σ]∈aI fs:=Q9.mpr ⟨_,hO.mem,by rw[kS he];rcases hσ with rfl |rfl<;>simp⟩;have hql:(qs ys).length=ys.length:=PC _;refine⟨pc,rfl,⟨_,SqL.of ec⟩,o1 (K:=K) (a:=pc) (xs:=qs ys) (λi σ' H'=>∃(z7 z8:Option V),σ'=[some (.ref a),some (.ref l),some (.ref h),some (.ref p),some (.ref wd),some (.ref ps),some (.ref pl'),z7,z8]/\Same H6 H'/\∀(j:Nat) (c:Cel),j<i->ys[j]?=some c->¬c.inn [u,e,b,-σ]) ⟨none,none,rfl,Same.refl _,λj c hj=>absurd hj (R9 _)⟩ ?_ ?_ ?_⟩
  ·rintro i σ' H' _ ⟨z7,z8,rfl,sm,_⟩;exact SqL.of (sm _ _ ec)
  ·rintro i z σ' H' hi ⟨z7,z8,rfl,sm,hno⟩
   have hil:i<ys.length:=by apply Classical.byContradiction;intro hn;rw[List.getElem?_eq_none_iff.mpr (by rw[hql];omega)]at hi;cases hi
   have ey:ys[i]?=some ys[i]:=List.getElem?_eq_getElem hil
   have hz:z=V.ref ys[i].q:=by
    unfold qs at hi
    rw[List.getElem?_map,ey]at hi;exact(Option.some.inj hi).symm
   subst hz;generalize hc0:ys[i]=c at *
   have hcf:=(hys c (by rw[<- hc0];exact Ro hil)).nl (NL.of sm);have dE:=KI hcf.dy hk hcf.dd;obtain⟨fx,sx',hO2⟩:=FJ hF dE.l2p dE.h2p dE.lt hcf.one;obtain⟨sc,εc,hsc,hcx1,hcx2,ruc⟩:=yy hF dE.l2p dE.h2p dE.lt hcf.one;have esc:=hO2.only sc hsc hcx1 hcx2;have u7:=u6.trans sm;have t7:=t2.trans u7;refine av ⟨_,rfl,_,rfl,_,rfl,_,rfl,c.q,_,_,_,rfl,rfl,SqT.of hcf.tup,rfl,_,rfl,c.q,_,_,_,rfl,rfl,SqT.of hcf.tup,rfl,_,rfl,p,c.lo,c.hi,wd,prQ fs,c.l1,c.l2,c.h1,c.h2,1,8*ao (prQ fs)*2^kb,710,520,εc,_,rfl,u7 _ _ e2,hP.tr,hP.ne,by omega,hW.bits.mono,hcf.lo,hcf.hi,hWd.same u7,dE,by decide,hD,b1k (by decide),bD,by decide,by decide,by decide,ruc,λps' x' y' H7 n' pl7 p1 p2 q1 q2 s7 hps' e7 hx' hy' nar'=>?_⟩;have u8:=u7.trans s7;have v8:=(s4.trans s5).trans (s6.trans (sm.trans s7));have tw:TwoS C H7 ps ps' x y x' y' x1 x2 y1 y2 p1 p2 q1 q2:=⟨v8 _ _ e3,e7,hx.same v8,hy.same v8,hx',hy',nar.ends,nar'.ends⟩;refine⟨p,ps,ps',x,y,x',y',prQ fs,x1,x2,y1,y2,p1,p2,q1,q2,rfl,u8 _ _ e2,hP,hW.bits,tw,λt1 t2' m1 m2 hS psq H8 s8 hpsq e8=>?_⟩;have bl:=mn hW.bits;have trE:Tr [ao (prQ fs)*m1/m2,-(ao (prQ fs)*t1/t2'),ao (prQ fs)]:=(tr_snoc (r:=[ao (prQ fs)*m1/m2,-(ao (prQ fs)*t1/t2')])).mpr (by omega);have hPE:=fG trE (by simp);have hlE:(aw [ao (prQ fs)*m1/m2,-(ao (prQ fs)*t1/t2'),ao (prQ fs)]).length=3:=RM.plain_len _
   have bE:AllB 6300 (aw [ao (prQ fs)*m1/m2,-(ao (prQ fs)*t1/t2'),ao (prQ fs)]):=by
    refine oi λv hv=>?_
    rcases PM.mp hv with rfl |hv
    ·exact Bits.of_le ((bl.mul hS.mx.b1).mono (k:=6300) (by decide)) (SB _ _)
    rcases PM.mp hv with rfl |hv
    ·exact(Bits.of_le ((bl.mul hS.bt).mono (k:=6300) (by decide)) (SB _ _)).neg
    ·rw[PQ.mp hv];exact bl.mono
   have fell:c.inn [u,e,b,-σ]->aw [ao (prQ fs)*m1/m2,-(ao (prQ fs)*t1/t2'),ao (prQ fs)]=ah [u,e,b]:=λhin=>by
    have ex:=hO2.only _ hsp1 hin.1 hin.2;have e9:sc=[u,e,b,-σ]:=by rw[esc,ex]
    have ux:=nar'.ux;have uy:=Rh.mp nar'.uy;rw[e9]at ux uy;exact Do hO hW he hσ hB N1 nar'.ends ux uy nar'.wide hS
   generalize aw [ao (prQ fs)*m1/m2,-(ao (prQ fs)*t1/t2'),ao (prQ fs)]=Es at e8 hPE hlE bE fell
   have u9:=u8.trans s8;have t9:=t2.trans u9
   have next:∀H',Same H8 H'->¬c.inn [u,e,b,-σ]->∃(z7 z8:Option V),[some (V.ref a),some (V.ref l),some (V.ref h),some (V.ref p),some (V.ref wd),some (V.ref ps),some (V.ref pl'),some (V.ref c.q),some (V.ref psq)]=[some (V.ref a),some (V.ref l),some (V.ref h),some (V.ref p),some (V.ref wd),some (V.ref ps),some (V.ref pl'),z7,z8]/\Same H6 H'/\∀(j:Nat) (c:Cel),j<i+1->ys[j]?=some c->¬c.inn [u,e,b,-σ]:=λH' s' hn=>⟨_,_,rfl,sm.trans (s7.trans (s8.trans s')),λj c' hj ej=>by
    rcases Nat.lt_or_eq_of_le (Nat.lt_succ_iff.mp hj)with v |v
    ·exact hno j c' v ej
    ·subst v;rw[ey,<- hc0]at ej
     rw[<- Option.some.inj ej,hc0];exact hn⟩
   refine jV ⟨_,rfl,_,rfl,p,psq,prQ fs,Es,6300,rfl,u9 _ _ e2,e8,hPE.ne,hW.bits.mono,bE,by have:((prQ fs).length+2)*(6300+1)<=9*6301:=QD _ (by omega);omega,by omega,λH9 s9=>?_⟩;refine⟨_,rfl,aP (λhd=>?_) (λhd=>?_)⟩
   ·have hd':aO (prQ fs) Es=[]:=hd
    obtain⟨gs,hG,hgl,hEg,hone,hfel⟩:∃gs,Fam gs/\gs.length<=2/\Es=prQ gs/\(bI (aI gs) l1 l2 h1 h2=1->Es=ah [u,e,b])/\(c.inn [u,e,b,-σ]->bI (aI gs) l1 l2 h1 h2=1):=by
     by_cases hin:c.inn [u,e,b,-σ]
     ·have hG:=hF.single hO.mem;exact⟨[[u,e,b]],hG,by simp,by rw[oe hG];exact fell hin,λ_=>fell hin,λ_=>hO.cnt⟩
     ·obtain⟨gs,g1,_,g3,g4,g5⟩:=hO.sq hl3 hPE hlE (uL hPE.ne hPE.tr hd');exact⟨gs,g1,g3,g4,g5,λz=>absurd z hin⟩
    have bG:=Cu hG hgl;obtain⟨rn,rx,rl⟩:=sC hG (by rw[<- hEg];omega) bG;rw[<- hEg]at rn bG;refine⟨_,rfl,psq,Es,9,rfl,s9 _ _ e8,hPE.tr,bE.mono,by omega,by decide,rn,λlr rs H10 s10 hlr hnew el hR=>?_⟩;have t10:=(t9.trans s9).trans s10;have hR':RwH H10 rs (dj gs):=by unfold dj;rw[<- hEg];exact hR
    refine⟨_,rfl,_,rfl,lr,l,h,rs,dj gs,l1,l2,h1,h2,rfl,el,hR',hl.same t10,hh.same t10,en.bl1.mono,en.bl2.mono,en.bh1.mono,en.bh2.mono,rx,rl,λH11 s11=>⟨_,_,rfl,rfl,_,rfl,aP (λh4=>?_) (λh4=>?_)⟩⟩
    ·have h4':((chS (sgs l1 l2 (dj gs))).1:Int)-(chS (sgs h1 h2 (dj gs))).1=1:=h4;rw[nY hG (by rw[<- hEg];omega) en.l2p en.h2p en.lt]at h4';rw[hone h4']at e8;have w11:=s9.trans (s10.trans s11);refine bj ⟨_,rfl,?_⟩;exact k psq H11 (t9.trans w11) ((t2.trans u8).free hpsq) (w11 _ _ e8)
    ·have h4':¬((chS (sgs l1 l2 (dj gs))).1:Int)-(chS (sgs h1 h2 (dj gs))).1=1:=h4;rw[nY hG (by rw[<- hEg];omega) en.l2p en.h2p en.lt]at h4';exact next _ (s9.trans (s10.trans s11)) λz=>h4' (hfel z)
   ·have hd':¬aO (prQ fs) Es=[]:=hd;refine f6 (next _ s9 λz=>hd' ?_);rw[fell z];exact KL hF hO.mem
  ·rintro σ' H' ⟨z7,z8,rfl,sm,hno⟩;obtain⟨c,hc1,hc2⟩:=hcov _ hsp1;obtain⟨j,hj,ej⟩:=List.mem_iff_getElem.mp hc1;exact absurd hc2 (hno j c (by rw[hql];exact hj) (by rw[<- ej];exact List.getElem?_eq_getElem hj))
structure OneW(fs:List (List Int))(f0 s0:List Int)(l1 l2 h1 h2:Int):Prop where
 whl:Whl fs
 one:OneS fs f0 s0 l1 l2 h1 h2
 cnt:bI (aI fs) l1 l2 h1 h2=1
 en:EndsG 250 l1 l2 h1 h2
inductive xw(C CN:Addr)(vs:List V)(H:Hp)(Q:VK)(E:XK):Prop
 |mk (a l h:Addr) (fs:List (List Int)) (f0 s0:List Int) (l1 l2 h1 h2:Int):vs=[.ref a,.ref l,.ref h]->H a=some (.lst ((prQ fs).map V.int))->RA C H l l1 l2->RA C H h h1 h2->OneW fs f0 s0 l1 l2 h1 h2->(∀(x q:Addr) (H':Hp),Same H H'->H x=none->NA CN H' x q l h->H' q=some (.lst ((ah f0).map V.int))->H q=none->Q (.ref x) H')->xw C CN vs H Q E
theorem Go(F:Fun K "number_in" "number_in" qY f fd)(T:Txt K mg)(R:RCI K mg C)(Nt:Cal P w K mg base 37 "least" ["row","low","high"] (xD C) O8 On)(jB:Cal P w K mg base 2 "sign_at" ["row","ratio"] (kW C) uF uv)(mY:Cal P w K mg base 6 "narrowed" ["row","low","high","width"] (nG C) A4 AW)(jE:MCal P w K mg base 4 C "minus" ["self","other"] (kX C) uI uA)(gT:MCal P w K mg base 4 C "times" ["self","other"] (jN C) o5 o3)(ci:KCal P w K mg base 2 C "Ratio" ["self","top","bottom"] (c9 C) dS dR dW [.int 1])(jG:KCal P w K mg base 1 CN "Number" ["self","row","low","high"] (iC CN) uJ uB uN []):FnOk P w K mg base CX0 38 f fd ["simple","low","high"] (xw C CN):=by
 obtain⟨MJ,Ii,Jn,LS⟩:=Nt;obtain⟨jv,iS,iZ,jm⟩:=jB;obtain⟨kI,j9,kd,kx⟩:=mY;obtain⟨iy,ie,iu⟩:=jE;obtain⟨fz,fi,fy⟩:=gT;obtain⟨bH,bF,bC,bX,cO,cM⟩:=ci;obtain⟨jz,jt,iW,jq,vv,uS⟩:=jG;refine F.ok sc_number_in (λvs H Q E h=>?_) (λcdv A outer s H vs Q E hr h=>?_)
 ·obtain⟨a,l,h,fs,f0,s0,l1,l2,h1,h2,rfl,_⟩:=h;rfl
 ·obtain⟨a,l,h,fs,f0,s0,l1,l2,h1,h2,rfl,hA,hl,hh,hN,k⟩:=h
  refine⟨_,(ag (ak (i:=3) sc_number_in.nd rfl (Or.inl rfl) (aq MJ (hr.mono) rfl Ii Jn LS .nil ai (aa (pv 0) (aa (pv 1) (aa (pv 2) ac)))))
   (ag (ak (i:=4) sc_number_in.nd rfl (Or.inl rfl) (db (aa (pv 1) (aa (pv 2) ac))))
   (ag (fc PassesOwn.never (aH cW (aq jv (hr.mono) rfl iS iZ jm .nil ai (aa (pv 3) (aa (aE (aM (K:=K) rfl) (pv 4) ad (λ_ _=>rfl)) ac))) ad (aG _))
     (ag (ak (i:=5) sc_number_in.nd rfl (Or.inl rfl) (c7 (c7 (aE (aM (K:=K) rfl) (pv 4) ad (λ_ _=>rfl)) R.cl ie iy (hr.mono) iu .nil ai (aa (aE (aM (K:=K) rfl) (pv 4) ad (λ_ _=>rfl)) ac)) R.cl fi fz (hr.mono) fy .nil ai (aa (b9 bF bH (hr.mono) rfl bC bX .nil ai (aa ad (aa ad ac))) ac)))
       (al (ak (i:=4) sc_number_in.nd rfl (Or.inl rfl) (aq kI (hr.mono) rfl j9 kd kx .nil ai (aa (pv 3) (aa (aE (aM (K:=K) rfl) (pv 4) ad (λ_ _=>rfl)) (aa (aE (aM (K:=K) rfl) (pv 4) ad (λ_ _=>rfl)) (aa (pv 5) ac)))))))))
   (al (aC (b9 jt jz (hr.mono) rfl iW jq .nil ai (aa (pv 3) (aa (aE (aM (K:=K) rfl) (pv 4) ad (λ_ _=>rfl)) (aa (aE (aM (K:=K) rfl) (pv 4) ad (λ_ _=>rfl)) ac))))))))),?_⟩
  obtain⟨bS,lS⟩:=iE (hN.one.fam.fac f0 hN.one.mem);refine av ⟨_,rfl,_,rfl,_,rfl,a,l,h,fs,f0,s0,l1,l2,h1,h2,rfl,hA,hl,hh,hN.whl,hN.one,hN.cnt,hN.en,λp H1 s1 hp e1=>?_⟩;refine av ⟨_,rfl,_,rfl,by show 2<=sizeLine;decide,λps hps=>?_⟩;have s2:=s1.then_new (o:=.tup [V.ref l,V.ref h]) hps;have q2:upd H1 ps (.tup [V.ref l,V.ref h]) ps=some (.tup [V.ref l,V.ref h]):=au;have e2:=(Same.upd_new (o:=.tup [V.ref l,V.ref h]) hps) _ _ e1;generalize upd H1 ps (.tup [V.ref l,V.ref h])=H2 at s2 q2 e2 ⊢
  refine⟨λm σ' H'=>m=0/\(∃z5:Option V,σ'=[some (.ref a),some (.ref l),some (.ref h),some (.ref p),some (.ref ps),z5])/\H2=H',⟨0,rfl,⟨none,rfl⟩,rfl⟩,?_⟩;rintro m σ' H' ⟨rfl,⟨z5,rfl⟩,rfl⟩;refine⟨_,rfl,_,rfl,ps,_,_,_,rfl,rfl,SqT.of q2,rfl,p,l,ah f0,l1,l2,⟨rfl,e2,hl.same s2,by omega,bS.mono,hN.en.bl1.mono,hN.en.bl2.mono⟩,λH3 s3=>⟨_,_,rfl,rfl,_,rfl,aP (λh0=>absurd h0 hN.one.low) (λ_=>?_)⟩⟩;have q3:=s3 _ _ q2;have e3:=s3 _ _ e2;have t3:=s2.trans s3;dsimp only
  refine bj ⟨_,rfl,_,rfl,ps,_,_,_,rfl,rfl,SqT.of q3,rfl,_,rfl,ps,_,_,_,rfl,rfl,SqT.of q3,rfl,oG e3 λx q H4 s4 hx hNA hq hqn=>?_⟩;exact k x q H4 (t3.trans s4) (t3.free hx) hNA hq (t3.free hqn)
inductive qb(C CN:Addr)(vs:List V)(H:Hp)(Q:VK)(E:XK):Prop
 |mk (a l h:Addr) (kp:List Int) (c:Int) (us:List (List Int×Nat)) (fs:List (List Int)) (f0 s0:List Int) (l1 l2 h1 h2:Int):vs=[.ref a,.ref l,.ref h]->H a=some (.lst (kp.map V.int))->RA C H l l1 l2->RA C H h h1 h2->Made kp c us->flt us=prQ fs->OneW fs f0 s0 l1 l2 h1 h2->(∀(x q:Addr) (H':Hp),Same H H'->H x=none->NA CN H' x q l h->H' q=some (.lst ((ah f0).map V.int))->H q=none->Q (.ref x) H')->qb C CN vs H Q E
theorem Gp(F:FunD K "number" "number" jR dV f fd)(T:Txt K mg)(R:RCI K mg C)(Nd:Cal P w K mg base 1 "refuse_high" ["height"] (λvs H Q _=>∃i:Int,vs=[.int i]/\i<=8/\Q .non H) OU N8)(eK:Cal P w K mg base 1 "degree" ["row"] gX km ki)(ci:KCal P w K mg base 2 C "Ratio" ["self","top","bottom"] (c9 C) dS dR dW [.int 1])(mZ:Cal P w K mg base 1 "bound" ["row"] (nJ K) A5 AX)(MX:Cal P w K mg base 36 "without_squares" ["row"] wU OJ NW)(Np:Cal P w K mg base 36 "many_within" ["simple","low","high"] (xy C) O5 Oj)(Nf:Cal P w K mg base 1 "refuse_great" ["row"] xl OV N9)(Nk:Cal P w K mg base 38 "number_in" ["simple","low","high"] (xw C CN) O0 Oe):FnOk P w K mg base CX0 39 f fd ["row","low","high"] (qb C CN):=by
 obtain⟨Mv,HU,Ja,LF⟩:=Nd;obtain⟨dA,dm,dq,dz⟩:=eK;obtain⟨bH,bF,bC,bX,cO,cM⟩:=ci;obtain⟨jy,iV,i8,jp⟩:=mZ;obtain⟨Ml,HI,IS,Ls⟩:=MX;obtain⟨MG,Ie,Jk,LP⟩:=Np;obtain⟨Mw,HV,Jb,LG⟩:=Nf;obtain⟨MB,HZ,Jf,LK⟩:=Nk;refine F.ok sc_number (λvs H Q E h=>?_) (λcdv A outer s H vs Q E hr h=>?_)
 ·obtain⟨a,l,h,kp,c,us,fs,f0,s0,l1,l2,h1,h2,rfl,_⟩:=h;rfl
 ·obtain⟨a,l,h,kp,c,us,fs,f0,s0,l1,l2,h1,h2,rfl,hA,hl,hh,hM,hfl,hN,k⟩:=h;have l9:=hM.len.1;have l2':=hM.one;have l7:=hN.whl.l7;have hml:(kp.map V.int).length=kp.length:=PC _
  refine⟨_,(ag (fe (aq Mv (hr.mono) rfl HU Ja LF .nil ai (aa (aq dA (hr.mono) rfl dm dq dz .nil ai (aa (pv 0) ac)) ac)))
   (ag (aR (aH dH (aq dA (hr.mono) rfl dm dq dz .nil ai (aa (pv 0) ac)) ad (aG _))
     (al iH)
     aU)
   (ag (ak (i:=3) sc_number.nd rfl (Or.inl rfl) (oo (aH y7 (pv 1) yZ (aG _)) (b9 bF bH (hr.mono) rfl bC cO cM ai (aa (bK bJ (aq jy (hr.mono) rfl iV i8 jp .nil ai (aa (pv 0) ac))) ac)) (pv 1)))
   (ag (ak (i:=4) sc_number.nd rfl (Or.inl rfl) (oo (aH y7 (pv 2) yZ (aG _)) (b9 bF bH (hr.mono) rfl bC cO cM ai (aa (aq jy (hr.mono) rfl iV i8 jp .nil ai (aa (pv 0) ac)) ac)) (pv 2)))
   (ag (ak (i:=5) sc_number.nd rfl (Or.inl rfl) (aq Ml (hr.mono) rfl HI IS Ls .nil ai (aa (pv 0) ac)))
   (ag (ak (i:=6) sc_number.nd rfl (Or.inl rfl) (aq MG (hr.mono) rfl Ie Jk LP .nil ai (aa (pv 5) (aa (pv 3) (aa (pv 4) ac)))))
   (ag (aR (aH f8 (pv 6) ad (aG _))
     (al iH)
     aU)
   (ag (fe (aq Mw (hr.mono) rfl HV Jb LG .nil ai (aa (pv 5) ac)))
   (al (aC (aq MB (hr.mono) rfl HZ Jf LK .nil ai (aa (pv 5) (aa (pv 3) (aa (pv 4) ac)))))))))))))),?_⟩
  refine gt ⟨_,rfl,a,_,rfl,hA,_,rfl,by rw[hml];omega,?_⟩;refine cs ⟨_,rfl,a,_,rfl,hA,_,_,rfl,rfl,_,rfl,aP (λh0=>absurd (show((kp.map V.int).length:Int)-1<1 from h0) (by rw[hml];omega)) (λ_=>?_)⟩;refine av ⟨_,rfl,rfl,_,rfl,?_⟩;rw[decide_eq_false (by simp)];refine f6 ⟨_,rfl,?_⟩;refine av ⟨_,rfl,rfl,_,rfl,?_⟩;rw[decide_eq_false (by simp)];refine f6 ⟨_,rfl,?_⟩;refine av ⟨_,rfl,a,kp,c,us,rfl,hA,hM,λpw H1 s1 hpw e1=>?_⟩;rw[hfl]at e1;refine av ⟨_,rfl,_,rfl,_,rfl,pw,l,h,fs,l1,l2,h1,h2,rfl,e1,hN.whl,hl.same s1,hh.same s1,hN.en,λH2 s2=>?_⟩;rw[hN.cnt];have e2:=s2 _ _ e1;have t2:=s1.trans s2;refine cs ⟨_,rfl,_,_,rfl,rfl,_,rfl,da (λh=>absurd rfl h) (λ_=>?_)⟩;refine gt ⟨_,rfl,pw,prQ fs,rfl,e2,by omega,hN.whl.bits.mono,λH3 s3=>?_⟩;have t3:=t2.trans s3;refine bj ⟨_,rfl,_,rfl,_,rfl,pw,l,h,fs,f0,s0,l1,l2,h1,h2,rfl,s3 _ _ e2,hl.same t3,hh.same t3,hN,λx q H4 s4 hx hNA hq hqn=>?_⟩;exact k x q H4 (t3.trans s4) (t3.free hx) hNA hq (t3.free hqn)
def NU(kb:Nat)(C CN:Addr)(H:Hp)(x:Addr)(ns:List Int)(l1 l2 h1 h2 ε:Int)(Up:Int->Int->Prop):Prop:=∃q l h,NA CN H x q l h/\H q=some (.lst (ns.map V.int))/\RA C H l l1 l2/\RA C H h h1 h2/\EndsG kb l1 l2 h1 h2/\RootU ns l1 l2 h1 h2 ε Up
theorem NU.same{kb:Nat}{C CN:Addr}{H H':Hp}{x:Addr}{ns:List Int}{l1 l2 h1 h2 ε:Int}{Up:Int->Int->Prop}(n:NU kb C CN H x ns l1 l2 h1 h2 ε Up)(s:Same H H'):NU kb C CN H' x ns l1 l2 h1 h2 ε Up:=let⟨q,l,h,a,e,c,d,en⟩:=n;⟨q,l,h,a.same s,s _ _ e,c.same s,d.same s,en⟩
theorem RootU.sub{ns:List Int}{l1 l2 h1 h2 ε:Int}{Up:Int->Int->Prop}(r:RootU ns l1 l2 h1 h2 ε Up)(l2p:0<l2)(h2p:0<h2){x1 x2 y1 y2:Int}(x2p:0<x2)(y2p:0<y2)(ux:Up x1 x2)(uy:¬Up y1 y2)(lo:l1*x2<=x1*l2)(hi:y1*h2<=h1*y2):RootU ns x1 x2 y1 y2 ε Up:=by
 have gl:∀z1 z2:Int,0<z2->x1*z2<z1*x2->l1*z2<z1*l2:=λz1 z2 hz h=>by
  refine ir x2p ?_;have h3:=P6 lo (PD hz);have h4:=Qv h l2p;have e1:l1*x2*z2=l1*z2*x2:=by grind
  have e2:x1*l2*z2=x1*z2*l2:=by grind
  have e3:z1*x2*l2=z1*l2*x2:=by grind
  omega
 have gh:∀z1 z2:Int,0<z2->z1*y2<=y1*z2->z1*h2<=h1*z2:=λz1 z2 hz h=>by
  refine jj y2p ?_;have h3:=P6 hi (PD hz);have h4:=P6 h (PD h2p);have e1:z1*y2*h2=z1*h2*y2:=by grind
  have e2:y1*z2*h2=y1*h2*z2:=by grind
  have e3:h1*y2*z2=h1*z2*y2:=by grind
  omega
 exact⟨r.e1,λz1 z2 hz h1 h2=>r.r1 z1 z2 hz (gl z1 z2 hz h1) (gh z1 z2 hz h2),λz1 z2 hz h1 h2=>r.r2 z1 z2 hz (gl z1 z2 hz h1) (gh z1 z2 hz h2),λz1 z2 w1 w2 hz hw h1 h2=>r.r3 z1 z2 w1 w2 hz hw (gl z1 z2 hz h1) (gh w1 w2 hw h2),r.sc,ux,uy⟩
structure Nrw(C CN:Addr)(H:Hp)(vs:List V)(x wd:Addr)(ns:List Int)(l1 l2 h1 h2 ε:Int)(Up:Int->Int->Prop)(w1 w2:Int)(kb kw:Nat):Prop where
 vs:vs=[.ref x,.ref wd]
 nu:NU kb C CN H x ns l1 l2 h1 h2 ε Up
 tr:Tr ns
 ne:ns≠[]
 len:ns.length<=12
 bits:AllB 1000 ns
 wd:RA C H wd w1 w2
 w1p:0<w1
 w2p:0<w2
 b1:Bits kw w1
 b2:Bits kw w2
 k1:kb<=1400
 k2:2*kb+kw<=3900
 k3:5*kb+kw<=8900
def xh(C CN:Addr):Sp:=λvs H Q _=>∃(x wd:Addr) (ns:List Int) (l1 l2 h1 h2 ε:Int) (Up:Int->Int->Prop) (w1 w2:Int) (kb kw:Nat),Nrw C CN H vs x wd ns l1 l2 h1 h2 ε Up w1 w2 kb kw /\
 ∀(p y z:Addr) (H':Hp) (n pl:Nat) (x1 x2 y1 y2:Int),Same H H'->H p=none->H' p=some (.tup [.ref y,.ref z])->RA C H' y x1 x2->RA C H' z y1 y2->NarP l1 l2 h1 h2 w1 w2 Up (5*kb+kw+4) n pl x1 x2 y1 y2->Q (.ref p) H'
theorem FV(F:Fun K "span_of" "span_of" qH f fd)(T:Txt K mg)(R:RCI K mg C)(RN:NCI K mg CN)(mY:Cal P w K mg base 6 "narrowed" ["row","low","high","width"] (nG C) A4 AW):FnOk P w K mg base CX0 7 f fd ["one","width"] (xh C CN):=by
 obtain⟨kI,j9,kd,kx⟩:=mY;refine F.ok DX (λvs H Q E h=>?_) (λcdv A outer s H vs Q E hr h=>?_)
 ·obtain⟨x,wd,ns,l1,l2,h1,h2,ε,Up,w1,w2,kb,kw,hn,_⟩:=h;rw[hn.vs];rfl
 ·obtain⟨x,wd,ns,l1,l2,h1,h2,ε,Up,w1,w2,kb,kw,⟨rfl,⟨q,l,h,⟨dx,hx⟩,hq,hl,hh,en,ru⟩,tr,ne,len,bs,hw,p1,p2,b1,b2,k1,k2,k3⟩,k⟩:=h;refine⟨_,(al (aC (aq kI (hr.mono) rfl j9 kd kx .nil ai (aa (aN (K:=K) rfl (pv 0) rfl) (aa (aN (K:=K) rfl (pv 0) rfl) (aa (aN (K:=K) rfl (pv 0) rfl) (aa (pv 1) ac))))))),?_⟩;exact bj ⟨_,rfl,x,CN,dx,_,_,rfl,hx,RN.cl,RN.nP,uo _ _ _,_,rfl,x,CN,dx,_,_,rfl,hx,RN.cl,RN.nL,AT _ _ _,_,rfl,x,CN,dx,_,_,rfl,hx,RN.cl,RN.nH,AU _ _ _,_,rfl,q,l,h,wd,ns,l1,l2,h1,h2,w1,w2,kb,kw,ε,Up,rfl,hq,tr,ne,len,bs,hl,hh,hw,en,p1,p2,b1,b2,k1,k2,k3,ru,k⟩
theorem Ev{fs pre post:List (List Int)}{s:List Int}{c l1 l2 h1 h2:Int}(hF:∀f∈fs,fC f)(hc:c≠0)(hsp:aI fs=pre++s::post)(l2p:0<l2)(h2p:0<h2)(lt:l1*h2<h1*l2)(hno:∀x∈pre++post,¬(0<ap x l1 l2/\ap x h1 h2<=0)) :
 ∃ε:Int,(ε=1\/ε = -1)/\∀x1 x2,0<x2->l1*x2<x1*l2->x1*h2<=h1*x2->sg (hv x1 x2 (af [c] (aQ [1] (fs.map ah)))) = -ε*ap s x1 x2:=by
 have hS:∀x∈aI fs,Spt x:=λx hx=>dD hF hx
 have ho:∀x∈pre++post,Spt x:=λx hx=>hS x (by rw[hsp];simp at hx ⊢;rcases hx with h |h<;>simp[h])
 have hu:=pQ (t:=h1) (n:=h2) (ls:=pre++post) λy hy=>(nO (ho y hy) l2p h2p h2p lt (hno y hy) lt (Qg _)).2
 have hsg:sg c=1\/sg c = -1:=by
  rcases QE hc with z |z
  ·right;unfold sg;rw[if_pos z]
  ·left;unfold sg;rw[if_neg (by omega),if_pos z]
 refine⟨sg c*spr h1 h2 (pre++post),?_,λx1 x2 x2p a b=>?_⟩
 ·rcases hsg with z |z<;>rcases hu with y |y<;>rw[z,y]<;>decide
 ·rw[lI x2p hF,hsp,jM];show sg c*(spr x1 x2 pre*(-ap s x1 x2*spr x1 x2 post))=_;have e:spr x1 x2 (pre++post)=spr h1 h2 (pre++post):=pR λy hy=>(nO (ho y hy) l2p h2p x2p lt (hno y hy) a b).1
  rw[<- e,jM];grind
structure NSg(kb:Nat)(C CN:Addr)(H:Hp)(x:Addr)(ns:List Int)(l1 l2 h1 h2 ε:Int)(s:List Int):Prop where
 nu:NU kb C CN H x ns l1 l2 h1 h2 ε (λt n=>0<ap s t n)
 spt:Spt s
 sgn:∀x1 x2,0<x2->l1*x2<x1*l2->x1*h2<=h1*x2->sg (hv x1 x2 ns) = -ε*ap s x1 x2
theorem NSg.same{kb:Nat}{C CN:Addr}{H H':Hp}{x:Addr}{ns:List Int}{l1 l2 h1 h2 ε:Int}{s:List Int}(n:NSg kb C CN H x ns l1 l2 h1 h2 ε s)(sm:Same H H'):NSg kb C CN H' x ns l1 l2 h1 h2 ε s:=⟨n.nu.same sm,n.spt,n.sgn⟩
theorem G1(F:Fun K "_law_cell_at" "_law_cell_at" rZ f fd)(T:Txt K mg):FnOk P w K mg base CX0 1 f fd ["_law_script","_law_k"] (jP K):=by
 refine F.ok Ee (λvs H Q E h=>?_) (λcdv A outer s H vs Q E hr h=>?_)
 ·obtain⟨a,ns,k,rfl,_⟩:=h;rfl
 ·obtain⟨a,ns,n,rfl,hS,k⟩:=h
  refine⟨_,(ag (aR (aH dH (pv 1) (bz (cY (K:=K) rfl) (by rfl) T.len_ PySem.boot_len (aa (pv 0) ac)) (aG _))
   (al (aC (aE (b5 (K:=K) rfl) (pv 0) (pv 1) (λ_ _=>rfl))))
   aU)
   (al (aC ad))),?_⟩
  refine⟨_,rfl,_,rfl,a,_,rfl,.inl hS,_,_,rfl,rfl,_,rfl,?_⟩;refine aP (λh1=>?_) (λh1=>?_)
  ·rw[PC]at h1;have h2:n<ns.length:=by omega
   refine⟨_,rfl,_,rfl,a,_,_,_,rfl,rfl,hS,kC (v:=.int (ns.getD n 0)) ?_,k⟩;rw[List.getElem?_map,List.getElem?_eq_getElem h2];simp[List.getD,h2]
  ·rw[PC]at h1;have h2:ns.length<=n:=by omega
   have e:ns.getD n 0=0:=by simp[List.getD,List.getElem?_eq_none_iff.mpr h2]
   rw[e]at k;exact k
def wW:Sp:=λvs H Q _=>∃i:Int,vs=[.int i]/\Q (.bl true) H
theorem GR(F:Fun K "_law_whole" "_law_whole" rP f fd)(T:Txt K mg):FnOk P w K mg base CX0 1 f fd ["_law_found"] wW:=by
 refine F.ok Ed (λvs H Q E h=>?_) (λcdv A outer s H vs Q E hr h=>?_)
 ·obtain⟨i,rfl,_⟩:=h;rfl
 ·obtain⟨i,rfl,k⟩:=h;refine⟨_,(al (aC (FB (bz (vb (K:=K) rfl) (by rfl) T.isinstance_ PyProof.Rows.boot_isinstance (aa (pv 0) (aa (sS (v:=.ty "int") (by rfl) T.int_ PyProof.Rows.boot_int (by rfl)) ac))) (Fv (Fw (bz (vb (K:=K) rfl) (by rfl) T.isinstance_ PyProof.Rows.boot_isinstance (aa (pv 0) (aa (sS (v:=.ty "bool") (by rfl) T.bool_ PyProof.Rows.boot_bool (by rfl)) ac)))))))),?_⟩;refine bj (EI (sF ⟨_,rfl,ud (.int i) (k:=true) (by rfl) ⟨_,rfl,yA ?_⟩⟩));refine EF (sF ⟨_,rfl,ud (.int i) (k:=false) (by rfl) ⟨_,rfl,?_⟩⟩);exact k
def WT(H:Hp)(p:Addr)(u v w d:Int):Prop:=H p=some (.tup [.int u,.int v,.int w,.int d])
structure WOk(u v w d:Int):Prop where
 bu:Bits 21 u
 bv:Bits 21 v
 w1:0<w
 w12:w<=12
 d2:2<=d
 d13:d<=13
 ns:NSq d
theorem WOk.bw{u v w d:Int}(h:WOk u v w d):Bits 4 w:=by show w.natAbs<2^4;have:=h.w1;have:=h.w12;omega
theorem WOk.bd{u v w d:Int}(h:WOk u v w d):Bits 4 d:=by show d.natAbs<2^4;have:=h.d2;have:=h.d13;omega
def qd:Sp:=λvs H Q _=>∃x y:Int,vs=[.int x,.int y]/\0<=x/\0<=y/\Q (.int (Nat.gcd x.natAbs y.natAbs:Nat)) H
theorem GZ(F:Fun K "_law_divisor" "_law_divisor" rY f fd)(T:Txt K mg):FnOk P w K mg base CX0 1 f fd ["_law_one","_law_other"] qd:=by
 refine F.ok sc__law_divisor (λvs H Q E h=>?_) (λcdv A outer s H vs Q E hr h=>?_)
 ·obtain⟨a,b,rfl,_⟩:=h;rfl
 ·obtain⟨a,b,rfl,ha,h0,k⟩:=h
  refine⟨_,(ag (fc PassesOwn.never (aH f8 (pv 1) ad (aG _))
   (ag (ak (i:=2) sc__law_divisor.nd rfl (Or.inl rfl) (aj cR (pv 0) (pv 1)))
     (ag (ak (i:=0) sc__law_divisor.nd rfl (Or.inl rfl) (pv 1))
     (al (ak (i:=1) sc__law_divisor.nd rfl (Or.inl rfl) (pv 2))))))
   (al (aC (pv 0)))),?_⟩
  refine⟨λm σ' H'=>∃(x y:Int) (z:Option V),σ'=[some (.int x),some (.int y),z]/\H=H'/\0<=x/\0<=y/\y.natAbs=m/\Nat.gcd x.natAbs y.natAbs=Nat.gcd a.natAbs b.natAbs,⟨_,_,_,none,rfl,rfl,ha,h0,rfl,rfl⟩,?_⟩;rintro m σ' H' ⟨x,y,z,rfl,rfl,hx,hy,rfl,hg⟩;refine⟨_,rfl,_,_,rfl,rfl,_,rfl,?_⟩;refine da (λhn=>?_) (λh0=>?_)
  ·have hp:0<y:=by have:y≠0:=hn;omega
   refine⟨λσ'' H''=>∃m',m'<y.natAbs/\∃(x' y':Int) (z:Option V),σ''=[some (.int x'),some (.int y'),z]/\H=H''/\0<=x'/\0<=y'/\y'.natAbs=m'/\Nat.gcd x'.natAbs y'.natAbs=Nat.gcd a.natAbs b.natAbs,λ_ _ h=>h,?_⟩;refine⟨_,rfl,_,rfl,_,_,rfl,rfl,hp,?_⟩;refine⟨_,rfl,?_⟩;refine⟨_,rfl,?_⟩;have h1:=R8 x (Qo hp);have h2:=RO x hp;exact⟨(x%y).natAbs,by omega,y,x%y,_,rfl,rfl,hy,h1,rfl,by rw[AG hx hp];exact hg⟩
  ·have e:(y:Int)=0:=h0;subst e;refine⟨_,rfl,?_⟩
   have e2:(x:Int)=((Nat.gcd a.natAbs b.natAbs:Nat):Int):=by rw[<- hg];show x=((Nat.gcd x.natAbs 0:Nat):Int);rw[Nat.gcd_zero_right];omega
   rw[e2];exact k
inductive xo(vs:List V)(H:Hp)(Q:VK)(E:XK):Prop
 |mk (a:Addr) (ns:List Int):vs=[.ref a]->H a=some (.lst (ns.map V.int))->Tr ns->ns≠[]->0<ao ns->ns.length<=100->AllB 8000 ns->mkL H Q (aw ns)->xo vs H Q E
theorem lQ{ns:List Int}(hT:Tr ns)(hne:ns≠[])(hp:0<ao ns):0<(aA ns:Int)/\aw ns=ar ns:=by
 have hs:=shr_scale (l:=ns)
 have hlast:ao ns=(aA ns:Int)*ao (ar ns):=by have h5:cf (scL (aA ns:Int) (ar ns)) (ns.length-1)=(aA ns:Int)*cf (ar ns) (ns.length-1):=bQ _ _ _;rw[hs]at h5;have h6:(ar ns).length=ns.length:=PC _;unfold ao;rw[h6];exact h5
 have g0:(0:Int)<=(aA ns:Int):=by omega
 have gp:0<(aA ns:Int):=by
  refine Classical.byContradiction λz=>?_
  have:(aA ns:Int)=0:=by omega
  rw[this,Qp]at hlast;omega
 refine⟨gp,?_⟩;unfold aw cz;rw[if_neg (λz=>?_)];have:=RY gp z;omega
theorem GV(F:Fun K "_law_plain" "_law_plain" rT f fd)(T:Txt K mg)(vX:Cal P w K mg base 1 "_law_divisor" ["_law_one","_law_other"] qd KC Kl):FnOk P w K mg base CX0 2 f fd ["_law_row"] xo:=by
 obtain⟨pF,oJ,oS,pB⟩:=vX;refine F.ok sc__law_plain (λvs H Q E h=>?_) (λcdv A outer s H vs Q E hr h=>?_)
 ·obtain⟨a,ns,rfl,_⟩:=h;rfl
 ·obtain⟨a,ns,rfl,hA,hT,hne,hp,hl,hb,k⟩:=h;have big:=sizeLine_eq;have hS:=SqL.of (K:=K) hA
  refine⟨_,(ag (ak (i:=1) sc__law_plain.nd rfl (Or.inr rfl) ad)
   (ag (cV PassesOwn.never rfl (fH (K:=K) rfl (pv 0)) (aS (i:=2) sc__law_plain.nd rfl (Or.inl rfl))
     (al (ak (i:=1) sc__law_plain.nd rfl (Or.inr rfl) (aq pF (hr.mono) rfl oJ oS pB .nil ai (aa (pv 1) (aa (bz fv (by rfl) T.abs_ PyProof.Rows.boot_abs (aa (pv 2) ac)) ac))))))
   (ag (aR (aH dH (aE (b5 (K:=K) rfl) (pv 0) (bK bJ ad) (λ_ _=>rfl)) ad (aG _))
     (al (ak (i:=1) sc__law_plain.nd rfl (Or.inr rfl) (bK bJ (pv 1))))
     aU)
   (al (aC (fI (own:=["_law_one"]) (fr:=["_law_by"]) (js:=[1]) (by walk_at "comp_ok") rfl (fH (K:=K) rfl (pv 0)) (λ_ _ _ _=>(aS (i:=0) (show List.Nodup (["_law_one","_law_by"]:List Str)from by decide +kernel) rfl (Or.inl rfl))) (λ_ _ _ _=>(aj cS (pv 0) (pv 1))))))))),?_⟩
  refine av ?_;refine⟨_,rfl,a,rfl,⟨_,hS⟩,o1 (K:=K) (a:=a) (xs:=ns.map V.int) (λi σ' H'=>∃z:Option V,σ'=[some (.ref a),some (.int (aA (ns.take i):Nat)),z]/\H=H') ⟨none,rfl,rfl⟩ (λi σ' H' _ ⟨z,_,e⟩=>by rw[<- e];exact hS) ?_ ?_⟩
  ·rintro i y σ' H' hi ⟨z,rfl,rfl⟩;obtain⟨n,en,rfl,_,_⟩:=fO hi;refine cD ⟨_,rfl,_,rfl,_,rfl,_,_,rfl,by omega,by split<;>omega,?_⟩;have e3:ns.take (i+1)=ns.take i++[n]:=by rw[QI,en];rfl
   refine⟨some (.int n),?_,rfl⟩;have e4:(if n<0 then -n else n).natAbs=n.natAbs:=by split<;>omega
   rw[e3,AH,Qq,e4];rfl
  ·rintro σ' H' ⟨z,rfl,rfl⟩;rw[PC,QU];dsimp only
   obtain⟨gp,ep⟩:=lQ hT hne hp;refine cs ⟨_,rfl,_,rfl,a,_,_,_,rfl,rfl,hS,mq hne,_,_,rfl,rfl,_,rfl,aP (λz=>absurd (show ao ns<0 from z) (by omega)) (λ_=>?_)⟩
   have bg:Bits 9000 (aA ns:Int):=by
    obtain⟨x,hx,hx0⟩:∃x∈ns,x≠0:=by obtain⟨r,x,e⟩:=(cZ ns).resolve_left hne;refine⟨x,by rw[e];simp,λz=>?_⟩;rw[e,dM,z]at hp;exact absurd hp (by decide)
    have hd:=i9 hx;exact((hb x hx).mono (show 8000<=9000 by decide)).of_le (Nat.le_of_dvd (by omega) (RB.mpr hd))
   refine bj ⟨_,rfl,a,rfl,⟨_,hS⟩,jh (K:=K) (a:=a) (xs:=ns.map V.int) (λi ys σ' H'=>∃z0:Option V,σ'=[z0,some (.int (aA ns:Nat))]/\ys=((ns.take i).map λx=>x/(aA ns:Int)).map V.int/\H=H') (by rw[PC];omega) ⟨none,rfl,rfl,rfl⟩ ?_ ?_ ?_⟩
   ·rintro i ys σ' H' _ ⟨z0,rfl,rfl,rfl⟩;exact⟨hS,by rw[PC,PC,QB];exact RP _ _⟩
   ·rintro i x ys σ' H' hi ⟨z0,rfl,rfl,rfl⟩;obtain⟨c,ec,rfl,hc,_⟩:=fO hi;refine⟨_,rfl,_,rfl,_,_,rfl,rfl,⟨gp,bg⟩,?_⟩;refine⟨_,rfl,?_,rfl⟩;rw[QI,ec];simp only[Option.toList_some,Qk,QG,List.map_nil]
   ·rintro ys σ' H' q ⟨z0,rfl,rfl,rfl⟩ hq;refine k q _ (Same.upd_new hq) hq ?_;rw[au,PC,QU,ep];rfl
theorem pM{a b c:Int}(h:c≠0):Tr [a,b,c]:=(tr_snoc (r:=[a,b])).mpr h
theorem kP{a b:Int}(h:b≠0):Tr [a,b]:=(tr_snoc (r:=[a])).mpr h
noncomputable def cF(u v w d:Int):List Int:=if v=0 then aw [-u,w]else aw [u*u-d*v*v,-2*u*w,w*w]
noncomputable def UpW(u v w d:Int):Int->Int->Prop:=λx1 x2=>0<sgq (u*x2-x1*w) (v*x2) d
noncomputable def cE(u v d m:Int):Int:=if 0<v then u else if v<0 then u+v*d-m else u-1-m
noncomputable def cK(u v d m:Int):Int:=if 0<v then u+v*d+m else if v<0 then u else u+m/3
structure SpE(u v w d m l1 l2 h1 h2:Int):Prop where
 l2p:0<l2
 h2p:0<h2
 bl1:Bits 40 l1
 bl2:Bits 40 l2
 bh1:Bits 40 h1
 bh2:Bits 40 h2
 gl:Nat.gcd l1.natAbs l2.natAbs=1
 gh:Nat.gcd h1.natAbs h2.natAbs=1
 el:l1*w=cE u v d m*l2
 eh:h1*w=cK u v d m*h2
theorem wN{v d m:Int}(hv:0<v)(hd:2<=d)(hm:0<=m):d*v*v<(v*d+m)*(v*d+m):=by
 have h1:0<v*v:=PB hv hv
 have h2:d*(v*v)<d*(d*(v*v)):=by have:1*(d*(v*v))<d*(d*(v*v)):=Qv (by omega) (PB (by omega) h1);omega
 have h3:0<=v*d:=P5 (by omega) (by omega)
 have h4:v*d*(v*d)<=(v*d+m)*(v*d+m):=by
  have:=P5 h3 hm;have:=P5 hm hm;have e:(v*d+m)*(v*d+m)=v*d*(v*d)+(v*d*m)+(v*d*m)+m*m:=by grind
  omega
 have e1:d*v*v=d*(v*v):=by grind
 have e2:v*d*(v*d)=d*(d*(v*v)):=by grind
 omega
theorem v4{u v w d m l1 l2 h1 h2:Int}(hW:WOk u v w d)(hm0:0<=m)(hm:m<60)(hE:SpE u v w d m l1 l2 h1 h2):EndsG 40 l1 l2 h1 h2/\(0<v->u*l2<=l1*w)/\(v<0->h1*w<=u*h2)/\UpW u v w d l1 l2/\¬UpW u v w d h1 h2:=by
 have hw:=hW.w1;have hd2:=hW.d2;obtain⟨l2p,h2p,bl1,bl2,bh1,bh2,gl,gh,el,eh⟩:=hE;have Al:u*l2-l1*w=(u-cE u v d m)*l2:=by rw[el];grind
 have Ah:u*h2-h1*w=(u-cK u v d m)*h2:=by rw[eh];grind
 have lo_sg:sgq (u*l2-l1*w) (v*l2) d=sgq (u-cE u v d m) v d:=by rw[Al,P9 _ l2,P9 v l2,jQ l2p]
 have hi_sg:sgq (u*h2-h1*w) (v*h2) d=sgq (u-cK u v d m) v d:=by rw[Ah,P9 _ h2,P9 v h2,jQ h2p]
 have lt_N:cE u v d m<cK u v d m:=by
  unfold cE cK;rcases R3 v 0 with z |z |z
  ·rw[if_neg (show ¬0<v by omega),if_pos z,if_neg (show ¬0<v by omega),if_pos z];have:v*d<0:=RD z (by omega);omega
  ·subst z;rw[if_neg (by decide),if_neg (by decide),if_neg (by decide),if_neg (by decide)];omega
  ·rw[if_pos z,if_pos z];have:0<v*d:=PB z (by omega);omega
 have lt:l1*h2<h1*l2:=by
  refine ir hw ?_;have e1:l1*h2*w=cE u v d m*(l2*h2):=by rw[show l1*h2*w=l1*w*h2 by grind,el];grind
  have e2:h1*l2*w=cK u v d m*(l2*h2):=by rw[show h1*l2*w=h1*w*l2 by grind,eh];grind
  rw[e1,e2];exact Qv lt_N (PB l2p h2p)
 have en:EndsG 40 l1 l2 h1 h2:=⟨l2p,h2p,bl1,bl2,bh1,bh2,lt,gl,gh⟩;refine⟨en,λhv=>?_,λhv=>?_,?_⟩
 ·have:cE u v d m=u:=by unfold cE;rw[if_pos hv]
  rw[el,this];exact Qg _
 ·have:cK u v d m=u:=by unfold cK;rw[if_neg (by omega),if_pos hv]
  rw[eh,this];exact Qg _
 rcases R3 v 0 with vn |vn |vn
 ·have eL:cE u v d m=u+v*d-m:=by unfold cE;rw[if_neg (by omega),if_pos vn]
  have eH:cK u v d m=u:=by unfold cK;rw[if_neg (by omega),if_pos vn]
  have nv:0 < -v:=by omega
  have vd:v*d<0:=RD vn (by omega);have sqm:=wN nv hd2 hm0
  have lo1:sgq (u-cE u v d m) v d=1:=by
   rw[eL,fY (by omega) vn];have q1:(u-(u+v*d-m))*(u-(u+v*d-m))=(-v*d+m)*(-v*d+m):=by grind
   have q2:d * -v * -v=d*v*v:=by grind
   rw[q2]at sqm;rw[q1,if_neg (by omega)]
  have hi1:sgq (u-cK u v d m) v d = -1:=by rw[eH,Int.sub_self];exact eQ (Qg _) (by omega) (.inr vn)
  exact⟨by show 0<sgq _ _ _;rw[lo_sg,lo1];decide,by show ¬0<sgq _ _ _;rw[hi_sg,hi1];decide⟩
 ·subst vn;have eL:cE u 0 d m=u-1-m:=by unfold cE;rw[if_neg (by decide),if_neg (by decide)]
  have eH:cK u 0 d m=u+m/3:=by unfold cK;rw[if_neg (by decide),if_neg (by decide)]
  refine⟨?_,?_⟩
  ·show 0<sgq _ _ _;rw[lo_sg,eL,dY (by omega) (Qg _) (.inl (by omega))];decide
  ·show ¬0<sgq _ _ _;rw[hi_sg,eH];rcases RK (show u-(u+m/3)<=0 by omega)with z |z
   ·rw[eQ (by omega) (Qg _) (.inl z)];decide
   ·rw[z,li];decide
 ·have eL:cE u v d m=u:=by unfold cE;rw[if_pos vn]
  have eH:cK u v d m=u+v*d+m:=by unfold cK;rw[if_pos vn]
  have vd:0<v*d:=PB vn (by omega);have sqm:=wN vn hd2 hm0;have lo1:sgq (u-cE u v d m) v d=1:=by rw[eL,Int.sub_self];exact dY (Qg _) (by omega) (.inr vn)
  have hi1:sgq (u-cK u v d m) v d = -1:=by
   rw[eH,fZ (by omega) vn];have q1:(u-(u+v*d+m))*(u-(u+v*d+m))=(v*d+m)*(v*d+m):=by grind
   rw[q1,if_pos (by omega)]
  exact⟨by show 0<sgq _ _ _;rw[lo_sg,lo1];decide,by show ¬0<sgq _ _ _;rw[hi_sg,hi1];decide⟩
inductive qc(vs:List V)(H:Hp)(Q:VK)(E:XK):Prop
 |mk (p:Addr) (u v w d:Int):vs=[.ref p]->WT H p u v w d->WOk u v w d->mkL H Q (cF u v w d)->qc vs H Q E
theorem GX(F:Fun K "_law_least" "_law_least" rW f fd)(T:Txt K mg)(NJ:Cal P w K mg base 2 "_law_plain" ["_law_row"] xo Pp OD):FnOk P w K mg base CX0 3 f fd ["_law_worth_here"] qc:=by
 obtain⟨Cj,zR,Aj,B4⟩:=NJ;refine F.ok sc__law_least (λvs H Q E h=>?_) (λcdv A outer s H vs Q E hr h=>?_)
 ·obtain⟨p,u,v,w,d,rfl,_⟩:=h;rfl
 ·obtain⟨p,u,v,w,d,rfl,hp,hW,k⟩:=h;have hw:=hW.w1
  refine⟨_,(ag (gw (pv 0) (gA rfl (cu (aS (i:=1) sc__law_least.nd rfl (Or.inl rfl)) (cu (aS (i:=2) sc__law_least.nd rfl (Or.inl rfl)) (cu (aS (i:=3) sc__law_least.nd rfl (Or.inl rfl)) (cu (aS (i:=4) sc__law_least.nd rfl (Or.inl rfl)) gz))))))
   (ag (aR (aH cW (pv 2) ad (aG _))
     (al (aC (aq Cj (hr.mono) rfl zR Aj B4 .nil ai (aa (aX (aa (bK bJ (pv 1)) (aa (pv 3) ac))) ac))))
     aU)
   (al (aC (aq Cj (hr.mono) rfl zR Aj B4 .nil ai (aa (aX (aa (aj cq (aj aK (pv 1) (pv 1)) (aj aK (aj aK (pv 4) (pv 2)) (pv 2))) (aa (aj aK (aj aK (bK bJ ad) (pv 1)) (pv 3)) (aa (aj aK (pv 3) (pv 3)) ac)))) ac)))))),?_⟩
  refine⟨_,rfl,p,_,rfl,SqT.of hp,rfl,_,_,rfl,_,_,rfl,_,_,rfl,_,_,rfl,rfl,?_⟩;dsimp only
  refine dZ (λσ' H'=>σ'=[some (.ref p),some (.int u),some (.int v),some (.int w),some (.int d)]/\H=H') ⟨rfl,rfl⟩ ?_;rintro σ' H' ⟨rfl,rfl⟩;refine cs ⟨_,rfl,_,_,rfl,rfl,_,rfl,aP (λh0=>?_) (λh0=>?_)⟩
  ·have h0':v=0:=h0;refine bj ⟨_,rfl,_,rfl,_,rfl,by show 2<=sizeLine;decide,λq hq=>?_⟩;have s1:Same H (upd H q (.lst [V.int (-u),V.int w])):=Same.upd_new hq;refine⟨q,[-u,w],rfl,au,kP (by omega),by simp,hw,by show 2<=100;decide,λx hx=>?_,λy H' s' hy e=>?_⟩
   ·simp only[PM,QJ,or_false]at hx;rcases hx with rfl |rfl
    ·exact hW.bu.neg.mono
    ·exact hW.bw.mono
   ·refine k y H' (s1.trans s') (s1.free hy) ?_;unfold cF;rw[if_pos h0'];exact e
  ·have h0':¬v=0:=h0;have b2:Bits 1000000 (-2:Int):=Bits.mono (j:=2) (by show(-2:Int).natAbs<2^2;decide) (by decide);have bdv:Bits 30 (d*v):=(hW.bd.mul hW.bv).mono
   have b2u:Bits 30 (-2*u):=by
    have:Bits 2 (-2:Int):=by show(-2:Int).natAbs<2^2;decide
    exact(this.mul hW.bu).mono
   have ww:0<w*w:=PB hw hw;refine bj ⟨_,rfl,_,rfl,_,_,rfl,rfl,⟨hW.bu.mono,hW.bu.mono⟩,_,rfl,_,rfl,_,_,rfl,rfl,⟨hW.bd.mono,hW.bv.mono⟩,_,rfl,_,_,rfl,rfl,⟨bdv.mono,hW.bv.mono⟩,_,_,rfl,rfl,?_⟩;refine⟨_,rfl,_,rfl,_,_,rfl,rfl,⟨b2,hW.bu.mono⟩,_,rfl,_,_,rfl,rfl,⟨b2u.mono,hW.bw.mono⟩,?_⟩;refine⟨_,rfl,_,rfl,_,_,rfl,rfl,⟨hW.bw.mono,hW.bw.mono⟩,by show 3<=sizeLine;decide,λq hq=>?_⟩;have s1:Same H (upd H q (.lst [V.int (u*u-d*v*v),V.int (-2*u*w),V.int (w*w)])):=Same.upd_new hq;refine⟨q,[u*u-d*v*v,-2*u*w,w*w],rfl,au,pM (by omega),by simp,ww,by show 3<=100;decide,λx hx=>?_,λy H' s' hy e=>?_⟩
   ·simp only[PM,QJ,or_false]at hx;rcases hx with rfl |rfl |rfl
    ·exact Bits.mono (Bits.sub (k:=60) ((hW.bu.mul hW.bu).mono) ((bdv.mul hW.bv).mono)) (by decide)
    ·exact(b2u.mul hW.bw).mono
    ·exact(hW.bw.mul hW.bw).mono
   ·refine k y H' (s1.trans s') (s1.free hy) ?_;unfold cF;rw[if_neg h0'];exact e
theorem iQ{x m:Int}(h:0<m):0<=x%m/\x%m<m:=⟨R8 _ (Qo h),RO _ h⟩
theorem eO{k:Int}(h0:0<=k)(h:k<2^12):Bits 9000 k:=Bits.mono (j:=12) (by show k.natAbs<2^12;omega) (by decide)
def xP:Sp:=λvs H Q _=>∃c:Int,vs=[.int c]/\∀z:Int,Bits 21 z->Q (.int z) H
theorem G2(F:Fun K "_law_amount" "_law_amount" r8 f fd)(T:Txt K mg):FnOk P w K mg base CX0 1 f fd ["_law_cell"] xP:=by
 refine F.ok Ef (λvs H Q E h=>?_) (λcdv A outer s H vs Q E hr h=>?_)
 ·obtain⟨c,rfl,_⟩:=h;rfl
 ·obtain⟨c,rfl,k⟩:=h
  refine⟨_,(ag (aR (aH cW (aj cR (pv 0) ad) ad (aG _))
   (al (aC (aj cq (aj cR (aj cS (pv 0) ad) (aj aY (aj aK ad (aj ot ad ad)) ad)) (aj ot ad ad))))
   aU)
   (al (aC (aj cq (aj cR (aj cS (pv 0) ad) ad) ad)))),?_⟩
  refine cs ⟨_,rfl,_,_,rfl,rfl,(by show(0:Int)<4;decide),_,_,rfl,rfl,_,rfl,aP (λ_=>?_) (λ_=>?_)⟩
  ·have b6:Bits 1000000 ((10:Int)^6):=Bits.mono (j:=21) (by show((10:Int)^6).natAbs<2^21;decide) (by decide);refine bj ⟨_,rfl,_,_,rfl,rfl,⟨by show(0:Int)<4;decide,eO (by decide) (by decide)⟩,_,_,rfl,rfl,⟨by decide,by decide,by decide⟩,_,_,rfl,rfl,⟨kM,b6⟩,_,_,rfl,rfl,_,_,rfl,rfl,(by show(0:Int)<2*10^6+1;decide),_,_,rfl,rfl,⟨by decide,by decide,by decide⟩,_,_,rfl,rfl,k _ ?_⟩;obtain⟨m0,m1⟩:=iQ (x:=c/4) (m:=2*10^6+1) (by decide);show(c/4%(2*10^6+1)-10^6).natAbs<2^21;omega
  ·refine bj ⟨_,rfl,_,_,rfl,rfl,⟨by show(0:Int)<4;decide,eO (by decide) (by decide)⟩,_,_,rfl,rfl,(by show(0:Int)<21;decide),_,_,rfl,rfl,k _ ?_⟩;obtain⟨m0,m1⟩:=iQ (x:=c/4) (m:=21) (by decide);show(c/4%21-10).natAbs<2^21;omega
def wV(K:PySem.W.Frag):Sp:=λvs H Q _=>∃(a:Addr) (ns:List Int),vs=[.ref a,.int 0]/\SqL K H a (ns.map V.int)/\∀(p:Addr) (H':Hp) (u v w d:Int),Same H H'->H p=none->WT H' p u v w d->WOk u v w d->Q (.ref p) H'
theorem Ey{v:V}(h:v∈[V.int 2,V.int 3,V.int 5,V.int 6,V.int 7,V.int 10,V.int 11,V.int 13]):∃d:Int,v=.int d/\2<=d/\d<=13/\NSq d:=by
 simp only[PM,QJ,or_false]at h;rcases h with rfl |rfl |rfl |rfl |rfl |rfl |rfl |rfl
 ·exact⟨_,rfl,by decide,by decide,hI (n:=1) (d:=2) (by decide) (by decide)⟩
 ·exact⟨_,rfl,by decide,by decide,hI (n:=1) (d:=3) (by decide) (by decide)⟩
 ·exact⟨_,rfl,by decide,by decide,hI (n:=2) (d:=5) (by decide) (by decide)⟩
 ·exact⟨_,rfl,by decide,by decide,hI (n:=2) (d:=6) (by decide) (by decide)⟩
 ·exact⟨_,rfl,by decide,by decide,hI (n:=2) (d:=7) (by decide) (by decide)⟩
 ·exact⟨_,rfl,by decide,by decide,hI (n:=3) (d:=10) (by decide) (by decide)⟩
 ·exact⟨_,rfl,by decide,by decide,hI (n:=3) (d:=11) (by decide) (by decide)⟩
 ·exact⟨_,rfl,by decide,by decide,hI (n:=3) (d:=13) (by decide) (by decide)⟩
theorem GQ(F:Fun K "_law_worth" "_law_worth" rO f fd)(T:Txt K mg)(NN:Cal P w K mg base 1 "_law_amount" ["_law_cell"] xP Pt OG)(vY:Cal P w K mg base 1 "_law_cell_at" ["_law_script","_law_k"] (jP K) KD Km):FnOk P w K mg base CX0 2 f fd ["_law_script","_law_k"] (wV K):=by
 obtain⟨Cl,zT,Am,B6⟩:=NN;obtain⟨gR,gF,gJ,gQ⟩:=vY;refine F.ok sc__law_worth (λvs H Q E h=>?_) (λcdv A outer s H vs Q E hr h=>?_)
 ·obtain⟨a,ns,rfl,_⟩:=h;rfl
 ·obtain⟨a,ns,rfl,hS,k⟩:=h
  refine⟨_,(ag (ak (i:=2) sc__law_worth.nd rfl (Or.inl rfl) (aj aK (aq Cl (hr.mono) rfl zT Am B6 .nil ai (aa (aq gR (hr.mono) rfl gF gJ gQ .nil ai (aa (pv 0) (aa (aj aY (pv 1) ad) ac))) ac)) (oq Lo (by rfl) T.int_ PyProof.Rows.boot_int (aa (sR fJ (aj cR (aq gR (hr.mono) rfl gF gJ gQ .nil ai (aa (pv 0) (aa (aj aY (pv 1) ad) ac))) ad) ad (aG _)) ac))))
   (ag (ak (i:=3) sc__law_worth.nd rfl (Or.inl rfl) (aq gR (hr.mono) rfl gF gJ gQ .nil ai (aa (pv 0) (aa (aj aY (pv 1) ad) ac))))
   (al (aC (db (aa (aq Cl (hr.mono) rfl zT Am B6 .nil ai (aa (aq gR (hr.mono) rfl gF gJ gQ .nil ai (aa (pv 0) (aa (pv 1) ac))) ac)) (aa (pv 2) (aa (aj aY ad (aj cR (aj cS (pv 3) ad) ad)) (aa (aE (b5 (K:=K) rfl) (aX (aa ad (aa ad (aa ad (aa ad (aa ad (aa ad (aa ad (aa ad ac))))))))) (aj cR (pv 3) ad) (λ_ _=>rfl)) ac))))))))),?_⟩
  refine av ⟨_,rfl,_,rfl,_,_,rfl,rfl,a,ns,1,rfl,hS,_,rfl,λz hz=>?_⟩;have b1:Bits 1000000 (if decide (ns.getD 1 0%5>0)=true then(1:Int)else 0):=by split;exact FK;exact Bits.zero
  refine⟨_,rfl,_,rfl,_,_,rfl,rfl,a,ns,1,rfl,hS,_,_,rfl,rfl,(by show(0:Int)<5;decide),_,_,rfl,rfl,.inr ⟨_,rfl,_,_,rfl,rfl,⟨hz.mono,b1⟩,?_⟩⟩
  have bv:Bits 21 (z*(if decide (ns.getD 1 0%5>0)=true then(1:Int)else 0)):=by
   split
   ·rw[P8];exact hz
   ·rw[Qd];exact Bits.zero
  show cI _ _ _ _ _;generalize z*(if decide (ns.getD 1 0%5>0)=true then(1:Int)else 0)=v at bv
  refine dZ (λσ' H'=>∃v:Int,σ'=[some (.ref a),some (.int 0),some (.int v),none]/\H=H'/\Bits 21 v) ⟨_,rfl,rfl,?_⟩ ?_
  ·split
   ·rw[P8];exact hz
   ·rw[Qd];exact Bits.zero
  rintro σ' H' ⟨v,rfl,rfl,bv⟩;refine av ⟨_,rfl,_,rfl,_,_,rfl,rfl,a,ns,2,rfl,hS,?_⟩;refine bj ⟨_,rfl,_,rfl,a,ns,0,rfl,hS,_,rfl,λu bu=>?_⟩;refine⟨_,rfl,_,rfl,_,_,rfl,rfl,⟨by show(0:Int)<8;decide,eO (by decide) (by decide)⟩,_,_,rfl,rfl,(by show(0:Int)<12;decide),_,_,rfl,rfl,by show 8<=sizeLine;decide,λp hp=>?_⟩;obtain⟨x,hx,ex⟩:=B8 (xs:=[V.int 2,V.int 3,V.int 5,V.int 6,V.int 7,V.int 10,V.int 11,V.int 13]) (n:=8) rfl (by decide) (ns.getD 2 0);obtain⟨d,rfl,hd2,hd13,hns⟩:=Ey hx;have s1:Same H (upd H p (.lst [V.int 2,V.int 3,V.int 5,V.int 6,V.int 7,V.int 10,V.int 11,V.int 13])):=Same.upd_new hp;refine⟨_,rfl,_,_,rfl,rfl,(by show(0:Int)<8;decide),p,_,_,_,rfl,rfl,SqL.of au,ex,by show 4<=sizeLine;decide,λq hq=>?_⟩;obtain⟨m0,m1⟩:=iQ (x:=ns.getD 2 0/8) (m:=12) (by decide);exact k q _ u v _ d (s1.then_new hq) (s1.free hq) au ⟨bu,bv,by omega,by omega,hd2,hd13,hns⟩
inductive xg(C:Addr)(vs:List V)(H:Hp)(Q:VK)(E:XK):Prop
 |mk (p:Addr) (u v w d m:Int):vs=[.ref p,.int m]->WT H p u v w d->WOk u v w d->0<=m->m<60->(∀(t l h:Addr) (H':Hp) (l1 l2 h1 h2:Int),Same H H'->H t=none->H' t=some (.tup [.ref l,.ref h])->RA C H' l l1 l2->RA C H' h h1 h2->SpE u v w d m l1 l2 h1 h2->Q (.ref t) H')->xg C vs H Q E
theorem GT(F:Fun K "_law_span" "_law_span" rR f fd)(T:Txt K mg)(R:RCI K mg C)(ci:KCal P w K mg base 2 C "Ratio" ["self","top","bottom"] (c9 C) dS dR dW [.int 1]):FnOk P w K mg base CX0 4 f fd ["_law_worth_here","_law_more"] (xg C):=by
 obtain⟨bH,bF,bC,bX,cO,cM⟩:=ci;refine F.ok sc__law_span (λvs H Q E h=>?_) (λcdv A outer s H vs Q E hr h=>?_)
 ·obtain⟨p,u,v,w,d,m,rfl,_⟩:=h;rfl
 ·obtain⟨p,u,v,w,d,m,rfl,hp,hW,hm0,hm,k⟩:=h;have hw:=hW.w1;have w0:w≠0:=by omega
  refine⟨_,(ag (gw (pv 0) (gA rfl (cu (aS (i:=2) sc__law_span.nd rfl (Or.inl rfl)) (cu (aS (i:=3) sc__law_span.nd rfl (Or.inl rfl)) (cu (aS (i:=4) sc__law_span.nd rfl (Or.inl rfl)) (cu (aS (i:=5) sc__law_span.nd rfl (Or.inl rfl)) gz))))))
   (ag (aR (aH fJ (pv 3) ad (aG _))
     (al (aC (db (aa (b9 bF bH (hr.mono) rfl bC bX .nil ai (aa (pv 2) (aa (pv 4) ac))) (aa (b9 bF bH (hr.mono) rfl bC bX .nil ai (aa (aj aY (aj aY (pv 2) (aj aK (pv 3) (pv 5))) (pv 1)) (aa (pv 4) ac))) ac)))))
     aU)
   (ag (aR (aH dH (pv 3) ad (aG _))
     (al (aC (db (aa (b9 bF bH (hr.mono) rfl bC bX .nil ai (aa (aj cq (aj aY (pv 2) (aj aK (pv 3) (pv 5))) (pv 1)) (aa (pv 4) ac))) (aa (b9 bF bH (hr.mono) rfl bC bX .nil ai (aa (pv 2) (aa (pv 4) ac))) ac)))))
     aU)
   (al (aC (db (aa (b9 bF bH (hr.mono) rfl bC bX .nil ai (aa (aj cq (aj cq (pv 2) ad) (pv 1)) (aa (pv 4) ac))) (aa (b9 bF bH (hr.mono) rfl bC bX .nil ai (aa (aj aY (pv 2) (aj cS (pv 1) ad)) (aa (pv 4) ac))) ac)))))))),?_⟩
  refine⟨_,rfl,p,_,rfl,SqT.of hp,rfl,_,_,rfl,_,_,rfl,_,_,rfl,_,_,rfl,rfl,?_⟩;dsimp only
  refine dZ (λσ' H'=>σ'=[some (.ref p),some (.int m),some (.int u),some (.int v),some (.int w),some (.int d)]/\H=H') ⟨rfl,rfl⟩ ?_;rintro σ' H' ⟨rfl,rfl⟩;have bw9:Bits 9000 w:=hW.bw.mono;have bvd:Bits 30 (v*d):=(hW.bv.mul hW.bd).mono;have bN:∀x:Int,Bits 35 x->Bits 40 (rt x w)/\Bits 40 (rb x w):=λx hx=>⟨(eU w0 hx).mono,(eY w0 hW.bw).mono⟩
  have fin:∀(x y:Int),x=cE u v d m->y=cK u v d m->Bits 35 x->Bits 35 y->SpE u v w d m (rt x w) (rb x w) (rt y w) (rb y w):=λx y ex ey bx by'=>⟨dk w0,dk w0,(bN x bx).1,(bN x bx).2,(bN y by').1,(bN y by').2,g7 w0,g7 w0,by rw[<- ex];exact fb w0,by rw[<- ey];exact fb w0⟩
  have b60:Bits 30 m:=by show m.natAbs<2^30;omega
  have bu30:Bits 30 u:=hW.bu.mono;have bs1:Bits 35 (u+v*d+m):=Bits.mono (Bits.add (k:=31) (Bits.add bu30 bvd) (b60.mono)) (by decide);have bs2:Bits 35 (u+v*d-m):=Bits.mono (Bits.sub (k:=31) (Bits.add bu30 bvd) (b60.mono)) (by decide);have bs3:Bits 35 (u-1-m):=Bits.mono (Bits.sub (k:=31) (Bits.sub bu30 (b1k (by decide))) (b60.mono)) (by decide);have b3:Bits 30 (m/3):=by show(m/3).natAbs<2^30;omega
  have bs4:Bits 35 (u+m/3):=Bits.mono (Bits.add bu30 b3) (by decide);have bu35:Bits 35 u:=hW.bu.mono;refine cs ⟨_,rfl,_,_,rfl,rfl,_,rfl,aP (λh0=>?_) (λh0=>?_)⟩
  ·have h0':0<v:=h0;refine bj ⟨_,rfl,_,rfl,cU (t:=u) w0 bw9 λl H1 s1 hl hRl=>?_⟩;refine⟨_,rfl,_,rfl,_,rfl,_,_,rfl,rfl,⟨hW.bv.mono,hW.bd.mono⟩,_,_,rfl,rfl,_,rfl,_,_,rfl,rfl,_,rfl,cU (t:=u+v*d+m) w0 bw9 λh H2 s2 hh hRh=>?_⟩;refine⟨by show 2<=sizeLine;decide,λq hq=>?_⟩;have sq:=Same.upd_new (o:=.tup [V.ref l,V.ref h]) hq;have t2:=s1.trans s2;exact k q l h _ _ _ _ _ (t2.then_new hq) (t2.free hq) au ((hRl.same s2).same sq) (hRh.same sq) (fin _ _ (by unfold cE;rw[if_pos h0']) (by unfold cK;rw[if_pos h0']) bu35 bs1)
  have h0':¬0<v:=h0;refine cs ⟨_,rfl,_,_,rfl,rfl,_,rfl,aP (λh1=>?_) (λh1=>?_)⟩
  ·have h1':v<0:=h1;refine bj ⟨_,rfl,_,rfl,_,rfl,_,_,rfl,rfl,⟨hW.bv.mono,hW.bd.mono⟩,_,_,rfl,rfl,_,rfl,_,_,rfl,rfl,_,rfl,cU (t:=u+v*d-m) w0 bw9 λl H1 s1 hl hRl=>?_⟩;refine⟨_,rfl,_,rfl,cU (t:=u) w0 bw9 λh H2 s2 hh hRh=>?_⟩;refine⟨by show 2<=sizeLine;decide,λq hq=>?_⟩;have sq:=Same.upd_new (o:=.tup [V.ref l,V.ref h]) hq;have t2:=s1.trans s2;exact k q l h _ _ _ _ _ (t2.then_new hq) (t2.free hq) au ((hRl.same s2).same sq) (hRh.same sq) (fin _ _ (by unfold cE;rw[if_neg h0',if_pos h1']) (by unfold cK;rw[if_neg h0',if_pos h1']) bs2 bu35)
  have h1':¬v<0:=h1;refine bj ⟨_,rfl,_,_,rfl,rfl,_,rfl,_,_,rfl,rfl,_,rfl,cU (t:=u-1-m) w0 bw9 λl H1 s1 hl hRl=>?_⟩;refine⟨_,rfl,_,rfl,_,_,rfl,rfl,⟨by show(0:Int)<3;decide,eO (by decide) (by decide)⟩,_,_,rfl,rfl,_,rfl,cU (t:=u+m/3) w0 bw9 λh H2 s2 hh hRh=>?_⟩;refine⟨by show 2<=sizeLine;decide,λq hq=>?_⟩;have sq:=Same.upd_new (o:=.tup [V.ref l,V.ref h]) hq;have t2:=s1.trans s2;exact k q l h _ _ _ _ _ (t2.then_new hq) (t2.free hq) au ((hRl.same s2).same sq) (hRh.same sq) (fin _ _ (by unfold cE;rw[if_neg h0',if_neg h1']) (by unfold cK;rw[if_neg h0',if_neg h1']) bs3 bs4)
inductive wY(vs:List V)(H:Hp)(Q:VK)(E:XK):Prop
 |mk (a b:Addr) (xs ys:List Int):vs=[.ref a,.ref b]->H a=some (.lst (xs.map V.int))->H b=some (.lst (ys.map V.int))->xs≠[]->ys≠[]->xs.length<=1000->ys.length<=1000->AllB 1000000 xs->AllB 1000000 ys->mkL H Q (af xs ys)->wY vs H Q E
theorem GS(F:Fun K "_law_times" "_law_times" rQ f fd)(T:Txt K mg):FnOk P w K mg base CX0 1 f fd ["_law_one","_law_other"] wY:=by
 refine F.ok sc__law_times (λvs H Q E h=>?_) (λcdv A outer s H vs Q E hr h=>?_)
 ·obtain⟨a,b,xs,ys,rfl,_⟩:=h;rfl
 ·obtain⟨a,b,xs,ys,rfl,hA,hB,hx0,hy0,hx,hy,bx,by',k⟩:=h;have big:=sizeLine_eq
  refine⟨_,(ag (ak (i:=2) sc__law_times.nd rfl (Or.inl rfl) (aj sW (aX (aa ad ac)) (aj cq (aj aY (bz (cY (K:=K) rfl) (by rfl) T.len_ PySem.boot_len (aa (pv 0) ac)) (bz (cY (K:=K) rfl) (by rfl) T.len_ PySem.boot_len (aa (pv 1) ac))) ad)))
   (ag (cV PassesOwn.never rfl (g9 rfl T.range_ (aa (bz (cY (K:=K) rfl) (by rfl) T.len_ PySem.boot_len (aa (pv 0) ac)) ac)) (aS (i:=3) sc__law_times.nd rfl (Or.inl rfl))
     (al (cV PassesOwn.never rfl (g9 rfl T.range_ (aa (bz (cY (K:=K) rfl) (by rfl) T.len_ PySem.boot_len (aa (pv 1) ac)) ac)) (aS (i:=4) sc__law_times.nd rfl (Or.inl rfl))
       (al (gw (aj aY (aE (b5 (K:=K) rfl) (pv 2) (aj aY (pv 3) (pv 4)) (λ_ _=>rfl)) (aj aK (aE (b5 (K:=K) rfl) (pv 0) (pv 3) (λ_ _=>rfl)) (aE (b5 (K:=K) rfl) (pv 1) (pv 4) (λ_ _=>rfl)))) (lT (pv 2) (aj aY (pv 3) (pv 4)) ll))))))
   (al (aC (pv 2))))),?_⟩
  have hlx:(xs.map V.int).length=xs.length:=PC _;have hly:(ys.map V.int).length=ys.length:=PC _;obtain⟨la,ea⟩:∃la,xs.length=la+1:=⟨xs.length-1,by have:=PL.mpr hx0;omega⟩;obtain⟨lb,eb⟩:∃lb,ys.length=lb+1:=⟨ys.length-1,by have:=PL.mpr hy0;omega⟩;have en:((xs.map V.int).length:Int)+((ys.map V.int).length:Int)-1=((la+lb+1:Nat):Int):=by rw[hlx,hly];omega
  refine av ⟨by show 1<=sizeLine;omega,λp2 hp2=>?_⟩;have s0:=Same.upd_new (o:=.lst [V.int 0]) hp2;refine⟨_,rfl,a,_,rfl,.inl (SqL.of (s0 _ _ hA)),_,rfl,b,_,rfl,.inl (SqL.of (s0 _ _ hB)),_,_,rfl,rfl,_,_,rfl,rfl,?_⟩;dsimp only
  rw[en];refine⟨p2,_,_,rfl,rfl,au,by omega,by omega,by show 1*_<=_;omega,λp hp=>?_⟩;rw[show((la+lb+1:Nat):Int).toNat=la+lb+1 from rfl,sD];have s4:=s0.then_new (o:=.lst ((List.replicate (la+lb+1) (0:Int)).map V.int)) hp;have hp0:=s0.free hp;have npa:a≠p:=aW hA hp0;have npb:b≠p:=aW hB hp0;have hp4:upd (upd H p2 (.lst [V.int 0])) p (.lst ((List.replicate (la+lb+1) (0:Int)).map V.int)) p=some (.lst ((List.replicate (la+lb+1) (0:Int)).map V.int)):=au;generalize upd (upd H p2 (.lst [V.int 0])) p (.lst ((List.replicate (la+lb+1) (0:Int)).map V.int))=H4 at s4 hp4 ⊢
  refine⟨_,rfl,a,_,rfl,.inl (SqL.of (s4 _ _ hA)),_,rfl,by rw[hlx];omega,by rw[hlx];omega,?_⟩;rw[hlx]
  refine kh (lo:=0) (n:=xs.length) (λj σ' H'=>∃(acc:List Int) (z3 z4:Option V),σ'=[some (.ref a),some (.ref b),some (.ref p),z3,z4]/\SameB p H4 H'/\H' p=some (.lst (acc.map V.int))/\acc.length=la+lb+1/\∀n,n<acc.length->cf acc n=sm xs ys n j)
   ⟨List.replicate (la+lb+1) 0,none,none,rfl,SameB.refl _ _,hp4,by simp,λn _=>by rw[mL];rfl⟩ ?_ ?_
  ·rintro j σ' H' hjl ⟨acc,z3,z4,rfl,sb,hpa,hal,hac⟩;have hA':=sb _ _ npa (s4 _ _ hA);have hB':=sb _ _ npb (s4 _ _ hB);refine⟨_,rfl,b,_,rfl,.inl (SqL.of hB'),_,rfl,by rw[hly];omega,by rw[hly];omega,?_⟩;rw[hly]
   refine kh (lo:=0) (n:=ys.length) (λi σ' H'=>∃(acc:List Int) (z4:Option V),σ'=[some (.ref a),some (.ref b),some (.ref p),some (.int (0+(j:Int))),z4]/\SameB p H4 H'/\H' p=some (.lst (acc.map V.int))/\acc.length=la+lb+1/\∀n,n<acc.length->cf acc n=sm xs ys n j+(if j<=n/\n-j<i then tm xs ys n j else 0))
    ⟨acc,z4,rfl,sb,hpa,hal,zB hac⟩ ?_ ?_
   ·rintro i σ' H' hil ⟨acc,z4,rfl,sb,hpa,hal,hac⟩;have hA':=sb _ _ npa (s4 _ _ hA);have hB':=sb _ _ npb (s4 _ _ hB);have hji:j+i<acc.length:=by omega
    have eji:(0+((j:Nat):Int))+(0+((i:Nat):Int))=((j+i:Nat):Int):=by omega
    have e0:∀x:Nat,(0:Int)+((x:Nat):Int)=((x:Nat):Int):=λx=>by omega
    refine⟨_,rfl,_,rfl,_,rfl,_,_,rfl,rfl,p,_,_,_,rfl,rfl,SqL.of hpa,kB eji hji,_,rfl,_,rfl,a,_,_,_,rfl,rfl,SqL.of hA',kB (e0 j) hjl,_,rfl,_,rfl,b,_,_,_,rfl,rfl,SqL.of hB',kB (e0 i) hil,_,_,rfl,rfl,⟨bx.cf j,by'.cf i⟩,_,_,rfl,rfl,_,rfl,_,rfl,_,rfl,_,_,rfl,rfl,p,_,_,j+i,rfl,rfl,hpa,mB eji (by rw[PC];exact hji),?_⟩;exact⟨acc.set (j+i) (cf acc (j+i)+cf xs j*cf ys i),_,rfl,sb.then_upd,by rw[au,oF],by rw[Rz];exact hal,zA hjl hil hji hac⟩
   ·rintro σ' H' ⟨acc,z4,rfl,sb,hpa,hal,hac⟩;exact⟨acc,_,_,rfl,sb,hpa,hal,zC hac⟩
  ·rintro σ' H' ⟨acc,z3,z4,rfl,sb,hpa,hal,hac⟩;refine⟨_,rfl,k p H' (λb' o e=>sb b' o (aW e hp0) (s4 b' o e)) hp0 ?_⟩;rw[hpa]
   have e:acc=af xs ys:=by
    apply dU
    ·rw[hal];unfold af;rw[if_neg (by intro z;exact z.elim hx0 hy0),PC,Q5];omega
    ·intro n _;rw[aL,zD (by omega) hac]
   rw[e]
theorem oN{u v w d:Int}(hd:0<d):cF u v w d=ah [u,d*v*v,w]:=by
 unfold cF;show _=aw (aJ u (d*v*v) w);unfold aJ;by_cases hv:v=0
 ·subst hv;rw[if_pos rfl,if_pos (by omega)]
 ·have he:d*v*v≠0:=Qe (Qe (by omega) hv) hv;rw[if_neg hv,if_neg he];have : -2*u*w = -2*w*u:=by grind
  rw[this]
theorem lJ(a:List (List Int)):∀b:List (List Int),prd (b++a)=af (prd b) (prd a)
 | []=>by show prd a=af [1] (prd a);rw[ma]
 |s::b=>by show af s (prd (b++a))=af (af s (prd b)) (prd a);rw[lJ a b,ic]
noncomputable def usP(s:List Int)(m:Nat)(rs:List (List Int)):List (List Int×Nat):=(s,m)::rs.map λf=>(ah f,1)
theorem m9(g:Nat->Nat)(hg:g 1=1):∀rs:List (List Int),fP g (rs.map λf=>(ah f,1))=prd (rs.map ah)
 | []=>rfl
 |f::rs=>by show af (pw (ah f) (g 1)) (fP g (rs.map λf=>(ah f,1)))=af (ah f) (prd (rs.map ah));rw[m9 g hg rs,hg,gv]
theorem wf:∀rs:List (List Int),fP (·-1) (rs.map λf=>(ah f,1))=[1]
 | []=>rfl
 |f::rs=>by show af (pw (ah f) 0) (fP (·-1) (rs.map λf=>(ah f,1)))=[1];rw[wf rs];show af [1] [1]=[1];rfl
structure Pad(u v w d l1 l2:Int)(m:Nat)(A B D:List (List Int))(c:Int):Prop where
 m:m=1\/m=2
 a:A=[]\/A=[[l1,0,l2]]
 b:B=[]\/∃far:Int,(u.natAbs:Int)+(v.natAbs:Int)*d+100<=far/\far<=100000000/\(B=[[-far,0,1]]\/B=[[far,0,1]])
 d:D=[]\/∃k:Int,1<=k/\k<=7/\D=[[0,-k,1]]
 c0:c≠0
 bc:Bits 10 c
theorem oK{t b:Int}(hb:0<b)(hg:Nat.gcd t.natAbs b.natAbs=1):ah [t,0,b]=[-t,b]:=by
 have hr:aJ t 0 b=[-t,b]:=by unfold aJ;rw[if_pos rfl]
 show aw (aJ t 0 b)=_;rw[hr];refine Pln.plain ⟨kP (by omega),by simp,?_,hb⟩;show aA [-t,b]=1;unfold aA;rw[ii,ii,o0,RU,QT];exact hg
theorem j3(t:Int):ah [t,0,1]=[-t,1]:=oK (by decide) (Si _)
theorem tf{k:Int}(hk:1<=k):ah [0,-k,1]=[k,0,1]:=by
 have hr:aJ 0 (-k) 1=[k,0,1]:=by unfold aJ;rw[if_neg (by omega)];simp
 show aw (aJ 0 (-k) 1)=_;rw[hr];refine Pln.plain ⟨pM (by decide),by simp,?_,(by decide:(0:Int)<1)⟩;show aA [k,0,1]=1;unfold aA;rw[ii,ii,ii,o0];exact Si _
theorem zV{u b u' b':Int}(hb:1<=b)(hb':1<=b')(h:u*b'≠u'*b):ah [u,0,b]≠ah [u',0,b']:=λz=>by
 obtain⟨g,A0,A1,hg,eS,e0,e1,_,_⟩:=nS (u:=u) hb;obtain⟨g',A0',A1',hg',eS',e0',e1',_,_⟩:=nS (u:=u') hb';rw[eS,eS']at z;simp at z
 obtain⟨rfl,rfl⟩:=z;apply h;have q:u=g * -A0:=by grind
 have q':u'=g' * -A0:=by grind
 rw[q,q',e1,e1'];grind
theorem uD{t b:Int}(h1:t.natAbs<=1000000000)(h2:1<=b)(h3:b<=1000):FacG [t,0,b]:=⟨t,0,b,rfl,by omega,by omega,by decide,by decide,h2,h3,.inl (Qg _)⟩
theorem Kq{k:Int}(h1:1<=k)(h2:k<=7):FacG [0,-k,1]:=⟨0,-k,1,rfl,by decide,by decide,by omega,by omega,by decide,by decide,.inl (by omega)⟩
theorem kE{k:Nat}{x:Int}(h:Bits k x):x.natAbs<2^k:=h
theorem kj{u v w d:Int}(hW:WOk u v w d):FacG [u,d*v*v,w]:=by
 have h1:=kE hW.bu;have h2:=kE hW.bv;have e1:(2:Nat)^21=2097152:=rfl;have hvv:(v*v).natAbs<=2097152*2097152:=by rw[PN];exact QW (by omega) (by omega)
 have hd:(d*(v*v)).natAbs<=13*(2097152*2097152):=by rw[PN];exact QW (by have:=hW.d2;have:=hW.d13;omega) hvv
 have e2:d*v*v=d*(v*v):=P4 _ _ _;have hn:=ze hW.ns v;rw[e2]at hn ⊢;exact⟨u,d*(v*v),w,rfl,by omega,by omega,by omega,by omega,by have:=hW.w1;omega,by have:=hW.w12;omega,hn⟩
theorem Iz{u v w d m l1 l2 h1 h2:Int}(hW:WOk u v w d)(hm0:0<=m)(hm:m<60)(hE:SpE u v w d m l1 l2 h1 h2):l2<=12/\(l1.natAbs:Int)<=(u.natAbs:Int)+(v.natAbs:Int)*d+61/\(h1.natAbs:Int)<=((u.natAbs:Int)+(v.natAbs:Int)*d+61)/\(u.natAbs:Int)+(v.natAbs:Int)*d<=90000000:=by
 have hw:=hW.w1;have hw12:=hW.w12;have h1':=kE hW.bu;have h2':=kE hW.bv;have e1:(2:Nat)^21=2097152:=rfl;have hvd:(v.natAbs:Int)*d<=2097152*13:=QX (by omega) hW.d13 (by have:=hW.d2;omega) (by decide);have nvd:0<=(v.natAbs:Int)*d:=P5 (by omega) (by have:=hW.d2;omega)
 have red:∀{t b N:Int},0<b->Nat.gcd t.natAbs b.natAbs=1->t*w=N*b->b<=w/\t.natAbs<=N.natAbs:=λ{t b N} hb hg e=>by
  have e':t.natAbs*w.natAbs=N.natAbs*b.natAbs:=by
   have:=congrArg Int.natAbs e
   rwa [PN,PN]at this
  have hd:b.natAbs∣w.natAbs:=Nat.Coprime.dvd_of_dvd_mul_left (k:=b.natAbs) (m:=t.natAbs) (by rw[Nat.Coprime,RW];exact hg) ⟨N.natAbs,by rw[e',Q3]⟩;have hle:=Nat.le_of_dvd (by omega) hd;refine⟨by omega,?_⟩;have:t.natAbs*w.natAbs<=N.natAbs*w.natAbs:=by rw[e'];exact Q8 _ hle
  exact Sw this (by omega)
 obtain⟨a1,a2⟩:=red hE.l2p hE.gl hE.el;obtain⟨b1,b2⟩:=red hE.h2p hE.gh hE.eh;have vd:(v*d).natAbs=v.natAbs*d.natAbs:=PN _ _;have vd2:((v.natAbs*d.natAbs:Nat):Int)=(v.natAbs:Int)*d:=by rw[QC];have:=hW.d2;congr 1;omega
 have ab:∀y k:Int,0<=k->k<=61->(y=v*d\/y=0)->((u+y-k).natAbs:Int)<=(u.natAbs:Int)+(v.natAbs:Int)*d+61/\((u+y+k).natAbs:Int)<=(u.natAbs:Int)+(v.natAbs:Int)*d+61:=λy k k0 k1 hy=>by
  have hy':(y.natAbs:Int)<=(v.natAbs:Int)*d:=by
   rcases hy with rfl |rfl
   ·rw[vd,vd2];exact Qg _
   ·exact nvd
  have t1:=RG (u+y) k;have t2:=Sc u y;have t3:=Sc (u+y) k;have t4:k.natAbs<=61:=by clear t1 t2 t3 hy' nvd hvd h1' h2' hW hE vd vd2 red a1 a2 b1 b2;omega
  clear vd vd2 red a1 a2 b1 b2 hvd h1' h2' hW hE hy k0 k1 nvd hw hw12 e1 hm hm0;generalize (v.natAbs:Int)*d=z at *
  generalize (u+y-k).natAbs=p1 at *
  generalize (u+y+k).natAbs=p2 at *
  generalize (u+y).natAbs=p3 at *
  generalize y.natAbs=p4 at *
  generalize u.natAbs=p5 at *
  generalize k.natAbs=p6 at *
  omega
 have c1:((cE u v d m).natAbs:Int)<=(u.natAbs:Int)+(v.natAbs:Int)*d+61:=by
  unfold cE;split
  ·have:=(ab 0 0 (by decide) (by decide) (.inr rfl)).1;rwa [Qy,Int.sub_zero]at this
  ·split
   ·exact(ab _ m hm0 (by omega) (.inl rfl)).1
   ·have:=(ab 0 (1+m) (by omega) (by omega) (.inr rfl)).1;rwa [Qy,show u-(1+m)=u-1-m by omega]at this
 have c2:((cK u v d m).natAbs:Int)<=(u.natAbs:Int)+(v.natAbs:Int)*d+61:=by
  unfold cK;split
  ·exact(ab _ m hm0 (by omega) (.inl rfl)).2
  ·split
   ·have:=(ab 0 0 (by decide) (by decide) (.inr rfl)).1;rwa [Qy,Int.sub_zero]at this
   ·have:=(ab 0 (m/3) (by omega) (by omega) (.inr rfl)).2;rwa [Qy]at this
 exact⟨R0 a1 hw12,R0 (Int.ofNat_le.mpr a2) c1,R0 (Int.ofNat_le.mpr b2) c2,by omega⟩
theorem sV{L:List (List Int)}{k n:Nat}(hk:1<=k)(hn:1<=n)(h:L=[]\/∃f,L=[f]/\AllB k (ah f)/\(ah f).length<=n/\ah f≠[]):AllB k (prd (L.map ah))/\(prd (L.map ah)).length<=n/\prd (L.map ah)≠[]:=by
 rcases h with rfl |⟨f,rfl,b,l,ne⟩
 ·exact⟨λx hx=>by rw[PQ.mp hx];exact b1k hk,hn,by show([1]:List Int)≠[];simp⟩
 ·have:prd ([f].map ah)=ah f:=cX _;rw[this];exact⟨b,l,ne⟩
theorem gP{k n:Nat}{x:Int}(h:x.natAbs<n)(hn:n<=2^k):Bits k x:=Qr h hn
theorem kD{k:Nat}{x y:Int}(h1:Bits k x)(h2:Bits k y):AllB k [x,y]:=λz hz=>by
 rcases PM.mp hz with rfl |hz
 ·exact h1
 ·rw[PQ.mp hz];exact h2
theorem oM{a b:List Int}(ha:a≠[])(hb:b≠[]):(af a b).length+1=a.length+b.length:=by have:=PL.mpr ha;rw[bV ha hb];omega
theorem zl{x:Int}{n:Int}(h:(x.natAbs:Int)<=n) : -n<=x/\x<=n:=by omega
theorem FD{u v w d m l1 l2 h1 h2 c:Int}{mm:Nat}{A B D:List (List Int)}(hW:WOk u v w d)(hm0:0<=m)(hm:m<60)(hE:SpE u v w d m l1 l2 h1 h2)(hP:Pad u v w d l1 l2 mm A B D c) :
 Made (whl c (usP (ah [u,d*v*v,w]) mm (A++(B++D)))) c (usP (ah [u,d*v*v,w]) mm (A++(B++D)))/\flt (usP (ah [u,d*v*v,w]) mm (A++(B++D)))=prQ ([u,d*v*v,w]::(A++(B++D)))/\OneW ([u,d*v*v,w]::(A++(B++D))) [u,d*v*v,w] [u,d*v*v,w,bZ v] l1 l2 h1 h2:=by
 obtain⟨s1,s2,s3,s4⟩:=Iz hW hm0 hm hE;obtain⟨en,ol,oh,lU,hU⟩:=v4 hW hm0 hm hE;have hw:=hW.w1;have hw12:=hW.w12;have l2p:=hE.l2p;have h2p:=hE.h2p;have nvd:0<=(v.natAbs:Int)*d:=P5 (by omega) (by have:=hW.d2;omega)
 have fA:∀f∈A,FacG f/\ah f=[-l1,l2]/\f=[l1,0,l2]:=λf hf=>by
  rcases hP.a with rfl |rfl
  ·cases hf
  ·rw[PQ.mp hf];exact⟨uD (by omega) (by omega) (by omega),oK l2p hE.gl,rfl⟩
 have fB:∀f∈B,FacG f/\∃t:Int,f=[t,0,1]/\ah f=[-t,1]/\(u.natAbs:Int)+(v.natAbs:Int)*d+100<=(t.natAbs:Int)/\(t.natAbs:Int)<=100000000:=λf hf=>by
  rcases hP.b with rfl |⟨far,g1,g2,rfl |rfl⟩
  ·cases hf
  ·rw[PQ.mp hf];exact⟨uD (by omega) (by decide) (by decide),-far,rfl,j3 _,by omega,by omega⟩
  ·rw[PQ.mp hf];exact⟨uD (by omega) (by decide) (by decide),far,rfl,j3 _,by omega,by omega⟩
 have fD:∀f∈D,FacG f/\∃k:Int,1<=k/\k<=7/\f=[0,-k,1]/\ah f=[k,0,1]:=λf hf=>by
  rcases hP.d with rfl |⟨k,g1,g2,rfl⟩
  ·cases hf
  ·rw[PQ.mp hf];exact⟨Kq g1 g2,k,g1,g2,rfl,tf g1⟩
 have f0:=kj hW
 have fR:∀f∈A++(B++D),FacG f:=λf hf=>by
  rcases Qh.mp hf with z |z
  ·exact(fA f z).1
  rcases Qh.mp z with z |z
  ·exact(fB f z).1
  ·exact(fD f z).1
 have nA:(A.map ah).Nodup:=by rcases hP.a with rfl |rfl<;>simp
 have nB:(B.map ah).Nodup:=by rcases hP.b with rfl |⟨far,_,_,rfl |rfl⟩<;>simp
 have nD:(D.map ah).Nodup:=by rcases hP.d with rfl |⟨k,_,_,rfl⟩<;>simp
 have dAB:∀f∈A,∀g∈B,ah f≠ah g:=λf hf g hg z=>by
  obtain⟨t,_,e2,e3,_⟩:=(fB g hg).2;rw[(fA f hf).2.1,e2]at z;simp at z
  rw[<- z.1]at e3;exact absurd (R0 e3 s2) (by generalize (u.natAbs:Int)+_=U;omega)
 have dAD:∀f∈A,∀g∈D,ah f≠ah g:=λf hf g hg z=>by obtain⟨k,_,_,_,e2⟩:=(fD g hg).2;rw[(fA f hf).2.1,e2]at z;simp at z
 have dBD:∀f∈B,∀g∈D,ah f≠ah g:=λf hf g hg z=>by obtain⟨t,_,e2,_⟩:=(fB f hf).2;obtain⟨k,_,_,_,e3⟩:=(fD g hg).2;rw[e2,e3]at z;simp at z
 have d0:∀f∈A++(B++D),ah [u,d*v*v,w]≠ah f:=λf hf=>by
  by_cases hv:v=0
  ·subst hv;have e0:d*0*0=0:=by omega
   rw[e0];have eL:cE u 0 d m=u-1-m:=by unfold cE;rw[if_neg (by decide),if_neg (by decide)]
   rcases Qh.mp hf with z |z
   ·rw[(fA f z).2.2];refine zV (by omega) (by omega) λy=>?_
    have:=hE.el;rw[eL]at this;have q:(u-1-m)*l2=u*l2-(1+m)*l2:=by grind
    have:=PB (show 0<1+m by omega) l2p;omega
   rcases Qh.mp z with z |z
   ·obtain⟨t,e1,_,e3,_⟩:=(fB f z).2;rw[e1];refine zV (by omega) (by decide) λy=>?_
    rw[P8]at y;have y2:u.natAbs=t.natAbs*w.natAbs:=by rw[y,PN]
    have y3:t.natAbs*1<=t.natAbs*w.natAbs:=Q8 _ (by omega);omega
   ·obtain⟨k,_,_,_,e2⟩:=(fD f z).2;rw[e2];intro y;have:=nS (u:=u) (b:=w) (by omega);obtain⟨_,A0,A1,_,eS,_⟩:=this;rw[eS]at y;simp at y
  ·have he:0<d*v*v:=by
    rw[P4];refine PB (by have:=hW.d2;omega) ?_;rcases QE hv with z |z
    ·exact QY z z
    ·exact PB z z
   obtain⟨g,A0,A1,A2,hg,eS,e0,e1,e2,hA⟩:=qp (u:=u) (b:=w) (by omega) (show d*v*v≠0 by omega);rw[eS];rcases Qh.mp hf with z |z
   ·rw[(fA f z).2.1];intro y;simp at y
   rcases Qh.mp z with z |z
   ·obtain⟨t,_,e3,_⟩:=(fB f z).2;rw[e3];intro y;simp at y
   ·obtain⟨k,k1,_,_,e3⟩:=(fD f z).2;rw[e3];intro y;simp at y
    obtain⟨rfl,rfl,rfl⟩:=y
    have u0:u=0:=by
     have:w*u=0:=by have q : -2*w*u = -2*(w*u):=P4 _ _ _;omega
     rcases Q7.mp this with y |y
     ·omega
     ·exact y
    subst u0;have:=PB hg (show 0<A0 by omega);omega
 have nR:((A++(B++D)).map ah).Nodup:=by
  rw[Qk,Qk];refine List.nodup_append.mpr ⟨nA,List.nodup_append.mpr ⟨nB,nD,?_⟩,?_⟩
  ·intro x hx y hy;obtain⟨f,hf,rfl⟩:=PV.mp hx;obtain⟨g,hg,rfl⟩:=PV.mp hy;exact dBD f hf g hg
  ·intro x hx y hy;obtain⟨f,hf,rfl⟩:=PV.mp hx;rcases Qh.mp hy with z |z
   ·obtain⟨g,hg,rfl⟩:=PV.mp z;exact dAB f hf g hg
   ·obtain⟨g,hg,rfl⟩:=PV.mp z;exact dAD f hf g hg
 have hF:Fam ([u,d*v*v,w]::(A++(B++D))):=by
  refine⟨λf hf=>?_,?_⟩
  ·rcases PM.mp hf with z |z
   ·rw[z];exact f0
   ·exact fR f z
  ·rw[QG];refine Q2.mpr ⟨λz=>?_,nR⟩;obtain⟨f,hf,e⟩:=PV.mp z;exact d0 f hf e.symm
 have hno:∀x∈aI (A++(B++D)),¬(0<ap x l1 l2/\ap x h1 h2<=0):=λx hx=>by
  obtain⟨f,hf,hsf⟩:=Q9.mp hx;rcases Qh.mp hf with z |z
  ·rw[(fA f z).2.2,kR]at hsf;rw[PQ.mp hsf];rintro⟨y,_⟩;have:=side_line.mp y;have e:l2*l1=l1*l2:=P9 _ _;omega
  rcases Qh.mp z with z |z
  ·obtain⟨t,e1,_,e3,_⟩:=(fB f z).2;rw[e1,kR]at hsf;rw[PQ.mp hsf];rintro⟨y1,y2⟩;have z1:=side_line.mp y1;have z2:¬1*h1<t*h2:=λy=>by have:=side_line.mpr y;omega
   rcases QP 0 t with w1 |w1
   ·have:=QA (show 1<=h2 by omega) (PD w1);have s3':=(zl s3).2;rw[Int.natAbs_of_nonneg (PD w1)]at e3;clear s1 s2 s3 s4 nvd;generalize (u.natAbs:Int)+_=U at *
    omega
   ·have:=QA (show 1<=l2 by omega) (show 0 <= -t by omega);have e : -t*l2 = -(t*l2):=QF _ _;have s2':=(zl s2).1;rw[Int.ofNat_natAbs_of_nonpos w1]at e3;clear s1 s2 s3 s4 nvd;generalize (u.natAbs:Int)+_=U at *
    omega
  ·obtain⟨k,k1,_,e2,_⟩:=(fD f z).2;rw[e2]at hsf
   have:spF [0,-k,1]=[]:=by show(if 0 <= -k then _ else[])++(if 0 < -k then _ else[])=[];rw[if_neg (by omega),if_neg (by omega)];rfl
   rw[this]at hsf;cases hsf
 obtain⟨hO,hcn⟩:=za hW.ns hF l2p h2p en.lt lU hU ol oh hno;obtain⟨bS,lS⟩:=iE f0;have pS:=fQ f0;have lS2:=pS.two
 obtain⟨bA,lA,neA⟩:=sV (L:=A) (k:=31) (n:=2) (by decide) (by decide) (by
  rcases hP.a with z |z
  ·exact .inl z
  ·refine .inr ⟨_,z,?_⟩;rw[oK l2p hE.gl]
   exact⟨kD (gP (n:=100000000) (by rw[QT];generalize (u.natAbs:Int)+_=U at *;generalize l1.natAbs=L at *;omega) (by decide)) (gP (n:=13) (by omega) (by decide)),PF _,by simp⟩)
 obtain⟨bB,lB,neB⟩:=sV (L:=B) (k:=28) (n:=2) (by decide) (by decide) (by
  rcases hP.b with z |⟨far,g1,g2,z |z⟩
  ·exact .inl z
  ·refine .inr ⟨_,z,?_⟩;rw[j3];exact⟨kD (gP (n:=100000001) (by omega) (by decide)) (b1k (by decide)),PF _,by simp⟩
  ·refine .inr ⟨_,z,?_⟩;rw[j3]
   exact⟨kD (gP (n:=100000001) (by omega) (by decide)) (b1k (by decide)),PF _,by simp⟩)
 obtain⟨bD,lD,neD⟩:=sV (L:=D) (k:=4) (n:=3) (by decide) (by decide) (by
  rcases hP.d with z |⟨k,g1,g2,z⟩
  ·exact .inl z
  ·refine .inr ⟨_,z,?_⟩;rw[tf g1];refine⟨λx hx=>?_,PF _,by simp⟩;rcases PM.mp hx with rfl |hx
   ·exact gP (n:=8) (by omega) (by decide)
   rcases PM.mp hx with rfl |hx
   ·exact Bits.zero
   ·rw[PQ.mp hx];exact b1k (by decide))
 have eR:prd ((A++(B++D)).map ah)=af (prd (A.map ah)) (af (prd (B.map ah)) (prd (D.map ah))):=by rw[Qk,Qk,lJ,lJ]
 have bBD:=iP bB bD (PF _);have lBD:=oM neB neD;have neBD:=j7 neB neD;have bR:=iP bA bBD (PF _);have lR:=oM neA neBD;have neR:=j7 neA neBD;rw[<- eR]at bR lR neR;have bR':AllB 67 (prd ((A++(B++D)).map ah)):=bR.mono (by omega);have lR':(prd ((A++(B++D)).map ah)).length<=5:=by omega
 have nR1:=PL.mpr neR;have eW:prQ ([u,d*v*v,w]::(A++(B++D)))=af (ah [u,d*v*v,w]) (prd ((A++(B++D)).map ah)):=by rw[hF.prd];rfl
 have eP:fP id (usP (ah [u,d*v*v,w]) mm (A++(B++D)))=af (pw (ah [u,d*v*v,w]) mm) (prd ((A++(B++D)).map ah)):=by show af (pw (ah [u,d*v*v,w]) mm) (fP id _)=_;rw[m9 id rfl]
 have eM:mor (usP (ah [u,d*v*v,w]) mm (A++(B++D))) 1=pw (ah [u,d*v*v,w]) (mm-1):=by show af (pw (ah [u,d*v*v,w]) (mm-1)) (fP (·-1) _)=_;rw[wf,cX]
 have eF:flt (usP (ah [u,d*v*v,w]) mm (A++(B++D)))=prQ ([u,d*v*v,w]::(A++(B++D))):=by rw[eW];show af (pw (ah [u,d*v*v,w]) 1) (fP sX _)=_;rw[m9 sX rfl,gv]
 have use:Use (usP (ah [u,d*v*v,w]) mm (A++(B++D))):=by
  refine⟨λp hp=>?_,λp hp=>?_,?_⟩
  ·rcases PM.mp hp with z |z
   ·rw[z];exact pS
   ·obtain⟨f,hf,rfl⟩:=PV.mp z;exact fQ (fR f hf)
  ·rcases PM.mp hp with z |z
   ·rw[z];show 1<=mm;rcases hP.m with y |y<;>omega
   ·obtain⟨f,hf,rfl⟩:=PV.mp z;exact PF _
  ·have:=hF.nd
   have e:(usP (ah [u,d*v*v,w]) mm (A++(B++D))).map (·.1)=([u,d*v*v,w]::(A++(B++D))).map ah:=by show ah [u,d*v*v,w]::((A++(B++D)).map λf=>(ah f,1)).map (·.1)=ah [u,d*v*v,w]::(A++(B++D)).map ah;rw[QL];rfl
   rw[e];exact this
 have pwb:∀n,n<=2->AllB 127 (pw (ah [u,d*v*v,w]) n)/\(pw (ah [u,d*v*v,w]) n).length=1+n*((ah [u,d*v*v,w]).length-1)/\pw (ah [u,d*v*v,w]) n≠[]:=λn hn=>by
  refine⟨?_,(n6 pS.pln.ne n).1,(n6 pS.pln.ne n).2⟩
  match n,hn with
  |0,_=>exactλx hx=>by rw[PQ.mp hx];exact b1k (by decide)
  |1,_=>rw[gv];exact bS.mono
  |2,_ =>show AllB 127 (af (ah [u,d*v*v,w]) (af (ah [u,d*v*v,w]) [1]));rw[cX];exact iP bS bS (by omega)
 have hmm:1<=mm/\mm<=2:=by rcases hP.m with y |y<;>omega
 obtain⟨q1,q2,q3⟩:=pwb mm hmm.2;have q4:mm*((ah [u,d*v*v,w]).length-1)<=2*2:=QW hmm.2 (by omega);have q5:1*1<=mm*((ah [u,d*v*v,w]).length-1):=QW hmm.1 (by omega);have lP:=oM q3 neR;rw[<- eP]at lP;have kl:(whl c (usP (ah [u,d*v*v,w]) mm (A++(B++D)))).length=(fP id (usP (ah [u,d*v*v,w]) mm (A++(B++D)))).length:=by rw[fW,cv]
 have dg:=(o6 id (usP (ah [u,d*v*v,w]) mm (A++(B++D))) λp hp=>(use.pri p hp).pln.ne).1;have lW:=oM pS.pln.ne neR;rw[<- eW]at lW;refine⟨⟨rfl,hP.c0,hP.bc,use,by omega,by omega,?_,?_⟩,eF,⟨⟨hF,by omega,by omega,?_⟩,hO,hcn,en.mono⟩⟩
 ·rw[eP];exact iP q1 bR' (by omega)
 ·rw[eM];exact(pwb (mm-1) (by omega)).1.mono
 ·rw[eW];exact iP bS bR' (by omega)
inductive xr(C:Addr)(vs:List V)(H:Hp)(Q:VK)(E:XK):Prop
 |mk (p t l h:Addr) (u v w d l1 l2 cell:Int):vs=[.ref p,.ref t,.int cell]->WT H p u v w d->WOk u v w d->H t=some (.tup [.ref l,.ref h])->RA C H l l1 l2->0<l2->Bits 40 l1->Bits 40 l2->Nat.gcd l1.natAbs l2.natAbs=1->(∀(mm:Nat) (A B D:List (List Int)) (c:Int),Pad u v w d l1 l2 mm A B D c->mkL H Q (whl c (usP (ah [u,d*v*v,w]) mm (A++(B++D)))))->xr C vs H Q E
theorem Ds{k:Int}(h0:0<=k)(h:k<2^20):Bits 9000 k:=Bits.mono (j:=20) (by show k.natAbs<2^20;omega) (by decide)
structure Got(X:List Int):Prop where
 ne:X≠[]
 len:X.length<=20
 bits:AllB 600 X
theorem Got.mul{X Y:List Int}{k n:Nat}(h:Got X)(ne:Y≠[])(l:Y.length<=3)(b:AllB 64 Y)(hk:AllB k X)(hn:X.length<=n)(h1:k+n+64<=600)(h2:n+3<=20):Got (af X Y)/\AllB (k+n+64) (af X Y)/\(af X Y).length<=n+2:=by have hl:=bV h.ne ne;have hb:=iP (k:=k+n+64) hk b (by omega);have:=PL.mpr ne;exact⟨⟨j7 h.ne ne,by omega,hb.mono h1⟩,hb,by omega⟩
theorem GW(F:Fun K "_law_padded" "_law_padded" rV f fd)(T:Txt K mg)(R:RCI K mg C)(vW:Cal P w K mg base 3 "_law_least" ["_law_worth_here"] qc KA Kk)(NG:Cal P w K mg base 1 "_law_times" ["_law_one","_law_other"] wY Pl OA):FnOk P w K mg base CX0 4 f fd ["_law_worth_here","_law_span_here","_law_cell"] (xr C):=by
 obtain⟨vI,tL,ub,vp⟩:=vW;obtain⟨mW,mj,mz,mQ⟩:=NG;refine F.ok sc__law_padded (λvs H Q E h=>?_) (λcdv A outer s H vs Q E hr h=>?_)
 ·obtain⟨p,t,l,h,u,v,w,d,l1,l2,cell,rfl,_⟩:=h;rfl
 ·obtain⟨p,t,l,h,u,v,w,d,l1,l2,cell,rfl,hp,hW,ht,hl,l2p,bl1,bl2,gl,k⟩:=h;have big:=sizeLine_eq
  refine⟨_,(ag (gw (pv 0) (gA rfl (cu (aS (i:=3) sc__law_padded.nd rfl (Or.inl rfl)) (cu (aS (i:=4) sc__law_padded.nd rfl (Or.inl rfl)) (cu (aS (i:=5) sc__law_padded.nd rfl (Or.inl rfl)) (cu (aS (i:=6) sc__law_padded.nd rfl (Or.inl rfl)) gz))))))
   (ag (ak (i:=7) sc__law_padded.nd rfl (Or.inl rfl) (aq vI (hr.mono) rfl tL ub vp .nil ai (aa (pv 0) ac)))
   (ag (aR (aH cW (aj cR (pv 2) ad) ad (aG _))
     (al (ak (i:=7) sc__law_padded.nd rfl (Or.inl rfl) (aq mW (hr.mono) rfl mj mz mQ .nil ai (aa (pv 7) (aa (pv 7) ac)))))
     aU)
   (ag (aR (aH cW (aj cR (aj cS (pv 2) ad) ad) ad (aG _))
     (al (ak (i:=7) sc__law_padded.nd rfl (Or.inl rfl) (aq mW (hr.mono) rfl mj mz mQ .nil ai (aa (pv 7) (aa (aX (aa (bK bJ (aN (K:=K) rfl (aE (aM (K:=K) rfl) (pv 1) ad (λ_ _=>rfl)) rfl)) (aa (aN (K:=K) rfl (aE (aM (K:=K) rfl) (pv 1) ad (λ_ _=>rfl)) rfl) ac))) ac)))))
     aU)
   (ag (ak (i:=8) sc__law_padded.nd rfl (Or.inl rfl) (aj aY (aj aY (aj aY (bz fv (by rfl) T.abs_ PyProof.Rows.boot_abs (aa (pv 3) ac)) (aj aK (bz fv (by rfl) T.abs_ PyProof.Rows.boot_abs (aa (pv 4) ac)) (pv 6))) ad) (aj cR (aj cS (pv 2) ad) ad)))
   (ag (aR (aH cW (aj cR (aj cS (pv 2) ad) ad) ad (aG _))
     (al (ak (i:=7) sc__law_padded.nd rfl (Or.inl rfl) (aq mW (hr.mono) rfl mj mz mQ .nil ai (aa (pv 7) (aa (aX (aa (pv 8) (aa ad ac))) ac)))))
     aU)
   (ag (aR (aH cW (aj cR (aj cS (pv 2) ad) ad) ad (aG _))
     (al (ak (i:=7) sc__law_padded.nd rfl (Or.inl rfl) (aq mW (hr.mono) rfl mj mz mQ .nil ai (aa (pv 7) (aa (aX (aa (bK bJ (pv 8)) (aa ad ac))) ac)))))
     aU)
   (ag (aR (aH cW (aj cR (aj cS (pv 2) ad) ad) ad (aG _))
     (al (ak (i:=7) sc__law_padded.nd rfl (Or.inl rfl) (aq mW (hr.mono) rfl mj mz mQ .nil ai (aa (pv 7) (aa (aX (aa (aj aY ad (aj cR (aj cS (pv 2) ad) ad)) (aa ad (aa ad ac)))) ac)))))
     aU)
   (al (aC (fI (own:=["_law_one"]) (fr:=["_law_cell"]) (js:=[2]) (by walk_at "comp_ok") rfl (fH (K:=K) rfl (pv 7)) (λ_ _ _ _=>(aS (i:=0) (show List.Nodup (["_law_one","_law_cell"]:List Str)from by decide +kernel) rfl (Or.inl rfl))) (λ_ _ _ _=>(aj aK (pv 0) (aE (b5 (K:=K) rfl) (aX (aa ad (aa (bK bJ ad) (aa ad (aa (bK bJ ad) ac))))) (aj cR (aj cS (pv 1) ad) ad) (λ_ _=>rfl))))))))))))))),?_⟩
  refine⟨_,rfl,p,_,rfl,SqT.of hp,rfl,_,_,rfl,_,_,rfl,_,_,rfl,_,_,rfl,rfl,?_⟩;dsimp only
  refine dZ (λσ' H'=>σ'=[some (.ref p),some (.ref t),some (.int cell),some (.int u),some (.int v),some (.int w),some (.int d),none,none]/\H=H') ⟨rfl,rfl⟩ ?_;rintro σ' H' ⟨rfl,rfl⟩;refine av ⟨_,rfl,p,u,v,w,d,rfl,hp,hW,λq0 H1 s1 hq0 e1=>?_⟩;rw[oN (by have:=hW.d2;omega)]at e1;obtain⟨bS,lS⟩:=iE (kj hW);have pS:=(fQ (kj hW)).pln;have g0:Got (ah [u,d*v*v,w]):=⟨pS.ne,by omega,bS.mono⟩;generalize hs:ah [u,d*v*v,w]=S at e1 bS lS g0 pS k
  show cI _ _ _ _ _;refine dN (λσ' H'=>∃(q:Addr) (mm:Nat),σ'=[some (.ref p),some (.ref t),some (.int cell),some (.int u),some (.int v),some (.int w),some (.int d),some (.ref q),none]/\Same H H'/\H q=none/\H' q=some (.lst ((pw S mm).map V.int))/\(mm=1\/mm=2)/\Got (pw S mm)/\AllB 130 (pw S mm)/\(pw S mm).length<=5) ?_ ?_
  case refine_2 =>
   intro rest;refine⟨_,rfl,_,_,rfl,rfl,(by show(0:Int)<3;decide),_,_,rfl,rfl,_,rfl,aP (λ_=>?_) (λ_=>?_)⟩
   ·refine cD ⟨_,rfl,_,rfl,q0,q0,S,S,rfl,e1,e1,pS.ne,pS.ne,by omega,by omega,bS.mono,bS.mono,λq' H2 s2 hq' e2=>?_⟩;have e:af S S=pw S 2:=by show _=af S (af S [1]);rw[cX]
    obtain⟨m1,m2,m3⟩:=g0.mul pS.ne lS (bS.mono) bS lS (by decide) (by decide);rw[e]at e2 m1 m2 m3;exact rest _ _ ⟨q',2,rfl,s1.trans s2,s1.free hq',e2,.inr rfl,m1,m2.mono,by omega⟩
   ·refine rest _ _ ⟨q0,1,rfl,s1,hq0,by rw[gv];exact e1,.inl rfl,by rw[gv];exact g0,by rw[gv];exact bS.mono,by rw[gv];omega⟩
  clear e1 hq0 s1 q0;rintro σ' H2 ⟨q,mm,rfl,s2,hq,e2,hmm,g2,b2,n2⟩;refine dN (λσ' H'=>∃(q:Addr) (A:List (List Int)),σ'=[some (.ref p),some (.ref t),some (.int cell),some (.int u),some (.int v),some (.int w),some (.int d),some (.ref q),none]/\Same H H'/\H q=none/\H' q=some (.lst ((af (pw S mm) (prd (A.map ah))).map V.int))/\(A=[]\/A=[[l1,0,l2]])/\Got (af (pw S mm) (prd (A.map ah)))/\AllB 200 (af (pw S mm) (prd (A.map ah)))/\(af (pw S mm) (prd (A.map ah))).length<=7) ?_ ?_
  case refine_2 =>
   intro rest;refine⟨_,rfl,_,_,rfl,rfl,⟨by show(0:Int)<3;decide,eO (by decide) (by decide)⟩,_,_,rfl,rfl,(by show(0:Int)<3;decide),_,_,rfl,rfl,_,rfl,aP (λ_=>?_) (λ_=>?_)⟩
   ·have ht2:=s2 _ _ ht;obtain⟨dl,hl2⟩:=hl.same s2;refine cD ⟨_,rfl,_,rfl,t,_,_,_,rfl,rfl,SqT.of ht2,rfl,l,C,dl,_,_,rfl,hl2,R.cl,R.nT,c8 _ _,_,rfl,_,rfl,t,_,_,_,rfl,rfl,SqT.of ht2,rfl,l,C,dl,_,_,rfl,hl2,R.cl,R.nB,ca _ _,by show 2<=sizeLine;omega,λql hql=>?_⟩;have s3:Same H2 (upd H2 ql (.lst [V.int (-l1),V.int l2])):=Same.upd_new hql;have bY:AllB 64 [-l1,l2]:=kD (bl1.neg.mono) (bl2.mono);refine⟨q,ql,pw S mm,[-l1,l2],rfl,s3 _ _ e2,au,g2.ne,by simp,by omega,by show 2<=1000;decide,g2.bits.mono,bY.mono,λq' H4 s4 hq' e4=>?_⟩
    have e:[-l1,l2]=prd (([[l1,0,l2]]:List (List Int)).map ah):=by show _=af (ah [l1,0,l2]) [1];rw[cX,oK l2p gl]
    obtain⟨m1,m2,m3⟩:=g2.mul (Y:=[-l1,l2]) (by simp) (by show 2<=3;decide) bY b2 n2 (by decide) (by decide);rw[e]at e4 m1 m2 m3;exact rest _ _ ⟨q',[[l1,0,l2]],rfl,(s2.trans s3).trans s4,(s2.trans s3).free hq',e4,.inr rfl,m1,m2.mono,m3⟩
   ·have e:af (pw S mm) (prd (([]:List (List Int)).map ah))=pw S mm:=cX _;exact rest _ _ ⟨q,[],rfl,s2,hq,by rw[e];exact e2,.inl rfl,by rw[e];exact g2,by rw[e];exact b2.mono,by rw[e];omega⟩
  clear e2 hq s2 q g2 b2 n2;rintro σ' H2 ⟨q,A1,rfl,s2,hq,e2,hA1,g2,b2,n2⟩;generalize hX:af (pw S mm) (prd (A1.map ah))=X at e2 g2 b2 n2
  have h1':=kE hW.bu;have h2':=kE hW.bv;have bau:Bits 1000 ((u.natAbs:Nat):Int):=gP (n:=2^21) (by rw[Qq];exact h1') (Rn (by decide) (by decide));have bav:Bits 1000 ((v.natAbs:Nat):Int):=gP (n:=2^21) (by rw[Qq];exact h2') (Rn (by decide) (by decide));refine av ⟨_,rfl,_,rfl,_,rfl,_,rfl,_,rfl,_,_,rfl,rfl,⟨by rw[mR];exact bav.mono,hW.bd.mono⟩,_,_,rfl,rfl,_,_,rfl,rfl,_,rfl,_,_,rfl,rfl,⟨by show(0:Int)<9;decide,eO (by decide) (by decide)⟩,_,_,rfl,rfl,(by show(0:Int)<50;decide),_,_,rfl,rfl,?_⟩;show cI _ _ _ _ _;refine dZ (λσ' H'=>∃far:Int,σ'=[some (.ref p),some (.ref t),some (.int cell),some (.int u),some (.int v),some (.int w),some (.int d),some (.ref q),some (.int far)]/\H2=H'/\(u.natAbs:Int)+(v.natAbs:Int)*d+100<=far/\far<=100000000) ⟨_,rfl,rfl,?_⟩ ?_
  ·rw[mR,mR];obtain⟨m0,m1⟩:=iQ (x:=cell/9) (m:=50) (by decide);have e21:(2:Nat)^21=2097152:=rfl;have hvd:(v.natAbs:Int)*d<=2097152*13:=QX (by omega) hW.d13 (by have:=hW.d2;omega) (by decide);omega
  rintro σ' H3 ⟨far,rfl,rfl,f1,f2⟩;have nvd:0<=(v.natAbs:Int)*d:=P5 (by omega) (by have:=hW.d2;omega);have bfar:Bits 64 far:=gP (n:=100000001) (by omega) (by decide);have b1':Bits 64 (1:Int):=b1k (by decide);refine dN (λσ' H'=>∃(q:Addr) (B:List (List Int)),σ'=[some (.ref p),some (.ref t),some (.int cell),some (.int u),some (.int v),some (.int w),some (.int d),some (.ref q),some (.int far)]/\Same H H'/\H q=none/\H' q=some (.lst ((af X (prd (B.map ah))).map V.int))/\(B=[]\/(B=[[-far,0,1]]/\cell/450%3=1))/\Got (af X (prd (B.map ah)))/\AllB 280 (af X (prd (B.map ah)))/\(af X (prd (B.map ah))).length<=9) ?_ ?_
  case refine_2 =>
   intro rest;refine⟨_,rfl,_,_,rfl,rfl,⟨by show(0:Int)<450;decide,eO (by decide) (by decide)⟩,_,_,rfl,rfl,(by show(0:Int)<3;decide),_,_,rfl,rfl,_,rfl,aP (λh0=>?_) (λ_=>?_)⟩
   ·refine cD ⟨_,rfl,_,rfl,by show 2<=sizeLine;omega,λql hql=>?_⟩;have s3:Same H2 (upd H2 ql (.lst [V.int far,V.int 1])):=Same.upd_new hql;have bY:AllB 64 [far,1]:=kD bfar b1';refine⟨q,ql,X,[far,1],rfl,s3 _ _ e2,au,g2.ne,by simp,by omega,by show 2<=1000;decide,g2.bits.mono,bY.mono,λq' H4 s4 hq' e4=>?_⟩
    have e:[far,1]=prd (([[-far,0,1]]:List (List Int)).map ah):=by show _=af (ah [-far,0,1]) [1];rw[cX,j3,Int.neg_neg]
    obtain⟨m1,m2,m3⟩:=g2.mul (Y:=[far,1]) (by simp) (by show 2<=3;decide) bY b2 n2 (by decide) (by decide);rw[e]at e4 m1 m2 m3;exact rest _ _ ⟨q',[[-far,0,1]],rfl,(s2.trans s3).trans s4,(s2.trans s3).free hq',e4,.inr ⟨rfl,h0⟩,m1,m2.mono,m3⟩
   ·have e:af X (prd (([]:List (List Int)).map ah))=X:=cX _;exact rest _ _ ⟨q,[],rfl,s2,hq,by rw[e];exact e2,.inl rfl,by rw[e];exact g2,by rw[e];exact b2.mono,by rw[e];omega⟩
  clear e2 hq s2 q;rintro σ' H2 ⟨q,B1,rfl,s2,hq,e2,hB1,g3,b3,n3⟩;refine dN (λσ' H'=>∃(q:Addr) (B:List (List Int)),σ'=[some (.ref p),some (.ref t),some (.int cell),some (.int u),some (.int v),some (.int w),some (.int d),some (.ref q),some (.int far)]/\Same H H'/\H q=none/\H' q=some (.lst ((af X (prd (B.map ah))).map V.int))/\(B=[]\/(B=[[-far,0,1]]\/B=[[far,0,1]]))/\Got (af X (prd (B.map ah)))/\AllB 280 (af X (prd (B.map ah)))/\(af X (prd (B.map ah))).length<=9) ?_ ?_
  case refine_2 =>
   intro rest;refine⟨_,rfl,_,_,rfl,rfl,⟨by show(0:Int)<450;decide,eO (by decide) (by decide)⟩,_,_,rfl,rfl,(by show(0:Int)<3;decide),_,_,rfl,rfl,_,rfl,aP (λh0=>?_) (λ_=>?_)⟩
   ·have h0':cell/450%3=2:=h0
    have eB:B1=[]:=by
     rcases hB1 with z |⟨_,z⟩
     ·exact z
     ·omega
    subst eB;have eX:af X (prd (([]:List (List Int)).map ah))=X:=cX _;rw[eX]at e2;refine cD ⟨_,rfl,_,rfl,_,rfl,by show 2<=sizeLine;omega,λql hql=>?_⟩;have s3:Same H2 (upd H2 ql (.lst [V.int (-far),V.int 1])):=Same.upd_new hql;have bY:AllB 64 [-far,1]:=kD bfar.neg b1';refine⟨q,ql,X,[-far,1],rfl,s3 _ _ e2,au,g2.ne,by simp,by omega,by show 2<=1000;decide,g2.bits.mono,bY.mono,λq' H4 s4 hq' e4=>?_⟩
    have e:[-far,1]=prd (([[far,0,1]]:List (List Int)).map ah):=by show _=af (ah [far,0,1]) [1];rw[cX,j3]
    obtain⟨m1,m2,m3⟩:=g2.mul (Y:=[-far,1]) (by simp) (by show 2<=3;decide) bY b2 n2 (by decide) (by decide);rw[e]at e4 m1 m2 m3;exact rest _ _ ⟨q',[[far,0,1]],rfl,(s2.trans s3).trans s4,(s2.trans s3).free hq',e4,.inr (.inr rfl),m1,m2.mono,m3⟩
   ·exact rest _ _ ⟨q,B1,rfl,s2,hq,e2,by rcases hB1 with z |⟨z,_⟩;exact .inl z;exact .inr (.inl z),g3,b3,n3⟩
  clear e2 hq s2 q g3 b3 n3 hB1 g2 b2 n2;rintro σ' H2 ⟨q,B1',rfl,s2,hq,e2,hB,g2,b2,n2⟩;generalize hY:af X (prd (B1'.map ah))=Y at e2 g2 b2 n2
  refine dN (λσ' H'=>∃(q:Addr) (D:List (List Int)),σ'=[some (.ref p),some (.ref t),some (.int cell),some (.int u),some (.int v),some (.int w),some (.int d),some (.ref q),some (.int far)]/\Same H H'/\H q=none/\H' q=some (.lst ((af Y (prd (D.map ah))).map V.int))/\(D=[]\/∃k:Int,1<=k/\k<=7/\D=[[0,-k,1]])/\Got (af Y (prd (D.map ah)))) ?_ ?_
  case refine_2 =>
   intro rest;refine⟨_,rfl,_,_,rfl,rfl,⟨by show(0:Int)<1350;decide,eO (by decide) (by decide)⟩,_,_,rfl,rfl,(by show(0:Int)<2;decide),_,_,rfl,rfl,_,rfl,aP (λh0=>?_) (λ_=>?_)⟩
   ·obtain⟨m0,m1⟩:=iQ (x:=cell/2700) (m:=7) (by decide);refine cD ⟨_,rfl,_,rfl,_,_,rfl,rfl,⟨by show(0:Int)<2700;decide,eO (by decide) (by decide)⟩,_,_,rfl,rfl,(by show(0:Int)<7;decide),_,_,rfl,rfl,by show 3<=sizeLine;omega,λql hql=>?_⟩;have s3:Same H2 (upd H2 ql (.lst [V.int (1+cell/2700%7),V.int 0,V.int 1])):=Same.upd_new hql
    have bY:AllB 64 [1+cell/2700%7,0,1]:=λx hx=>by
     rcases PM.mp hx with rfl |hx
     ·exact gP (n:=9) (by omega) (by decide)
     rcases PM.mp hx with rfl |hx
     ·exact Bits.zero
     ·rw[PQ.mp hx];exact b1'
    refine⟨q,ql,Y,[1+cell/2700%7,0,1],rfl,s3 _ _ e2,au,g2.ne,by simp,by omega,by show 3<=1000;decide,g2.bits.mono,bY.mono,λq' H4 s4 hq' e4=>?_⟩
    have e:[1+cell/2700%7,0,1]=prd (([[0,-(1+cell/2700%7),1]]:List (List Int)).map ah):=by show _=af (ah [0,-(1+cell/2700%7),1]) [1];rw[cX,tf (by omega)]
    obtain⟨m1',_,_⟩:=g2.mul (Y:=[1+cell/2700%7,0,1]) (by simp) (by show 3<=3;decide) bY b2 n2 (by decide) (by decide);rw[e]at e4 m1';exact rest _ _ ⟨q',_,rfl,(s2.trans s3).trans s4,(s2.trans s3).free hq',e4,.inr ⟨_,by omega,by omega,rfl⟩,m1'⟩
   ·have e:af Y (prd (([]:List (List Int)).map ah))=Y:=cX _;exact rest _ _ ⟨q,[],rfl,s2,hq,by rw[e];exact e2,.inl rfl,by rw[e];exact g2⟩
  clear e2 hq s2 q g2 b2 n2;rintro σ' H2 ⟨q,D1,rfl,s2,hq,e2,hD,g2⟩;generalize hZ:af Y (prd (D1.map ah))=Z at e2 g2
  have g2l:=g2.len;obtain⟨x,hx,ex⟩:=B8 (xs:=[V.int 1,V.int (-1),V.int 6,V.int (-35)]) (n:=4) rfl (by decide) (cell/18900)
  obtain⟨c,rfl,hc0,hcb⟩:∃c:Int,x=.int c/\c≠0/\Bits 10 c:=by
   simp only[PM,QJ,or_false]at hx;rcases hx with rfl |rfl |rfl |rfl
   ·exact⟨_,rfl,by decide,by show(1:Int).natAbs<2^10;decide⟩
   ·exact⟨_,rfl,by decide,by show(-1:Int).natAbs<2^10;decide⟩
   ·exact⟨_,rfl,by decide,by show(6:Int).natAbs<2^10;decide⟩
   ·exact⟨_,rfl,by decide,by show(-35:Int).natAbs<2^10;decide⟩
  refine bj ⟨_,rfl,q,rfl,⟨_,SqL.of e2⟩,jh (K:=K) (a:=q) (xs:=Z.map V.int) (λi ys σ' H'=>∃(z0:Option V),σ'=[z0,some (.int cell)]/\ys=(scL c (Z.take i)).map V.int/\Same H2 H') (by rw[PC];omega) ⟨none,rfl,rfl,Same.refl _⟩ ?_ ?_ ?_⟩
  ·rintro i ys σ' H' _ ⟨z0,rfl,rfl,sm⟩;exact⟨SqL.of (sm _ _ e2),by rw[PC,cv,QB];exact RP _ _⟩
  ·rintro i x ys σ' H' hi ⟨z0,rfl,rfl,sm⟩;obtain⟨y,_,rfl,hm,et⟩:=fO hi;refine⟨_,rfl,_,rfl,_,rfl,by show 4<=sizeLine;omega,λql hql=>?_⟩;refine⟨_,rfl,_,_,rfl,rfl,⟨by show(0:Int)<18900;decide,Ds (by decide) (by decide)⟩,_,_,rfl,rfl,(by show(0:Int)<4;decide),ql,_,_,_,rfl,rfl,SqL.of au,ex,_,_,rfl,rfl,⟨(g2.bits y hm).mono,hcb.mono⟩,_,rfl,?_,sm.then_new hql⟩;rw[et];simp[scL,P9]
  ·rintro ys σ' H' pz ⟨z0,rfl,rfl,sm⟩ hpz;refine k mm A1 B1' D1 c ⟨hmm,hA1,?_,hD,hc0,hcb⟩ pz _ (s2.trans (sm.then_new hpz)) ((s2.trans sm).free hpz) ?_
   ·rcases hB with z |z
    ·exact .inl z
    ·exact .inr ⟨far,f1,f2,z⟩
   ·rw[au,PC,QU]
    have e:whl c (usP S mm (A1++(B1'++D1)))=scL c Z:=by
     rw[fW]
     have:fP id (usP S mm (A1++(B1'++D1)))=Z:=by show af (pw S mm) (fP id _)=_;rw[m9 id rfl,Qk,Qk,lJ,lJ,<- hZ,<- hY,<- hX,ic,ic]
     rw[this]
    rw[e]
theorem zG(i:Nat):((i:Int)%2=0)↔i%2=0:=by omega
theorem FO(F:Fun K "turned" "turned" qA f fd)(T:Txt K mg):FnOk P w K mg base CX0 1 f fd ["row"] (sp1 turnL):=by
 refine F.ok DV (λvs H Q E h=>?_) (λcdv A outer s H vs Q E hr h=>?_)
 ·obtain⟨a,ns,rfl,_⟩:=h;rfl
 ·obtain⟨a,ns,rfl,hA,hn,hb,k⟩:=h;have big:=sizeLine_eq;refine⟨_,(al (aC (fI (own:=["k","value"]) (fr:=[]) (js:=[]) (by walk_at "comp_ok") rfl (om rfl T.enumerate_ (aa (pv 0) ac)) (λ_ _ _ _=>(Ft (K:=K) (n:=2) rfl rfl (cu (aS (i:=0) (show List.Nodup (["k","value"]:List Str)from by decide +kernel) rfl (Or.inl rfl) (Or.inr rfl)) (cu (aS (i:=1) (show List.Nodup (["k","value"]:List Str)from by decide +kernel) rfl (Or.inl rfl) (Or.inr rfl)) gz rfl) rfl) rfl rfl)) (λ_ _ _ _=>(oo (aH cW (aj cR (pv 0) ad) ad (aG _)) (pv 1) (bK bJ (pv 1))))))),?_⟩;have hl:(ns.map V.int).length=ns.length:=PC _;refine bj ⟨_,rfl,a,rfl,⟨_,SqL.of hA⟩,K0 (K:=K) (a:=a) (xs:=ns.map V.int) (λi ys σ' H'=>∃z y:Option V,σ'=[z,y]/\ys=((List.range i).map λ(j:Nat)=>V.int (if j%2=0 then cf ns j else -cf ns j))/\Same H H') (by rw[hl];omega) ⟨none,none,rfl,rfl,Same.refl _⟩ ?_ ?_ ?_⟩
  ·rintro i ys σ' H' _ ⟨z,y,rfl,rfl,sm⟩;exact⟨SqL.of (sm _ _ hA),by simp⟩
  ·rintro i x ys σ' H' q hi ⟨z,y,rfl,rfl,sm⟩ hq;obtain⟨c,ec,rfl,_,_⟩:=fO hi;have hc:cf ns i=c:=uY ec;refine⟨q,_,rfl,SqT.of au,rfl,_,_,rfl,_,_,rfl,rfl,?_⟩;refine⟨_,rfl,_,_,rfl,rfl,(by show(0:Int)<2;decide),_,_,rfl,rfl,_,rfl,?_⟩;refine aP (λh=>?_) (λh=>?_)
   ·refine⟨_,rfl,_,_,rfl,?_,sm.then_new hq⟩;rw[<- sJ,if_pos ((zG i).mp h),hc]
   ·refine⟨_,rfl,_,rfl,_,_,rfl,?_,sm.then_new hq⟩;rw[<- sJ,if_neg (λz=>h ((zG i).mpr z)),hc]
  ·rintro ys σ' H' p ⟨z,y,rfl,rfl,sm⟩ hp;refine k p _ (sm.then_new hp) (sm.free hp) ?_;rw[au,hl];unfold RM.turnL;rw[QL];rfl
theorem Cn{u v w d l1 l2 h1 h2:Int}{kb:Nat}(hW:WOk u v w d)(en:EndsG kb l1 l2 h1 h2)(ol:0<v->u*l2<=l1*w)(oh:v<0->h1*w<=u*h2)(lU:UpW u v w d l1 l2)(hU:¬UpW u v w d h1 h2):∃ε:Int,Spt [u,d*v*v,w,bZ v]/\RootU (cF u v w d) l1 l2 h1 h2 ε (λt n=>0<ap [u,d*v*v,w,bZ v] t n)/\∀x1 x2,0<x2->l1*x2<x1*l2->x1*h2<=h1*x2->sg (hv x1 x2 (cF u v w d)) = -ε*ap [u,d*v*v,w,bZ v] x1 x2:=by
 have hF:Fam [[u,d*v*v,w]]:=⟨λf hf=>by rw[PQ.mp hf];exact kj hW,by simp⟩;obtain⟨hO,hc⟩:=za hW.ns hF en.l2p en.h2p en.lt lU hU ol oh (λx hx=>nomatch hx);obtain⟨pre,s,post,e,hin,hno⟩:=mI hc;have es:=hO.only s (by rw[e];simp) hin.1 hin.2;have hsp:Spt s:=dD hF.q (by rw[e];simp);obtain⟨ε,e1,hs⟩:=Ev (c:=1) hF.q (by decide) e en.l2p en.h2p en.lt hno;rw[show af [1] (aQ [1] ([[u,d*v*v,w]].map ah))=cF u v w d from hF.one.trans ((oe hF).trans (oN (by have:=hW.d2;omega)).symm)]at hs;rw[<- es];refine⟨ε,hsp,⟨e1,λx1 x2 p a b up=>?_,λx1 x2 p a b up=>?_,λx1 x2 y1 y2 p q a b up lt=>?_,λx1 x2 y1 y2 p q eq up=>?_,hin.1,λz=>?_⟩,hs⟩
 ·have up':0<ap s x1 x2:=up;have:ap s x1 x2=1:=by rcases fE s x1 x2 with z |z |z<;>omega
  rw[hs x1 x2 p a b,this];omega
 ·have up':¬0<ap s x1 x2:=up;rw[hs x1 x2 p a b];rcases fE s x1 x2 with z |z |z
  ·omega
  ·right;rw[z];omega
  ·left;rw[z];omega
 ·have up':¬0<ap s x1 x2:=up
  have ha:l1*y2<y1*l2:=by
   refine ir p ?_;have q1:=Qv a q;have q2:=Qv lt en.l2p;have e1:l1*y2*x2=l1*x2*y2:=by grind
   have e2:x1*l2*y2=x1*y2*l2:=by grind
   have e3:y1*l2*x2=y1*x2*l2:=by grind
   omega
  rw[hs y1 y2 q ha b,gY hsp p q lt (Rh.mp up')];omega
 ·show 0<ap s y1 y2;rw[<- k9 s p q eq];exact up
 ·have z':0<ap s h1 h2:=z;have:=hin.2;omega
structure WN(C CN:Addr)(H:Hp)(x:Addr)(u v w d l1 l2 h1 h2:Int):Prop where
 nu:∃q l h,NA CN H x q l h/\H q=some (.lst ((cF u v w d).map V.int))/\RA C H l l1 l2/\RA C H h h1 h2
 en:EndsG 40 l1 l2 h1 h2
 ol:0<v->u*l2<=l1*w
 oh:v<0->h1*w<=u*h2
 lU:UpW u v w d l1 l2
 hU:¬UpW u v w d h1 h2
 ok:WOk u v w d
theorem WN.same{C CN:Addr}{H H':Hp}{x:Addr}{u v w d l1 l2 h1 h2:Int}(n:WN C CN H x u v w d l1 l2 h1 h2)(s:Same H H'):WN C CN H' x u v w d l1 l2 h1 h2:=by obtain⟨q,l,h,a,e,c,d⟩:=n.nu;exact⟨⟨q,l,h,a.same s,s _ _ e,c.same s,d.same s⟩,n.en,n.ol,n.oh,n.lU,n.hU,n.ok⟩
theorem WN.sg{C CN:Addr}{H:Hp}{x:Addr}{u v w d l1 l2 h1 h2:Int}(n:WN C CN H x u v w d l1 l2 h1 h2):∃ε,NSg 40 C CN H x (cF u v w d) l1 l2 h1 h2 ε [u,d*v*v,w,bZ v]:=by obtain⟨ε,hsp,hru,hsg⟩:=Cn n.ok n.en n.ol n.oh n.lU n.hU;obtain⟨q,l,h,a,e,c,d⟩:=n.nu;exact⟨ε,⟨q,l,h,a,e,c,d,n.en,hru⟩,hsp,hsg⟩
theorem zY{u v w d:Int}(hW:WOk u v w d):Tr (cF u v w d)/\cF u v w d≠[]/\(cF u v w d).length<=12/\AllB 1000 (cF u v w d):=by obtain⟨bS,lS⟩:=iE (kj hW);have pS:=(fQ (kj hW)).pln;rw[oN (by have:=hW.d2;omega)];exact⟨pS.tr,pS.ne,by omega,bS.mono⟩
theorem WOk.neg{u v w d:Int}(h:WOk u v w d):WOk (-u) (-v) w d:=⟨h.bu.neg,h.bv.neg,h.w1,h.w12,h.d2,h.d13,h.ns⟩
theorem IC{u w:Int}(hw:0<w):aw [-u,w]=[-rt u w,rb u w]:=by
 have h0:w≠0:=by omega
 have e1:=g6 (t:=u) h0;have e2:=gu (t:=u) h0;have h1:=dk (t:=u) h0
 have e:[-u,w]=scL (dv u w) [-rt u w,rb u w]:=by show _=[dv u w * -rt u w,dv u w*rb u w];rw[e2,Rr,e1]
 rw[e,g8 (mF h0) (kP (by omega))];unfold aw
 rw[x9 (.inr (by
  show Nat.gcd (Nat.gcd 0 (-rt u w).natAbs) (rb u w).natAbs=1
  rw[RU,QT];exact g7 h0))]
 unfold cz;have e3:ao [-rt u w,rb u w]=rb u w:=rfl;rw[e3,if_neg (by omega)]
theorem sv{t b:Int}(hb:0<b)(h:Nat.gcd t.natAbs b.natAbs=1):rt t b=t/\rb t b=b:=by
 have h0:b≠0:=by omega
 have e:dv t b=1:=by unfold dv;rw[if_neg (by omega),h];rfl
 have e1:=g6 (t:=t) h0;have e2:=gu (t:=t) h0;rw[e,PY]at e1 e2;exact⟨e1,e2⟩
inductive xu(C CN:Addr)(vs:List V)(H:Hp)(Q:VK)(E:XK):Prop
 |mk (a:Addr) (t b:Int):vs=[.ref a]->H a=some (.lst ([-t,b].map V.int))->0<b->Nat.gcd t.natAbs b.natAbs=1->Bits 30 t->Bits 30 b->(∀(y q l h:Addr) (H':Hp) (x1 x2:Int),Same H H'->H y=none->NA CN H' y q l h->H' q=some (.lst ([-t,b].map V.int))->RA C H' l x1 x2->RA C H' h t b->EndsG 40 x1 x2 t b->x1*b=(t-b)*x2->Q (.ref y) H')->xu C CN vs H Q E
theorem Gn(F:Fun K "only_root" "only_root" qX f fd)(T:Txt K mg)(R:RCI K mg C)(RN:NCI K mg CN)(ci:KCal P w K mg base 2 C "Ratio" ["self","top","bottom"] (c9 C) dS dR dW [.int 1])(jE:MCal P w K mg base 4 C "minus" ["self","other"] (kX C) uI uA)(jG:KCal P w K mg base 1 CN "Number" ["self","row","low","high"] (iC CN) uJ uB uN []):FnOk P w K mg base CX0 5 f fd ["row"] (xu C CN):=by
 obtain⟨bH,bF,bC,bX,cO,cM⟩:=ci;obtain⟨iy,ie,iu⟩:=jE;obtain⟨jz,jt,iW,jq,vv,uS⟩:=jG;refine F.ok sc_only_root (λvs H Q E h=>?_) (λcdv A outer s H vs Q E hr h=>?_)
 ·obtain⟨a,t,b,rfl,_⟩:=h;rfl
 ·obtain⟨a,t,b,rfl,hA,hb,hg,bt,bb,k⟩:=h
  refine⟨_,(ag (ak (i:=1) sc_only_root.nd rfl (Or.inl rfl) (b9 bF bH (hr.mono) rfl bC bX .nil ai (aa (bK bJ (aE (b5 (K:=K) rfl) (pv 0) ad (λ_ _=>rfl))) (aa (aE (b5 (K:=K) rfl) (pv 0) ad (λ_ _=>rfl)) ac))))
   (al (aC (b9 jt jz (hr.mono) rfl iW jq .nil ai (aa (pv 0) (aa (c7 (pv 1) R.cl ie iy (hr.mono) iu .nil ai (aa (b9 bF bH (hr.mono) rfl bC cO cM ai (aa ad ac)) ac)) (aa (pv 1) ac))))))),?_⟩
  obtain⟨q1,q2⟩:=sv hb hg;refine av ⟨_,rfl,a,_,_,_,rfl,rfl,SqL.of hA,rfl,_,rfl,_,rfl,a,_,_,_,rfl,rfl,SqL.of hA,rfl,cU (t := - -t) (b:=b) (by omega) (bb.mono) λr H1 s1 hr1 hR1=>?_⟩;rw[Int.neg_neg,q1,q2]at hR1;obtain⟨dr,hr'⟩:=id hR1;have hA1:=s1 _ _ hA;refine bj ⟨_,rfl,_,rfl,r,dr,_,rfl,hr',de _ _ hJ.1 hJ.2,cU (t:=1) (b:=1) (by decide) (b1k (by decide)) λr1 H2 s2 hr2 hR2=>?_⟩;rw[jT,jW]at hR2;refine⟨r,r1,t,b,1,1,30,1,rfl,hR1.same s2,hR2,bt.mono,bb,b1k (by decide),b1k (by decide),by decide,hb,by decide,λr3 H3 s3 hr3 hR3=>?_⟩;have d0:b*1≠0:=by omega
  have er:=fb (t:=t*1-1*b) d0;have r2p:0<rb (t*1-1*b) (b*1):=dk d0;have rg:=g7 (t:=t*1-1*b) d0;have br1:Bits 40 (rt (t*1-1*b) (b*1)):=eU d0 (by rw[P8,PY];exact(Bits.sub bt bb).mono);have br2:Bits 40 (rb (t*1-1*b) (b*1)):=eY d0 (by rw[P8];exact bb.mono);generalize rt (t*1-1*b) (b*1)=x1 at *
  generalize rb (t*1-1*b) (b*1)=x2 at *
  have hR3':=hR1.same (s2.trans s3)
  have e1:x1*b=(t-b)*x2:=by have:x1*(b*1)=(t*1-1*b)*x2:=er;rw[P8,P8,PY]at this;exact this
  refine⟨_,rfl,oG ((s2.trans s3) _ _ hA1) λy q H4 s4 hy hN hq hqn=>?_⟩;have t4:=(s1.trans (s2.trans s3));refine k y q r3 r H4 x1 x2 (t4.trans s4) (t4.free hy) hN hq (hR3.same s4) (hR3'.same s4) ⟨r2p,hb,br1,br2,bt.mono,bb.mono,?_,rg,hg⟩ e1;have e2:(t-b)*x2=t*x2-b*x2:=by grind
  have:=PB hb r2p;omega
theorem Cz(a b c:Int):turnL [a,b,c]=[a,-b,c]:=by
 apply dU
 ·rfl
 ·intro k hk;rw[BJ];rcases k with _ |_ |_ |k
  ·rfl
  ·rfl
  ·rfl
  ·exact absurd hk (by rw[pL];simp)
theorem IF{u v w d:Int}(hw:0<w):aw (turnL (cF u v w d))=cF (-u) (-v) w d:=by
 unfold cF;by_cases hv:v=0
 ·rw[if_pos hv,if_pos (by omega),wn (kP (by omega)) hw]
  have e:turnL [-u,w]=scL (-1) [- -u,w]:=by show[-u,-w]=[-1 * - -u,-1*w];rw[Int.neg_neg,RL,RL]
  rw[e,g8 (by decide) (kP (by omega))]
 ·have hww:0<w*w:=PB hw hw;rw[if_neg hv,if_neg (by omega),wn (pM (by omega)) hww]
  have e:turnL [u*u-d*v*v,-2*u*w,w*w]=[-u * -u-d * -v * -v,-2 * -u*w,w*w]:=by rw[Cz,show -u * -u-d * -v * -v=u*u-d*v*v by grind,show -2 * -u*w = -(-2*u*w) by grind]
  rw[e]
theorem oO{u v w d:Int}(hw:0<w):(v=0->cF u v w d=[-rt u w,rb u w])/\(v≠0->(cF u v w d).length=3):=by
 unfold cF;refine⟨λh=>by rw[if_pos h];exact IC hw,λh=>?_⟩;rw[if_neg h];unfold aw cz;split
 ·rw[PC];exact PC _
 ·exact PC _
inductive xt(C CN:Addr)(vs:List V)(H:Hp)(Q:VK)(E:XK):Prop
 |mk (x:Addr) (u v w d l1 l2 h1 h2:Int):vs=[.ref x]->WN C CN H x u v w d l1 l2 h1 h2->(∀(y:Addr) (H':Hp) (a1 a2 b1 b2:Int),Same H H'->H y=none->WN C CN H' y (-u) (-v) w d a1 a2 b1 b2->Q (.ref y) H')->xt C CN vs H Q E
theorem Gm(F:Fun K "opposite" "opposite" qW f fd)(T:Txt K mg)(R:RCI K mg C)(RN:NCI K mg CN)(gS:Cal P w K mg base 34 "plain" ["row"] jO o4 o2)(MZ:Cal P w K mg base 1 "turned" ["row"] (sp1 turnL) OL NY)(eK:Cal P w K mg base 1 "degree" ["row"] gX km ki)(Nj:Cal P w K mg base 5 "only_root" ["row"] (xu C CN) OZ Od)(jG:KCal P w K mg base 1 CN "Number" ["self","row","low","high"] (iC CN) uJ uB uN [])(ci:KCal P w K mg base 2 C "Ratio" ["self","top","bottom"] (c9 C) dS dR dW [.int 1])(jE:MCal P w K mg base 4 C "minus" ["self","other"] (kX C) uI uA):FnOk P w K mg base CX0 35 f fd ["one"] (xt C CN):=by
 obtain⟨fU,fM,fN,fT⟩:=gS;obtain⟨Mn,HK,IU,Lv⟩:=MZ;obtain⟨dA,dm,dq,dz⟩:=eK;obtain⟨MA,HY,Je,LJ⟩:=Nj;obtain⟨jz,jt,iW,jq,vv,uS⟩:=jG;obtain⟨bH,bF,bC,bX,cO,cM⟩:=ci;obtain⟨iy,ie,iu⟩:=jE;refine F.ok sc_opposite (λvs H Q E h=>?_) (λcdv A outer s H vs Q E hr h=>?_)
 ·obtain⟨x,u,v,w,d,l1,l2,h1,h2,rfl,_⟩:=h;rfl
 ·obtain⟨x,u,v,w,d,l1,l2,h1,h2,rfl,hN,k⟩:=h;obtain⟨q,l,h,⟨dx,hx⟩,hq,hl,hh⟩:=id hN.nu;have hW:=hN.ok;have hw:=hW.w1;have en:=hN.en;obtain⟨g1,g2,g3,g4⟩:=zY hW
  refine⟨_,(ag (ak (i:=1) sc_opposite.nd rfl (Or.inl rfl) (aq fU (hr.mono) rfl fM fN fT .nil ai (aa (aq Mn (hr.mono) rfl HK IU Lv .nil ai (aa (aN (K:=K) rfl (pv 0) rfl) ac)) ac)))
   (ag (aR (aH cW (aq dA (hr.mono) rfl dm dq dz .nil ai (aa (pv 1) ac)) ad (aG _))
     (al (aC (aq MA (hr.mono) rfl HY Je LJ .nil ai (aa (pv 1) ac))))
     aU)
   (al (aC (b9 jt jz (hr.mono) rfl iW jq .nil ai (aa (pv 1) (aa (c7 (b9 bF bH (hr.mono) rfl bC cO cM ai (aa ad ac)) R.cl ie iy (hr.mono) iu .nil ai (aa (aN (K:=K) rfl (pv 0) rfl) ac)) (aa (c7 (b9 bF bH (hr.mono) rfl bC cO cM ai (aa ad ac)) R.cl ie iy (hr.mono) iu .nil ai (aa (aN (K:=K) rfl (pv 0) rfl) ac)) ac)))))))),?_⟩
  refine av ⟨_,rfl,x,CN,dx,_,_,rfl,hx,RN.cl,RN.nP,uo _ _ _,q,_,rfl,hq,by omega,g4.mono,λp H1 s1 hp e1=>?_⟩;refine⟨p,_,rfl,e1,wm g1,by rw[pL];omega,λp2 H2 s2 hp2 e2=>?_⟩;rw[IF hw]at e2;have t2:=s1.trans s2;refine cs ⟨_,rfl,p2,_,rfl,e2,_,_,rfl,rfl,_,rfl,aP (λh0=>?_) (λh0=>?_)⟩
  ·have hv:v=0:=Classical.byContradiction λz=>by have h3:=(oO (u := -u) (v := -v) (d:=d) hw).2 (by omega);have h0':(((cF (-u) (-v) w d).map V.int).length:Int)-1=1:=h0;rw[PC,h3]at h0';exact absurd h0' (by decide)
   subst hv;have eL:=(oO (u := -u) (v := -0) (d:=d) hw).1 rfl;have w0:w≠0:=by omega
   have bt:Bits 30 (rt (-u) w):=(eU w0 hW.bu.neg).mono;have bb:Bits 30 (rb (-u) w):=(eY w0 hW.bw).mono;have rc:=fb (t := -u) w0;have rp:=dk (t := -u) w0;rw[eL]at e2;refine bj ⟨_,rfl,p2,_,_,rfl,e2,rp,g7 w0,bt,bb,λy q' l' h' H3 x1 x2 s3 hy hNA hq' hl' hh' en' ex=>?_⟩;refine k y H3 x1 x2 _ _ (t2.trans s3) (t2.free hy) ⟨⟨q',l',h',hNA,by rw[eL];exact hq',hl',hh'⟩,en',λz=>by omega,λz=>by omega,?_,?_,hW.neg⟩
   ·show 0<sgq (-u*x2-x1*w) (-0*x2) d;have hp2':=en'.l2p
    have e3:(-u*x2-x1*w)*rb (-u) w=(w*x2)*rb (-u) w:=by
     have q1:(-u*x2-x1*w)*rb (-u) w=(-u*rb (-u) w)*x2-(x1*rb (-u) w)*w:=by grind
     have q2:rt (-u) w*w = -u*rb (-u) w:=rc;rw[q1,ex,<- q2];grind
    have e4 : -u*x2-x1*w=w*x2:=RX (by omega) e3;rw[e4,show -0*x2=0 by omega,dY (PD (PB hw hp2')) (Qg _) (.inl (PB hw hp2'))];decide
   ·show ¬0<sgq (-u*rb (-u) w-rt (-u) w*w) (-0*rb (-u) w) d;have q2:rt (-u) w*w = -u*rb (-u) w:=rc;rw[q2,Int.sub_self,show -0*rb (-u) w=0 by omega,li];decide
  have hv:v≠0:=λz=>by subst z;have e3:=(oO (u := -u) (v := -0) (d:=d) hw).1 rfl;rw[e3]at h0;exact h0 rfl
  refine bj ⟨_,rfl,cU (t:=0) (b:=1) (by decide) (b1k (by decide)) λr3 H3 s3 hr3 hR3=>?_⟩;rw[jT,jW]at hR3;obtain⟨d3,hR3'⟩:=id hR3;have t3:=t2.trans s3;refine⟨r3,d3,_,rfl,hR3',de _ _ hJ.1 hJ.2,_,rfl,x,CN,dx,_,_,rfl,t3 _ _ hx,RN.cl,RN.nH,AU _ _ _,r3,h,0,1,h1,h2,1,40,rfl,hR3,hh.same t3,Bits.zero,b1k (by decide),en.bh1.mono,en.bh2,by decide,by decide,en.h2p,λr4 H4 s4 hr4 hR4=>?_⟩;have eh:=sv (t := -h1) en.h2p (by rw[QT];exact en.gh);rw[show(0:Int)*h2-h1*1 = -h1 by omega,PY,eh.1,eh.2]at hR4;have t4:=t3.trans s4;refine cU (t:=0) (b:=1) (by decide) (b1k (by decide)) λr5 H5 s5 hr5 hR5=>?_
  rw[jT,jW]at hR5;obtain⟨d5,hR5'⟩:=id hR5;have t5:=t4.trans s5;refine⟨r5,d5,_,rfl,hR5',de _ _ hJ.1 hJ.2,_,rfl,x,CN,dx,_,_,rfl,t5 _ _ hx,RN.cl,RN.nL,AT _ _ _,r5,l,0,1,l1,l2,1,40,rfl,hR5,hl.same t5,Bits.zero,b1k (by decide),en.bl1.mono,en.bl2,by decide,by decide,en.l2p,λr6 H6 s6 hr6 hR6=>?_⟩;have el:=sv (t := -l1) en.l2p (by rw[QT];exact en.gl);rw[show(0:Int)*l2-l1*1 = -l1 by omega,PY,el.1,el.2]at hR6;have t6:=t5.trans s6;have s26:Same H2 H6:=(s3.trans s4).trans (s5.trans s6);refine oG (s26 _ _ e2) λy q' H7 s7 hy hNA hq' hqn=>?_
  have lU:=hN.lU;have hU:=hN.hU;refine k y H7 (-h1) h2 (-l1) l2 (t6.trans s7) (t6.free hy) ⟨⟨q',r4,r6,hNA,hq',hR4.same ((s5.trans s6).trans s7),hR6.same s7⟩,⟨en.h2p,en.l2p,en.bh1.neg,en.bh2,en.bl1.neg,en.bl2,?_,by rw[QT];exact en.gh,by rw[QT];exact en.gl⟩,λz=>?_,λz=>?_,?_,?_,hW.neg⟩
  ·have:=en.lt;rw[QF,QF];omega
  ·have:=hN.oh (by omega);rw[QF,QF];omega
  ·have:=hN.ol (by omega);rw[QF,QF];omega
  ·show 0<sgq (-u*h2 - -h1*w) (-v*h2) d;have hU':¬0<sgq (u*h2-h1*w) (v*h2) d:=hU;rw[show -u*h2 - -h1*w = -(u*h2-h1*w) by grind,QF,nU hW.ns];have h5:sgq (u*h2-h1*w) (v*h2) d≠0:=λz=>Qe hv (by have:=en.h2p;omega) (yd z).2
   omega
  ·show ¬0<sgq (-u*l2 - -l1*w) (-v*l2) d;have lU':0<sgq (u*l2-l1*w) (v*l2) d:=lU;rw[show -u*l2 - -l1*w = -(u*l2-l1*w) by grind,QF,nU hW.ns];omega
inductive p8(C:Addr)(vs:List V)(H:Hp)(Q:VK)(E:XK):Prop
 |mk (r:Addr) (t b:Int):vs=[.ref r]->RA C H r t b->0<b->Bits 2400 t->Bits 2400 b->(∀(p:Addr) (L:List Int) (H':Hp),Same H H'->H p=none->H' p=some (.lst (L.map V.int))->CfR t b L->L.length<=5000->Q (.ref p) H')->p8 C vs H Q E
theorem Lh{t b:Int}(hb:0<b)(hbt:b<t):2*(b*(t%b))<=t*b:=by
 obtain⟨f1,f2,f3⟩:=fl hb rfl;have hq:1<=t/b:=(Int.le_ediv_iff_mul_le hb).mpr (by rw[PY];exact PD hbt);have h1:=RO t hb;have h2:=P6 hq (PD hb);have h3:2*(t%b)<=t:=by rw[f3];rw[f3]at h1;omega
 have h4:=QA h3 (PD hb);have e1:b*(2*(t%b))=2*(b*(t%b)):=by grind
 have e2:b*t=t*b:=P9 _ _;omega
theorem Li{b t' b':Int}{n:Nat}(h1:1<=t'*b')(bb:Bits 2400 b)(h:t'*b'*2^n<=2*(b*b)):n<=4900:=Nat.not_lt.mp λz=>by
 have h2:(2:Int)^4900<=2^n:=Int.ofNat_le.mpr (Rn (by decide) (QZ z));have h3:(b*b).natAbs<2^4801:=(bb.mul bb).mono (k:=4801) (by decide)
 have h4:(b*b)<2^4801:=by
  have:((2^4801:Nat):Int)=(2:Int)^4801:=by rw[Rv];rfl
  omega
 have h5:1*(2:Int)^n<=t'*b'*2^n:=P6 h1 (PD (Qs (by decide)));have h6:(2:Int)^4900=2^4801*2^99:=by rw[<- RH]
 have h7:(2:Int)^99=633825300114114700748351602688:=by decide
 have h8:(0:Int)<2^4801:=Qs (by decide);rw[h6,h7]at h2;generalize (2:Int)^4801=P at *
 omega
theorem Gg(F:Fun K "ratio_quotients" "ratio_quotients" qR f fd)(T:Txt K mg)(R:RCI K mg C):FnOk P w K mg base CX0 1 f fd ["ratio"] (p8 C):=by
 refine F.ok sc_ratio_quotients (λvs H Q E h=>?_) (λcdv A outer s H vs Q E hr h=>?_)
 ·obtain⟨r,t,b,rfl,_⟩:=h;rfl
 ·obtain⟨r,t,b,rfl,⟨dx,hp⟩,hb,bt,bb,k⟩:=h;have big:=sizeLine_eq
  refine⟨_,(ag (ak (i:=1) sc_ratio_quotients.nd rfl (Or.inl rfl) (aX ac))
   (ag (ak (i:=2) sc_ratio_quotients.nd rfl (Or.inl rfl) (aN (K:=K) rfl (pv 0) rfl))
   (ag (ak (i:=3) sc_ratio_quotients.nd rfl (Or.inl rfl) (aN (K:=K) rfl (pv 0) rfl))
   (ag (fc PassesOwn.never (aH f8 (pv 3) ad (aG _))
     (ag (fe (gB PySem.F.plainAttrs_list PySem.F.slot_list_append PySem.F.type_list_append gE (pv 1) (aa (aj cS (pv 2) (pv 3)) ac)))
       (ag (ak (i:=4) sc_ratio_quotients.nd rfl (Or.inl rfl) (aj cR (pv 2) (pv 3)))
       (ag (ak (i:=2) sc_ratio_quotients.nd rfl (Or.inl rfl) (pv 3))
       (al (ak (i:=3) sc_ratio_quotients.nd rfl (Or.inl rfl) (pv 4)))))))
   (al (aC (pv 1))))))),?_⟩
  refine av ⟨PK _,λpl hpl=>?_⟩;have s1:=Same.upd_new (o:=.lst []) hpl;have h1:upd H pl (.lst []) pl=some (.lst (([]:List Int).map V.int)):=au;generalize upd H pl (.lst [])=H1 at s1 h1 ⊢
  refine av ⟨_,rfl,r,C,dx,_,_,rfl,s1 _ _ hp,R.cl,R.nT,c8 _ _,?_⟩;refine av ⟨_,rfl,r,C,dx,_,_,rfl,s1 _ _ hp,R.cl,R.nB,ca _ _,?_⟩;refine⟨λm σ' H'=>∃(x y:Int) (z:Option V) (L:List Int),σ'=[some (.ref r),some (.ref pl),some (.int x),some (.int y),z]/\Same H H'/\H' pl=some (.lst (L.map V.int))/\0<=y/\y.natAbs=m/\Bits 2400 x/\Bits 2400 y/\L.length<=4901/\(∀L',CfR x y L'->CfR t b (L++L'))/\(L=[]/\x=t/\y=b\/y<x/\x*y*2^L.length<=2*(b*b)),⟨_,t,b,none,[],rfl,s1,h1,by omega,rfl,bt,bb,PK _,λ_ h=>h,.inl ⟨rfl,rfl,rfl⟩⟩,?_⟩;rintro m σ' H2 ⟨x,y,z,L,rfl,s2,h2,hy,rfl,bx,bb',hl,hC,hL⟩;refine⟨_,rfl,_,_,rfl,rfl,_,rfl,da (λhn=>?_) (λh0=>?_)⟩
  ·have yp:0<y:=by have:y≠0:=hn;omega
   have hl2:L.length<=4900:=by
    rcases hL with⟨rfl,_⟩ |⟨h3,h4⟩
    ·exact PK _
    ·exact Li (by have:=PB (show 0<x by omega) yp;omega) bb h4
   refine⟨λσ'' H''=>∃m',m'<y.natAbs/\∃(x y:Int) (z:Option V) (L:List Int),σ''=[some (.ref r),some (.ref pl),some (.int x),some (.int y),z]/\Same H H''/\H'' pl=some (.lst (L.map V.int))/\0<=y/\y.natAbs=m'/\Bits 2400 x/\Bits 2400 y/\L.length<=4901/\(∀L',CfR x y L'->CfR t b (L++L'))/\(L=[]/\x=t/\y=b\/y<x/\x*y*2^L.length<=2*(b*b)),λ_ _ h=>h,?_⟩;refine gt ⟨_,rfl,.inl ⟨rfl,_,SqL.of h2⟩,_,rfl,_,rfl,_,_,rfl,rfl,⟨yp,bb'.mono⟩,pl,_,_,rfl,rfl,h2,by rw[PC];omega,?_⟩;refine av ⟨_,rfl,_,rfl,_,_,rfl,rfl,yp,?_⟩;refine av ⟨_,rfl,?_⟩;refine cD ⟨_,rfl,?_⟩;have r0:=R8 x (Qo yp);have r1:=RO x yp;refine⟨(x%y).natAbs,by omega,y,x%y,some (.int (x%y)),L++[x/y],rfl,eo s2 hpl,?_,r0,rfl,bb',bb'.of_le (by omega),by rw[Qi];show _+1<=_;omega,λL' c=>by rw[Sb];exact hC _ ⟨yp,rfl,c⟩,.inr ⟨r1,?_⟩⟩
   ·rw[au,Qk];rfl
   ·rw[Qi];show y*(x%y)*2^(L.length+1)<=_;rcases hL with⟨rfl,rfl,rfl⟩ |⟨h3,h4⟩
    ·have:=QA (PD r1) (PD yp);show y*(x%y)*2<=_;omega
    ·have q1:=Lh yp h3;have q2:=P6 q1 (PD (Qs (n:=2) (m:=L.length) (by decide)));have e:y*(x%y)*2^(L.length+1)=2*(y*(x%y))*2^L.length:=by rw[Ql];grind
     omega
  ·have e:y=0:=h0;subst e;refine⟨_,rfl,k pl L H2 s2 hpl h2 ?_ (by omega)⟩;have:=hC [] rfl
   rwa [List.append_nil]at this
theorem yS:∀{L1 L2:List Int} (i:Nat),L1.take i=L2.take i->(∀x y,L1[i]?=some x->L2[i]?=some y->x≠y)->i<=L1.length->i<=L2.length->f7 L1 L2=L1.take i
 | [],_,i,_,_,h1,_=>by rw[show i=0 from Nat.le_zero.mp h1];rfl
 |_::_,[],i,_,_,_,h2=>by rw[show i=0 from Nat.le_zero.mp h2];rfl
 |a::L1,b::L2,0,_,hne,_,_=>if_neg (hne a b rfl rfl)
 |a::L1,b::L2,i+1,he,hne,h1,h2=>by
  rw[Sn,Sn]at he
  injection he with e1 e2
  show(if a=b then a::f7 L1 L2 else[])=_;rw[if_pos e1,Sn,yS i e2 (λx y hx hy=>hne x y (by simpa using hx) (by simpa using hy)) (by simpa using h1) (by simpa using h2)]
inductive xO(C CN:Addr)(vs:List V)(H:Hp)(Q:VK)(E:XK):Prop
 |mk (x wd:Addr) (u v w d l1 l2 h1 h2:Int) (e:Nat):vs=[.ref x,.ref wd]->WN C CN H x u v w d l1 l2 h1 h2->v≠0->RA C H wd 1 (2^e)->e<=2048->(∀(p:Addr) (ms:List Int) (H':Hp),Same H H'->H p=none->H' p=some (.lst (ms.map V.int))->di d (cT w u v w) ms->(1831<=e->30<=ms.length)->ms.length<=5000->Q (.ref p) H')->xO C CN vs H Q E
theorem yV{e k:Nat}(h:e<k):Bits k ((2:Int)^e):=by
 show((2:Int)^e).natAbs<2^k;have:((2:Int)^e).natAbs=2^e:=by rw[RZ];rfl
 rw[this];exact Nat.pow_lt_pow_right (by decide) h
theorem GN(F:Fun K "between" "between" rL f fd)(T:Txt K mg)(R:RCI K mg C)(RN:NCI K mg CN)(Na:Cal P w K mg base 7 "span_of" ["one","width"] (xh C CN) OR N5)(vR:Cal P w K mg base 1 "ratio_quotients" ["ratio"] (p8 C) Kw Kg):FnOk P w K mg base CX0 8 f fd ["one","width"] (xO C CN):=by
 obtain⟨Mt,HR,I0,LD⟩:=Na;obtain⟨pE,oI,oR,pA⟩:=vR;refine F.ok sc_between (λvs H Q E h=>?_) (λcdv A outer s H vs Q E hr h=>?_)
 ·obtain⟨x,wd,u,v,w,d,l1,l2,h1,h2,e,rfl,_⟩:=h;rfl
 ·obtain⟨x,wd,u,v,w,d,l1,l2,h1,h2,e,rfl,hN,hv,hR,he,k⟩:=h;have big:=sizeLine_eq;have hW:=hN.ok;obtain⟨ε,hG⟩:=hN.sg;obtain⟨g1,g2,g3,g4⟩:=zY hW;have tk:=nr (u:=u) hW.ns (by have:=hW.d13;omega) hW.w1 hv
  refine⟨_,(ag (ak (i:=2) sc_between.nd rfl (Or.inl rfl) (aq Mt (hr.mono) rfl HR I0 LD .nil ai (aa (pv 0) (aa (pv 1) ac))))
   (ag (ak (i:=3) sc_between.nd rfl (Or.inl rfl) (aX ac))
   (ag (cV PassesOwn.never rfl (Fl rfl T.zip_ (aa (aq pE (hr.mono) rfl oI oR pA .nil ai (aa (aE (aM (K:=K) rfl) (pv 2) ad (λ_ _=>rfl)) ac)) (aa (aq pE (hr.mono) rfl oI oR pA .nil ai (aa (aE (aM (K:=K) rfl) (pv 2) ad (λ_ _=>rfl)) ac)) ac))) (gA rfl (cu (aS (i:=4) sc_between.nd rfl (Or.inl rfl)) (cu (aS (i:=5) sc_between.nd rfl (Or.inl rfl)) gz)))
     (ag (aR (aH f8 (pv 4) (pv 5) (aG _))
       (al (aC (pv 3)))
       aU)
       (al (fe (gB PySem.F.plainAttrs_list PySem.F.slot_list_append PySem.F.type_list_append gE (pv 3) (aa (pv 4) ac))))))
   (al (aC (pv 3)))))),?_⟩
  refine av ⟨_,rfl,_,rfl,x,wd,_,l1,l2,h1,h2,ε,_,1,2^e,40,2050,⟨rfl,hG.nu,g1,g2,g3,g4,hR,by decide,Qs (by decide),b1k (by decide),yV (by omega),by decide,by decide,by decide⟩,λp y z H1 n pl x1 x2 y1 y2 s1 hp ep hy hz nar=>?_⟩
  have sx:sdT d (cT w u v w) x1 x2=1:=by
   have h3:0<ap [u,d*v*v,w,bZ v] x1 x2:=nar.ux;rw[qm hW.ns nar.ends.l2p]at h3;rcases gn tk (x1:=x1) nar.ends.l2p with q |q
   ·exact q
   ·rw[wJ hW.w1]at q;omega
  have sy:sdT d (cT w u v w) y1 y2 = -1:=by
   have h3:¬0<ap [u,d*v*v,w,bZ v] y1 y2:=nar.uy;rw[qm hW.ns nar.ends.h2p]at h3;rcases gn tk (x1:=y1) nar.ends.h2p with q |q
   ·rw[wJ hW.w1]at q;omega
   ·exact q
  have x2p:=nar.ends.l2p;have y2p:=nar.ends.h2p;refine av ⟨PK _,λpf hpf=>?_⟩;have s2:=Same.upd_new (o:=.lst []) hpf;have h2':upd H1 pf (.lst []) pf=some (.lst (([]:List Int).map V.int)):=au;generalize upd H1 pf (.lst [])=H2 at s2 h2' ⊢
  have t2:=s1.trans s2;have nf:=s1.free hpf;have bE:∀{c:Int},Bits (5*40+2050+4) c->Bits 2400 c:=λh=>h.mono
  show cI _ _ _ _ _;refine⟨_,rfl,p,_,_,_,rfl,rfl,SqT.of (s2 _ _ ep),rfl,y,x1,x2,rfl,hy.same s2,x2p,bE nar.ends.bl1,bE nar.ends.bl2,λq1 L1 H3 s3 hq1 e3 c1 n1=>?_⟩;refine⟨_,rfl,p,_,_,_,rfl,rfl,SqT.of ((s2.trans s3) _ _ ep),rfl,z,y1,y2,rfl,hz.same (s2.trans s3),y2p,bE nar.ends.bh1,bE nar.ends.bh2,λq2 L2 H4 s4 hq2 e4 c2 n2=>?_⟩;have ne1:q1≠pf:=λz=>by rw[z,h2']at hq1;cases hq1
  have ne2:q2≠pf:=λz=>by rw[z,s3 _ _ h2']at hq2;cases hq2
  have kf:∀(i:Nat) (H':Hp),Same H H'->H' pf=some (.lst ((L1.take i).map V.int))->L1.take i=L2.take i->(∀x y,L1[i]?=some x->L2[i]?=some y->x≠y)->i<=L1.length->i<=L2.length->Q (.ref pf) H':=λi H' sm ef et hne l1 l2=>by
   have epre:=yS i et hne l1 l2;rw[<- epre]at ef;refine k pf _ H' sm nf ef (sO L1 L2 tk c1 c2 λ_ _=>by rw[sx,sy];rfl) (λh=>?_) (by rw[epre,QB];omega);have w12:=hW.w12;have w1:=hW.w1;have bv:v.natAbs<2^21:=hW.bv;have hF:w*(v.natAbs:Int)<=12*2097152:=QX w12 (by omega) (by omega) (by decide);have hww:w*w<=12*12:=QX w12 w12 (by omega) (by decide);refine Fe (by omega) 30 L1 L2 _ x1 x2 y1 y2 tk ?_ x2p y2p c1 c2 (by rw[sx,sy];rfl) ?_
   ·show w*w+8*(w*(v.natAbs:Int))*30<=2^33;omega
   ·have lt:=nar.ends.lt;have wide:=nar.wide;have ea:((x1*y2-y1*x2).natAbs:Int)=y1*x2-x1*y2:=by omega
    rw[ea,PY]at *;have hpow:(2:Int)^(60*30+31)<=2^e:=Int.ofNat_le.mpr (Rn (by decide) h);exact R0 (QA hpow (by omega)) wide
  refine⟨q1,q2,rfl,⟨_,s4 _ _ e3⟩,⟨_,e4⟩,J8 (xs:=L1.map V.int) (ys:=L2.map V.int) (λi σ' H'=>∃z4 z5:Option V,σ'=[some (.ref x),some (.ref wd),some (.ref p),some (.ref pf),z4,z5]/\Same H H'/\H' q1=some (.lst (L1.map V.int))/\H' q2=some (.lst (L2.map V.int))/\H' pf=some (.lst ((L1.take i).map V.int))/\L1.take i=L2.take i) ⟨none,none,rfl,t2.trans (s3.trans s4),s4 _ _ e3,e4,(s3.trans s4) _ _ h2',by rw[R7,R7]⟩ ?_ ?_ ?_⟩
  ·rintro i σ' H' ⟨z4,z5,rfl,s5,eq1,eq2,_⟩;exact⟨eq1,eq2⟩
  ·rintro i xv yv σ' H5 pp hx hy' ⟨z4,z5,rfl,s5,eq1,eq2,ef,et⟩ hpp;obtain⟨a,ea,rfl,_,_⟩:=fO hx;obtain⟨b,eb,rfl,_,_⟩:=fO hy';have la:i<L1.length:=(List.getElem?_eq_some_iff.mp ea).1;have lb:i<L2.length:=(List.getElem?_eq_some_iff.mp eb).1;have s6:=s5.then_new (o:=.tup [.int a,.int b]) hpp;have s56:=Same.upd_new (o:=.tup [.int a,.int b]) hpp;refine⟨pp,_,rfl,SqT.of au,rfl,_,_,rfl,_,_,rfl,rfl,?_⟩;dsimp only
   generalize upd H5 pp (.tup [.int a,.int b])=H6 at s6 s56 ⊢
   refine cs ⟨_,rfl,_,rfl,_,_,rfl,rfl,_,rfl,da (λhne=>?_) (λheq=>?_)⟩
   ·refine⟨_,rfl,kf i H6 s6 (s56 _ _ ef) et (λx y h1 h2=>?_) (QZ la) (QZ lb)⟩;rw[ea]at h1;rw[eb]at h2;cases h1;cases h2;exact hne
   ·have heq':a=b:=heq;subst heq';refine⟨_,rfl,.inl ⟨rfl,_,SqL.of (s56 _ _ ef)⟩,_,rfl,pf,_,_,rfl,rfl,s56 _ _ ef,by rw[PC,QB];omega,?_⟩
    have tk1:∀{L:List Int},L[i]?=some a->L.take (i+1)=L.take i++[a]:=λh=>by rw[QI,h];rfl
    refine⟨_,_,rfl,eo s6 nf,?_,?_,?_,by rw[tk1 ea,tk1 eb,et]⟩
    ·rw[upd_ne ne1];exact s56 _ _ eq1
    ·rw[upd_ne ne2];exact s56 _ _ eq2
    ·rw[au,tk1 ea,Qk];rfl
  ·rintro σ' H' ⟨z4,z5,rfl,s5,eq1,eq2,ef,et⟩;rw[PC,PC]at ef et;refine⟨_,rfl,kf _ H' s5 ef et (λx y h1 h2=>?_) (RP _ _) (Nat.min_le_right _ _)⟩;have l1:=(List.getElem?_eq_some_iff.mp h1).1;have l2:=(List.getElem?_eq_some_iff.mp h2).1;omega
theorem Bp{l:List Int}{n:Nat}:gj l none (some (n:Int))=l.take n:=by
 unfold gj;have e0:HT.sIx l.length 0 none=0:=rfl
 have e1:HT.sIx l.length l.length (some (n:Int))=min n l.length:=by unfold HT.sIx;simp;omega
 rw[e0,e1,Rw,QV];rcases Nat.le_total n l.length with z |z
 ·rw[Nat.min_eq_left z]
 ·rw[Nat.min_eq_right z,Sr (PF _),Sr z]
inductive xn(C CN:Addr)(vs:List V)(H:Hp)(Q:VK)(E:XK):Prop
 |mk (x:Addr) (u v w d l1 l2 h1 h2:Int) (n:Nat):vs=[.ref x,.int (n:Int)]->WN C CN H x u v w d l1 l2 h1 h2->v≠0->n<=30->(∀(p:Addr) (ms:List Int) (H':Hp),Same H H'->H p=none->H' p=some (.lst (ms.map V.int))->di d (cT w u v w) ms->ms.length=n->Q (.ref p) H')->xn C CN vs H Q E
theorem Gh(F:Fun K "quotients" "quotients" qS f fd)(T:Txt K mg)(R:RCI K mg C)(RN:NCI K mg CN)(eK:Cal P w K mg base 1 "degree" ["row"] gX km ki)(vR:Cal P w K mg base 1 "ratio_quotients" ["ratio"] (p8 C) Kw Kg)(ci:KCal P w K mg base 2 C "Ratio" ["self","top","bottom"] (c9 C) dS dR dW [.int 1])(NB:Cal P w K mg base 8 "between" ["one","width"] (xO C CN) Pf Ov)(gT:MCal P w K mg base 4 C "times" ["self","other"] (jN C) o5 o3):FnOk P w K mg base CX0 9 f fd ["one","many"] (xn C CN):=by
 obtain⟨dA,dm,dq,dz⟩:=eK;obtain⟨pE,oI,oR,pA⟩:=vR;obtain⟨bH,bF,bC,bX,cO,cM⟩:=ci;obtain⟨Cg,zO,Af,BX⟩:=NB;obtain⟨fz,fi,fy⟩:=gT;refine F.ok sc_quotients (λvs H Q E h=>?_) (λcdv A outer s H vs Q E hr h=>?_)
 ·obtain⟨x,u,v,w,d,l1,l2,h1,h2,n,rfl,_⟩:=h;rfl
 ·obtain⟨x,u,v,w,d,l1,l2,h1,h2,n,rfl,hN,hv,hn,k⟩:=h;have big:=sizeLine_eq;obtain⟨q,l,h,⟨dx,hx⟩,hq,hl,hh⟩:=id hN.nu;have ld:=(oO (u:=u) (v:=v) (d:=d) hN.ok.w1).2 hv
  refine⟨_,(ag (aR (aH cW (aq dA (hr.mono) rfl dm dq dz .nil ai (aa (aN (K:=K) rfl (pv 0) rfl) ac)) ad (aG _))
   (al (aC (iM (iD (K:=K) rfl) (aq pE (hr.mono) rfl oI oR pA .nil ai (aa (b9 bF bH (hr.mono) rfl bC bX .nil ai (aa (bK bJ (aE (b5 (K:=K) rfl) (aN (K:=K) rfl (pv 0) rfl) ad (λ_ _=>rfl))) (aa (aE (b5 (K:=K) rfl) (aN (K:=K) rfl (pv 0) rfl) ad (λ_ _=>rfl)) ac))) ac)) iL (iK (pv 1)))))
   aU)
   (ag (ak (i:=2) sc_quotients.nd rfl (Or.inl rfl) (b9 bF bH (hr.mono) rfl bC bX .nil ai (aa ad (aa ad ac))))
   (ag (ak (i:=3) sc_quotients.nd rfl (Or.inl rfl) (aq Cg (hr.mono) rfl zO Af BX .nil ai (aa (pv 0) (aa (pv 2) ac))))
   (ag (fc PassesOwn.never (aH dH (bz (cY (K:=K) rfl) (by rfl) T.len_ PySem.boot_len (aa (pv 3) ac)) (pv 1) (aG _))
     (ag (ak (i:=2) sc_quotients.nd rfl (Or.inl rfl) (c7 (pv 2) R.cl fi fz (hr.mono) fy .nil ai (aa (pv 2) ac)))
       (al (ak (i:=3) sc_quotients.nd rfl (Or.inl rfl) (aq Cg (hr.mono) rfl zO Af BX .nil ai (aa (pv 0) (aa (pv 2) ac)))))))
   (al (aC (iM (iD (K:=K) rfl) (pv 3) iL (iK (pv 1))))))))),?_⟩
  refine cs ⟨_,rfl,x,CN,dx,_,_,rfl,hx,RN.cl,RN.nP,uo _ _ _,q,_,rfl,hq,_,_,rfl,rfl,_,rfl,aP (λh0=>?_) (λ_=>?_)⟩
  ·have h0':(((cF u v w d).map V.int).length:Int)-1=1:=h0;rw[PC,ld]at h0';exact absurd h0' (by decide)
  refine av (cU (t:=1) (b:=4) (by decide) (eO (by decide) (by decide)) λr H1 s1 hr1 hR1=>?_);rw[sr (by decide),sI (by decide)]at hR1;refine av ⟨_,rfl,_,rfl,x,r,u,v,w,d,l1,l2,h1,h2,2,rfl,hN.same s1,hv,hR1,by decide,λp ms H2 s2 hp ep sq lg nl=>?_⟩;refine⟨λm σ' H'=>∃(r p:Addr) (ms:List Int) (j:Nat),σ'=[some (.ref x),some (.int (n:Int)),some (.ref r),some (.ref p)]/\Same H H'/\H p=none/\RA C H' r 1 (2^2^(j+1))/\H' p=some (.lst (ms.map V.int))/\di d (cT w u v w) ms/\(1831<=2^(j+1)->30<=ms.length)/\ms.length<=5000/\j<=10/\m=10-j,⟨_,r,p,ms,0,rfl,s1.trans s2,s1.free hp,hR1.same s2,ep,sq,lg,nl,by decide,rfl⟩,?_⟩;clear lg nl sq ep hp s2 H2 ms p hR1 hr1 s1 H1 r;rintro m σ' H1 ⟨r,p,ms,j,rfl,s1,hp,hR1,ep,sq,lg,nl,hj,rfl⟩;refine⟨_,rfl,p,_,rfl,.inl (SqL.of ep),_,rfl,_,_,rfl,rfl,_,rfl,aP (λhlt=>?_) (λhge=>?_)⟩
  ·rw[PC]at hlt;have hlt':ms.length<n:=by have:(ms.length:Int)<(n:Int):=hlt;omega
   have hj9:j<=9:=by
    rcases Nat.lt_or_ge j 10 with z |z
    ·omega
    ·have:j=10:=by omega
     subst this;exact absurd (lg (by decide)) (by omega)
   have e1024:2^(j+1)<=1024:=PX (Rn (by decide) (show j+1<=10 by omega)) (by decide);have e2048:2^(j+1+1)<=2048:=PX (Rn (by decide) (show j+1+1<=11 by omega)) (by decide);have b2:Bits 1100 ((2:Int)^2^(j+1)):=yV (by omega);have pp:(0:Int)<2^2^(j+1):=Qs (by decide);have ep2:(2:Int)^2^(j+1)*2^2^(j+1)=2^2^(j+1+1):=by rw[<- RH];congr 1;rw[Rb 2 (j+1)];omega
   refine⟨λσ'' H''=>∃m',m'<10-j/\∃(r p:Addr) (ms:List Int) (j:Nat),σ''=[some (.ref x),some (.int (n:Int)),some (.ref r),some (.ref p)]/\Same H H''/\H p=none/\RA C H'' r 1 (2^2^(j+1))/\H'' p=some (.lst (ms.map V.int))/\di d (cT w u v w) ms/\(1831<=2^(j+1)->30<=ms.length)/\ms.length<=5000/\j<=10/\m'=10-j,λ_ _ h=>h,?_⟩;obtain⟨dr,hr'⟩:=id hR1;refine av ⟨_,rfl,r,dr,_,rfl,hr',de _ _ dO.1 dO.2,_,rfl,r,r,1,_,1,_,1100,1100,rfl,hR1,hR1,b1k (by decide),b2,b1k (by decide),b2,by decide,pp,pp,λr2 H2 s2 hr2 hR2=>?_⟩;rw[PY,ep2,sr (Qs (by decide)),sI (Qs (by decide))]at hR2;refine cD ⟨_,rfl,_,rfl,x,r2,u,v,w,d,l1,l2,h1,h2,_,rfl,hN.same (s1.trans s2),hv,hR2,e2048,λp2 ms2 H3 s3 hp2 ep2 sq2 lg2 nl2=>?_⟩;exact⟨10-(j+1),by omega,r2,p2,ms2,j+1,rfl,(s1.trans s2).trans s3,(s1.trans s2).free hp2,hR2.same s3,ep2,sq2,lg2,nl2,by omega,rfl⟩
  ·rw[PC]at hge;have hge':n<=ms.length:=by have:¬(ms.length:Int)<(n:Int):=hge;omega
   refine⟨_,rfl,_,rfl,_,rfl,p,_,rfl,SqL.of ep,λp2 hp2=>?_⟩;rw[mH,Bp];refine k p2 _ _ (s1.then_new hp2) (s1.free hp2) au (yi n ms sq) ?_;rw[QB];omega
def xk:Sp:=λvs H Q _=>∃n:Int,vs=[.int n]/\0<=n/\Bits 300 n/\∀r:Int,0<=r->r*r<=n->n<(r+1)*(r+1)->Q (.int r) H
theorem pK:Bits 9000 2:=Bits.mono (j:=2) (by show(2:Int).natAbs<2^2;decide) (by decide)
theorem GU(F:Fun K "_law_root" "_law_root" rS f fd)(T:Txt K mg):FnOk P w K mg base CX0 1 f fd ["_law_whole_here"] xk:=by
 refine F.ok sc__law_root (λvs H Q E h=>?_) (λcdv A outer s H vs Q E hr h=>?_)
 ·obtain⟨n,rfl,_⟩:=h;rfl
 ·obtain⟨n,rfl,hn,bn,k⟩:=h
  refine⟨_,(ag (ak (i:=1) sc__law_root.nd rfl (Or.inl rfl) ad)
   (ag (ak (i:=2) sc__law_root.nd rfl (Or.inl rfl) (aj aY (pv 0) ad))
   (ag (fc PassesOwn.never (aH fJ (aj cq (pv 2) (pv 1)) ad (aG _))
     (ag (ak (i:=3) sc__law_root.nd rfl (Or.inl rfl) (aj cS (aj aY (pv 1) (pv 2)) ad))
       (al (aR (aH FG (aj aK (pv 3) (pv 3)) (pv 0) (aG _))
         (al (ak (i:=1) sc__law_root.nd rfl (Or.inl rfl) (pv 3)))
         (al (ak (i:=2) sc__law_root.nd rfl (Or.inl rfl) (pv 3)))))))
   (al (aC (pv 1)))))),?_⟩
  refine av ?_;refine av ⟨_,rfl,_,_,rfl,rfl,?_⟩;refine⟨λm σ' H'=>∃(lo hi:Int) (z:Option V),σ'=[some (.int n),some (.int lo),some (.int hi),z]/\H=H'/\(hi-lo).toNat=m/\0<=lo/\lo<hi/\hi<=n+1/\lo*lo<=n/\n<hi*hi,⟨_,0,n+1,none,rfl,rfl,rfl,by omega,by omega,Qg _,by omega,?_⟩,?_⟩
  ·have:=P6 (show 1<=n+1 by omega) (show 0<=n+1 by omega);omega
  rintro m σ' H' ⟨lo,hi,z,rfl,rfl,rfl,l0,lh,hn1,hl,hh⟩;refine⟨_,rfl,_,rfl,_,_,rfl,rfl,_,_,rfl,rfl,_,rfl,aP (λhgt=>?_) (λhle=>?_)⟩
  ·have hgt':1<hi-lo:=hgt;refine⟨λσ'' H''=>∃m',m'<(hi-lo).toNat/\∃(lo hi:Int) (z:Option V),σ''=[some (.int n),some (.int lo),some (.int hi),z]/\H=H''/\(hi-lo).toNat=m'/\0<=lo/\lo<hi/\hi<=n+1/\lo*lo<=n/\n<hi*hi,λ_ _ h=>h,?_⟩;refine av ⟨_,rfl,_,rfl,_,_,rfl,rfl,_,_,rfl,rfl,⟨by show(0:Int)<2;decide,pK⟩,?_⟩;obtain⟨M,eM,g1,g2⟩:∃M:Int,(lo+hi)/2=M/\lo<M/\M<hi:=⟨_,rfl,by omega,by omega⟩
   have bM:Bits 301 M:=by have b1:Bits 300 (1:Int):=b1k (by decide);exact(bn.add b1).of_le (by omega)
   show jJ _ _ _ _ _ _;refine dZ (λσ' H'=>σ'=[some (.int n),some (.int lo),some (.int hi),some (.int M)]/\H=H') ⟨by rw[<- eM];rfl,rfl⟩ ?_;rintro σ' H' ⟨rfl,rfl⟩;refine⟨_,rfl,_,rfl,_,_,rfl,rfl,⟨bM.mono,bM.mono⟩,_,rfl,_,_,rfl,rfl,_,rfl,aP (λh3=>?_) (λh3=>?_)⟩
   ·have h3':M*M<=n:=h3;exact cD ⟨_,rfl,(hi-M).toNat,by omega,M,hi,_,rfl,rfl,rfl,by omega,g2,hn1,h3',hh⟩
   ·have h3':¬M*M<=n:=h3;exact cD ⟨_,rfl,(M-lo).toNat,by omega,lo,M,_,rfl,rfl,rfl,l0,g1,by omega,hl,by omega⟩
  ·have hle':¬1<hi-lo:=hle;have e:hi=lo+1:=by omega
   rw[e]at hh;exact⟨_,rfl,k lo l0 hl hh⟩
inductive qg(vs:List V)(H:Hp)(Q:VK)(E:XK):Prop
 |mk (a b:Addr) (xs:List Int):vs=[.ref a,.ref b]->H a=some (.lst (xs.map V.int))->H b=some (.lst (xs.map V.int))->xs.length<=100->Q (.bl true) H->qg vs H Q E
theorem G3(F:Fun K "_law_alike" "_law_alike" r9 f fd)(T:Txt K mg)(NF:Cal P w K mg base 1 "_law_whole" ["_law_found"] wW Pk Oz):FnOk P w K mg base CX0 2 f fd ["_law_found","_law_due_here"] qg:=by
 obtain⟨MS,Iv,Jw,L4⟩:=NF;refine F.ok sc__law_alike (λvs H Q E h=>?_) (λcdv A outer s H vs Q E hr h=>?_)
 ·obtain⟨a,b,xs,rfl,_⟩:=h;rfl
 ·obtain⟨a,b,xs,rfl,hA,hB,lx,k⟩:=h;have big:=sizeLine_eq;have hl:(xs.map V.int).length=xs.length:=PC _
  refine⟨_,(ag (aR (PW.pt (sM (oa (lG (bz (vb (K:=K) rfl) (by rfl) T.isinstance_ PyProof.Rows.boot_isinstance (aa (pv 0) (aa (sS (v:=.ty "list") (by rfl) T.list_ PyProof.Rows.boot_list (by rfl)) ac))))) (sL (aH f8 (bz (cY (K:=K) rfl) (by rfl) T.len_ PySem.boot_len (aa (pv 0) ac)) (bz (cY (K:=K) rfl) (by rfl) T.len_ PySem.boot_len (aa (pv 1) ac)) (aG _)))))
   (al (aC lV))
   aU)
   (ag (cV PassesOwn.never rfl (g9 rfl T.range_ (aa (bz (cY (K:=K) rfl) (by rfl) T.len_ PySem.boot_len (aa (pv 1) ac)) ac)) (aS (i:=2) sc__law_alike.nd rfl (Or.inl rfl))
     (al (aR (PW.pt (sM (oa (lG (aq MS (hr.mono) rfl Iv Jw L4 .nil ai (aa (aE (b5 (K:=K) rfl) (pv 0) (pv 2) (λ_ _=>rfl)) ac)))) (sL (aH f8 (aE (b5 (K:=K) rfl) (pv 0) (pv 2) (λ_ _=>rfl)) (aE (b5 (K:=K) rfl) (pv 1) (pv 2) (λ_ _=>rfl)) (aG _)))))
       (al (aC lV))
       aU)))
   (al (aC lV)))),?_⟩
  refine cs (yC (nZ (EJ (sF ⟨_,rfl,ud (.lst hA) (k:=true) (by rfl) ⟨_,rfl,f6 ?_⟩⟩))));refine⟨_,rfl,a,_,rfl,.inl (SqL.of hA),_,rfl,b,_,rfl,.inl (SqL.of hB),_,_,rfl,rfl,_,rfl,da (λz=>absurd rfl z) (λ_=>?_)⟩;refine⟨_,rfl,b,_,rfl,.inl (SqL.of hB),xs.length,congrArg (λz:Nat=>[V.int (z:Int)]) hl,by omega,by omega,kh (lo:=0) (n:=xs.length) (λi σ' H'=>∃z2:Option V,σ'=[some (.ref a),some (.ref b),z2]/\H=H') ⟨none,rfl,rfl⟩ ?_ ?_⟩
  ·rintro i σ' H' hi ⟨z2,rfl,rfl⟩;have eix:atI (xs.map V.int) (0+(i:Int))=some (.int (cf xs i)):=vx (k:=i) (by omega) hi;refine jU (yC (nZ ⟨_,rfl,_,rfl,a,_,_,_,rfl,rfl,SqL.of hA,eix,_,rfl,⟨_,rfl,f6 ?_⟩⟩));refine⟨_,rfl,_,rfl,a,_,_,_,rfl,rfl,SqL.of hA,eix,_,rfl,_,rfl,b,_,_,_,rfl,rfl,SqL.of hB,eix,_,_,rfl,rfl,_,rfl,da (λz=>absurd rfl z) (λ_=>?_)⟩;exact⟨some (.int (0+(i:Int))),rfl,rfl⟩
  ·rintro σ' H' ⟨z2,rfl,rfl⟩;exact k
inductive xL(vs:List V)(H:Hp)(Q:VK)(E:XK):Prop
 |mk (p:Addr) (u v w d:Int) (n:Nat):vs=[.ref p,.int (n:Int)]->WT H p u v w d->WOk u v w d->v≠0->n<=30->(∀(q:Addr) (ms:List Int) (H':Hp),Same H H'->H q=none->H' q=some (.lst (ms.map V.int))->di d (cT w u v w) ms->ms.length=n->Q (.ref q) H')->xL vs H Q E
theorem GY(F:Fun K "_law_due" "_law_due" rX f fd)(T:Txt K mg)(NI:Cal P w K mg base 1 "_law_root" ["_law_whole_here"] xk Pn OC)(vX:Cal P w K mg base 1 "_law_divisor" ["_law_one","_law_other"] qd KC Kl):FnOk P w K mg base CX0 2 f fd ["_law_worth_here","_law_many"] xL:=by
 obtain⟨Ci,zQ,Ai,BZ⟩:=NI;obtain⟨pF,oJ,oS,pB⟩:=vX;refine F.ok sc__law_due (λvs H Q E h=>?_) (λcdv A outer s H vs Q E hr h=>?_)
 ·obtain⟨p,u,v,w,d,n,rfl,_⟩:=h;rfl
 ·obtain⟨p,u,v,w,d,n,rfl,hp,hW,hv,hn,k⟩:=h;have big:=sizeLine_eq;have tk:=nr (u:=u) hW.ns (by have:=hW.d13;omega) hW.w1 hv
  refine⟨_,(ag (gw (pv 0) (gA rfl (cu (aS (i:=2) sc__law_due.nd rfl (Or.inl rfl)) (cu (aS (i:=3) sc__law_due.nd rfl (Or.inl rfl)) (cu (aS (i:=4) sc__law_due.nd rfl (Or.inl rfl)) (cu (aS (i:=5) sc__law_due.nd rfl (Or.inl rfl)) gz))))))
   (ag (ak (i:=6) sc__law_due.nd rfl (Or.inl rfl) (aX ac))
   (ag (cV PassesOwn.never rfl (g9 rfl T.range_ (aa (pv 1) ac)) (aS (i:=7) sc__law_due.nd rfl (Or.inl rfl))
     (ag (ak (i:=8) sc__law_due.nd rfl (Or.inl rfl) (aj iN (aj aY (pv 2) (aq Ci (hr.mono) rfl zQ Ai BZ .nil ai (aa (aj aK (aj aK (pv 5) (pv 3)) (pv 3)) ac))) (pv 4)))
       (ag (aR (aH dH (pv 3) ad (aG _))
         (al (ak (i:=8) sc__law_due.nd rfl (Or.inl rfl) (aj iN (aj cq (aj cq (pv 2) (aq Ci (hr.mono) rfl zQ Ai BZ .nil ai (aa (aj aK (aj aK (pv 5) (pv 3)) (pv 3)) ac))) ad) (pv 4))))
         aU)
       (ag (fe (gB PySem.F.plainAttrs_list PySem.F.slot_list_append PySem.F.type_list_append gE (pv 6) (aa (pv 8) ac)))
       (ag (ak (i:=2) sc__law_due.nd rfl (Or.inl rfl) (aj cq (pv 2) (aj aK (pv 8) (pv 4))))
       (ag (yQ (i:=2) (j:=3) (l:=4) rfl sc__law_due.nd rfl rfl rfl (by decide) (by decide) (by decide) rfl rfl rfl (aa (aj aK (pv 4) (pv 2)) (aa (aj aK (bK bJ (pv 4)) (pv 3)) (aa (aj cq (aj aK (pv 2) (pv 2)) (aj aK (aj aK (pv 5) (pv 3)) (pv 3))) ac))) (by rfl))
       (ag (ak (i:=9) sc__law_due.nd rfl (Or.inl rfl) (aq pF (hr.mono) rfl oJ oS pB .nil ai (aa (aq pF (hr.mono) rfl oJ oS pB .nil ai (aa (bz fv (by rfl) T.abs_ PyProof.Rows.boot_abs (aa (pv 2) ac)) (aa (bz fv (by rfl) T.abs_ PyProof.Rows.boot_abs (aa (pv 3) ac)) ac))) (aa (bz fv (by rfl) T.abs_ PyProof.Rows.boot_abs (aa (pv 4) ac)) ac))))
       (ag (aR (aH dH (pv 4) ad (aG _))
         (al (ak (i:=9) sc__law_due.nd rfl (Or.inl rfl) (bK bJ (pv 9))))
         aU)
       (al (yQ (i:=2) (j:=3) (l:=4) rfl sc__law_due.nd rfl rfl rfl (by decide) (by decide) (by decide) rfl rfl rfl (aa (aj iN (pv 2) (pv 9)) (aa (aj iN (pv 3) (pv 9)) (aa (aj iN (pv 4) (pv 9)) ac))) (by rfl)))))))))))
   (al (aC (pv 6)))))),?_⟩
  refine⟨_,rfl,p,_,rfl,SqT.of hp,rfl,_,_,rfl,_,_,rfl,_,_,rfl,_,_,rfl,rfl,?_⟩;dsimp only
  have F1:w*(v.natAbs:Int)<=12*2097152:=QX hW.w12 (by have:v.natAbs<2^21:=hW.bv;omega) (by omega) (by decide);have ww:w*w<=12*12:=QX hW.w12 hW.w12 (by have:=hW.w1;omega) (by decide)
  have wu:((w*u).natAbs:Int)<=2^33:=by have h1:(w*u).natAbs<2^25:=(hW.bw.mul hW.bu);omega
  refine av ⟨PK _,λpf hpf=>?_⟩;have s1:=Same.upd_new (o:=.lst []) hpf;have h1:upd H pf (.lst []) pf=some (.lst (([]:List Int).map V.int)):=au;generalize upd H pf (.lst [])=H1 at s1 h1 ⊢
  refine⟨_,rfl,n,rfl,by omega,by omega,kh (lo:=0) (n:=n) (λi σ' H'=>∃(u' v' w' g:Int) (L:List Int) (z7 z8 z9:Option V),σ'=[some (.ref p),some (.int (n:Int)),some (.int u'),some (.int v'),some (.int w'),some (.int d),some (.ref pf),z7,z8,z9]/\Same H H'/\H' pf=some (.lst (L.map V.int))/\L.length=i/\di d (cT w u v w) L/\gL d (cT w u v w) L=cT g u' v' w'/\0<g/\0<w') ⟨u,v,w,w,[],none,none,none,rfl,s1,h1,rfl,trivial,rfl,hW.w1,hW.w1⟩ ?_ ?_⟩
  rotate_left
  ·rintro σ' H' ⟨u',v',w',g,L,z7,z8,z9,rfl,s2,e2,ln,sq,_⟩;exact⟨_,rfl,k pf L H' s2 hpf e2 sq ln⟩
  rintro i σ' H2 hi ⟨u',v',w',g,L,z7,z8,z9,rfl,s2,e2,ln,sq,ee,gp,wp⟩
  obtain⟨tk2,bU,bW⟩:=DR (B:=2^33) 30 L _ (by omega) tk sq wu (by
   show w*w+8*(w*(v.natAbs:Int))*(30:Nat)+4*(w*(v.natAbs:Int))<=2^33
   omega)
  rw[ee]at tk2 bU bW
  have bW':g*w'<=2^33:=by have:g*w'<=w*w+8*(w*(v.natAbs:Int))*((30:Nat):Int):=bW;omega
  have one:∀x:Int,x.natAbs<=(g*x).natAbs:=λx=>by rw[PN];exact RT _ (by omega)
  have bu:Bits 34 u':=by show u'.natAbs<2^34;have h3:=one u';have h4:((g*u').natAbs:Int)<=2^33:=bU;omega
  have bw:Bits 34 w':=by show w'.natAbs<2^34;have h3:=one w';have h4:=PB gp wp;omega
  have v0:v'≠0:=λz=>by have:g*v'≠0:=tk2.v0;rw[z,Qd]at this;exact this rfl
  have bv:Bits 26 v':=by show v'.natAbs<2^26;have h3:=one v';have h4:g*v'=w*(v.natAbs:Int)\/g*v' = -(w*(v.natAbs:Int)):=tk2.v;have h5:0<w*(v.natAbs:Int):=tk.F1;rcases h4 with y |y<;>rw[y]at h3<;>omega
  have dvp:0<=d*v'*v':=by rw[P4];exact PD (PB hW.ns.1 (wM v0))
  have bdv:Bits 40 (d*v'):=(hW.bd.mul bv).mono;have bdvv:Bits 80 (d*v'*v'):=(bdv.mul bv).mono;have w9:Bits 9000 w':=bw.mono;have w0:w'≠0:=by omega
  have fdv:∀x:Int,x.fdiv w'=x/w':=λx=>Ss x (PD wp)
  refine av ⟨_,rfl,_,rfl,_,rfl,_,_,rfl,rfl,⟨hW.bd.mono,bv.mono⟩,_,rfl,_,_,rfl,rfl,⟨bdv.mono,bv.mono⟩,_,rfl,dvp,bdvv.mono,λr r0 r1 r2=>?_⟩;refine⟨_,_,rfl,rfl,_,rfl,_,_,rfl,rfl,⟨w0,w9⟩,?_⟩;show cI _ _ _ _ _;refine dZ (λσ' H'=>σ'=[some (.ref p),some (.int (n:Int)),some (.int u'),some (.int v'),some (.int w'),some (.int d),some (.ref pf),some (.int (0+(i:Int))),some (.int ((u'+r)/w')),z9]/\H2=H') ⟨by rw[<- fdv];rfl,rfl⟩ ?_;rintro σ' H' ⟨rfl,rfl⟩;refine dN (λσ' H'=>∃q:Int,σ'=[some (.ref p),some (.int (n:Int)),some (.int u'),some (.int v'),some (.int w'),some (.int d),some (.ref pf),some (.int (0+(i:Int))),some (.int q),z9]/\H2=H'/\0<sgq (u'-q*w') v' d/\sgq (u'-(q+1)*w') v' d<0) ?_ ?_
  case refine_2 =>
   intro rest;refine⟨_,rfl,_,_,rfl,rfl,_,rfl,aP (λhn=>?_) (λhp'=>?_)⟩
   ·refine cD ⟨_,rfl,_,rfl,_,rfl,_,_,rfl,rfl,⟨hW.bd.mono,bv.mono⟩,_,rfl,_,_,rfl,rfl,⟨bdv.mono,bv.mono⟩,_,rfl,dvp,bdvv.mono,λr' q0 q1 q2=>?_⟩;refine⟨_,_,rfl,rfl,_,_,rfl,rfl,_,rfl,_,_,rfl,rfl,⟨w0,w9⟩,rest _ _ ⟨(u'-r'-1)/w',?_,rfl,zZ hW.ns wp v0 q0 q1 q2 (by rw[if_pos hn])⟩⟩;rw[<- fdv (u'-r'-1)];rfl
   ·exact rest _ _ ⟨_,rfl,rfl,zZ hW.ns wp v0 r0 r1 r2 (by rw[if_neg hp'])⟩
  clear r2 r1 r0 r;rintro σ' H' ⟨q,rfl,rfl,g1,g2⟩;have hq:Qt d (cT g u' v' w') q:=E6 gp g1 g2;have t2:((g*u'-q*(g*w')).natAbs:Int)<g*w'+4*(w*(v.natAbs:Int))+1:=(sY tk2 hq).2
  have bA:Bits 35 (u'-q*w'):=by show(u'-q*w').natAbs<2^35;have h3:=one (u'-q*w');rw[show g*(u'-q*w')=g*u'-q*(g*w') by grind]at h3;omega
  have bqw:Bits 37 (q*w'):=by have:=(bu.mono (k:=35) (by decide)).sub bA;rw[show u'-(u'-q*w')=q*w' by omega]at this;exact this.mono
  have bq:Bits 37 q:=bqw.of_le (by rw[PN];exact Nat.le_mul_of_pos_right _ (by omega));refine gt ⟨_,rfl,.inl ⟨rfl,_,SqL.of e2⟩,_,rfl,pf,_,_,rfl,rfl,e2,by rw[PC];omega,?_⟩;have s3:=eo (o:=.lst (L.map V.int++[.int q])) s2 hpf;have e3:upd H2 pf (.lst (L.map V.int++[.int q])) pf=some (.lst ((L++[q]).map V.int)):=by rw[au,Qk];rfl
  generalize upd H2 pf (.lst (L.map V.int++[.int q]))=H3 at s3 e3 ⊢
  refine av ⟨_,rfl,_,rfl,_,rfl,_,_,rfl,rfl,⟨bq.mono,bw.mono⟩,_,_,rfl,rfl,?_⟩;show cI _ _ _ _ _;refine dZ (λσ' H'=>σ'=[some (.ref p),some (.int (n:Int)),some (.int (u'-q*w')),some (.int v'),some (.int w'),some (.int d),some (.ref pf),some (.int (0+(i:Int))),some (.int q),z9]/\H3=H') ⟨rfl,rfl⟩ ?_;rintro σ' H' ⟨rfl,rfl⟩;obtain⟨A,eA⟩:∃A,u'-q*w'=A:=⟨_,rfl⟩;rw[eA]at bA ⊢;have bAA:Bits 70 (A*A):=(bA.mul bA).mono;refine⟨_,rfl,_,rfl,_,_,rfl,rfl,⟨bw.mono,bA.mono⟩,_,rfl,_,rfl,_,rfl,_,_,rfl,rfl,⟨bw.neg.mono,bv.mono⟩,_,rfl,_,rfl,_,_,rfl,rfl,⟨bA.mono,bA.mono⟩,_,rfl,_,rfl,_,_,rfl,rfl,⟨hW.bd.mono,bv.mono⟩,_,rfl,_,_,rfl,rfl,⟨bdv.mono,bv.mono⟩,_,_,rfl,rfl,_,_,_,rfl,?_⟩;dsimp only
  refine dZ (λσ' H'=>σ'=[some (.ref p),some (.int (n:Int)),some (.int (w'*A)),some (.int (-w'*v')),some (.int (A*A-d*v'*v')),some (.int d),some (.ref pf),some (.int (0+(i:Int))),some (.int q),z9]/\H3=H') ⟨rfl,rfl⟩ ?_;rintro σ' H' ⟨rfl,rfl⟩;have n0:A*A-d*v'*v'≠0:=λz=>hW.ns.2 A v' v0 (by omega)
  have ab:∀x:Int,0<=(if x<0 then -x else x):=λx=>by split<;>omega
  refine av ⟨_,rfl,_,rfl,_,rfl,_,rfl,_,_,rfl,ab _,ab _,_,rfl,_,rfl,_,_,rfl,by omega,ab _,?_⟩;have b3:Bits 81 (A*A-d*v'*v'):=(bAA.mono (k:=80) (by decide)).sub bdvv;obtain⟨G,hG⟩:∃G:Nat,G=Nat.gcd (Nat.gcd (w'*A).natAbs (-w'*v').natAbs) (A*A-d*v'*v').natAbs:=⟨_,rfl⟩;have G0:0<G:=by rw[hG];exact Nat.gcd_pos_of_pos_right _ (by omega)
  have Gle:G<=(A*A-d*v'*v').natAbs:=by rw[hG];exact Nat.gcd_le_right _ (by omega)
  have d1:G∣(w'*A).natAbs:=by rw[hG];exact Rs (QN _ _) (QN _ _)
  have d2:G∣(-w'*v').natAbs:=by rw[hG];exact Rs (QN _ _) (Rf _ _)
  have d3:G∣(A*A-d*v'*v').natAbs:=by rw[hG];exact Rf _ _
  show cI _ _ _ _ _;refine dZ (λσ' H'=>σ'=[some (.ref p),some (.int (n:Int)),some (.int (w'*A)),some (.int (-w'*v')),some (.int (A*A-d*v'*v')),some (.int d),some (.ref pf),some (.int (0+(i:Int))),some (.int q),some (.int (G:Int))]/\H3=H') ⟨?_,rfl⟩ ?_
  ·rw[hG];have an:∀x:Int,(if x<0 then -x else x).natAbs=x.natAbs:=λx=>by split<;>omega
   rw[<- an (w'*A),<- an (-w'*v'),<- an (A*A-d*v'*v')];rfl
  rintro σ' H' ⟨rfl,rfl⟩;refine dN (λσ' H'=>∃b:Int,σ'=[some (.ref p),some (.int (n:Int)),some (.int (w'*A)),some (.int (-w'*v')),some (.int (A*A-d*v'*v')),some (.int d),some (.ref pf),some (.int (0+(i:Int))),some (.int q),some (.int b)]/\H3=H'/\b.natAbs=G/\(0<b↔0<A*A-d*v'*v')) ?_ ?_
  case refine_2 =>
   intro rest;refine⟨_,rfl,_,_,rfl,rfl,_,rfl,aP (λhn=>?_) (λhp'=>?_)⟩
   ·have hn':A*A-d*v'*v'<0:=hn;exact cD ⟨_,rfl,_,rfl,rest _ _ ⟨-(G:Int),rfl,rfl,by omega,by omega⟩⟩
   ·have hp'':¬A*A-d*v'*v'<0:=hp';exact rest _ _ ⟨(G:Int),rfl,rfl,by omega,by omega⟩
  rintro σ' H' ⟨b,rfl,rfl,hb,hs⟩;have b0:b≠0:=by omega
  have bb:Bits 9000 b:=(b3.mono (k:=9000) (by decide)).of_le (by omega);have dd:∀{x:Int},G∣x.natAbs->b*x.fdiv b=x:=λh=>ur b0 (RB.mp (by rw[hb];exact h))
  obtain⟨g',gp',en,a3p⟩:=II (q:=q) (b:=b) tk2 gp (by rw[eA,hb,hG]) (by rw[eA];exact hs) b0 (by rw[eA];exact(dd d1).symm) (dd d2).symm (by rw[eA];exact(dd d3).symm);refine⟨_,rfl,_,rfl,_,_,rfl,rfl,⟨b0,bb⟩,_,rfl,_,rfl,_,_,rfl,rfl,⟨b0,bb⟩,_,rfl,_,rfl,_,_,rfl,rfl,⟨b0,bb⟩,_,_,_,rfl,?_⟩;exact⟨_,_,_,g',L++[q],_,_,_,rfl,s3,e3,by rw[Qi,ln];rfl,yj L q sq (by rw[ee];exact hq),by rw[KG,ee,en],gp',a3p⟩
theorem Gz(F:Fun K "law" "law" rm f fd)(T:Txt K mg)(R:RCI K mg C)(RN:NCI K mg CN)(NE:Cal P w K mg base 2 "_law_worth" ["_law_script","_law_k"] (wV K) Pj Oy)(NH:Cal P w K mg base 4 "_law_span" ["_law_worth_here","_law_more"] (xg C) Pm OB)(vY:Cal P w K mg base 1 "_law_cell_at" ["_law_script","_law_k"] (jP K) KD Km)(vW:Cal P w K mg base 3 "_law_least" ["_law_worth_here"] qc KA Kk)(jG:KCal P w K mg base 1 CN "Number" ["self","row","low","high"] (iC CN) uJ uB uN [])(Nl:CalE P w K mg base 39 "number" ["row","low","high"] (qb C CN) O1 Of Px [.non,.non])(NK:Cal P w K mg base 4 "_law_padded" ["_law_worth_here","_law_span_here","_law_cell"] (xr C) Pq OE)(NM:Cal P w K mg base 2 "_law_due" ["_law_worth_here","_law_many"] xL Ps OF)(Ng:Cal P w K mg base 9 "quotients" ["one","many"] (xn C CN) OW Oa)(NO:Cal P w K mg base 2 "_law_alike" ["_law_found","_law_due_here"] qg Pu OH)(Ni:Cal P w K mg base 35 "opposite" ["one"] (xt C CN) OY Oc):FnOk P w K mg base CX0 40 f fd ["_law_script"] (nI K):=by
 obtain⟨MR,Iu,Jv,L3⟩:=NE;obtain⟨MT,Iw,Jx,L5⟩:=NH;obtain⟨gR,gF,gJ,gQ⟩:=vY;obtain⟨vI,tL,ub,vp⟩:=vW;obtain⟨jz,jt,iW,jq,vv,uS⟩:=jG;obtain⟨MC,Ia,Jg,LL,Pz,Py⟩:=Nl;obtain⟨MU,Ix,Jy,L6⟩:=NK;obtain⟨Ck,zS,Ak,B5⟩:=NM;obtain⟨vG,tJ,tZ,vk⟩:=Ng;obtain⟨vJ,tM,uc,vq⟩:=NO;obtain⟨Mz,HX,Jd,LI⟩:=Ni;refine F.ok sc_law (λvs H Q E h=>?_) (λcdv A outer s H vs Q E hr h=>?_)
 ·obtain⟨a,ns,rfl,_⟩:=h;rfl
 ·obtain⟨a,ns,rfl,hS,hlen,k⟩:=h;have big:=sizeLine_eq
  refine⟨_,(ag (ak (i:=1) sc_law.nd rfl (Or.inl rfl) (aq MR (hr.mono) rfl Iu Jv L3 .nil ai (aa (pv 0) (aa ad ac))))
   (ag (aR (aH cW (aE (aM (K:=K) rfl) (pv 1) ad (λ_ _=>rfl)) ad (aG _))
     (al (ak (i:=1) sc_law.nd rfl (Or.inl rfl) (db (aa (aE (aM (K:=K) rfl) (pv 1) ad (λ_ _=>rfl)) (aa ad (aa (aE (aM (K:=K) rfl) (pv 1) ad (λ_ _=>rfl)) (aa (aE (aM (K:=K) rfl) (pv 1) ad (λ_ _=>rfl)) ac)))))))
     aU)
   (ag (ak (i:=2) sc_law.nd rfl (Or.inl rfl) (aq MT (hr.mono) rfl Iw Jx L5 .nil ai (aa (pv 1) (aa (aj cR (aq gR (hr.mono) rfl gF gJ gQ .nil ai (aa (pv 0) (aa ad ac))) ad) ac))))
   (ag (ak (i:=3) sc_law.nd rfl (Or.inl rfl) (b9 jt jz (hr.mono) rfl iW jq .nil ai (aa (aq vI (hr.mono) rfl tL ub vp .nil ai (aa (pv 1) ac)) (aa (aE (aM (K:=K) rfl) (pv 2) ad (λ_ _=>rfl)) (aa (aE (aM (K:=K) rfl) (pv 2) ad (λ_ _=>rfl)) ac)))))
   (ag (aR (aH cW (aj cR (aq gR (hr.mono) rfl gF gJ gQ .nil ai (aa (pv 0) (aa ad ac))) ad) ad (aG _))
     (al (ak (i:=3) sc_law.nd rfl (Or.inl rfl) (aq MC (hr.mono) rfl Ia Jg LL .nil ai (aa (aq MU (hr.mono) rfl Ix Jy L6 .nil ai (aa (pv 1) (aa (pv 2) (aa (aj cS (aq gR (hr.mono) rfl gF gJ gQ .nil ai (aa (pv 0) (aa ad ac))) ad) ac)))) (aa (aE (aM (K:=K) rfl) (pv 2) ad (λ_ _=>rfl)) (aa (aE (aM (K:=K) rfl) (pv 2) ad (λ_ _=>rfl)) ac))))))
     aU)
   (ag (ak (i:=4) sc_law.nd rfl (Or.inl rfl) (aj aY ad (aj cR (aq gR (hr.mono) rfl gF gJ gQ .nil ai (aa (pv 0) (aa ad ac))) ad)))
   (ag (ak (i:=5) sc_law.nd rfl (Or.inl rfl) (aq Ck (hr.mono) rfl zS Ak B5 .nil ai (aa (pv 1) (aa (pv 4) ac))))
   (ag (ak (i:=6) sc_law.nd rfl (Or.inl rfl) (aq vG (hr.mono) rfl tJ tZ vk .nil ai (aa (pv 3) (aa (pv 4) ac))))
   (ag (aR (oa (lG (aq vJ (hr.mono) rfl tM uc vq .nil ai (aa (pv 6) (aa (pv 5) ac)))))
     (al (aC lV))
     aU)
   (ag (fe (gB PySem.F.plainAttrs_list PySem.F.slot_list_append PySem.F.type_list_append gE (pv 6) (aa ad ac)))
   (ag (ak (i:=7) sc_law.nd rfl (Or.inl rfl) (aq Ck (hr.mono) rfl zS Ak B5 .nil ai (aa (db (aa (bK bJ (aE (aM (K:=K) rfl) (pv 1) ad (λ_ _=>rfl))) (aa (bK bJ (aE (aM (K:=K) rfl) (pv 1) ad (λ_ _=>rfl))) (aa (aE (aM (K:=K) rfl) (pv 1) ad (λ_ _=>rfl)) (aa (aE (aM (K:=K) rfl) (pv 1) ad (λ_ _=>rfl)) ac))))) (aa ad ac))))
   (ag (aR (oa (lG (aq vJ (hr.mono) rfl tM uc vq .nil ai (aa (aq vG (hr.mono) rfl tJ tZ vk .nil ai (aa (aq Mz (hr.mono) rfl HX Jd LI .nil ai (aa (pv 3) ac)) (aa ad ac))) (aa (pv 7) ac)))))
     (al (aC lV))
     aU)
   (al (aC (aq vJ (hr.mono) rfl tM uc vq .nil ai (aa (aq vG (hr.mono) rfl tJ tZ vk .nil ai (aa (pv 3) (aa (aj aY ad (aj cS (pv 4) ad)) ac))) (aa (iM (iD (K:=K) rfl) (pv 5) iL (iK (aj aY ad (aj cS (pv 4) ad)))) ac))))))))))))))))),?_⟩
  refine av ⟨_,rfl,a,ns,rfl,hS,λp0 H1 u v0 w d s1 hp1 hp0 hW0=>?_⟩;show cI _ _ _ _ _;refine dN (λσ' H'=>∃(p:Addr) (v:Int),σ'=[some (.ref a),some (.ref p),none,none,none,none,none,none]/\Same H H'/\WT H' p u v w d/\WOk u v w d/\v≠0) ?_ ?_
  case refine_2 =>intro rest;refine⟨_,rfl,p0,_,_,_,rfl,rfl,SqT.of hp0,rfl,_,_,rfl,rfl,_,rfl,aP (λhz=>?_) (λhnz=>rest _ _ ⟨p0,v0,rfl,s1,hp0,hW0,hnz⟩)⟩;refine cD ⟨_,rfl,p0,_,_,_,rfl,rfl,SqT.of hp0,rfl,_,rfl,p0,_,_,_,rfl,rfl,SqT.of hp0,rfl,_,rfl,p0,_,_,_,rfl,rfl,SqT.of hp0,rfl,by show 4<=sizeLine;decide,λp2 hp2=>?_⟩;exact rest _ _ ⟨p2,1,rfl,s1.then_new hp2,au,⟨hW0.bu,b1k (by decide),hW0.w1,hW0.w12,hW0.d2,hW0.d13,hW0.ns⟩,by decide⟩
  clear hp0 hW0 hp1 s1 H1 p0 v0;rintro σ' H1 ⟨p,v,rfl,s1,hp,hW,hv⟩;obtain⟨m0,m1⟩:=iQ (x:=ns.getD 3 0) (m:=60) (by decide);refine av ⟨_,rfl,_,rfl,a,ns,3,rfl,s1.seq hS,_,_,rfl,rfl,(by show(0:Int)<60;decide),p,u,v,w,d,_,rfl,hp,hW,m0,m1,λt l h H2 l1 l2 h1 h2 s2 ht et hl hh hE=>?_⟩;have t2:=s1.trans s2;have hp2:=s2 _ _ hp;obtain⟨en,ol,oh,lU,hU⟩:=v4 hW m0 m1 hE;have eLs:cF u v w d=ah [u,d*v*v,w]:=oN (by have:=hW.d2;omega);have mk:∀{H':Hp} {x q:Addr},Same H2 H'->NA CN H' x q l h->H' q=some (.lst ((cF u v w d).map V.int))->WN C CN H' x u v w d l1 l2 h1 h2:=λsm na e=>⟨⟨_,_,_,na,e,hl.same sm,hh.same sm⟩,en,ol,oh,lU,hU,hW⟩
  refine av ⟨_,rfl,p,u,v,w,d,rfl,hp2,hW,λb H3 s3 hb eb=>?_⟩;have et3:=s3 _ _ et;refine⟨_,rfl,t,_,_,_,rfl,rfl,SqT.of et3,rfl,_,rfl,t,_,_,_,rfl,rfl,SqT.of et3,rfl,oG eb λx q H4 s4 hx hNA hq hqn=>?_⟩;have u4:=s3.trans s4;have t4:=t2.trans u4;show cI _ _ _ _ _;refine dN (λσ' H'=>∃x:Addr,σ'=[some (.ref a),some (.ref p),some (.ref t),some (.ref x),none,none,none,none]/\Same H2 H'/\WN C CN H' x u v w d l1 l2 h1 h2) ?_ ?_
  case refine_2 =>
   intro rest;refine⟨_,rfl,a,ns,4,rfl,t4.seq hS,_,_,rfl,rfl,(by show(0:Int)<2;decide),_,_,rfl,rfl,_,rfl,aP (λ_=>?_) (λ_=>?_)⟩
   ·have et4:=u4 _ _ et;refine cD ⟨_,rfl,_,rfl,_,rfl,a,ns,4,rfl,t4.seq hS,_,_,rfl,rfl,⟨by show(0:Int)<2;decide,eO (by decide) (by decide)⟩,p,t,l,h,u,v,w,d,l1,l2,_,rfl,u4 _ _ hp2,hW,et4,hl.same u4,hE.l2p,hE.bl1,hE.bl2,hE.gl,λmm A1 B1 D1 c hPad pk H5 s5 hpk ek=>?_⟩;obtain⟨hM,hfl,hOW⟩:=FD hW m0 m1 hE hPad;generalize whl c (usP (ah [u,d*v*v,w]) mm (A1++(B1++D1)))=kp at ek hM
    have u5:=u4.trans s5;have et5:=u5 _ _ et;refine⟨_,rfl,t,_,_,_,rfl,rfl,SqT.of et5,rfl,_,rfl,t,_,_,_,rfl,rfl,SqT.of et5,rfl,pk,l,h,kp,c,_,_,_,_,l1,l2,h1,h2,rfl,ek,hl.same u5,hh.same u5,hM,hfl,hOW,λx q H6 s6 hx hNA hq hqn=>?_⟩;rw[<- eLs]at hq;exact rest _ _ ⟨x,rfl,u5.trans s6,mk (u5.trans s6) hNA hq⟩
   ·exact rest _ _ ⟨x,rfl,u4,mk u4 hNA hq⟩
  clear hq hNA hqn hx t4 u4 s4 et3 s3 eb hb;rintro σ' H5 ⟨x,rfl,u5,hN⟩;have t5:=t2.trans u5;have hp5:=u5 _ _ hp2;have tk:=nr (u:=u) hW.ns (by have:=hW.d13;omega) hW.w1 hv;have tkn:=nr (u := -u) hW.ns (by have:=hW.d13;omega) hW.w1 (show -v≠0 by omega);have same:∀{u v F:Int} {ms ms':List Int},TOk d F (cT w u v w)->di d (cT w u v w) ms->di d (cT w u v w) ms'->ms.length<=ms'.length->ms=ms'.take ms.length:=λh a b l=>yk h _ _ a b l
  obtain⟨c0,c1⟩:=iQ (x:=ns.getD 5 0) (m:=30) (by decide);obtain⟨n,en'⟩:∃n:Nat,1+ns.getD 5 0%30=(n:Int):=⟨(1+ns.getD 5 0%30).toNat,by omega⟩;have hn:n<=30:=by omega
  refine av ⟨_,rfl,a,ns,5,rfl,t5.seq hS,_,_,rfl,rfl,(by show(0:Int)<30;decide),_,_,rfl,rfl,?_⟩;show cI _ _ _ _ _;refine dZ (λσ' H'=>σ'=[some (.ref a),some (.ref p),some (.ref t),some (.ref x),some (.int (n:Int)),none,none,none]/\H5=H') ⟨by rw[<- en'];rfl,rfl⟩ ?_;rintro σ' H' ⟨rfl,rfl⟩;refine av ⟨_,rfl,_,rfl,p,u,v,w,d,n,rfl,hp5,hW,hv,hn,λq1 ms H6 s6 hq1 e1 sq1 ln1=>?_⟩;refine av ⟨_,rfl,_,rfl,x,u,v,w,d,l1,l2,h1,h2,n,rfl,hN.same s6,hv,hn,λq2 ms2 H7 s7 hq2 e2 sq2 ln2=>?_⟩
  have em:ms2=ms:=by
   have:=same tk sq2 sq1 (by omega)
   rwa [Sr (by omega)]at this
  subst em;refine cs (nZ ⟨_,rfl,_,rfl,q2,q1,ms2,rfl,e2,s7 _ _ e1,by omega,⟨_,rfl,f6 ?_⟩⟩);refine gt ⟨_,rfl,.inl ⟨rfl,_,SqL.of e2⟩,q2,_,_,rfl,rfl,e2,by rw[PC];omega,?_⟩;have s8:=eo (o:=.lst (ms2.map V.int++[.int 0])) s7 hq2;generalize upd H7 q2 (.lst (ms2.map V.int++[.int 0]))=H8 at s8 ⊢
  have hp8:=s8 _ _ (s6 _ _ hp5);refine av ⟨_,rfl,p,_,_,_,rfl,rfl,SqT.of hp8,rfl,_,rfl,_,rfl,p,_,_,_,rfl,rfl,SqT.of hp8,rfl,_,rfl,_,rfl,p,_,_,_,rfl,rfl,SqT.of hp8,rfl,_,rfl,p,_,_,_,rfl,rfl,SqT.of hp8,rfl,by show 4<=sizeLine;decide,λp3 hp3=>?_⟩;have s9:=Same.upd_new (o:=.tup [.int (-u),.int (-v),.int w,.int d]) hp3;have e9:upd H8 p3 (.tup [.int (-u),.int (-v),.int w,.int d]) p3=some (.tup [.int (-u),.int (-v),.int w,.int d]):=au;generalize upd H8 p3 (.tup [.int (-u),.int (-v),.int w,.int d])=H9 at s9 e9 ⊢
  refine⟨p3,-u,-v,w,d,3,rfl,e9,hW.neg,by omega,by decide,λq4 ms4 H10 s10 hq4 e4 sq4 ln4=>?_⟩;have u10:Same H6 H10:=(s8.trans s9).trans s10;refine cs (nZ ⟨_,rfl,x,u,v,w,d,l1,l2,h1,h2,rfl,(hN.same s6).same u10,λy H11 a1 a2 b1 b2 s11 hy hNy=>?_⟩);refine⟨y,-u,-v,w,d,a1,a2,b1,b2,3,rfl,hNy,by omega,by decide,λq5 ms5 H12 s12 hq5 e5 sq5 ln5=>?_⟩
  have em5:ms5=ms4:=by
   have:=same tkn sq5 sq4 (by omega)
   rwa [Sr (by omega)]at this
  subst em5;have t12:=s11.trans s12;refine⟨_,rfl,q5,q4,ms5,rfl,e5,t12 _ _ e4,by omega,⟨_,rfl,f6 ?_⟩⟩;have u12:Same H6 H12:=u10.trans t12;have ek:1+(n:Int)/2=((1+n/2:Nat):Int):=by omega
  refine bj ⟨_,rfl,_,rfl,_,_,rfl,rfl,⟨by show(0:Int)<2;decide,pK⟩,_,_,rfl,rfl,x,u,v,w,d,l1,l2,h1,h2,1+n/2,?_,(hN.same s6).same u12,hv,by omega,λq6 ms6 H13 s13 hq6 e6 sq6 ln6=>?_⟩
  ·show[V.ref x,V.int (1+(n:Int)/2)]=_;rw[ek]
  have e1':=(u12.trans s13) _ _ e1;refine⟨_,rfl,_,rfl,_,_,rfl,rfl,⟨by show(0:Int)<2;decide,pK⟩,_,_,rfl,rfl,_,rfl,q1,_,rfl,SqL.of e1',λp6 hp6=>?_⟩;show qg ([V.ref q6,V.ref p6]++[]) (upd H13 p6 (.lst (gN (ms2.map V.int) none (some (1+(n:Int)/2))))) Q E0;rw[ek,mH,Bp]
  have em6:ms6=ms2.take (1+n/2):=by
   have:=same tk sq6 sq2 (by omega)
   rwa [ln6]at this
  refine⟨q6,p6,ms6,rfl,Same.upd_new hp6 _ _ e6,?_,by omega,k _⟩;rw[au,<- em6]
end
def FnL(K:PySem.W.Frag)(n:Str)(st:Stmt):Prop:=∃f fd,PySem.W.nsIn K mainGlobals n=some (some (.ref f))/\Fun K n n st f fd
def MtL(K:PySem.W.Frag)(C:Addr)(n q:Str)(st:Stmt):Prop:=∃f fd,PySem.W.findIn K (.ref C) n=some (some (.ref f))/\PySem.W.isFn K (.ref f)=true/\Fun K n q st f fd
structure ClL(K:PySem.W.Frag)(n:Str)(C:Addr):Prop where
 a:PySem.W.nsIn K mainGlobals n=some (some (.ref C))
 pg:PySem.W.plainGet K C Str.empty=true
 hd:PySem.W.hasDictIn K C=true
 po:PySem.W.plainOver K C=true
 sa:PySem.W.findIn K (.ref C) "__setattr__"=some (some (.builtin "object.__setattr__"))
 mkr:PySem.W.makesIn K C=true
 kc:PySem.W.keepIn K (.ref C)=true
 ha:PySem.W.findIn K (.ref C) "__class__"=some (some (.builtin "object.__class__"))
 hn:PySem.W.specialIn K (.builtin "object.__class__") "__get__"=some (some (.builtin "getset_descriptor.__get__"))
 ht:PySem.W.takesIn K (.builtin "object.__class__")=some true
 hm:PySem.W.mroIn K C (.type "object")=some true
section
variable {P:Program}{w:World}{K:PySem.W.Frag}{mg:Str->Option Value}{h base:Heap}{n q:Str}{st:Stmt}{f C:Addr}{oc kV dc pm cd ct:Value}{od an:Option Addr}{sl:Array (Option Value)}{fd:FuncData}{k:Nat}{ps:List Str}{sp:Sp}
theorem fnL(a:PySem.W.nsIn K mainGlobals n=some (some (.ref f)))(l:K.lookup f=some ⟨oc,od,.func (PySem.W.fnOf n n (dX st) (dI st) (aD st) .none kV dc pm an cd ct),sl⟩)(c:PySem.W.codeIn K cd n=true)(k:PySem.W.keepIn K (.ref f)=true):FnL K n st:=⟨_,_,a,AK l c k⟩
theorem mtL(a:PySem.W.findIn K (.ref C) n=some (some (.ref f)))(i:PySem.W.isFn K (.ref f)=true)(l:K.lookup f=some ⟨oc,od,.func (PySem.W.fnOf n q (dX st) (dI st) (aD st) .none kV dc pm an cd ct),sl⟩)(c:PySem.W.codeIn K cd q=true)(k:PySem.W.keepIn K (.ref f)=true):MtL K C n q st:=⟨_,_,a,i,AK l c k⟩
def Bx(P:Program)(w:World)(base:Heap):Prop:=P=P/\w=w/\base=base
def BdR(n q:Str)(st:Stmt)(ps:List Str):Prop:=∀(kV doc pm:Value) (an:Option Addr) (cdv ct:Value) (us:List Value),us.length=ps.length->bindArgs (PySem.W.fnOf n q (dX st) (dI st) (aD st) .none kV doc pm an cdv ct) ⟨us,[]⟩=pure (ps.zip us)
theorem cal(_:Bx P w base)(X:K.In h)(G:h.Ns mainGlobals mg)(a:PySem.W.nsIn K mainGlobals n=some (some (.ref f)))(F:Fun K n n st f fd)(o:FnOk P w K mg base CX0 k f fd ps sp)(b:BdR n n st ps):Cal P w K mg base k n ps sp f fd:=⟨o,PySem.W.mg_of X G a,F.kp,F.binds b⟩
theorem me(_:Bx P w base)(a:PySem.W.findIn K (.ref C) n=some (some (.ref f)))(i:PySem.W.isFn K (.ref f)=true)(F:Fun K n q st f fd)(o:FnOk P w K mg base CX0 k f fd ps sp)(b:BdR n q st ps):MCal P w K mg base k C n ps sp f fd:=⟨o,⟨a,i,F.kp⟩,F.binds b⟩
theorem us1{A:List Value->Prop}(h:∀a,A [a]):∀us:List Value,us.length=1->A us
 | [a],_=>h a
theorem us2{A:List Value->Prop}(h:∀a b,A [a,b]):∀us:List Value,us.length=2->A us
 | [a,b],_=>h a b
theorem us3{A:List Value->Prop}(h:∀a b c,A [a,b,c]):∀us:List Value,us.length=3->A us
 | [a,b,c],_=>h a b c
theorem us4{A:List Value->Prop}(h:∀a b c d,A [a,b,c,d]):∀us:List Value,us.length=4->A us
 | [a,b,c,d],_=>h a b c d
end
theorem all_mk{l:PySem.W.OpenLaw}{w:World}{K:PySem.W.Frag}{h:Heap}{mg:Str->Option Value}{fa CC1 CC2 f4 dt4 f53 dt53:Addr}(X:K.In h)(G:h.Ns mainGlobals mg)(hfa:mg "law"=some (.ref fa))
 {od4 an4 odt4 od53 an53 odt53:Option Addr} {sl4 slt4 sl53 slt53:Array (Option Value)} {oc4 kV4 dc4 pm4 cd4 ct4 oct4 oc53 kV53 dc53 pm53 cd53 ct53 oct53:Value} {nt4:Nat} {tk4_0:Tok} {nt53:Nat} {tk_HIGHEST:Tok}
 (cc1:ClL K "Ratio" CC1)
 (n1_top:PySem.W.findIn K (.ref CC1) "top"=some none)
 (n1_bottom:PySem.W.findIn K (.ref CC1) "bottom"=some none)
 (cc2:ClL K "Number" CC2)
 (n2_poly:PySem.W.findIn K (.ref CC2) "poly"=some none)
 (n2_low:PySem.W.findIn K (.ref CC2) "low"=some none)
 (n2_high:PySem.W.findIn K (.ref CC2) "high"=some none)
 (a4:PySem.W.findIn K (.ref CC1) "__init__"=some (some (.ref f4))) (i4:PySem.W.isFn K (.ref f4)=true)
 (l4:K.lookup f4=some ⟨oc4,od4,.func (PySem.W.fnOf "__init__" "Ratio.__init__" (dX jS) (dI jS) (aD jS) (.ref dt4) kV4 dc4 pm4 an4 cd4 ct4),sl4⟩) (c4:PySem.W.codeIn K cd4 "Ratio.__init__"=true) (k4:PySem.W.keepIn K (.ref f4)=true)
 (t4:K.lookup dt4=some ⟨oct4,odt4,.seq #[.int 1 tk4_0] nt4,slt4⟩)
 (a53:PySem.W.nsIn K mainGlobals "number"=some (some (.ref f53)))
 (l53:K.lookup f53=some ⟨oc53,od53,.func (PySem.W.fnOf "number" "number" (dX jR) (dI jR) (aD jR) (.ref dt53) kV53 dc53 pm53 an53 cd53 ct53),sl53⟩) (c53:PySem.W.codeIn K cd53 "number"=true) (k53:PySem.W.keepIn K (.ref f53)=true)
 (t53:K.lookup dt53=some ⟨oct53,odt53,.seq #[.none,.none] nt53,slt53⟩)
 (aI_HIGHEST:PySem.W.nsIn K mainGlobals "HIGHEST"=some (some (.int 8 tk_HIGHEST)))
 (z0:PySem.W.nsIn K mainGlobals "abs"=some none)
 (z1:PySem.W.nsIn K mainGlobals "len"=some none)
 (z2:PySem.W.nsIn K mainGlobals "max"=some none)
 (z3:PySem.W.nsIn K mainGlobals "range"=some none)
 (z4:PySem.W.nsIn K mainGlobals "enumerate"=some none)
 (z5:PySem.W.nsIn K mainGlobals "reversed"=some none)
 (z6:PySem.W.nsIn K mainGlobals "list"=some none)
 (z7:PySem.W.nsIn K mainGlobals "sum"=some none)
 (z8:PySem.W.nsIn K mainGlobals "any"=some none)
 (z9:PySem.W.nsIn K mainGlobals "zip"=some none)
 (z10:PySem.W.nsIn K mainGlobals "isinstance"=some none)
 (z11:PySem.W.nsIn K mainGlobals "int"=some none)
 (z12:PySem.W.nsIn K mainGlobals "bool"=some none)
 (l1:FnL K "shared_by_two" qK)
 (l2:FnL K "shared" qL)
 (l3:FnL K "whole_sign" qy)
 (l5:MtL K CC1 "against" "Ratio.against" sj)
 (l6:FnL K "poly" qT)
 (l7:FnL K "degree" rD)
 (l8:FnL K "coefficient" rG)
 (l9:FnL K "taken" qC)
 (l10:FnL K "slope" qI)
 (l11:FnL K "shrunk" nX)
 (l12:FnL K "plain" qU)
 (l13:FnL K "scaled" qM)
 (l14:FnL K "lowered" rh)
 (l15:FnL K "divided" rC)
 (l16:FnL K "value_parts" qz)
 (l17:FnL K "sign_at" qJ)
 (l18:FnL K "row_from" qO)
 (l19:FnL K "row_of" qN)
 (l20:FnL K "changes" rH)
 (l21:FnL K "count" rE)
 (l22:FnL K "bound" rK)
 (l23:FnL K "common" rF)
 (l24:FnL K "part" qV)
 (l25:FnL K "refuse_high" qP)
 (l26:FnL K "without_squares" qx)
 (l27:MtL K CC2 "__init__" "Number.__init__" sk)
 (l28:FnL K "fine_width" rA)
 (l29:MtL K CC1 "floor" "Ratio.floor" si)
 (l30:FnL K "middle" re)
 (l31:FnL K "cells" rJ)
 (l32:FnL K "divides" rB)
 (l33:FnL K "added" rN)
 (l34:FnL K "multiplied" q8)
 (l35:MtL K CC1 "plus" "Ratio.plus" se)
 (l36:MtL K CC1 "minus" "Ratio.minus" sh)
 (l37:MtL K CC1 "times" "Ratio.times" sd)
 (l38:FnL K "times_floor" qB)
 (l39:FnL K "span_product" qG)
 (l40:FnL K "square_of" qE)
 (l41:FnL K "line_of" rj)
 (l42:FnL K "halvings" rq)
 (l43:FnL K "stretched" qD)
 (l44:FnL K "spread" qF)
 (l45:FnL K "moved" rd)
 (l46:FnL K "halved" rz)
 (l47:FnL K "along" rM)
 (l48:FnL K "narrowed" qZ)
 (l49:FnL K "many_within" rf)
 (l50:FnL K "refuse_great" qQ)
 (l51:FnL K "least" rk)
 (l52:FnL K "number_in" qY)
 (l54:FnL K "span_of" qH)
 (l55:FnL K "turned" qA)
 (l56:FnL K "only_root" qX)
 (l57:FnL K "ratio_quotients" qR)
 (l58:FnL K "between" rL)
 (l59:FnL K "quotients" qS)
 (l60:FnL K "_law_whole" rP)
 (l61:FnL K "opposite" qW)
 (l62:FnL K "_law_cell_at" rZ)
 (l63:FnL K "_law_divisor" rY)
 (l64:FnL K "_law_plain" rT)
 (l65:FnL K "_law_least" rW)
 (l66:FnL K "_law_amount" r8)
 (l67:FnL K "_law_worth" rO)
 (l68:FnL K "_law_span" rR)
 (l69:FnL K "_law_times" rQ)
 (l70:FnL K "_law_padded" rV)
 (l71:FnL K "_law_root" rS)
 (l72:FnL K "_law_due" rX)
 (l73:FnL K "_law_alike" r9)
 (l74:FnL K "law" rm)
 (hTr:l.prog.given.tree=none)
 : ∃fd:FuncData,(∀(s:Shared) (v:Value),BindsTo s fd ⟨[v],[]⟩ [("_law_script",v)])/\∀base:Heap,K.In base->base.Ns mainGlobals mg->base.NoSeer->FnOk l.prog w K mg base CX0 40 fa fd ["_law_script"] (nI K):=by
 obtain⟨_,_,a1,F1⟩:=l1;obtain⟨_,_,a2,F2⟩:=l2;obtain⟨_,_,a3,F3⟩:=l3;obtain⟨_,_,a5,i5,F5⟩:=l5;obtain⟨_,_,a6,F6⟩:=l6;obtain⟨_,_,a7,F7⟩:=l7;obtain⟨_,_,a8,F8⟩:=l8;obtain⟨_,_,a9,F9⟩:=l9;obtain⟨_,_,a10,F10⟩:=l10;obtain⟨_,_,a11,F11⟩:=l11;obtain⟨_,_,a12,F12⟩:=l12;obtain⟨_,_,a13,F13⟩:=l13;obtain⟨_,_,a14,F14⟩:=l14;obtain⟨_,_,a15,F15⟩:=l15;obtain⟨_,_,a16,F16⟩:=l16;obtain⟨_,_,a17,F17⟩:=l17;obtain⟨_,_,a18,F18⟩:=l18;obtain⟨_,_,a19,F19⟩:=l19;obtain⟨_,_,a20,F20⟩:=l20;obtain⟨_,_,a21,F21⟩:=l21;obtain⟨_,_,a22,F22⟩:=l22;obtain⟨_,_,a23,F23⟩:=l23;obtain⟨_,_,a24,F24⟩:=l24;obtain⟨_,_,a25,F25⟩:=l25;obtain⟨_,_,a26,F26⟩:=l26;obtain⟨_,_,a27,i27,F27⟩:=l27;obtain⟨_,_,a28,F28⟩:=l28;obtain⟨_,_,a29,i29,F29⟩:=l29;obtain⟨_,_,a30,F30⟩:=l30;obtain⟨_,_,a31,F31⟩:=l31;obtain⟨_,_,a32,F32⟩:=l32;obtain⟨_,_,a33,F33⟩:=l33;obtain⟨_,_,a34,F34⟩:=l34;obtain⟨_,_,a35,i35,F35⟩:=l35;obtain⟨_,_,a36,i36,F36⟩:=l36;obtain⟨_,_,a37,i37,F37⟩:=l37;obtain⟨_,_,a38,F38⟩:=l38;obtain⟨_,_,a39,F39⟩:=l39;obtain⟨_,_,a40,F40⟩:=l40;obtain⟨_,_,a41,F41⟩:=l41;obtain⟨_,_,a42,F42⟩:=l42;obtain⟨_,_,a43,F43⟩:=l43;obtain⟨_,_,a44,F44⟩:=l44;obtain⟨_,_,a45,F45⟩:=l45;obtain⟨_,_,a46,F46⟩:=l46;obtain⟨_,_,a47,F47⟩:=l47;obtain⟨_,_,a48,F48⟩:=l48;obtain⟨_,_,a49,F49⟩:=l49;obtain⟨_,_,a50,F50⟩:=l50;obtain⟨_,_,a51,F51⟩:=l51;obtain⟨_,_,a52,F52⟩:=l52;obtain⟨_,_,a54,F54⟩:=l54;obtain⟨_,_,a55,F55⟩:=l55;obtain⟨_,_,a56,F56⟩:=l56;obtain⟨_,_,a57,F57⟩:=l57;obtain⟨_,_,a58,F58⟩:=l58;obtain⟨_,_,a59,F59⟩:=l59;obtain⟨_,_,a60,F60⟩:=l60;obtain⟨_,_,a61,F61⟩:=l61;obtain⟨_,_,a62,F62⟩:=l62;obtain⟨_,_,a63,F63⟩:=l63;obtain⟨_,_,a64,F64⟩:=l64;obtain⟨_,_,a65,F65⟩:=l65;obtain⟨_,_,a66,F66⟩:=l66;obtain⟨_,_,a67,F67⟩:=l67;obtain⟨_,_,a68,F68⟩:=l68;obtain⟨_,_,a69,F69⟩:=l69;obtain⟨_,_,a70,F70⟩:=l70;obtain⟨_,_,a71,F71⟩:=l71;obtain⟨_,_,a72,F72⟩:=l72;obtain⟨_,_,a73,F73⟩:=l73;obtain⟨_,fdL,a74,F74⟩:=l74;cases hfa.symm.trans (PySem.W.mg_of X G a74);have T:Txt K mg:=⟨PySem.W.mg_none_of X G z0,PySem.W.mg_none_of X G z1,PySem.W.mg_none_of X G z2,PySem.W.mg_none_of X G z3,PySem.W.mg_none_of X G z4,PySem.W.mg_none_of X G z5,PySem.W.mg_none_of X G z6,PySem.W.mg_none_of X G z7,PySem.W.mg_none_of X G z8,PySem.W.mg_none_of X G z9,PySem.W.mg_none_of X G z10,PySem.W.mg_none_of X G z11,PySem.W.mg_none_of X G z12,⟨_,PySem.W.mg_of X G aI_HIGHEST⟩⟩;have R1:RCI K mg CC1:=⟨⟨cc1.pg,cc1.hd,cc1.po,cc1.sa⟩,n1_top,n1_bottom,PySem.W.mg_of X G cc1.a,cc1.ha,cc1.hn,cc1.ht,cc1.hm⟩;have R2:NCI K mg CC2:=⟨⟨cc2.pg,cc2.hd,cc2.po,cc2.sa⟩,n2_poly,n2_low,n2_high,PySem.W.mg_of X G cc2.a,cc2.ha,cc2.hn,cc2.ht,cc2.hm⟩;have F4:=AL (st:=jS) l4 c4 k4;have b4:=FunD.bindsD (ps:=["self","top","bottom"]) (ds:=[]) (tup:=[.int 1 tk4_0]) 3 F4 t4 rfl rfl λ_ _ _ _ _ _=>us3 λ_ _ _=>⟨_,rfl,rfl⟩
 have bD4:=FunD.bindsD (ps:=["self","top","bottom"]) (ds:=[.int 1 tk4_0]) (tup:=[.int 1 tk4_0]) 2 F4 t4 rfl rfl λ_ _ _ _ _ _=>us2 λ_ _=>⟨_,rfl,rfl⟩
 have F53:=AL (st:=jR) l53 c53 k53;have b53:=FunD.bindsD (ps:=["row","low","high"]) (ds:=[]) (tup:=[.none,.none]) 3 F53 t53 rfl rfl λ_ _ _ _ _ _=>us3 λ_ _ _=>⟨_,rfl,rfl⟩
 have bD53:=FunD.bindsD (ps:=["row","low","high"]) (ds:=[.none,.none]) (tup:=[.none,.none]) 1 F53 t53 rfl rfl λ_ _ _ _ _ _=>us1 λ_=>⟨_,rfl,rfl⟩
 obtain⟨_,_,_,_,_,_,_,_,_,e,_,_⟩:=F74.ex;refine⟨fdL,λs v=>.of_eq (by rw[e];rfl),λbase KB GB hNS=>?_⟩;have Z:Bx l.prog w base:=⟨rfl,rfl,rfl⟩;have C1:=cal Z X G a1 F1 (FZ F1 T) λ_ _ _ _ _ _=>us2 λ_ _=>rfl
 have C2:=cal Z X G a2 F2 (Ga F2 T C1) λ_ _ _ _ _ _=>us1 λ_=>rfl
 have C3:=cal Z X G a3 F3 (FM F3 T) λ_ _ _ _ _ _=>us1 λ_=>rfl
 have K1:KCal l.prog w K mg base 2 CC1 "Ratio" ["self","top","bottom"] (c9 CC1) _ _ _ [.int 1]:=⟨G9 F4 T R1 C1,⟨cc1.mkr,a4,i4,cc1.kc⟩,PySem.W.mg_of X G cc1.a,b4,bD4,.cons ⟨_,rfl⟩ .nil⟩;have C5:=me Z a5 i5 F5 (G8 F5 T R1 C3) λ_ _ _ _ _ _=>us2 λ_ _=>rfl
 have C6:=cal Z X G a6 F6 (Gi F6 T) λ_ _ _ _ _ _=>us1 λ_=>rfl
 have C7:=cal Z X G a7 F7 (GG F7 T) λ_ _ _ _ _ _=>us1 λ_=>rfl
 have C8:=cal Z X G a8 F8 (GJ F8 T) λ_ _ _ _ _ _=>us2 λ_ _=>rfl
 have C9:=cal Z X G a9 F9 (FQ F9 T C6 C8) λ_ _ _ _ _ _=>us2 λ_ _=>rfl
 have C10:=cal Z X G a10 F10 (FW F10 T) λ_ _ _ _ _ _=>us1 λ_=>rfl
 have C11:=cal Z X G a11 F11 (FY F11 T hNS hTr C2) λ_ _ _ _ _ _=>us1 λ_=>rfl
 have C12:=cal Z X G a12 F12 (Gj F12 T C11) λ_ _ _ _ _ _=>us1 λ_=>rfl
 have C13:=cal Z X G a13 F13 (Gb F13 T) λ_ _ _ _ _ _=>us2 λ_ _=>rfl
 have C14:=cal Z X G a14 F14 (Gw F14 T) λ_ _ _ _ _ _=>us4 λ_ _ _ _=>rfl
 have C15:=cal Z X G a15 F15 (GF F15 T C3 C7 C13 C14 C6) λ_ _ _ _ _ _=>us2 λ_ _=>rfl
 have C16:=cal Z X G a16 F16 (FN F16 T) λ_ _ _ _ _ _=>us3 λ_ _ _=>rfl
 have C17:=cal Z X G a17 F17 (FX F17 T R1 C16 C3) λ_ _ _ _ _ _=>us2 λ_ _=>rfl
 have C18:=cal Z X G a18 F18 (Gd F18 T C11 C15 C9) λ_ _ _ _ _ _=>us2 λ_ _=>rfl
 have C19:=cal Z X G a19 F19 (Gc F19 T C18 C10) λ_ _ _ _ _ _=>us1 λ_=>rfl
 have C20:=cal Z X G a20 F20 (GK F20 T R1 C17) λ_ _ _ _ _ _=>us2 λ_ _=>rfl
 have C21:=cal Z X G a21 F21 (GH F21 T R1 C20) λ_ _ _ _ _ _=>us3 λ_ _ _=>rfl
 have C22:=cal Z X G a22 F22 (GM F22 T) λ_ _ _ _ _ _=>us1 λ_=>rfl
 have C23:=cal Z X G a23 F23 (GI F23 T C12 C15) λ_ _ _ _ _ _=>us2 λ_ _=>rfl
 have C24:=cal Z X G a24 F24 (Gk F24 T C15 C12) λ_ _ _ _ _ _=>us2 λ_ _=>rfl
 have C25:=cal Z X G a25 F25 (Ge F25 T) λ_ _ _ _ _ _=>us1 λ_=>rfl
 have C26:=cal Z X G a26 F26 (FL F26 T C24 C23 C10) λ_ _ _ _ _ _=>us1 λ_=>rfl
 have b27:Binds K _ ["self","row","low","high"] []:=F27.binds (λ_ _ _ _ _ _=>us4 λ_ _ _ _=>rfl);have K2:KCal l.prog w K mg base 1 CC2 "Number" ["self","row","low","high"] (iC CC2) _ _ _ []:=⟨Ha F27 T R2,⟨cc2.mkr,a27,i27,cc2.kc⟩,PySem.W.mg_of X G cc2.a,b27,b27,.nil⟩;have C28:=cal Z X G a28 F28 (GD F28 T R1 K1 C22) λ_ _ _ _ _ _=>us1 λ_=>rfl
 have C29:=me Z a29 i29 F29 (G7 F29 T R1) λ_ _ _ _ _ _=>us1 λ_=>rfl
 have C30:=cal Z X G a30 F30 (Gu F30 T R1 K1) λ_ _ _ _ _ _=>us2 λ_ _=>rfl
 have C31:=cal Z X G a31 F31 (GL F31 T R1 C7 C19 K1 C22 C20 C30) λ_ _ _ _ _ _=>us1 λ_=>rfl
 have C32:=cal Z X G a32 F32 (GE F32 T C15) λ_ _ _ _ _ _=>us2 λ_ _=>rfl
 have C33:=cal Z X G a33 F33 (GP F33 T C6 C8) λ_ _ _ _ _ _=>us2 λ_ _=>rfl
 have C34:=cal Z X G a34 F34 (Gr F34 T) λ_ _ _ _ _ _=>us2 λ_ _=>rfl
 have C35:=me Z a35 i35 F35 (G5 F35 T R1 K1) λ_ _ _ _ _ _=>us2 λ_ _=>rfl
 have C36:=me Z a36 i36 F36 (G6 F36 T R1 K1) λ_ _ _ _ _ _=>us2 λ_ _=>rfl
 have C37:=me Z a37 i37 F37 (G4 F37 T R1 K1) λ_ _ _ _ _ _=>us2 λ_ _=>rfl
 have C38:=cal Z X G a38 F38 (FP F38 T R1 K1 C37 C29) λ_ _ _ _ _ _=>us2 λ_ _=>rfl
 have C39:=cal Z X G a39 F39 (FU F39 T R1 C37 C5) λ_ _ _ _ _ _=>us2 λ_ _=>rfl
 have C40:=cal Z X G a40 F40 (FS F40 T R1 C38 C35 C39 C12) λ_ _ _ _ _ _=>us3 λ_ _ _=>rfl
 have C41:=cal Z X G a41 F41 (Gx F41 T R1 K1 C38 C5 C17) λ_ _ _ _ _ _=>us2 λ_ _=>rfl
 have C42:=cal Z X G a42 F42 (GA F42 T R1) λ_ _ _ _ _ _=>us2 λ_ _=>rfl
 have C43:=cal Z X G a43 F43 (FR F43 T R1 C2 C33 C34 C6) λ_ _ _ _ _ _=>us3 λ_ _ _=>rfl
 have C44:=cal Z X G a44 F44 (FT F44 T) λ_ _ _ _ _ _=>us1 λ_=>rfl
 have C45:=cal Z X G a45 F45 (Gs F45 T C7) λ_ _ _ _ _ _=>us1 λ_=>rfl
 have C46:=cal Z X G a46 F46 (GC F46 T C44 C3 C45) λ_ _ _ _ _ _=>us3 λ_ _ _=>rfl
 have C47:=cal Z X G a47 F47 (GO F47 T R1 C35 C37 K1) λ_ _ _ _ _ _=>us4 λ_ _ _ _=>rfl
 have C48:=cal Z X G a48 F48 (Gq F48 T R1 C36 C42 C46 C43 C17 C47) λ_ _ _ _ _ _=>us4 λ_ _ _ _=>rfl
 have C49:=cal Z X G a49 F49 (Gv F49 T R1 C5 C21 C19) λ_ _ _ _ _ _=>us3 λ_ _ _=>rfl
 have C50:=cal Z X G a50 F50 (Gf F50 T) λ_ _ _ _ _ _=>us1 λ_=>rfl
 have C51:=cal Z X G a51 F51 (Gy F51 T C12 C7 C28 C48 C41 C31 C40 C32 C21 C19) λ_ _ _ _ _ _=>us3 λ_ _ _=>rfl
 have C52:=cal Z X G a52 F52 (Go F52 T R1 C51 C17 C48 C36 C37 K1 K2) λ_ _ _ _ _ _=>us3 λ_ _ _=>rfl
 have C53:CalE l.prog w K mg base 39 "number" ["row","low","high"] (qb CC1 CC2) _ _ _ [.non,.non]:=⟨Gp F53 T R1 C25 C7 K1 C22 C26 C49 C50 C52,PySem.W.mg_of X G a53,k53,b53,bD53,.cons rfl (.cons rfl (.nil))⟩;have C54:=cal Z X G a54 F54 (FV F54 T R1 R2 C48) λ_ _ _ _ _ _=>us2 λ_ _=>rfl
 have C55:=cal Z X G a55 F55 (FO F55 T) λ_ _ _ _ _ _=>us1 λ_=>rfl
 have C56:=cal Z X G a56 F56 (Gn F56 T R1 R2 K1 C36 K2) λ_ _ _ _ _ _=>us1 λ_=>rfl
 have C57:=cal Z X G a57 F57 (Gg F57 T R1) λ_ _ _ _ _ _=>us1 λ_=>rfl
 have C58:=cal Z X G a58 F58 (GN F58 T R1 R2 C54 C57) λ_ _ _ _ _ _=>us2 λ_ _=>rfl
 have C59:=cal Z X G a59 F59 (Gh F59 T R1 R2 C7 C57 K1 C58 C37) λ_ _ _ _ _ _=>us2 λ_ _=>rfl
 have C60:=cal Z X G a60 F60 (GR F60 T) λ_ _ _ _ _ _=>us1 λ_=>rfl
 have C61:=cal Z X G a61 F61 (Gm F61 T R1 R2 C12 C55 C7 C56 K2 K1 C36) λ_ _ _ _ _ _=>us1 λ_=>rfl
 have C62:=cal Z X G a62 F62 (G1 F62 T) λ_ _ _ _ _ _=>us2 λ_ _=>rfl
 have C63:=cal Z X G a63 F63 (GZ F63 T) λ_ _ _ _ _ _=>us2 λ_ _=>rfl
 have C64:=cal Z X G a64 F64 (GV F64 T C63) λ_ _ _ _ _ _=>us1 λ_=>rfl
 have C65:=cal Z X G a65 F65 (GX F65 T C64) λ_ _ _ _ _ _=>us1 λ_=>rfl
 have C66:=cal Z X G a66 F66 (G2 F66 T) λ_ _ _ _ _ _=>us1 λ_=>rfl
 have C67:=cal Z X G a67 F67 (GQ F67 T C66 C62) λ_ _ _ _ _ _=>us2 λ_ _=>rfl
 have C68:=cal Z X G a68 F68 (GT F68 T R1 K1) λ_ _ _ _ _ _=>us2 λ_ _=>rfl
 have C69:=cal Z X G a69 F69 (GS F69 T) λ_ _ _ _ _ _=>us2 λ_ _=>rfl
 have C70:=cal Z X G a70 F70 (GW F70 T R1 C65 C69) λ_ _ _ _ _ _=>us3 λ_ _ _=>rfl
 have C71:=cal Z X G a71 F71 (GU F71 T) λ_ _ _ _ _ _=>us1 λ_=>rfl
 have C72:=cal Z X G a72 F72 (GY F72 T C71 C63) λ_ _ _ _ _ _=>us2 λ_ _=>rfl
 have C73:=cal Z X G a73 F73 (G3 F73 T C60) λ_ _ _ _ _ _=>us2 λ_ _=>rfl
 exact Gz F74 T R1 R2 C67 C68 C62 C65 K2 C53 C70 C72 C59 C73 C61
theorem walk{l:PySem.W.OpenLaw}{q:Program}{loose:List Str}{XP:(Str->Option Value)->Heap->Prop}{YP:World->Heap->Prop}{d:DefRec}{K:Params->PySem.W.Frag}(hi:PyProof.Rows.importsNone q=true)(hn:l.most=some 63)(hdf:d.params.defaults=[])
 (hY:∀(w:World) (h:Heap),YP w h->(K w.params).In h)
 (F:∀(w:World) (mg:Str->Option Value) (fa:Addr) (h:Heap),(K w.params).In h->h.Ns mainGlobals mg->mg d.name=some (.ref fa) ->
   ∃fd:FuncData,(∀(s:Shared) (u:Value),BindsTo s fd ⟨[u],[]⟩ [("_law_script",u)])/\∀base:Heap,(K w.params).In base->base.Ns mainGlobals mg->base.NoSeer->FnOk l.prog w (K w.params) mg base CX0 40 fa fd ["_law_script"] (nI (K w.params))) :
 PySem.W.WalkO q loose XP YP l.row.toRowW d [] (λf vs=>PySem.call f vs) :=
 L2.walk_ofS (n:=63) (k:=40) (x:="_law_script") (CX:=λ_=>CX0) (sp:=λw=>nI (K w.params)) hi hn (by decide) hdf ⟨rfl,by decide,by decide⟩ hY F (λ_ _ a ns hl _ hS=>⟨a,ns,rfl,hS,hl,λ_=>rfl⟩) λ_ _ _ _ _ z=>z
section
end
end R75
open PySem PySem.W PyProof.Rows
set_option maxRecDepth 100000 in
set_option maxHeartbeats 0 in
theorem PySem.Challenge.cw_rootspan_k75_quotients_of_roots_holds : PySem.Challenge.rw_rootspan_k75_quotients_of_roots.Holds := by
 w_on;o_law;k_head;(case hw=>w_witness2)
 k_fill
 refine R75.walk (l:=PySem.Challenge.rw_rootspan_k75_quotients_of_roots) (by decide +kernel) rfl rfl (λw h Y=>PySem.W.kIn_of Y) ?F
 case F =>
  intro w mg fa h KX G hmg
  refine' R75.all_mk KX G hmg ?cc1 ?n1_top ?n1_bottom ?cc2 ?n2_poly ?n2_low ?n2_high ?a4 ?i4 ?l4 ?c4 ?k4 ?t4 ?a53 ?l53 ?c53 ?k53 ?t53 ?aI_HIGHEST ?_ ?_ ?_ ?_ ?_ ?_ ?_ ?_ ?_ ?_ ?_ ?_ ?_ ?_ ?_ ?_ ?_ ?_ ?_ ?_ ?_ ?_ ?_ ?_ ?_ ?_ ?_ ?_ ?_ ?_ ?_ ?_ ?_ ?_ ?_ ?_ ?_ ?_ ?_ ?_ ?_ ?_ ?_ ?_ ?_ ?_ ?_ ?_ ?_ ?_ ?_ ?_ ?_ ?_ ?_ ?_ ?_ ?_ ?_ ?_ ?_ ?_ ?_ ?_ ?_ ?_ ?_ ?_ ?_ ?_ ?_ ?_ ?_ ?_ ?_ ?_ ?_ ?_ ?_ ?_ ?_ ?_ ?_ ?_ ?_ rfl
  (case cc1=>apply R75.ClL.mk<;>k_is)
  (case n1_top=>k_is)
  (case n1_bottom=>k_is)
  (case cc2=>apply R75.ClL.mk<;>k_is)
  (case n2_poly=>k_is)
  (case n2_low=>k_is)
  (case n2_high=>k_is)
  (case a4=>k_is)
  (case i4=>k_is)
  (case l4=>k_is)
  (case c4=>k_is)
  (case k4=>k_is)
  (case t4=>k_is)
  (case a53=>k_is)
  (case l53=>k_is)
  (case c53=>k_is)
  (case k53=>k_is)
  (case t53=>k_is)
  (case aI_HIGHEST=>k_is)
  all_goals first | (apply R75.fnL<;>k_is) | (apply R75.mtL<;>k_is) |k_is
