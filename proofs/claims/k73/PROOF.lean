import PyProof.Rows.All
import Wide.All
import OpenK.AllK
import Wide.FinOn
import Lean
import PyProof.EqAt
import PyProof.EqKinds
import PyProof.TupleCall
import PySem.Challenge.RW_rootspan_k73_figures
set_option Elab.async false
set_option linter.all false
set_option maxRecDepth 100000
local macro_rules | `(tactic|omega)=>`(tactic|first |lia |omega (splitDisjunctions:=true))
noncomputable section
namespace Al
def QB:=@List.length_map
def QC:=@Int.mul_pos
def QD:=@Nat.le_refl
def QE:=@Int.le_of_lt
def QF:=@List.mem_singleton
def QG:=@List.length_pos_iff
def QH:=@Nat.zero_le
def QI:=@Rat.intCast_mul
def QJ:=@List.mem_cons_of_mem
def QK:=@List.mem_cons
def QL:=@Nat.le_trans
def QM:=@Rat.le_of_lt
def QN:=@List.mem_cons_self
def QO:=@List.length_append
def QP:=@Rat.intCast_lt_intCast
def QQ:=@List.mem_map
def QR:=@Int.natAbs_mul
def QS:=@List.mem_append
def QT:=@Int.mul_comm
def QU:=@Int.mul_ne_zero
def QV:=@Rat.mul_pos
def QW:=@Rat.div_mul_cancel
def QX:=@Int.mul_zero
def QY:=@List.map_append
def QZ:=@Int.one_mul
def Q0:=@Rat.mul_nonneg
def Q1:=@Int.mul_one
def Q2:=@Int.natAbs_natCast
def Q3:=@Int.zero_mul
def Q4:=@Int.pow_succ
def Q5:=@Int.mul_le_mul_of_nonneg_right
def Q6:=@Rat.le_refl
def Q7:=@Int.le_refl
def Q8:=@Int.mul_nonneg
def Q9:=@Nat.lt_of_lt_of_le
def Ra:=@List.size_toArray
def Rb:=@List.length_cons
def Rc:=@Int.mul_assoc
def Re:=@Nat.ne_of_lt
def Rf:=@Int.ne_of_gt
def Rg:=@Rat.mul_le_mul_of_nonneg_left
def Rh:=@Bool.false_ne_true
def Ri:=@List.map_cons
def Rj:=@Int.mul_lt_mul_of_pos_right
def Rk:=@Int.add_zero
def Rl:=@Int.pow_pos
def Rm:=@List.mem_append_right
def Rn:=@List.length_take
def Ro:=@Nat.mul_le_mul_right
def Rp:=@Int.not_lt
def Rq:=@Rat.mul_le_mul_of_nonneg_right
def Rr:=@List.length_drop
def Rs:=@Rat.le_total
def Rt:=@Rat.ne_of_gt
def Ru:=@Int.zero_add
def Rv:=@Nat.sub_zero
def Rw:=@List.map_map
def Rx:=@Int.natCast_mul
def Ry:=@Nat.lt_irrefl
def Rz:=@Nat.pow_succ
def RB:=@Nat.lt_of_le_of_lt
def RC:=@Nat.pow_pos
def RD:=@Nat.mul_le_mul
def RE:=@List.take_add_one
def RF:=@List.take_length
def RG:=@Int.pow_zero
def RH:=@Int.neg_mul
def RI:=@Rat.not_lt
def RJ:=@Nat.mul_comm
def RK:=@Nat.le_of_not_lt
def RL:=@List.drop_zero
def RO:=@List.length_range
def RP:=@Nat.mul_le_mul_left
def RQ:=@Int.not_le
def RS:=@Rat.intCast_le_intCast
def RT:=@Int.lt_or_eq_of_le
def RU:=@List.mem_append_left
def RV:=@Nat.lt_succ_self
def RW:=@List.append_assoc
def RX:=@Int.mul_eq_zero
def RY:=@Int.lt_or_gt_of_ne
def RZ:=@Int.lt_or_le
def R0:=@List.mem_flatMap
def R3:=@List.replicate_succ
def R4:=@List.flatten_cons
def R5:=@Int.natAbs_neg
def R6:=@Nat.gcd_dvd_left
def R7:=@Int.lt_of_mul_lt_mul_right
def R8:=@Nat.le_of_eq
def R9:=@List.nodup_cons
def Sa:=@List.lookup_cons
def Sb:=@List.getElem_mem
def Sc:=@Nat.sub_self
def Sd:=@List.length_eq_zero_iff
def Se:=@Int.natAbs_pos
def Sf:=@List.eq_nil_of_length_eq_zero
def Sg:=@Int.mul_le_mul_of_nonneg_left
def Sh:=@Rat.not_le
def Si:=@Rat.mul_comm
def Sj:=@Nat.le_of_lt
def Sk:=@List.length_set
def Sl:=@Nat.gcd_dvd_right
def Sm:=@List.map_congr_left
def Sn:=@Int.ofNat_dvd_left
def So:=@Int.natAbs_sub_le
def Sq:=@Int.mul_pos_of_neg_of_neg
def Sr:=@Rat.intCast_neg
def Ss:=@Int.natCast_pow
def Su:=@Int.ofNat_lt
def Sv:=@List.reverse_append
def Sw:=@Nat.le_mul_of_pos_left
def Sx:=@Int.mul_neg_of_neg_of_pos
def Sy:=@Nat.gcd_zero_left
def Sz:=@Int.eq_ofNat_of_zero_le
def SA:=@Nat.gcd_comm
def SB:=@Nat.dvd_trans
def SD:=@Int.eq_of_mul_eq_mul_right
def SE:=@Int.natAbs_pow
def SF:=@Int.mul_le_mul
def SG:=@Rat.intCast_add
def SH:=@Rat.intCast_inj
def SI:=@List.append_of_mem
def SJ:=@Rat.intCast_sub
def SK:=@Nat.min_le_left
def SL:=@Nat.not_lt_zero
def SM:=@Nat.pow_lt_pow_iff_right
def SN:=@Bool.eq_iff_iff
def SO:=@List.length_replicate
def SQ:=@Bool.and_eq_true
def SR:=@Nat.pow_le_pow_right
def SS:=@Int.natAbs_add_le
def ST:=@Int.natAbs_dvd_natAbs
def SU:=@Int.mul_neg_of_pos_of_neg
def SV:=@List.cons_append
def SW:=@Int.lt_trichotomy
def SX:=@Nat.add_le_add
def SY:=@Nat.gcd_one_right
def SZ:=@List.not_mem_nil
def S0:=@Int.mul_nonneg_of_nonpos_of_nonpos
def S1:=@Nat.add_sub_cancel
def S2:=@Int.natCast_nonneg
def S3:=@Nat.eq_zero_or_pos
def S4:=@List.mem_of_mem_drop
def S5:=@List.mem_of_mem_take
def S6:=@Int.emod_lt_of_pos
def S7:=@Int.natAbs_ediv_le_natAbs
def S8:=@List.drop_eq_getElem_cons
def S9:=@Int.lt_of_mul_lt_mul_left
def Ta:=@Nat.le_of_mul_le_mul_right
def Tb:=@Int.eq_of_mul_eq_mul_left
def Tc:=@Nat.le_of_mul_le_mul_left
def Td:=@Int.mul_lt_mul_of_pos_left
def Te:=@Rat.mul_lt_mul_of_pos_right
end Al
open Al
namespace PySem.W.Fast
def tw12824559177505261104:=()
def tw7769273087201857923:=()
def tw10824946535692162508:=()
def tw3914526369807982229:=()
def tw12254162257771127005:=()
def tw8610440104804529185:=()
def tw11494631613822233463:=()
def tw6874936931468119473:=()
def tw11777080501553996539:=()
def tw14182045936932241408:=()
def tw5619207849004009288:=()
def tw5075521261139833941:=()
def tw2684381945166582667:=()
def tw605885665398242934:=()
def tw562883822714139201:=()
def tw17143394012166033780:=()
def tw2791505502574296906:=()
def tw3820369871435405612:=()
def tw2270020943604308959:=()
def tw12928345982633064754:=()
def tw4060275877495790165:=()
def tw3561655823751156316:=()
def tw7900847605867021737:=()
def tw14839942662456921313:=()
def tw16114542982222074585:=()
def tw8579259339158169988:=()
def tw17761969128903332739:=()
def tw3153579540407911100:=()
def tw2862551870054475509:=()
def tw12211684552295946808:=()
def tw748319190892217816:=()
def tw9994298729677888928:=()
def tw6456146593138197479:=()
def tw8627574932796491753:=()
def tw16220218255830310966:=()
def tw10992576923843441621:=()
def tw744846928228492198:=()
def tw13899040905706749983:=()
def tw9272213904332258029:=()
def tw8287544852183672792:=()
def tw2200371110852410063:=()
def tw5737974550688129341:=()
def tw10952296449359641050:=()
def tw18159747306466162652:=()
def tw1327528201930937384:=()
def tw3548562225531650443:=()
def tw10312623463108551018:=()
def tw3626308277350334182:=()
def tw1929041597549114174:=()
def tw1049855398854342683:=()
def tw8257107429063549954:=()
def tw5550528271910608532:=()
def tw8725564219342138614:=()
def tw9092309118301893554:=()
def tw2015525102639784299:=()
def tw7321885467588328793:=()
def tw4424441446185650467:=()
def tw8671019158650903161:=()
def tw10484662437969872147:=()
def tw1565103905460519021:=()
def tw14135482408739778909:=()
def tw13340045876562028909:=()
def tw14878180898527515420:=()
def tw16783109793165256231:=()
def tw7855726973546656841:=()
def tw7079634094503905303:=()
def tw13705959286269709044:=()
def tw6549753599130213965:=()
def tw11050977893257212153:=()
def tw976211358946371818:=()
def tw14112261696749226829:=()
def tw4082762660797504550:=()
def tw17861214493521855118:=()
def tw15026367274214186990:=()
def tw2742163954991369258:=()
def tw2388350210791894299:=()
def tw15712263286325400916:=()
def tw7159241487939606851:=()
def tw9841161409917176984:=()
def tw17501576815557869346:=()
def tw8467271564447828968:=()
def tw249968415062877593:=()
def tw15760118788992779784:=()
def tw13206449405247600323:=()
def tw11791585812863904937:=()
def tw5726582286973690072:=()
def tw15967843333032085670:=()
def tw5961934143973008376:=()
def tw10050964113672534629:=()
def tw9502657585957068019:=()
def tw9240435351441102579:=()
def tw16712291936629294944:=()
def tw7993474974587227160:=()
def tw14297738845181501598:=()
def tw7542512298501331787:=()
def tw14989926749479970149:=()
def tw8240172616432124218:=()
def tw9390321891640634039:=()
def tw14824649155935600697:=()
def tw6348358870098595140:=()
def tw17297507381125433150:=()
def tw6619230856144444161:=()
def tw11706564557789593416:=()
def tw11617021468511815912:=()
def tw10968536701217201062:=()
def tw9043070027725331512:=()
def tw6450770205882922814:=()
def tw11060113837307357483:=()
def tw17831798031658644133:=()
def tw12419140146863782063:=()
def tw9258055322945959322:=()
def tw17737719361975979407:=()
def tw14959368105615195283:=()
def tw17020499977043776962:=()
def tw14695244890772167167:=()
def tw2567466694227652754:=()
def tw9184186219985321569:=()
def tw5823147343338771225:=()
def tw17745065754727195853:=()
def tw8982369419627186032:=()
def tw1071784461291870496:=()
def tw6356836332469057779:=()
def tw10281101230258562859:=()
def tw3610664706176457384:=()
def tw15814364778804101158:=()
def tw16174144808220091722:=()
def tw12648423856989415777:=()
def tw15190957707344228976:=()
def tw644056459766110435:=()
def tw9858303938011005126:=()
def tw5883127996600507213:=()
def tw14728727233008405243:=()
def tw1996010632345145265:=()
def tw15291682727190982302:=()
def tw50456631053812304:=()
def tw14113335128978135320:=()
def tw8596241790208705745:=()
def tw10741672240686407861:=()
def tw15778849429594065681:=()
def tw9969196215315874244:=()
def tw16659791975274204854:=()
def tw16004088299934359220:=()
def tw17714096843647531621:=()
def tw15180016373916895830:=()
def tw14657805935183719612:=()
def tw8907212186713348254:=()
def tw9724192841952912702:=()
def tw12680486893832635005:=()
def tw14360884264287755438:=()
def tw12699080051036397820:=()
def tw11846567142994048355:=()
def tw5331677351356749739:=()
def tw147226000262073048:=()
def tw6782909580159192291:=()
def tw489675371973067359:=()
def tw11172236583603774850:=()
def tw17961104677273393771:=()
def tw18270528949887179085:=()
def tw17125927531130155963:=()
def tw17040819220217688533:=()
def tw3143593034754454666:=()
def tw938094378652629949:=()
def tw10233224470087675029:=()
def tw8957393706630132906:=()
def tw12945791942460716905:=()
def tw566644805088247354:=()
def tw13039294104067008631:=()
def tw1235392997366789556:=()
def tw6336504672894617095:=()
def tw13497818223753486561:=()
def tw6515800023509888855:=()
def tw11171645478673811425:=()
def tw15009394571931910914:=()
def tw2614180602217697045:=()
def tw4628495665627894502:=()
def tw53761720997867308:=()
def tw15238794349472513341:=()
def tw16170077142113904556:=()
def tw5641172580010642918:=()
def tw17025796028355256113:=()
def tw1936468674414359974:=()
def tw1477732815263842169:=()
def tw1001560086475659525:=()
def tw8862931328462185133:=()
def tw10362993472160792463:=()
def tw6766828449453220757:=()
def tw17799418764688902963:=()
def tw6933979414792901710:=()
def tw6511361846509237172:=()
def tw17543286260117295850:=()
def tw883004069332121682:=()
def tw5633565906838269825:=()
def tw13340069835981835822:=()
def tw12174020735127685214:=()
def tw10058065978499537702:=()
def tw17576743954568596991:=()
def tw9422593878458559507:=()
def tw13097014356656365522:=()
def tw6731771788946038260:=()
def tw12648868173283364929:=()
def tw8446646051863249226:=()
def tw3941584914959357362:=()
def tw50057451158739391:=()
def tw3077469519712757151:=()
def tw2454611847499842380:=()
def tw13333630609603600849:=()
def tw15389577854272311925:=()
def tw18426999317218624197:=()
def tw14123362920471652848:=()
def tw3105614173732301915:=()
def tw11225950351801663501:=()
def tw5759944648756908822:=()
def tw12071204558848752528:=()
def tw7207004009188685329:=()
def tw18133545399509404028:=()
def tw5782869535848075318:=()
def tw11956342219324221047:=()
def tw4391855814375180289:=()
def tw1260029924455122109:=()
def tw9609616497476819118:=()
def tw8198070314539713940:=()
def tw18171791558707109303:=()
def tw943760879892254972:=()
end PySem.W.Fast
namespace L2
open PySem PySem.Spec PyProof.Rows
abbrev Key:=Sum Int Str
noncomputable def zV:Key->Value->Bool
 |.inl k,v=>Value.isInt k v
 |.inr x,v=>Value.isStrOf x v
noncomputable def IT(w:World):Key->Int
 |.inl k=>hashInt k
 |.inr x=>hashStr w x
theorem gI:∀{k:Key} {v:Value},zV k v=true->(∃i t,k=Sum.inl i/\v=Value.int i t)\/(∃x t,k=Sum.inr x/\v=Value.str x t)
 |.inl i,v,h=>by obtain⟨t,e⟩:=Value.isInt_shape (k:=i) (v:=v) h;exact .inl ⟨i,t,rfl,e⟩
 |.inr x,v,h=>by obtain⟨t,e⟩:=Value.isStrOf_shape (x:=x) (v:=v) h;exact .inr ⟨x,t,rfl,e⟩
theorem IS(a b:Int):decide ((Sum.inl a:Key)=Sum.inl b)=(a == b):=by
 by_cases e:a=b
 ·subst e;simp
 ·have h:¬(Sum.inl a:Key)=Sum.inl b:=λq=>e (Sum.inl.inj q)
  rw[decide_eq_false h];exact(beq_eq_false_iff_ne.mpr e).symm
theorem IP(a b:Str):decide ((Sum.inr a:Key)=Sum.inr b)=decide (a=b):=by
 by_cases e:a=b
 ·subst e;simp
 ·have h:¬(Sum.inr a:Key)=Sum.inr b:=λq=>e (Sum.inr.inj q)
  rw[decide_eq_false h,decide_eq_false e]
theorem IR(a:Int)(b:Str):decide ((Sum.inl a:Key)=Sum.inr b)=false:=decide_eq_false (λq=>nomatch q)
theorem IQ(a:Str)(b:Int):decide ((Sum.inr a:Key)=Sum.inl b)=false:=decide_eq_false (λq=>nomatch q)
noncomputable def tj(prog:Program)(w:World):PySem.KeyKind prog w Key where
 is:=zV
 hash:=IT w
 inj:=λv a b ha hb=>by
  rcases gI ha with⟨i,t,rfl,rfl⟩ |⟨x,t,rfl,rfl⟩
  ·rcases gI hb with⟨j,u,rfl,e⟩ |⟨y,u,rfl,e⟩
   ·injection e with e1 _;rw[e1]
   ·exact nomatch e
  ·rcases gI hb with⟨j,u,rfl,e⟩ |⟨y,u,rfl,e⟩
   ·exact nomatch e
   ·injection e with e1 _;rw[e1]
 byValue:=λk v h=>by rcases gI h with⟨i,t,rfl,rfl⟩ |⟨x,t,rfl,rfl⟩<;>rfl
 pyHash:=λhv h=>by
  rcases gI hv with⟨i,t,rfl,rfl⟩ |⟨x,t,rfl,rfl⟩
  ·exact wpAny_pyHash_int h
  ·exact wpAny_pyHash_str h
 eqBool:=λhu hv h=>by
  rcases gI hu with⟨i,t,rfl,rfl⟩ |⟨x,t,rfl,rfl⟩
  ·rcases gI hv with⟨j,u,rfl,rfl⟩ |⟨y,u,rfl,rfl⟩
   ·rw[IS]at h;exact wpAny_eqBool_int h
   ·rw[IR]at h;exact SeqAt.EqAt.int_str i t y u _ _ _ _ h
  ·rcases gI hv with⟨j,u,rfl,rfl⟩ |⟨y,u,rfl,rfl⟩
   ·rw[IQ]at h;exact SeqAt.EqAt.str_int x t j u _ _ _ _ h
   ·rw[IP]at h;exact wpAny_eqBool_str h
 «strs»:=λk x t v h=>by
  rcases gI h with⟨i,u,rfl,e⟩ |⟨y,u,rfl,e⟩
  ·exact nomatch e
  ·injection e with e1 _
   subst e1;cases v<;>rfl
inductive V where
 |non |bl (b:Bool) |int (i:Int) |str (x:Str) |byt (b:Array UInt8) |flt (b:UInt64) |ref (a:Addr) |ty (n:String)
 deriving DecidableEq
noncomputable def RelV:V->Value->Prop
 |.non,u=>u=Value.none
 |.bl b,u=>u=Value.bool b
 |.int i,u=>∃t,u=Value.int i t
 |.str x,u=>∃t,u=Value.str x t
 |.byt b,u=>∃t,u=Value.bytes b t
 |.flt b,u=>∃t,u=Value.float b t
 |.ref a,u=>u=Value.ref a
 |.ty n,u=>u=Value.type n
abbrev Vals:List V->List Value->Prop:=Paired RelV
theorem Vals.length{xs:List V}{us:List Value}(r:Vals xs us):xs.length=us.length:=Paired.length r
theorem Vals.get:∀{xs:List V} {us:List Value} {i:Nat} {x:V},Vals xs us->xs[i]?=some x->∃u,us[i]?=some u/\RelV x u
 |_,_,_,_,.nil,e=>by simp at e
 |_,_,0,_,.cons r _,e=>by simp at e;subst e;exact⟨_,rfl,r⟩
 |_,_,i+1,x,.cons _ t,e=>by obtain⟨u,h1,h2⟩:=Vals.get (i:=i) (x:=x) t (by simpa using e);exact⟨u,by simpa using h1,h2⟩
theorem Vals.set{x:V}{u:Value}(r:RelV x u):∀{xs:List V} {us:List Value} (i:Nat),Vals xs us->Vals (xs.set i x) (us.set i u)
 |_,_,_,.nil=>.nil
 |_,_,0,.cons _ t=>.cons r t
 |_,_,i+1,.cons q t=>.cons q (Vals.set r i t)
theorem Vals.append:∀{xs ys:List V} {us ws:List Value},Vals xs us->Vals ys ws->Vals (xs++ys) (us++ws)
 |_,_,_,_,.nil,s=>s
 |_,_,_,_,.cons r t,s=>.cons r (Vals.append t s)
theorem Vals.take:∀{xs:List V} {us:List Value} (n:Nat),Vals xs us->Vals (xs.take n) (us.take n)
 |_,_,0,_=>.nil
 |_,_,_+1,.nil=>.nil
 |_,_,n+1,.cons r t=>.cons r (Vals.take n t)
theorem Vals.drop:∀{xs:List V} {us:List Value} (n:Nat),Vals xs us->Vals (xs.drop n) (us.drop n)
 |_,_,0,r=>r
 |_,_,_+1,.nil=>.nil
 |_,_,n+1,.cons _ t=>Vals.drop n t
theorem Vals.none_of:∀{xs:List V} {us:List Value} {i:Nat},Vals xs us->xs[i]?=none->us[i]?=none:=λ{xs us i} r e=>by have h1:=r.length;have h2:xs.length<=i:=List.getElem?_eq_none_iff.mp e;exact List.getElem?_eq_none_iff.mpr (by omega)
noncomputable def RelO:Option V->Option Value->Prop
 |some v,some u=>RelV v u
 |none,none=>True
 |_,_=>False
noncomputable def KV{κ:Type}:List (κ×V)->List (κ×Value)->Prop:=Paired λ(p:κ×V) (q:κ×Value)=>p.1=q.1/\RelV p.2 q.2
noncomputable def kV:Key->V
 |.inl i=>.int i
 |.inr x=>.str x
inductive HO where
 |lst (xs:List V)
 |tup (xs:List V)
 |dK (kvs:List (Key×V)) |dT (kvs:List (List Key×V))
 |set (S:Int->Bool) (n:Nat)
 |ins (C dx:Addr) (fs:List (Str×V))
 |own (x:Addr)
 |xd (fs:List (Str×V))
 |met (f x:Addr)
 |rng (lo hi:Int)
 |frz (o:Obj) (u:HO)
 |tbl (ps:Array Value)
 |ext (φ:Heap->Prop)
abbrev Hp:=Addr->Option HO
noncomputable def upd(H:Hp)(a:Addr)(o:HO):Hp:=λb=>if b=a then some o else H b
theorem au{H:Hp}{a:Addr}{o:HO}:upd H a o a=some o:=by unfold upd;rw[if_pos rfl]
theorem upd_ne{H:Hp}{a b:Addr}{o:HO}(h:b≠a):upd H a o b=H b:=by unfold upd;rw[if_neg h]
theorem m8{H:Hp}{a:Addr}{o u:HO}:upd (upd H a o) a u=upd H a u:=by funext b;unfold upd;split<;>rfl
theorem aY{H:Hp}{a b:Addr}{o:HO}(h:H a=some o)(h':H b=none):a≠b:=by intro e;subst e;rw[h]at h';cases h'
section
variable (P:Program)(w:World)
noncomputable def ObjOk(H:Hp)(h:Heap)(a:Addr):HO->Prop
 |.lst xs=>xs.length<=sizeLine/\∃(its:List Value) (n:Nat),Vals xs its/\h.get? a=some { cls:=.type "list",data:=.seq its.toArray n }
 |.tup xs=>xs.length<=sizeLine/\∃its:List Value,Vals xs its/\IsTup h a its.toArray
 |.dK kvs=>kvs.length<=sizeLine/\(a == sysModules)=false/\∃vs,KV kvs vs/\h.DictOf (tj P w) a vs
 |.dT kvs=>kvs.length<=sizeLine/\(a == sysModules)=false/\∃xs:List (List Key×Addr×Value),
  Paired (λ(p:List Key×V) (q:List Key×Addr×Value)=>p.1=q.1/\H q.2.1=some (.tup (p.1.map kV))/\RelV p.2 q.2.2) kvs xs /\
  ∃o es ep,h.get? a=some o/\o.ExactDict/\o.data=.dict es ep/\es.toList=xs.map (entryOfKey (tupleKind (tj P w)))/\(xs.map (·.1)).Nodup
 |.set S n=>h.SetOf (intKind P w) a S n
 |.ins C dx fs=>H dx=some (.own a)/\fs.length<=1000/\dx≠a/\h.get? a=some (PySem.W.instObj C dx) /\
  ∃mA,h.Ns1 dx mA/\(∀f,RelO (fs.lookup f) (mA f))/\PySem.Within mA (fs.map (·.1))
 |.own _=>∃o,h.get? a=some o
 |.xd fs=>∃mA,h.Ns1 a mA/\∀f,RelO (fs.lookup f) (mA f)
 |.rng lo hi=>∃t u v,h.get? a=some { cls:=.type "range",data:=.fields #[.int lo t,.int hi u,.int 1 v] }
 |.frz o u=>h.get? a=some o/\ObjOk H h a u
 |.tbl ps=>h.get? a=some { cls:=.none,data:=.fields ps }
 |.met f x=>h.get? a=some (PySem.W.methodObj (.ref f) (.ref x))
 |.ext φ=>φ h/\(∃o,h.get? a=some o)/\∀h1 h2:Heap,φ h1->(∀o,h1.get? a=some o->h2.get? a=some o)->φ h2
def HOk(H:Hp)(h:Heap):Prop:=∀a o,H a=some o->ObjOk P w H h a o
end
section
variable {P:Program}{w:World}{H H':Hp}{h h':Heap}{a:Addr}{o:HO}
theorem ObjOk.lt(x:ObjOk P w H h a o):a<h.objs.size:=by
 cases o with
 |lst xs=>obtain⟨_,_,_,_,e⟩:=x;exact Heap.lt_size e
 |tup xs=>obtain⟨_,_,_,p⟩:=x;exact p.lt
 |dK kvs=>obtain⟨_,_,_,_,o,_,_,e,_⟩:=x;exact Heap.lt_size e
 |dT kvs=>obtain⟨_,_,_,_,o,_,_,e,_⟩:=x;exact Heap.lt_size e
 |set S n=>obtain⟨o,_,_,_,e,_⟩:=x;exact Heap.lt_size e
 |ins C dx fs=>obtain⟨_,_,_,e,_⟩:=x;exact Heap.lt_size e
 |own y=>obtain⟨_,e⟩:=x;exact Heap.lt_size e
 |xd fs=>obtain⟨_,⟨_,_,_,e,_⟩,_⟩:=x;exact Heap.lt_size e
 |rng lo hi=>obtain⟨_,_,_,e⟩:=x;exact Heap.lt_size e
 |frz ob u=>obtain⟨e,_⟩:=x;exact Heap.lt_size e
 |tbl ps=>exact Heap.lt_size (show h.get? a=some _ from x)
 |met f y=>exact Heap.lt_size (show h.get? a=some _ from x)
 |ext φ=>obtain⟨_,⟨_,e⟩,_⟩:=x;exact Heap.lt_size e
theorem Paired.mapP{α β:Type}{F G:α->β->Prop}:∀{l₁:List α} {l₂:List β},Paired F l₁ l₂->(∀a b,F a b->G a b)->Paired G l₁ l₂
 |_,_,.nil,_=>.nil
 |_,_,.cons r t,f=>.cons (f _ _ r) (Paired.mapP t f)
theorem ObjOk.stay(x:ObjOk P w H h a o)(k:∀b u,(b=a\/H b=some (.own a))->h.get? b=some u->h'.get? b=some u)
 (ho:∀b,H b=some (.own a)->H' b=some (.own a)) (ht:∀b xs,H b=some (.tup xs)->H' b=some (.tup xs)):ObjOk P w H' h' a o:=by
 induction o with
 |lst xs=>obtain⟨z,its,n,r,e⟩:=x;exact⟨z,its,n,r,k _ _ (.inl rfl) e⟩
 |tup xs=>obtain⟨z,its,r,ob,e,c⟩:=x;exact⟨z,its,r,ob,k _ _ (.inl rfl) e,c⟩
 |dK kvs=>obtain⟨z,y,vs,r,ob,es,ep,e,c⟩:=x;exact⟨z,y,vs,r,ob,es,ep,k _ _ (.inl rfl) e,c⟩
 |dT kvs =>obtain⟨z,y,xs,r,ob,es,ep,e,c⟩:=x;exact⟨z,y,xs,Paired.mapP r λp q z=>⟨z.1,ht _ _ z.2.1,z.2.2⟩,ob,es,ep,k _ _ (.inl rfl) e,c⟩
 |set S n=>obtain⟨ob,es,ep,t,e,c⟩:=x;exact⟨ob,es,ep,t,k _ _ (.inl rfl) e,c⟩
 |ins C dx fs =>obtain⟨d,z,ne,e,mA,⟨od,es,ep,e2,c⟩,r⟩:=x;exact⟨ho _ d,z,ne,k _ _ (.inl rfl) e,mA,⟨od,es,ep,k _ _ (.inr d) e2,c⟩,r⟩
 |own y=>obtain⟨ob,e⟩:=x;exact⟨ob,k _ _ (.inl rfl) e⟩
 |xd fs=>obtain⟨mA,⟨od,es,ep,e,c⟩,r⟩:=x;exact⟨mA,⟨od,es,ep,k _ _ (.inl rfl) e,c⟩,r⟩
 |rng lo hi=>obtain⟨t,u,v,e⟩:=x;exact⟨t,u,v,k _ _ (.inl rfl) e⟩
 |frz ob u ih=>obtain⟨e,q⟩:=x;exact⟨k _ _ (.inl rfl) e,ih q⟩
 |tbl ps =>have e:h.get? a=some { cls:=.none,data:=.fields ps }:=x;show h'.get? a=some { cls:=.none,data:=.fields ps };exact k a _ (.inl rfl) e
 |met f y =>have e:h.get? a=some (PySem.W.methodObj (.ref f) (.ref y)):=x;show h'.get? a=some (PySem.W.methodObj (.ref f) (.ref y));exact k a _ (.inl rfl) e
 |ext φ=>obtain⟨p,⟨o,e⟩,st⟩:=x;exact⟨st _ _ p λo q=>k _ _ (.inl rfl) q,⟨o,k _ _ (.inl rfl) e⟩,st⟩
theorem HOk.lt(x:HOk P w H h)(e:H a=some o):a<h.objs.size:=(x a o e).lt
theorem HOk.fresh(x:HOk P w H h)(e:h.objs.size<=a):H a=none:=by
 cases q:H a with
 |none=>rfl
 |some u=>exact absurd (Q9 (x.lt q) e) (Ry _)
theorem HOk.kept(x:HOk P w H h)(k:∀b u,h.get? b=some u->h'.get? b=some u):HOk P w H h':=λa o e =>(x a o e).stay (λb u _ q=>k b u q) (λ_ q=>q) λ_ _ q=>q
theorem HOk.laid(x:HOk P w H h)(k:∀b u,h.get? b=some u->h'.get? b=some u)(hp:h.objs.size<=a)(new:ObjOk P w (upd H a o) h' a o):HOk P w (upd H a o) h':=λb u e=>by
 have hn:=x.fresh hp;by_cases hb:b=a
 ·subst hb;rw[au]at e;cases e;exact new
 ·rw[upd_ne hb]at e;exact(x b u e).stay (λc v _ q=>k c v q) (λc q=>by rw[upd_ne (aY q hn)];exact q) λc xs q=>by rw[upd_ne (aY q hn)];exact q
end
def Rd(H:Hp)(a:Addr)(u:HO):Prop:=H a=some u\/∃o,H a=some (.frz o u)
theorem Rd.of{H:Hp}{a:Addr}{u:HO}(h:H a=some u):Rd H a u:=.inl h
theorem Rd.ok{P:Program}{w:World}{H:Hp}{h:Heap}{a:Addr}{u:HO}(r:Rd H a u)(x:HOk P w H h):ObjOk P w H h a u:=by
 rcases r with r |⟨o,r⟩
 ·exact x a u r
 ·obtain⟨_,q⟩:=x a _ r;exact q
noncomputable def Mut:Option HO->Prop
 |some (.lst _)=>True
 |some (.dK _)=>True
 |some (.dT _)=>True
 |some (.set _ _)=>True
 |some (.ins _ _ _)=>True
 |some (.ext _)=>True
 |_=>False
section
variable {P:Program}{w:World}{H:Hp}{h h':Heap}{x e:Addr}{o':HO}
theorem HOk.write(ok:HOk P w H h)(mu:Mut (H x))(he:e=x\/H e=some (.own x))(k:∀b u,b≠e->h.get? b=some u->h'.get? b=some u)(heo:∃u,h'.get? e=some u)
 (new:ObjOk P w (upd H x o') h' x o'):HOk P w (upd H x o') h':=λb u q=>by
 have nown:∀c y,H c=some (.own y)->c≠x:=λc y r z=>by subst z;rw[r]at mu;exact mu
 have ntup:∀c xs,H c=some (.tup xs)->c≠x:=λc xs r z=>by subst z;rw[r]at mu;exact mu
 by_cases hb:b=x
 ·subst hb;rw[au]at q;cases q;exact new
 ·rw[upd_ne hb]at q;by_cases hbe:b=e
  ·have q':H b=some (.own x):=by
    rcases he with z |z
    ·exact absurd (hbe.trans z) hb
    ·rw[hbe];exact z
   rw[q]at q';cases q';obtain⟨v,hv⟩:=heo;exact⟨v,by rw[hbe];exact hv⟩
  ·refine(ok b u q).stay (λc v hc r=>k c v ?_ r) (λc r=>by rw[upd_ne (nown c b r)];exact r) λc xs r=>by rw[upd_ne (ntup c xs r)];exact r
   rcases hc with rfl |hc
   ·exact hbe
   ·rintro rfl;rcases he with z |z
    ·exact nown c b hc z
    ·rw[hc]at z;cases z;exact hb rfl
end
structure Un(fs ex:List Addr)(H H':Hp)(h h':Heap):Prop where
 keep:∀b o,h.get? b=some o->H b=none->b∉fs->b∉ex->h'.get? b=some o
 slot:∀b o,h.get? b=some o->H b=none->b∈fs->b∉ex->∃sl,h'.get? b=some { o with slots:=sl }
 free:∀b o,h.get? b=some o->H b=none->b∉ex->H' b=none
 there:∀b o,h.get? b=some o->b∉ex->∃o',h'.get? b=some o'
 tups:∀b xs,H b=some (.tup xs)->H' b=some (.tup xs)
 frzs:∀b o u,H b=some (.frz o u)->H' b=some (.frz o u)
 tbls:∀b ps,H b=some (.tbl ps)->∃more,H' b=some (.tbl (ps++more))
section
variable {fs fs' ex ex':List Addr}{H H1 H2:Hp}{h h1 h2 h':Heap}{a x e:Addr}{o:HO}
theorem Un.any(u:Un fs ex H H1 h h1){b:Addr}{ob:Obj}(q:h.get? b=some ob)(n:H b=none)(hx:b∉ex):∃sl,h1.get? b=some { ob with slots:=sl }:=by
 by_cases hb:b∈fs
 ·exact u.slot b ob q n hb hx
 ·exact⟨ob.slots,u.keep b ob q n hb hx⟩
theorem Un.trans(a:Un fs ex H H1 h h1)(b:Un fs ex H1 H2 h1 h2):Un fs ex H H2 h h2 where
 keep:=λc ob q n hc hx=>b.keep c ob (a.keep c ob q n hc hx) (a.free c ob q n hx) hc hx
 slot:=λc ob q n hc hx=>by obtain⟨sl,e1⟩:=a.slot c ob q n hc hx;obtain⟨sl',e2⟩:=b.slot c _ e1 (a.free c ob q n hx) hc hx;exact⟨sl',e2⟩
 free:=λc ob q n hx=>by obtain⟨o',e1⟩:=a.there c ob q hx;exact b.free c o' e1 (a.free c ob q n hx) hx
 there:=λc ob q hx=>by obtain⟨o',e1⟩:=a.there c ob q hx;exact b.there c o' e1 hx
 tups:=λc xs q=>b.tups c xs (a.tups c xs q)
 frzs:=λc ob xs q=>b.frzs c ob xs (a.frzs c ob xs q)
 tbls:=λc ps q=>by obtain⟨m1,e1⟩:=a.tbls c ps q;obtain⟨m2,e2⟩:=b.tbls c _ e1;exact⟨m1++m2,by rw[e2,Array.append_assoc]⟩
theorem Un.kept(k:∀b u,h.get? b=some u->h'.get? b=some u):Un fs ex H H h h' :=
 ⟨λb ob q _ _ _=>k b ob q,λb ob q _ _ _=>⟨ob.slots,k b ob q⟩,λ_ _ _ n _=>n,λb ob q _=>⟨ob,k b ob q⟩,λ_ _ q=>q,λ_ _ _ q=>q,λ_ ps q=>⟨#[],by rw[q];simp⟩⟩
theorem Un.refl:Un fs ex H H h h:=Un.kept λ_ _ q=>q
theorem Un.laid(k:∀b u,h.get? b=some u->h'.get? b=some u)(hp:h.objs.size<=a)(hn:H a=none):Un fs ex H (upd H a o) h h' where
 keep:=λb u q _ _ _=>k b u q
 slot:=λb u q _ _ _=>⟨u.slots,k b u q⟩
 free:=λb u q n _=>by rw[upd_ne (Re (Q9 (Heap.lt_size q) hp))];exact n
 there:=λb u q _=>⟨u,k b u q⟩
 tups:=λb xs q=>by rw[upd_ne (aY q hn)];exact q
 frzs:=λb u xs q=>by rw[upd_ne (aY q hn)];exact q
 tbls:=λb ps q=>⟨#[],by rw[upd_ne (aY q hn),q];simp⟩
theorem Un.write(mu:Mut (H x))(he:e=x\/H e=some (.own x))(k:∀b u,b≠e->h.get? b=some u->h'.get? b=some u)(heo:∃u,h'.get? e=some u):Un fs ex H (upd H x o) h h':=by
 have hx:∀b,H b=none->b≠x:=λb n z=>by subst z;rw[n]at mu;exact mu
 have hb:∀b,H b=none->b≠e:=λb n z=>by
  subst z;rcases he with r |r
  ·exact hx b n r
  ·rw[n]at r;cases r
 have hm:∀b u,H b=some u->¬Mut (some u)->b≠x:=λb u q nm z=>by subst z;rw[q]at mu;exact nm mu
 refine⟨λb u q n _ _=>k b u (hb b n) q,λb u q n _ _=>⟨u.slots,k b u (hb b n) q⟩,λb u q n _=>by rw[upd_ne (hx b n)];exact n,λb u q _=>?_,
  λb xs q=>by rw[upd_ne (hm b _ q λz=>z)];exact q,λb u xs q=>by rw[upd_ne (hm b _ q λz=>z)];exact q,λb ps q=>⟨#[],by rw[upd_ne (hm b _ q λz=>z),q];simp⟩⟩
 by_cases hbe:b=e
 ·subst hbe;exact heo
 ·exact⟨u,k b u hbe q⟩
theorem Un.mono(u:Un fs ex H H1 h h1)(hs:∀b∈fs,b∈fs')(hx:∀b∈ex,b∈ex'):Un fs' ex' H H1 h h1 :=
 ⟨λb ob q n hb he=>u.keep b ob q n (λz=>hb (hs b z)) λz=>he (hx b z),λ_ _ q n _ he=>u.any q n λz=>he (hx _ z),λb ob q n he=>u.free b ob q n λz=>he (hx b z),λb ob q he=>u.there b ob q λz=>he (hx b z),u.tups,u.frzs,u.tbls⟩
end
noncomputable def trk(h:Heap)(H:Hp):List Addr:=(List.range h.objs.size).filter λa=>(H a).isSome
noncomputable def gb(h:Heap)(H:Hp):Heap:=PySem.W.hideAll h (trk h H)
theorem J5(h:Heap)(H:Hp):(gb h H).objs.size=h.objs.size:=PySem.W.hideAll_size _ _
theorem J6{h:Heap}{H:Hp}{b:Addr}{o:Obj}(e:h.get? b=some o)(n:H b=none):(gb h H).get? b=some o :=
 PySem.W.hideAll_get _ e λhm=>by have q:(H b).isSome=true:=(List.mem_filter.mp hm).2;rw[n]at q;simp at q
theorem G8{h:Heap}{H:Hp}{b:Addr}{o:Obj}(e:(gb h H).get? b=some o):h.get? b=some o/\H b=none:=by
 have e':h.get? b=some o:=PySem.W.of_hideAll (trk h H) e;refine⟨e',?_⟩;cases q:H b with
 |none=>rfl
 |some x =>have hm:b∈trk h H:=List.mem_filter.mpr ⟨List.mem_range.mpr (Heap.lt_size e'),by simp[q]⟩;have z:(gb h H).get? b=none:=PySem.W.hideAll_none (trk h H) hm;rw[z]at e;cases e
noncomputable def MF(g h:Heap)(L:Addr):List (Addr×Obj):=(List.range h.objs.size).filterMap λa=>if a=L\/(g.get? a).isSome=true then none else(h.get? a).map λo=>(a,o)
noncomputable def rest(g h:Heap)(L d:Addr):List (Addr×Obj):=(MF g h L).filter λp=>decide (p.1≠d)
structure Mod(K:PySem.W.Frag)(mg:Str->Option Value)(base:Heap):Prop where
 kin:K.In base
 glob:base.Ns mainGlobals mg
 blt:∃mb,base.Ns builtinsNs mb/\∀x:Str,x≠"__name__"->mb x=bootBuiltins x
 nolimit:base.NoLimit
structure Cx where
 prog:Program
 w:World
 K:PySem.W.Frag
 mg:Str->Option Value
 base:Heap
 A:Around
 N:List Str
 s₀:Shared
 H₀:Hp
 env:Env
 outer:List Env
 stack:List Env
 ex:List Addr
 fn:Str->Bool
 calm:Bool
 pn:List (Addr×Obj)
 xe:Value->Shared->Prop
noncomputable def frs(l:List Env):List Addr:=l.filterMap (·.frame)
abbrev Cx.fs(X:Cx):List Addr:=frs X.outer
def Vis(sc:Scope)(x:Str):Prop:=sc.names.lookup x=some .local\/sc.names.lookup x=some .cell\/sc.names.lookup x=some .free
def Loc(sc:Scope)(x:Str):Prop:=sc.names.lookup x=some .local\/sc.names.lookup x=some .cell
noncomputable def MK(env:Env)(h:Heap)(m:Str->Option Value)(x:Str)(u:Value):Prop :=
 (env.kindOf x=some .local/\m x=some u)\/((env.kindOf x=some .cell\/env.kindOf x=some .free)/\∃c,env.cells.lookup x=some c/\h.IsCell c (some u))
structure Cx.Ok(X:Cx):Prop where
 mod:Mod X.K X.mg X.base
 kind:X.env.scope.kind=.function
 glob:X.env.globals=mainGlobals
 blt:X.env.builtins=builtinsNs
 above:X.s₀.heap.objs.size<=X.env.locals
 inj:∀x y c,X.env.cells.lookup x=some c->X.env.cells.lookup y=some c->x=y
 has:∀x,(X.env.kindOf x=some .cell\/X.env.kindOf x=some .free)->∃c,X.env.cells.lookup x=some c
 cab:∀x c,X.fn x=true->X.env.cells.lookup x=some c->X.s₀.heap.objs.size<=c
 hd:X.calm=true->X.A.handled=none
 frames:X.A.frames=some X.stack
 stk:X.stack=X.outer\/(X.stack=X.env::X.outer/\X.env.frame=some X.env.locals)
 exf:∀b∈X.ex,b≠X.env.locals/\∀x c,X.env.cells.lookup x=some c->c≠b
 bs:∀b o,X.base.get? b=some o->X.s₀.heap.get? b=some o/\X.H₀ b=none
 bsz:X.base.objs.size<=X.s₀.heap.objs.size
 noex:∀b o,X.base.get? b=some o->b∉X.ex
 exfs:∀b∈X.ex,b∉X.fs
 funs:X.s₀.heap.FunFrames X.base X.outer
 frf:∀b∈X.fs,X.H₀ b=none
structure Inv(X:Cx)(pins:List (Addr×Obj))(σ:List (Option V))(H:Hp)(s:Shared):Prop where
 ok:X.Ok
 os:s.os=X.s₀.os
 bare:AllBare s.gens
 base:Un X.fs X.ex X.H₀ H X.s₀.heap s.heap
 loc:∃m,s.heap.Ns X.env.locals m/\∀(i:Nat) (x:Str) (v:V),X.N[i]?=some x->σ[i]?=some (some v)->Vis X.env.scope x->∃u,RelV v u/\MK X.env s.heap m x u
 cell:∀x c,X.env.cells.lookup x=some c->∃v,s.heap.IsCell c v
 free:H X.env.locals=none
 freeC:∀x c,X.env.cells.lookup x=some c->H c=none
 pin:∀p∈X.pn++pins,s.heap.get? p.1=some p.2/\H p.1=none/\p.1≠X.env.locals/\p.1∉X.fs/\∀v,p.2.data≠.cell v
 hok:HOk X.prog X.w H s.heap
 len:σ.length=X.N.length
section
variable {X:Cx}{pins:List (Addr×Obj)}{σ:List (Option V)}{H H':Hp}{s:Shared}{h':Heap}
theorem Cx.Ok.nofr(ok:X.Ok){b:Addr}{o:Obj}(e:X.base.get? b=some o):b∉X.fs:=λhb=>by have:=(ok.funs.mem hb).1;rw[e]at this;cases this
theorem Inv.bs(I:Inv X pins σ H s):∀b o,X.base.get? b=some o->s.heap.get? b=some o/\H b=none:=λb o e =>⟨I.base.keep b o (I.ok.bs b o e).1 (I.ok.bs b o e).2 (I.ok.nofr e) (I.ok.noex b o e),I.base.free b o (I.ok.bs b o e).1 (I.ok.bs b o e).2 (I.ok.noex b o e)⟩
theorem Inv.bk(I:Inv X pins σ H s):∀b o,X.base.get? b=some o->s.heap.get? b=some o:=λb o e=>(I.bs b o e).1
theorem Inv.mod(I:Inv X pins σ H s):Mod X.K X.mg X.base:=I.ok.mod
theorem Inv.kIn(I:Inv X pins σ H s):X.K.In s.heap:=I.ok.mod.kin.keeps I.bk
theorem Inv.nolimit(I:Inv X pins σ H s):s.heap.NoLimit:=I.ok.mod.nolimit.keeps I.bk
theorem Inv.fr(I:Inv X pins σ H s):∃m,Fr X.base X.env.locals s.heap m :=
 let⟨m,hn,_⟩:=I.loc
 ⟨m,hn,I.bk,QL I.ok.bsz I.ok.above⟩
theorem Inv.lt(I:Inv X pins σ H s):X.env.locals<s.heap.objs.size:=let⟨_,hn,_⟩:=I.loc;hn.lt
theorem Inv.sz(I:Inv X pins σ H s):X.s₀.heap.objs.size<=s.heap.objs.size:=QL I.ok.above (Sj I.lt)
theorem Inv.nofs(I:Inv X pins σ H s){a:Addr}(h:s.heap.objs.size<=a):a∉X.fs:=λhb=>by obtain⟨_,o,ho,_⟩:=I.ok.funs.mem hb;exact absurd (Q9 (Heap.lt_size ho) (QL I.sz h)) (Ry _)
theorem Inv.cne(I:Inv X pins σ H s):∀x c,X.env.cells.lookup x=some c->c≠X.env.locals:=λx c e z=>by obtain⟨v,o,ho,hd⟩:=I.cell x c e;obtain⟨m,⟨o',es,ep,ho',hd',_⟩,_⟩:=I.loc;rw[z,ho']at ho;cases ho;rw[hd']at hd;cases hd
theorem Inv.funs(I:Inv X pins σ H s):s.heap.FunFrames X.base X.outer:=by
 have all:∀(l:List Env),(∀b∈frs l,b∈X.fs)->X.s₀.heap.FunFrames X.base l->s.heap.FunFrames X.base l:=by
  intro l
  induction l with
  |nil=>intro _ _;trivial
  |cons env r ih =>
   intro hs hl;obtain⟨hk,⟨L,o,hf,hn,ho,hd⟩,hr⟩:=hl;have hL:L∈X.fs:=hs L (by unfold frs;rw[List.filterMap_cons,hf];exact QN);obtain⟨sl,e⟩:=I.base.slot L o ho (I.ok.frf L hL) hL λz=>I.ok.exfs L z hL
   exact⟨hk,⟨L,_,hf,hn,e,hd⟩,ih (λb hb=>hs b (by unfold frs;rw[List.filterMap_cons,hf];exact QJ _ hb)) hr⟩
 exact all X.outer (λ_ hb=>hb) I.ok.funs
theorem Inv.stack(I:Inv X pins σ H s):s.heap.FunFrames X.base X.stack:=by
 rcases I.ok.stk with e |⟨e,hf⟩
 ·rw[e];exact I.funs
 ·rw[e];obtain⟨m,hn,_⟩:=I.loc;refine .cons (by rw[I.ok.kind];decide) hf hn ?_ I.funs;exact Heap.get?_none_of_le (QL I.ok.bsz I.ok.above)
theorem Inv.stkSub(I:Inv X pins σ H s):∀b∈frs X.stack,b∈X.env.locals::X.fs:=λb hb=>by
 rcases I.ok.stk with e |⟨e,hf⟩
 ·rw[e]at hb;exact QJ _ hb
 ·rw[e]at hb;unfold frs at hb
  rw[List.filterMap_cons,hf]at hb;exact hb
theorem Inv.stkFree(I:Inv X pins σ H s):∀b∈frs X.stack,H b=none:=λb hb=>by
 rcases QK.mp (I.stkSub b hb)with e |hb
 ·rw[e];exact I.free
 ·obtain⟨_,o,ho,_⟩:=I.ok.funs.mem hb;exact I.base.free b o ho (I.ok.frf b hb) λz=>I.ok.exfs b z hb
theorem Inv.step{g':Array GenState}{t':Nat}{d':Drawn}{ch:List Addr}(I:Inv X pins σ H s)
 (hch:∀b∈ch,(b∈X.ex\/X.s₀.heap.objs.size<=b)/\b≠X.env.locals/\(∀x c,X.env.cells.lookup x=some c->c≠b)/\∀p∈X.pn++pins,p.1≠b)
 (keep:∀b o,b≠X.env.locals->b∉X.fs->b∉ch->s.heap.get? b=some o->H b=none->h'.get? b=some o)
 (slot:∀b o,b≠X.env.locals->b∈X.fs->b∉ch->s.heap.get? b=some o->H b=none->∃sl,h'.get? b=some { o with slots:=sl }) (free:∀b o,b∉ch->s.heap.get? b=some o->H b=none->H' b=none)
 (there:∀b o,b∉ch->s.heap.get? b=some o->∃o',h'.get? b=some o')
 (tups:∀b xs,H b=some (.tup xs)->H' b=some (.tup xs)) (frzs:∀b o u,H b=some (.frz o u)->H' b=some (.frz o u)) (tbls:∀b ps,H b=some (.tbl ps)->∃more,H' b=some (.tbl (ps++more)))
 (ns:∀m,s.heap.Ns X.env.locals m->h'.Ns X.env.locals m) (hok:HOk X.prog X.w H' h') (hg:AllBare g') :
 Inv X pins σ H' { s with heap:=h',gens:=g',drawn:=d',toks:=t' }:=by
 have neL:∀b o,X.s₀.heap.get? b=some o->b≠X.env.locals:=λb o e=>Re (Q9 (Heap.lt_size e) I.ok.above)
 have neC:∀b o,X.s₀.heap.get? b=some o->b∉X.ex->b∉ch:=λb o e hx hb=>by
  rcases(hch b hb).1 with z |z
  ·exact hx z
  ·exact absurd (Q9 (Heap.lt_size e) z) (Ry _)
 have cellK:∀x c,X.env.cells.lookup x=some c->∀v,s.heap.IsCell c v->h'.IsCell c v:=λx c e v ⟨o,ho,hd⟩=>by
  have nch:c∉ch:=λz=>(hch c z).2.2.1 x c e rfl
  by_cases hc:c∈X.fs
  ·obtain⟨sl,q⟩:=slot c o (I.cne x c e) hc nch ho (I.freeC x c e);exact⟨_,q,hd⟩
  ·exact⟨o,keep c o (I.cne x c e) hc nch ho (I.freeC x c e),hd⟩
 refine⟨I.ok,I.os,hg,⟨λb o e n hb hx=>?_,λb o e n hb hx=>?_,λb o e n hx=>?_,λb o e hx=>?_,λb xs e=>tups b xs (I.base.tups b xs e),λb o xs e=>frzs b o xs (I.base.frzs b o xs e),λb ps e=>?_⟩,?_,λx c e=>?_,?_,λx c e=>?_,λp hp=>?_,hok,I.len⟩
 ·exact keep b o (neL b o e) hb (neC b o e hx) (I.base.keep b o e n hb hx) (I.base.free b o e n hx)
 ·obtain⟨sl,e1⟩:=I.base.slot b o e n hb hx;obtain⟨sl',e2⟩:=slot b _ (neL b o e) hb (neC b o e hx) e1 (I.base.free b o e n hx);exact⟨sl',e2⟩
 ·obtain⟨o',e1⟩:=I.base.there b o e hx;exact free b o' (neC b o e hx) e1 (I.base.free b o e n hx)
 ·obtain⟨o',e1⟩:=I.base.there b o e hx;exact there b o' (neC b o e hx) e1
 ·obtain⟨m1,e1⟩:=I.base.tbls b ps e;obtain⟨m2,e2⟩:=tbls b _ e1;exact⟨m1++m2,by rw[e2,Array.append_assoc]⟩
 ·obtain⟨m,hn,hl⟩:=I.loc;refine⟨m,ns m hn,λi x v e1 e2 e3=>?_⟩;obtain⟨u,r,l⟩:=hl i x v e1 e2 e3;refine⟨u,r,?_⟩;rcases l with l |⟨k,c,e,z⟩
  ·exact .inl l
  ·exact .inr ⟨k,c,e,cellK x c e _ z⟩
 ·obtain⟨v,z⟩:=I.cell x c e;exact⟨v,cellK x c e v z⟩
 ·obtain⟨m,⟨o,_,_,ho,_⟩,_⟩:=I.loc;exact free _ o (λz=>(hch _ z).2.1 rfl) ho I.free
 ·obtain⟨v,o,ho,hd⟩:=I.cell x c e;exact free c o (λz=>(hch c z).2.2.1 x c e rfl) ho (I.freeC x c e)
 ·obtain⟨e,n,ne,nf,d⟩:=I.pin p hp;have nch:p.1∉ch:=λz=>(hch p.1 z).2.2.2 p hp rfl
  exact⟨keep p.1 p.2 ne nf nch e n,free p.1 p.2 nch e n,ne,nf,d⟩
theorem Inv.un{t':Nat}(I:Inv X pins σ H s)(u:Un X.fs [] H H' s.heap h')(hok:HOk X.prog X.w H' h'):Inv X pins σ H' { s with heap:=h',toks:=t' }:=by
 obtain⟨m,⟨o,es,ep,ho,r⟩,_⟩:=id I.loc;obtain⟨sl,hL⟩:=u.any ho I.free (by simp)
 exact I.step (g':=s.gens) (d':=s.drawn) (ch:=[]) (λ_ z=>nomatch z) (λb o _ hb _ e n=>u.keep b o e n hb (by simp)) (λb o _ hb _ e n=>u.slot b o e n hb (by simp)) (λb o _ e n=>u.free b o e n (by simp)) (λb o _ e=>u.there b o e (by simp)) u.tups u.frzs u.tbls (λm' hm=>by
  obtain⟨o',es',ep',ho',r'⟩:=hm;rw[ho]at ho';cases ho'
  exact⟨_,es',ep',hL,r'⟩) hok I.bare
theorem Inv.call{g':Array GenState}{t':Nat}{d':Drawn}{ch:List Addr}(I:Inv X pins σ H s)(u:Un (frs X.stack) ch H H' s.heap h')(hok:HOk X.prog X.w H' h')(hg:AllBare g')
 (hch:∀b∈ch,(b∈X.ex\/X.s₀.heap.objs.size<=b)/\b≠X.env.locals/\(∀x c,X.env.cells.lookup x=some c->c≠b)/\∀p∈X.pn++pins,p.1≠b) :
 Inv X pins σ H' { s with heap:=h',gens:=g',drawn:=d',toks:=t' }:=by
 obtain⟨m,⟨o,es,ep,ho,r⟩,_⟩:=id I.loc;obtain⟨sl,hL⟩:=u.any ho I.free λz=>(hch _ z).2.1 rfl
 exact I.step (ch:=ch) hch (λb o hL hb hc e n=>u.keep b o e n (λz=>(QK.mp (I.stkSub b z)).elim hL hb) hc) (λb o _ _ hc e n=>u.any e n hc) (λb o hc e n=>u.free b o e n hc) (λb o hc e=>u.there b o e hc) u.tups u.frzs u.tbls (λm' hm=>by
  obtain⟨o',es',ep',ho',r'⟩:=hm;rw[ho]at ho';cases ho'
  exact⟨_,es',ep',hL,r'⟩) hok hg
theorem Inv.turned{t':Nat}{it:Addr}(I:Inv X pins σ H s)(k:∀b o,b≠it->s.heap.get? b=some o->h'.get? b=some o)(hn:H it=none)(hL:it≠X.env.locals)
 (h1:it∈X.ex\/X.s₀.heap.objs.size<=it) (h2:∀x c,X.env.cells.lookup x=some c->c≠it) (h3:∀p∈X.pn++pins,p.1≠it):Inv X pins σ H { s with heap:=h',toks:=t' }:=by
 have nit:∀b u,H b=some u->b≠it:=λb u e z=>by rw[z,hn]at e;cases e
 refine I.step (g':=s.gens) (d':=s.drawn) (ch:=[it]) (λb hb=>?_) (λb o _ _ hc e _=>k b o (λz=>hc (by simp[z])) e) (λb o _ _ hc e _=>⟨o.slots,k b o (λz=>hc (by simp[z])) e⟩) (λ_ _ _ _ n=>n)
  (λb o hc e=>⟨o,k b o (λz=>hc (by simp[z])) e⟩) (λ_ _ e=>e) (λ_ _ _ e=>e) (λb ps e=>⟨#[],by rw[e];simp⟩) (λm hm=>?_) (λb u e=>?_) I.bare
 ·have e:b=it:=by simpa using hb
  subst e;exact⟨h1,hL,h2,h3⟩
 ·obtain⟨o,es,ep,ho,r⟩:=hm;exact⟨o,es,ep,k _ o (Ne.symm hL) ho,r⟩
 ·refine(I.hok b u e).stay (λc v hc q=>k c v ?_ q) (λ_ q=>q) λ_ _ q=>q
  rcases hc with z |z
  ·rw[z];exact nit b u e
  ·exact nit c _ z
theorem Inv.tok(I:Inv X pins σ H s)(t:Nat):Inv X pins σ H { s with toks:=t }:=I.un (h':=s.heap) (t':=t) Un.refl I.hok
theorem Inv.kept{t':Nat}(I:Inv X pins σ H s)(k:∀b u,s.heap.get? b=some u->h'.get? b=some u):Inv X pins σ H { s with heap:=h',toks:=t' }:=I.un (Un.kept k) (I.hok.kept k)
theorem Inv.laid{a:Addr}{o:HO}{t':Nat}(I:Inv X pins σ H s)(k:∀b u,s.heap.get? b=some u->h'.get? b=some u)(hp:s.heap.objs.size<=a)(new:ObjOk X.prog X.w (upd H a o) h' a o) :
 Inv X pins σ (upd H a o) { s with heap:=h',toks:=t' }:=I.un (Un.laid k hp (I.hok.fresh hp)) (I.hok.laid k hp new)
theorem Inv.write{x e:Addr}{o:HO}{t':Nat}(I:Inv X pins σ H s)(mu:Mut (H x))(he:e=x\/H e=some (.own x))(k:∀b u,b≠e->s.heap.get? b=some u->h'.get? b=some u)(heo:∃u,h'.get? e=some u)
 (new:ObjOk X.prog X.w (upd H x o) h' x o):Inv X pins σ (upd H x o) { s with heap:=h',toks:=t' }:=I.un (Un.write mu he k heo) (I.hok.write mu he k heo new)
theorem Inv.pins_of{pins':List (Addr×Obj)}(I:Inv X pins σ H s)(h:∀p∈pins',s.heap.get? p.1=some p.2/\H p.1=none/\p.1≠X.env.locals/\p.1∉X.fs/\∀v,p.2.data≠.cell v):Inv X pins' σ H s :=
 ⟨I.ok,I.os,I.bare,I.base,I.loc,I.cell,I.free,I.freeC,λp hp=>(QS.mp hp).elim (λz=>I.pin p (RU _ z)) (h p),I.hok,I.len⟩
theorem zc{N:List Str}(hN:N.Nodup){i j:Nat}{x:Str}(a:N[i]?=some x)(b:N[j]?=some x):i=j:=by obtain⟨h1,e1⟩:=List.getElem?_eq_some_iff.mp a;obtain⟨h2,e2⟩:=List.getElem?_eq_some_iff.mp b;exact(List.getElem_inj hN).mp (e1.trans e2.symm)
theorem Dg{M:Model}{A:Around}{E:Value->Shared->Prop}{i:Nat}{x:Str}{v:V}{u:Value}{Q:Unit->Shared->Prop}(I:Inv X pins σ H s)(hN:X.N.Nodup)(hi:X.N[i]?=some x)(hx:Loc X.env.scope x)(r:RelV v u)
 (h:∀s',Inv X pins (σ.set i (some v)) H s'->(∃a,Heap.SameBut a s.heap s'.heap/\(a=X.env.locals\/X.env.cells.lookup x=some a))->Q () s') (hf:X.fn x=true\/X.env.scope.names.lookup x=some .local:=by first |exact .inl rfl |exact .inr rfl |assumption):wpAny M A (storeName X.env x u) Q E s:=by
 obtain⟨m,hn,hl⟩:=id I.loc;have hcls:(X.env.scope.kind == .class || (X.env.scope.kind == .module&&X.env.locals != X.env.globals))=false:=by rw[I.ok.kind];rfl
 have hiσ:i<σ.length:=by rw[I.len];exact(List.getElem?_eq_some_iff.mp hi).1
 have cne:=I.cne
 have tracked:∀{a:Addr} {h':Heap},(∃o,s.heap.get? a=some o/\H a=none)->Heap.SameBut a s.heap h'->HOk X.prog X.w H h':=λ{a h'} ha hs b ob e=>by
  obtain⟨_,_,hfree⟩:=ha;refine(I.hok b ob e).stay (λc w' hc q=>(hs.2 c ?_).trans q) (λ_ q=>q) λ_ _ q=>q
  rintro rfl;rcases hc with rfl |hc
  ·rw[hfree]at e;cases e
  ·rw[hfree]at hc;cases hc
 rcases hx with hk |hk
 ·refine wpAny_storeName_local hk hn (λh' hn' hs=>?_) hcls;obtain⟨oL,_,_,hoL,_⟩:=id hn;refine h _ ⟨I.ok,I.os,I.bare,⟨λb o e n hb hx=>?_,λb o e n hb hx=>?_,I.base.free,λb o e hx=>?_,I.base.tups,I.base.frzs,I.base.tbls⟩,⟨_,hn',λj y v' e1 e2 e3=>?_⟩,λy c e=>?_,I.free,I.freeC,λp hp=>?_,tracked ⟨oL,hoL,I.free⟩ hs,by simpa using I.len⟩ ⟨_,hs,.inl rfl⟩
  ·exact(hs.2 b (Re (Q9 (Heap.lt_size e) I.ok.above))).trans (I.base.keep b o e n hb hx)
  ·obtain⟨sl,e1⟩:=I.base.slot b o e n hb hx;exact⟨sl,(hs.2 b (Re (Q9 (Heap.lt_size e) I.ok.above))).trans e1⟩
  ·obtain⟨o',e1⟩:=I.base.there b o e hx;exact⟨o',(hs.2 b (Re (Q9 (Heap.lt_size e) I.ok.above))).trans e1⟩
  ·by_cases hj:j=i
   ·subst hj;rw[hi]at e1;cases e1;rw[List.getElem?_set_self hiσ]at e2;cases e2;exact⟨u,r,.inl ⟨hk,by simp⟩⟩
   ·rw[List.getElem?_set_ne (Ne.symm hj)]at e2;obtain⟨u',r',q⟩:=hl j y v' e1 e2 e3;refine⟨u',r',?_⟩;rcases q with⟨k,e⟩ |⟨k,c,e,z⟩
    ·refine .inl ⟨k,?_⟩;have:y≠x:=λe=>hj (zc hN e1 (e ▸ hi))
     simp[this,e]
    ·exact .inr ⟨k,c,e,z.sameBut hs (cne y c e)⟩
  ·obtain⟨w',z⟩:=I.cell y c e;exact⟨w',z.sameBut hs (cne y c e)⟩
  ·obtain⟨e,n,ne,nf,d⟩:=I.pin p hp;exact⟨(hs.2 p.1 ne).trans e,n,ne,nf,d⟩
 ·have hfn:X.fn x=true:=by
   rcases hf with z |z
   ·exact z
   ·rw[z]at hk;cases hk
  obtain⟨c,hc⟩:=I.ok.has x (.inl hk);obtain⟨w',z⟩:=I.cell x c hc;refine wpAny_storeName_cell I.ok.kind hk hc z (λh' hc' hs=>?_);obtain⟨oc,hoc,hocd⟩:=id z;refine h { s with heap:=h' } ⟨I.ok,I.os,I.bare,⟨λb o e n hb hx=>?_,λb o e n hb hx=>?_,I.base.free,λb o e hx=>?_,I.base.tups,I.base.frzs,I.base.tbls⟩,⟨m,hn.sameBut hs (Ne.symm (cne x c hc)),λj y v' e1 e2 e3=>?_⟩,λy c' e=>?_,I.free,I.freeC,λp hp=>?_,tracked ⟨oc,hoc,I.freeC x c hc⟩ hs,by simpa using I.len⟩ ⟨c,hs,.inr hc⟩
  ·exact(hs.2 b (Re (Q9 (Heap.lt_size e) (I.ok.cab x c hfn hc)))).trans (I.base.keep b o e n hb hx)
  ·obtain⟨sl,e1⟩:=I.base.slot b o e n hb hx;exact⟨sl,(hs.2 b (Re (Q9 (Heap.lt_size e) (I.ok.cab x c hfn hc)))).trans e1⟩
  ·obtain⟨o',e1⟩:=I.base.there b o e hx;exact⟨o',(hs.2 b (Re (Q9 (Heap.lt_size e) (I.ok.cab x c hfn hc)))).trans e1⟩
  ·by_cases hj:j=i
   ·subst hj;rw[hi]at e1;cases e1;rw[List.getElem?_set_self hiσ]at e2;cases e2;exact⟨u,r,.inr ⟨.inl hk,c,hc,hc'⟩⟩
   ·rw[List.getElem?_set_ne (Ne.symm hj)]at e2;obtain⟨u',r',q⟩:=hl j y v' e1 e2 e3;refine⟨u',r',?_⟩;rcases q with q |⟨k,c',e,z'⟩
    ·exact .inl q
    ·refine .inr ⟨k,c',e,z'.sameBut hs ?_⟩;rintro rfl;exact hj (zc hN e1 (I.ok.inj _ _ _ e hc ▸ hi))
  ·by_cases hcc:c'=c
   ·subst hcc;exact⟨_,hc'⟩
   ·obtain⟨w2,z2⟩:=I.cell y c' e;exact⟨w2,z2.sameBut hs hcc⟩
  ·obtain⟨e,n,ne,nf,d⟩:=I.pin p hp;refine⟨(hs.2 p.1 ?_).trans e,n,ne,nf,d⟩;intro q;rw[q,hoc]at e;have q':oc=p.2:=Option.some.inj e;exact d w' (by rw[<- q'];exact hocd)
theorem wC{M:Model}{A:Around}{E:Value->Shared->Prop}{i:Nat}{x:Str}{v:V}{u:Value}{Q:Unit->Shared->Prop}(I:Inv X pins σ H s)(hN:X.N.Nodup)(hi:X.N[i]?=some x)(hx:Loc X.env.scope x)(r:RelV v u)
 (h:∀s',Inv X pins (σ.set i (some v)) H s'->Q () s') (hf:X.fn x=true\/X.env.scope.names.lookup x=some .local:=by first |exact .inl rfl |exact .inr rfl |assumption):wpAny M A (storeName X.env x u) Q E s :=
 Dg I hN hi hx r (λs' I' _=>h s' I') hf
theorem Inv.call'{s':Shared}{ch:List Addr}(I:Inv X pins σ H s)(ho:s'.os=s.os)(u:Un (frs X.stack) ch H H' s.heap s'.heap)(hok:HOk X.prog X.w H' s'.heap)(hg:AllBare s'.gens)
 (hch:∀b∈ch,(b∈X.ex\/X.s₀.heap.objs.size<=b)/\b≠X.env.locals/\(∀x c,X.env.cells.lookup x=some c->c≠b)/\∀p∈X.pn++pins,p.1≠b):Inv X pins σ H' s':=by
 obtain⟨h',g',d',t',o'⟩:=s';have e:o'=s.os:=ho;subst e;exact I.call (g':=g') (t':=t') (d':=d') u hok hg hch
end
abbrev XK:=Value->Option Addr->Hp->Prop
abbrev St:=List (Option V)
abbrev VK:=V->Hp->Prop
abbrev TE:=St->Hp->VK->Prop
abbrev TT:=St->Hp->(Bool->Hp->Prop)->Prop
abbrev TA:=St->Hp->(List V->Hp->Prop)->Prop
structure Ends where
 nx:St->Hp->Prop
 rt:VK
 bk:St->Hp->Prop:=λ_ _=>False
 ct:St->Hp->Prop:=λ_ _=>False
abbrev TS:=Ends->St->Hp->Prop
def EP(X:Cx)(pins:List (Addr×Obj))(σ:St)(Q:VK)(u:Value)(s':Shared):Prop:=∃v H',Inv X pins σ H' s'/\RelV v u/\Q v H'
def TP(X:Cx)(pins:List (Addr×Obj))(σ:St)(Q:Bool->Hp->Prop)(b:Bool)(s':Shared):Prop:=∃H',Inv X pins σ H' s'/\Q b H'
def AP(X:Cx)(pins:List (Addr×Obj))(σ:St)(Q:List V->Hp->Prop)(us:List Value)(s':Shared):Prop:=∃vs H',Inv X pins σ H' s'/\Vals vs us/\Q vs H'
noncomputable def SP(X:Cx)(pins:List (Addr×Obj))(D:Ends)(f:Flow)(s':Shared):Prop :=
 match f with
 |.next=>∃σ' H',Inv X pins σ' H' s'/\D.nx σ' H'
 |.brk=>∃σ' H',Inv X pins σ' H' s'/\D.bk σ' H'
 |.cont=>∃σ' H',Inv X pins σ' H' s'/\D.ct σ' H'
 |.ret u=>∃v σ' H',Inv X pins σ' H' s'/\RelV v u/\D.rt v H'
noncomputable def PE(X:Cx)(e:Expr)(t:TE):Prop :=
 ∀(pins:List (Addr×Obj)) (s:Shared) (σ:St) (H:Hp) (Q:VK),Inv X pins σ H s->t σ H Q->wpAny (model X.prog X.w) X.A (eval e X.env) (EP X pins σ Q) X.xe s
noncomputable def PT(X:Cx)(e:Expr)(t:TT):Prop :=
 ∀(pins:List (Addr×Obj)) (s:Shared) (σ:St) (H:Hp) (Q:Bool->Hp->Prop),Inv X pins σ H s->t σ H Q->wpAny (model X.prog X.w) X.A (isTrue e X.env (eval e X.env)) (TP X pins σ Q) X.xe s
noncomputable def PW(X:Cx)(e:Expr)(t:TT):Prop :=
 ∀(whole:Sem Value) (pins:List (Addr×Obj)) (s:Shared) (σ:St) (H:Hp) (Q:Bool->Hp->Prop),Inv X pins σ H s->t σ H Q->wpAny (model X.prog X.w) X.A (isTrue e X.env whole) (TP X pins σ Q) X.xe s
theorem PW.pt{X:Cx}{e:Expr}{t:TT}(h:PW X e t):PT X e t:=h _
noncomputable def PA(X:Cx)(es:List Expr)(t:TA):Prop :=
 ∀(pos:Pos) (pins:List (Addr×Obj)) (s:Shared) (σ:St) (H:Hp) (Q:List V->Hp->Prop),Inv X pins σ H s->t σ H Q->wpAny (model X.prog X.w) X.A (spliced (backTo pos (starEach es X.env))) (AP X pins σ Q) X.xe s
noncomputable def PS(X:Cx)(st:Stmt)(t:TS):Prop :=
 ∀(pins:List (Addr×Obj)) (s:Shared) (σ:St) (H:Hp) (D:Ends),Inv X pins σ H s->t D σ H->wpAny (model X.prog X.w) X.A (exec st X.env) (SP X pins D) X.xe s
noncomputable def PSs(X:Cx)(st:List Stmt)(t:TS):Prop :=
 ∀(pins:List (Addr×Obj)) (s:Shared) (σ:St) (H:Hp) (D:Ends),Inv X pins σ H s->t D σ H->wpAny (model X.prog X.w) X.A (execs st X.env) (SP X pins D) X.xe s
theorem thn{α:Type}{t:Sem α}{Q Q':α->Shared->Prop}{M:Model}{A:Around}{E:Value->Shared->Prop}{s:Shared}(h:wpAny M A t Q E s)(hQ:∀a s,Q a s->Q' a s):wpAny M A t Q' E s:=wpAny_mono h hQ λ_ _ x=>x
section
variable {X:Cx}
def wg(i:Nat):TE:=λσ H Q=>∃v,σ[i]?=some (some v)/\Q v H
def tC(v:V):TE:=λ_ H Q=>Q v H
theorem Fi{i:Nat}{x:Str}{pos:Pos}(hN:X.N[i]?=some x)(hv:Vis X.env.scope x)(hd:(x == ("__debug__":Str))=false:=by decide)(hcd:(x == ("__classdict__":Str))=false:=by decide):PE X (.Name x pos) (wg i):=by
 intro pins s σ H Q I h;obtain⟨v,e,h⟩:=h;obtain⟨m,hn,hl⟩:=I.loc;obtain⟨u,r,l⟩:=hl i x v hN e hv;have fin:EP X pins σ Q u s:=⟨v,H,I,r,h⟩;rcases l with⟨hk,hm⟩ |⟨hk,c,hc,hcell⟩
 ·exact wpAny_Name (wpAny_loadName_local I.ok.kind hk hn hm fin) hd
 ·rcases hk with hk |hk
  ·exact wpAny_Name (wpAny_loadName_cell I.ok.kind hk hc hcell fin) hd
  ·exact wpAny_Name (wpAny_loadName_free I.ok.kind hk hc hcell fin hcd) hd
theorem ad{i j pos}:PE X (.Constant (.int i) j pos) (tC (.int i)):=λ_ _ _ H _ I h=>wpAny_Constant_int ⟨.int i,H,I.tok _,⟨_,rfl⟩,h⟩
theorem Fo{b j pos}:PE X (.Constant (.bool b) j pos) (tC (.bl b)):=λ_ _ _ H _ I h=>Constant_bool ⟨.bl b,H,I,rfl,h⟩
theorem io{j pos}:PE X (.Constant .none j pos) (tC .non):=λ_ _ _ H _ I h=>Constant_none ⟨.non,H,I,rfl,h⟩
theorem gw{x j pos}:PE X (.Constant (.str x) j pos) (tC (.str x)):=λ_ _ _ H _ I h=>Calls.Constant_str ⟨.str x,H,I.tok _,⟨_,rfl⟩,h⟩
def Gl(X:Cx)(x:Str):Prop:=X.env.kindOf x=some .globalImplicit
theorem tL{E:Value->Shared->Prop}{pins:List (Addr×Obj)}{s:Shared}{σ:St}{H:Hp}{x:Str}{u:Value}{pos:Pos}{Q:Value->Shared->Prop}(I:Inv X pins σ H s)(hg:Gl X x)(hm:X.mg x=some u)(h:Q u s)
 (hd:(x == ("__debug__":Str))=false:=by decide):wpAny (model X.prog X.w) X.A (eval (.Name x pos) X.env) Q E s :=
 Calls.Name_function_global I.ok.kind hg (Calls.loadGlobal_global (by rw[I.ok.glob];exact I.mod.glob.keeps I.bk) hm h) hd
theorem gH{E:Value->Shared->Prop}{pins:List (Addr×Obj)}{s:Shared}{σ:St}{H:Hp}{x:Str}{u:Value}{pos:Pos}{Q:Value->Shared->Prop}(I:Inv X pins σ H s)(hg:Gl X x)(hm:X.mg x=none)(hv:bootBuiltins x=some u)(h:Q u s)
 (hn:x≠"__name__":=by decide) (hd:(x == ("__debug__":Str))=false:=by decide):wpAny (model X.prog X.w) X.A (eval (.Name x pos) X.env) Q E s:=by
 obtain⟨mb,h1,h2⟩:=I.mod.blt;exact Calls.Name_function_global I.ok.kind hg (Calls.loadGlobal_builtin (by rw[I.ok.glob];exact I.mod.glob.keeps I.bk) hm (by rw[I.ok.blt];exact h1.keeps I.bk) ((h2 x hn).trans hv) h) hd
theorem Fl{x:Str}{v:V}{u:Value}{pos:Pos}(hg:Gl X x)(hm:X.mg x=some u)(r:RelV v u)(hd:(x == ("__debug__":Str))=false:=by decide):PE X (.Name x pos) (tC v) :=
 λ_ _ _ H _ I h=>tL I hg hm ⟨v,H,I,r,h⟩ hd
theorem Fn{x:Str}{v:V}{u:Value}{pos:Pos}(hg:Gl X x)(hm:X.mg x=none)(hv:bootBuiltins x=some u)(r:RelV v u)(hn:x≠"__name__":=by decide)(hd:(x == ("__debug__":Str))=false:=by decide):PE X (.Name x pos) (tC v) :=
 λ_ _ _ H _ I h=>gH I hg hm hv ⟨v,H,I,r,h⟩ hn hd
variable {a b:Expr}{ta tb:TE}{pos:Pos}
def tB(t:TE):TT:=λσ H Q=>t σ H λx H1=>∃c,x=.bl c/\Q c H1
theorem jT{e:Expr}{t:TE}(h:PE X e t)(he:∀whole,isTrue e X.env whole=(do let v <- whole;standAt e.pos;holding [v] (truthy v)):=by intro _;rfl):PT X e (tB t):=by intro pins s σ H Q I hw;refine isTrue_plain (thn (h pins s σ H _ I hw) λv s1 ⟨x,H1,I1,r1,q1⟩=>?_) (he _);obtain⟨d,rfl,q⟩:=q1;cases r1;exact wpAny_truthy_bool ⟨H1,I1,q⟩
variable {tA tB':TT}{rest:List Expr}
def wu(t u:TT):TT:=λσ H Q=>t σ H λc H1=>if c=true then u σ H1 Q else Q false H1
def tOr(t u:TT):TT:=λσ H Q=>t σ H λc H1=>if c=true then Q true H1 else u σ H1 Q
def wm(t:TT):TT:=λσ H Q=>t σ H λc H1=>Q (!c) H1
theorem fZ(ha:PT X a tA):PW X (.BoolOp .And [a] pos) tA:=by
 intro wh pins s σ H Q I h;refine isTrue_and (thn (ha pins s σ H Q I h) λc s1 e=>?_);cases c with
 |true=>exact isTrue_and_nil e
 |false=>exact e
theorem sv(ha:PT X a tA):PW X (.BoolOp .Or [a] pos) tA:=by
 intro wh pins s σ H Q I h;refine isTrue_or (thn (ha pins s σ H Q I h) λc s1 e=>?_);cases c with
 |false=>exact isTrue_or_nil e
 |true=>exact e
theorem f6(ha:PT X a tA)(hb:PW X (.BoolOp .And (b::rest) pos) tB'):PW X (.BoolOp .And (a::b::rest) pos) (wu tA tB'):=by
 intro wh pins s σ H Q I h;refine isTrue_and (thn (ha pins s σ H _ I h) λc s1 ⟨H1,I1,q1⟩=>?_);cases c with
 |true=>exact hb wh pins s1 σ H1 Q I1 q1
 |false=>exact⟨H1,I1,q1⟩
theorem sy(ha:PT X a tA)(hb:PW X (.BoolOp .Or (b::rest) pos) tB'):PW X (.BoolOp .Or (a::b::rest) pos) (tOr tA tB'):=by
 intro wh pins s σ H Q I h;refine isTrue_or (thn (ha pins s σ H _ I h) λc s1 ⟨H1,I1,q1⟩=>?_);cases c with
 |true=>exact⟨H1,I1,q1⟩
 |false=>exact hb wh pins s1 σ H1 Q I1 q1
theorem EW(ha:PT X a tA):PT X (.UnaryOp .Not a pos) (wm tA):=by intro pins s σ H Q I h;exact isTrue_not (ha pins s σ H (λc H1=>Q (!c) H1) I h)
def wt(ta tb:TE):TE:=λσ H Q=>ta σ H λx H1=>∃c,x=.bl c/\if c=true then tb σ H1 Q else Q (.bl false) H1
def wk(ta tb:TE):TE:=λσ H Q=>ta σ H λx H1=>∃c,x=.bl c/\if c=true then Q (.bl true) H1 else tb σ H1 Q
theorem oi{op}{t:TE}(h:PE X a t):PE X (.BoolOp op [a] pos) t:=λpins s σ H Q I hw=>BoolOp_one (h pins s σ H Q I hw)
theorem sG(ha:PE X a ta)(hb:PE X (.BoolOp .And (b::rest) pos) tb):PE X (.BoolOp .And (a::b::rest) pos) (wt ta tb):=by
 intro pins s σ H Q I h;refine BoolOp_and (thn (ha pins s σ H _ I h) λv s1 ⟨x,H1,I1,r1,q1⟩=>?_);obtain⟨c,rfl,q1⟩:=q1;cases r1;refine wpAny_truthy_bool ?_;cases c with
 |true=>exact hb pins s1 σ H1 Q I1 q1
 |false=>exact⟨.bl false,H1,I1,rfl,q1⟩
theorem Fj(ha:PE X a ta)(hb:PE X (.BoolOp .Or (b::rest) pos) tb):PE X (.BoolOp .Or (a::b::rest) pos) (wk ta tb):=by
 intro pins s σ H Q I h;refine BoolOp_or (thn (ha pins s σ H _ I h) λv s1 ⟨x,H1,I1,r1,q1⟩=>?_);obtain⟨c,rfl,q1⟩:=q1;cases r1;refine wpAny_truthy_bool ?_;cases c with
 |false=>exact hb pins s1 σ H1 Q I1 q1
 |true=>exact⟨.bl true,H1,I1,rfl,q1⟩
def tIf(t:TT)(ta tb:TE):TE:=λσ H Q=>t σ H λc H1=>if c=true then ta σ H1 Q else tb σ H1 Q
theorem iZ{c:Expr}(hc:PT X c tA)(ha:PE X a ta)(hb:PE X b tb):PE X (.IfExp c a b pos) (tIf tA ta tb):=by
 intro pins s σ H Q I h;refine wpAny_IfExp (thn (hc pins s σ H _ I h) λd s1 ⟨H1,I1,q1⟩=>?_);cases d with
 |true=>exact ha pins s1 σ H1 Q I1 q1
 |false=>exact hb pins s1 σ H1 Q I1 q1
end
noncomputable def SqL(K:PySem.W.Frag)(H:Hp)(a:Addr)(xs:List V):Prop :=
 Rd H a (.lst xs) \/
  ∃(o:Obj) (its:Array Value) (n:Nat),K.lookup a=some o/\o.cls=.type "list"/\o.dict=none/\o.data=.seq its n/\its.size<=sizeLine/\Vals xs its.toList
noncomputable def SqT(K:PySem.W.Frag)(H:Hp)(a:Addr)(xs:List V):Prop :=
 Rd H a (.tup xs) \/
  ∃(o:Obj) (its:Array Value) (n:Nat),K.lookup a=some o/\o.cls=.type "tuple"/\o.data=.seq its n/\its.size<=sizeLine/\Vals xs its.toList
noncomputable def MH:Value->Option V
 |.none=>some .non
 |.bool b=>some (.bl b)
 |.int i _=>some (.int i)
 |.str x _=>some (.str x)
 |.bytes b _=>some (.byt b)
 |.float b _=>some (.flt b)
 |.ref a=>some (.ref a)
 |.type n=>some (.ty n)
 |_=>none
theorem RelV.abs{x:V}{u:Value}(r:RelV x u):MH u=some x:=by
 cases x with
 |non=>cases r;rfl
 |bl _=>cases r;rfl
 |int _=>obtain⟨t,rfl⟩:=r;rfl
 |str _=>obtain⟨t,rfl⟩:=r;rfl
 |byt _=>obtain⟨t,rfl⟩:=r;rfl
 |flt _=>obtain⟨t,rfl⟩:=r;rfl
 |ref _=>cases r;rfl
 |ty _=>cases r;rfl
theorem RelV.inj{x y:V}{u:Value}(r:RelV x u)(q:RelV y u):x=y:=Option.some.inj (r.abs.symm.trans q.abs)
theorem Vals.inj:∀{xs ys:List V} {us:List Value},Vals xs us->Vals ys us->xs=ys
 |_,_,_,.nil,.nil=>rfl
 |_,_,_,.cons r t,.cons r' t'=>by rw[r.inj r',Vals.inj t t']
section
variable {X:Cx}{pins:List (Addr×Obj)}{σ:St}{H:Hp}{s:Shared}{a:Addr}{xs ys:List V}
theorem SqL.of{K:PySem.W.Frag}(h:H a=some (.lst xs)):SqL K H a xs:=.inl (.inl h)
theorem SqT.of{K:PySem.W.Frag}(h:H a=some (.tup xs)):SqT K H a xs:=.inl (.inl h)
theorem Inv.list(I:Inv X pins σ H s)(h:SqL X.K H a xs):∃its:List Value,Vals xs its/\PlainL s.heap a its.toArray/\xs.length<=sizeLine:=by
 rcases h with h |⟨o,its,n,hk,hc,hd,hs,hz,r⟩
 ·obtain⟨z,its,n,r,e⟩:=h.ok I.hok;exact⟨its,r,⟨_,n,e,rfl,rfl,rfl⟩,z⟩
 ·refine⟨its.toList,r,⟨o,n,I.kIn a o hk,hc,hd,by simpa using hs⟩,?_⟩;have e:=r.length;simp only[Array.length_toList]at e;omega
theorem Inv.tuple(I:Inv X pins σ H s)(h:SqT X.K H a xs):∃its:List Value,Vals xs its/\IsTup s.heap a its.toArray/\xs.length<=sizeLine:=by
 rcases h with h |⟨o,its,n,hk,hc,hs,hz,r⟩
 ·obtain⟨z,its,r,p⟩:=h.ok I.hok;exact⟨its,r,p,z⟩
 ·refine⟨its.toList,r,⟨o,I.kIn a o hk,hc,n,by simpa using hs⟩,?_⟩;have e:=r.length;simp only[Array.length_toList]at e;omega
theorem Inv.list_inj(I:Inv X pins σ H s)(h:SqL X.K H a xs)(h':SqL X.K H a ys):xs=ys:=by
 obtain⟨its,r,⟨o,n,e,_,_,d⟩,_⟩:=I.list h;obtain⟨its',r',⟨o',n',e',_,_,d'⟩,_⟩:=I.list h';rw[e]at e';cases e';rw[d]at d'
 injection d' with d1 _
 have:its=its':=by simpa using congrArg Array.toList d1
 subst this;exact r.inj r'
theorem Inv.tuple_inj(I:Inv X pins σ H s)(h:SqT X.K H a xs)(h':SqT X.K H a ys):xs=ys:=by
 obtain⟨its,r,⟨o,e,_,n,d⟩,_⟩:=I.tuple h;obtain⟨its',r',⟨o',e',_,n',d'⟩,_⟩:=I.tuple h';rw[e]at e';cases e';rw[d]at d'
 injection d' with d1 _
 have:its=its':=by simpa using congrArg Array.toList d1
 subst this;exact r.inj r'
end
abbrev Cx.wish(X:Cx)(E:Value->Shared->Prop):Cx:={ X with xe:=E }
abbrev Cx.nox(X:Cx):Cx:=X.wish λ_ _=>False
theorem Cx.Ok.wish{X:Cx}(ok:X.Ok)(E:Value->Shared->Prop):(X.wish E).Ok :=
 ⟨ok.mod,ok.kind,ok.glob,ok.blt,ok.above,ok.inj,ok.has,ok.cab,ok.hd,ok.frames,ok.stk,ok.exf,ok.bs,ok.bsz,ok.noex,ok.exfs,ok.funs,ok.frf⟩
theorem Cx.Ok.unwish{X:Cx}{E:Value->Shared->Prop}(ok:(X.wish E).Ok):X.Ok :=
 ⟨ok.mod,ok.kind,ok.glob,ok.blt,ok.above,ok.inj,ok.has,ok.cab,ok.hd,ok.frames,ok.stk,ok.exf,ok.bs,ok.bsz,ok.noex,ok.exfs,ok.funs,ok.frf⟩
section
variable {X:Cx}{pins:List (Addr×Obj)}{σ:St}{H:Hp}{s:Shared}{E:Value->Shared->Prop}
theorem Inv.wish(I:Inv X pins σ H s)(E:Value->Shared->Prop):Inv (X.wish E) pins σ H s:=⟨I.ok.wish E,I.os,I.bare,I.base,I.loc,I.cell,I.free,I.freeC,I.pin,I.hok,I.len⟩
theorem Inv.unwish(I:Inv (X.wish E) pins σ H s):Inv X pins σ H s:=⟨I.ok.unwish,I.os,I.bare,I.base,I.loc,I.cell,I.free,I.freeC,I.pin,I.hok,I.len⟩
theorem SP.unwish{D:Ends}{f:Flow}{s':Shared}(h:SP (X.wish E) pins D f s'):SP X pins D f s':=by
 cases f with
 |next=>obtain⟨σ',H',I,q⟩:=h;exact⟨σ',H',I.unwish,q⟩
 |brk=>obtain⟨σ',H',I,q⟩:=h;exact⟨σ',H',I.unwish,q⟩
 |cont=>obtain⟨σ',H',I,q⟩:=h;exact⟨σ',H',I.unwish,q⟩
 |ret u=>obtain⟨v,σ',H',I,r,q⟩:=h;exact⟨v,σ',H',I.unwish,r,q⟩
theorem PE.nox{e:Expr}{t:TE}(h:PE X.nox e t):PE X e t:=λpins s σ H Q I hw =>wpAny_mono (h pins s σ H Q (I.wish _) hw) (λ_ _ ⟨v,H',I',r,q⟩=>⟨v,H',I'.unwish,r,q⟩) λ_ _ z=>False.elim z
theorem PT.nox{e:Expr}{t:TT}(h:PT X.nox e t):PT X e t:=λpins s σ H Q I hw =>wpAny_mono (h pins s σ H Q (I.wish _) hw) (λ_ _ ⟨H',I',q⟩=>⟨H',I'.unwish,q⟩) λ_ _ z=>False.elim z
theorem PSs.nox{st:List Stmt}{t:TS}(h:PSs X.nox st t):PSs X st t:=λpins s σ H D I hw =>wpAny_mono (h pins s σ H D (I.wish _) hw) (λ_ _ q=>q.unwish) λ_ _ z=>False.elim z
end
section
variable {X:Cx}{st:Stmt}{rest:List Stmt}{t u:TS}{e:Expr}{te:TE}{pos:Pos}
def wn:TS:=λD σ H=>D.nx σ H
def cM(t u:TS):TS:=λD σ H=>t { D with nx:=u D } σ H
theorem aP:PSs X [] wn:=λ_ _ σ H _ I h=>wpAny_execs_nil ⟨σ,H,I,h⟩
theorem ag(h1:PS X st t)(h2:PSs X rest u):PSs X (st::rest) (cM t u):=by
 intro pins s σ H D I h;refine wpAny_execs_cons (thn (h1 pins s σ H { D with nx:=u D } I h) λf s1 q=>?_);cases f with
 |next =>obtain⟨σ',H',I',q⟩:=q;exact h2 pins s1 σ' H' D I' q
 |ret v=>exact q
 |brk=>exact q
 |cont=>exact q
theorem ak(h1:PS X st t):PSs X [st] t:=by
 intro pins s σ H D I h;refine wpAny_execs_cons (thn (h1 pins s σ H D I h) λf s1 q=>?_);cases f with
 |next=>exact wpAny_execs_nil q
 |ret v=>exact q
 |brk=>exact q
 |cont=>exact q
theorem Inv.quiet{pins:List (Addr×Obj)}{σ:St}{H:Hp}{s:Shared}(I:Inv X pins σ H s):interactive X.env=false:=by simp[interactive,I.ok.kind]
def nj(te:TE):TS:=λD σ H=>te σ H λ_ H1=>D.nx σ H1
theorem eO(he:PE X e te)(hs:swapsWith e none pos.line X.env=pure false:=by rfl):PS X (.Expr e pos) (nj te):=by intro pins s σ H D I h;exact wpAny_Expr_any (thn (he pins s σ H _ I h) λv s1 ⟨x,H1,I1,r1,q1⟩=>⟨σ,H1,I1,q1⟩) I.quiet hs
def wj(te:TE):TS:=λD σ H=>te σ H D.rt
theorem av(he:PE X e te):PS X (.Return (some e) pos) (wj te):=by intro pins s σ H D I h;exact wpAny_Return_some (thn (he pins s σ H _ I h) λv s1 ⟨x,H1,I1,r1,q1⟩=>⟨x,σ,H1,I1,r1,q1⟩)
def kK(c:TT)(t u:TS):TS:=λD σ H=>c σ H λb H1=>if b=true then t D σ H1 else u D σ H1
theorem aO{c:Expr}{a b:List Stmt}{tc:TT}(hc:PT X c tc)(ha:PSs X a t)(hb:PSs X b u):PS X (.If c a b pos) (kK tc t u):=by
 intro pins s σ H D I h;refine wpAny_If (thn (hc pins s σ H _ I h) λd s1 ⟨H1,I1,q1⟩=>?_);cases d with
 |true=>exact ha pins s1 σ H1 D I1 q1
 |false=>exact hb pins s1 σ H1 D I1 q1
def CV:TS:=λ_ _ _=>False
theorem iW:PS X st CV:=λ_ _ _ _ _ _ h=>h.elim
end
abbrev TG:=V->St->Hp->(St->Hp->Prop)->Prop
abbrev TGs:=List V->St->Hp->(St->Hp->Prop)->Prop
noncomputable def PG(X:Cx)(target:Expr)(t:TG):Prop :=
 ∀(pins:List (Addr×Obj)) (s:Shared) (σ:St) (H:Hp) (v:V) (u:Value) (Q:St->Hp->Prop),Inv X pins σ H s->RelV v u->t v σ H Q ->
  wpAny (model X.prog X.w) X.A (assign target X.env u) (λ_ s'=>∃σ' H',Inv X pins σ' H' s'/\Q σ' H') X.xe s
noncomputable def PGs(X:Cx)(ts:List Expr)(t:TGs):Prop :=
 ∀(pins:List (Addr×Obj)) (s:Shared) (σ:St) (H:Hp) (vs:List V) (us:List Value) (Q:St->Hp->Prop),Inv X pins σ H s->Vals vs us->t vs σ H Q ->
  wpAny (model X.prog X.w) X.A (assignInOrder ((assignEach ts X.env).map (·.2)) us) (λ_ s'=>∃σ' H',Inv X pins σ' H' s'/\Q σ' H') X.xe s
abbrev vp:=V->V->V->Hp->(Hp->Prop)->Prop
noncomputable def B5(X:Cx)(t:vp):Prop :=
 ∀(pins:List (Addr×Obj)) (s:Shared) (σ:St) (H:Hp) (o i v:V) (ov iv u:Value) (Q:Hp->Prop),Inv X pins σ H s->RelV o ov->RelV i iv->RelV v u->t o i v H Q ->
  wpAny (model X.prog X.w) X.A (setItem ov iv u) (λ_ s'=>∃H',Inv X pins σ H' s'/\Q H') X.xe s
section
variable {X:Cx}{pos:Pos}
def jl(i:Nat):TG:=λv σ H Q=>Q (σ.set i (some v)) H
theorem aU{i:Nat}{x:Str}(hN:X.N.Nodup)(hi:X.N[i]?=some x)(hx:Loc X.env.scope x)(hf:X.fn x=true\/X.env.scope.names.lookup x=some .local:=by first |exact .inl rfl |exact .inr rfl |assumption):PG X (.Name x pos) (jl i):=by intro pins s σ H v u Q I r h;exact wpAny_assign_Name (wC I hN hi hx r (λs' I'=>⟨_,H,I',h⟩) hf)
noncomputable def Km:TGs:=λvs σ H Q=>vs=[]/\Q σ H
noncomputable def Kn(t:TG)(u:TGs):TGs:=λvs σ H Q=>∃v r,vs=v::r/\t v σ H λσ' H'=>u r σ' H' Q
theorem ij:PGs X [] Km:=by intro pins s σ H vs us Q I r h;obtain⟨e,h⟩:=h;subst e;cases r;exact assignInOrder_nil ⟨σ,H,I,h⟩
theorem cH{e:Expr}{es:List Expr}{t:TG}{u:TGs}(h1:PG X e t)(h2:PGs X es u)
 (hs:(assignEach (e::es) X.env).map (·.2)=assign e X.env::(assignEach es X.env).map (·.2):=by rfl):PGs X (e::es) (Kn t u):=by
 intro pins s σ H vs us Q I r h;obtain⟨v,vr,e1,h⟩:=h;subst e1;cases r with
 |cons r rr =>rw[hs];refine assignInOrder_cons (thn (h1 pins s σ H _ _ _ I r h) λ_ s1 ⟨σ1,H1,I1,q1⟩=>?_);exact h2 pins s1 σ1 H1 _ _ Q I1 rr q1
def AB(K:PySem.W.Frag)(n:Nat)(t:TGs):TG:=λv σ H Q=>∃a xs,v=.ref a/\SqT K H a xs/\xs.length=n/\t xs σ H Q
theorem ik{es:List Expr}{k:Nat}{t:TGs}{n:Nat}(hc:X.calm=true)(h:PGs X es t)
 (hn:(assignEach es X.env).length=n:=by rfl) (hst:(assignEach es X.env).findIdx? (·.1)=none:=by rfl):PG X (.Tuple es k pos) (AB X.K n t):=by
 intro pins s σ H v u Q I r hw;obtain⟨a,xs,e1,hq,hl,hw⟩:=hw;subst e1;cases r;obtain⟨its,rv,ht,hz⟩:=I.tuple hq;refine assign_Tuple_tuple (I.ok.hd hc) ht (by simp[hn,<- hl,rv.length]) hst λh' hx=>?_
 have I1:Inv X pins σ H { s with heap:=h' }:=I.kept (t':=s.toks) λb o e=>hx b o (Re (Heap.lt_size e)) e
 exact h pins _ σ H xs _ Q I1 (by simpa using rv) hw
def Kl(to ti:TE)(t:vp):TG:=λv σ H Q=>to σ H λo H1=>ti σ H1 λi H2=>t o i v H2 λH3=>Q σ H3
theorem lG{o i:Expr}{to ti:TE}{t:vp}(ho:PE X o to)(hi:PE X i ti)(hs:B5 X t)
 (ha:∀v,assign (.Subscript o i pos) X.env v=(do
   let ov <- holding [v] (eval o X.env)
   let iv <- holding [v,ov] (eval i X.env)
   standAt pos
   holding [v,ov,iv] (setItem ov iv v)
   release [v,ov,iv] []):=by intro _;rfl):PG X (.Subscript o i pos) (Kl to ti t):=by
 intro pins s σ H v u Q I r h;rw[ha];refine wpAny_bind (wpAny_holding (thn (ho pins s σ H _ I h) λov s1 ⟨x,H1,I1,r1,q1⟩=>?_));refine wpAny_bind (wpAny_holding (thn (hi pins s1 σ H1 _ I1 q1) λiv s2 ⟨y,H2,I2,r2,q2⟩=>?_));refine wpAny_bind (wpAny_standAt (wpAny_bind (wpAny_holding (thn (hs pins s2 σ H2 x y v ov iv u _ I2 r1 r2 r q2) λ_ s3 ⟨H3,I3,q3⟩=>?_))));exact wpAny_release ⟨σ,H3,I3,q3⟩
def iO(te:TE)(g:TG):TS:=λD σ H=>te σ H λx H1=>g x σ H1 D.nx
theorem gv{tg e:Expr}{te:TE}{g:TG}(he:PE X e te)(hg:PG X tg g)(hs:swapsWithSole [tg] e pos.line X.env=pure false:=by rfl)(hw:swappedStores [tg] e X.env=pure none:=by rfl)
 (h1:(assignEach [tg] X.env).map (·.2)=[assign tg X.env]:=by rfl):PS X (.Assign [tg] e pos) (iO te g):=by
 intro pins s σ H D I h;refine wpAny_Assign_stores (thn (he pins s σ H _ I h) λv s1 ⟨x,H1,I1,r1,q1⟩=>?_) hs hw;rw[h1];exact thn (hg pins s1 σ H1 x v _ I1 r1 q1) λ_ s2 q=>q
theorem ao{i:Nat}{x:Str}{e:Expr}{te:TE}{pos':Pos}(hN:X.N.Nodup)(hi:X.N[i]?=some x)(hx:Loc X.env.scope x)(he:PE X e te)(hs:swapsWith e (some (.Name x pos')) pos.line X.env=pure false:=by rfl)(hf:X.fn x=true\/X.env.scope.names.lookup x=some .local:=by first |exact .inl rfl |exact .inr rfl |assumption) :
 PS X (.Assign [.Name x pos'] e pos) (iO te (jl i)):=by
 intro pins s σ H D I h;refine wpAny_Assign_Name (thn (he pins s σ H _ I h) λv s1 ⟨y,H1,I1,r1,q1⟩=>?_) hs;exact wC I1 hN hi hx r1 (λs2 I2=>⟨_,H1,I2,q1⟩) hf
end
section
variable {X:Cx}{pos:Pos}
def CP(c:TT)(tb:TS):TS:=λD σ H=>∃W:Nat->St->Hp->Prop,(∃m,W m σ H)/\∀m σ H,W m σ H ->
 c σ H λb H1=>if b=true then ∃N:St->Hp->Prop,(∀σ' H',N σ' H'->∃m',m'<m/\W m' σ' H')/\tb { D with nx:=N,ct:=N,bk:=D.nx } σ H1 else D.nx σ H1
theorem f7{c:Expr}{body:List Stmt}{tc:TT}{tb:TS}(hp:PassesOwn (model X.prog X.w) X.A X.env X.xe)(hc:PT X c tc)(hb:PSs X body tb):PS X (.While c body [] pos) (CP tc tb):=by
 intro pins s σ H D I h;obtain⟨W,⟨m0,w0⟩,turn⟩:=h;refine wpAny_While (codeAny_whileLoop (λn s'=>∃σ' H',Inv X pins σ' H' s'/\W n σ' H') ?_ m0 ⟨σ,H,I,w0⟩);rintro n s1 ⟨σ1,H1,I1,w1⟩;refine wpAny_passesOwn hp (thn (hc pins s1 σ1 H1 _ I1 (turn n σ1 H1 w1)) λb s2 ⟨H2,I2,q2⟩=>?_);cases b with
 |true =>
  obtain⟨N,hN,q2⟩:=q2;rw[if_pos rfl];refine wpAny_passesOwn hp (thn (hb pins s2 σ1 H2 _ I2 q2) λf s3 q3=>?_);cases f with
  |next =>obtain⟨σ3,H3,I3,n3⟩:=q3;obtain⟨m',hm,w3⟩:=hN σ3 H3 n3;exact⟨m',hm,σ3,H3,I3,w3⟩
  |cont =>obtain⟨σ3,H3,I3,n3⟩:=q3;obtain⟨m',hm,w3⟩:=hN σ3 H3 n3;exact⟨m',hm,σ3,H3,I3,w3⟩
  |brk=>exact q3
  |ret v=>exact q3
 |false =>rw[if_neg Rh];exact wpAny_execs_nil ⟨σ1,H2,I2,q2⟩
end
structure It where
 go:Nat->Hp->Prop
 yld:Nat->Hp->V->Hp->Prop
 stop:Nat->Hp->Prop
noncomputable def gj(X:Cx)(pins:List (Addr×Obj))(H:Hp)(b:Addr):Prop :=
 H b=none/\b≠X.env.locals/\b∉X.fs/\(b∈X.ex\/X.s₀.heap.objs.size<=b)/\(∀x c,X.env.cells.lookup x=some c->c≠b)/\∀p∈X.pn++pins,p.1≠b
theorem Inv.fpOk{X:Cx}{pins:List (Addr×Obj)}{σ:St}{H H':Hp}{s:Shared}{b:Addr}(I:Inv X pins σ H s)(hb:s.heap.objs.size<=b)(hn:H' b=none):gj X pins H' b:=by
 refine⟨hn,Nat.ne_of_gt (Q9 I.lt hb),I.nofs hb,.inr (QL I.sz hb),λx c e z=>?_,λp hp z=>?_⟩
 ·obtain⟨v,q⟩:=I.cell x c e;exact absurd (Q9 q.lt (by rw[z];exact hb)) (Ry _)
 ·exact absurd (Q9 (Heap.lt_size (I.pin p hp).1) (by rw[z];exact hb)) (Ry _)
structure Turn(P:Program)(w:World)(K:PySem.W.Frag)(tg:Expr)(J:It)(fp:List Addr)(it:Addr)(tn:Nat->Heap->Prop):Prop where
 mem:it∈fp
 obj:∀i h,tn i h->∀b∈fp,∃o,h.get? b=some o/\∀v,o.data≠.cell v
 keep:∀i h h',tn i h->(∀b∈fp,∀o,h.get? b=some o->h'.get? b=some o)->tn i h'
 item:∀(X:Cx),X.prog=P->X.w=w->X.K=K->X.calm=true->∀(i:Nat) (pins:List (Addr×Obj)) (s:Shared) (σ:St) (H:Hp) (E:Value->Shared->Prop),Inv X pins σ H s->(∀b∈fp,gj X pins H b)->tn i s.heap->J.go i H ->
  wpAny (model P w) X.A (pyNext (.ref it)) (λr s1=>∃u,r=some u /\
   wpAny (model P w) X.A (letOwnedTupleGo tg (.ref it) u) (λ_ s2=>∃x H',Inv X pins σ H' s2/\RelV x u/\J.yld i H x H'/\tn (i+1) s2.heap/\∀b∈fp,H' b=none) E s1) E s
 done:∀(X:Cx),X.prog=P->X.w=w->X.K=K->X.calm=true->∀(i:Nat) (pins:List (Addr×Obj)) (s:Shared) (σ:St) (H:Hp) (E:Value->Shared->Prop),Inv X pins σ H s->(∀b∈fp,gj X pins H b)->tn i s.heap->J.stop i H ->
  wpAny (model P w) X.A (pyNext (.ref it)) (λr s1=>r=none/\Inv X pins σ H s1) E s
 self:∀(A:Around) (i:Nat) (s:Shared) (Q:Value->Shared->Prop) (E:Value->Shared->Prop),tn i s.heap->Q (.ref it) s->wpAny (model P w) A (pyIter (.ref it)) Q E s
abbrev TI:=St->Hp->(It->Hp->Prop)->Prop
noncomputable def PIE(X:Cx)(pins:List (Addr×Obj))(σ:St)(tg:Expr)(R:It->Hp->Prop)(itv:Value)(s2:Shared):Prop :=
 ∃(it:Addr) (fp:List Addr) (tn:Nat->Heap->Prop) (J:It) (H':Hp),itv=.ref it/\Inv X pins σ H' s2/\Turn X.prog X.w X.K tg J fp it tn/\tn 0 s2.heap/\(∀b∈fp,gj X pins H' b)/\R J H'
noncomputable def PI(X:Cx)(tg iter:Expr)(wi:TI):Prop :=
 ∀(pins:List (Addr×Obj)) (s:Shared) (σ:St) (H:Hp) (R:It->Hp->Prop),Inv X pins σ H s->wi σ H R ->
  wpAny (model X.prog X.w) X.A (eval iter X.env) (λv s1=>wpAny (model X.prog X.w) X.A (pyIter v) (PIE X pins σ tg R) X.xe s1) X.xe s
theorem ke{M:Model}{A:Around}{E:Value->Shared->Prop}{s:Shared}{tg:Expr}{it:Addr}{u:Value}{o:Obj}{n:String}{vs:Array Value}{Q:Unit->Shared->Prop}(ho:s.heap.get? it=some o)(hc:o.cls=.type n)(hd:o.data=.fields vs)
 (hn:["enumerate","zip","dict_itemiterator","dict_reverseitemiterator","odict_iterator","itertools.zip_longest","itertools.pairwise"].contains n=false) (hQ:Q () s):wpAny M A (letOwnedTupleGo tg (.ref it) u) Q E s:=by
 unfold letOwnedTupleGo
 cases tg<;>first
  |exact wpAny_pure hQ
  | (cases u<;>first
      |exact wpAny_pure hQ
      | (refine wpAny_bind (wpAny_load ho ?_)
         rw[hc,hd];show wpAny M A (if(["enumerate","zip","dict_itemiterator","dict_reverseitemiterator","odict_iterator","itertools.zip_longest","itertools.pairwise"].contains n&&vs[0]? == some (rawInt _))=true then _ else _) Q E s;rw[if_neg (by intro h;rw[hn,Bool.false_and]at h;cases h)]
         exact wpAny_pure hQ))
noncomputable def Itl(K:PySem.W.Frag)(a:Addr):It :=
 ⟨λi H=>∃xs x,SqL K H a xs/\xs[i]?=some x,λi H x H'=>H'=H/\∀xs,SqL K H a xs->xs[i]?=some x,λi H=>∃xs,SqL K H a xs/\xs.length<=i⟩
noncomputable def Itt(K:PySem.W.Frag)(a:Addr):It :=
 ⟨λi H=>∃xs x,SqT K H a xs/\xs[i]?=some x,λi H x H'=>H'=H/\∀xs,SqT K H a xs->xs[i]?=some x,λi H=>∃xs,SqT K H a xs/\xs.length<=i⟩
noncomputable def Itr(lo:Int)(n:Nat):It:=⟨λi _=>i<n,λi H x H'=>H'=H/\x=.int (lo+i),λi _=>n<=i⟩
theorem Cy{P:Program}{w:World}{K:PySem.W.Frag}{tg:Expr}(a it:Addr):Turn P w K tg (Itl K a) [it] it (λi h=>h.IsListIter it a i) where
 mem:=by simp
 obj:=λi h st b hb=>by
  have e:b=it:=by simpa using hb
  subst e;obtain⟨o,e,c,d⟩:=st;exact⟨o,e,λv z=>by rw[d]at z;cases z⟩
 keep:=λi h h' st k=>st.at λo e=>k it (by simp) o e
 item:=by
  intro X hP hw hK hc i pins s σ H E I hf st hg;subst hP hw hK;obtain⟨xs,x,hq,hx⟩:=hg;obtain⟨its,rv,p,hz⟩:=I.list hq;obtain⟨u,hu,ru⟩:=rv.get hx;obtain⟨f0,f1,f2,f3,f4,f5⟩:=hf it (by simp);refine wpAny_pyNext_list_item st p.isList (x:=u) (by simpa using hu) λh' st' sb=>?_
  have I1:Inv X pins σ H { s with heap:=h' }:=I.turned (t':=s.toks) (λb o hb e=>(sb.2 b hb).trans e) f0 f1 f3 f4 f5;obtain⟨o,e,c,d⟩:=id st';exact⟨u,rfl,ke (s:={ s with heap:=h' }) e c d (by decide) ⟨x,H,I1,ru,⟨rfl,λys hy=>by rw[I.list_inj hy hq];exact hx⟩,st',λb hb=>(hf b hb).1⟩⟩
 done:=by intro X hP hw hK hc i pins s σ H E I hf st hg;subst hP hw hK;obtain⟨xs,hq,hx⟩:=hg;obtain⟨its,rv,p,hz⟩:=I.list hq;obtain⟨f0,f1,f2,f3,f4,f5⟩:=hf it (by simp);have hl:=rv.length;exact wpAny_pyNext_list_end (I.ok.hd hc) st p.isList (by simp;omega) λh' eb=>⟨rfl,I.turned (t':=s.toks) (λb o hb e=>eb b o hb e) f0 f1 f3 f4 f5⟩
 self:=λ_ _ _ _ _ st h=>wpAny_pyIter_listiter st h
theorem Cq{P:Program}{w:World}{K:PySem.W.Frag}{tg:Expr}(a it:Addr):Turn P w K tg (Itt K a) [it] it (λi h=>h.IsTupleIter it a i) where
 mem:=by simp
 obj:=λi h st b hb=>by
  have e:b=it:=by simpa using hb
  subst e;obtain⟨o,e,c,d⟩:=st;exact⟨o,e,λv z=>by rw[d]at z;cases z⟩
 keep:=λi h h' st k=>st.at λo e=>k it (by simp) o e
 item:=by
  intro X hP hw hK hc i pins s σ H E I hf st hg;subst hP hw hK;obtain⟨xs,x,hq,hx⟩:=hg;obtain⟨its,rv,p,hz⟩:=I.tuple hq;obtain⟨u,hu,ru⟩:=rv.get hx;obtain⟨f0,f1,f2,f3,f4,f5⟩:=hf it (by simp);refine wpAny_pyNext_tuple_item st (show s.heap.IsTuple a its.toArray from p) (x:=u) (by simpa using hu) λh' st' sb=>?_
  have I1:Inv X pins σ H { s with heap:=h' }:=I.turned (t':=s.toks) (λb o hb e=>(sb.2 b hb).trans e) f0 f1 f3 f4 f5;obtain⟨o,e,c,d⟩:=id st';exact⟨u,rfl,ke (s:={ s with heap:=h' }) e c d (by decide) ⟨x,H,I1,ru,⟨rfl,λys hy=>by rw[I.tuple_inj hy hq];exact hx⟩,st',λb hb=>(hf b hb).1⟩⟩
 done:=by intro X hP hw hK hc i pins s σ H E I hf st hg;subst hP hw hK;obtain⟨xs,hq,hx⟩:=hg;obtain⟨its,rv,p,hz⟩:=I.tuple hq;obtain⟨f0,f1,f2,f3,f4,f5⟩:=hf it (by simp);have hl:=rv.length;exact wpAny_pyNext_tuple_end (I.ok.hd hc) st (show s.heap.IsTuple a its.toArray from p) (by simp;omega) λh' eb=>⟨rfl,I.turned (t':=s.toks) (λb o hb e=>eb b o hb e) f0 f1 f3 f4 f5⟩
 self:=λ_ _ _ _ _ st h=>wpAny_pyIter_tupleiter st h
theorem Cw{P:Program}{w:World}{K:PySem.W.Frag}{tg:Expr}(it:Addr)(lo:Int)(n:Nat):Turn P w K tg (Itr lo n) [it] it (λi h=>IsRangeIter h it (lo+(i:Nat)*1) ((n:Int)-(i:Nat)) 1) where
 mem:=by simp
 obj:=λi h st b hb=>by
  have e:b=it:=by simpa using hb
  subst e
  exact⟨_,st,λv z=>by
   have z':Data.fields _=Data.cell v:=z
   cases z'⟩
 keep:=λi h h' st k=>k it (by simp) _ st
 item:=by
  intro X hP hw hK hc i pins s σ H E I hf st hg;subst hP hw hK;obtain⟨f0,f1,f2,f3,f4,f5⟩:=hf it (by simp);have W:=Walks.range (prog:=X.prog) (w:=X.w) (I.ok.hd hc) it lo 1 n;refine W.item i s _ _ hg st λv h' tk hv st' kk=>?_
  obtain⟨t,rfl⟩:=hv;have I1:Inv X pins σ H { s with heap:=h',toks:=tk }:=I.turned (λb o hb e=>kk b o (by simpa using hb) e) f0 f1 f3 f4 f5;refine⟨_,rfl,ke (s:={ s with heap:=h',toks:=tk }) (n:="range_iterator") st' rfl rfl (by decide) ⟨.int (lo+i),H,I1,⟨t,?_⟩,⟨rfl,rfl⟩,st',λb hb=>(hf b hb).1⟩⟩;rw[Q1]
 done:=by intro X hP hw hK hc i pins s σ H E I hf st hg;subst hP hw hK;obtain⟨f0,f1,f2,f3,f4,f5⟩:=hf it (by simp);exact wpAny_pyNext_range_end (I.ok.hd hc) st (by have:n<=i:=hg;omega) λh' eb=>⟨rfl,I.turned (t':=s.toks) (λb o hb e=>eb b o hb e) f0 f1 f3 f4 f5⟩
 self:=λ_ _ _ _ _ st h=>wpAny_pyIter_rangeiter st h
section
variable {X:Cx}{tg:Expr}
def Am(K:PySem.W.Frag)(tl:TE):TI:=λσ H R=>tl σ H λx H1=>∃a,x=.ref a/\(∃xs,SqL K H1 a xs)/\R (Itl K a) H1
def Ak(K:PySem.W.Frag)(tl:TE):TI:=λσ H R=>tl σ H λx H1=>∃a,x=.ref a/\(∃xs,SqT K H1 a xs)/\R (Itt K a) H1
theorem Ff{l:Expr}{tl:TE}(hl:PE X l tl):PI X tg l (Am X.K tl):=by
 intro pins s σ H R I h;refine thn (hl pins s σ H _ I h) λv s1 ⟨x,H1,I1,r1,q1⟩=>?_
 obtain⟨a,e,⟨xs,hq⟩,q⟩:=q1;subst e;cases r1;obtain⟨its,rv,p,hz⟩:=I1.list hq;refine wpAny_pyIter_list p.isList ?_;refine⟨s1.heap.objs.size,[s1.heap.objs.size],_,_,H1,rfl,I1.kept (t':=s1.toks) λb o e=>Heap.get?_push_of_some _ e,Cy a _,⟨_,Heap.get?_push_size _ rfl,rfl,rfl⟩,λb hb=>?_,q⟩;have e:b=s1.heap.objs.size:=by simpa using hb
 subst e;exact I1.fpOk (QD _) (I1.hok.fresh (QD _))
theorem Fc{l:Expr}{tl:TE}(hl:PE X l tl):PI X tg l (Ak X.K tl):=by
 intro pins s σ H R I h;refine thn (hl pins s σ H _ I h) λv s1 ⟨x,H1,I1,r1,q1⟩=>?_
 obtain⟨a,e,⟨xs,hq⟩,q⟩:=q1;subst e;cases r1;obtain⟨its,rv,p,hz⟩:=I1.tuple hq;refine wpAny_pyIter_tuple (show s1.heap.IsTuple a its.toArray from p) ?_;refine⟨s1.heap.objs.size,[s1.heap.objs.size],_,_,H1,rfl,I1.kept (t':=s1.toks) λb o e=>Heap.get?_push_of_some _ e,Cq a _,⟨_,Heap.get?_push_size _ rfl,rfl,rfl⟩,λb hb=>?_,q⟩;have e:b=s1.heap.objs.size:=by simpa using hb
 subst e;exact I1.fpOk (QD _) (I1.hok.fresh (QD _))
theorem yv{pins:List (Addr×Obj)}{σ:St}{H:Hp}{s:Shared}{R:It->Hp->Prop}{E:Value->Shared->Prop}{lo hi:Int}{t u v:Tok}{tk:Nat}(I:Inv X pins σ H s)(h1 : -(2^62)<=lo)(h2:lo<2^62)(h3 : -(2^62)<=hi)(h4:hi<2^62)
 (q:R (Itr lo (hi-lo).toNat) H):wpAny (model X.prog X.w) X.A (pyIter (.ref s.heap.objs.size)) (PIE X pins σ tg R) E { s with heap:=s.heap.push { cls:=.type "range",data:=.fields #[.int lo t,.int hi u,.int 1 v] },toks:=tk }:=by
 refine wpAny_pyIter_range (IsRange.new ..) (small_one h1 h2 h3 h4) ?_;have I1:Inv X pins σ H { s with heap:=s.heap.push { cls:=.type "range",data:=.fields #[.int lo t,.int hi u,.int 1 v] },toks:=tk }:=I.kept λb o e=>Heap.get?_push_of_some _ e
 refine⟨(s.heap.push { cls:=.type "range",data:=.fields #[.int lo t,.int hi u,.int 1 v] }).objs.size,[(s.heap.push { cls:=.type "range",data:=.fields #[.int lo t,.int hi u,.int 1 v] }).objs.size],_,_,H,rfl,
  I1.kept (t':=tk) λb o e=>Heap.get?_push_of_some _ e,Cw _ lo (hi-lo).toNat,?_,λb hb=>?_,q⟩
 ·have e1:lo+((0:Nat):Int)*1=lo:=by simp
  have e2:(((hi-lo).toNat:Nat):Int)-((0:Nat):Int)=Builtin.Range.rangeSize lo hi 1:=by rw[rangeSize_one];split<;>omega
  show IsRangeIter _ _ (lo+((0:Nat):Int)*1) ((((hi-lo).toNat:Nat):Int)-((0:Nat):Int)) 1;rw[e1,e2];exact Heap.get?_push_size _ rfl
 ·have e:b=(s.heap.push { cls:=.type "range",data:=.fields #[.int lo t,.int hi u,.int 1 v] }).objs.size:=by simpa using hb
  subst e;exact I1.fpOk (QD _) (I1.hok.fresh (QD _))
def J0(ta:TA):TI:=λσ H R=>ta σ H λvs H1=>∃j:Int,vs=[.int j] /\ -(2^62)<=j/\j<2^62/\R (Itr 0 j.toNat) H1
def JZ(ta:TA):TI:=λσ H R=>ta σ H λvs H1=>∃i j:Int,vs=[.int i,.int j]/\(-(2^62)<=i/\i<2^62 /\ -(2^62)<=j/\j<2^62)/\R (Itr i (j-i).toNat) H1
theorem ii{a:Expr}{ta:TA}{p pos:Pos}(hg:Gl X "range")(hm:X.mg "range"=none)(ha:PA X [a] ta)(hs:starEach [a] X.env=[(false,eval a X.env)]:=by rfl):PI X tg (.Call (.Name "range" p) [a] [] pos) (J0 ta):=by
 intro pins s σ H R I h;refine Call_ (gH I hg hm boot_range (PyProof.Rows.callWith_type1 (thn (ha pos pins s σ H _ I h) λus s1 ⟨vs,H1,I1,r1,q1⟩=>?_) hs rfl));obtain⟨j,e,q1,q2,q⟩:=q1;subst e;cases r1 with
 |cons r rr =>cases rr;obtain⟨t,rfl⟩:=r;exact call_range_1 (yv I1 (by omega) (by omega) q1 q2 (by simpa using q))
theorem Fe{a b:Expr}{ta:TA}{p pos:Pos}(hg:Gl X "range")(hm:X.mg "range"=none)(ha:PA X [a,b] ta)(hs:starEach [a,b] X.env=[(false,eval a X.env),(false,eval b X.env)]:=by rfl)(hs2:starEach [b] X.env=[(false,eval b X.env)]:=by rfl) :
 PI X tg (.Call (.Name "range" p) [a,b] [] pos) (JZ ta):=by
 intro pins s σ H R I h;refine Call_ (gH I hg hm boot_range (PyProof.Rows.callWith_type1 (thn (ha pos pins s σ H _ I h) λus s1 ⟨vs,H1,I1,r1,q1⟩=>?_) (by rw[hs,hs2]) (by rw[hs2];rfl)));obtain⟨i,j,e,⟨q1,q2,q3,q4⟩,q⟩:=q1;subst e;cases r1 with
 |cons r rr =>
  cases rr with
  |cons r' rr =>cases rr;obtain⟨t,rfl⟩:=r;obtain⟨t',rfl⟩:=r';exact call_range_2 (yv I1 q1 q2 q3 q4 q)
def CZ(wi:TI)(g:TG)(tb:TS):TS:=λD σ H=>wi σ H λJ H1=>∃W:Nat->Nat->St->Hp->Prop,(∃m,W 0 m σ H1)/\∀i m σ H,W i m σ H ->
 (J.stop i H/\D.nx σ H)\/(J.go i H/\∃N:St->Hp->Prop,(∀σ' H',N σ' H'->∃m',m'<m/\W (i+1) m' σ' H')/\∀x H',J.yld i H x H'->g x σ H' λσ2 H2=>tb { D with nx:=N,ct:=N,bk:=D.nx } σ2 H2)
noncomputable def oe(fp:List Addr)(h:Heap):List (Addr×Obj):=fp.filterMap λb=>(h.get? b).map λo=>(b,o)
theorem ow{fp:List Addr}{h:Heap}{b:Addr}{o:Obj}(hb:b∈fp)(e:h.get? b=some o):(b,o)∈oe fp h:=List.mem_filterMap.mpr ⟨b,hb,by rw[e];rfl⟩
theorem G7{fp:List Addr}{h:Heap}{p:Addr×Obj}(hp:p∈oe fp h):p.1∈fp/\h.get? p.1=some p.2:=by
 obtain⟨b,hb,e⟩:=List.mem_filterMap.mp hp;cases q:h.get? b with
 |none=>rw[q]at e;cases e
 |some o =>rw[q]at e;have e':(b,o)=p:=Option.some.inj e;subst e';exact⟨hb,q⟩
theorem Inv.pinned{pins:List (Addr×Obj)}{σ:St}{H:Hp}{s:Shared}{fp:List Addr}(I:Inv X pins σ H s)(hf:∀b∈fp,gj X pins H b)(ho:∀b∈fp,∃o,s.heap.get? b=some o/\∀v,o.data≠.cell v):Inv X (pins++oe fp s.heap) σ H s :=
 I.pins_of λp hp=>(QS.mp hp).elim (λz=>I.pin p (Rm _ z)) λz=>by obtain⟨hb,e⟩:=G7 z;obtain⟨f0,f1,f2,_⟩:=hf p.1 hb;obtain⟨o,e',d⟩:=ho p.1 hb;rw[e]at e';cases e';exact⟨e,f0,f1,f2,d⟩
theorem Inv.unpinned{pins pl:List (Addr×Obj)}{σ:St}{H:Hp}{s:Shared}(I:Inv X (pins++pl) σ H s):Inv X pins σ H s:=I.pins_of λp hp=>I.pin p (Rm _ (RU _ hp))
theorem c8{iter:Expr}{body:List Stmt}{wi:TI}{g:TG}{tb:TS}{pos:Pos}(hp:PassesOwn (model X.prog X.w) X.A X.env X.xe)(hc:X.calm=true)(hi:PI X tg iter wi)(hg:PG X tg g)(hb:PSs X body tb)
 (hs:∀x,foldedSetIterable iter X.env x=pure x:=by intro _;rfl):PS X (.For tg iter body [] pos) (CZ wi g tb):=by
 intro pins s σ H D I h;refine wpAny_For (thn (hi pins s σ H _ I h) λv s1 h1=>thn h1 λitv s2 h2=>?_) hs;obtain⟨it,fp,tn,J,H2,e,I2,T,st2,f2,W,⟨m0,w0⟩,turn⟩:=h2;subst e;have stat:∀{H':Hp},(∀b∈fp,H' b=none)->∀b∈fp,gj X pins H' b:=λhn b hb=>⟨hn b hb,(f2 b hb).2⟩
 refine codeAny_forLoop_any (λn s'=>∃i σ' H',Inv X pins σ' H' s'/\tn i s'.heap/\(∀b∈fp,H' b=none)/\W i n σ' H') ?_ m0 ⟨0,σ,H2,I2,st2,λb hb=>(f2 b hb).1,w0⟩;rintro n s3 ⟨i,σ3,H3,I3,st3,fr3,w3⟩;rcases turn i n σ3 H3 w3 with⟨stop,qn⟩ |⟨go,N,hN,step⟩
 ·refine wpAny_passesOwn hp (thn (T.done X rfl rfl rfl hc i pins s3 σ3 H3 X.xe I3 (stat fr3) st3 stop) λr s4 ⟨hr,I4⟩=>?_);subst hr;exact wpAny_execs_nil ⟨σ3,H3,I4,qn⟩
 ·refine wpAny_passesOwn hp (thn (T.item X rfl rfl rfl hc i pins s3 σ3 H3 X.xe I3 (stat fr3) st3 go) λr s4 ⟨u,hr,h4⟩=>?_);subst hr;refine wpAny_passesOwn hp (thn h4 λ_ s5 ⟨x,H5,I5,r5,y5,st5,fr5⟩=>?_);have I5':=I5.pinned (stat fr5) (T.obj _ _ st5);refine wpAny_passesOwn hp (thn (hg _ s5 σ3 H5 x u _ I5' r5 (step x H5 y5)) λ_ s6 ⟨σ6,H6,I6,q6⟩=>?_);refine wpAny_passesOwn hp (thn (hb _ s6 σ6 H6 _ I6 q6) λf s7 q7=>?_)
  have again:∀{σ7:St} {H7:Hp},Inv X (pins++oe fp s5.heap) σ7 H7 s7->N σ7 H7->∃m,m<n/\∃i σ' H',Inv X pins σ' H' s7/\tn i s7.heap/\(∀b∈fp,H' b=none)/\W i m σ' H':=λ{σ7 H7} I7 n7=>by obtain⟨m',hm,w7⟩:=hN σ7 H7 n7;refine⟨m',hm,i+1,σ7,H7,I7.unpinned,T.keep _ _ _ st5 λb hb o e=>(I7.pin (b,o) (Rm _ (Rm _ (ow hb e)))).1,λb hb=>?_,w7⟩;obtain⟨o,e,d⟩:=T.obj _ _ st5 b hb;exact(I7.pin (b,o) (Rm _ (Rm _ (ow hb e)))).2.1
  cases f with
  |next=>obtain⟨σ7,H7,I7,n7⟩:=q7;exact again I7 n7
  |cont=>obtain⟨σ7,H7,I7,n7⟩:=q7;exact again I7 n7
  |brk=>obtain⟨σ7,H7,I7,q7⟩:=q7;exact⟨σ7,H7,I7.unpinned,q7⟩
  |ret v=>obtain⟨x7,σ7,H7,I7,r7,q7⟩:=q7;exact⟨x7,σ7,H7,I7.unpinned,r7,q7⟩
end
theorem oO{K:PySem.W.Frag}{a:Addr}{xs:List V}{g:TG}{tb:TS}{D:Ends}{σ:St}{H:Hp}(Pv:Nat->St->Hp->Prop)(h0:Pv 0 σ H)(hl:∀i σ H,i<=xs.length->Pv i σ H->SqL K H a xs)
 (hs:∀i x σ H,xs[i]?=some x->Pv i σ H->g x σ H λσ2 H2=>tb { D with nx:=Pv (i+1),ct:=Pv (i+1),bk:=D.nx } σ2 H2) (hd:∀σ H,Pv xs.length σ H->D.nx σ H) :
 ∃W:Nat->Nat->St->Hp->Prop,(∃m,W 0 m σ H)/\∀i m σ H,W i m σ H ->
  ((Itl K a).stop i H/\D.nx σ H)\/((Itl K a).go i H/\∃N:St->Hp->Prop,(∀σ' H',N σ' H'->∃m',m'<m/\W (i+1) m' σ' H')/\∀x H',(Itl K a).yld i H x H'->g x σ H' λσ2 H2=>tb { D with nx:=N,ct:=N,bk:=D.nx } σ2 H2):=by
 refine⟨λi m σ H=>m=xs.length-i/\i<=xs.length/\Pv i σ H,⟨xs.length,by simp,QH _,h0⟩,?_⟩;rintro i m σ H ⟨rfl,hi,p⟩;have q:=hl i σ H hi p;by_cases hlt:i<xs.length
 ·refine .inr ⟨⟨xs,xs[i],q,by simp[hlt]⟩,Pv (i+1),λσ' H' p'=>⟨xs.length-(i+1),by omega,rfl,hlt,p'⟩,λx H' y=>?_⟩;obtain⟨e,y⟩:=y;subst e;exact hs i x σ _ (y xs q) p
 ·have e:i=xs.length:=by omega
  subst e;exact .inl ⟨⟨xs,q,QD _⟩,hd σ H p⟩
theorem Ko{K:PySem.W.Frag}{a:Addr}{xs:List V}{g:TG}{tb:TS}{D:Ends}{σ:St}{H:Hp}(Pv:Nat->St->Hp->Prop)(h0:Pv 0 σ H)(hl:∀i σ H,i<=xs.length->Pv i σ H->SqT K H a xs)
 (hs:∀i x σ H,xs[i]?=some x->Pv i σ H->g x σ H λσ2 H2=>tb { D with nx:=Pv (i+1),ct:=Pv (i+1),bk:=D.nx } σ2 H2) (hd:∀σ H,Pv xs.length σ H->D.nx σ H) :
 ∃W:Nat->Nat->St->Hp->Prop,(∃m,W 0 m σ H)/\∀i m σ H,W i m σ H ->
  ((Itt K a).stop i H/\D.nx σ H)\/((Itt K a).go i H/\∃N:St->Hp->Prop,(∀σ' H',N σ' H'->∃m',m'<m/\W (i+1) m' σ' H')/\∀x H',(Itt K a).yld i H x H'->g x σ H' λσ2 H2=>tb { D with nx:=N,ct:=N,bk:=D.nx } σ2 H2):=by
 refine⟨λi m σ H=>m=xs.length-i/\i<=xs.length/\Pv i σ H,⟨xs.length,by simp,QH _,h0⟩,?_⟩;rintro i m σ H ⟨rfl,hi,p⟩;have q:=hl i σ H hi p;by_cases hlt:i<xs.length
 ·refine .inr ⟨⟨xs,xs[i],q,by simp[hlt]⟩,Pv (i+1),λσ' H' p'=>⟨xs.length-(i+1),by omega,rfl,hlt,p'⟩,λx H' y=>?_⟩;obtain⟨e,y⟩:=y;subst e;exact hs i x σ _ (y xs q) p
 ·have e:i=xs.length:=by omega
  subst e;exact .inl ⟨⟨xs,q,QD _⟩,hd σ H p⟩
theorem kg{lo:Int}{n:Nat}{g:TG}{tb:TS}{D:Ends}{σ:St}{H:Hp}(Pv:Nat->St->Hp->Prop)(h0:Pv 0 σ H)
 (hs:∀i σ H,i<n->Pv i σ H->g (.int (lo+i)) σ H λσ2 H2=>tb { D with nx:=Pv (i+1),ct:=Pv (i+1),bk:=D.nx } σ2 H2) (hd:∀σ H,Pv n σ H->D.nx σ H) :
 ∃W:Nat->Nat->St->Hp->Prop,(∃m,W 0 m σ H)/\∀i m σ H,W i m σ H ->
  ((Itr lo n).stop i H/\D.nx σ H)\/((Itr lo n).go i H/\∃N:St->Hp->Prop,(∀σ' H',N σ' H'->∃m',m'<m/\W (i+1) m' σ' H')/\∀x H',(Itr lo n).yld i H x H'->g x σ H' λσ2 H2=>tb { D with nx:=N,ct:=N,bk:=D.nx } σ2 H2):=by
 refine⟨λi m σ H=>m=n-i/\i<=n/\Pv i σ H,⟨n,by simp,QH _,h0⟩,?_⟩;rintro i m σ H ⟨rfl,hi,p⟩;by_cases hlt:i<n
 ·refine .inr ⟨hlt,Pv (i+1),λσ' H' p'=>⟨n-(i+1),by omega,rfl,hlt,p'⟩,λx H' y=>?_⟩;obtain⟨e,y⟩:=y;subst e y;exact hs i σ _ hlt p
 ·have e:i=n:=by omega
  subst e;exact .inl ⟨QD _,hd σ H p⟩
abbrev R2:=V->V->Hp->VK->Prop
noncomputable def OpR(X:Cx)(f:Value->Value->Sem Value)(r:R2):Prop :=
 ∀(pins:List (Addr×Obj)) (s:Shared) (σ:St) (H:Hp) (x y:V) (v u:Value) (Q:VK),Inv X pins σ H s->RelV x v->RelV y u->r x y H Q ->
  wpAny (model X.prog X.w) X.A (f v u) (EP X pins σ Q) X.xe s
noncomputable def UnR(X:Cx)(f:Value->Sem Value)(r:V->Hp->VK->Prop):Prop :=
 ∀(pins:List (Addr×Obj)) (s:Shared) (σ:St) (H:Hp) (x:V) (v:Value) (Q:VK),Inv X pins σ H s->RelV x v->r x H Q ->
  wpAny (model X.prog X.w) X.A (f v) (EP X pins σ Q) X.xe s
noncomputable def CallR(X:Cx)(f:Value)(r:List V->Hp->VK->Prop):Prop :=
 ∀(pins:List (Addr×Obj)) (s:Shared) (σ:St) (H:Hp) (xs:List V) (us:List Value) (Q:VK),Inv X pins σ H s->Vals xs us->r xs H Q ->
  wpAny (model X.prog X.w) X.A (call f us) (EP X pins σ Q) X.xe s
noncomputable def MI(X:Cx)(r:V->Hp->(Bool->Hp->Prop)->Prop):Prop :=
 ∀(pins:List (Addr×Obj)) (s:Shared) (σ:St) (H:Hp) (x:V) (v:Value) (Q:Bool->Hp->Prop),Inv X pins σ H s->RelV x v->r x H Q ->
  wpAny (model X.prog X.w) X.A (truthy v) (TP X pins σ Q) X.xe s
def tOp(r:R2)(ta tb:TE):TE:=λσ H Q=>ta σ H λx H1=>tb σ H1 λy H2=>r x y H2 Q
def tUn(r:V->Hp->VK->Prop)(ta:TE):TE:=λσ H Q=>ta σ H λx H1=>r x H1 Q
def rI(C:Int->Int->Prop)(g:Int->Int->V):R2:=λx y H Q=>∃i j,x=.int i/\y=.int j/\C i j/\Q (g i j) H
def rI0(g:Int->Int->V):R2:=λx y H Q=>∃i j,x=.int i/\y=.int j/\Q (g i j) H
noncomputable def rU(g:Int->V):V->Hp->VK->Prop:=λx H Q=>∃i,x=.int i/\Q (g i) H
section
variable {X:Cx}{a b c:Expr}{ta tb tc:TE}{pos:Pos}
theorem uX(ha:PE X a ta)(hb:PE X b tb){pins:List (Addr×Obj)}{s:Shared}{σ:St}{H:Hp}{R:V->V->Hp->Prop}(I:Inv X pins σ H s)
 (h:ta σ H λx H1=>tb σ H1 λy H2=>R x y H2) {Q:Value->Shared->Prop} {f:Value->Value->Sem Value}
 (hf:∀v u s2 x y H2,Inv X pins σ H2 s2->RelV x v->RelV y u->R x y H2->wpAny (model X.prog X.w) X.A (f v u) Q X.xe s2) :
 wpAny (model X.prog X.w) X.A (eval a X.env) (λv s₁=>wpAny (model X.prog X.w) X.A (eval b X.env) (λu s₂=>wpAny (model X.prog X.w) X.A (f v u) Q X.xe s₂) X.xe s₁) X.xe s:=by
 refine thn (ha pins s σ H _ I h) λv s1 ⟨x,H1,I1,r1,q1⟩=>?_
 refine thn (hb pins s1 σ H1 _ I1 q1) λu s2 ⟨y,H2,I2,r2,q2⟩=>?_
 exact hf v u s2 x y H2 I2 r1 r2 q2
theorem ai{op:Operator}{r:R2}(ho:OpR X (binaryOp op) r)(ha:PE X a ta)(hb:PE X b tb):PE X (.BinOp a op b pos) (tOp r ta tb):=by intro pins s σ H Q I h;exact wpAny_BinOp (uX ha hb I h λv u s2 x y H2 I2 rx ry q=>ho pins s2 σ H2 x y v u Q I2 rx ry q)
theorem bH{op:UnaryOp}{r:V->Hp->VK->Prop}(ho:UnR X (unaryOp op) r)(ha:PE X a ta):PE X (.UnaryOp op a pos) (tUn r ta):=by intro pins s σ H Q I h;exact UnaryOp_ (thn (ha pins s σ H _ I h) λv s1 ⟨x,H1,I1,r1,q1⟩=>ho pins s1 σ H1 x v Q I1 r1 q1)
theorem opI{f:Value->Value->Sem Value}{C:Int->Int->Prop}{g:Int->Int->Int}
 (rule:∀(i j:Int) (t u:Tok) (s:Shared) (Q:Value->Shared->Prop) (E:Value->Shared->Prop),C i j->Q (.int (g i j) s.toks) { s with toks:=s.toks+1 }->wpAny (model X.prog X.w) X.A (f (.int i t) (.int j u)) Q E s) :
 OpR X f (rI C λi j=>.int (g i j)):=by
 intro pins s σ H x y v u Q I rx ry h;obtain⟨i,j,rfl,rfl,hc,q⟩:=h;obtain⟨t,rfl⟩:=rx;obtain⟨t',rfl⟩:=ry;exact rule i j t t' s _ _ hc ⟨.int (g i j),H,I.tok _,⟨_,rfl⟩,q⟩
theorem yY{f:Value->Value->Sem Value}{g:Int->Int->Int}
 (rule:∀(i j:Int) (t u:Tok) (s:Shared) (Q:Value->Shared->Prop) (E:Value->Shared->Prop),Q (.int (g i j) s.toks) { s with toks:=s.toks+1 }->wpAny (model X.prog X.w) X.A (f (.int i t) (.int j u)) Q E s) :
 OpR X f (rI0 λi j=>.int (g i j)):=by
 intro pins s σ H x y v u Q I rx ry h;obtain⟨i,j,rfl,rfl,q⟩:=h;obtain⟨t,rfl⟩:=rx;obtain⟨t',rfl⟩:=ry;exact rule i j t t' s _ _ ⟨.int (g i j),H,I.tok _,⟨_,rfl⟩,q⟩
theorem j1{f:Value->Value->Sem Value}{g:Int->Int->Bool}
 (rule:∀(i j:Int) (t u:Tok) (s:Shared) (Q:Value->Shared->Prop) (E:Value->Shared->Prop),Q (.bool (g i j)) s->wpAny (model X.prog X.w) X.A (f (.int i t) (.int j u)) Q E s) :
 OpR X f (rI0 λi j=>.bl (g i j)):=by
 intro pins s σ H x y v u Q I rx ry h;obtain⟨i,j,rfl,rfl,q⟩:=h;obtain⟨t,rfl⟩:=rx;obtain⟨t',rfl⟩:=ry;exact rule i j t t' s _ _ ⟨.bl (g i j),H,I,rfl,q⟩
def Ox(i j:Int):Prop:=0<=j/\j<=1000000/\i.natAbs<2^64
def CMul(i j:Int):Prop:=(-(2^64)<i/\i<2^64)\/(-(2^64)<j/\j<2^64)
theorem CMul.ok{i j:Int}(h:CMul i j):IntMulOk i j:=by
 rcases h with⟨h1,h2⟩ |⟨h1,h2⟩
 ·exact .of_left (intBits_le_64 h1 h2)
 ·exact .of_right (intBits_le_64 h1 h2)
theorem bQ:OpR X (binaryOp .Add) (rI0 λi j=>.int (i+j)):=yY λ_ _ _ _ _ _ _ q=>add_int q
theorem ca:OpR X (binaryOp .Sub) (rI0 λi j=>.int (i-j)):=yY λ_ _ _ _ _ _ _ q=>sub_int q
theorem Fz:OpR X (binaryOp .Mod) (rI (λ_ j=>0<j) λi j=>.int (i%j)):=opI λi j _ _ _ _ _ hc q=>by have h1:(0:Int)<j:=hc;exact mod_int' (by omega) (by rw[Int.fmod_eq_emod_of_nonneg i (by omega)];exact q)
theorem lI:OpR X (binaryOp .Pow) (rI Ox λi j=>.int (i^j.toNat)):=opI λ_ _ _ _ _ _ _ hc q=>pow_int_small hc.1 hc.2.1 hc.2.2 q
theorem unI{f:Value->Sem Value}{g:Int->Int}
 (rule:∀(i:Int) (t:Tok) (s:Shared) (Q:Value->Shared->Prop) (E:Value->Shared->Prop),Q (.int (g i) s.toks) { s with toks:=s.toks+1 }->wpAny (model X.prog X.w) X.A (f (.int i t)) Q E s) :
 UnR X f (rU λi=>.int (g i)):=by
 intro pins s σ H x v Q I rx h;obtain⟨i,rfl,q⟩:=h;obtain⟨t,rfl⟩:=rx;exact rule i t s _ _ ⟨.int (g i),H,I.tok _,⟨_,rfl⟩,q⟩
theorem bF:UnR X (unaryOp .USub) (rU λi=>.int (-i)):=unI λ_ _ _ _ _ q=>neg_int q
end
noncomputable def ye:V->V->Bool
 |.non,.non=>true |.non,.int _=>true |.int _,.non=>true |.non,.bl _=>true |.bl _,.non=>true |.non,.str _=>true |.str _,.non=>true
 |.int _,.int _=>true |.bl _,.bl _=>true |.str _,.str _=>true |.byt _,.byt _=>true
 |.int _,.str _=>true |.str _,.int _=>true |.bl _,.str _=>true |.str _,.bl _=>true
 |_,_=>false
def rEq:R2:=λx y H Q=>ye x y=true/\Q (.bl (decide (x=y))) H
def rNe:R2:=λx y H Q=>ye x y=true/\Q (.bl (!decide (x=y))) H
theorem Be{i j:Int}:decide (V.int i=V.int j)=(i == j):=by rw[SN];simp
theorem Bg{i j:Bool}:decide (V.bl i=V.bl j)=(i == j):=by rw[SN];simp
theorem Bc{i j:Str}:decide (V.str i=V.str j)=(i == j):=by rw[SN];simp
theorem Bf{i j:Array UInt8}:decide (V.byt i=V.byt j)=(i.toList == j.toList):=by rw[SN];cases i;cases j;simp
section
variable {X:Cx}{a b c:Expr}{ta tb tc:TE}{pos:Pos}
theorem b7{pins:List (Addr×Obj)}{σ:St}{H:Hp}{s:Shared}{Q:VK}{k k':Bool}(I:Inv X pins σ H s)(q:Q (.bl k) H)(e:k=k'):EP X pins σ Q (.bool k') s:=by subst e;exact⟨.bl k,H,I,rfl,q⟩
theorem yX:OpR X (compareOp .Eq) rEq:=by
 intro pins s σ H x y v u Q I rx ry h;obtain⟨hs,q⟩:=h;cases x with
 |non =>
  cases rx;cases y with
  |non=>cases ry;exact PySem.EqNone.eq_none_none (b7 I q (by simp))
  |bl j=>cases ry;exact PySem.EqNone.eq_none_bool (b7 I q (by simp))
  |int j=>obtain⟨t',rfl⟩:=ry;exact PySem.EqNone.eq_none_int (b7 I q (by simp))
  |str j=>obtain⟨t',rfl⟩:=ry;exact PySem.EqNone.eq_none_str (b7 I q (by simp))
  |_=>exact absurd (show false=true from hs) Rh
 |bl i =>
  cases rx;cases y with
  |non=>cases ry;exact PySem.EqNone.eq_bool_none (b7 I q (by simp))
  |bl j=>cases ry;exact eq_bool (b7 I q Bg)
  |str j=>obtain⟨t',rfl⟩:=ry;exact PySem.EqMixed.eq_bool_str (b7 I q (by simp))
  |_=>exact absurd (show false=true from hs) Rh
 |int i =>
  obtain⟨t,rfl⟩:=rx;cases y with
  |non=>cases ry;exact PySem.EqNone.eq_int_none (b7 I q (by simp))
  |int j=>obtain⟨t',rfl⟩:=ry;exact eq_int (b7 I q Be)
  |str j=>obtain⟨t',rfl⟩:=ry;exact PySem.EqMixed.eq_int_str (b7 I q (by simp))
  |_=>exact absurd (show false=true from hs) Rh
 |str i =>
  obtain⟨t,rfl⟩:=rx;cases y with
  |non=>cases ry;exact PySem.EqNone.eq_str_none (b7 I q (by simp))
  |bl j=>cases ry;exact PySem.EqMixed.eq_str_bool (b7 I q (by simp))
  |int j=>obtain⟨t',rfl⟩:=ry;exact PySem.EqMixed.eq_str_int (b7 I q (by simp))
  |str j=>obtain⟨t',rfl⟩:=ry;exact eq_str (b7 I q Bc)
  |_=>exact absurd (show false=true from hs) Rh
 |byt i =>
  obtain⟨t,rfl⟩:=rx;cases y with
  |byt j=>obtain⟨t',rfl⟩:=ry;exact PySem.W.eq_bytes (b7 I q Bf)
  |_=>exact absurd (show false=true from hs) Rh
 |_=>cases y<;>exact absurd (show false=true from hs) Rh
theorem Fy:OpR X (compareOp .NotEq) rNe:=by
 intro pins s σ H x y v u Q I rx ry h;obtain⟨hs,q⟩:=h;cases x with
 |non =>
  cases rx;cases y with
  |non=>cases ry;exact PySem.EqNone.ne_none_none (b7 I q (by simp))
  |bl j=>cases ry;exact PySem.EqNone.ne_none_bool (b7 I q (by simp))
  |int j=>obtain⟨t',rfl⟩:=ry;exact PySem.EqNone.ne_none_int (b7 I q (by simp))
  |str j=>obtain⟨t',rfl⟩:=ry;exact PySem.EqNone.ne_none_str (b7 I q (by simp))
  |_=>exact absurd (show false=true from hs) Rh
 |bl i =>
  cases rx;cases y with
  |non=>cases ry;exact PySem.EqNone.ne_bool_none (b7 I q (by simp))
  |bl j=>cases ry;exact ne_bool (b7 I q (congrArg not Bg))
  |str j=>obtain⟨t',rfl⟩:=ry;exact PySem.EqMixed.ne_bool_str (b7 I q (by simp))
  |_=>exact absurd (show false=true from hs) Rh
 |int i =>
  obtain⟨t,rfl⟩:=rx;cases y with
  |non=>cases ry;exact PySem.EqNone.ne_int_none (b7 I q (by simp))
  |int j=>obtain⟨t',rfl⟩:=ry;exact ne_int (b7 I q (congrArg not Be))
  |str j=>obtain⟨t',rfl⟩:=ry;exact PySem.EqMixed.ne_int_str (b7 I q (by simp))
  |_=>exact absurd (show false=true from hs) Rh
 |str i =>
  obtain⟨t,rfl⟩:=rx;cases y with
  |non=>cases ry;exact PySem.EqNone.ne_str_none (b7 I q (by simp))
  |bl j=>cases ry;exact PySem.EqMixed.ne_str_bool (b7 I q (by simp))
  |int j=>obtain⟨t',rfl⟩:=ry;exact PySem.EqMixed.ne_str_int (b7 I q (by simp))
  |str j=>obtain⟨t',rfl⟩:=ry;exact ne_str (b7 I q (congrArg not Bc))
  |_=>exact absurd (show false=true from hs) Rh
 |byt i =>
  obtain⟨t,rfl⟩:=rx;cases y with
  |byt j=>obtain⟨t',rfl⟩:=ry;exact PySem.W.ne_bytes (b7 I q (congrArg not Bf))
  |_=>exact absurd (show false=true from hs) Rh
 |_=>cases y<;>exact absurd (show false=true from hs) Rh
theorem cY:OpR X (compareOp .Lt) (rI0 λi j=>.bl (decide (i<j))):=j1 λ_ _ _ _ _ _ _ q=>lt_int q
theorem oj:OpR X (compareOp .LtE) (rI0 λi j=>.bl (decide (i<=j))):=j1 λ_ _ _ _ _ _ _ q=>le_int q
theorem cQ:OpR X (compareOp .Gt) (rI0 λi j=>.bl (decide (j<i))):=j1 λ_ _ _ _ _ _ _ q=>gt_int q
theorem jY:OpR X (compareOp .GtE) (rI0 λi j=>.bl (decide (j<=i))):=j1 λ_ _ _ _ _ _ _ q=>ge_int q
theorem sM:OpR X (compareOp .Is) (λx y H Q=>y=.non/\Q (.bl (decide (x=.non))) H):=by
 intro pins s σ H x y v u Q I rx ry h;obtain⟨rfl,q⟩:=h;cases ry;refine is_none_gen (b7 I q ?_)
 cases x<;>first
  | (cases rx;rfl)
  | (obtain⟨t,rfl⟩:=rx;rfl)
theorem Fw:OpR X (compareOp .NotIn) (λx y H Q=>∃i j,x=.str i/\y=.str j/\Q (.bl (!(!(Builtin.Str.occurrences j i 0 j.length 1).isEmpty))) H):=by intro pins s σ H x y v u Q I rx ry h;obtain⟨i,j,rfl,rfl,q⟩:=h;obtain⟨t,rfl⟩:=rx;obtain⟨t',rfl⟩:=ry;exact notIn_str (b7 I q rfl)
theorem OpR.or{f:Value->Value->Sem Value}{r r':R2}(h:OpR X f r)(h':OpR X f r'):OpR X f (λx y H Q=>r x y H Q\/r' x y H Q):=by
 intro pins s σ H x y v u Q I rx ry q;rcases q with q |q
 ·exact h pins s σ H x y v u Q I rx ry q
 ·exact h' pins s σ H x y v u Q I rx ry q
theorem aE(b:Expr){op:CmpOp}(h:op≠.In:=by decide)(h2:op≠.NotIn:=by decide):behindInMarks op b=false:=by
 have e1:(op == CmpOp.In)=false:=by cases op<;>first |rfl |exact absurd rfl h
 have e2:(op == CmpOp.NotIn)=false:=by cases op<;>first |rfl |exact absurd rfl h2
 cases b<;>simp[behindInMarks,e1,e2]
theorem dH{op:CmpOp}{r:R2}(ho:OpR X (compareOp op) r)(ha:PE X a ta)(hb:PE X b tb)(hm:behindInMarks op b=false):PE X (.Compare a [op] [b] pos) (tOp r ta tb):=by intro pins s σ H Q I h;exact wpAny_Compare1 (uX ha hb I h λv u s2 x y H2 I2 rx ry q=>ho pins s2 σ H2 x y v u Q I2 rx ry q) hm
def CS(t:TE):TT:=λσ H Q=>t σ H λx H'=>∃k,x=.bl k/\Q k H'
theorem aG{op:CmpOp}{r:R2}(ho:OpR X (compareOp op) r)(ha:PE X a ta)(hb:PE X b tb)(hm:behindInMarks op b=false):PT X (.Compare a [op] [b] pos) (CS (tOp r ta tb)):=by
 intro pins s σ H Q I h
 refine wpAny_isTrue_Compare1 (thn (ha pins s σ H _ I h) λv s1 ⟨x,H1,I1,r1,q1⟩=>thn (hb pins s1 σ H1 _ I1 q1) λu s2 ⟨y,H2,I2,r2,q2⟩ =>thn (ho pins s2 σ H2 x y v u _ I2 r1 r2 q2) λc s3 ⟨z,H3,I3,r3,k,e,q3⟩=>?_) hm
 subst e;cases r3;exact wpAny_truthy_bool ⟨H3,I3,q3⟩
noncomputable def B4(K:PySem.W.Frag)(x:V)(H:Hp)(k:Bool):Prop :=
 match x with
 |.non=>k=false
 |.bl b=>k=b
 |.int i=>k=(i != 0)
 |.str y=>y.length<=sizeLine/\k=((y.length:Int) != 0)
 |.byt y=>y.size<=sizeLine/\k=((y.size:Int) != 0)
 |.ref p=>(∃xs,SqL K H p xs/\k=!xs.isEmpty)\/(∃xs,SqT K H p xs/\k=!xs.isEmpty)\/∃kvs,H p=some (.dK kvs)/\k=!kvs.isEmpty
 |_=>False
theorem JS{κ:Type}{kvs:List (κ×V)}{vs:List (κ×Value)}(r:KV kvs vs):(!vs.isEmpty)=!kvs.isEmpty:=by cases r<;>rfl
theorem Ad{xs:List V}{its:List Value}(r:Vals xs its):(!its.toArray.isEmpty)=!xs.isEmpty:=by cases r<;>simp
theorem jd:(sizeLine:Nat)<2^63:=by rw[sizeLine_eq];decide
theorem CA:MI X (λx H Q=>∃k,B4 X.K x H k/\Q k H):=by
 intro pins s σ H x v Q I rx h;obtain⟨k,e,q⟩:=h;have hl:=jd;have hs:sizeLine=16777216:=sizeLine_eq;cases x with
 |non =>cases rx;have e':k=false:=e;subst e';exact truthy_none ⟨H,I,q⟩
 |bl b =>cases rx;have e':k=b:=e;subst e';exact wpAny_truthy_bool ⟨H,I,q⟩
 |int i =>obtain⟨t,rfl⟩:=rx;have e':k=(i != 0):=e;subst e';exact PySem.P.truthy_int ⟨H,I,q⟩
 |str y =>obtain⟨t,rfl⟩:=rx;obtain⟨hy,e'⟩:y.length<=sizeLine/\k=((y.length:Int) != 0):=e;subst e';exact PySem.P.truthy_str (by omega) ⟨H,I.tok _,q⟩
 |byt y =>obtain⟨t,rfl⟩:=rx;obtain⟨hy,e'⟩:y.size<=sizeLine/\k=((y.size:Int) != 0):=e;subst e';exact PySem.W.truthy_bytes (by omega) ⟨H,I.tok _,q⟩
 |ref p =>
  cases rx;have e':(∃xs,SqL X.K H p xs/\k=!xs.isEmpty)\/(∃xs,SqT X.K H p xs/\k=!xs.isEmpty)\/∃kvs,H p=some (.dK kvs)/\k=!kvs.isEmpty:=e;rcases e' with⟨xs,hx,e'⟩ |⟨xs,hx,e'⟩ |⟨kvs,hx,e'⟩
  ·subst e';obtain⟨its,r,pl,hz⟩:=I.list hx;have hlen:=r.length;exact wpAny_truthy_list pl.isList (by simp only[Ra];omega) ⟨H,I.tok _,by rw[Ad r];exact q⟩
  ·subst e';obtain⟨its,r,pl,hz⟩:=I.tuple hx;have hlen:=r.length;exact truthy_tuple pl (by simp only[Ra];omega) ⟨H,I.tok _,by rw[Ad r];exact q⟩
  ·subst e';obtain⟨hz,hS,vs,r,m⟩:kvs.length<=sizeLine/\(p == sysModules)=false/\∃vs,KV kvs vs/\s.heap.DictOf (tj X.prog X.w) p vs:=I.hok p _ hx;have hlen:kvs.length=vs.length:=Paired.length r;exact wpAny_truthy_dict hS m (by omega) ⟨H,I.tok _,by rw[JS r];exact q⟩
 |_=>exact(show False from e).elim
theorem EV(ha:PE X a ta)(he:∀whole,isTrue a X.env whole=(do let v <- whole;standAt a.pos;holding [v] (truthy v))) :
 PT X a (λσ H Q=>ta σ H λx H'=>∃k,B4 X.K x H' k/\Q k H'):=by
 intro pins s σ H Q I h;exact isTrue_plain (thn (ha pins s σ H _ I h) λv s1 ⟨x,H1,I1,r1,q1⟩=>CA pins s1 σ H1 x v Q I1 r1 q1) (he _)
theorem lK:OpR X (binaryOp .Add) (λx y H Q=>∃i j,x=.str i/\y=.str j/\i.length+j.length<=sizeLine/\Q (.str (i++j)) H):=by intro pins s σ H x y v u Q I rx ry h;obtain⟨i,j,rfl,rfl,hz,q⟩:=h;obtain⟨t,rfl⟩:=rx;obtain⟨t',rfl⟩:=ry;exact add_str (λt' tk=>⟨.str (i++j),H,I.tok _,⟨_,rfl⟩,q⟩) hz
theorem fm{x:V}{us:List Value}(r:Vals [x] us):∃u,us=[u]/\RelV x u:=by
 cases r with
 |cons r1 r2=>cases r2;exact⟨_,rfl,r1⟩
theorem Ck{x y:V}{us:List Value}(r:Vals [x,y] us):∃u w',us=[u,w']/\RelV x u/\RelV y w':=by
 cases r with
 |cons r1 r2 =>
  cases r2 with
  |cons r3 r4=>cases r4;exact⟨_,_,rfl,r1,r3⟩
theorem gf:CallR X (.builtin "abs") (λxs H Q=>∃i,xs=[.int i]/\Q (.int (if i<0 then -i else i)) H):=by intro pins s σ H xs us Q I r h;obtain⟨i,rfl,q⟩:=h;obtain⟨u,rfl,t,rfl⟩:=fm r;exact call_abs_int λu tk=>⟨.int (if i<0 then -i else i),H,I.tok _,⟨_,rfl⟩,q⟩
theorem BI(hc:X.calm=true):CallR X (.builtin "max") (λxs H Q=>∃i j,xs=[.int i,.int j]/\Q (.int (if j>i then j else i)) H):=by
 intro pins s σ H xs us Q I r h;obtain⟨i,j,rfl,q⟩:=h;obtain⟨u,w',rfl,⟨t,rfl⟩,⟨t',rfl⟩⟩:=Ck r;refine max_two_ints (I.ok.hd hc) λh' tk k=>⟨_,H,I.kept k,?_,q⟩
 by_cases hj:j>i
 ·rw[if_pos hj,if_pos hj];exact⟨_,rfl⟩
 ·rw[if_neg hj,if_neg hj];exact⟨_,rfl⟩
theorem mM:CallR X (.type "int") (λxs H Q=>(∃i,xs=[.int i]/\Q (.int i) H)\/∃k,xs=[.bl k]/\Q (.int (if k then 1 else 0)) H):=by
 intro pins s σ H xs us Q I r h;rcases h with⟨i,rfl,q⟩ |⟨k,rfl,q⟩
 ·obtain⟨u,rfl,t,rfl⟩:=fm r;exact call_int_int ⟨.int i,H,I,⟨_,rfl⟩,q⟩
 ·obtain⟨u,rfl,r1⟩:=fm r;cases r1;exact call_int_bool ⟨.int (if k then 1 else 0),H,I.tok _,⟨_,rfl⟩,q⟩
theorem BH:CallR X (.type "str") (λxs H Q=>∃i,xs=[.int i]/\i.natAbs.log2<1920/\Q (.str (toString i)) H):=by intro pins s σ H xs us Q I r h;obtain⟨i,rfl,hz,q⟩:=h;obtain⟨u,rfl,t,rfl⟩:=fm r;exact PySem.P.str_of_int hz ⟨.str _,H,I.tok _,⟨_,rfl⟩,q⟩
end
structure ObjM(h:Heap)(x dx C:Addr)(mA:Str->Option Value):Prop where
 obj:h.get? x=some (PySem.W.instObj C dx)
 ns:h.Ns1 dx mA
 ne:dx≠x
theorem IG{h:Heap}{dx:Addr}{mA:Str->Option Value}(n:h.Ns1 dx mA):∃od,h.get? dx=some od/\∀name,PySem.W.lookIn name od=some (mA name):=by
 obtain⟨o,es,ep,ho,hd,hk,_,hm⟩:=n;refine⟨o,ho,λname=>?_⟩;have e:=hm name;unfold nsFind findBy at e
 rw[<- Array.find?_toList]at e;unfold PySem.W.lookIn;rw[hd];dsimp only
 split
 ·rename_i y q
  rw[q]at e;exact congrArg some e
 ·rename_i q
  rw[q]at e
  have a:es.toList.any (·.refKey)=false:=by rw[List.any_eq_false];intro y hy;obtain⟨z,t,hkey⟩:=hk y (Array.mem_toList_iff.mp hy);simp[DictEntry.refKey,hkey]
  have a':¬es.toList.any (·.refKey)=true:=by rw[a];exact Rh
  rw[if_neg a'];exact congrArg some e
theorem ObjM.look{h:Heap}{x dx C:Addr}{mA:Str->Option Value}(I:ObjM h x dx C mA):∃od,PySem.W.InstAt h x (PySem.W.instObj C dx) C (some od)/\∀name,PySem.W.lookIn name od=some (mA name) :=
 let⟨od,ho,hl⟩:=IG I.ns
 ⟨od,⟨I.obj,rfl,rfl,ho⟩,hl⟩
section
variable {prog:Program}{w:World}{A:Around}{E:Value->Shared->Prop}{s:Shared}{K:PySem.W.Frag}{x dx C f:Addr}{mA:Str->Option Value}{name:Str}{v:Value}
theorem Kg{expr:Bool}{Q:Value->Shared->Prop}(X:K.In s.heap)(I:ObjM s.heap x dx C mA)(hg:PySem.W.plainGet K C name=true)(hh:PySem.W.hasDictIn K C=true)
 (ha:PySem.W.findIn K (.ref C) name=some none) (hv:mA name=some v) (hv':PySem.W.handedIn v=true) (h:Q v { s with toks:=s.toks+1 }) :
 wpAny (model prog w) A (getAttr (.ref x) name expr) Q E s:=by
 obtain⟨od,J,hl⟩:=I.look;exact PySem.W.get_value X J (PySem.W.plainGet_of hg).1 (PySem.W.findObj_own hh ha rfl (by rw[hl,hv])) hv' h
theorem Kf{pl:Sem Bool}{Q:Value×List Value->Shared->Prop}(X:K.In s.heap)(I:ObjM s.heap x dx C mA)(hg:PySem.W.plainGet K C name=true)
 (hf:PySem.W.findIn K (.ref C) name=some (some (.ref f))) (ht:PySem.W.isFn K (.ref f)=true) (hv:mA name=none) (h:Q (.ref f,[.ref x]) s) :
 wpAny (model prog w) A (getMethod (.ref x) name pl) Q E s:=by
 obtain⟨od,J,hl⟩:=I.look;exact PySem.W.method_fn X J (PySem.W.plainGet_of hg).1 (PySem.W.plainGet_of hg).2 hf (beq_iff_eq.mp ht) (by show(PySem.W.lookIn name od).map (·.isSome)=some false;rw[hl,hv];rfl) h
theorem qg{ns:List Str}{Q:Unit->Shared->Prop}(X:K.In s.heap)(I:ObjM s.heap x dx C mA)
 (hs:PySem.W.findIn K (.ref C) "__setattr__"=some (some (.builtin "object.__setattr__"))) (hp:PySem.W.plainOver K C=true) (ht:PySem.W.takerIn K C name=some none) (hh:PySem.W.hasDictIn K C=true)
 (hw:PySem.Within mA ns) (hsz:ns.length<=sizeLine)
 (h:∀h',ObjM h' x dx C (λy=>if y=name then some v else mA y)->Heap.SameBut dx s.heap h'->Q () { s with heap:=h',toks:=s.toks+2 }) :
 wpAny (model prog w) A (setAttr (.ref x) name v) Q E s:=by
 obtain⟨od,J,hl⟩:=I.look;refine PySem.W.set_plain X J hs (PySem.W.osa_open (s:={ s with toks:=s.toks+1 }) (r:=none) X J hp ht λb=>?_);obtain⟨cd,hc,hd'⟩:=PySem.W.any_some hh;have hx:s.heap.get? x=some ⟨.ref C,some dx,.plain,#[]⟩:=I.obj;refine wpAny_bind (wpAny_pure (wpAny_bind (wpAny_bind (wpAny_loadPart hx (wpAny_bind (PySem.W.Looks.here (s:={ s with toks:=s.toks+1 }) (PySem.W.looks_clsIn X hc) ?_))))));rw[hd'];refine wpAny_pure (a:=some dx) (wpAny_bind (wpAny_pure (wpAny_bind ?_)));refine wpAny_nsSet1 (s:={ s with toks:=s.toks+1 }) I.ns λh' hn2 hs2=>?_
 obtain⟨oD,esD,epD,hoD,hdD,hcD⟩:=hn2.count (PySem.Within.cons name v hw);refine wpAny_bind (wpAny_lookBehind hoD (by rw[hdD];exact pastItsLine_dict (QL hcD (by rw[Rb];omega))) ?_);exact wpAny_pure (h _ ⟨(hs2.2 _ (Ne.symm I.ne)).trans I.obj,hn2,I.ne⟩ hs2)
theorem HC{R:Result->Shared->Prop}{vs:List Value}{kw:List (Str×Value)}(X:K.In s.heap)(hm:PySem.W.makesIn K C=true)
 (hi:PySem.W.findIn K (.ref C) "__init__"=some (some (.ref f))) (hf:PySem.W.typeIn K (.ref f)=some (.type "function"))
 (h:codeAny (model prog w) (A.under (.builtin "type.__call__" ⟨.ref C::vs,kw⟩)) (.call (.ref f) ⟨.ref (s.heap.objs.size+1)::vs,kw⟩) (PySem.W.InitBack (s.heap.objs.size+1) R)
   { s with heap:=(s.heap.push PySem.W.emptyDict).push (PySem.W.instObj C s.heap.objs.size) }) :
 codeAny (model prog w) A (.call (.ref C) ⟨vs,kw⟩) R s:=by
 obtain⟨hh,g,d,t,os⟩:=s;exact PySem.W.make_core (PySem.W.makes_of X hm) (PySem.W.looks_findIn X hi) (λself=>PySem.W.bind_fn X self hf) (.inl rfl) h
end
noncomputable def cV(f:Str)(v:V):List (Str×V)->List (Str×V)
 | []=>[(f,v)]
 | (g,x)::r=>if g=f then(g,v)::r else(g,x)::cV f v r
theorem eG(f g:Str)(v:V):∀fs:List (Str×V),(cV f v fs).lookup g=if g=f then some v else fs.lookup g
 | []=>by
  show List.lookup g [(f,v)]=_;by_cases h:g=f
  ·have hb:(g == f)=true:=beq_iff_eq.mpr h;simp only[List.lookup,hb,if_pos h]
  ·have hb:(g == f)=false:=beq_eq_false_iff_ne.mpr h;simp only[List.lookup,hb,if_neg h]
 | (k,x)::r=>by
  have ih:=eG f g v r;rw[show cV f v ((k,x)::r)=(if k=f then(k,v)::r else(k,x)::cV f v r)from rfl];by_cases hk:k=f
  ·rw[if_pos hk];by_cases h:g=k
   ·have hb:(g == k)=true:=beq_iff_eq.mpr h;simp only[List.lookup,hb,if_pos (h.trans hk)]
   ·have hb:(g == k)=false:=beq_eq_false_iff_ne.mpr h;simp only[List.lookup,hb,if_neg (λe:g=f=>h (e.trans hk.symm))]
  ·rw[if_neg hk];by_cases h:g=k
   ·have hb:(g == k)=true:=beq_iff_eq.mpr h;simp only[List.lookup,hb,if_neg (λe:g=f=>hk (h.symm.trans e))]
   ·have hb:(g == k)=false:=beq_eq_false_iff_ne.mpr h;simp only[List.lookup,hb];exact ih
theorem tN(f:Str)(v:V):∀fs:List (Str×V),f∈(cV f v fs).map (·.1)/\∀g,g∈fs.map (·.1)->g∈(cV f v fs).map (·.1)
 | []=>⟨by simp[cV],λg h=>by simp at h⟩
 | (k,x)::r=>by
  obtain⟨i1,i2⟩:=tN f v r;rw[show cV f v ((k,x)::r)=(if k=f then(k,v)::r else(k,x)::cV f v r)from rfl];by_cases hk:k=f
  ·rw[if_pos hk];subst hk;exact⟨by simp,λg h=>by simpa using h⟩
  ·rw[if_neg hk];refine⟨?_,λg h=>?_⟩
   ·rw[Ri];exact QJ _ i1
   ·rw[Ri]at h ⊢;rcases QK.mp h with e |e
    ·exact QK.mpr (.inl e)
    ·exact QJ _ (i2 g e)
theorem zQ(f:Str)(v:V):∀fs:List (Str×V),(cV f v fs).length<=fs.length+1
 | []=>by simp[cV]
 | (k,x)::r=>by
  have ih:=zQ f v r;rw[show cV f v ((k,x)::r)=(if k=f then(k,v)::r else(k,x)::cV f v r)from rfl];by_cases hk:k=f
  ·rw[if_pos hk,Rb,Rb];omega
  ·rw[if_neg hk,Rb,Rb];omega
theorem RelO.some_of{v:V}{o:Option Value}(r:RelO (some v) o):∃u,o=some u/\RelV v u:=by
 cases o with
 |none=>exact(show False from r).elim
 |some u=>exact⟨u,rfl,r⟩
theorem RelO.none_of{o:Option Value}(r:RelO none o):o=none:=by
 cases o with
 |none=>rfl
 |some u=>exact(show False from r).elim
theorem J7{v:V}{u:Value}(r:RelV v u):PySem.W.handedIn u=true:=by
 cases v with
 |non=>cases(show u=Value.none from r);rfl
 |bl b=>cases(show u=Value.bool b from r);rfl
 |int i=>obtain⟨t,e⟩:=(show ∃t,u=Value.int i t from r);cases e;rfl
 |str x=>obtain⟨t,e⟩:=(show ∃t,u=Value.str x t from r);cases e;rfl
 |byt b=>obtain⟨t,e⟩:=(show ∃t,u=Value.bytes b t from r);cases e;rfl
 |flt b=>obtain⟨t,e⟩:=(show ∃t,u=Value.float b t from r);cases e;rfl
 |ref a=>cases(show u=Value.ref a from r);rfl
 |ty n=>cases(show u=Value.type n from r);rfl
section
variable {P:Program}{w:World}{H H':Hp}{h h':Heap}{a C dx:Addr}{fs fs':List (Str×V)}
theorem oG(hok:HOk P w H h)(e:H a=some (.ins C dx fs)):∃mA,ObjM h a dx C mA/\(∀f,RelO (fs.lookup f) (mA f))/\PySem.Within mA (fs.map (·.1))/\fs.length<=1000/\H dx=some (.own a):=by obtain⟨d,z,ne,ob,mA,n,r,q⟩:=(show ObjOk P w H h a (.ins C dx fs)from hok a _ e);exact⟨mA,⟨ob,n,ne⟩,r,q,z,d⟩
end
structure Cls(K:PySem.W.Frag)(C:Addr):Prop where
 pg:PySem.W.plainGet K C Str.empty=true
 hd:PySem.W.hasDictIn K C=true
 po:PySem.W.plainOver K C=true
 sa:PySem.W.findIn K (.ref C) "__setattr__"=some (some (.builtin "object.__setattr__"))
theorem Cls.get{K:PySem.W.Frag}{C:Addr}(c:Cls K C)(f:Str):PySem.W.plainGet K C f=true:=c.pg
def NoAttr(K:PySem.W.Frag)(C:Addr)(f:Str):Prop:=PySem.W.findIn K (.ref C) f=some none
theorem NoAttr.taker{K:PySem.W.Frag}{C:Addr}{f:Str}(n:NoAttr K C f):PySem.W.takerIn K C f=some none:=by unfold PySem.W.takerIn;rw[show PySem.W.findIn K (.ref C) f=some none from n];rfl
structure Meth(K:PySem.W.Frag)(C:Addr)(m:Str)(f:Addr):Prop where
 at_:PySem.W.findIn K (.ref C) m=some (some (.ref f))
 fn:PySem.W.isFn K (.ref f)=true
 kp:PySem.W.keepIn K (.ref f)=true
section
variable {X:Cx}{pins:List (Addr×Obj)}{σ:St}{H:Hp}{s:Shared}{a C dx:Addr}{fs:List (Str×V)}{f:Str}{v:V}{A:Around}{E:Value->Shared->Prop}
theorem Ke{b:Bool}{Q:Value->Shared->Prop}(I:Inv X pins σ H s)(e:H a=some (.ins C dx fs))(c:Cls X.K C)(n:NoAttr X.K C f)(l:fs.lookup f=some v)
 (h:∀u s',Inv X pins σ H s'->RelV v u->Q u s'):wpAny (model X.prog X.w) A (getAttr (.ref a) f b) Q E s:=by
 obtain⟨mA,O,r,_,_,_⟩:=oG I.hok e;obtain⟨u,hu,ru⟩:=RelO.some_of (v:=v) (o:=mA f) (by rw[<- l];exact r f);exact Kg I.kIn O (c.get f) c.hd n hu (J7 ru) (h u _ (I.tok _) ru)
theorem Ax{m:Str}{g:Addr}{pl:Sem Bool}{Q:Value×List Value->Shared->Prop}(I:Inv X pins σ H s)(e:H a=some (.ins C dx fs))(c:Cls X.K C)(k:Meth X.K C m g)(l:fs.lookup m=none)
 (h:Q (.ref g,[.ref a]) s):wpAny (model X.prog X.w) A (getMethod (.ref a) m pl) Q E s:=by
 obtain⟨mA,O,r,_,_,_⟩:=oG I.hok e;have hn:mA m=none:=RelO.none_of (by rw[<- l];exact r m);exact Kf I.kIn O (c.get m) k.at_ k.fn hn h
theorem DJ{y:V}{u:Value}{Q:Unit->Shared->Prop}(I:Inv X pins σ H s)(e:H a=some (.ins C dx fs))(c:Cls X.K C)(n:NoAttr X.K C f)(hl:fs.length<1000)(ry:RelV y u)
 (h:∀s',Inv X pins σ (upd H a (.ins C dx (cV f y fs))) s'->Q () s'):wpAny (model X.prog X.w) A (setAttr (.ref a) f u) Q E s:=by
 obtain⟨mA,O,r,wi,_,ho⟩:=oG I.hok e;have hz:(fs.map (·.1)).length<=sizeLine:=by rw[QB,sizeLine_eq];omega
 refine qg I.kIn O c.sa c.po n.taker c.hd wi hz λh' O' sb=>h _ ?_
 have hd:∃o,h'.get? dx=some o:=let⟨o,_,_,e',_⟩:=O'.ns;⟨o,e'⟩;refine I.write (x:=a) (e:=dx) (by rw[e];exact True.intro) (.inr ho) (λb q hb z=>(sb.2 b hb).trans z) hd ?_;refine⟨by rw[upd_ne O.ne];exact ho,?_,O.ne,O'.obj,_,O'.ns,λg=>?_,λg hg=>?_⟩
 ·have:=zQ f y fs;omega
 ·show RelO ((cV f y fs).lookup g) (if g=f then some u else mA g);rw[eG];by_cases q:g=f
  ·rw[if_pos q,if_pos q];exact ry
  ·rw[if_neg q,if_neg q];exact r g
 ·by_cases q:g=f
  ·rw[q];exact(tN f y fs).1
  ·refine(tN f y fs).2 g (wi g λz=>hg ?_);show(if g=f then some u else mA g)=none;rw[if_neg q];exact z
theorem Inv.made(I:Inv X pins σ H s):Inv X pins σ (upd (upd H s.heap.objs.size (.own (s.heap.objs.size+1))) (s.heap.objs.size+1) (.ins C s.heap.objs.size []))
 { s with heap:=(s.heap.push PySem.W.emptyDict).push (PySem.W.instObj C s.heap.objs.size) }:=by
 have e1:(s.heap.push PySem.W.emptyDict).get? s.heap.objs.size=some PySem.W.emptyDict:=Heap.get?_push_size s.heap rfl
 have e2:((s.heap.push PySem.W.emptyDict).push (PySem.W.instObj C s.heap.objs.size)).get? (s.heap.objs.size+1)=some (PySem.W.instObj C s.heap.objs.size):=by
  have:=Heap.get?_push_size (s.heap.push PySem.W.emptyDict) (o:=PySem.W.instObj C s.heap.objs.size) rfl
  rwa [Heap.size_push]at this
 have e3:(s.heap.push PySem.W.emptyDict).Ns s.heap.objs.size (λ_=>none):=⟨PySem.W.emptyDict,#[],_,e1,rfl,(λe he=>absurd he (by simp)),λ_=>rfl⟩;have I1:=I.laid (a:=s.heap.objs.size) (o:=.own (s.heap.objs.size+1)) (h':=s.heap.push PySem.W.emptyDict) (t':=s.toks) (λb u q=>Heap.get?_push_of_some _ q) (QD _) ⟨_,e1⟩;refine I1.laid (a:=s.heap.objs.size+1) (o:=.ins C s.heap.objs.size []) (t':=s.toks) (λb u q=>Heap.get?_push_of_some _ q) (R8 (Heap.size_push _ _)) ?_;have ne:s.heap.objs.size≠s.heap.objs.size+1:=Re (RV _);refine⟨by rw[upd_ne ne,au],QH _,ne,e2,λ_=>none,(Heap.Ns1.of_empty e3).at λo q=>Heap.get?_push_of_some _ q,λ_=>True.intro,λy hy=>absurd rfl hy⟩
theorem MA{prog:Program}{w:World}{env:Env}{e:Expr}{f:Str}{pos:Pos}{s:Shared}{Q:Value->Shared->Prop}(hb:attributeBase e f env (eval e env)=eval e env)
 (h:wpAny (model prog w) A (eval e env) (λo s₁=>wpAny (model prog w) A (getAttr o f true) Q E s₁) E s):wpAny (model prog w) A (eval (.Attribute e f pos) env) Q E s :=
 Attribute_any_ h (by rw[arm_eval_Attribute,hb])
end
def wq(K:PySem.W.Frag)(ta:TE)(f:Str):TE:=λσ H Q=>ta σ H λx H1=>∃a C dx fs v,x=.ref a/\H1 a=some (.ins C dx fs)/\Cls K C/\NoAttr K C f/\fs.lookup f=some v/\Q v H1
def Ei(K:PySem.W.Frag)(ta tv:TE)(f:Str):TS:=λD σ H=>tv σ H λy H1=>ta σ H1 λx H2=>∃a C dx fs,x=.ref a/\H2 a=some (.ins C dx fs)/\Cls K C/\NoAttr K C f/\fs.length<1000 /\
 D.nx σ (upd H2 a (.ins C dx (cV f y fs)))
section
variable {X:Cx}{o e value:Expr}{f:Str}{pos pos' tpos:Pos}{ta tv:TE}
theorem Fm(he:PE X e ta)(hb:attributeBase e f X.env (eval e X.env)=eval e X.env):PE X (.Attribute e f pos) (wq X.K ta f):=by intro pins s σ H Q I h;refine MA hb (thn (he pins s σ H _ I h) λu s1 ⟨x,H1,I1,rx,a,C,dx,fs,v,ex,ea,c,n,l,q⟩=>?_);subst ex;obtain rfl:u=Value.ref a:=rx;exact Ke I1 ea c n l λu' s2 I2 ru=>⟨v,H1,I2,ru,q⟩
theorem lv(ha:PE X o ta)(hv:PE X value tv)(hs:swapsWith value (some (.Attribute o f pos')) pos.line X.env=pure false):PS X (.Assign [.Attribute o f pos'] value pos) (Ei X.K ta tv f):=by intro pins s σ H D I h;refine plainObj_wpAny_Assign_Attribute (thn (hv pins s σ H _ I h) λu s1 ⟨y,H1,I1,ry,q⟩=>thn (ha pins s1 σ H1 _ I1 q) λov s2 ⟨x,H2,I2,rx,a,C,dx,fs,ex,ea,c,n,l,q2⟩=>?_) hs;subst ex;obtain rfl:ov=Value.ref a:=rx;exact DJ I2 ea c n l ry λs3 I3=>⟨σ,_,I3,q2⟩
end
section
variable {X:Cx}{pins:List (Addr×Obj)}{σ:St}{H:Hp}{s:Shared}{A:Around}{E:Value->Shared->Prop}{Q:Value->Shared->Prop}{c:Value}{b:Bool}
inductive TyOf(K:PySem.W.Frag)(H:Hp):V->Value->Prop where
 |non:TyOf K H .non (.type "NoneType")
 |bl (x:Bool):TyOf K H (.bl x) (.type "bool")
 |int (i:Int):TyOf K H (.int i) (.type "int")
 |str (x:Str):TyOf K H (.str x) (.type "str")
 |flt (x:UInt64):TyOf K H (.flt x) (.type "float")
 |lst {a:Addr} {xs:List V} (e:H a=some (.lst xs)):TyOf K H (.ref a) (.type "list")
 |frz {a:Addr} {o:Obj} {xs:List V} (e:H a=some (.frz o (.lst xs))):TyOf K H (.ref a) (.type "list")
 |tup {a:Addr} {xs:List V} (e:H a=some (.tup xs)):TyOf K H (.ref a) (.type "tuple")
 |dK {a:Addr} {kvs:List (Key×V)} (e:H a=some (.dK kvs)):TyOf K H (.ref a) (.type "dict")
 |dT {a:Addr} {kvs:List (List Key×V)} (e:H a=some (.dT kvs)):TyOf K H (.ref a) (.type "dict")
 |ins {a C dx:Addr} {fs:List (Str×V)} (e:H a=some (.ins C dx fs)) (cl:Cls K C) (ha:PySem.W.findIn K (.ref C) "__class__"=some (some (.builtin "object.__class__")))
  (hn:PySem.W.specialIn K (.builtin "object.__class__") "__get__"=some (some (.builtin "getset_descriptor.__get__"))) (htk:PySem.W.takesIn K (.builtin "object.__class__")=some true)
  (hm:PySem.W.mroIn K C (.type "object")=some true):TyOf K H (.ref a) (.ref C)
theorem JQ{x:V}{u t:Value}(I:Inv X pins σ H s)(rx:RelV x u)(ty:TyOf X.K H x t)(e:PySem.W.kitOne X.K t c=some b)(h:∀tk,Q (.bool b) { s with toks:=tk }) :
 wpAny (model X.prog X.w) A (call (.builtin "isinstance") [u,c]) Q E s:=by
 cases ty with
 |non=>cases(show u=Value.none from rx);exact PySem.W.kia_one PySem.W.kitx_none I.kIn True.intro e (λz=>nomatch z) h
 |bl y=>cases(show u=Value.bool y from rx);exact PySem.W.kia_one PySem.W.kitx_bool I.kIn True.intro e (λz=>nomatch z) h
 |int i=>obtain⟨t,q⟩:=(show ∃t,u=Value.int i t from rx);cases q;exact PySem.W.kia_one PySem.W.kitx_int I.kIn True.intro e (λz=>nomatch z) h
 |str y=>obtain⟨t,q⟩:=(show ∃t,u=Value.str y t from rx);cases q;exact PySem.W.kia_one PySem.W.kitx_str I.kIn True.intro e (λz=>nomatch z) h
 |flt y=>obtain⟨t,q⟩:=(show ∃t,u=Value.float y t from rx);cases q;exact PySem.W.kia_one PySem.W.kitx_float I.kIn True.intro e (λz=>nomatch z) h
 | @lst a xs ea =>cases(show u=Value.ref a from rx);obtain⟨_,_,n,_,h1⟩:=(show ObjOk X.prog X.w H s.heap a (.lst xs)from I.hok a _ ea);exact PySem.W.kia_one PySem.W.kitx_list I.kIn ⟨_,h1,rfl⟩ e (λz=>nomatch z) h
 | @frz a ob xs ea =>cases(show u=Value.ref a from rx);obtain⟨_,_,_,n,_,h1⟩:=(show ObjOk X.prog X.w H s.heap a (.frz ob (.lst xs))from I.hok a _ ea);exact PySem.W.kia_one PySem.W.kitx_list I.kIn ⟨_,h1,rfl⟩ e (λz=>nomatch z) h
 | @tup a xs ea =>cases(show u=Value.ref a from rx);obtain⟨_,_,_,p⟩:=(show ObjOk X.prog X.w H s.heap a (.tup xs)from I.hok a _ ea);obtain⟨o,h1,h2,_⟩:=p;exact PySem.W.kia_one PySem.W.kitx_tuple I.kIn ⟨o,h1,h2⟩ e (λz=>nomatch z) h
 | @dK a kvs ea =>cases(show u=Value.ref a from rx);obtain⟨_,_,vs,_,p⟩:=(show ObjOk X.prog X.w H s.heap a (.dK kvs)from I.hok a _ ea);obtain⟨o,es,ep,h1,h2,_⟩:=p;exact PySem.W.kia_one PySem.W.kitx_dict I.kIn ⟨o,h1,h2.1⟩ e (λz=>nomatch z) h
 | @dT a kvs ea =>cases(show u=Value.ref a from rx);obtain⟨_,_,xs,_,o,es,ep,h1,h2,_⟩:=(show ObjOk X.prog X.w H s.heap a (.dT kvs)from I.hok a _ ea);exact PySem.W.kia_one PySem.W.kitx_dict I.kIn ⟨o,h1,h2.1⟩ e (λz=>nomatch z) h
 | @ins a C dx fs ea cl ha hn htk hm =>cases(show u=Value.ref a from rx);obtain⟨mA,O,_⟩:=oG I.hok ea;obtain⟨od,J,_⟩:=O.look;exact PySem.W.kia_one (PySem.W.kitx_own (cl.get _) cl.hd ha hn htk hm) I.kIn J e (λz=>nomatch z) h
end
structure Room(k:Nat)(A:Around):Prop where
 hd:A.handled=none
 dp:A.depth+3*k+5<recursionLimit
 un:A.units+16*k+200<cLine
theorem Room.mono{j k:Nat}{A:Around}(r:Room k A)(h:j<=k:=by decide):Room j A:=⟨r.hd,by have:=r.dp;omega,by have:=r.un;omega⟩
theorem Room.deeper{k:Nat}{A:Around}(r:Room (k+1) A)(env:Env):Room k (A.deeper env) :=
 ⟨r.hd,by have:=r.dp;show A.depth+1+3*k+5<_;omega,by have:=r.un;show A.units+3+16*k+200<_;omega⟩
theorem Room.in1{k:Nat}{A:Around}(r:Room (k+1) A):Room k A.in1 :=
 ⟨r.hd,by have:=r.dp;show A.depth+3*k+5<_;omega,by have:=r.un;show A.units+1+16*k+200<_;omega⟩
theorem HD{A:Around}{C:Addr}{us:List Value}{kw:List (Str×Value)}:(A.under (.builtin "type.__call__" ⟨.ref C::us,kw⟩)).depth=A.depth+1:=by first |rfl |simp[Around.under,Code.weight,Code.isCreation,Code.isGuard,Code.isCaller,Code.frames,Code.isFrame,guardIds]
theorem HB{A:Around}{C:Addr}{us:List Value}{kw:List (Str×Value)}:(A.under (.builtin "type.__call__" ⟨.ref C::us,kw⟩)).units=A.units+1:=by first |rfl |simp[Around.under,Code.cUnits,Code.frames,Code.isFrame]
theorem Room.make{k:Nat}{A:Around}(r:Room (k+1) A)(C:Addr)(us:List Value)(kw:List (Str×Value)):Room k (A.under (.builtin "type.__call__" ⟨.ref C::us,kw⟩)) :=
 ⟨r.hd,by have:=r.dp;rw[HD];omega,by have:=r.un;rw[HB];omega⟩
theorem Room.depth{k:Nat}{A:Around}(r:Room k A):A.depth<recursionLimit:=by have:=r.dp;omega
theorem Room.units{k:Nat}{A:Around}(r:Room k A):A.units+64<cLine:=by have:=r.un;omega
def pj:TA:=λ_ H Q=>Q [] H
def px(ta:TE)(tr:TA):TA:=λσ H Q=>ta σ H λx H1=>tr σ H1 λxs H2=>Q (x::xs) H2
section
variable {X:Cx}{e:Expr}{es:List Expr}{te:TE}{t:TA}{pos:Pos}
theorem ac:PA X [] pj:=λ_ _ _ _ H Q I h=>Calls.spliced_nil ⟨[],H,I,.nil,h⟩
theorem aa(ha:PE X e te)(hr:PA X es t)(hs:starEach (e::es) X.env=(false,eval e X.env)::starEach es X.env:=by rfl):PA X (e::es) (px te t):=by intro pos pins s σ H Q I h;rw[hs];show wpAny _ _ (spliced ((false,eval e X.env)::backTo pos (starEach es X.env))) _ _ s;refine Calls.spliced_cons (thn (ha pins s σ H _ I h) λu s1 ⟨x,H1,I1,r1,q1⟩=>?_);exact thn (hr pos pins s1 σ H1 _ I1 q1) λus s2 ⟨xs,H2,I2,r2,q2⟩=>⟨x::xs,H2,I2,.cons r1 r2,q2⟩
def CQ(t:TA):TE:=λσ H Q=>t σ H λxs H1=>xs.length<=sizeLine/\∀p,H1 p=none->Q (.ref p) (upd H1 p (.tup xs))
def CY(t:TA):TE:=λσ H Q=>t σ H λxs H1=>xs.length<=sizeLine/\∀p,H1 p=none->Q (.ref p) (upd H1 p (.lst xs))
theorem du{x1}(h:PA X es t):PE X (.Tuple es x1 pos) (CQ t):=by intro pins s σ H Q I hq;refine wpAny_Tuple_spliced (thn (h pos pins s σ H _ I hq) λus s1 ⟨xs,H1,I1,r,z,q⟩=>⟨by rw[<- r.length];exact z,?_⟩);have hf:H1 s1.heap.objs.size=none:=I1.hok.fresh (QD _);refine⟨.ref s1.heap.objs.size,upd H1 s1.heap.objs.size (.tup xs),I1.laid (t':=s1.toks) (λb u e=>Heap.get?_push_of_some _ e) (QD _) ?_,rfl,q _ hf⟩;exact⟨z,us,r,⟨_,Heap.get?_push_size _ rfl,rfl,_,rfl⟩⟩
theorem bK(h:PA X es t):PE X (.List es pos) (CY t):=by intro pins s σ H Q I hq;refine wpAny_List_spliced (thn (h pos pins s σ H _ I hq) λus s1 ⟨xs,H1,I1,r,z,q⟩=>⟨by rw[<- r.length];exact z,?_⟩);have hf:H1 s1.heap.objs.size=none:=I1.hok.fresh (QD _);refine⟨.ref s1.heap.objs.size,upd H1 s1.heap.objs.size (.lst xs),I1.laid (t':=s1.toks) (λb u e=>Heap.get?_push_of_some _ e) (QD _) ?_,rfl,q _ hf⟩;exact⟨z,us,0,r,Heap.get?_push_size _ rfl⟩
end
abbrev Sp:=List V->Hp->VK->XK->Prop
abbrev CXT:=List Env->Hp->Shared->XK->Value->Shared->Prop
structure Env0(P:Program)(w:World)(K:PySem.W.Frag)(mg:Str->Option Value)(base:Heap)(A:Around)(outer:List Env)(s:Shared)(H:Hp):Prop where
 frames:A.frames=some outer
 mod:Mod K mg base
 bs:∀b o,base.get? b=some o->s.heap.get? b=some o/\H b=none
 bsz:base.objs.size<=s.heap.objs.size
 funs:s.heap.FunFrames base outer
 frf:∀b∈frs outer,H b=none
 hok:HOk P w H s.heap
 bare:AllBare s.gens
noncomputable def CE(outer:List Env)(P:Program)(w:World)(H:Hp)(s:Shared)(Q:VK)(u:Value)(s':Shared):Prop :=
 ∃v H',s'.os=s.os/\AllBare s'.gens/\Un (frs outer) [] H H' s.heap s'.heap/\HOk P w H' s'.heap/\RelV v u/\Q v H'
noncomputable def CR(CX:CXT)(outer:List Env)(P:Program)(w:World)(H:Hp)(s:Shared)(Q:VK)(E:XK)(r:Result)(s':Shared):Prop :=
 match r with
 |.ok (.ret u)=>CE outer P w H s Q u s'
 |.ok _=>False
 |.error e=>CX outer H s E e s'
structure FnOk(P:Program)(w:World)(K:PySem.W.Frag)(mg:Str->Option Value)(base:Heap)(CX:CXT)(k:Nat)(f:Addr)(fd:FuncData)(ps:List Str)(sp:Sp):Prop where
 len:∀vs H Q E,sp vs H Q E->vs.length=ps.length
 run:∀(A:Around) (outer:List Env) (s:Shared) (H:Hp) (args:Args) (us:List Value) (vs:List V) (Q:VK) (E:XK),Room k A->Env0 P w K mg base A outer s H->BindsTo s fd args (ps.zip us)->Vals vs us->sp vs H Q E ->
  codeAny (model P w) A (.call (.ref f) args) (CR CX outer P w H s Q E) s
theorem FnOk.mono{P:Program}{w:World}{K:PySem.W.Frag}{mg:Str->Option Value}{base:Heap}{CX:CXT}{j k:Nat}{f:Addr}{fd:FuncData}{ps:List Str}{sp:Sp}(F:FnOk P w K mg base CX j f fd ps sp)(h:j<=k:=by decide) :
 FnOk P w K mg base CX k f fd ps sp:=⟨F.len,λA outer s H args us vs Q E hr=>F.run A outer s H args us vs Q E (hr.mono h)⟩
theorem Env0.make{P:Program}{w:World}{K:PySem.W.Frag}{mg:Str->Option Value}{base:Heap}{A:Around}{outer:List Env}{s:Shared}{H:Hp}(e:Env0 P w K mg base A outer s H)(C:Addr)(us:List Value)(kw:List (Str×Value)) :
 Env0 P w K mg base (A.under (.builtin "type.__call__" ⟨.ref C::us,kw⟩)) outer s H:=⟨by first |exact e.frames | (simpa[Around.under,Code.envs,Code.isFrame,pushEnvs]using e.frames),e.mod,e.bs,e.bsz,e.funs,e.frf,e.hok,e.bare⟩
section
variable {X:Cx}{pins:List (Addr×Obj)}{σ:St}{H:Hp}{s s':Shared}
theorem Inv.env0(I:Inv X pins σ H s):Env0 X.prog X.w X.K X.mg X.base X.A X.stack s H :=
 ⟨I.ok.frames,I.ok.mod,I.bs,QL I.ok.bsz I.sz,I.stack,I.stkFree,I.hok,I.bare⟩
theorem Inv.after{Q:VK}{u:Value}(I:Inv X pins σ H s)(h:CE X.stack X.prog X.w H s Q u s'):EP X pins σ Q u s':=by obtain⟨v,H',os,bare,un,hok,r,q⟩:=h;obtain⟨hh,g,d,t,os'⟩:=s';obtain rfl:os'=s.os:=os;exact⟨v,H',I.call (h':=hh) (g':=g) (d':=d) (t':=t) (ch:=[]) un hok bare (λb z=>absurd z (by simp)),r,q⟩
end
def C4(sp:Sp)(dvs:List V)(E:XK)(t:TA):TE:=λσ H Q=>t σ H λvs H1=>sp (vs++dvs) H1 Q E
def wo(C:Addr)(m:Str)(sp:Sp)(dvs:List V)(E:XK)(ta:TE)(t:TA):TE:=λσ H Q=>ta σ H λx H1=>∃a dx fs,x=.ref a/\H1 a=some (.ins C dx fs)/\fs.lookup m=none /\
 t σ H1 λvs H2=>sp (x::(vs++dvs)) H2 Q E
def CW(C:Addr)(sp:Sp)(dvs:List V)(E:XK)(t:TA):TE:=λσ H Q=>t σ H λvs H1=>∀x dx,H1 x=none->H1 dx=none->dx≠x ->
 sp (.ref x::(vs++dvs)) (upd (upd H1 dx (.own x)) x (.ins C dx [])) (λv H2=>v=.non/\Q (.ref x) H2) E
noncomputable def Binds(K:PySem.W.Frag)(fd:FuncData)(ps:List Str)(ds:List Value):Prop :=
 ∀(s:Shared) (us:List Value),K.In s.heap->(us++ds).length=ps.length->BindsTo s fd ⟨us,[]⟩ (ps.zip (us++ds))
theorem Binds.all{K:PySem.W.Frag}{fd:FuncData}{ps:List Str}(h:∀us:List Value,us.length=ps.length->bindArgs fd ⟨us,[]⟩=pure (ps.zip us)):Binds K fd ps []:=λs us _ hl=>by rw[List.append_nil]at hl ⊢;exact .of_eq (h us hl)
def jy(CX:CXT)(X:Cx)(E:XK):Prop:=∀(pins:List (Addr×Obj)) (σ:St) (H:Hp) (s:Shared) (e:Value) (s':Shared),Inv X pins σ H s->CX X.stack H s E e s'->X.xe e s'
section
variable {X:Cx}{CX:CXT}{k:Nat}{f C:Addr}{fd:FuncData}{ps:List Str}{sp:Sp}{dvs:List V}{ds:List Value}{E:XK}{x m:Str}{p pos apos:Pos}{e o:Expr}{es:List Expr}{ta:TE}{t:TA}
theorem r8{pins:List (Addr×Obj)}{σ:St}{H:Hp}{s:Shared}{Q:VK}{us:List Value}{vs:List V}(F:FnOk X.prog X.w X.K X.mg X.base CX k f fd ps sp)(hr:Room k X.A)(hb:Binds X.K fd ps ds)(hd:Vals dvs ds)(hx:jy CX X E)
 (I:Inv X pins σ H s) (r:Vals vs us) (h:sp (vs++dvs) H Q E):wpAny (model X.prog X.w) X.A (call (.ref f) us) (EP X pins σ Q) X.xe s:=by
 have r2:Vals (vs++dvs) (us++ds):=r.append hd;have hl:(us++ds).length=ps.length:=by rw[<- r2.length];exact F.len _ _ _ _ h
 refine wpAny_call (codeAny_mono (F.run X.A X.stack s H ⟨us,[]⟩ (us++ds) (vs++dvs) Q E hr I.env0 (hb s us I.kIn hl) r2 h) λr s' hq=>?_);cases r with
 |error e=>exact hx pins σ H s e s' I hq
 |ok fl =>
  cases fl with
  |ret u=>exact I.after hq
  |next=>exact False.elim hq
  |brk=>exact False.elim hq
  |cont=>exact False.elim hq
theorem aq(F:FnOk X.prog X.w X.K X.mg X.base CX k f fd ps sp)(hr:Room k X.A)(hg:Gl X x)(hm:X.mg x=some (.ref f))(hk:PySem.W.keepIn X.K (.ref f)=true)(hb:Binds X.K fd ps ds)(hd:Vals dvs ds)(hx:jy CX X E)
 (ha:PA X (e::es) t) (hdb:(x == ("__debug__":Str))=false:=by decide) (he:starEach (e::es) X.env=(false,eval e X.env)::starEach es X.env:=by rfl) (hpl:(backTo pos (starEach es X.env)).any (·.1)=false:=by rfl) :
 PE X (.Call (.Name x p) (e::es) [] pos) (C4 sp dvs E t):=by
 intro pins s σ H Q I h;refine wpAny_Call_Name_kw (tL I hg hm ?_ hdb);refine PySem.W.callWith_K (h₀:=X.base) I.ok.mod.kin hk (thn (ha pos pins s σ H _ I h) λus s1 ⟨vs,H1,I1,r,q⟩=>⟨I1.kIn,?_⟩) he hpl;exact r8 F hr hb hd hx I1 r q
theorem cW{pl:Sem Bool}(he:PE X o ta)(c:Cls X.K C)(hm:Meth X.K C m f)(F:FnOk X.prog X.w X.K X.mg X.base CX k f fd ps sp)(hr:Room k X.A)(hb:Binds X.K fd ps ds)(hd:Vals dvs ds)(hx:jy CX X E)(ha:PA X (e::es) t)
 (hst:starEach (e::es) X.env=(false,eval e X.env)::starEach es X.env:=by rfl) (hpl:(backTo pos (starEach es X.env)).any (·.1)=false:=by rfl)
 (ht:eval (.Call (.Attribute o m apos) (e::es) [] pos) X.env=(do
   let ov <- eval o X.env
   standAt apos.atName
   let(f,first) <- holding [ov] (getMethod ov m pl)
   callWith pos f first (backTo pos (starEach (e::es) X.env)) (backToKw pos (keywordEach [] X.env))):=by rfl) :
 PE X (.Call (.Attribute o m apos) (e::es) [] pos) (wo C m sp dvs E ta t):=by
 intro pins s σ H Q I h;refine PySem.W.methodCall_KW (pl:=pl) (thn (he pins s σ H _ I h) λu s1 ⟨x,H1,I1,rx,a,dx,fs,ex,ea,l,q⟩=>?_) ht;subst ex;obtain rfl:u=Value.ref a:=rx;refine Ax I1 ea c hm l ?_;refine PySem.W.callWith_K (first:=[.ref a]) (h₀:=X.base) I.ok.mod.kin hm.kp (thn (ha pos pins s1 σ H1 _ I1 q) λus s2 ⟨vs,H2,I2,r,q2⟩=>⟨I2.kIn,?_⟩) hst hpl;exact r8 (us:=.ref a::us) (vs:=.ref a::vs) F hr hb hd hx I2 (.cons rfl r) q2
theorem yQ{pl:Sem Bool}(he:PE X o ta)(c:Cls X.K C)(hm:Meth X.K C m f)(F:FnOk X.prog X.w X.K X.mg X.base CX k f fd ps sp)(hr:Room k X.A)(hb:Binds X.K fd ps ds)(hd:Vals dvs ds)(hx:jy CX X E)
 (ht:eval (.Call (.Attribute o m apos) [] [] pos) X.env=(do
   let ov <- eval o X.env
   standAt apos.atName
   let(f,first) <- holding [ov] (getMethod ov m pl)
   callWith pos f first (backTo pos (starEach [] X.env)) (backToKw pos (keywordEach [] X.env))):=by rfl) :
 PE X (.Call (.Attribute o m apos) [] [] pos) (wo C m sp dvs E ta pj):=by
 intro pins s σ H Q I h;refine PySem.W.methodCall_KW (pl:=pl) (thn (he pins s σ H _ I h) λu s1 ⟨x,H1,I1,rx,a,dx,fs,ex,ea,l,q⟩=>?_) ht;subst ex;obtain rfl:u=Value.ref a:=rx;refine Ax I1 ea c hm l ?_;exact PySem.W.callWith_K0 (first:=[.ref a]) I1.kIn hm.kp (r8 (us:=[.ref a]) (vs:=[.ref a]) F hr hb hd hx I1 (.cons rfl .nil) q)
structure Mk(K:PySem.W.Frag)(C f:Addr):Prop where
 makes:PySem.W.makesIn K C=true
 init:PySem.W.findIn K (.ref C) "__init__"=some (some (.ref f))
 fn:PySem.W.isFn K (.ref f)=true
 kp:PySem.W.keepIn K (.ref C)=true
theorem Ej{pins:List (Addr×Obj)}{σ:St}{H:Hp}{s:Shared}{Q:VK}{us:List Value}{vs:List V}(M:Mk X.K C f)(F:FnOk X.prog X.w X.K X.mg X.base CX k f fd ps sp)(hr:Room (k+1) X.A)(hb:Binds X.K fd ps ds)(hd:Vals dvs ds)
 (hx:jy CX X E) (I:Inv X pins σ H s) (r:Vals vs us)
 (h:∀x dx,H x=none->H dx=none->dx≠x->sp (.ref x::(vs++dvs)) (upd (upd H dx (.own x)) x (.ins C dx [])) (λv H2=>v=.non/\Q (.ref x) H2) E) :
 wpAny (model X.prog X.w) X.A (call (.ref C) us) (EP X pins σ Q) X.xe s:=by
 have hq:=h (s.heap.objs.size+1) s.heap.objs.size (I.hok.fresh (Nat.le_succ _)) (I.hok.fresh (QD _)) (Re (RV _));have I2:=Inv.made (C:=C) I;have r2:Vals (V.ref (s.heap.objs.size+1)::(vs++dvs)) (Value.ref (s.heap.objs.size+1)::(us++ds)):=.cons rfl (r.append hd)
 have hl:(Value.ref (s.heap.objs.size+1)::us++ds).length=ps.length:=by have e:=r2.length;rw[F.len _ _ _ _ hq]at e;exact e.symm
 refine wpAny_call (HC (f:=f) I.kIn M.makes M.init (beq_iff_eq.mp M.fn) (codeAny_mono (F.run _ X.stack _ _ ⟨Value.ref (s.heap.objs.size+1)::us,[]⟩ (Value.ref (s.heap.objs.size+1)::(us++ds)) _ _ E (hr.make C us [])
  (I2.env0.make C us []) (hb _ (Value.ref (s.heap.objs.size+1)::us) I2.kIn hl) r2 hq) λr s' hq'=>?_))
 cases r with
 |error e=>exact hx pins σ _ _ e s' I2 hq'
 |ok fl =>
  cases fl with
  |ret u =>obtain⟨v,H',I3,rv,ev,q3⟩:=I2.after hq';subst ev;exact⟨rv,⟨V.ref (s.heap.objs.size+1),H',I3,rfl,q3⟩⟩
  |next=>exact False.elim hq'
  |brk=>exact False.elim hq'
  |cont=>exact False.elim hq'
theorem b5(M:Mk X.K C f)(F:FnOk X.prog X.w X.K X.mg X.base CX k f fd ps sp)(hr:Room (k+1) X.A)(hg:Gl X x)(hm:X.mg x=some (.ref C))(hb:Binds X.K fd ps ds)(hd:Vals dvs ds)(hx:jy CX X E)
 (ha:PA X (e::es) t) (hdb:(x == ("__debug__":Str))=false:=by decide) (he:starEach (e::es) X.env=(false,eval e X.env)::starEach es X.env:=by rfl) (hpl:(backTo pos (starEach es X.env)).any (·.1)=false:=by rfl) :
 PE X (.Call (.Name x p) (e::es) [] pos) (CW C sp dvs E t):=by
 intro pins s σ H Q I h;refine wpAny_Call_Name_kw (tL I hg hm ?_ hdb);refine PySem.W.callWith_K (h₀:=X.base) I.ok.mod.kin M.kp (thn (ha pos pins s σ H _ I h) λus s1 ⟨vs,H1,I1,r,q⟩=>⟨I1.kIn,?_⟩) he hpl;exact Ej M F hr hb hd hx I1 r q
end
section
variable {X:Cx}{CX:CXT}{k:Nat}{f C:Addr}{fd:FuncData}{ps ks:List Str}{sp:Sp}{E:XK}{x m:Str}{p pos apos kpos:Pos}{e o:Expr}{es:List Expr}{kws:List Keyword}{te ta:TE}{t tk:TA}{nm:Option Str}
variable {g:List Value->List Value->List Value}{gV:List V->List V->List V}
end
structure FnScope(N P:List Str)(sc:Scope):Prop where
 kind:sc.kind=.function
 co:sc.isCoroutine=false
 gen:sc.isGenerator=false
 nd:N.Nodup
 pre:N.take P.length=P
 par:∀x∈P,sc.names.lookup x=some .local\/sc.names.lookup x=some .cell
 nofree:∀y∈sc.names,y.2≠.free
theorem BM{kindOf:Str->Option NameKind}{x:Str}:∀{binds:List (Str×Value)} {m:Str->Option Value},(∀v,(x,v)∉binds)->bindL kindOf binds m x=m x
 | [],_,_=>rfl
 | (n,v)::r,m,h=>by
  unfold bindL;rw[BM λw hw=>h w (QJ _ hw)];split
  ·have:x≠n:=by rintro rfl;exact h v QN
   simp[this]
  ·rfl
theorem BO{kindOf:Str->Option NameKind}{x:Str}:∀{binds:List (Str×Value)} {m:Str->Option Value},(∀v,(x,v)∉binds)->bindC kindOf binds m x=m x
 | [],_,_=>rfl
 | (n,v)::r,m,h=>by
  unfold bindC;rw[BO λw hw=>h w (QJ _ hw)];split
  ·rfl
  ·have:x≠n:=by rintro rfl;exact h v QN
   simp[this]
theorem BN{kindOf:Str->Option NameKind}{x:Str}{v:Value}:∀{P:List Str} {vs:List Value} {i:Nat} {m:Str->Option Value},P.Nodup->P[i]?=some x->vs[i]?=some v->kindOf x=some .local ->
 bindL kindOf (P.zip vs) m x=some v
 | [],_,_,_,_,h,_,_=>by simp at h
 |_::_,[],_,_,_,_,h,_=>by simp at h
 |p::P,w::vs,0,m,nd,h1,h2,hk=>by
  simp at h1 h2;subst h1;subst h2
  show bindL kindOf ((p,w)::P.zip vs) m p=_;unfold bindL;rw[BM λv hv=>(R9.mp nd).1 (List.of_mem_zip hv).1,if_pos hk];simp
 |p::P,w::vs,i+1,m,nd,h1,h2,hk=>by show bindL kindOf ((p,w)::P.zip vs) m x=_;unfold bindL;exact BN (i:=i) (R9.mp nd).2 (by simpa using h1) (by simpa using h2) hk
theorem BP{kindOf:Str->Option NameKind}{x:Str}{v:Value}:∀{P:List Str} {vs:List Value} {i:Nat} {m:Str->Option Value},P.Nodup->P[i]?=some x->vs[i]?=some v->kindOf x≠some .local ->
 bindC kindOf (P.zip vs) m x=some v
 | [],_,_,_,_,h,_,_=>by simp at h
 |_::_,[],_,_,_,_,h,_=>by simp at h
 |p::P,w::vs,0,m,nd,h1,h2,hk=>by
  simp at h1 h2;subst h1;subst h2
  show bindC kindOf ((p,w)::P.zip vs) m p=_;unfold bindC;rw[BO λv hv=>(R9.mp nd).1 (List.of_mem_zip hv).1,if_neg hk];simp
 |p::P,w::vs,i+1,m,nd,h1,h2,hk=>by show bindC kindOf ((p,w)::P.zip vs) m x=_;unfold bindC;exact BP (i:=i) (R9.mp nd).2 (by simpa using h1) (by simpa using h2) hk
noncomputable def start(N:List Str)(vs:List V):St:=vs.map some++List.replicate (N.length-vs.length) none
noncomputable def jp(CX:CXT)(P:Program)(w:World)(K:PySem.W.Frag)(mg:Str->Option Value)(base:Heap)(N:List Str)(qual:Str)(scope:Scope)(f:Addr)(cd:Value)(A:Around)(outer:List Env)(s:Shared)(H:Hp)(E:XK):Cx where
 prog:=P
 w:=w
 K:=K
 mg:=mg
 base:=base
 A:=A.deeper (envOfC qual scope s.heap.objs.size f cd)
 N:=N
 s₀:=s
 H₀:=H
 env:=envOfC qual scope s.heap.objs.size f cd
 outer:=outer
 stack:=envOfC qual scope s.heap.objs.size f cd::outer
 ex:=[]
 calm:=true
 fn:=λ_=>true
 pn:=[]
 xe:=λe s'=>wpAny (model P w) (A.deeper (envOfC qual scope s.heap.objs.size f cd)) (leaving (envOfC qual scope s.heap.objs.size f cd) e) (λ_ s''=>CX outer H s E e s'') (λe' s''=>CX outer H s E e' s'') s'
theorem BF{sc:Scope}{n:Nat}{x:Str}(h:sc.names.lookup x=some .cell):∃c,(cellsFrom n sc.names []).lookup x=some c:=by have q:=PySem.W.cellsFrom_some sc.names n [] (.inl h);exact Option.isSome_iff_exists.mp q
theorem JT{CX:CXT}{P:Program}{w:World}{K:PySem.W.Frag}{mg:Str->Option Value}{base:Heap}{N ps:List Str}{qual:Str}{scope:Scope}{f:Addr}{cd:Value}{A:Around}{outer:List Env}{s s1:Shared}{H:Hp}{E:XK}{us:List Value}{vs:List V}
 (S:FnScope N ps scope) (hd:A.handled=none) (e0:Env0 P w K mg base A outer s H) (hl:vs.length=ps.length) (r:Vals vs us)
 (x:InCallC s s.heap.objs.size (bindL (envOfC qual scope s.heap.objs.size f cd).kindOf (ps.zip us) λ_=>none) (cellsFrom (s.heap.objs.size+1) scope.names []) (bindC (envOfC qual scope s.heap.objs.size f cd).kindOf (ps.zip us) λ_=>none) s1) :
 Inv (jp CX P w K mg base N qual scope f cd A outer s H E) [] (start N vs) H s1:=by
 have hpl:ps.length<=N.length:=by have:=congrArg List.length S.pre;rw[Rn]at this;omega
 obtain⟨h1,tk,rfl,hk⟩:=x.done;have noA:∀b:Addr,b∉(jp CX P w K mg base N qual scope f cd A outer s H E).ex:=λb z=>absurd (show b∈([]:List Addr)from z) (by simp)
 refine⟨⟨e0.mod,S.kind,rfl,rfl,QD _,λy z c h1 h2=>?_,λy hy=>?_,λy c _ h=>?_,λ_=>hd,Around.frames_deeper e0.frames,.inr ⟨rfl,rfl⟩,λb z=>absurd z (noA b),e0.bs,e0.bsz,λb _ _=>noA b,λb z=>absurd z (noA b),e0.funs,e0.frf⟩,
  rfl,e0.bare,Un.kept hk,⟨_,x.toInCall.ns,λi y v h1 h2 h3=>?_⟩,λy c h=>⟨_,x.cell y c h⟩,e0.hok.fresh (QD _),λy c h=>?_,λp hp=>absurd (show p∈([]:List (Addr×Obj))from hp) (by simp),e0.hok.kept hk,?_⟩
 ·exact name_of_addr x.apart (PySem.mem_of_lookup h1) (PySem.mem_of_lookup h2)
 ·have hy:scope.names.lookup y=some .cell\/scope.names.lookup y=some .free:=hy;rcases hy with hy |hy
  ·exact BF hy
  ·exact absurd rfl (S.nofree _ (PySem.mem_of_lookup hy))
 ·exact Sj (x.above y c (PySem.mem_of_lookup h))
 ·have hi:i<vs.length:=by
   unfold start at h2
   by_cases hi:i<vs.length
   ·exact hi
   ·rw[List.getElem?_append_right (by simpa using hi)]at h2;rw[List.getElem?_replicate]at h2;split at h2<;>cases h2
  have ha:vs[i]?=some v:=by
   unfold start at h2
   rw[List.getElem?_append_left (by simpa using hi),List.getElem?_map]at h2;cases e:vs[i]? with
   |none=>rw[e]at h2;cases h2
   |some a=>rw[e]at h2;cases h2;rfl
  obtain⟨u,hu,rv⟩:=r.get ha
  have hp:ps[i]?=some y:=by rw[<- S.pre,List.getElem?_take_of_lt (by omega)];exact h1
  have ndP:ps.Nodup:=by rw[<- S.pre];exact S.nd.sublist (List.take_sublist _ _)
  refine⟨u,rv,?_⟩;rcases S.par y (List.mem_of_getElem? hp)with k |k
  ·exact .inl ⟨k,BN ndP hp hu k⟩
  ·obtain⟨c,e⟩:=BF (n:=s.heap.objs.size+1) k;refine .inr ⟨.inl k,c,e,?_⟩;have q:=x.cell y c e;rw[BP ndP hp hu (by show scope.names.lookup y≠_;rw[k];decide)]at q;exact q
 ·exact e0.hok.fresh (Sj (x.above y c (PySem.mem_of_lookup h)))
 ·unfold start;show _=N.length;rw[QO,QB,SO];omega
theorem AH{CX:CXT}{P:Program}{w:World}{K:PySem.W.Frag}{mg:Str->Option Value}{base:Heap}{k:Nat}{f:Addr}{name qual:Str}{params:Arguments}{body:List Stmt}{scope:Scope}{dV kV doc pm cdv ct oc:Value}{an od:Option Addr}
 {osl:Array (Option Value)} {N ps:List Str} {sp:Sp} (lk:K.lookup f=some ⟨oc,od,.func (PySem.W.fnOf name qual params body scope dV kV doc pm an cdv ct),osl⟩) (hcd:PySem.W.codeIn K cdv qual=true) (S:FnScope N ps scope)
 (len:∀vs H Q E,sp vs H Q E->vs.length=ps.length)
 (hbody:∀(A:Around) (outer:List Env) (s:Shared) (H:Hp) (vs:List V) (Q:VK) (E:XK),Room k (A.deeper (envOfC qual scope s.heap.objs.size f cdv))->sp vs H Q E ->
   ∃t,PSs (jp CX P w K mg base N qual scope f cdv A outer s H E) body t/\t { nx:=λ_ H'=>Q .non H',rt:=Q } (start N vs) H) :
 FnOk P w K mg base CX (k+1) f (PySem.W.fnOf name qual params body scope dV kV doc pm an cdv ct) ps sp:=by
 refine⟨len,λA outer s H args us vs Q E hr e0 hb r hsp=>?_⟩;have hl:=len _ _ _ _ hsp;have KX:K.In s.heap:=e0.mod.kin.keeps λb o e=>(e0.bs b o e).1
 have lim:s.heap.NoLimit:=e0.mod.nolimit.keeps λb o e=>(e0.bs b o e).1
 have hkind:∀y∈ps.zip us,scope.names.lookup y.1=some .local\/(scope.names.lookup y.1=some .cell/\((cellsFrom (s.heap.objs.size+1) scope.names []).lookup y.1).isSome=true):=λ⟨n,v⟩ hy=>by
  rcases S.par n (List.of_mem_zip hy).1 with q |q
  ·exact .inl q
  ·exact .inr ⟨q,PySem.W.cellsFrom_some _ _ _ (.inl q)⟩
 refine codeAny_call_function hr.depth (KX _ _ lk) rfl S.co S.gen rfl (PySem.W.codeRec_of KX hcd) (hb _ _ _ _ ?_);refine wpAny_newFunctionEnv_cells S.kind hkind λenv he s1 x=>?_
 subst he;refine⟨lim.keeps x.toInCall.keep,codeAny_func ?_⟩;obtain⟨t,ht,hq⟩:=hbody A outer s H vs Q E (hr.deeper _) hsp;have I:Inv (jp CX P w K mg base N qual scope f cdv A outer s H E) [] (start N vs) H s1:=JT S hr.hd e0 hl r x;refine wpAny_mono (ht [] s1 (start N vs) H _ I hq) (λfl s' hs=>?_) λe s' hs=>hs
 have fin:∀{σ':St} {H':Hp} {v:V} {u:Value},Inv (jp CX P w K mg base N qual scope f cdv A outer s H E) [] σ' H' s'->RelV v u->Q v H'->CE outer P w H s Q u s' :=
  λ{σ' H' v u} J rv q=>⟨v,H',J.os,J.bare,J.base,J.hok,rv,q⟩
 cases fl with
 |ret u =>obtain⟨v,σ',H',J,rv,q⟩:=hs;exact fin J rv q
 |next =>obtain⟨σ',H',J,q⟩:=hs;exact fin (v:=V.non) (u:=Value.none) J rfl q
 |brk =>obtain⟨_,_,_,q⟩:=hs;exact False.elim q
 |cont =>obtain⟨_,_,_,q⟩:=hs;exact False.elim q
section
variable {X:Cx}{x:Str}{p pos:Pos}{e:Expr}{es:List Expr}{t:TA}{id T:String}{r:List V->Hp->VK->Prop}
def tCB(r:List V->Hp->VK->Prop)(t:TA):TE:=λσ H Q=>t σ H λvs H1=>r vs H1 Q
theorem bX(hc:CallR X (.builtin id) r)(hg:Gl X x)(hm:X.mg x=none)(hv:bootBuiltins x=some (.builtin id))(ha:PA X (e::es) t)(hn:x≠"__name__":=by decide)(hdb:(x == ("__debug__":Str))=false:=by decide)
 (he:starEach (e::es) X.env=(false,eval e X.env)::starEach es X.env:=by rfl) (hpl:(backTo pos (starEach es X.env)).any (·.1)=false:=by rfl):PE X (.Call (.Name x p) (e::es) [] pos) (tCB r t):=by
 intro pins s σ H Q I h;refine wpAny_Call_Name_kw (gH I hg hm hv ?_ hn hdb);exact PyProof.Rows.callWith_builtin1 (thn (ha pos pins s σ H _ I h) λus s1 ⟨vs,H1,I1,r1,q1⟩=>hc pins s1 σ H1 vs us Q I1 r1 q1) he hpl
theorem eT(hc:CallR X (.type T) r)(hg:Gl X x)(hm:X.mg x=none)(hv:bootBuiltins x=some (.type T))(ha:PA X (e::es) t)(hn:x≠"__name__":=by decide)(hdb:(x == ("__debug__":Str))=false:=by decide)
 (he:starEach (e::es) X.env=(false,eval e X.env)::starEach es X.env:=by rfl) (hpl:(backTo pos (starEach es X.env)).any (·.1)=false:=by rfl):PE X (.Call (.Name x p) (e::es) [] pos) (tCB r t):=by
 intro pins s σ H Q I h;refine wpAny_Call_Name_kw (gH I hg hm hv ?_ hn hdb);exact PyProof.Rows.callWith_type1 (thn (ha pos pins s σ H _ I h) λus s1 ⟨vs,H1,I1,r1,q1⟩=>hc pins s1 σ H1 vs us Q I1 r1 q1) he hpl
end
end L2
namespace HT
open PySem PyProof.Rows
section
open PySem.SeqAt
open PySem.AutoSeq1 (wpAny_loadPart')
open PySem.MeetsSeq PySem.MeetsSeq2 PySem.MeetsSeq3
end
section
variable {prog:Program}{w:World}{A:Around}{E:Value->Shared->Prop}{s:Shared}
noncomputable def sIx(n d:Nat):Option Int->Nat
 |none=>d
 |some v=>if v<0 then(v+(n:Int)).toNat else min v.toNat n
theorem sIx_none(n d:Nat):sIx n d none=d:=rfl
theorem sIx_nat(n d k:Nat):sIx n d (some (k:Int))=min k n:=by show(if(k:Int)<0 then((k:Int)+(n:Int)).toNat else min (k:Int).toNat n)=min k n;rw[if_neg (by omega),Int.toNat_natCast]
end
end HT
namespace L2
open PySem PySem.Spec PyProof.Rows
abbrev TO:=St->Hp->(Option Int->Hp->Prop)->Prop
noncomputable def PO(X:Cx)(e:Option Expr)(t:TO):Prop :=
 ∀(pins:List (Addr×Obj)) (s:Shared) (σ:St) (H:Hp) (Q:Option Int->Hp->Prop),Inv X pins σ H s->t σ H Q ->
  wpAny (model X.prog X.w) X.A (evalPart e X.env) (λu s'=>∃o H',Inv X pins σ H' s'/\IsPart u o/\Q o H') X.xe s
noncomputable def CU:TO:=λ_ H Q=>Q none H
noncomputable def CT(t:TE):TO:=λσ H Q=>t σ H λx H1=>∃i,x=.int i/\Q (some i) H1
theorem oF{ns:List Int}:∀{us:List Value},Vals (ns.map V.int) us->IntsAre us ns:=by
 induction ns with
 |nil=>intro us r;rw[List.map_nil]at r;cases r;exact .nil
 |cons n ns ih =>
  intro us r;rw[Ri]at r;cases r with
  |cons r1 r2 =>obtain⟨t,e⟩:=r1;subst e;exact .cons n t (ih r2)
section
variable {X:Cx}{e:Expr}{te:TE}{lo hi:Option Expr}{tl th:TO}{pos p2:Pos}
theorem f8:PO X none CU:=by intro pins s σ H Q I h;rw[evalPart_none];exact wpAny_pure ⟨none,H,I,.none,h⟩
theorem eQ(h:PE X e te):PO X (some e) (CT te):=by
 intro pins s σ H Q I hw;rw[evalPart_some];refine thn (h pins s σ H _ I hw) λu s1 ⟨x,H1,I1,r1,q1⟩=>?_
 obtain⟨i,rfl,q⟩:=q1;obtain⟨t,rfl⟩:=r1;exact⟨some i,H1,I1,.int i t,q⟩
noncomputable def SlR(X:Cx)(r:V->Option Int->Option Int->Hp->VK->Prop):Prop :=
 ∀(pins:List (Addr×Obj)) (s:Shared) (σ:St) (H:Hp) (x:V) (v vl vu:Value) (lo hi:Option Int) (sl:Addr) (Q:VK),Inv X pins σ H s->RelV x v->s.heap.IsSliceOf sl vl vu .none->IsPart vl lo->IsPart vu hi->r x lo hi H Q ->
  ∃T id,typeLookup (.type T) "__getitem__"=pure (some (.builtin id))/\s.TypeIs v T/\wpAny (model X.prog X.w) X.A (getItem v (.ref sl)) (EP X pins σ Q) X.xe s
theorem SlR.or{r r':V->Option Int->Option Int->Hp->VK->Prop}(h:SlR X r)(h':SlR X r'):SlR X (λx lo hi H Q=>r x lo hi H Q\/r' x lo hi H Q):=by
 intro pins s σ H x v vl vu lo hi sl Q I rx hs pl pu q;rcases q with q |q
 ·exact h pins s σ H x v vl vu lo hi sl Q I rx hs pl pu q
 ·exact h' pins s σ H x v vl vu lo hi sl Q I rx hs pl pu q
def tSl(r:V->Option Int->Option Int->Hp->VK->Prop)(te:TE)(tl th:TO):TE:=λσ H Q=>te σ H λx H1=>tl σ H1 λl H2=>th σ H2 λu H3=>r x l u H3 Q
theorem fC{r:V->Option Int->Option Int->Hp->VK->Prop}(hr:SlR X r)(he:PE X e te)(hl:PO X lo tl)(hu:PO X hi th):PE X (.Subscript e (.Slice lo hi none p2) pos) (tSl r te tl th):=by
 intro pins s σ H Q I h;refine Subscript_ (thn (he pins s σ H _ I h) λv s1 ⟨x,H1,I1,r1,q1⟩=>?_);refine wpAny_Slice (thn (hl pins s1 σ H1 _ I1 q1) λvl s2 ⟨l,H2,I2,pl,q2⟩=>thn (hu pins s2 σ H2 _ I2 q2) λvu s3 ⟨u,H3,I3,pu,q3⟩=>?_);rw[evalPart_none];refine wpAny_pure ?_;have I4:Inv X pins σ H3 { s3 with heap:=s3.heap.push { cls:=.type "slice",data:=.fields #[vl,vu,.none] } }:=I3.kept (t':=s3.toks) λb ob q=>Heap.get?_push_of_some _ q
 obtain⟨T,id,hT,ht,hg⟩:=hr pins { s3 with heap:=s3.heap.push { cls:=.type "slice",data:=.fields #[vl,vu,.none] } } σ H3 x v vl vu l u s3.heap.objs.size Q I4 r1 (Heap.IsSliceOf.new ..) pl pu q3;show wpAny (model X.prog X.w) X.A (subscriptTail e (.Slice lo hi none p2) v (.ref s3.heap.objs.size)) (EP X pins σ Q) X.xe { s3 with heap:=s3.heap.push { cls:=.type "slice",data:=.fields #[vl,vu,.none] } };exact tail_any (ops:=[.ref s3.heap.objs.size,v]) ht hT hg (by with_unfolding_all rfl)
noncomputable def iE(xs:List V)(lo hi:Option Int):List V:=(xs.drop (HT.sIx xs.length 0 lo)).take (HT.sIx xs.length xs.length hi-HT.sIx xs.length 0 lo)
theorem Lm(xs:List V)(lo hi:Option Int):(iE xs lo hi).length<=xs.length:=by unfold iE;rw[Rn,Rr];omega
end
noncomputable def ixN(n:Nat)(i:Int):Option Nat:=if 0<=i then(if i<n then some i.toNat else none)else if -(n:Int)<=i then some (i+n).toNat else none
noncomputable def atI{α:Type}(xs:List α)(i:Int):Option α:=(ixN xs.length i).bind λj=>xs[j]?
theorem Ac{n:Nat}{i:Int}{j:Nat}(h:ixN n i=some j):seqIndex? i n=some j/\j<n /\ -(n:Int)<=i/\i<n:=by
 unfold ixN at h
 by_cases h0:0<=i
 ·rw[if_pos h0]at h;by_cases h1:i<n
  ·rw[if_pos h1]at h;have e:i.toNat=j:=Option.some.inj h;exact⟨by rw[seqIndex_of h0 h1,e],by omega,by omega,h1⟩
  ·rw[if_neg h1]at h;cases h
 ·rw[if_neg h0]at h;by_cases h1 : -(n:Int)<=i
  ·rw[if_pos h1]at h;have e:(i+n).toNat=j:=Option.some.inj h;exact⟨by rw[seqIndex_neg (by omega) h1,e],by omega,h1,by omega⟩
  ·rw[if_neg h1]at h;cases h
theorem vj{α:Type}{xs:List α}{i:Int}{v:α}(h:atI xs i=some v):∃j,seqIndex? i xs.length=some j/\xs[j]?=some v/\j<xs.length /\ -(xs.length:Int)<=i/\i<xs.length:=by
 unfold atI at h
 cases e:ixN xs.length i with
 |none=>rw[e]at h;cases h
 |some j =>rw[e]at h;obtain⟨h1,h2,h3,h4⟩:=Ac e;exact⟨j,h1,h,h2,h3,h4⟩
theorem ku{α:Type}{xs:List α}{j:Nat}{v:α}(h:xs[j]?=some v):atI xs (j:Int)=some v:=by
 have hj:j<xs.length:=(List.getElem?_eq_some_iff.mp h).1
 have e:ixN xs.length (j:Int)=some j:=by unfold ixN;rw[if_pos (by omega),if_pos (by omega)];simp
 unfold atI;rw[e];exact h
theorem vi{α:Type}(xs:List α)(v:α):atI (xs++[v]) (-1)=some v:=by
 have hl:(xs++[v]).length=xs.length+1:=by simp
 have e:ixN (xs++[v]).length (-1)=some xs.length:=by
  unfold ixN;rw[hl,if_neg (by decide),if_pos (by omega)]
  congr 1
  omega
 unfold atI;rw[e];show(xs++[v])[xs.length]?=some v;simp
def MJ(b:Expr):Prop:=∀o i,subscripted b false o i=operate [o,i] (getItem o i)
noncomputable def IxR(X:Cx)(r:R2):Prop :=
 ∀(value slice:Expr) (pins:List (Addr×Obj)) (s:Shared) (σ:St) (H:Hp) (x y:V) (v u:Value) (Q:VK),Inv X pins σ H s->RelV x v->RelV y u->r x y H Q ->
  subscripted slice false v u=operate [v,u] (getItem v u)->wpAny (model X.prog X.w) X.A (subscriptTail value slice v u) (EP X pins σ Q) X.xe s
noncomputable def MtR(X:Cx)(id:String)(r:V->List V->Hp->VK->Prop):Prop :=
 ∀(pins:List (Addr×Obj)) (s:Shared) (σ:St) (H:Hp) (x:V) (xs:List V) (v:Value) (us:List Value) (Q:VK),Inv X pins σ H s->RelV x v->Vals xs us->r x xs H Q ->
  wpAny (model X.prog X.w) X.A (call (.builtin id) (v::us)) (EP X pins σ Q) X.xe s
section
variable {X:Cx}{a b:Expr}{ta tb:TE}{pos:Pos}
theorem IxR.or{r r':R2}(h:IxR X r)(h':IxR X r'):IxR X (λx y H Q=>r x y H Q\/r' x y H Q):=by
 intro value slice pins s σ H x y v u Q I rx ry q hs;rcases q with q |q
 ·exact h value slice pins s σ H x y v u Q I rx ry q hs
 ·exact h' value slice pins s σ H x y v u Q I rx ry q hs
theorem MtR.or{id:String}{r r':V->List V->Hp->VK->Prop}(h:MtR X id r)(h':MtR X id r'):MtR X id (λx xs H Q=>r x xs H Q\/r' x xs H Q):=by
 intro pins s σ H x xs v us Q I rx rs q;rcases q with q |q
 ·exact h pins s σ H x xs v us Q I rx rs q
 ·exact h' pins s σ H x xs v us Q I rx rs q
theorem aI{r:R2}(hr:IxR X r)(ha:PE X a ta)(hb:PE X b tb)(hs:MJ b):PE X (.Subscript a b pos) (tOp r ta tb):=by intro pins s σ H Q I h;exact Subscript_ (uX ha hb I h λv u s2 x y H2 I2 rx ry q=>hr a b pins s2 σ H2 x y v u Q I2 rx ry q (hs _ _))
def yD(K:PySem.W.Frag):R2:=λx y H Q=>∃p xs i v,x=.ref p/\y=.int i/\SqL K H p xs/\atI xs i=some v/\Q v H
def yC(K:PySem.W.Frag):R2:=λx y H Q=>∃p xs i v,x=.ref p/\y=.int i/\SqT K H p xs/\atI xs i=some v/\Q v H
def ES:R2:=λx y H Q=>∃z i c,x=.str z/\y=.int i/\z.length<=sizeLine/\atI z.cps.toList i=some c/\Q (.str ⟨#[c]⟩) H
theorem JP:IxR X (yD X.K):=by
 intro value slice pins s σ H x y v u Q I rx ry h hs;obtain⟨p,xs,i,z,rfl,rfl,hq,he,q⟩:=h;cases rx;obtain⟨t,rfl⟩:=ry;obtain⟨its,r,pl,hz⟩:=I.list hq;obtain⟨j,h1,h2,h3,h4,h5⟩:=vj he;obtain⟨w,ew,rw'⟩:=r.get h2;have hl:=r.length;have hn:=jd;have fin:EP X pins σ Q w s:=⟨z,H,I,rw',q⟩;by_cases h0:0<=i
 ·have hj:i.toNat=j:=by rw[seqIndex_of h0 h5]at h1;exact Option.some.inj h1
  exact item_listR pl.isList h0 (by omega) (by rw[hj];simpa using ew) fin hs
 ·have hj:(i+(its.toArray.size:Int)).toNat=j:=by rw[seqIndex_neg (by omega) h4]at h1;rw[Ra,<- hl];exact Option.some.inj h1
  exact subscriptTail_builtinR (x:=w) pl.isList.typeIs slot_list_getitem.lookup
   (wpAny_getItem_list_neg (Q:=λr s'=>r=w/\EP X pins σ Q r s') pl.isList (by omega) (by rw[Ra]<;>omega) (by omega) (by rw[hj];simpa using ew) ⟨rfl,fin⟩) hs
theorem JN:IxR X (yC X.K):=by
 intro value slice pins s σ H x y v u Q I rx ry h hs;obtain⟨p,xs,i,z,rfl,rfl,hq,he,q⟩:=h;cases rx;obtain⟨t,rfl⟩:=ry;obtain⟨its,r,pl,hz⟩:=I.tuple hq;obtain⟨j,h1,h2,h3,h4,h5⟩:=vj he;obtain⟨w,ew,rw'⟩:=r.get h2;have hl:=r.length;have hn:=jd;have fin:EP X pins σ Q w s:=⟨z,H,I,rw',q⟩
 exact subscriptTail_builtinR (x:=w) pl.typeIs slot_tuple_getitem.lookup
  (getItem_tuple (j:=j) (Q:=λr s'=>r=w/\EP X pins σ Q r s') pl (by omega) (by omega) (by rw[Ra,<- hl];exact h1) (by simpa using ew) ⟨rfl,fin⟩) hs
theorem JO:IxR X ES:=by
 intro value slice pins s σ H x y v u Q I rx ry h hs;obtain⟨z,i,c,rfl,rfl,hz,he,q⟩:=h;obtain⟨t,rfl⟩:=rx;obtain⟨t',rfl⟩:=ry;obtain⟨j,h1,h2,h3,h4,h5⟩:=vj he;have hl:z.cps.toList.length=z.length:=by simp[Str.length]
 rw[hl]at h1 h4 h5;have hn:=jd
 exact tail_any (typeIs_str s z t) slot_str_getitem.lookup (getItem_str (c:=c) (by
  have e1:decide (i < -(2^63:Int))=false:=decide_eq_false (by omega);have e2:decide (i≥2^63)=false:=decide_eq_false (by omega)
  rw[e1,e2,Bool.or_false]) (by rw[h1];simpa using h2) ⟨.str ⟨#[c]⟩,H,I.tok _,⟨_,rfl⟩,q⟩) hs
theorem HA(its:List Value)(n j:Nat)(u:Value):Obj.mapSeq (·.setIfInBounds j u) { cls:=.type "list",data:=.seq its.toArray n }={ cls:=.type "list",data:=.seq (its.set j u).toArray n }:=by simp[Obj.mapSeq]
theorem Inv.lst{pins:List (Addr×Obj)}{σ:St}{H:Hp}{s:Shared}{p:Addr}{xs:List V}(I:Inv X pins σ H s)(h:H p=some (.lst xs)) :
 ∃(its:List Value) (n:Nat),Vals xs its/\s.heap.get? p=some { cls:=.type "list",data:=.seq its.toArray n }/\xs.length<=sizeLine:=by
 obtain⟨z,its,n,r,e⟩:=I.hok p _ h;exact⟨its,n,r,e,z⟩
theorem Inv.lstUpd{pins:List (Addr×Obj)}{σ:St}{H:Hp}{s:Shared}{p:Addr}{xs ys:List V}{its its':List Value}{n n':Nat}{f:Obj->Obj}(I:Inv X pins σ H s)(h:H p=some (.lst xs))
 (ho:s.heap.get? p=some { cls:=.type "list",data:=.seq its.toArray n }) (hf:f { cls:=.type "list",data:=.seq its.toArray n }={ cls:=.type "list",data:=.seq its'.toArray n' }) (r:Vals ys its') (hz:ys.length<=sizeLine) (t:Nat) :
 Inv X pins σ (upd H p (.lst ys)) { s with heap:=s.heap.update p f,toks:=t }:=by
 have e:(s.heap.update p f).get? p=some { cls:=.type "list",data:=.seq its'.toArray n' }:=by rw[Heap.get?_update_self f ho (by rw[hf]<;>rfl),hf]
 refine I.write (x:=p) (e:=p) (by rw[h];trivial) (.inl rfl) (λb u hb q=>(Heap.get?_update_other _ _ (Ne.symm hb)).trans q) ⟨_,e⟩ ?_;exact⟨hz,its',n',r,e⟩
noncomputable def EI:V->V->V->Hp->(Hp->Prop)->Prop:=λo i v H Q=>∃p xs k j,o=.ref p/\i=.int k/\H p=some (.lst xs)/\ixN xs.length k=some j/\Q (upd H p (.lst (xs.set j v)))
theorem ld:B5 X EI:=by
 intro pins s σ H o i v ov iv u Q I ro ri rv h;obtain⟨p,xs,k,j,rfl,rfl,hp,hj,q⟩:=h;cases ro;obtain⟨t,rfl⟩:=ri;obtain⟨its,n,r,ho,hz⟩:=I.lst hp;obtain⟨h1,h2,h3,h4⟩:=Ac hj;have hl:=r.length;have hn:=jd
 have I':Inv X pins σ (upd H p (.lst (xs.set j v))) { s with heap:=s.heap.update p (Obj.mapSeq (·.setIfInBounds j u)) } :=
  I.lstUpd hp ho (HA its n j u) (r.set rv j) (by rw[Sk];exact hz) s.toks
 by_cases h0:0<=k
 ·have hk:k.toNat=j:=by rw[seqIndex_of h0 h4]at h1;exact Option.some.inj h1
  exact PySem.W.ki_setAt ho h0 (by omega) (by rw[Ra,<- hl];exact h4) (by rw[hk];exact⟨_,I',q⟩)
 ·have hk:(k+(its.toArray.size:Int)).toNat=j:=by rw[seqIndex_neg (by omega) h3]at h1;rw[Ra,<- hl];exact Option.some.inj h1
  exact PySem.W.ki_setBack ho (by omega) (by rw[Ra,<- hl];exact h3) (by omega) (by rw[hk];exact⟨_,I',q⟩)
theorem Dp(lo hi:Option Int)(n:Nat):(sliceBounds lo hi none n).1=((HT.sIx n 0 lo:Nat):Int)/\(sliceBounds lo hi none n).2.1=((HT.sIx n n hi:Nat):Int)/\(sliceBounds lo hi none n).2.2=1:=by
 refine⟨?_,?_,rfl⟩
 ·cases lo with
  |none=>simp[sliceBounds,HT.sIx]
  |some i =>
   simp only[sliceBounds,HT.sIx,Option.getD_none,show(1:Int)>0 by decide,if_true];by_cases h:i<0
   ·simp only[h,if_true]<;>omega
   ·simp only[h,if_false]<;>omega
 ·cases hi with
  |none=>simp[sliceBounds,HT.sIx]
  |some i =>
   simp only[sliceBounds,HT.sIx,Option.getD_none,show(1:Int)>0 by decide,if_true];by_cases h:i<0
   ·simp only[h,if_true]<;>omega
   ·simp only[h,if_false]<;>omega
theorem Dq(its:List Value)(lo hi:Option Int):slicePick its.toArray lo hi none=((its.drop (HT.sIx its.length 0 lo)).take (HT.sIx its.length its.length hi-HT.sIx its.length 0 lo)).toArray:=by obtain⟨h1,h2,h3⟩:=Dp lo hi its.toArray.size;unfold slicePick;rw[h1,h2,h3];simp only[sliceRange_one,pick_run,Ra]<;>rfl
noncomputable def su(K:PySem.W.Frag):V->Option Int->Option Int->Hp->VK->Prop:=λx lo hi H Q=>∃a xs,x=.ref a/\SqL K H a xs/\∀p,H p=none->Q (.ref p) (upd H p (.lst (iE xs lo hi)))
theorem Dr:SlR X (su X.K):=by intro pins s σ H x v vl vu lo hi sl Q I rx hs pl pu h;obtain⟨a,xs,rfl,hx,q⟩:=h;cases rx;obtain⟨its,r,ht,hz⟩:=I.list hx;have hlen:=r.length;refine⟨"list",_,slot_list_getitem.lookup,ht.isList.typeIs,?_⟩;refine wpAny_getItem_list_slice ht.isList hs pl pu .none (by simp) ?_ (by rw[Ra]<;>omega);rw[Dq,<- hlen];refine⟨.ref s.heap.objs.size,_,I.laid (t':=s.toks) (o:=.lst (iE xs lo hi)) (λb ob q=>Heap.get?_push_of_some _ q) (QD _) ?_,rfl,q _ (I.hok.fresh (QD _))⟩;exact⟨QL (Lm xs lo hi) hz,_,0,(r.drop (HT.sIx xs.length 0 lo)).take (HT.sIx xs.length xs.length hi-HT.sIx xs.length 0 lo),Heap.get?_push_size _ rfl⟩
theorem LH:CallR X (.builtin "len") (λxs H Q=>∃p ys,xs=[.ref p]/\(SqL X.K H p ys\/SqT X.K H p ys)/\Q (.int ys.length) H):=by
 intro pins s σ H xs us Q I r h;obtain⟨p,ys,rfl,hq,q⟩:=h;obtain⟨u,rfl,rx⟩:=fm r;cases rx;have hn:=jd;rcases hq with hq |hq
 ·obtain⟨its,r',pl,hz⟩:=I.list hq;have hlen:=r'.length;exact Calls.call_len_list pl.isList (by simp only[Ra]<;>omega) ⟨.int ys.length,H,I.tok _,⟨s.toks+1,by rw[Ra,hlen]⟩,q⟩
 ·obtain⟨its,r',pl,hz⟩:=I.tuple hq;have hlen:=r'.length;exact len_tuple pl (by simp only[Ra]<;>omega) ⟨.int ys.length,H,I.tok _,⟨s.toks+1,by rw[Ra,hlen]⟩,q⟩
theorem uU:CallR X (.builtin "len") (λxs H Q=>∃z,xs=[.str z]/\z.length<=sizeLine/\Q (.int z.length) H):=by intro pins s σ H xs us Q I r h;obtain⟨z,rfl,hz,q⟩:=h;obtain⟨u,rfl,t,rfl⟩:=fm r;have hn:=jd;exact len_str (by omega) ⟨.int z.length,H,I.tok _,⟨_,rfl⟩,q⟩
theorem CallR.or{f:Value}{r r':List V->Hp->VK->Prop}(h:CallR X f r)(h':CallR X f r'):CallR X f (λxs H Q=>r xs H Q\/r' xs H Q):=by
 intro pins s σ H xs us Q I rs q;rcases q with q |q
 ·exact h pins s σ H xs us Q I rs q
 ·exact h' pins s σ H xs us Q I rs q
theorem LG:CallR X (.type "list") (λxs H Q=>∃p ys,xs=[.ref p]/\(SqL X.K H p ys\/SqT X.K H p ys)/\∀l,H l=none->Q (.ref l) (upd H l (.lst ys))):=by
 intro pins s σ H xs us Q I r h;obtain⟨p,ys,rfl,hq,q⟩:=h;obtain⟨u,rfl,rx⟩:=fm r;cases rx
 have fin:∀(its:List Value),Vals ys its->ys.length<=sizeLine->∀(h':Heap) (c':Nat),(∀b o',s.heap.get? b=some o'->h'.get? b=some o') ->
  h'.get? s.heap.objs.size=some { cls:=.type "list",dict:=none,data:=.seq its.toArray c',slots:=#[] }->EP X pins σ Q (.ref s.heap.objs.size) { s with heap:=h' }:=λits r' hz h' c' kp e =>
  ⟨.ref s.heap.objs.size,_,I.laid (t':=s.toks) kp (QD _) (show ObjOk X.prog X.w _ h' _ (.lst ys)from⟨hz,its,c',r',e⟩),rfl,q _ (I.hok.fresh (QD _))⟩
 rcases hq with hq |hq
 ·obtain⟨its,r',pl,hz⟩:=I.list hq;have hlen:=r'.length;obtain⟨o,ho,hc,n,hd⟩:=pl.isList;exact call_list_seq p (.inl rfl) ho hc hd (λh' c' kp e=>fin its r' hz h' c' kp e) (by simp only[Ra]<;>omega)
 ·obtain⟨its,r',pl,hz⟩:=I.tuple hq;have hlen:=r'.length;obtain⟨o,ho,hc,n,hd⟩:=pl;exact call_list_seq p (.inr rfl) ho hc hd (λh' c' kp e=>fin its r' hz h' c' kp e) (by simp only[Ra]<;>omega)
def tyV(K:PySem.W.Frag)(T:String)(x:V)(H:Hp):Prop:=match x with
 |.str _=>T="str"
 |.int _=>T="int"
 |.ref p=>(T="list"/\∃xs,SqL K H p xs)\/(T="tuple"/\∃o,K.lookup p=some o/\o.cls=.type "tuple"/\o.dict=none) \/
  (T="dict"/\((∃kvs,H p=some (.dK kvs))\/∃kvs,H p=some (.dT kvs)))\/(T="set"/\∃S n,H p=some (.set S n))
 |_=>False
theorem v7{pins:List (Addr×Obj)}{σ:St}{H:Hp}{s:Shared}{T:String}{x:V}{v:Value}(I:Inv X pins σ H s)(r:RelV x v)(ty:tyV X.K T x H) :
 s.TypeIs v T/\∀a,v=.ref a->∃ob,s.heap.get? a=some ob/\ob.dict=none:=by
 cases x with
 |str z =>obtain⟨t,rfl⟩:=r;cases(show T="str" from ty);exact⟨typeIs_str s z t,λ_ e=>nomatch e⟩
 |int i =>obtain⟨t,rfl⟩:=r;cases(show T="int" from ty);exact⟨typeIs_int s i t,λ_ e=>nomatch e⟩
 |ref p =>
  cases r;rcases ty with⟨rfl,xs,hq⟩ |⟨rfl,o,hk,hc,hd⟩ |⟨rfl,hk⟩ |⟨rfl,S,n,hk⟩
  ·obtain⟨its,_,pl,_⟩:=I.list hq;refine⟨pl.isList.typeIs,λa e=>?_⟩;cases e;obtain⟨o,n,e,c,hd,_⟩:=pl;exact⟨o,e,hd⟩
  ·refine⟨⟨o,I.kIn p o hk,hc⟩,λa e=>?_⟩;cases e;exact⟨o,I.kIn _ o hk,hd⟩
  ·have z:∃o,s.heap.get? p=some o/\o.ExactDict:=by
    rcases hk with⟨kvs,hk⟩ |⟨kvs,hk⟩
    ·obtain⟨_,_,_,_,o,_,_,e,ex,_⟩:=I.hok p _ hk;exact⟨o,e,ex⟩
    ·obtain⟨_,_,_,_,o,_,_,e,ex,_⟩:=I.hok p _ hk;exact⟨o,e,ex⟩
   obtain⟨o,e,ex⟩:=z;refine⟨⟨o,e,ex.1⟩,λa e2=>?_⟩;cases e2;exact⟨o,e,ex.2.1⟩
  ·obtain⟨o,_,_,_,e,ex,_⟩:=I.hok p _ hk;refine⟨⟨o,e,ex.1⟩,λa e2=>?_⟩;cases e2;exact⟨o,e,ex.2.1⟩
 |_=>exact False.elim ty
def Da(K:PySem.W.Frag)(T:String)(r:V->List V->Hp->VK->Prop)(to:TE):TE:=λσ H Q=>to σ H λx H1=>tyV K T x H1/\r x [] H1 Q
def tBM(K:PySem.W.Frag)(T:String)(r:V->List V->Hp->VK->Prop)(to:TE)(t:TA):TE:=λσ H Q=>to σ H λx H1=>tyV K T x H1/\t σ H1 λxs H2=>r x xs H2 Q
variable {o e:Expr}{es:List Expr}{to:TE}{t:TA}{name:Str}{apos cpos:Pos}{T id:String}{r:V->List V->Hp->VK->Prop}
theorem sF(pa:PlainAttrs T)(slot:Slot T name id)(hty:typeOf (.builtin id)=pure (.type "method_descriptor"))(hm:MtR X id r)(ho:PE X o to)
 (hbase:attributeBase o name X.env (eval o X.env)=eval o X.env:=by rfl) (hline:(apos.endLine == cpos.line)=true:=by rfl):PE X (.Call (.Attribute o name apos) [] [] cpos) (Da X.K T r to):=by
 intro pins s σ H Q I h;refine wpAny_Call_method0_late hbase hline (thn (ho pins s σ H _ I h) λv s1 ⟨x,H1,I1,r1,ty,q1⟩=>?_);obtain⟨h1,h2⟩:=v7 I1 r1 ty;exact⟨T,id,pa,slot,hty,h1,h2,Calls.callWith_builtin rfl (PySem.evalArgs_none (hm pins s1 σ H1 x [] v [] Q I1 r1 .nil q1))⟩
theorem fF(pa:PlainAttrs T)(slot:Slot T name id)(hty:typeOf (.builtin id)=pure (.type "method_descriptor"))(hm:MtR X id r)(ho:PE X o to)(ha:PA X (e::es) t)
 (hbase:attributeBase o name X.env (eval o X.env)=eval o X.env:=by rfl)
 (hfew:((backTo cpos (starEach (e::es) X.env)).all (λx=>!x.1)&&(backToKw cpos (keywordEach [] X.env)).all (λx=>x.1.isSome)
   && decide ((e::es).length+([]:List Keyword).length+(if([]:List Keyword).isEmpty then 0 else 1)<30))=true:=by rfl)
 (hline:(apos.endLine == cpos.line)=true:=by rfl) (hs:starEach (e::es) X.env=(false,eval e X.env)::starEach es X.env:=by rfl) (hplain:(backTo cpos (starEach es X.env)).any (·.1)=false:=by rfl) :
 PE X (.Call (.Attribute o name apos) (e::es) [] cpos) (tBM X.K T r to t):=by
 intro pins s σ H Q I h;refine wpAny_Call_method_late hbase hfew hline rfl (thn (ho pins s σ H _ I h) λv s1 ⟨x,H1,I1,r1,ty,q1⟩=>?_);obtain⟨h1,h2⟩:=v7 I1 r1 ty;refine⟨T,id,pa,slot,hty,h1,h2,?_⟩;have hA:=ha cpos pins s1 σ H1 _ I1 q1;rw[hs]at hA ⊢;refine Calls.callWith_builtin (by show(false || (backTo cpos (starEach es X.env)).any (·.1))=false;rw[hplain]<;>rfl) (Calls.evalArgs_plain ?_);exact thn hA λus s2 ⟨vs,H2,I2,r2,q2⟩=>hm pins s2 σ H2 x vs v us Q I2 r1 r2 q2
end
noncomputable def MtM(X:Cx)(id:String)(r:V->List V->Hp->VK->Prop):Prop :=
 ∀(pins:List (Addr×Obj)) (s:Shared) (σ:St) (H:Hp) (x:V) (xs:List V) (v:Value) (us:List Value) (Q:VK),Inv X pins σ H s->RelV x v->Vals xs us->r x xs H Q ->
  wpAny (model X.prog X.w) X.A (call (.builtin id) (v::us)) (EP X pins σ Q) X.xe s
theorem Vals.one:∀{x:V} {us:List Value},Vals [x] us->∃u,us=[u]/\RelV x u
 |_,_,.cons r .nil=>⟨_,rfl,r⟩
theorem Vals.two:∀{x y:V} {us:List Value},Vals [x,y] us->∃u v,us=[u,v]/\RelV x u/\RelV y v
 |_,_,_,.cons r (.cons q .nil)=>⟨_,_,rfl,r,q⟩
theorem Vals.zero:∀{us:List Value},Vals [] us->us=[]
 |_,.nil=>rfl
theorem Vals.dropLast{xs:List V}{us:List Value}(h:Vals xs us):Vals xs.dropLast us.dropLast:=by
 induction h with
 |nil=>exact .nil
 |cons r t ih =>
  cases t with
  |nil=>exact .nil
  |cons q t'=>exact .cons r ih
theorem Vals.eraseIdx:∀{xs:List V} {us:List Value} (i:Nat),Vals xs us->Vals (xs.eraseIdx i) (us.eraseIdx i)
 |_,_,_,.nil=>.nil
 |_,_,0,.cons _ t=>t
 |_,_,i+1,.cons r t=>.cons r (Vals.eraseIdx i t)
theorem Vals.reverse{xs:List V}{us:List Value}(h:Vals xs us):Vals xs.reverse us.reverse:=by
 induction h with
 |nil=>exact .nil
 |cons r t ih=>rw[List.reverse_cons,List.reverse_cons];exact Vals.append ih (.cons r .nil)
theorem Vals.rep{xs:List V}{us:List Value}(h:Vals xs us):∀k:Nat,Vals (List.replicate k xs).flatten (List.replicate k us).flatten
 |0=>.nil
 |k+1=>by rw[R3,R3,R4,R4];exact Vals.append h (Vals.rep h k)
theorem KZ{α:Type}(l:List α):l.eraseIdx (l.length-1)=l.dropLast:=by
 induction l with
 |nil=>rfl
 |cons a r ih =>
  cases r with
  |nil=>rfl
  |cons b r =>
   have e:(a::b::r).length-1=((b::r).length-1)+1:=by have h1:(a::b::r).length=r.length+2:=rfl;have h2:(b::r).length=r.length+1:=rfl;omega
   rw[e,List.eraseIdx_cons_succ,ih]
   all_goals rfl
theorem AE(its:List Value):∀(k:Nat) (acc:List Value),
 List.foldl (λx1 x2=>x1++x2) acc.toArray (List.replicate k its.toArray)=(acc++(List.replicate k its).flatten).toArray
 |0,acc=>by simp
 |k+1,acc=>by
  have e:acc.toArray++its.toArray=(acc++its).toArray:=by simp
  have e2:(acc++its)++(List.replicate k its).flatten=acc++(List.replicate (k+1) its).flatten:=by rw[R3,R4,RW]
  rw[<- e2,<- AE its k (acc++its),<- e,R3,List.foldl_cons]
section
variable {X:Cx}{pins:List (Addr×Obj)}{σ:St}{H:Hp}{s:Shared}{l b:Addr}{xs ys zs:List V}
theorem Inv.lset{its its':List Value}{n:Nat}{f:Array Value->Array Value}{t':Nat}(I:Inv X pins σ H s)(hH:H l=some (.lst xs))
 (e:s.heap.get? l=some { cls:=.type "list",data:=.seq its.toArray n }) (hf:f its.toArray=its'.toArray) (hv:Vals ys its') (hz:ys.length<=sizeLine) :
 Inv X pins σ (upd H l (.lst ys)) { s with heap:=s.heap.update l (Obj.mapSeq f),toks:=t' }:=by
 have q:=PySem.IsL.update e f;rw[hf]at q;refine I.write (x:=l) (e:=l) (by rw[hH];exact trivial) (.inl rfl) (λb' u hb hu=>(Heap.get?_update_other s.heap (Obj.mapSeq f) (Ne.symm hb)).trans hu) ⟨_,q⟩ ?_;exact⟨hz,its',_,hv,q⟩
theorem Inv.lnew{its:List Value}{t':Nat}(I:Inv X pins σ H s)(hv:Vals ys its)(hz:ys.length<=sizeLine) :
 Inv X pins σ (upd H s.heap.objs.size (.lst ys)) { s with heap:=s.heap.push { cls:=.type "list",data:=.seq its.toArray },toks:=t' } :=
 I.laid (λ_ _ q=>Heap.get?_push_of_some _ q) (QD _) ⟨hz,its,0,hv,Heap.get?_push_size _ rfl⟩
theorem Inv.fresh(I:Inv X pins σ H s):H s.heap.objs.size=none:=I.hok.fresh (QD _)
theorem Inv.lstM(I:Inv X pins σ H s)(hH:H l=some (.lst xs)):xs.length<=sizeLine/\∃(its:List Value) (n:Nat),Vals xs its/\xs.length=its.length/\s.heap.get? l=some { cls:=.type "list",data:=.seq its.toArray n }:=by obtain⟨z,its,n,r,e⟩:=I.hok l _ hH;exact⟨z,its,n,r,r.length,e⟩
theorem Hf{n:Nat}(h:n<=sizeLine):Builtin.List.listTooLong n=false:=by unfold Builtin.List.listTooLong;exact decide_eq_false (by omega)
end
section
variable {X:Cx}
noncomputable def ET:V->List V->Hp->VK->Prop:=λx vs H Q=>∃l xs y,x=.ref l/\vs=[y]/\H l=some (.lst xs)/\xs.length<sizeLine/\Q .non (upd H l (.lst (xs++[y])))
theorem iw:MtM X "list.append" ET:=by intro pins s σ H x vs v us Q I rx rv h;obtain⟨l,xs,y,rfl,rfl,hH,hz,q⟩:=h;cases rx;obtain⟨u,rfl,ru⟩:=rv.one;obtain⟨z,its,n,r,hl,e⟩:=I.lstM hH;refine call_meets F.slot_list_append ⟨_,e,rfl⟩ F.entry_list_append (F.args_list_append_2 _ _) (PySem.list_append l its.toArray n u (by rw[Ra];omega)) ⟨e,?_⟩;refine⟨.non,_,I.lset (its':=its++[u]) hH e (by simp) (r.append (.cons ru .nil)) ?_,rfl,q⟩;rw[QO,List.length_singleton];omega
noncomputable def EN:V->List V->Hp->VK->Prop:=λx vs H Q=>∃l xs y,x=.ref l/\vs=[]/\H l=some (.lst xs)/\xs[xs.length-1]?=some y/\Q y (upd H l (.lst xs.dropLast))
theorem Hn:MtM X "list.pop" EN:=by
 intro pins s σ H x vs v us Q I rx rv h;obtain⟨l,xs,y,rfl,rfl,hH,hy,q⟩:=h;cases rx;have hus:=rv.zero;subst hus;obtain⟨z,its,n,r,hl,e⟩:=I.lstM hH;obtain⟨u,hu,ru⟩:=r.get hy
 have hy':its.toArray[its.toArray.size-1]?=some u:=by show its.toArray[its.length-1]?=some u;rw[<- Array.getElem?_toList,<- hl];exact hu
 refine call_meets F.slot_list_pop ⟨_,e,rfl⟩ F.entry_list_pop (F.args_list_pop_1 _) (MeetsSeq.list_pop_last l its.toArray n u hy' (by rw[Ra];omega)) ⟨e,?_⟩;refine⟨y,_,I.lset (its':=its.dropLast) hH e ?_ r.dropLast ?_,ru,q⟩
 ·show its.toArray.eraseIdxIfInBounds (its.toArray.size-1)=its.dropLast.toArray;rw[Ra,List.eraseIdxIfInBounds_toArray,KZ]
 ·rw[List.length_dropLast];omega
noncomputable def EJ:V->List V->Hp->VK->Prop:=λx vs H Q=>∃l xs,x=.ref l/\vs=[]/\H l=some (.lst xs)/\Q .non (upd H l (.lst xs.reverse))
theorem zw:MtM X "list.reverse" EJ:=by intro pins s σ H x vs v us Q I rx rv h;obtain⟨l,xs,rfl,rfl,hH,q⟩:=h;cases rx;have hus:=rv.zero;subst hus;obtain⟨z,its,n,r,hl,e⟩:=I.lstM hH;refine call_meets F.slot_list_reverse ⟨_,e,rfl⟩ F.entry_list_reverse (F.args_list_reverse_1 _) (AutoSeq1.list_reverse_list_0 l its.toArray n (by rw[Ra];omega)) ⟨e,?_⟩;refine⟨.non,_,I.lset (its':=its.reverse) hH e (by simp) r.reverse ?_,rfl,q⟩;rw[List.length_reverse];omega
def EK:R2:=λx y H Q=>∃l k xs,x=.ref l/\y=.int k/\H l=some (.lst xs) /\ -(2^63)<=k/\k<2^63/\xs.length*k.toNat<=sizeLine /\
 ∀p,H p=none->Q (.ref p) (upd H p (.lst (List.replicate k.toNat xs).flatten))
theorem IK{α:Type}(xs:List α)(k:Nat):(List.replicate k xs).flatten.length=k*xs.length:=by
 induction k with
 |zero=>simp
 |succ k ih=>rw[R3,R4,QO,ih,Nat.succ_mul,Nat.add_comm]
theorem sL:OpR X (binaryOp .Mult) EK:=by
 intro pins s σ H x y v u Q I rx ry h;obtain⟨l,k,xs,rfl,rfl,hH,h1,h2,hz,q⟩:=h;cases rx;obtain⟨t,rfl⟩:=ry;obtain⟨z,its,n,r,hl,e⟩:=I.lstM hH;have hlen:its.toArray.size*k.toNat<=sizeLine:=by rw[Ra,<- hl];exact hz
 have hcap:¬its.toArray.size*k.toNat>(2^63-1)/8:=by
  have:(sizeLine:Nat)<=(2^63-1)/8:=by decide
  omega
 have hfit:¬(!Builtin.List.listFitsIndex k)=true:=by rw[fitsIndex_both h1 h2];exact Rh
 have hlong:¬Builtin.List.listTooLong (its.toArray.size*k.toNat)=true:=by rw[Hf hlen];exact Rh
 have hnew:List.foldl (λx1 x2=>x1++x2) #[] (List.replicate (if its.toArray.isEmpty=true then 0 else k.toNat) its.toArray)=(List.replicate k.toNat its).flatten.toArray:=by
  have f0:∀m:Nat,List.foldl (λx1 x2=>x1++x2) #[] (List.replicate m its.toArray)=(List.replicate m its).flatten.toArray:=λm=>by have:=AE its m [];rw[List.nil_append]at this;exact this
  rw[f0];cases its with
  |nil=>simp
  |cons a r'=>rw[if_neg (by simp)]
 refine wpAny_binaryOp_repeat_ref (T:="list") (U:="int") (by decide) ⟨_,e,rfl⟩ (λs'=>typeIs_int s' k t) noFill_list_mul F.fills_int_mul F.slot_int_rmul repeat_list F.slot_int_index.lookup
  (call_meets F.slot_int_rmul (typeIs_int s k t) F.entry_int_rmul (F.args_int_rmul_2 _ _) (int___rmul___int_list k t l its.toArray n)
    ⟨e,rfl,⟨_,e,rfl⟩,call_meets F.slot_list_mul ⟨_,e,rfl⟩ F.entry_list_mul (F.args_list_mul_2 _ _) (AutoListH.list___mul___list_int_3 l its.toArray n k t hfit hcap hlong) ⟨e,?_⟩⟩)
 rw[hnew];exact⟨.ref _,_,I.lnew (t':=s.toks) (r.rep k.toNat) (by rw[IK,RJ];exact hz),rfl,q _ I.fresh⟩
end
section
variable {prog:Program}{w:World}{A:Around}{E:Value->Shared->Prop}{s:Shared}
end
section
variable {X:Cx}
end
end L2
namespace Att
open PySem PySem.W PySem.Calls PyProof.Rows
theorem JU{P:Params}{h:Heap}:∀(ns:List Int) (vs:List Value),WellAll P h vs (ns.map WData.int)->IntsAre vs ns:=by
 intro ns
 induction ns with
 |nil =>intro vs w;rw[List.map_nil]at w;cases w;exact .nil
 |cons n ns ih =>
  intro vs w;rw[Ri]at w;cases w with
  |cons a b =>cases a;exact .cons _ _ (ih _ b)
theorem DK{l:OpenLaw}{n:Nat}(hn:l.most=some n){P:Params}{h:Heap}{args:List WData}{vals:List Value}
 (hpre:l.row.toRowW.claim.pre args=true) (hwl:WellAll P h vals args) :
 ∃a vs ns,vals=[Value.ref a]/\args=[WData.list (ns.map WData.int)]/\h.get? a=some { cls:=.type "list",data:=.seq vs.toArray }/\IntsAre vs ns/\ns.length<=n:=by
 have hsh:WShape.hasAll [] args [.list .int]=true:=(pre_splitW hpre).1;have hc:l.pre.holds [] { args:=args }=true:=(pre_splitW hpre).2;obtain⟨d,r,rfl,h1,h2⟩:=hasAllW_cons hsh;obtain rfl:=hasAllW_nil h2;obtain⟨xs,rfl,h3⟩:=hasW_list h1;obtain⟨ns,rfl⟩:=items_int h3
 have hlen:ns.length<=n:=by
  unfold OpenLaw.pre at hc
  have h4:(WTm.not (.lt (.lit (.int (n:Int))) (.len (.arg 0)))).holds [] { args:=[.list (ns.map .int)] }=true:=by have h4:=(holds_andW hc).1;rw[hn]at h4;exact h4
  have h5:=condW_of h4 (w_not (w_lt w_lit (w_len_list (w_arg rfl))));rw[QB]at h5;refine RK λq=>?_
  have q':(n:Int)<((ns.length:Nat):Int):=by omega
  first
   | (rw[decide_eq_true q']at h5;exact absurd h5 (by decide))
   | (simp at h5;omega)
 cases hwl with
 |cons w1 w2 =>
  cases w2;cases w1 with
  |list ho hall=>exact⟨_,_,ns,rfl,rfl,ho,JU ns _ hall,hlen⟩
theorem E6(l:OpenLaw)(args:List WData):l.row.toRowW.claim.post args (.bool true) args=true :=
 postW_of (r:=l.row.toRowW) (X:=(true == true))
  (show WShape.has [] (.bool true) .bool=true by first |rfl |decide |simp[WShape.has,WShape.arms,WShape.armsAll])
  (show(WTm.eq .res (.lit (.bool true))).value [] { args:=args,res:=some (.bool true),after:=args }=some (.bool (true == true))from w_eq_bool (w_res rfl) w_lit) rfl
theorem attach_call{l:OpenLaw}{n:Nat}{q:Program}{loose:List Str}{XP:(Str->Option Value)->Heap->Prop}{YP:World->Heap->Prop}{d:DefRec}
 (hn:l.most=some n) (hdf:d.params.defaults=[])
 (call:∀(w:World) (s₀ s₁:Shared) (mg mb:Str->Option Value) (fa:Addr) (o:Obj) (pm cd doc:Value) (a:Addr) (vs:List Value) (ns:List Int),
   Ground q loose [] XP w s₀ mg mb s₁.heap->YP w s₁.heap ->
   s₁.heap.get? fa=some o->o.data=.func (docDef d.name d.params d.body d.scope pm cd doc)->s₁.heap.CodeRec cd d.name->mg d.name=some (.ref fa) ->
   s₁.heap.get? a=some { cls:=.type "list",data:=.seq vs.toArray }->IntsAre vs ns->ns.length<=n->s₁.gens=#[] ->
   codeAny (model l.prog w) callerA (.call (.ref fa) ⟨[.ref a],[]⟩) (λr s'=>r=.ok (.ret (.bool true))/\OldK s₁.heap s'.heap/\s'.os=s₁.os/\AllBare s'.gens) s₁) :
 WalkO q loose XP YP l.row.toRowW d [] (λf vs=>PySem.call f vs):=by
 intro w s₀ s₁ mg mb G Y fa o pm cd doc dV kV ho hd hcd hD hmg hg args vals as hpre hlay hrd hwl hlo;obtain rfl:dV=.none:=Dflts.none hD hdf;obtain rfl:kV=.none:=Dflts.noKw hD;obtain⟨a,vs,ns,rfl,rfl,hobj,hints,hlen⟩:=DK hn hpre hwl;refine enter_call (codeAny_mono (call w s₀ s₁ mg mb fa o pm cd doc a vs ns G Y ho (fd_plain hd) hcd hmg hobj hints hlen hg) λr s' hq=>?_);obtain⟨rfl,h2,h3,h4⟩:=hq;exact⟨.inl ⟨.bool true,.bool true,[],rfl,λ_=>rfl,.bool true,E6 l _,λ_=>⟨List.Pairwise.nil,λ_ hm=>(nomatch hm)⟩⟩,h2,h3,h4⟩
section
variable {prog:Program}{w:World}{A:Around}{E:Value->Shared->Prop}{s:Shared}{K:Frag}
end
end Att
namespace L2
open PySem PySem.Spec PyProof.Rows
theorem vX:∀{vs:List Value} {ns:List Int},IntsAre vs ns->Vals (ns.map V.int) vs
 |_,_,.nil=>.nil
 |_,_,.cons n t h=>.cons ⟨t,rfl⟩ (vX h)
def vq(H:Hp):Prop:=∀b,H b=none\/∃o xs,H b=some (.frz o (.lst xs))
noncomputable def jj(s:Stmt)(j:Nat):Stmt:=match s with
 |.ClassDef _ _ _ body _ _ _ _ _ _ _=>body.getD j (.Pass ⟨0,0,0,0⟩)
 |_=>.Pass ⟨0,0,0,0⟩
noncomputable def dQ(s:Stmt):Arguments:=match s with
 |.FunctionDef _ a _ _ _ _ _ _ _ _=>a
 |_=>{ posonlyargs:=[],args:=[],vararg:=none,kwonlyargs:=[],kw_defaults:=[],kwarg:=none,defaults:=[] }
noncomputable def dk(s:Stmt):List Stmt:=match s with
 |.FunctionDef _ _ b _ _ _ _ _ _ _=>b
 |_=>[]
noncomputable def aD(s:Stmt):Scope:=match s with
 |.FunctionDef _ _ _ _ _ _ sc _ _ _=>sc
 |_=>{ kind:=.function,names:=[],isGenerator:=false,isCoroutine:=false }
abbrev CX0:CXT:=λ_ _ _ _ _ _=>False
abbrev E0:XK:=λ_ _ _=>False
theorem aj{X:Cx}:jy CX0 X E0:=λ_ _ _ _ _ _ _ h=>h.elim
structure Fun(K:PySem.W.Frag)(x qual:Str)(st:Stmt)(f:Addr)(fd:FuncData):Prop where
 ex:∃(oc:Value) (od:Option Addr) (kV doc pm:Value) (an:Option Addr) (cdv ct:Value) (osl:Array (Option Value)),
  fd=PySem.W.fnOf x qual (dQ st) (dk st) (aD st) .none kV doc pm an cdv ct/\K.lookup f=some ⟨oc,od,.func fd,osl⟩/\PySem.W.codeIn K cdv qual=true
 kp:PySem.W.keepIn K (.ref f)=true
section
variable {P:Program}{w:World}{K:PySem.W.Frag}{mg:Str->Option Value}{base:Heap}
theorem Fun.ok{x qual:Str}{st:Stmt}{f:Addr}{fd:FuncData}{N ps:List Str}{k:Nat}{sp:Sp}(F:Fun K x qual st f fd)(S:FnScope N ps (aD st))(len:∀vs H Q E,sp vs H Q E->vs.length=ps.length)
 (hbody:∀(cdv:Value) (A:Around) (outer:List Env) (s:Shared) (H:Hp) (vs:List V) (Q:VK) (E:XK),Room k (A.deeper (envOfC qual (aD st) s.heap.objs.size f cdv))->sp vs H Q E ->
   ∃t,PSs (jp CX0 P w K mg base N qual (aD st) f cdv A outer s H E).nox (dk st) t/\t { nx:=λ_ H'=>Q .non H',rt:=Q } (start N vs) H):FnOk P w K mg base CX0 (k+1) f fd ps sp:=by
 obtain⟨oc,od,kV,doc,pm,an,cdv,ct,osl,rfl,lk,hcd⟩:=F.ex;refine AH lk hcd S len λA outer s H vs Q E hr hsp=>?_
 obtain⟨t,h,q⟩:=hbody cdv A outer s H vs Q E hr hsp;exact⟨t,h.nox,q⟩
theorem Fun.binds{x qual:Str}{st:Stmt}{f:Addr}{fd:FuncData}{ps:List Str}(F:Fun K x qual st f fd)
 (h:∀(kV doc pm:Value) (an:Option Addr) (cdv ct:Value) (us:List Value),us.length=ps.length->bindArgs (PySem.W.fnOf x qual (dQ st) (dk st) (aD st) .none kV doc pm an cdv ct) ⟨us,[]⟩=pure (ps.zip us)):Binds K fd ps []:=by
 obtain⟨oc,od,kV,doc,pm,an,cdv,ct,osl,rfl,lk,hcd⟩:=F.ex;exact .all (h kV doc pm an cdv ct)
theorem AC{x qual:Str}{st:Stmt}{f:Addr}{oc:Value}{od an:Option Addr}{osl:Array (Option Value)}{kV doc pm cdv ct:Value}(l:K.lookup f=some ⟨oc,od,.func (PySem.W.fnOf x qual (dQ st) (dk st) (aD st) .none kV doc pm an cdv ct),osl⟩)
 (c:PySem.W.codeIn K cdv qual=true) (k:PySem.W.keepIn K (.ref f)=true):Fun K x qual st f (PySem.W.fnOf x qual (dQ st) (dk st) (aD st) .none kV doc pm an cdv ct):=⟨⟨oc,od,kV,doc,pm,an,cdv,ct,osl,rfl,l,c⟩,k⟩
end
section
variable {X:Cx}
theorem pv(i:Nat){x:Str}{pos:Pos}(hN:X.N[i]?=some x:=by rfl)(hv:Vis X.env.scope x:=by first |exact Or.inl rfl |exact Or.inr (Or.inl rfl) |exact Or.inr (Or.inr rfl))(hd:(x == ("__debug__":Str))=false:=by decide)
 (hcd:(x == ("__classdict__":Str))=false:=by decide):PE X (.Name x pos) (wg i):=Fi hN hv hd hcd
end
def Same(H H':Hp):Prop:=∀b o,H b=some o->H' b=some o
theorem Same.refl(H:Hp):Same H H:=λ_ _ h=>h
theorem Same.trans{H H1 H2:Hp}(a:Same H H1)(b:Same H1 H2):Same H H2:=λc o h=>b c o (a c o h)
theorem Same.free{H H':Hp}(e:Same H H'){l:Addr}(h:H' l=Option.none):H l=Option.none:=by
 cases q:H l with
 |none=>rfl
 |some o =>rw[e l o q]at h;cases h
theorem Same.seq{K:PySem.W.Frag}{H H':Hp}{a:Addr}{xs:List V}(e:Same H H')(h:SqL K H a xs):SqL K H' a xs:=by
 rcases h with(h |⟨o,h⟩) |h
 ·exact .inl (.inl (e _ _ h))
 ·exact .inl (.inr ⟨o,e _ _ h⟩)
 ·exact .inr h
end L2
set_option maxHeartbeats 4000000
namespace L2
open PySem PySem.Spec PyProof.Rows
noncomputable def iD(X:Cx)(N:List Str)(scope:Scope)(cl:List (Str×Addr))(C:Addr)(s₀:Shared)(H₀:Hp)(ex:List Addr):Cx where
 prog:=X.prog
 w:=X.w
 K:=X.K
 mg:=X.mg
 base:=X.base
 A:=X.A
 N:=N
 s₀:=s₀
 H₀:=H₀
 env:=compEnvC scope cl C X.env
 outer:=X.stack
 stack:=X.stack
 ex:=ex
 fn:=λ_=>false
 calm:=X.calm
 pn:=[]
 xe:=λ_ _=>False
structure CompOk(X:Cx)(fr:List Str)(js:List Nat)(scope:Scope)(cl:List (Str×Addr)):Prop where
 clos:closureFor scope X.env=pure cl
 cell:∀y∈scope.names,y.2≠.cell
 kind:scope.kind=.function
 names:∀y∈scope.names,y.2=.local->scope.names.lookup y.1=some .local
 clin:∀p∈cl,X.env.cells.lookup p.1=some p.2
 has:scope.names.all (λp=>p.2 != .free || (cl.lookup p.1).isSome)=true
 fre:Paired (λ(x:Str) (j:Nat)=>X.N[j]?=some x/\(X.env.scope.names.lookup x=some .cell\/X.env.scope.names.lookup x=some .free)/\scope.names.lookup x=some .free) fr js
theorem sh{env:Env}{x:Str}{k':NameKind}:∀{names:List (Str×NameKind)},
 (names.map λ(n,k)=>if(k == NameKind.free&&env.scope.kind == .function&&env.kindOf n == some .cell)then(n,NameKind.cell)else(n,k)).lookup x=some k' ->
 ∃k,names.lookup x=some k/\(k'=k\/(k=.free/\k'=.cell))
 | [],h=>by simp at h
 | (n,k)::r,h=>by
  have ih:=@sh env x k' r;change List.lookup x ((if(k == NameKind.free&&env.scope.kind == .function&&env.kindOf n == some .cell)=true then(n,NameKind.cell)else(n,k))::_)=_ at h
  by_cases hc:(k == NameKind.free&&env.scope.kind == .function&&env.kindOf n == some .cell)=true
  ·rw[if_pos hc]at h;cases hx:x == n with
   |true =>simp only[Sa,hx]at h ⊢;cases h;refine⟨k,rfl,.inr ⟨?_,rfl⟩⟩;simp only[SQ,beq_iff_eq]at hc;exact hc.1.1
   |false =>simp only[Sa,hx]at h ⊢;exact ih h
  ·rw[if_neg hc]at h;cases hx:x == n with
   |true =>simp only[Sa,hx]at h ⊢;cases h;exact⟨_,rfl,.inl rfl⟩
   |false =>simp only[Sa,hx]at h ⊢;exact ih h
theorem yq{env:Env}{x:Str}:∀{names:List (Str×NameKind)},names.lookup x=some .free ->
 (names.map λ(n,k)=>if(k == NameKind.free&&env.scope.kind == .function&&env.kindOf n == some .cell)then(n,NameKind.cell)else(n,k)).lookup x=some .cell \/
 (names.map λ(n,k)=>if(k == NameKind.free&&env.scope.kind == .function&&env.kindOf n == some .cell)then(n,NameKind.cell)else(n,k)).lookup x=some .free
 | [],h=>by simp at h
 | (n,k)::r,h=>by
  have ih:=@yq env x r;show List.lookup x ((if(k == NameKind.free&&env.scope.kind == .function&&env.kindOf n == some .cell)=true then(n,NameKind.cell)else(n,k))::_)=_\/List.lookup x ((if(k == NameKind.free&&env.scope.kind == .function&&env.kindOf n == some .cell)=true then(n,NameKind.cell)else(n,k))::_)=_;by_cases hc:(k == NameKind.free&&env.scope.kind == .function&&env.kindOf n == some .cell)=true
  ·rw[if_pos hc];cases hx:x == n with
   |true=>simp only[Sa,hx];exact .inl trivial
   |false=>simp only[Sa,hx]at h ⊢;exact ih h
  ·rw[if_neg hc];cases hx:x == n with
   |true =>simp only[Sa,hx]at h ⊢;cases h;exact .inr rfl
   |false=>simp only[Sa,hx]at h ⊢;exact ih h
noncomputable def iy(n:Nat)(js:List Nat)(σ:St):St:=List.replicate n none++js.map λj=>(σ[j]?).join
def o8(n:Nat)(js:List Nat)(g:TG)(te:TE)(σ:St)(Q:VK)(J:It)(H1:Hp):Prop:=∃W:Nat->Nat->List V->St->Hp->Prop,(∃m,W 0 m [] (iy n js σ) H1) /\
 ∀i m ys σ' H',W i m ys σ' H' ->
  (J.stop i H'/\∀p,H' p=none->Q (.ref p) (upd H' p (.lst ys))) \/
  (J.go i H'/\ys.length<sizeLine/\∃N:V->St->Hp->Prop,(∀y σ'' H'',N y σ'' H''->∃m',m'<m/\W (i+1) m' (ys++[y]) σ'' H'')/\∀x H2,J.yld i H' x H2->g x σ' H2 λσ3 H3=>te σ3 H3 λy H4=>N y σ3 H4)
def C0(n:Nat)(js:List Nat)(wi:TI)(g:TG)(te:TE):TE:=λσ H Q=>wi σ H λJ H1=>o8 n js g te σ Q J H1
noncomputable def NB(X:Cx)(pins:List (Addr×Obj))(σ:St)(Q:VK)(D C:Addr)(s':Shared):Prop :=
 ∃H2,Inv X pins σ H2 s'/\Q (.ref D) H2/\H2 C=none/\C≠X.env.locals/\X.s₀.heap.objs.size<=C/\(∀x c,X.env.cells.lookup x=some c->c≠C)/\(∀p∈X.pn++pins,p.1≠C)/\∃m,s'.heap.Ns C m
section
variable {X:Cx}{own fr:List Str}{js:List Nat}{scope:Scope}{cl:List (Str×Addr)}{elt target iter:Expr}{pos:Pos}{wi:TI}{g:TG}{te:TE}
theorem iH(O:CompOk X fr js scope cl){x:Str}{c:Addr}(e:cl.lookup x=some c):X.env.cells.lookup x=some c:=O.clin (x,c) (PySem.mem_of_lookup e)
theorem Bh{pins:List (Addr×Obj)}{σ:St}{H:Hp}{s:Shared}{fp:List Addr}{C:Addr}(O:CompOk X fr js scope cl)(I:Inv X pins σ H s)(hC:s.heap.objs.size<=C)(hf:∀b∈fp,gj X pins H b)(ho:∀b∈fp,b<s.heap.objs.size) :
 (iD X (own++fr) scope cl C s H fp).Ok:=by
 refine⟨I.ok.mod,O.kind,I.ok.glob,I.ok.blt,hC,λx y c h1 h2=>I.ok.inj x y c (iH O h1) (iH O h2),λx hx=>?_,λx c h=>(by cases h),I.ok.hd,I.ok.frames,.inl rfl,λb hb=>?_,I.bs,?_,λb o e hb=>?_,λb hb hb'=>?_,I.stack,I.stkFree⟩
 ·have key:scope.names.lookup x=some .free:=by
   have hx':(scope.names.map λ(n,k)=>if(k == NameKind.free&&X.env.scope.kind == .function&&X.env.kindOf n == some .cell)then(n,NameKind.cell)else(n,k)).lookup x=some .cell \/
    (scope.names.map λ(n,k)=>if(k == NameKind.free&&X.env.scope.kind == .function&&X.env.kindOf n == some .cell)then(n,NameKind.cell)else(n,k)).lookup x=some .free:=hx
   rcases hx' with h |h
   ·obtain⟨k,e,z⟩:=sh h;rcases z with z |⟨z,_⟩
    ·subst z;exact absurd rfl (O.cell _ (PySem.mem_of_lookup e))
    ·subst z;exact e
   ·obtain⟨k,e,z⟩:=sh h;rcases z with z |⟨_,z⟩
    ·subst z;exact e
    ·cases z
  have hm:=List.all_eq_true.mp O.has _ (PySem.mem_of_lookup key);have hs:(cl.lookup x).isSome=true:=by simpa using hm
  exact Option.isSome_iff_exists.mp hs
 ·obtain⟨f0,f1,f2,f3,f4,f5⟩:=hf b hb;exact⟨Re (Q9 (ho b hb) hC),λx c e=>f4 x c (iH O e)⟩
 ·exact QL I.ok.bsz I.sz
 ·obtain⟨f0,f1,f2,f3,f4,f5⟩:=hf b hb;rcases f3 with z |z
  ·exact I.ok.noex b o e z
  ·exact absurd (Q9 (Heap.lt_size e) (QL I.ok.bsz z)) (Ry _)
 ·obtain⟨f0,f1,f2,f3,f4,f5⟩:=hf b hb;rcases QK.mp (I.stkSub b hb')with z |z
  ·exact f1 z
  ·exact f2 z
theorem Paired.idx{α β:Type}{F:α->β->Prop}:∀{l₁:List α} {l₂:List β},Paired F l₁ l₂->∀(i:Nat) (a:α) (b:β),l₁[i]?=some a->l₂[i]?=some b->F a b
 |_,_,.nil,_,_,_,h,_=>by simp at h
 |_,_,.cons r _,0,a,b,h1,h2=>by simp at h1 h2;subst h1;subst h2;exact r
 |_,_,.cons _ t,i+1,a,b,h1,h2=>Paired.idx t i a b (by simpa using h1) (by simpa using h2)
theorem Ll{pins:List (Addr×Obj)}{σ:St}{H:Hp}{s s':Shared}{fp:List Addr}{C:Addr}{m:Str->Option Value}(O:CompOk X fr js scope cl)(hl:fr.length=js.length)(I:Inv X pins σ H s)(hC:s.heap.objs.size<=C)(hf:∀b∈fp,gj X pins H b)
 (ho:∀b∈fp,b<s.heap.objs.size) (os:s'.os=s.os) (hg:s'.gens=s.gens) (old:∀b o,s.heap.get? b=some o->s'.heap.get? b=some o) (hn:s'.heap.Ns C m) :
 Inv (iD X (own++fr) scope cl C s H fp) [] (iy own.length js σ) H s':=by
 refine⟨Bh O I hC hf ho,os,by rw[hg];exact I.bare,Un.kept old,⟨m,hn,λi x v e1 e2 e3=>?_⟩,λx c e=>?_,I.hok.fresh hC,λx c e=>I.freeC x c (iH O e),λp hp=>absurd (show p∈([]:List (Addr×Obj))from hp) (by simp),I.hok.kept old,?_⟩
 ·unfold iy at e2
  have e1':(own++fr)[i]?=some x:=e1;by_cases hi:i<own.length
  ·rw[List.getElem?_append_left (by simpa using hi),List.getElem?_replicate]at e2;split at e2<;>cases e2
  ·have hi':own.length<=i:=RK hi;rw[List.getElem?_append_right (by simpa using hi'),SO,List.getElem?_map]at e2;rw[List.getElem?_append_right hi']at e1';cases ej:js[i-own.length]? with
   |none=>rw[ej]at e2;cases e2
   |some j =>
    rw[ej]at e2;have e2':(σ[j]?).join=some v:=Option.some.inj e2
    have eσ:σ[j]?=some (some v):=by
     cases q:σ[j]? with
     |none=>rw[q]at e2';cases e2'
     |some o=>rw[q]at e2';simp at e2';rw[e2']
    obtain⟨hN,hk,hs⟩:=Paired.idx O.fre _ x j e1' ej;obtain⟨mo,hmo,hlo⟩:=I.loc;have vis:Vis X.env.scope x:=hk.elim (λz=>.inr (.inl z)) λz=>.inr (.inr z)
    obtain⟨u,r,l⟩:=hlo j x v hN eσ vis;refine⟨u,r,.inr ⟨yq hs,?_⟩⟩;have hm:=List.all_eq_true.mp O.has _ (PySem.mem_of_lookup hs);have hs':(cl.lookup x).isSome=true:=by simpa using hm
    obtain⟨c,ec⟩:=Option.isSome_iff_exists.mp hs';refine⟨c,ec,?_⟩;rcases l with⟨k,_⟩ |⟨_,c',e',z⟩
    ·have k':X.env.scope.names.lookup x=some .local:=k;rcases hk with q |q<;>(rw[q]at k';cases k')
    ·have:=iH O ec;rw[e']at this;cases this;obtain⟨oc,hoc,hd⟩:=z;exact⟨oc,old _ _ hoc,hd⟩
 ·obtain⟨v,oc,hoc,hd⟩:=I.cell x c (iH O e);exact⟨v,oc,old _ _ hoc,hd⟩
 ·unfold iy;show _=(own++fr).length;rw[QO,QO,SO,QB,hl]
theorem Un.adopt{fs ex:List Addr}{H H1:Hp}{h h1:Heap}{a:Addr}{o:HO}(u:Un fs ex H H1 h h1)(ha:h.objs.size<=a)(hn:H a=none):Un fs ex H (upd H1 a o) h h1 where
 keep:=u.keep
 slot:=u.slot
 free:=λb ob q n hx=>by rw[upd_ne (Re (Q9 (Heap.lt_size q) ha))];exact u.free b ob q n hx
 there:=u.there
 tups:=λb xs q=>by rw[upd_ne (aY q hn)];exact u.tups b xs q
 frzs:=λb ob xs q=>by rw[upd_ne (aY q hn)];exact u.frzs b ob xs q
 tbls:=λb ps q=>by rw[upd_ne (aY q hn)];exact u.tbls b ps q
theorem HOk.adopt{P:Program}{w:World}{H:Hp}{h:Heap}{a:Addr}{o:HO}(x:HOk P w H h)(hn:H a=none)(new:ObjOk P w (upd H a o) h a o):HOk P w (upd H a o) h:=λb u e=>by
 by_cases hb:b=a
 ·subst hb;rw[au]at e;cases e;exact new
 ·rw[upd_ne hb]at e;exact(x b u e).stay (λc v _ q=>q) (λc q=>by rw[upd_ne (aY q hn)];exact q) λc xs q=>by rw[upd_ne (aY q hn)];exact q
theorem Ls{pins:List (Addr×Obj)}{σ:St}{H:Hp}{s:Shared}{fp:List Addr}{it:Addr}{tn:Nat->Heap->Prop}{J:It}{E:Value->Shared->Prop}{Q:VK}{RR:Value->Addr->Result->Shared->Prop}(O:CompOk X fr js scope cl)(hl:fr.length=js.length)(hcm:X.calm=true)
 (I:Inv X pins σ H s) (T:Turn X.prog X.w X.K target J fp it tn) (st:tn 0 s.heap) (hf:∀b∈fp,gj X pins H b)
 (hg:∀C s₀ H₀ ex,PG (iD X (own++fr) scope cl C s₀ H₀ ex) target g) (he:∀C s₀ H₀ ex,PE (iD X (own++fr) scope cl C s₀ H₀ ex) elt te)
 (W:Nat->Nat->List V->St->Hp->Prop) {m0:Nat} (w0:W 0 m0 [] (iy own.length js σ) H)
 (turn:∀i m ys σ' H',W i m ys σ' H' ->
   (J.stop i H'/\∀p,H' p=none->Q (.ref p) (upd H' p (.lst ys))) \/
   (J.go i H'/\ys.length<sizeLine/\∃N:V->St->Hp->Prop,(∀y σ'' H'',N y σ'' H''->∃m',m'<m/\W (i+1) m' (ys++[y]) σ'' H'')/\∀x H2,J.yld i H' x H2->g x σ' H2 λσ3 H3=>te σ3 H3 λy H4=>N y σ3 H4))
 (hRR:∀D C s',NB X pins σ Q D C s'->RR (.ref D) C (.ok .next) s') :
 wpAny (model X.prog X.w) X.A (newList []) (λacc s₃=>wpAny (model X.prog X.w) X.A (newFunctionEnv scope X.env.globals cl [] X.env.qual none .none (some X.env)) (λcenv s₄ =>
  codeAny (model X.prog X.w) X.A (.compStart (.ListComp elt [⟨target,iter,[],0⟩] scope pos) 0 (.ref it) acc { cenv with scope:=relabel scope X.env }) (RR acc cenv.locals) s₄) E s₃) E s:=by
 refine wpAny_newObj_type (wpAny_newFunctionEnv O.cell (by intro y hy;simp at hy) (λh₁ hns₁ hsb₁=>?_) O.kind);dsimp only at hns₁ hsb₁ ⊢
 generalize hH2:s.heap.push { cls:=.type "list",dict:=none,data:=.seq ([]:List Value).toArray }=H2 at hns₁ hsb₁ ⊢
 have hCs:H2.objs.size=s.heap.objs.size+1:=by rw[<- hH2,Heap.size_push]
 have hDC:s.heap.objs.size≠H2.objs.size:=by rw[hCs];exact Re (RV _)
 have hCge:s.heap.objs.size<=H2.objs.size:=by rw[hCs];exact Nat.le_succ _
 have below:∀b,b<s.heap.objs.size->b≠H2.objs.size/\b≠s.heap.objs.size:=λb hb=>⟨by rw[hCs];exact Re (Nat.lt_succ_of_lt hb),Re hb⟩
 have old:∀b o,s.heap.get? b=some o->h₁.get? b=some o:=λb o e=>hsb₁.extBut b o (below b (Heap.lt_size e)).1 (Heap.get?_push_of_some _ (hH2 ▸ Heap.get?_push_of_some _ e))
 have hacc:h₁.get? s.heap.objs.size=some { cls:=.type "list",data:=.seq ([]:List Value).toArray 0 }:=hsb₁.extBut _ _ hDC (Heap.get?_push_of_some _ (hH2 ▸ Heap.get?_push_size _ rfl));have ho:∀b∈fp,b<s.heap.objs.size:=λb hb=>by obtain⟨o,e,_⟩:=T.obj 0 _ st b hb;exact Heap.lt_size e
 generalize hDe:s.heap.objs.size=D at *
 generalize hCe:H2.objs.size=C at *
 let X':Cx:=iD X (own++fr) scope cl C s H fp
 have ok':X'.Ok:=Bh O I (by rw[hDe];exact hCge) hf (by rw[hDe];exact ho)
 have hDfs:D∉X'.fs:=by
  intro z;rcases QK.mp (I.stkSub D z)with q |q
  ·exact absurd I.lt (by rw[<- q,hDe];exact Ry _)
  ·exact I.nofs (R8 hDe) q
 have hDfp:∀b∈fp,D≠b:=λb hb z=>absurd (ho b hb) (by rw[z];exact Ry _)
 have hDcell:∀x c,cl.lookup x=some c->c≠D:=λx c e z=>by obtain⟨v,q⟩:=I.cell x c (iH O e);exact absurd q.lt (by rw[z,hDe];exact Ry _)
 have fpok:∀{H':Hp} {pins':List (Addr×Obj)},(∀p∈pins',p.1=D)->(∀b∈fp,H' b=none)->∀b∈fp,gj X' pins' H' b:=λ{H' pins'} hp hn b hb=>by
  obtain⟨f0,f1,f2,f3,f4,f5⟩:=hf b hb;refine⟨hn b hb,(below b (ho b hb)).1,λz=>?_,.inl hb,λx c e=>f4 x c (iH O e),λp hp'=>?_⟩
  ·rcases QK.mp (I.stkSub b z)with q |q
   ·exact f1 q
   ·exact f2 q
  ·have hp'':p∈pins':=by simpa[X',iD]using hp'
   rw[hp p hp''];exact hDfp b hb
 have loop:∀s₃:Shared,s₃={ s with heap:=h₁,toks:=s.toks+([]:List (Str×Value)).length } ->
  codeAny (model X.prog X.w) X.A (.compLoop (.ListComp elt [⟨target,iter,[],0⟩] scope pos) 0 (.ref it) (.ref D) (compEnvC scope cl C X.env)) (RR (.ref D) C) s₃:=by
  rintro s₃ rfl
  refine PySem.W.kcp_loop (λk s'=>∃i σ' H' ys its nn,Inv X' [] σ' H' s'/\tn i s'.heap/\(∀b∈fp,H' b=none)/\H' D=none/\s'.heap.get? D=some { cls:=.type "list",data:=.seq (its:List Value).toArray nn }/\Vals ys its/\ys.length<=sizeLine/\W i k ys σ' H') ?_ m0
   ⟨0,_,H,[],[],0,Ll O hl I (by rw[hDe];exact hCge) hf (by rw[hDe];exact ho) rfl rfl (by intro b o e;exact old b o e) hns₁,T.keep _ _ _ st λb _ o e=>old b o e,λb hb=>(hf b hb).1,I.hok.fresh (R8 hDe),hacc,.nil,QH _,w0⟩
  rintro k s' ⟨i,σ',H',ys,its,nn,I',st',hfn,hDn,hDo,rv,hz,w⟩;have hlen:=rv.length;have hpD:∀p∈[(D,({ cls:=.type "list",data:=.seq its.toArray nn }:Obj))],p.1=D:=λp hp=>by rw[QF.mp hp]
  have Ip:Inv X' [(D,({ cls:=.type "list",data:=.seq its.toArray nn }:Obj))] σ' H' s':=I'.pins_of λp hp=>by rw[QF.mp hp];exact⟨hDo,hDn,hDC,hDfs,λv z=>by cases z⟩
  rcases turn i k ys σ' H' w with⟨stop,fin⟩ |⟨go,hlt,N,hN,step⟩
  ·refine wpAny_mono (T.done X' rfl rfl rfl hcm i _ s' σ' H' (λ_ _=>False) Ip (fpok hpD hfn) st' stop) (λr s4 ⟨hr,I4⟩=>?_) λ_ _ z=>False.elim z
   subst hr;refine hRR D C s4 ?_;have hD4:s4.heap.get? D=some { cls:=.type "list",data:=.seq its.toArray nn }:=(I4.pin _ (Rm _ (QF.mpr rfl))).1;have un:Un (frs X.stack) fp H (upd H' D (.lst ys)) s.heap s4.heap:=Un.adopt I4.base (R8 hDe) (I.hok.fresh (R8 hDe));have hok:HOk X.prog X.w (upd H' D (.lst ys)) s4.heap:=HOk.adopt I4.hok hDn ⟨hz,its,nn,rv,hD4⟩;refine⟨upd H' D (.lst ys),I.call' I4.os un hok I4.bare λb hb=>?_,fin D hDn,?_,?_,?_,λx c e z=>?_,λp hp z=>?_,?_⟩
   ·obtain⟨f0,f1,f2,f3,f4,f5⟩:=hf b hb;exact⟨f3,f1,f4,f5⟩
   ·rw[upd_ne (Ne.symm hDC)];exact I4.free
   ·exact Nat.ne_of_gt (Q9 I.lt (by rw[hDe];exact hCge))
   ·exact QL I.sz (by rw[hDe];exact hCge)
   ·obtain⟨v,q⟩:=I.cell x c e;exact absurd (Q9 q.lt (by rw[hDe,z];exact hCge)) (Ry _)
   ·exact absurd (Q9 (Heap.lt_size (I.pin p hp).1) (by rw[hDe,z];exact hCge)) (Ry _)
   ·obtain⟨m',hn',_⟩:=I4.loc;exact⟨m',hn'⟩
  ·refine wpAny_mono (T.item X' rfl rfl rfl hcm i _ s' σ' H' (λ_ _=>False) Ip (fpok hpD hfn) st' go) (λr s4 ⟨u,hr,h4⟩=>?_) λ_ _ z=>False.elim z
   subst hr;refine wpAny_mono h4 (λ_ s5 ⟨x,H5,I5,r5,y5,st5,fr5⟩=>?_) λ_ _ z=>False.elim z
   have I5':=I5.pinned (fpok hpD fr5) (T.obj _ _ st5);refine wpAny_mono (hg C s H fp _ s5 σ' H5 x u _ I5' r5 (step x H5 y5)) (λ_ s6 ⟨σ6,H6,I6,q6⟩=>?_) λ_ _ z=>False.elim z
   refine wpAny_mono (he C s H fp _ s6 σ6 H6 _ I6 q6) (λv s7 ⟨y,H7,I7,r7,n7⟩=>?_) λ_ _ z=>False.elim z
   obtain⟨m',hm',w7⟩:=hN y σ6 H7 n7;have hD7:=I7.pin (D,{ cls:=.type "list",data:=.seq its.toArray nn }) (Rm _ (RU _ (QF.mpr rfl)));refine append_at hD7.1 (λh8 sb hD8=>?_) (by rw[Ra,<- hlen];exact hz);have I7':Inv X' [] σ6 H7 s7:=I7.pins_of λp hp=>absurd hp (by simp)
   have I8:Inv X' [] σ6 H7 { s7 with heap:=h8 }:=I7'.turned (t':=s7.toks) (it:=D) (λb o hb e=>(sb.2 b hb).trans e) hD7.2.1 hDC (.inr (R8 hDe)) hDcell (λp hp=>absurd (show p∈([]:List (Addr×Obj))from hp) (by simp));refine⟨m',hm',i+1,σ6,H7,ys++[y],its++[v],nn+1,I8,T.keep _ _ _ st5 λb hb o e=>?_,λb hb=>?_,hD7.2.1,?_,rv.append (.cons r7 .nil),?_,w7⟩
   ·exact(sb.2 b (λz=>hDfp b hb z.symm)).trans (I7.pin (b,o) (Rm _ (Rm _ (ow hb e)))).1
   ·obtain⟨o,e,d⟩:=T.obj _ _ st5 b hb;exact(I7.pin (b,o) (Rm _ (Rm _ (ow hb e)))).2.1
   ·rw[hD8,List.push_toArray]
   ·rw[QO,List.length_singleton];exact hlt
 exact codeAny_compStart_list (loop _ rfl) (T.self _ 0 _ _ _ (T.keep _ _ _ st λb _ o e=>old b o e) (loop _ rfl))
theorem fE(O:CompOk X fr js scope cl)(hcm:X.calm=true)(hi:PI X target iter wi)(hg:∀C s₀ H₀ ex,PG (iD X (own++fr) scope cl C s₀ H₀ ex) target g)(he:∀C s₀ H₀ ex,PE (iD X (own++fr) scope cl C s₀ H₀ ex) elt te)
 (hs:∀x,foldedSetIterable iter X.env x=pure x:=by intro _;rfl):PE X (.ListComp elt [⟨target,iter,[],0⟩] scope pos) (C0 own.length js wi g te):=by
 intro pins s σ H Q I h;rw[eval_ListComp];refine wpAny_comprehension_free (use:=none) rfl hs O.clos O.kind O.names (thn (hi pins s σ H _ I h) λx s1 h1=>thn h1 λitv s2 h2=>?_);obtain⟨it,fp,tn,J,H2,rfl,I2,T,st,hf,W,⟨m0,w0⟩,turn⟩:=h2;refine Ls (RR:=λacc C=>compPost (model X.prog X.w) X.A X.xe none (EP X pins σ Q) acc C) O (Paired.length O.fre) hcm I2 T st hf hg he W w0 turn ?_;rintro D C s' ⟨H3,I3,q,c1,c2,c3,c4,c5,m,hn⟩;exact⟨m,hn,λh' sb=>⟨.ref D,H3,I3.turned (t':=s'.toks) (it:=C) (λb o hb e=>(sb.2 b hb).trans e) c1 c2 (.inr c3) c4 c5,rfl,q⟩⟩
end
theorem jq{n:Nat}{js:List Nat}{K:PySem.W.Frag}{a:Addr}{xs:List V}{g:TG}{te:TE}{σ0:St}{H:Hp}{Q:VK}(Pv:Nat->List V->St->Hp->Prop)(hz:xs.length<=sizeLine)(h0:Pv 0 [] (iy n js σ0) H)(hl:∀i ys σ H,i<=xs.length->Pv i ys σ H->SqL K H a xs/\ys.length<=i)
 (hs:∀i x ys σ H,xs[i]?=some x->Pv i ys σ H->g x σ H λσ2 H2=>te σ2 H2 λy H3=>Pv (i+1) (ys++[y]) σ2 H3) (hd:∀ys σ H p,Pv xs.length ys σ H->H p=none->Q (.ref p) (upd H p (.lst ys))) :
 o8 n js g te σ0 Q (Itl K a) H:=by
 refine⟨λi m ys σ H=>m=xs.length-i/\i<=xs.length/\Pv i ys σ H,⟨xs.length,by simp,QH _,h0⟩,?_⟩;rintro i m ys σ H ⟨rfl,hi,p⟩;obtain⟨q,hy⟩:=hl i ys σ H hi p;by_cases hlt:i<xs.length
 ·refine .inr ⟨⟨xs,xs[i],q,by simp[hlt]⟩,by omega,λy σ'' H''=>Pv (i+1) (ys++[y]) σ'' H'',λy σ' H' p'=>⟨xs.length-(i+1),by omega,rfl,hlt,p'⟩,λx H' y=>?_⟩;obtain⟨e,y⟩:=y;subst e;exact hs i x ys σ _ (y xs q) p
 ·have e:i=xs.length:=by omega
  subst e;exact .inl ⟨⟨xs,q,QD _⟩,λr hr=>hd ys σ H r p hr⟩
theorem uN{k:Nat}{js:List Nat}{lo:Int}{n:Nat}{g:TG}{te:TE}{σ0:St}{H:Hp}{Q:VK}(Pv:Nat->List V->St->Hp->Prop)(hz:n<=sizeLine)(h0:Pv 0 [] (iy k js σ0) H)(hl:∀i ys σ H,i<=n->Pv i ys σ H->ys.length<=i)
 (hs:∀i ys σ H,i<n->Pv i ys σ H->g (.int (lo+i)) σ H λσ2 H2=>te σ2 H2 λy H3=>Pv (i+1) (ys++[y]) σ2 H3) (hd:∀ys σ H p,Pv n ys σ H->H p=none->Q (.ref p) (upd H p (.lst ys))) :
 o8 k js g te σ0 Q (Itr lo n) H:=by
 refine⟨λi m ys σ H=>m=n-i/\i<=n/\Pv i ys σ H,⟨n,by simp,QH _,h0⟩,?_⟩;rintro i m ys σ H ⟨rfl,hi,p⟩;have hy:=hl i ys σ H hi p;by_cases hlt:i<n
 ·refine .inr ⟨hlt,by omega,λy σ'' H''=>Pv (i+1) (ys++[y]) σ'' H'',λy σ' H' p'=>⟨n-(i+1),by omega,rfl,hlt,p'⟩,λx H' y=>?_⟩;obtain⟨e,y⟩:=y;subst e y;exact hs i ys σ _ hlt p
 ·have e:i=n:=by omega
  subst e;exact .inl ⟨QD _,λr hr=>hd ys σ H r p hr⟩
def Bits(k:Nat)(i:Int):Prop:=i.natAbs<2^k
theorem Bits.mono{j k:Nat}{i:Int}(h:Bits j i)(hk:j<=k:=by decide):Bits k i:=Q9 h (SR (by decide) hk)
theorem Bits.mul{j k:Nat}{a b:Int}(ha:Bits j a)(hb:Bits k b):Bits (j+k) (a*b):=by
 unfold Bits at *
 rw[QR,Nat.pow_add];exact Nat.mul_lt_mul_of_lt_of_lt ha hb
theorem Bits.add{k:Nat}{a b:Int}(ha:Bits k a)(hb:Bits k b):Bits (k+1) (a+b):=by
 unfold Bits at *
 have:=SS a b;rw[Rz];omega
theorem Bits.neg{k:Nat}{a:Int}(ha:Bits k a):Bits k (-a):=by unfold Bits at *;rwa [R5]
theorem Bits.sub{k:Nat}{a b:Int}(ha:Bits k a)(hb:Bits k b):Bits (k+1) (a-b):=by rw[Int.sub_eq_add_neg];exact ha.add hb.neg
theorem Bits.of_le{k:Nat}{a b:Int}(hb:Bits k b)(h:a.natAbs<=b.natAbs):Bits k a:=RB h hb
theorem Bits.zero{k:Nat}:Bits k 0:=RC (by decide)
theorem Bits.log{k:Nat}{i:Int}(h:Bits k i)(hk:0<k):i.natAbs.log2<k:=by
 by_cases h0:i.natAbs=0
 ·rw[h0];simpa using hk
 ·exact(Nat.log2_lt h0).mpr h
theorem Bits.int{k:Nat}{i:Int}(h:Bits k i)(hk:k<=1000000):Builtin.Int.intBits i<=2^20:=by
 have e:(2:Nat)^20=1048576:=by decide
 unfold Builtin.Int.intBits;split
 ·exact QH _
 ·rename_i hn
  have h0:i.natAbs≠0:=by intro z;have:i=0:=Int.natAbs_eq_zero.mp z;exact hn (by simp[this])
  have:=(Nat.log2_lt h0).mpr h;omega
section
variable {X:Cx}{a b:Expr}{ta tb:TE}{pos:Pos}
def Oy(i j:Int):Prop:=Bits 1000000 i/\Bits 1000000 j
theorem aJ:OpR X (binaryOp .Mult) (rI Oy λi j=>.int (i*j)):=opI λ_ _ _ _ _ _ _ hc q=>mul_int q (.of_bits (hc.1.int (QD _)) (hc.2.int (QD _)))
theorem cX:OpR X (binaryOp .Mod) (rI (λ_ j=>0<j) λi j=>.int (i%j)):=Fz
def Oz(_ j:Int):Prop:=0<j/\Bits 9000 j
theorem de:OpR X (binaryOp .FloorDiv) (rI Oz λi j=>.int (i/j)):=opI λi j _ _ _ _ _ hc q=>by refine floordiv_int (Rf hc.1) ?_ (.inl (PyProof.noPylong_of_log2 (hc.2.log (by decide))));rw[Int.fdiv_eq_ediv_of_nonneg _ (QE hc.1)];exact q
def OA(_ j:Int):Prop:=j≠0/\Bits 9000 j
theorem yW:OpR X (binaryOp .FloorDiv) (rI OA λi j=>.int (i.fdiv j)):=opI λ_ _ _ _ _ _ _ hc q=>floordiv_int hc.1 q (.inl (PyProof.noPylong_of_log2 (hc.2.log (by decide))))
theorem cR:OpR X (compareOp .Eq) (rI0 λi j=>.bl (decide (i=j))):=j1 λ_ _ _ _ _ _ _ q=>eq_int (by rw[Bool.beq_eq_decide_eq];exact q)
theorem jX:OpR X (compareOp .NotEq) (rI0 λi j=>.bl (!decide (i=j))):=j1 λ_ _ _ _ _ _ _ q=>ne_int (by rw[bne,Bool.beq_eq_decide_eq];exact q)
def yE(K:PySem.W.Frag):R2:=λx y H Q=>∃(a b:Addr) (ns ms:List Int),x=.ref a/\y=.ref b/\SqL K H a (ns.map V.int)/\SqL K H b (ms.map V.int)/\Q (.bl (decide (ns=ms))) H
def yy(K:PySem.W.Frag):R2:=λx y H Q=>∃(a b:Addr) (ns ms:List Int),x=.ref a/\y=.ref b/\SqL K H a (ns.map V.int)/\SqL K H b (ms.map V.int)/\Q (.bl (!decide (ns=ms))) H
theorem FB(hu:X.A.units+64<cLine):OpR X (compareOp .Eq) (yE X.K):=by intro pins s σ H x y v u Q I rx ry h;obtain⟨a,b,ns,ms,rfl,rfl,ha,hb,q⟩:=h;cases rx;cases ry;obtain⟨i1,r1,p1,_⟩:=I.list ha;obtain⟨i2,r2,p2,_⟩:=I.list hb;exact PySem.W.eq_intsK p1.isList (oF r1) p2.isList (oF r2) hu ⟨.bl _,H,I,rfl,q⟩
theorem Fx(hu:X.A.units+64<cLine):OpR X (compareOp .NotEq) (yy X.K):=by intro pins s σ H x y v u Q I rx ry h;obtain⟨a,b,ns,ms,rfl,rfl,ha,hb,q⟩:=h;cases rx;cases ry;obtain⟨i1,r1,p1,_⟩:=I.list ha;obtain⟨i2,r2,p2,_⟩:=I.list hb;exact PySem.W.ne_intsK p1.isList (oF r1) p2.isList (oF r2) hu ⟨.bl _,H,I,rfl,q⟩
noncomputable def ln(K:PySem.W.Frag):List V->Hp->VK->Prop:=λxs H Q=>∃(x:V) (t c:Value) (n:V) (k:Bool),xs=[x,n]/\RelV n c/\(∀u,RelV n u->u=c)/\TyOf K H x t/\PySem.W.kitOne K t c=some k/\Q (.bl k) H
theorem LJ:CallR X (.builtin "isinstance") (ln X.K):=by intro pins s σ H xs us Q I r h;obtain⟨x,t,c,n,k,rfl,rn,hn,ty,e,q⟩:=h;obtain⟨u1,u2,rfl,r1,r2⟩:=r.two;obtain rfl:=hn u2 r2;exact JQ I r1 ty e λtk=>⟨.bl k,H,I.tok tk,rfl,q⟩
theorem JR{K:PySem.W.Frag}{H:Hp}{Q:VK}{x:V}{n:String}{t:Value}{k:Bool}(ty:TyOf K H x t)(e:PySem.W.kitOne K t (.type n)=some k)(q:Q (.bl k) H):ln K [x,.ty n] H Q :=
 ⟨x,t,.type n,.ty n,k,rfl,rfl,λ_ h=>h,ty,e,q⟩
end
section
variable {D:Ends}{σ:St}{H:Hp}{Q:VK}{t u:TS}{te ta tb:TE}{c:TT}{i:Nat}{v:V}{r:R2}
theorem nX(P:St->Hp->Prop)(h1:∀σ' H',P σ' H'->u D σ' H')(h2:(∀σ' H',P σ' H'->u D σ' H')->t { D with nx:=u D } σ H):cM t u D σ H:=h2 h1
theorem dD(P:St->Hp->Prop)(h:P σ H)(h1:∀σ' H',P σ' H'->u D σ' H'):u D σ H:=h1 σ H h
theorem aw(h:te σ H λx H1=>u D (σ.set i (some x)) H1):cM (iO te (jl i)) u D σ H:=h
theorem gq(h:te σ H λ_ H1=>u D σ H1):cM (nj te) u D σ H:=h
theorem bI{t1:TS}(h:c σ H λb H1=>if b=true then t1 { D with nx:=u D } σ H1 else u D σ H1):cM (kK c t1 wn) u D σ H:=h
theorem Ey{K:PySem.W.Frag}{n:V}(h:ta σ H λx H1=>ln K [x,n] H1 Q):tCB (ln K) (px ta (px (tC n) pj)) σ H Q:=h
theorem dF{t1 t2:TS}(P:St->Hp->Prop)(h1:∀σ' H',P σ' H'->u D σ' H')(h2:(∀σ' H',P σ' H'->u D σ' H')->c σ H λb H1=>if b=true then t1 { D with nx:=u D } σ H1 else t2 { D with nx:=u D } σ H1):cM (kK c t1 t2) u D σ H:=h2 h1
theorem cG(h:te σ H λx H1=>D.nx (σ.set i (some x)) H1):iO te (jl i) D σ H:=h
theorem aQ(h:te σ H D.rt):wj te D σ H:=h
theorem sj(h:te σ H λ_ H1=>D.nx σ H1):nj te D σ H:=h
theorem lj(h:c σ H λb H1=>if b=true then t D σ H1 else u D σ H1):kK c t u D σ H:=h
theorem Ez{K:Bool->Hp->Prop}(h:te σ H λx H'=>∃k,x=.bl k/\K k H'):tB te σ H K:=h
theorem Ex{K:Bool->Hp->Prop}{tt:TT}(h:tt σ H λk H1=>K (!k) H1):wm tt σ H K:=h
theorem dG{K:Bool->Hp->Prop}{t1 t2:TT}(h:t1 σ H λk H1=>if k=true then t2 σ H1 K else K false H1):wu t1 t2 σ H K:=h
theorem yr{K:Bool->Hp->Prop}{t1 t2:TT}(h:t1 σ H λk H1=>if k=true then K true H1 else t2 σ H1 K):tOr t1 t2 σ H K:=h
theorem sk(h:ta σ H λx H1=>∃k,x=.bl k/\if k=true then tb σ H1 Q else Q (.bl false) H1):wt ta tb σ H Q:=h
theorem Ew(h:ta σ H λx H1=>∃k,x=.bl k/\if k=true then Q (.bl true) H1 else tb σ H1 Q):wk ta tb σ H Q:=h
theorem yt{tt:TT}(h:tt σ H λk H1=>if k=true then ta σ H1 Q else tb σ H1 Q):tIf tt ta tb σ H Q:=h
theorem li{A B:Prop}(h:A):if true=true then A else B:=by rw[if_pos rfl];exact h
theorem dX{A B:Prop}(h:B):if false=true then A else B:=by rw[if_neg Rh];exact h
theorem aH{p A B:Prop}[Decidable p](h1:p->A)(h2:¬p->B):if decide p=true then A else B:=by
 by_cases hp:p
 ·rw[if_pos (decide_eq_true hp)];exact h1 hp
 ·rw[if_neg (by rw[decide_eq_false hp];exact Rh)];exact h2 hp
theorem dB{p A B:Prop}[Decidable p](h1:¬p->A)(h2:p->B):if(!decide p)=true then A else B:=by
 by_cases hp:p
 ·rw[if_neg (by rw[decide_eq_true hp];exact Rh)];exact h2 hp
 ·rw[if_pos (by rw[decide_eq_false hp];rfl)];exact h1 hp
end
structure Cal(P:Program)(w:World)(K:PySem.W.Frag)(mg:Str->Option Value)(base:Heap)(k:Nat)(x:Str)(ps:List Str)(sp:Sp)(f:Addr)(fd:FuncData):Prop where
 ok:FnOk P w K mg base CX0 k f fd ps sp
 mg:mg x=some (.ref f)
 kp:PySem.W.keepIn K (.ref f)=true
 bd:Binds K fd ps []
theorem Same.upd_new{H:Hp}{p:Addr}{o:HO}(h:H p=none):Same H (upd H p o):=λb u e=>by rw[upd_ne (aY e h)];exact e
theorem Same.then_new{H H1:Hp}{p:Addr}{o:HO}(s:Same H H1)(h:H1 p=none):Same H (upd H1 p o):=s.trans (Same.upd_new h)
theorem Same.ne{H H1:Hp}{a p:Addr}{o:HO}(s:Same H H1)(e:H a=some o)(h:H1 p=none):a≠p:=aY (s a o e) h
section
variable {X:Cx}{K:PySem.W.Frag}
theorem cC(h:X.K=K):IxR X (yD K):=by subst h;exact JP
theorem aW(h:X.K=K):IxR X (yC K):=by subst h;exact JN
theorem nI(h:X.K=K):SlR X (su K):=by subst h;exact Dr
noncomputable def ER(K:PySem.W.Frag):List V->Hp->VK->Prop:=λxs H Q=>∃p ys,xs=[.ref p]/\(SqL K H p ys\/SqT K H p ys)/\Q (.int ys.length) H
theorem dz(h:X.K=K):CallR X (.builtin "len") (ER K):=by subst h;exact LH
noncomputable def EQ(K:PySem.W.Frag):List V->Hp->VK->Prop:=λxs H Q=>∃p ys,xs=[.ref p]/\(SqL K H p ys\/SqT K H p ys)/\∀l,H l=none->Q (.ref l) (upd H l (.lst ys))
theorem uT(h:X.K=K):CallR X (.type "list") (EQ K):=by subst h;exact LG
theorem jZ(h:X.K=K)(hu:X.A.units+64<cLine):OpR X (compareOp .Eq) (yE K):=by subst h;exact FB hu
theorem lJ(h:X.K=K)(hu:X.A.units+64<cLine):OpR X (compareOp .NotEq) (yy K):=by subst h;exact Fx hu
theorem LI(h:X.K=K):CallR X (.builtin "isinstance") (ln K):=by subst h;exact LJ
theorem fz{tg l:Expr}{tl:TE}(h:X.K=K)(hl:PE X l tl):PI X tg l (Am K tl):=by subst h;exact Ff hl
theorem Fb{tg l:Expr}{tl:TE}(h:X.K=K)(hl:PE X l tl):PI X tg l (Ak K tl):=by subst h;exact Fc hl
theorem aR{e:Expr}{ta:TE}{f:Str}{pos:Pos}(h:X.K=K)(he:PE X e ta)(hb:attributeBase e f X.env (eval e X.env)=eval e X.env):PE X (.Attribute e f pos) (wq K ta f):=by subst h;exact Fm he hb
end
noncomputable def Ite(K:PySem.W.Frag)(a:Addr):It :=
 ⟨λi H=>∃xs x,SqL K H a xs/\xs[i]?=some x,λi H x H'=>∃v p,x=.ref p/\H p=none/\H'=upd H p (.tup [.int i,v])/\∀xs,SqL K H a xs->xs[i]?=some v,λi H=>∃xs,SqL K H a xs/\xs.length<=i⟩
theorem Cz{P:Program}{w:World}{K:PySem.W.Frag}{es:List Expr}{x1:Nat}{tp:Pos}(a e it:Addr)(hne:e≠it):Turn P w K (.Tuple es x1 tp) (Ite K a) [e,it] e (λi h=>(∃old,IsEnum h e it (i:Int) old)/\h.IsListIter it a i) where
 mem:=by simp
 obj:=λi h st b hb=>by
  obtain⟨⟨old,he⟩,hi⟩:=st;rcases QK.mp hb with rfl |hb
  ·exact⟨_,he,λv z=>by cases z⟩
  ·have q:b=it:=by simpa using hb
   subst q;obtain⟨o,e,c,d⟩:=hi;exact⟨o,e,λv z=>by rw[d]at z;cases z⟩
 keep:=λi h h' st k=>by obtain⟨⟨old,he⟩,hi⟩:=st;exact⟨⟨old,k e (by simp) _ he⟩,hi.at λo q=>k it (by simp) o q⟩
 item:=by
  intro X hP hw hK hc i pins s σ H E I hf st hg;subst hP hw hK;obtain⟨⟨old,he⟩,hi⟩:=st;obtain⟨xs,x,hq,hx⟩:=hg;obtain⟨its,rv,p,hz⟩:=I.list hq;obtain⟨u,hu,ru⟩:=rv.get hx;refine wpAny_pyNext_enum_item he hi p.isList (x:=u) (by simpa using hu) hne λh' out hit' htup hsz kk=>?_
  have hfp:H s.heap.objs.size=none:=I.hok.fresh (QD _);have nfp:∀b o,H b=some o->b≠e/\b≠it:=λb o q=>⟨λz=>(by rw[z,(hf e (by simp)).1]at q;cases q),λz=>(by rw[z,(hf it (by simp)).1]at q;cases q)⟩
  have I1:Inv X pins σ (upd H s.heap.objs.size (.tup [.int i,x])) { s with heap:=h',toks:=s.toks+1 }:=by
   refine I.step (g':=s.gens) (d':=s.drawn) (ch:=[e,it]) (λb hb=>?_) (λb o _ _ hc q _=>kk b o (λz=>hc (by simp[z])) (λz=>hc (by simp[z])) q)
    (λb o _ _ hc q _=>⟨o.slots,kk b o (λz=>hc (by simp[z])) (λz=>hc (by simp[z])) q⟩) (λb o _ q n=>by rw[upd_ne (Re (Heap.lt_size q))];exact n)
    (λb o hc q=>⟨o,kk b o (λz=>hc (by simp[z])) (λz=>hc (by simp[z])) q⟩) (λb ys q=>by rw[upd_ne (aY q hfp)];exact q) (λb o ys q=>by rw[upd_ne (aY q hfp)];exact q)
    (λb ps q=>⟨#[],by rw[upd_ne (aY q hfp),q];simp⟩) (λm hm=>?_) (λb o q=>?_) I.bare
   ·obtain⟨f0,f1,f2,f3,f4,f5⟩:=hf b hb;exact⟨f3,f1,f4,f5⟩
   ·obtain⟨o,es',ep',ho,r⟩:=hm;exact⟨o,es',ep',kk _ o (Ne.symm (hf e (by simp)).2.1) (Ne.symm (hf it (by simp)).2.1) ho,r⟩
   ·by_cases hb:b=s.heap.objs.size
    ·subst hb;rw[au]at q;cases q;exact⟨by show 2<=sizeLine;decide,[.int i s.toks,u],.cons ⟨_,rfl⟩ (.cons ru .nil),⟨_,htup,rfl,_,rfl⟩⟩
    ·rw[upd_ne hb]at q;refine(I.hok b o q).stay (λc v hc z=>?_) (λc z=>by rw[upd_ne (aY z hfp)];exact z) λc ys z=>by rw[upd_ne (aY z hfp)];exact z
     rcases hc with rfl |hc
     ·exact kk c v (nfp c o q).1 (nfp c o q).2 z
     ·exact kk c v (nfp c _ hc).1 (nfp c _ hc).2 z
  refine⟨_,rfl,wpAny_letOwnedTupleGo_enum out λh'' he'' sb=>?_⟩;obtain⟨f0,f1,f2,f3,f4,f5⟩:=hf e (by simp)
  have hen:upd H s.heap.objs.size (.tup [.int i,x]) e=none:=by rw[upd_ne (Re (Heap.lt_size he))];exact f0
  have I2:=I1.turned (h':=h'') (t':=s.toks+1) (it:=e) (λb o hb q=>(sb.2 b hb).trans q) hen f1 f3 f4 f5;refine⟨.ref s.heap.objs.size,_,I2,rfl,⟨x,_,rfl,hfp,rfl,λys hy=>by rw[I.list_inj hy hq];exact hx⟩,⟨⟨u,?_⟩,hit'.at λo q=>(sb.2 it (Ne.symm hne)).trans q⟩,λb hb=>?_⟩
  ·have:((i+1:Nat):Int)=(i:Int)+1:=by omega
   rw[this];exact he''
  ·have hlt:b<s.heap.objs.size:=by
    rcases QK.mp hb with rfl |hb
    ·exact Heap.lt_size he
    ·have q:b=it:=by simpa using hb
     subst q;obtain⟨o,e1,_⟩:=hi;exact Heap.lt_size e1
   rw[upd_ne (Re hlt)];exact(hf b hb).1
 done:=by intro X hP hw hK hc i pins s σ H E I hf st hg;subst hP hw hK;obtain⟨⟨old,he⟩,hi⟩:=st;obtain⟨xs,hq,hx⟩:=hg;obtain⟨its,rv,p,hz⟩:=I.list hq;obtain⟨f0,f1,f2,f3,f4,f5⟩:=hf it (by simp);have hl:=rv.length;exact wpAny_pyNext_enum_end (I.ok.hd hc) he hi p.isList (by simp;omega) λh' eb=>⟨rfl,I.turned (t':=s.toks) (λb o hb e=>eb b o hb e) f0 f1 f3 f4 f5⟩
 self:=λ_ _ _ _ _ st h=>by obtain⟨⟨old,he⟩,hi⟩:=st;exact wpAny_pyIter_enum he h
section
variable {X:Cx}
def J2(K:PySem.W.Frag)(ta:TA):TI:=λσ H R=>ta σ H λvs H1=>∃a,vs=[.ref a]/\(∃xs,SqL K H1 a xs)/\R (Ite K a) H1
theorem og{es:List Expr}{x1:Nat}{tp:Pos}{a:Expr}{ta:TA}{p pos:Pos}(hg:Gl X "enumerate")(hm:X.mg "enumerate"=none)(ha:PA X [a] ta)(hs:starEach [a] X.env=[(false,eval a X.env)]:=by rfl):PI X (.Tuple es x1 tp) (.Call (.Name "enumerate" p) [a] [] pos) (J2 X.K ta):=by
 intro pins s σ H R I h;refine Call_ (gH I hg hm boot_enumerate (PyProof.Rows.callWith_type1 (thn (ha pos pins s σ H _ I h) λus s1 ⟨vs,H1,I1,r1,q1⟩=>?_) hs rfl));obtain⟨a',e,⟨xs,hq⟩,q⟩:=q1;subst e;obtain⟨u,rfl,ru⟩:=r1.one;cases ru;obtain⟨its,rv,pl,hz⟩:=I1.list hq;refine call_enumerate_list pl.isList λh' he hit hsz hk=>?_
 have I2:Inv X pins σ H1 { s1 with heap:=h' }:=I1.kept (t':=s1.toks) hk;refine wpAny_pyIter_enum he ?_;refine⟨s1.heap.objs.size+1,[s1.heap.objs.size+1,s1.heap.objs.size],_,_,H1,rfl,I2,Cz a' _ _ (Nat.succ_ne_self _),⟨⟨_,he⟩,hit⟩,λb hb=>?_,q⟩
 have hb':s1.heap.objs.size<=b:=by
  rcases QK.mp hb with rfl |hb
  ·exact Nat.le_succ _
  ·have q:b=s1.heap.objs.size:=by simpa using hb
   subst q;exact QD _
 exact I1.fpOk hb' (I1.hok.fresh hb')
end
theorem uh{K:PySem.W.Frag}{a:Addr}{xs:List V}{g:TG}{tb:TS}{D:Ends}{σ:St}{H:Hp}(Pv:Nat->St->Hp->Prop)(h0:Pv 0 σ H)(hl:∀i σ H,i<=xs.length->Pv i σ H->SqL K H a xs)
 (hs:∀i x σ H p,xs[i]?=some x->Pv i σ H->H p=none->g (.ref p) σ (upd H p (.tup [.int i,x])) λσ2 H2=>tb { D with nx:=Pv (i+1),ct:=Pv (i+1),bk:=D.nx } σ2 H2) (hd:∀σ H,Pv xs.length σ H->D.nx σ H) :
 ∃W:Nat->Nat->St->Hp->Prop,(∃m,W 0 m σ H)/\∀i m σ H,W i m σ H ->
  ((Ite K a).stop i H/\D.nx σ H)\/((Ite K a).go i H/\∃N:St->Hp->Prop,(∀σ' H',N σ' H'->∃m',m'<m/\W (i+1) m' σ' H')/\∀x H',(Ite K a).yld i H x H'->g x σ H' λσ2 H2=>tb { D with nx:=N,ct:=N,bk:=D.nx } σ2 H2):=by
 refine⟨λi m σ H=>m=xs.length-i/\i<=xs.length/\Pv i σ H,⟨xs.length,by simp,QH _,h0⟩,?_⟩;rintro i m σ H ⟨rfl,hi,p⟩;have q:=hl i σ H hi p;by_cases hlt:i<xs.length
 ·refine .inr ⟨⟨xs,xs[i],q,by simp[hlt]⟩,Pv (i+1),λσ' H' p'=>⟨xs.length-(i+1),by omega,rfl,hlt,p'⟩,λx H' y=>?_⟩;obtain⟨v,r,rfl,hr,rfl,y⟩:=y;exact hs i v σ _ r (y xs q) p hr
 ·have e:i=xs.length:=by omega
  subst e;exact .inl ⟨⟨xs,q,QD _⟩,hd σ H p⟩
theorem Lr{n:Nat}{js:List Nat}{K:PySem.W.Frag}{a:Addr}{xs:List V}{g:TG}{te:TE}{σ0:St}{H:Hp}{Q:VK}(Pv:Nat->List V->St->Hp->Prop)(hz:xs.length<=sizeLine)(h0:Pv 0 [] (iy n js σ0) H)(hl:∀i ys σ H,i<=xs.length->Pv i ys σ H->SqL K H a xs/\ys.length<=i)
 (hs:∀i x ys σ H p,xs[i]?=some x->Pv i ys σ H->H p=none->g (.ref p) σ (upd H p (.tup [.int i,x])) λσ2 H2=>te σ2 H2 λy H3=>Pv (i+1) (ys++[y]) σ2 H3) (hd:∀ys σ H p,Pv xs.length ys σ H->H p=none->Q (.ref p) (upd H p (.lst ys))) :
 o8 n js g te σ0 Q (Ite K a) H:=by
 refine⟨λi m ys σ H=>m=xs.length-i/\i<=xs.length/\Pv i ys σ H,⟨xs.length,by simp,QH _,h0⟩,?_⟩;rintro i m ys σ H ⟨rfl,hi,p⟩;obtain⟨q,hy⟩:=hl i ys σ H hi p;by_cases hlt:i<xs.length
 ·refine .inr ⟨⟨xs,xs[i],q,by simp[hlt]⟩,by omega,λy σ'' H''=>Pv (i+1) (ys++[y]) σ'' H'',λy σ' H' p'=>⟨xs.length-(i+1),by omega,rfl,hlt,p'⟩,λx H' y=>?_⟩;obtain⟨v,r,rfl,hr,rfl,y⟩:=y;exact hs i v ys σ _ r (y xs q) p hr
 ·have e:i=xs.length:=by omega
  subst e;exact .inl ⟨⟨xs,q,QD _⟩,λr hr=>hd ys σ H r p hr⟩
noncomputable def Itv(K:PySem.W.Frag)(a:Addr)(xs:List V):It :=
 ⟨λi H=>SqL K H a xs/\i<xs.length,λi H x H'=>H'=H/\xs[xs.length-1-i]?=some x,λi H=>xs.length<=i⟩
theorem Cu{P:Program}{w:World}{K:PySem.W.Frag}{tg:Expr}(a it:Addr)(xs:List V):Turn P w K tg (Itv K a xs) [it] it (λi h=>i<=xs.length/\h.IsRevIter it a ((xs.length:Int)-1-i)) where
 mem:=by simp
 obj:=λi h st b hb=>by
  have e:b=it:=by simpa using hb
  subst e;obtain⟨_,o,e,c,d⟩:=st;exact⟨o,e,λv z=>by rw[d]at z;cases z⟩
 keep:=λi h h' st k=>⟨st.1,st.2.at λo e=>k it (by simp) o e⟩
 item:=by
  intro X hP hw hK hc i pins s σ H E I hf st hg;subst hP hw hK;obtain⟨hq,hlt⟩:=hg;obtain⟨its,rv,p,hz⟩:=I.list hq;have hl:=rv.length;obtain⟨x,hx⟩:∃x,xs[xs.length-1-i]?=some x:=⟨_,List.getElem?_eq_getElem (by omega)⟩;obtain⟨u,hu,ru⟩:=rv.get hx;obtain⟨f0,f1,f2,f3,f4,f5⟩:=hf it (by simp);have e1:(xs.length:Int)-1-i=((xs.length-1-i:Nat):Int):=by omega
  have hit:=st.2;rw[e1]at hit;refine wpAny_pyNext_rev_item hit p.isList (x:=u) (by simpa using hu) λh' st' sb=>?_
  have I1:Inv X pins σ H { s with heap:=h' }:=I.turned (t':=s.toks) (λb o hb e=>(sb.2 b hb).trans e) f0 f1 f3 f4 f5;obtain⟨o,e,c,d⟩:=id st';refine⟨u,rfl,ke (s:={ s with heap:=h' }) e c d (by decide) ⟨x,H,I1,ru,⟨rfl,hx⟩,⟨hlt,?_⟩,λb hb=>(hf b hb).1⟩⟩;have e2:(xs.length:Int)-1-((i+1:Nat):Int)=((xs.length-1-i:Nat):Int)-1:=by omega
  rw[e2];exact st'
 done:=by
  intro X hP hw hK hc i pins s σ H E I hf st hg;subst hP hw hK;obtain⟨f0,f1,f2,f3,f4,f5⟩:=hf it (by simp);have hle:xs.length<=i:=hg;have e1:(xs.length:Int)-1-i = -1:=by have:=st.1;omega
  have hit:=st.2;rw[e1]at hit;exact wpAny_pyNext_rev_end (I.ok.hd hc) hit λh' eb=>⟨rfl,I.turned (t':=s.toks) (λb o hb e=>eb b o hb e) f0 f1 f3 f4 f5⟩
 self:=λ_ _ _ _ _ st h=>wpAny_pyIter_revIter st.2 h
section
variable {X:Cx}{tg:Expr}
def J1(K:PySem.W.Frag)(ta:TA):TI:=λσ H R=>ta σ H λvs H1=>∃a xs,vs=[.ref a]/\SqL K H1 a xs/\R (Itv K a xs) H1
theorem sE{a:Expr}{ta:TA}{p pos:Pos}(hg:Gl X "reversed")(hm:X.mg "reversed"=none)(ha:PA X [a] ta)(hs:starEach [a] X.env=[(false,eval a X.env)]:=by rfl):PI X tg (.Call (.Name "reversed" p) [a] [] pos) (J1 X.K ta):=by
 intro pins s σ H R I h;refine Call_ (gH I hg hm boot_reversed (PyProof.Rows.callWith_type1 (thn (ha pos pins s σ H _ I h) λus s1 ⟨vs,H1,I1,r1,q1⟩=>?_) hs rfl));obtain⟨a',xs,e,hq,q⟩:=q1;subst e;obtain⟨u,rfl,ru⟩:=r1.one;cases ru;obtain⟨its,rv,pl,hz⟩:=I1.list hq;have hl:=rv.length;refine call_reversed_list pl.isList ?_
 have hit:(s1.heap.push (revObj a' ((its.toArray.size:Int)-1))).IsRevIter s1.heap.objs.size a' ((xs.length:Int)-1-((0:Nat):Int)):=by
  have e1:(xs.length:Int)-1-((0:Nat):Int)=(its.toArray.size:Int)-1:=by rw[Ra];omega
  rw[e1];exact⟨_,Heap.get?_push_size _ rfl,rfl,rfl⟩
 have I2:Inv X pins σ H1 { s1 with heap:=s1.heap.push (revObj a' ((its.toArray.size:Int)-1)) }:=I1.kept (t':=s1.toks) λb o e=>Heap.get?_push_of_some _ e
 refine wpAny_pyIter_revIter (s:={ s1 with heap:=s1.heap.push (revObj a' ((its.toArray.size:Int)-1)) }) hit ?_;refine⟨s1.heap.objs.size,[s1.heap.objs.size],_,_,H1,rfl,I2,Cu a' _ xs,⟨QH _,hit⟩,λb hb=>?_,q⟩;have e:b=s1.heap.objs.size:=by simpa using hb
 subst e;exact I1.fpOk (QD _) (I1.hok.fresh (QD _))
end
theorem ug{K:PySem.W.Frag}{a:Addr}{xs:List V}{g:TG}{tb:TS}{D:Ends}{σ:St}{H:Hp}(Pv:Nat->St->Hp->Prop)(h0:Pv 0 σ H)(hl:∀i σ H,i<=xs.length->Pv i σ H->SqL K H a xs)
 (hs:∀i x σ H,i<xs.length->xs[xs.length-1-i]?=some x->Pv i σ H->g x σ H λσ2 H2=>tb { D with nx:=Pv (i+1),ct:=Pv (i+1),bk:=D.nx } σ2 H2) (hd:∀σ H,Pv xs.length σ H->D.nx σ H) :
 ∃W:Nat->Nat->St->Hp->Prop,(∃m,W 0 m σ H)/\∀i m σ H,W i m σ H ->
  ((Itv K a xs).stop i H/\D.nx σ H)\/((Itv K a xs).go i H/\∃N:St->Hp->Prop,(∀σ' H',N σ' H'->∃m',m'<m/\W (i+1) m' σ' H')/\∀x H',(Itv K a xs).yld i H x H'->g x σ H' λσ2 H2=>tb { D with nx:=N,ct:=N,bk:=D.nx } σ2 H2):=by
 refine⟨λi m σ H=>m=xs.length-i/\i<=xs.length/\Pv i σ H,⟨xs.length,by simp,QH _,h0⟩,?_⟩;rintro i m σ H ⟨rfl,hi,p⟩;by_cases hlt:i<xs.length
 ·refine .inr ⟨⟨hl i σ H hi p,hlt⟩,Pv (i+1),λσ' H' p'=>⟨xs.length-(i+1),by omega,rfl,hlt,p'⟩,λx H' y=>?_⟩;obtain⟨e,y⟩:=y;subst e;exact hs i x σ _ hlt y p
 ·have e:i=xs.length:=by omega
  subst e;exact .inl ⟨QD _,hd σ H p⟩
structure FunD(K:PySem.W.Frag)(x qual:Str)(st:Stmt)(dV:Value)(f:Addr)(fd:FuncData):Prop where
 ex:∃(oc:Value) (od:Option Addr) (kV doc pm:Value) (an:Option Addr) (cdv ct:Value) (osl:Array (Option Value)),
  fd=PySem.W.fnOf x qual (dQ st) (dk st) (aD st) dV kV doc pm an cdv ct/\K.lookup f=some ⟨oc,od,.func fd,osl⟩/\PySem.W.codeIn K cdv qual=true
 kp:PySem.W.keepIn K (.ref f)=true
section
variable {P:Program}{w:World}{K:PySem.W.Frag}{mg:Str->Option Value}{base:Heap}
theorem FunD.ok{x qual:Str}{st:Stmt}{dV:Value}{f:Addr}{fd:FuncData}{N ps:List Str}{k:Nat}{sp:Sp}(F:FunD K x qual st dV f fd)(S:FnScope N ps (aD st))(len:∀vs H Q E,sp vs H Q E->vs.length=ps.length)
 (hbody:∀(cdv:Value) (A:Around) (outer:List Env) (s:Shared) (H:Hp) (vs:List V) (Q:VK) (E:XK),Room k (A.deeper (envOfC qual (aD st) s.heap.objs.size f cdv))->sp vs H Q E ->
   ∃t,PSs (jp CX0 P w K mg base N qual (aD st) f cdv A outer s H E).nox (dk st) t/\t { nx:=λ_ H'=>Q .non H',rt:=Q } (start N vs) H):FnOk P w K mg base CX0 (k+1) f fd ps sp:=by
 obtain⟨oc,od,kV,doc,pm,an,cdv,ct,osl,rfl,lk,hcd⟩:=F.ex;refine AH lk hcd S len λA outer s H vs Q E hr hsp=>?_
 obtain⟨t,h,q⟩:=hbody cdv A outer s H vs Q E hr hsp;exact⟨t,h.nox,q⟩
theorem FunD.binds{x qual:Str}{st:Stmt}{dV:Value}{f:Addr}{fd:FuncData}{ps:List Str}(F:FunD K x qual st dV f fd)
 (h:∀(kV doc pm:Value) (an:Option Addr) (cdv ct:Value) (us:List Value),us.length=ps.length->bindArgs (PySem.W.fnOf x qual (dQ st) (dk st) (aD st) dV kV doc pm an cdv ct) ⟨us,[]⟩=pure (ps.zip us)):Binds K fd ps []:=by
 obtain⟨oc,od,kV,doc,pm,an,cdv,ct,osl,rfl,lk,hcd⟩:=F.ex;exact .all (h kV doc pm an cdv ct)
theorem FunD.bindsD{x qual:Str}{st:Stmt}{T:Addr}{f:Addr}{fd:FuncData}{ps:List Str}{ds tup:List Value}{o:Obj}{n:Nat}(m:Nat)(F:FunD K x qual st (.ref T) f fd)(lo:K.lookup T=some o)(hs:o.data=.seq tup.toArray n)(hm:m+ds.length=ps.length)
 (h:∀(kV doc pm:Value) (an:Option Addr) (cdv ct:Value) (us:List Value),us.length=m->∃k:Option (Array Value)->Sem (List (Str×Value)),
   bindArgs (PySem.W.fnOf x qual (dQ st) (dk st) (aD st) (.ref T) kV doc pm an cdv ct) ⟨us,[]⟩=seqItems? (.ref T) >>= k/\k (some tup.toArray)=pure (ps.zip (us++ds))):Binds K fd ps ds:=by
 obtain⟨oc,od,kV,doc,pm,an,cdv,ct,osl,rfl,lk,hcd⟩:=F.ex;intro s us KX hl;rw[QO]at hl;obtain⟨k,h1,h2⟩:=h kV doc pm an cdv ct us (by omega);exact PySem.W.binds_K (k:=k) KX rfl lo hs h1 h2
theorem uf{x qual:Str}{st:Stmt}{f:Addr}{oc:Value}{od an:Option Addr}{osl:Array (Option Value)}{dV kV doc pm cdv ct:Value}(l:K.lookup f=some ⟨oc,od,.func (PySem.W.fnOf x qual (dQ st) (dk st) (aD st) dV kV doc pm an cdv ct),osl⟩)
 (c:PySem.W.codeIn K cdv qual=true) (k:PySem.W.keepIn K (.ref f)=true):FunD K x qual st dV f (PySem.W.fnOf x qual (dQ st) (dk st) (aD st) dV kV doc pm an cdv ct):=⟨⟨oc,od,kV,doc,pm,an,cdv,ct,osl,rfl,l,c⟩,k⟩
end
structure MCal(P:Program)(w:World)(K:PySem.W.Frag)(mg:Str->Option Value)(base:Heap)(k:Nat)(C:Addr)(m:Str)(ps:List Str)(sp:Sp)(f:Addr)(fd:FuncData):Prop where
 ok:FnOk P w K mg base CX0 k f fd ps sp
 mt:Meth K C m f
 bd:Binds K fd ps []
structure KCal(P:Program)(w:World)(K:PySem.W.Frag)(mg:Str->Option Value)(base:Heap)(k:Nat)(C:Addr)(x:Str)(ps:List Str)(sp:Sp)(f:Addr)(fd:FuncData)(ds:List Value)(dvs:List V):Prop where
 ok:FnOk P w K mg base CX0 k f fd ps sp
 mkr:Mk K C f
 mg:mg x=some (.ref C)
 bd:Binds K fd ps []
 bdD:Binds K fd ps ds
 vd:Vals dvs ds
section
variable {prog:Program}{w:World}{A:Around}{E:Value->Shared->Prop}{s:Shared}
end
section
variable {X:Cx}{K:PySem.W.Frag}
theorem Fh{pos:Pos}{es:List Expr}{k:Nat}{t:TGs}{n:Nat}(hK:X.K=K)(hc:X.calm=true)(h:PGs X es t)(hn:(assignEach es X.env).length=n)(hst:(assignEach es X.env).findIdx? (·.1)=none):PG X (.Tuple es k pos) (AB K n t):=by subst hK;exact ik hc h hn hst
end
section
variable {P:Program}{w:World}{K:PySem.W.Frag}{mg:Str->Option Value}{base:Heap}{N:List Str}{qual:Str}{scope:Scope}{f:Addr}{cd:Value}{A:Around}{outer:List Env}{s:Shared}{H:Hp}{E:XK}{pins:List (Addr×Obj)}{σ:St}{H1:Hp}{s1:Shared}
end
noncomputable def kD(lo:Int)(n:Nat):It:=⟨λi _=>i<n,λi H x H'=>H'=H/\x=.int (lo+i * -1),λi _=>n<=i⟩
theorem Cv{P:Program}{w:World}{K:PySem.W.Frag}{tg:Expr}(it:Addr)(lo:Int)(n:Nat):Turn P w K tg (kD lo n) [it] it (λi h=>IsRangeIter h it (lo+(i:Nat) * -1) ((n:Int)-(i:Nat)) (-1)) where
 mem:=by simp
 obj:=λi h st b hb=>by
  have e:b=it:=by simpa using hb
  subst e
  exact⟨_,st,λv z=>by
   have z':Data.fields _=Data.cell v:=z
   cases z'⟩
 keep:=λi h h' st k=>k it (by simp) _ st
 item:=by
  intro X hP hw hK hc i pins s σ H E I hf st hg;subst hP hw hK;obtain⟨f0,f1,f2,f3,f4,f5⟩:=hf it (by simp);have W:=Walks.range (prog:=X.prog) (w:=X.w) (I.ok.hd hc) it lo (-1) n;refine W.item i s _ _ hg st λv h' tk hv st' kk=>?_
  obtain⟨t,rfl⟩:=hv;have I1:Inv X pins σ H { s with heap:=h',toks:=tk }:=I.turned (λb o hb e=>kk b o (by simpa using hb) e) f0 f1 f3 f4 f5;exact⟨_,rfl,ke (s:={ s with heap:=h',toks:=tk }) (n:="range_iterator") st' rfl rfl (by decide) ⟨.int (lo+i * -1),H,I1,⟨t,rfl⟩,⟨rfl,rfl⟩,st',λb hb=>(hf b hb).1⟩⟩
 done:=by intro X hP hw hK hc i pins s σ H E I hf st hg;subst hP hw hK;obtain⟨f0,f1,f2,f3,f4,f5⟩:=hf it (by simp);exact wpAny_pyNext_range_end (I.ok.hd hc) st (by have:n<=i:=hg;omega) λh' eb=>⟨rfl,I.turned (t':=s.toks) (λb o hb e=>eb b o hb e) f0 f1 f3 f4 f5⟩
 self:=λ_ _ _ _ _ st h=>wpAny_pyIter_rangeiter st h
theorem yw(a b:Int):Builtin.Range.rangeSize a b (-1)=if b<a then a-b else 0:=by unfold Builtin.Range.rangeSize;rw[if_neg (by decide)];show(if a>b then(a-b-1)/1+1 else 0)=_;rw[Int.ediv_one];split<;>omega
theorem Dj{a b:Int}(ha : -(2^61)<=a)(ha':a<2^61)(hb : -(2^61)<=b)(hb':b<2^61):Builtin.Range.small a b (-1)=true:=by unfold Builtin.Range.small;rw[yw];simp only[Builtin.Range.rangeFitsLong,SQ,Bool.or_eq_true,decide_eq_true_eq,beq_iff_eq,show ¬((-1:Int)>0) by decide,if_false];split<;>omega
section
variable {X:Cx}{tg:Expr}
theorem EF{pins:List (Addr×Obj)}{σ:St}{H:Hp}{s:Shared}{R:It->Hp->Prop}{E:Value->Shared->Prop}{lo hi:Int}{t u v:Tok}{tk:Nat}(I:Inv X pins σ H s)(h1 : -(2^61)<=lo)(h2:lo<2^61)(h3 : -(2^61)<=hi)(h4:hi<2^61)
 (q:R (kD lo (lo-hi).toNat) H):wpAny (model X.prog X.w) X.A (pyIter (.ref s.heap.objs.size)) (PIE X pins σ tg R) E { s with heap:=s.heap.push { cls:=.type "range",data:=.fields #[.int lo t,.int hi u,.int (-1) v] },toks:=tk }:=by
 refine wpAny_pyIter_range (IsRange.new ..) (Dj h1 h2 h3 h4) ?_;have I1:Inv X pins σ H { s with heap:=s.heap.push { cls:=.type "range",data:=.fields #[.int lo t,.int hi u,.int (-1) v] },toks:=tk }:=I.kept λb o e=>Heap.get?_push_of_some _ e
 refine⟨(s.heap.push { cls:=.type "range",data:=.fields #[.int lo t,.int hi u,.int (-1) v] }).objs.size,[(s.heap.push { cls:=.type "range",data:=.fields #[.int lo t,.int hi u,.int (-1) v] }).objs.size],_,_,H,rfl,
  I1.kept (t':=tk) λb o e=>Heap.get?_push_of_some _ e,Cv _ lo (lo-hi).toNat,?_,λb hb=>?_,q⟩
 ·have e1:lo+((0:Nat):Int) * -1=lo:=by simp
  have e2:(((lo-hi).toNat:Nat):Int)-((0:Nat):Int)=Builtin.Range.rangeSize lo hi (-1):=by rw[yw];split<;>omega
  show IsRangeIter _ _ (lo+((0:Nat):Int) * -1) ((((lo-hi).toNat:Nat):Int)-((0:Nat):Int)) (-1);rw[e1,e2];exact Heap.get?_push_size _ rfl
 ·have e:b=(s.heap.push { cls:=.type "range",data:=.fields #[.int lo t,.int hi u,.int (-1) v] }).objs.size:=by simpa using hb
  subst e;exact I1.fpOk (QD _) (I1.hok.fresh (QD _))
def JY(ta:TA):TI:=λσ H R=>ta σ H λvs H1=>∃i j:Int,vs=[.int i,.int j,.int (-1)]/\(-(2^61)<=i/\i<2^61 /\ -(2^61)<=j/\j<2^61)/\R (kD i (i-j).toNat) H1
theorem yP{a b c:Expr}{ta:TA}{p pos:Pos}(hg:Gl X "range")(hm:X.mg "range"=none)(ha:PA X [a,b,c] ta)(hs:starEach [a,b,c] X.env=[(false,eval a X.env),(false,eval b X.env),(false,eval c X.env)]:=by rfl)(hs2:starEach [b,c] X.env=[(false,eval b X.env),(false,eval c X.env)]:=by rfl) :
 PI X tg (.Call (.Name "range" p) [a,b,c] [] pos) (JY ta):=by
 intro pins s σ H R I h;refine Call_ (gH I hg hm boot_range (PyProof.Rows.callWith_type1 (thn (ha pos pins s σ H _ I h) λus s1 ⟨vs,H1,I1,r1,q1⟩=>?_) (by rw[hs,hs2]) (by rw[hs2];rfl)));obtain⟨i,j,e,⟨q1,q2,q3,q4⟩,q⟩:=q1;subst e;cases r1 with
 |cons r rr =>
  cases rr with
  |cons r' rr =>
   cases rr with
   |cons r'' rr =>cases rr;obtain⟨t,rfl⟩:=r;obtain⟨t',rfl⟩:=r';obtain⟨t'',rfl⟩:=r'';exact call_range_3 (by decide) (EF I1 q1 q2 q3 q4 q) (Or.inl (PyProof.noPylong_small (by decide)))
end
theorem AD{lo:Int}{n:Nat}{g:TG}{tb:TS}{D:Ends}{σ:St}{H:Hp}(Pv:Nat->St->Hp->Prop)(h0:Pv 0 σ H)
 (hs:∀i σ H,i<n->Pv i σ H->g (.int (lo+i * -1)) σ H λσ2 H2=>tb { D with nx:=Pv (i+1),ct:=Pv (i+1),bk:=D.nx } σ2 H2) (hd:∀σ H,Pv n σ H->D.nx σ H) :
 ∃W:Nat->Nat->St->Hp->Prop,(∃m,W 0 m σ H)/\∀i m σ H,W i m σ H ->
  ((kD lo n).stop i H/\D.nx σ H)\/((kD lo n).go i H/\∃N:St->Hp->Prop,(∀σ' H',N σ' H'->∃m',m'<m/\W (i+1) m' σ' H')/\∀x H',(kD lo n).yld i H x H'->g x σ H' λσ2 H2=>tb { D with nx:=N,ct:=N,bk:=D.nx } σ2 H2):=by
 refine⟨λi m σ H=>m=n-i/\i<=n/\Pv i σ H,⟨n,by simp,QH _,h0⟩,?_⟩;rintro i m σ H ⟨rfl,hi,p⟩;by_cases hlt:i<n
 ·refine .inr ⟨hlt,Pv (i+1),λσ' H' p'=>⟨n-(i+1),by omega,rfl,hlt,p'⟩,λx H' y=>?_⟩;obtain⟨e,y⟩:=y;subst e y;exact hs i σ _ hlt p
 ·have e:i=n:=by omega
  subst e;exact .inl ⟨QD _,hd σ H p⟩
section
variable {X:Cx}{K:PySem.W.Frag}
end
section
variable {X:Cx}
noncomputable def EG:V->List V->Hp->VK->Prop:=λx vs H Q=>∃(z:Str) (i:Int),x=.str z/\vs=[.int i]/\PadOk i=true/\Q (.str (PySem.Txt.zfill z i)) H
theorem zv:MtM X "str.zfill" EG:=by intro pins s σ H x vs v us Q I rx rv h;obtain⟨z,i,rfl,rfl,hp,q⟩:=h;obtain⟨t,rfl⟩:=rx;obtain⟨u,rfl,ru⟩:=rv.one;obtain⟨t2,rfl⟩:=ru;exact PySem.SC.zfill hp λt' k=>⟨.str _,H,I.tok _,⟨_,rfl⟩,q⟩
theorem wz:∀{zs:List Str} {us:List Value},Vals (zs.map V.str) us->∃l:List (Str×Tok),us=strValues l/\l.map (·.1)=zs
 | [],_,h=>by cases h;exact⟨[],rfl,rfl⟩
 |z::zs,_,h=>by
  cases h with
  |cons r rr =>obtain⟨t,rfl⟩:=r;obtain⟨l,rfl,e⟩:=wz rr;exact⟨(z,t)::l,rfl,by rw[Ri,e]⟩
noncomputable def yA(K:PySem.W.Frag):V->List V->Hp->VK->Prop:=λx vs H Q=>∃(sep:Str) (a:Addr) (zs:List Str),x=.str sep/\vs=[.ref a]/\SqL K H a (zs.map V.str)/\zs.foldl (λn z=>n+z.length+sep.length) 0<=sizeLine/\(Builtin.Str.glued sep zs).length<=sizeLine/\Q (.str (Builtin.Str.glued sep zs)) H
theorem Hq:MtM X "str.join" (yA X.K):=by
 intro pins s σ H x vs v us Q I rx rv h;obtain⟨sep,a,zs,rfl,rfl,ha,h1,h2,q⟩:=h;obtain⟨t,rfl⟩:=rx;obtain⟨u,rfl,ru⟩:=rv.one;cases ru;obtain⟨its,r,pl,_⟩:=I.list ha;obtain⟨l,rfl,e⟩:=wz r
 have hl:Builtin.Str.tooLong (Array.foldl (λn z=>n+z.length+sep.length) 0 (List.map (λx=>x.fst) l).toArray)=false:=by unfold Builtin.Str.tooLong;rw[e];simp only[List.foldl_toArray',List.foldl_toArray,decide_eq_false_iff_not];omega
 refine call_meets F.slot_str_join (typeIs_str s sep t) F.entry_str_join (F.args_str_join_2 _ _) (meets_str_join_list sep t a l hl) ⟨pl.isList,?_⟩;unfold joinMade;split
 ·rename_i p
  have e':zs=[p.1]:=by rw[<- e];rfl
  subst e';refine⟨.str _,H,I,⟨p.2,rfl⟩,?_⟩;have e3:Builtin.Str.glued sep [p.1]=p.1:=rfl;rw[e3]at q;exact q
 ·rw[e];exact⟨h2,⟨.str _,H,I.tok _,⟨_,rfl⟩,q⟩⟩
theorem Ho{K:PySem.W.Frag}(h:X.K=K):MtM X "str.join" (yA K):=by subst h;exact Hq
end
end L2
namespace RM
open PySem
theorem ofS(s:String):Str.ofString s=⟨(s.toList.map Char.toNat).toArray⟩:=by unfold Str.ofString;rw[cpsOfBytes_string]
noncomputable def aK(n:Nat):List Nat:=(Nat.toDigits 10 n).map Char.toNat
theorem tY(n:Nat):Str.ofString (toString (n:Int))=⟨(aK n).toArray⟩:=by rw[ofS];show(⟨(((Nat.repr n)).toList.map Char.toNat).toArray⟩:Str)=_;unfold Nat.repr aK;rw[String.toList_ofList]
theorem JV(n:Nat):Str.ofString (toString (Int.negSucc n))=⟨(45::aK (n+1)).toArray⟩:=by rw[ofS];show(⟨((("-"++Nat.repr (n+1))).toList.map Char.toNat).toArray⟩:Str)=_;unfold Nat.repr aK;rw[String.toList_append,String.toList_ofList,String.toList_ofList];rfl
theorem Ba:∀d,d<10->(Nat.digitChar d).toNat=48+d:=by decide
theorem gz{n:Nat}(h:n<10):aK n=[48+n]:=by unfold aK;rw[Nat.toDigits_of_lt_base h];show[_]=_;rw[Ba n h]
theorem j3{n:Nat}(h:10<=n):aK n=aK (n/10)++[48+n%10]:=by unfold aK;rw[Nat.toDigits_of_base_le (by decide) h,QY];show _++[_]=_;rw[Ba _ (Nat.mod_lt _ (by decide))]
noncomputable def pad:Nat->Nat->List Nat
 |0,_=>[]
 |k+1,r=>pad k (r/10)++[48+r%10]
theorem yU:∀(k r:Nat),(pad k r).length=k
 |0,_=>rfl
 |k+1,r=>by show(pad k (r/10)++[_]).length=_;rw[QO,yU k];rfl
theorem y7{q:Nat}(hq:0<q):∀(k r:Nat),r<10^k->aK (q*10^k+r)=aK q++pad k r
 |0,r,h=>by
  have e:r=0:=by simpa using h
  subst e;show aK (q*1+0)=aK q++[];rw[Nat.mul_one,Nat.add_zero,List.append_nil]
 |k+1,r,h=>by
  have hp:1<=10^k:=RC (by decide);have e1:q*10^(k+1)+r=10*(q*10^k)+r:=by rw[Rz];grind
  have h2:1<=q*10^k:=RD hq hp;rw[e1,j3 (by omega)];have e2:(10*(q*10^k)+r)/10=q*10^k+r/10:=by omega
  have e3:(10*(q*10^k)+r)%10=r%10:=by omega
  have h3:r/10<10^k:=by rw[Rz]at h;omega
  rw[e2,e3,y7 hq k (r/10) h3,RW];rfl
theorem yT:∀k,pad k 0=List.replicate k 48
 |0=>rfl
 |k+1=>by show pad k (0/10)++[48+0%10]=_;rw[Nat.zero_div,yT k,List.replicate_succ']
theorem sJ:∀(k r:Nat),r<10^(k+1)->(aK r).length<=k+1/\pad (k+1) r=List.replicate (k+1-(aK r).length) 48++aK r
 |0,r,h=>by
  have h':r<10:=by simpa using h
  rw[gz h'];refine⟨QD _,?_⟩;show pad 0 (r/10)++[48+r%10]=_;rw[Nat.mod_eq_of_lt h'];rfl
 |k+1,r,h=>by
  by_cases h':r<10
  ·rw[gz h'];refine⟨by show 1<=k+1+1;omega,?_⟩;show pad (k+1) (r/10)++[48+r%10]=List.replicate (k+1) 48++[48+r];rw[Nat.mod_eq_of_lt h',Nat.div_eq_of_lt h',yT]
  ·have h3:r/10<10^(k+1):=by rw[Rz]at h;omega
   obtain⟨i1,i2⟩:=sJ k (r/10) h3;rw[j3 (by omega)];refine⟨by rw[QO];show _+1<=_;omega,?_⟩;show pad (k+1) (r/10)++[48+r%10]=_;rw[i2,QO,RW];have e:k+1+1-((aK (r/10)).length+[48+r%10].length)=k+1-(aK (r/10)).length:=by show k+1+1-((aK (r/10)).length+1)=_;omega
   rw[e]
theorem sQ:∀(n m:Nat),m<=n->∀c∈aK m,48<=c
 |0,m,h=>by
  have e:m=0:=by omega
  subst e;rw[gz (by decide)];intro c hc;rw[QF.mp hc];omega
 |n+1,m,h=>by
  intro c hc;by_cases h':m<10
  ·rw[gz h']at hc;rw[QF.mp hc];omega
  ·rw[j3 (by omega)]at hc;rcases QS.mp hc with hc |hc
   ·exact sQ n (m/10) (by omega) c hc
   ·rw[QF.mp hc];omega
theorem Cd{r:Nat}(h:r<10^64):PySem.Txt.zfill (Str.ofString (toString (r:Int))) 64=⟨(pad 64 r).toArray⟩:=by
 obtain⟨i1,i2⟩:=sJ 63 r h;rw[tY];unfold PySem.Txt.zfill;have hl:(⟨(aK r).toArray⟩:Str).length=(aK r).length:=by unfold Str.length;simp
 rw[hl];by_cases h6:(64:Int)<=((aK r).length:Nat)
 ·rw[if_pos h6,i2];have e:63+1-(aK r).length=0:=by omega
  rw[e];rfl
 ·rw[if_neg h6];unfold zfilled
  have hc:∀c,(⟨(aK r).toArray⟩:Str).cps[0]?=some c->48<=c:=λc e=>by
   have e':(aK r)[0]?=some c:=by simpa using e
   exact sQ r r (QD _) c (List.mem_of_getElem? e')
  split
  ·rename_i e
   have:=hc _ e;omega
  ·rename_i e
   have:=hc _ e;omega
  ·unfold Builtin.Str.padded;rw[i2];have e:Int.toNat 64-(aK r).length=63+1-(aK r).length:=rfl;rw[e];generalize 63+1-(aK r).length=m;generalize aK r=l;refine congrArg Str.mk ?_;simp
theorem LD(a b:List Nat):(⟨a.toArray⟩:Str)++(⟨b.toArray⟩:Str)=⟨(a++b).toArray⟩:=by show(⟨a.toArray++b.toArray⟩:Str)=_;refine congrArg Str.mk ?_;simp
theorem Aw:∀(ls:List (List Nat)) (a:List Nat),(List.foldl (λacc (p:Str)=>acc++(Str.ofString "").cps++p.cps) a.toArray (ls.map λl=>(⟨l.toArray⟩:Str)))=(a++ls.flatten).toArray
 | [],a=>by simp
 |l::ls,a=>by
  rw[Ri,List.foldl_cons]
  have e:a.toArray++(Str.ofString "").cps++l.toArray=(a++l).toArray:=by rw[ofS];simp
  show List.foldl _ (a.toArray++(Str.ofString "").cps++l.toArray) _=_;rw[e,Aw ls (a++l),R4,RW]
theorem Av(ls:List (List Nat)):Builtin.Str.glued (Str.ofString "") (ls.map λl=>(⟨l.toArray⟩:Str))=⟨ls.flatten.toArray⟩:=by
 unfold Builtin.Str.glued;cases ls with
 |nil=>rfl
 |cons l ls =>refine congrArg Str.mk ?_;show List.foldl _ l.toArray ((List.map _ (l::ls)).drop 1)=_;rw[Ri,List.drop_succ_cons,RL,Aw,R4]
end RM
namespace L2
open PySem PySem.Spec PyProof.Rows
theorem IN{P:Program}{w:World}{K:PySem.W.Frag}{mg mb:Str->Option Value}{CX:CXT}{k:Nat}{fa a:Addr}{fd:FuncData}{x:Str}{sp:Sp}{s₁:Shared}{vs:List Value}{ns:List Int}
 (KX:K.In s₁.heap) (hns:s₁.heap.Ns mainGlobals mg) (hb:s₁.heap.Ns builtinsNs mb) (hbb:∀x:Str,x≠"__name__"->mb x=bootBuiltins x) (hlim:s₁.heap.NoLimit) (hse:s₁.heap.NoSeer) (hg:s₁.gens=#[])
 (ha:s₁.heap.get? a=some { cls:=.type "list",data:=.seq vs.toArray }) (hi:IntsAre vs ns) (hl:ns.length<=sizeLine) (hr:Room k callerA)
 (F:∀base:Heap,K.In base->base.Ns mainGlobals mg->base.NoSeer->FnOk P w K mg base CX k fa fd [x] sp) (hbind:∀(s:Shared) (u:Value),BindsTo s fd ⟨[u],[]⟩ [(x,u)])
 (hsp:∀H:Hp,vq H->SqL K H a (ns.map V.int)->sp [.ref a] H (λv _=>v=.bl true) λ_ _ _=>False)
 (hCX:∀H e s',CX [] H s₁ (λ_ _ _=>False) e s'->False) :
 codeAny (model P w) callerA (.call (.ref fa) ⟨[.ref a],[]⟩) (λr s'=>r=.ok (.ret (.bool true))/\OldK s₁.heap s'.heap/\s'.os=s₁.os/\AllBare s'.gens) s₁:=by
 have rv:=vX hi;have lenV:=hi.length
 have core:∀H:Hp,vq H->SqL K H a (ns.map V.int)->HOk P w H s₁.heap->(∀b,H b≠none->b=a)->(H a≠none->K.lookup a=none) ->
  codeAny (model P w) callerA (.call (.ref fa) ⟨[.ref a],[]⟩) (λr s'=>r=.ok (.ret (.bool true))/\OldK s₁.heap s'.heap/\s'.os=s₁.os/\AllBare s'.gens) s₁:=by
  intro H hO hS hok hA hK;have base_of:∀{b:Addr} {o:Obj},s₁.heap.get? b=some o->H b=none->(gb s₁.heap H).get? b=some o:=λe n=>J6 e n
  have noA:∀{b:Addr} {o:Obj} {es:Array DictEntry} {ep:Nat},s₁.heap.get? b=some o->o.data=.dict es ep->H b=none:=λ{b o es ep} e d=>by
   cases q:H b with
   |none=>rfl
   |some u =>have e':b=a:=hA b (by rw[q];simp);subst e';rw[ha]at e;cases e;have d':Data.seq vs.toArray _=Data.dict es ep:=d;cases d'
  have nsK:∀{b:Addr} {m:Str->Option Value},s₁.heap.Ns b m->(gb s₁.heap H).Ns b m:=λ{b m} ⟨o,es,ep,e,d,r⟩=>⟨o,es,ep,base_of e (noA e d),d,r⟩
  have hKb:K.In (gb s₁.heap H):=λb o e=>base_of (KX b o e) (by
   cases q:H b with
   |none=>rfl
   |some u =>
    have e':b=a:=hA b (by rw[q];simp);subst e'
    rw[hK (by rw[q];simp)]at e;cases e)
  have hM:Mod K mg (gb s₁.heap H):=⟨hKb,nsK hns,⟨mb,nsK hb,hbb⟩,let⟨mc,h1,h2⟩:=hlim;⟨mc,nsK h1,h2⟩⟩
  have hSb:(gb s₁.heap H).NoSeer:=by
   obtain⟨⟨mc,c1,c2,c3⟩,⟨mm,m1,m2⟩,⟨mb',b1,b2⟩,⟨mg',bm,ob,g1,g2,g3,g4,g5⟩⟩:=hse;refine⟨⟨mc,nsK c1,c2,c3⟩,⟨mm,nsK m1,m2⟩,⟨mb',nsK b1,b2⟩,⟨mg',bm,ob,nsK g1,g2,base_of g3 ?_,g4,g5⟩⟩;cases q:H bm with
   |none=>rfl
   |some u =>have e':bm=a:=hA bm (by rw[q];simp);rw[e',ha]at g3;cases g3;exact absurd (Value.type.inj g4) (by decide)
  have e0:Env0 P w K mg (gb s₁.heap H) callerA [] s₁ H:=⟨rfl,hM,λb o e=>G8 e,R8 (J5 _ _),trivial,λb hb=>absurd (show b∈([]:List Addr)from hb) (by simp),hok,.of_eq hg⟩;refine codeAny_mono ((F _ hKb (nsK hns) hSb).run callerA [] s₁ H ⟨[.ref a],[]⟩ [.ref a] [.ref a] _ _ hr e0 (hbind s₁ (.ref a)) (.cons rfl .nil) (hsp H hO hS)) λr s' h=>?_
  cases r with
  |error e=>exact(hCX H e s' h).elim
  |ok fl =>
   cases fl with
   |next=>exact False.elim h
   |brk=>exact False.elim h
   |cont=>exact False.elim h
   |ret u =>
    obtain⟨v,H',os,bare,un,hok',r',q⟩:=h;have q':v=.bl true:=q;subst q';obtain rfl:u=Value.bool true:=r';refine⟨rfl,OldK.of_keep λb o e=>?_,os,bare⟩;cases q:H b with
    |none=>exact un.keep b o e q (by intro z;exact absurd (show b∈([]:List Addr)from z) (by simp)) (by simp)
    |some u =>
     rcases hO b with z |⟨ob,xs,z⟩
     ·rw[q]at z;cases z
     ·have z2:=un.frzs b ob _ z;obtain⟨e1,_⟩:=hok b _ z;obtain⟨e2,_⟩:=hok' b _ z2;rw[e]at e1;cases e1;exact e2
 cases hk:K.lookup a with
 |some o =>have e:=KX a o hk;rw[ha]at e;cases e;refine core (λ_=>none) (λ_=>.inl rfl) (.inr ⟨_,vs.toArray,_,hk,rfl,rfl,rfl,by rw[Ra,lenV];exact hl,by simpa using rv⟩) (λb u z=>by have z':(none:Option HO)=some u:=z;cases z') (λb z=>absurd rfl z) λz=>absurd rfl z
 |none =>
  refine core (λb=>if b=a then some (.frz { cls:=.type "list",data:=.seq vs.toArray } (.lst (ns.map V.int)))else none) (λb=>?_) (.inl (.inr ⟨{ cls:=.type "list",data:=.seq vs.toArray },if_pos rfl⟩)) (λb u z=>?_) (λb z=>?_) λ_=>hk
  ·by_cases hb:b=a
   ·exact .inr ⟨_,_,if_pos hb⟩
   ·exact .inl (if_neg hb)
  ·by_cases hb:b=a
   ·have z':=(if_pos hb).symm.trans z;cases z';subst hb;exact⟨ha,by rw[QB];exact hl,vs,_,rv,ha⟩
   ·have z':=(if_neg hb).symm.trans z;cases z'
  ·by_cases hb:b=a
   ·exact hb
   ·exact absurd (if_neg hb) z
theorem walk_ofS{l:PySem.W.OpenLaw}{n k:Nat}{q:Program}{loose:List Str}{XP:(Str->Option Value)->Heap->Prop}{YP:World->Heap->Prop}{d:DefRec}{K:Params->PySem.W.Frag}{CX:World->CXT}{sp:World->Sp}{x:Str}
 (hi:PyProof.Rows.importsNone q=true) (hn:l.most=some n) (hn2:n<=sizeLine) (hdf:d.params.defaults=[]) (hr:Room k callerA)
 (hY:∀(w:World) (h:Heap),YP w h->(K w.params).In h)
 (F:∀(w:World) (mg:Str->Option Value) (fa:Addr) (h:Heap),(K w.params).In h->h.Ns mainGlobals mg->mg d.name=some (.ref fa) ->
   ∃fd:FuncData,(∀(s:Shared) (u:Value),BindsTo s fd ⟨[u],[]⟩ [(x,u)]) /\
    ∀base:Heap,(K w.params).In base->base.Ns mainGlobals mg->base.NoSeer->FnOk l.prog w (K w.params) mg base (CX w) k fa fd [x] (sp w))
 (hsp:∀(w:World) (H:Hp) (a:Addr) (ns:List Int),ns.length<=n->vq H->SqL (K w.params) H a (ns.map V.int)->sp w [.ref a] H (λv _=>v=.bl true) λ_ _ _=>False)
 (hCX:∀(w:World) (H:Hp) (s:Shared) (e:Value) (s':Shared),CX w [] H s (λ_ _ _=>False) e s'->False) :
 PySem.W.WalkO q loose XP YP l.row.toRowW d [] (λf vs=>PySem.call f vs):=by
 refine Att.attach_call hn hdf λw s₀ s₁ mg mb fa o pm cd doc a vs ns G Y ho hd hcd hmg hobj hints hlen hg=>?_
 have KX:=hY w _ Y;obtain⟨fd,hb,hF⟩:=F w mg fa _ KX G.T.g hmg;exact IN KX G.T.g G.T.b G.T.builtins G.T.nolimit (G.T.seer hi) hg hobj hints (QL hlen hn2) hr hF hb (λH hO hS=>hsp w H a ns hlen hO hS) λH e s'=>hCX w H s₁ e s'
section
variable {X:Cx}{e:Env}{l:List Env}
theorem Et{pins:List (Addr×Obj)}{σ:St}{H:Hp}{s:Shared}(hs:X.base.NoSeer)(ht:X.prog.given.tree=none)(hd:X.A.depth+100<recursionLimit)(hst:X.stack=e::l)(h1:e.scope.isGenerator=false)(h2:e.scope.isCoroutine=false)(h3:e.builtins=builtinsNs)(h4:e.globals=mainGlobals)(I:Inv X pins σ H s):PylongRoom (model X.prog X.w) X.A s :=
 PylongRoom.of (I.ok.mod.nolimit.keeps I.bk) hd (SeerAt.of (hs.keeps I.bk) ht (by rw[I.ok.frames,hst]) h1 h2 h3 h4)
theorem FA(hs:X.base.NoSeer)(ht:X.prog.given.tree=none)(hd:X.A.depth+100<recursionLimit)(hst:X.stack=e::l)(h1:e.scope.isGenerator=false)(h2:e.scope.isCoroutine=false)(h3:e.builtins=builtinsNs)(h4:e.globals=mainGlobals):OpR X (binaryOp .FloorDiv) (rI (λ_ j=>0<j) λi j=>.int (i/j)):=by intro pins s σ H x y v u Q I rx ry h;obtain⟨i,j,rfl,rfl,hj,q⟩:=h;obtain⟨t,rfl⟩:=rx;obtain⟨t',rfl⟩:=ry;have hj':(0:Int)<j:=hj;refine floordiv_int (Rf hj') ?_ (.inr (Et hs ht hd hst h1 h2 h3 h4 I));rw[Int.fdiv_eq_ediv_of_nonneg _ (QE hj')];exact⟨.int (i/j),H,I.tok _,⟨_,rfl⟩,q⟩
end
theorem MC(a v:Value):argsOk "max" ⟨[a],[(Str.ofString "default",v)]⟩:=by unfold argsOk;kernel_rfl
def Top(val:Nat->Int)(n:Nat)(M:Int):Prop:=(∃i,i<n/\val i=M)/\∀i,i<n->val i<=M
theorem Top.more{val:Nat->Int}{n:Nat}{M:Int}(h:Top val n M)(hn:val n>M):Top val (n+1) (val n) :=
 ⟨⟨n,by omega,rfl⟩,λi hi=>by
   by_cases e:i=n
   ·subst e;exact Q7 _
   ·have:=h.2 i (by omega);omega⟩
theorem Top.less{val:Nat->Int}{n:Nat}{M:Int}(h:Top val n M)(hn:¬val n>M):Top val (n+1) M :=
 ⟨let⟨i,hi,e⟩:=h.1;⟨i,by omega,e⟩,λi hi=>by
  by_cases e:i=n
  ·subst e;omega
  ·exact h.2 i (by omega)⟩
section
variable {prog:Program}{w:World}{A:Around}{R:Result->Shared->Prop}{I S:Addr}{fp wr:List Addr}{n:Nat}{P:Nat->Value->Prop}{St:Nat->Heap->Prop}{val:Nat->Int}{d:Value}
theorem oy:(toString "max"++toString ".loop":String)="max.loop":=by decide
theorem Hw(W:Walks prog w A.in1 I fp wr n P St)(hval:∀i v,P i v->∃t,v=.int (val i) t)(hSf:S∉fp) :
 ∀(k j:Nat) (s:Shared) (m:Int) (t:Tok) (c:Nat),n-j=k->j<=n->St j s.heap->Top val j m ->
 s.heap.get? S=some { cls:=.type "list",dict:=none,data:=.seq #[.int m t,.int m t] c,slots:=#[] } ->
 (∀M t h' tk,Top val n M->(∀b o,b∉wr->b≠S->s.heap.get? b=some o->h'.get? b=some o)->R (.ok (.ret (.int M t))) { s with heap:=h',toks:=tk }) ->
 codeAny (model prog w) A (.builtin "max.loop" ⟨[.ref I,.none,.ref S],[("default",d)]⟩) R s:=by
 have hSw:S∉wr:=λh=>hSf (W.sub _ h)
 have cm:=CmpOf.ints_gt (prog:=prog) (w:=w) (A:=A.in1) (P:=λi v=>∃t,v=.int (val i) t) val (λ_ _ h=>h);intro k
 induction k with
 |zero =>
  intro j s m t c hk hj hst hT hS hR;have hin:j=n:=by omega
  subst hin;refine codeAny_builtin F.entry_max_loop ?_;rw[Around.under_plainId F.plain_max_loop _];refine wpAny_bind (wpAny_seqItems hS rfl ?_);show wpAny _ A.in1 (tryCatch (pyNext (.ref I)) _ >>= _) _ _ s;refine wpAny_bind (wpAny_tryCatch (W.done s _ _ hst λh' tk hk'=>?_));show wpAny _ A.in1 (updateSeq S (λ_=>#[]) >>= _) _ _ _;refine wpAny_bind (wpAny_updateSeq (hk' S _ hSw hS) rfl (wpAny_bind (wpAny_letGo (wpAny_pure ?_))));exact hR m t _ tk hT λb o hb hbS e=>(Heap.get?_update_other _ _ (Ne.symm hbS)).trans (hk' b o hb e)
 |succ k ih =>
  intro j s m t c hk hj hst hT hS hR;have hlt:j<n:=by omega
  refine codeAny_builtin F.entry_max_loop ?_;rw[Around.under_plainId F.plain_max_loop _];refine wpAny_bind (wpAny_seqItems hS rfl ?_);show wpAny _ A.in1 (tryCatch (pyNext (.ref I)) _ >>= _) _ _ s;refine wpAny_bind (wpAny_tryCatch (W.item j s _ _ hlt hst λv h' tk hP hst' hk'=>?_));have hS':=hk' S _ hSw hS;obtain⟨u,rfl⟩:=hval j v hP;obtain⟨i0,_,e0⟩:=hT.1;show wpAny _ A.in1 (tryCatch (holding [_,_] (richCompare .Gt (.int (val j) u) (.int m t) >>= _)) _ >>= _) _ _ _;refine wpAny_bind (wpAny_tryCatch (wpAny_holding (wpAny_bind (cm j i0 _ _ _ _ _ ⟨u,rfl⟩ ⟨t,by rw[e0]⟩ ?_))));refine wpAny_bind (wpAny_holding (wpAny_truthy_bool ?_));refine wpAny_bind (wpAny_letGo (wpAny_pure ?_));show wpAny _ A.in1 (if decide (val j>val i0)=true then _ else _) _ _ _;rw[e0];by_cases hb:val j>m
  ·rw[decide_eq_true hb];simp only[if_true];refine wpAny_bind ?_;refine wpAny_updateSeq hS' rfl (wpAny_bind (wpAny_letGo ?_));rw[oy];refine wpAny_pure ⟨plainId_quiet F.plain_max_loop _,ih (j+1) _ (val j) u _ (by omega) hlt (W.frame _ _ _ hst' λb hbf o e=>?_) (hT.more hb) (Heap.get?_update_self _ hS' rfl) λM t' h'' tk'' hM hk''=>?_⟩
   ·exact(Heap.get?_update_other _ _ (λh:S=b=>hSf (h ▸ hbf))).trans e
   ·exact hR M t' h'' tk'' hM λb o hbw hbS e=>hk'' b o hbw hbS ((Heap.get?_update_other _ _ (Ne.symm hbS)).trans (hk' b o hbw e))
  ·rw[decide_eq_false hb];simp only[Bool.false_eq_true,if_false];refine wpAny_bind (wpAny_letGo ?_);rw[oy];refine wpAny_pure ⟨plainId_quiet F.plain_max_loop _,ih (j+1) _ m t c (by omega) hlt hst' (hT.less hb) hS' λM t' h'' tk'' hM hk''=>?_⟩;exact hR M t' h'' tk'' hM λb o hbw hbS e=>hk'' b o hbw hbS (hk' b o hbw e)
theorem Hx(W:Walks prog w A.in1 I fp wr n P St)(hval:∀i v,P i v->∃t,v=.int (val i) t)(hSf:S∉fp){s:Shared}{c:Nat}(hst:St 0 s.heap)
 (hS:s.heap.get? S=some { cls:=.type "list",dict:=none,data:=.seq #[] c,slots:=#[] })
 (h0:n=0->∀h' tk,(∀b o,b∉wr->b≠S->s.heap.get? b=some o->h'.get? b=some o)->R (.ok (.ret d)) { s with heap:=h',toks:=tk })
 (hR:∀M t h' tk,Top val n M->(∀b o,b∉wr->b≠S->s.heap.get? b=some o->h'.get? b=some o)->R (.ok (.ret (.int M t))) { s with heap:=h',toks:=tk }) :
 codeAny (model prog w) A (.builtin "max.loop" ⟨[.ref I,.none,.ref S],[("default",d)]⟩) R s:=by
 have hSw:S∉wr:=λh=>hSf (W.sub _ h)
 refine codeAny_builtin F.entry_max_loop ?_;rw[Around.under_plainId F.plain_max_loop _];refine wpAny_bind (wpAny_seqItems hS rfl ?_);show wpAny _ A.in1 (tryCatch (pyNext (.ref I)) _ >>= _) _ _ s;by_cases hn:n=0
 ·subst hn;refine wpAny_bind (wpAny_tryCatch (W.done s _ _ hst λh' tk hk'=>?_));refine wpAny_bind (wpAny_rule (wpAny_pure ?_));exact h0 rfl h' tk λb o hb _ e=>hk' b o hb e
 ·refine wpAny_bind (wpAny_tryCatch (W.item 0 s _ _ (by omega) hst λv h' tk hP hst' hk'=>?_));have hS':=hk' S _ hSw hS;obtain⟨u,rfl⟩:=hval 0 v hP;show wpAny _ A.in1 (updateSeq S (λ_=>#[.int (val 0) u,.int (val 0) u]) >>= _) _ _ _;refine wpAny_bind (wpAny_updateSeq hS' rfl ?_);rw[oy];refine wpAny_pure ⟨plainId_quiet F.plain_max_loop _,Hw W hval hSf _ 1 _ (val 0) u _ rfl (by omega) (W.frame _ _ _ hst' λb hbf o e=>?_) ⟨⟨0,by omega,rfl⟩,λi hi=>?_⟩ (Heap.get?_update_self _ hS' rfl) λM t h'' tk'' hM hk''=>?_⟩
  ·exact(Heap.get?_update_other _ _ (λh:S=b=>hSf (h ▸ hbf))).trans e
  ·have:i=0:=by omega
   subst this;exact Q7 _
  ·exact hR M t h'' tk'' hM λb o hbw hbS e=>hk'' b o hbw hbS ((Heap.get?_update_other _ _ (Ne.symm hbS)).trans (hk' b o hbw e))
end
section
variable {prog:Program}{w:World}{A:Around}{E:Value->Shared->Prop}{s:Shared}{l:Addr}{xs:Array (Int×Tok)}{d:Value}
theorem LF{Q:Value->Shared->Prop}(hh:A.handled=none)(hl:s.heap.IsList l (intItems xs))
 (h0:xs.size=0->∀h' tk,(∀b o,s.heap.get? b=some o->h'.get? b=some o)->Q d { s with heap:=h',toks:=tk })
 (h:∀M t h' tk,Top (numAt xs) xs.size M->(∀b o,s.heap.get? b=some o->h'.get? b=some o)->Q (.int M t) { s with heap:=h',toks:=tk }) :
 wpAny (model prog w) A (call (.builtin "max") [.ref l] [("default",d)]) Q E s:=by
 refine wpAny_call (codeAny_call_builtin F.plain_max F.entry_max ?_);simp only[checkBuiltinCall,F.kind_max]
 have key:wpAny (model prog w) A.in1 (Builtin.«max» ⟨[.ref l],[("default",d)]⟩) (λfin s'=>match fin with
  |.done f=>(match(Except.ok f:Result)with |.ok (.ret v)=>Q v s' |.ok _=>False |.error e=>E e s')
  |.again c'=>c'.quiet=true/\codeAny (model prog w) A c' (λr s'=>match r with |.ok (.ret v)=>Q v s' |.ok _=>False |.error e=>E e s') s') E s:=by
  show wpAny _ A.in1 (Builtin.Builtins.bindParams "max" ["key","default"] 0 ⟨[],[("default",d)]⟩ >>= _) _ _ s;refine wpAny_bind (wpAny_of_eq (show Builtin.Builtins.bindParams "max" ["key","default"] 0 ⟨[],[("default",d)]⟩=pure [none,some d]from rfl) ?_);refine wpAny_bind (wpAny_pure ?_);refine wpAny_bind (iter_intList hl λs₂ e st hfp hlI=>?_);subst e;refine wpAny_bind (wpAny_newObj_type ?_);rw[oy];have W:=Walks.list (prog:=prog) (w:=w) (A:=A.in1) hh _ l hlI (intItems xs);have sz:(intItems xs).size=xs.size:=by simp[intItems]
  refine wpAny_pure ⟨plainId_quiet F.plain_max_loop _,Hx W (val:=numAt xs) (λi v=>intItems_at) (λhm=>Ry _ (hfp _ hm)) (W.frame _ _ _ st λb _ o e=>Heap.get?_push_of_some _ e) (Heap.get?_push_size _ rfl) (λhn h' tk hk=>?_) λM t h' tk hM hk=>?_⟩
  ·exact h0 (sz ▸ hn) h' tk (old_kept λb o hb e=>hk b o hb (Re (Heap.lt_size e)) (Heap.get?_push_of_some _ e))
  ·exact h M t h' tk (sz ▸ hM) (old_kept λb o hb e=>hk b o hb (Re (Heap.lt_size e)) (Heap.get?_push_of_some _ e))
 cases hsig:Manifest.signature? "max" with
 |none=>exact wpAny_pure key
 |some sig =>
  have ha':Bind.checkArgs "max" sig ⟨[.ref l],[("default",d)]⟩=pure ():=by simpa only[argsOk,hsig]using MC (.ref l) d
  simp only[ha'];exact wpAny_pure key
end
def yz(K:PySem.W.Frag):R2:=λx y H Q=>∃(p:Addr) (ns:List Int),x=.ref p/\SqL K H p (ns.map V.int)/\(ns=[]->Q y H)/\∀M,M∈ns->(∀a∈ns,a<=M)->Q (.int M) H
theorem Ag:∀{ns:List Int} {us:List Value},Vals (ns.map V.int) us->∃ts:List (Int×Tok),us.toArray=intItems ts.toArray/\ts.map (·.1)=ns
 | [],_,h=>by cases h;exact⟨[],by simp[intItems],rfl⟩
 |n::ns,_,h=>by
  cases h with
  |cons r rr =>obtain⟨t,rfl⟩:=r;obtain⟨ts,e1,e2⟩:=Ag rr;refine⟨(n,t)::ts,?_,by rw[Ri,e2]⟩;have e3:=congrArg Array.toList e1;simp only[intItems,List.map_toArray]at e3 ⊢;simpa using e3
theorem CL{ts:List (Int×Tok)}{M:Int}(h:Top (numAt ts.toArray) ts.toArray.size M):M∈ts.map (·.1)/\∀a∈ts.map (·.1),a<=M:=by
 have g:∀(i:Nat) (hi:i<ts.length),numAt ts.toArray i=(ts[i]).1:=λi hi=>by simp[numAt,hi]
 obtain⟨⟨i,hi,e⟩,h2⟩:=h;have hi':i<ts.length:=by simpa using hi
 constructor
 ·rw[<- e,g i hi'];exact QQ.mpr ⟨_,Sb hi',rfl⟩
 ·intro a ha;obtain⟨p,hp,rfl⟩:=QQ.mp ha;obtain⟨j,hj,rfl⟩:=List.getElem_of_mem hp;rw[<- g j hj];exact h2 j (by simpa using hj)
section
variable {X:Cx}{K:PySem.W.Frag}{e ed:Expr}{ta td:TE}{p pos kp:Pos}
theorem Fk(hK:X.K=K)(hc:X.calm=true)(hg:Gl X "max")(hm:X.mg "max"=none)(ha:PE X e ta)(hd:PE X ed td)
 (he:starEach [e] X.env=(false,eval e X.env)::starEach [] X.env:=by rfl):PE X (.Call (.Name "max" p) [e] [⟨some "default",ed,kp⟩] pos) (tOp (yz K) ta td):=by
 subst hK;intro pins s σ H Q I h;refine wpAny_Call_Name_kw (gH I hg hm boot_max ?_ (by decide) (by decide));refine callWith_kw (thn (aa ha ac he pos pins s σ H (λvs H1=>match vs with | [x]=>td σ H1 λy H2=>yz X.K x y H2 Q |_=>False) I h) λus s1 ⟨vs,H1,I1,r1,q1⟩=>?_) (by rw[he];rfl) (by rw[he];rfl) rfl rfl
 obtain⟨x,rfl⟩:∃x,vs=[x]:=by
  match vs,q1 with
  | [x],_=>exact⟨x,rfl⟩
 obtain⟨u,rfl,ru⟩:=fm r1;refine kws_cons (thn (hd pins s1 σ H1 _ I1 q1) λv s2 ⟨y,H2,I2,ry,q2⟩=>kws_nil ?_);obtain⟨a,ns,rfl,hq,k0,k1⟩:=q2;cases ru;obtain⟨its,r',pl,hz⟩:=I2.list hq;obtain⟨ts,e1,e2⟩:=Ag r';have il:=pl.isList;rw[e1]at il;refine LF (I2.ok.hd hc) il (λh0 h' tk k=>⟨y,H2,I2.kept k,ry,k0 ?_⟩) λM t h' tk hM k=>⟨.int M,H2,I2.kept k,⟨t,rfl⟩,?_⟩
 ·have:ts=[]:=by simpa using h0
  rw[<- e2,this];rfl
 ·obtain⟨m1,m2⟩:=CL hM;rw[e2]at m1 m2;exact k1 M m1 m2
end
theorem BL:∀{bs:List Bool} {us:List Value},Vals (bs.map V.bl) us->us=bs.map Value.bool
 | [],_,h=>by cases h;rfl
 |b::bs,_,h=>by
  cases h with
  |cons r rr =>cases r;rw[BL rr];rfl
theorem MD(bs:List Bool):(List.range bs.length).any (λi=>bs.getD i false)=bs.any id:=by
 rw[SN,List.any_eq_true,List.any_eq_true];constructor
 ·rintro⟨i,hi,e⟩;have hi':=List.mem_range.mp hi;refine⟨bs[i],Sb hi',?_⟩;simpa[List.getD,List.getElem?_eq_getElem hi']using e
 ·rintro⟨b,hb,e⟩;obtain⟨i,hi,rfl⟩:=List.getElem_of_mem hb;refine⟨i,List.mem_range.mpr hi,?_⟩;simpa[List.getD,List.getElem?_eq_getElem hi]using e
theorem LK{X:Cx}{K:PySem.W.Frag}(hK:X.K=K)(hc:X.calm=true):CallR X (.builtin "any") (λxs H Q=>∃(p:Addr) (bs:List Bool),xs=[.ref p]/\SqL K H p (bs.map V.bl)/\Q (.bl (bs.any id)) H):=by
 subst hK;intro pins s σ H xs us Q I r h;obtain⟨p,bs,rfl,hq,q⟩:=h;obtain⟨u,rfl,rx⟩:=fm r;cases rx;obtain⟨its,r',pl,hz⟩:=I.list hq;have e:=BL r';subst e;have hl:=pl.isList;have hlt:p<s.heap.objs.size:=by obtain⟨_,e,_⟩:=hl;exact Heap.lt_size e
 refine call_any_walk (wpAny_pyIter_list hl ?_);refine⟨_,_,_,_,_,_,λi=>bs.getD i false,rfl,Walks.list (A:=X.A.in1) (I.ok.hd hc) _ p (Re hlt) _,⟨⟨_,Heap.get?_push_size _ rfl,rfl,rfl⟩,hl.push _⟩,λi v s' Q' E' hP hQ=>?_,λh' tk hk=>?_⟩
 ·have e:v=.bool (bs.getD i false):=by have hP':((bs.map Value.bool).toArray)[i]?=some v:=hP;simp only[List.getElem?_toArray,List.getElem?_map,Option.map_eq_some_iff]at hP';obtain⟨b,hb,rfl⟩:=hP';simp[List.getD,hb]
  subst e;exact wpAny_truthy_bool hQ
 ·refine⟨.bl (bs.any id),H,I.kept (old_kept hk),?_,q⟩;show Value.bool _=Value.bool _;rw[<- MD bs];simp
section
variable {X:Cx}
noncomputable def EH:V->Option Int->Option Int->Hp->VK->Prop:=λx lo hi H Q=>∃z,x=.str z/\z.length<=sizeLine/\Q (.str (Txt.slice z lo hi)) H
theorem iS:SlR X EH:=by
 intro pins s σ H x v vl vu lo hi sl Q I rx hs pl pu h;obtain⟨z,rfl,hz,q⟩:=h;obtain⟨t,rfl⟩:=rx;obtain⟨o,ho,hc,hd⟩:=hs;refine⟨"str",_,F.slot_str_getitem.lookup,typeIs_str _ _ _,?_⟩;cases pl with
 |none =>
  cases pu with
  |none=>exact wpAny_getItem_str_slice (l:=none) (u:=none) (st:=none) ⟨o,ho,hc,hd⟩ rfl (post_val_or_str ⟨QL (Txt.slice_le z _ _) hz,λt' k=>⟨.str _,H,I.tok _,⟨_,rfl⟩,q⟩⟩)
  |int j uj=>exact wpAny_getItem_str_slice (l:=none) (u:=some (j,uj)) (st:=none) ⟨o,ho,hc,hd⟩ rfl (post_val_or_str ⟨QL (Txt.slice_le z _ _) hz,λt' k=>⟨.str _,H,I.tok _,⟨_,rfl⟩,q⟩⟩)
 |int i ui =>
  cases pu with
  |none=>exact wpAny_getItem_str_slice (l:=some (i,ui)) (u:=none) (st:=none) ⟨o,ho,hc,hd⟩ rfl (post_val_or_str ⟨QL (Txt.slice_le z _ _) hz,λt' k=>⟨.str _,H,I.tok _,⟨_,rfl⟩,q⟩⟩)
  |int j uj=>exact wpAny_getItem_str_slice (l:=some (i,ui)) (u:=some (j,uj)) (st:=none) ⟨o,ho,hc,hd⟩ rfl (post_val_or_str ⟨QL (Txt.slice_le z _ _) hz,λt' k=>⟨.str _,H,I.tok _,⟨_,rfl⟩,q⟩⟩)
end
theorem Af:∀{ns:List Int} {us:List Value},Vals (ns.map V.int) us->∃l:List (Int×Tok),us=l.map (λp=>Value.int p.1 p.2)/\l.map (·.1)=ns
 | [],_,h=>by cases h;exact⟨[],rfl,rfl⟩
 |n::ns,_,h=>by
  cases h with
  |cons r rr =>obtain⟨t,rfl⟩:=r;obtain⟨l,rfl,e⟩:=Af rr;exact⟨(n,t)::l,rfl,by rw[Ri,e]⟩
theorem yL:∀(l:List (Int×Tok)) (n:Nat),n<=l.length->preSum (numAt l.toArray) n=((l.take n).map (·.1)).sum
 |l,0,_=>rfl
 |l,n+1,h=>by rw[preSum,yL l n (by omega),RE,List.getElem?_eq_getElem (by omega)];unfold numAt;rw[List.getElem?_toArray,List.getElem?_eq_getElem (by omega),Option.toList_some,QY,List.sum_append];show _=_+(l[n].1+0);rw[Rk];rfl
theorem LE{X:Cx}{K:PySem.W.Frag}(hK:X.K=K)(hc:X.calm=true):CallR X (.builtin "sum") (λxs H Q=>∃(p:Addr) (ns:List Int),xs=[.ref p]/\SqL K H p (ns.map V.int)/\Q (.int ns.sum) H):=by
 subst hK;intro pins s σ H xs us Q I r h;obtain⟨p,ns,rfl,hq,q⟩:=h;obtain⟨u,rfl,rx⟩:=fm r;cases rx;obtain⟨its,r',pl,hz⟩:=I.list hq;obtain⟨l,rfl,e⟩:=Af r'
 have hl:s.heap.IsList p (intItems l.toArray):=by
  have h1:=pl.isList;have e2:(l.map (λp=>Value.int p.1 p.2)).toArray=intItems l.toArray:=by unfold intItems;simp
  rw[<- e2];exact h1
 refine sum_intListG (I.ok.hd hc) hl λh' tk t' hk=>⟨.int ns.sum,H,I.kept hk,⟨t',?_⟩,q⟩
 have e3:preSum (numAt l.toArray) l.toArray.size=ns.sum:=by rw[Ra,yL l l.length (QD _),RF,e]
 rw[e3]
structure CalE(P:Program)(w:World)(K:PySem.W.Frag)(mg:Str->Option Value)(base:Heap)(k:Nat)(x:Str)(ps:List Str)(sp:Sp)(f:Addr)(fd:FuncData)(ds:List Value)(dvs:List V):Prop where
 ok:FnOk P w K mg base CX0 k f fd ps sp
 mg:mg x=some (.ref f)
 kp:PySem.W.keepIn K (.ref f)=true
 bn:Binds K fd ps []
 bd:Binds K fd ps ds
 vd:Vals dvs ds
section
variable {X:Cx}{K:PySem.W.Frag}
end
noncomputable def bg:Nat:=67000000
section
variable {X:Cx}{K:PySem.W.Frag}
theorem pd{x y:V}{us:List Value}(h:Vals [x,y] us):∃u v,us=[u,v]/\RelV x u/\RelV y v:=by
 cases h with
 |cons r t =>
  cases t with
  |cons r2 t2 =>cases t2;exact⟨_,_,rfl,r,r2⟩
end
noncomputable def Its(z:Str):It:=⟨λi _=>i<z.cps.size,λi H x H'=>H'=H/\∃c,z.cps[i]?=some c/\x=.str ⟨#[c]⟩,λi _=>z.cps.size<=i⟩
theorem Cs{P:Program}{w:World}{K:PySem.W.Frag}{tg:Expr}(z:Str)(t:Tok)(it:Addr):Turn P w K tg (Its z) [it] it (λi h=>h.IsStrIter it "str_ascii_iterator" z t i) where
 mem:=by simp
 obj:=λi h st b hb=>by
  have e:b=it:=by simpa using hb
  subst e;obtain⟨o,e,c,d⟩:=st;exact⟨o,e,λv z=>by rw[d]at z;cases z⟩
 keep:=λi h h' st k=>let⟨o,ho,r⟩:=st;⟨o,k it (by simp) o ho,r⟩
 item:=by
  intro X hP hw hK hc i pins s σ H E I hf st hg;subst hP hw hK;obtain⟨f0,f1,f2,f3,f4,f5⟩:=hf it (by simp);have hi:i<z.cps.size:=hg;have hx:z.cps[i]?=some z.cps[i]:=by simp[hi]
  refine wpAny_pyNext_ascii_item st hx λh' st' sb=>?_
  have I1:Inv X pins σ H { s with heap:=h',toks:=s.toks+1 }:=I.turned (t':=s.toks+1) (λb o hb e=>(sb.2 b hb).trans e) f0 f1 f3 f4 f5;obtain⟨o,e,c,d⟩:=id st';exact⟨_,rfl,ke (s:={ s with heap:=h',toks:=s.toks+1 }) e c d (by decide) ⟨.str ⟨#[z.cps[i]]⟩,H,I1,⟨_,rfl⟩,⟨rfl,_,hx,rfl⟩,st',λb hb=>(hf b hb).1⟩⟩
 done:=by intro X hP hw hK hc i pins s σ H E I hf st hg;subst hP hw hK;obtain⟨f0,f1,f2,f3,f4,f5⟩:=hf it (by simp);have hi:z.cps.size<=i:=hg;exact wpAny_pyNext_ascii_end (I.ok.hd hc) st (by simp[hi]) λh' eb=>⟨rfl,I.turned (t':=s.toks) (λb o hb e=>eb b o hb e) f0 f1 f3 f4 f5⟩
 self:=λ_ _ _ _ _ st h=>wpAny_pyIter_striter_ascii st h
def JX(tl:TE):TI:=λσ H R=>tl σ H λx H1=>∃z,x=.str z/\z.cps.all (·<128)=true/\R (Its z) H1
section
variable {X:Cx}{tg:Expr}{K:PySem.W.Frag}
theorem Fd{l:Expr}{tl:TE}(hl:PE X l tl):PI X tg l (JX tl):=by
 intro pins s σ H R I h;refine thn (hl pins s σ H _ I h) λv s1 ⟨x,H1,I1,r1,q1⟩=>?_
 obtain⟨z,e,ha,q⟩:=q1;subst e;obtain⟨t,rfl⟩:=r1;refine wpAny_pyIter_ascii ha ?_;refine⟨s1.heap.objs.size,[s1.heap.objs.size],_,_,H1,rfl,I1.kept (t':=s1.toks) λb o e=>Heap.get?_push_of_some _ e,Cs z t _,⟨_,Heap.get?_push_size _ rfl,rfl,rfl⟩,λb hb=>?_,q⟩;have e:b=s1.heap.objs.size:=by simpa using hb
 subst e;exact I1.fpOk (QD _) (I1.hok.fresh (QD _))
theorem BJ:CallR X (.type "int") (λxs H Q=>∃(z:Str) (n:Int),xs=[.str z]/\z.length<=640/\PySem.intText? z=some n/\Q (.int n) H):=by intro pins s σ H xs us Q I r h;obtain⟨z,n,rfl,hl,hn,q⟩:=h;obtain⟨u,rfl,rx⟩:=fm r;obtain⟨t,rfl⟩:=rx;exact PySem.W.KIN.call_text hn hl ⟨.int n,H,I.tok _,⟨_,rfl⟩,q⟩
end
section
variable {X:Cx}{K:PySem.W.Frag}
end
end L2
namespace RM
noncomputable def cf(l:List Int)(k:Nat):Int:=l.getD k 0
theorem cK(k:Nat):cf [] k=0:=by simp[cf]
theorem BB(x:Int)(l:List Int):cf (x::l) 0=x:=rfl
theorem o2(x:Int)(l:List Int)(k:Nat):cf (x::l) (k+1)=cf l k:=rfl
theorem cE{l:List Int}{k:Nat}(h:l.length<=k):cf l k=0:=by unfold cf;rw[List.getD,List.getElem?_eq_none_iff.mpr h];rfl
theorem eJ{l:List Int}{k:Nat}(h:k<l.length):cf l k=l[k]:=by unfold cf;rw[List.getD,List.getElem?_eq_getElem h];rfl
theorem uR{l:List Int}{k:Nat}{x:Int}(h:l[k]?=some x):cf l k=x:=by unfold cf;rw[List.getD,h];rfl
theorem jk{l:List Int}{k:Nat}(h:k<l.length):l[k]?=some (cf l k):=by rw[eJ h,List.getElem?_eq_getElem h]
theorem BE{l r:List Int}{k:Nat}(h:k<l.length):cf (l++r) k=cf l k:=by unfold cf;rw[List.getD,List.getD,List.getElem?_append_left h]
theorem mL{l r:List Int}{k:Nat}(h:l.length<=k):cf (l++r) k=cf r (k-l.length):=by unfold cf;rw[List.getD,List.getD,List.getElem?_append_right h]
theorem mJ{l:List Int}{j k:Nat}{x:Int}(h:j<l.length):cf (l.set j x) k=if k=j then x else cf l k:=by
 unfold cf;rw[List.getD,List.getD,List.getElem?_set];by_cases e:j=k
 ·subst e;simp[h]
 ·rw[if_neg e,if_neg (λz=>e z.symm)]
theorem mK(n k:Nat):cf (List.replicate n 0) k=0:=by unfold cf;rw[List.getD,List.getElem?_replicate];split<;>rfl
theorem km(f:Nat->Int)(n k:Nat):cf ((List.range n).map f) k=if k<n then f k else 0:=by
 unfold cf;rw[List.getD,List.getElem?_map];by_cases h:k<n
 ·rw[if_pos h,List.getElem?_range h];rfl
 ·rw[if_neg h,List.getElem?_eq_none_iff.mpr (by simpa using h)];rfl
theorem d8{a b:List Int}(hl:a.length=b.length)(h:∀k,k<a.length->cf a k=cf b k):a=b:=by apply List.ext_getElem hl;intro k h1 h2;rw[<- eJ h1,<- eJ h2];exact h k h1
noncomputable def trim(l:List Int):List Int:=(l.reverse.dropWhile (· == 0)).reverse
theorem nc(l:List Int):trim (l++[0])=trim l:=by unfold trim;rw[Sv];rfl
theorem kH(l:List Int){x:Int}(h:x≠0):trim (l++[x])=l++[x]:=by unfold trim;rw[Sv];show((x::l.reverse).dropWhile (· == 0)).reverse=_;rw[List.dropWhile_cons_of_neg (by simpa using h)];simp
def Tr(l:List Int):Prop:=∀n,l.length=n+1->cf l n≠0
theorem db(l:List Int):l=[]\/∃r x,l=r++[x]:=by
 cases h:l.reverse with
 |nil=>left;simpa using h
 |cons x r=>right;exact⟨r.reverse,x,by rw[<- List.reverse_reverse l,h];simp⟩
theorem kn(r:List Int)(x:Int):cf (r++[x]) r.length=x:=by rw[mL (QD _),Sc];rfl
theorem CI:Tr []:=λn h=>by simp at h
theorem tr_snoc{r:List Int}{x:Int}:Tr (r++[x])↔x≠0:=by
 constructor
 ·intro h;have:=h r.length (by simp)
  rwa [kn]at this
 ·intro h n hn;have e:n=r.length:=by simp at hn;omega
  subst e
  rwa [kn]
theorem m9:∀(n:Nat) (l:List Int),l.length=n->Tr (trim l)/\(trim l).length<=l.length/\∀k,cf (trim l) k=cf l k
 |0,l,h=>by have:l=[]:=Sd.mp h;subst this;exact⟨CI,QD _,λ_=>rfl⟩
 |n+1,l,h=>by
  rcases db l with rfl |⟨r,x,rfl⟩
  ·simp at h
  ·by_cases hx:x=0
   ·subst hx;obtain⟨h1,h2,h3⟩:=m9 n r (by simpa using h);rw[nc];refine⟨h1,by rw[QO];exact QL h2 (Nat.le_add_right _ _),λk=>?_⟩;rw[h3];by_cases hk:k<r.length
    ·rw[BE hk]
    ·rw[mL (RK hk),cE (RK hk)];cases e:k-r.length with
     |zero=>rfl
     |succ j=>rw[o2,cK]
   ·rw[kH r hx];exact⟨tr_snoc.mpr hx,QD _,λ_=>rfl⟩
theorem fX(l:List Int):Tr (trim l):=(m9 _ l rfl).1
theorem tG(l:List Int):(trim l).length<=l.length:=(m9 _ l rfl).2.1
theorem gN(l:List Int)(k:Nat):cf (trim l) k=cf l k:=(m9 _ l rfl).2.2 k
theorem CD{l:List Int}(h:Tr l):trim l=l:=by
 rcases db l with rfl |⟨r,x,rfl⟩
 ·rfl
 ·exact kH r (tr_snoc.mp h)
theorem mE{a b:List Int}(ha:Tr a)(hb:Tr b)(h:∀k,cf a k=cf b k):a=b:=by
 have le:∀{a b:List Int},Tr a->(∀k,cf a k=cf b k)->a.length<=b.length:=λ{a b} ha h=>by
  cases e:a.length with
  |zero=>exact QH _
  |succ n =>apply Classical.byContradiction;intro hn;exact ha n e (by rw[h n,cE (by omega)])
 have hl:a.length=b.length:=Nat.le_antisymm (le ha h) (le hb λk=>(h k).symm);exact d8 hl λk _=>h k
theorem CB{l:List Int}{n:Nat}(hn:n<l.length)(h:cf l n=0):trim (l.take (n+1))=trim (l.take n):=by rw[RE,jk hn,h];exact nc _
theorem CC{l:List Int}{n:Nat}(hn:n<l.length)(h:cf l n≠0):trim (l.take (n+1))=l.take (n+1):=by rw[RE,jk hn];exact kH _ h
noncomputable def eI(f:Int)(a b:List Int):List Int:=(List.range (max a.length b.length)).map λk=>cf a k+f*cf b k
theorem iG(f:Int)(a b:List Int)(k:Nat):cf (eI f a b) k=cf a k+f*cf b k:=by
 unfold eI;rw[km];by_cases h:k<max a.length b.length
 ·rw[if_pos h]
 ·have h1:a.length<=k:=by omega
  have h2:b.length<=k:=by omega
  rw[if_neg h,cE h1,cE h2];simp
noncomputable def iJ(a b:List Int):List Int:=trim (eI 1 a b)
noncomputable def cU(a b:List Int):List Int:=trim (eI (-1) a b)
noncomputable def tm(a b:List Int)(n i:Nat):Int:=if i<=n then cf a i*cf b (n-i)else 0
noncomputable def sm(a b:List Int)(n:Nat):Nat->Int
 |0=>0
 |j+1=>sm a b n j+tm a b n j
noncomputable def aC(a b:List Int)(n:Nat):Int:=sm a b n a.length
noncomputable def af(a b:List Int):List Int:=if a=[]\/b=[]then[]else(List.range (a.length+b.length-1)).map (aC a b)
theorem CM{a b:List Int}{n i:Nat}(h:a.length<=i):tm a b n i=0:=by
 unfold tm;split
 ·rw[cE h,Q3]
 ·rfl
theorem ni{a b:List Int}{n i:Nat}(h:b.length<=n-i):tm a b n i=0:=by
 unfold tm;split
 ·rw[cE h,QX]
 ·rfl
theorem kU{a b:List Int}{n:Nat}:∀{j:Nat},(∀i,i<j->tm a b n i=0)->sm a b n j=0
 |0,_=>rfl
 |j+1,h=>by rw[sm,kU λi hi=>h i (Nat.lt_succ_of_lt hi),h j (RV _)];rfl
theorem zp{a b:List Int}{n:Nat}(h:a.length+b.length<=n+1):aC a b n=0:=by apply kU;intro i hi;exact ni (by omega)
theorem sW{a b:List Int}{la lb:Nat}(ha:a.length=la+1)(hb:b.length=lb+1):aC a b (la+lb)=cf a la*cf b lb:=by unfold aC;rw[ha,sm,kU λi hi=>ni (by omega)];unfold tm;rw[if_pos (Nat.le_add_right _ _),Nat.add_sub_cancel_left,Ru]
theorem aN(a b:List Int)(n:Nat):cf (af a b) n=aC a b n:=by
 unfold af;by_cases h:a=[]\/b=[]
 ·rw[if_pos h,cK]
  symm
  apply kU;intro i hi;rcases h with rfl |rfl
  ·simp at hi
  ·exact ni (QH _)
 ·rw[if_neg h,km];by_cases hn:n<a.length+b.length-1
  ·rw[if_pos hn]
  ·rw[if_neg hn,zp (by omega)]
theorem nh{a b:List Int}(ha:Tr a)(hb:Tr b):Tr (af a b):=by
 intro n hn;rw[aN];by_cases h:a=[]\/b=[]
 ·unfold af at hn;rw[if_pos h]at hn;simp at hn
 ·have h1:a≠[]:=λz=>h (.inl z)
  have h2:b≠[]:=λz=>h (.inr z)
  obtain⟨la,ea⟩:∃la,a.length=la+1:=⟨a.length-1,by have:=QG.mpr h1;omega⟩;obtain⟨lb,eb⟩:∃lb,b.length=lb+1:=⟨b.length-1,by have:=QG.mpr h2;omega⟩;unfold af at hn
  rw[if_neg h,QB,RO]at hn;have e:n=la+lb:=by omega
  subst e;rw[sW ea eb];exact QU (ha la ea) (hb lb eb)
theorem zq{a b acc:List Int}{j k:Nat}(hj:j<a.length)(hk:k<b.length)(hl:j+k<acc.length)
 (h:∀n,n<acc.length->cf acc n=sm a b n j+(if j<=n/\n-j<k then tm a b n j else 0)) :
 ∀n,n<(acc.set (j+k) (cf acc (j+k)+cf a j*cf b k)).length->cf (acc.set (j+k) (cf acc (j+k)+cf a j*cf b k)) n=sm a b n j+(if j<=n/\n-j<k+1 then tm a b n j else 0):=by
 intro n hn;rw[Sk]at hn;rw[mJ hl];by_cases e:n=j+k
 ·subst e;rw[if_pos rfl,h _ hl,if_neg (by omega),if_pos ⟨by omega,by omega⟩];unfold tm;rw[if_pos (by omega),Nat.add_sub_cancel_left,Rk]
 ·rw[if_neg e,h n hn]
  congr 1
  by_cases h1:j<=n/\n-j<k
  ·rw[if_pos h1,if_pos ⟨h1.1,by omega⟩]
  ·rw[if_neg h1,if_neg (by omega)]
theorem zt{a b acc:List Int}{j:Nat}(h:∀n,n<acc.length->cf acc n=sm a b n j+(if j<=n/\n-j<b.length then tm a b n j else 0)):∀n,n<acc.length->cf acc n=sm a b n (j+1):=by
 intro n hn;rw[h n hn,sm]
 congr 1
 by_cases h1:j<=n/\n-j<b.length
 ·rw[if_pos h1]
 ·rw[if_neg h1];by_cases h2:j<=n
  ·rw[ni (by omega)]
  ·unfold tm;rw[if_neg h2]
theorem zr{a b acc:List Int}{j:Nat}(h:∀n,n<acc.length->cf acc n=sm a b n j):∀n,n<acc.length->cf acc n=sm a b n j+(if j<=n/\n-j<0 then tm a b n j else 0):=by intro n hn;rw[if_neg (by omega),Rk];exact h n hn
theorem zu{a b acc:List Int}(hl:a.length+b.length<=acc.length+1)(h:∀n,n<acc.length->cf acc n=sm a b n a.length)(n:Nat):cf acc n=aC a b n:=by
 by_cases hn:n<acc.length
 ·exact h n hn
 ·rw[cE (RK hn),zp (by omega)]
theorem MG(a b:List Int):trim ((List.range (max a.length b.length)).map λk=>cf a k+cf b k)=iJ a b:=by
 unfold iJ eI
 congr 2;funext k;rw[QZ]
theorem Dc(a b:List Int):trim ((List.range (max a.length b.length)).map λk=>cf a k-cf b k)=cU a b:=by
 unfold cU eI
 congr 2;funext k;omega
noncomputable def dv(t b:Int):Int:=if b<0 then -((Nat.gcd t.natAbs b.natAbs:Nat):Int)else((Nat.gcd t.natAbs b.natAbs:Nat):Int)
noncomputable def rt(t b:Int):Int:=t.fdiv (dv t b)
noncomputable def rb(t b:Int):Int:=b.fdiv (dv t b)
theorem kf{t b:Int}(hb:b≠0):0<Nat.gcd t.natAbs b.natAbs:=Nat.gcd_pos_of_pos_right _ (Se.mpr hb)
theorem mF{t b:Int}(hb:b≠0):dv t b≠0:=by have:=@kf t b hb;unfold dv;split<;>omega
theorem jn(t b:Int):(dv t b).natAbs=Nat.gcd t.natAbs b.natAbs:=by unfold dv;split<;>omega
theorem Lc(t b:Int):dv t b∣t:=ST.mp (by rw[jn];exact R6 _ _)
theorem Lb(t b:Int):dv t b∣b:=ST.mp (by rw[jn];exact Sl _ _)
theorem AK{a d:Int}(hd:d≠0)(h:d∣a):d*a.fdiv d=a:=by obtain⟨c,rfl⟩:=h;rw[Int.mul_fdiv_cancel_left c hd]
theorem ib{t b:Int}(hb:b≠0):dv t b*rt t b=t:=AK (mF hb) (Lc t b)
theorem gt{t b:Int}(hb:b≠0):dv t b*rb t b=b:=AK (mF hb) (Lb t b)
theorem c7{t b:Int}(hb:b≠0):0<rb t b:=by
 have h1:=@gt t b hb;have h2:=@kf t b hb;by_cases hn:b<0
 ·have hd:dv t b<0:=by unfold dv;rw[if_pos hn];omega
  apply Classical.byContradiction;intro h;have:0<=dv t b*rb t b:=S0 (QE hd) (by omega);omega
 ·have hd:0<dv t b:=by unfold dv;rw[if_neg hn];omega
  apply Classical.byContradiction;intro h;have:dv t b*rb t b<=0:=Int.mul_nonpos_of_nonneg_of_nonpos (QE hd) (by omega);omega
theorem ie{t b:Int}(hb:b≠0):Nat.gcd (rt t b).natAbs (rb t b).natAbs=1:=by
 have h1:t.natAbs=Nat.gcd t.natAbs b.natAbs*(rt t b).natAbs:=by rw[<- jn,<- QR,ib hb]
 have h2:b.natAbs=Nat.gcd t.natAbs b.natAbs*(rb t b).natAbs:=by rw[<- jn,<- QR,gt hb]
 have hp:=@kf t b hb
 have e:Nat.gcd t.natAbs b.natAbs=Nat.gcd t.natAbs b.natAbs*Nat.gcd (rt t b).natAbs (rb t b).natAbs:=by rw[<- Nat.gcd_mul_left,<- h1,<- h2]
 exact(Nat.eq_of_mul_eq_mul_left hp (by rw[Nat.mul_one];exact e)).symm
theorem ei{t b:Int}(hb:b≠0):rt t b*b=t*rb t b:=by
 have e1:=@ib t b hb;have e2:=@gt t b hb
 calc rt t b*b=rt t b*(dv t b*rb t b):=by rw[e2]
  _=(dv t b*rt t b)*rb t b:=by rw[<- Rc,QT (rt t b)]
  _=t*rb t b:=by rw[e1]
theorem Ek{t b:Int}(hb:b≠0):(rt t b).natAbs<=t.natAbs:=by
 have h1:t.natAbs=Nat.gcd t.natAbs b.natAbs*(rt t b).natAbs:=by rw[<- jn,<- QR,ib hb]
 rw[h1];exact Sw _ (kf hb)
theorem EA{t b:Int}(hb:b≠0):(rb t b).natAbs<=b.natAbs:=by
 have h1:b.natAbs=Nat.gcd t.natAbs b.natAbs*(rb t b).natAbs:=by rw[<- jn,<- QR,gt hb]
 rw[h1];exact Sw _ (kf hb)
noncomputable def sg(x:Int):Int:=if x<0 then -1 else if 0<x then 1 else 0
theorem DF(x:Int):sg (-x) = -sg x:=by unfold sg;split<;>split<;>(try split)<;>(try split)<;>omega
theorem qe{x p:Int}(hp:0<p):sg (x*p)=sg x:=by
 unfold sg;by_cases h1:x<0
 ·rw[if_pos h1,if_pos (Sx h1 hp)]
 ·by_cases h2:0<x
  ·have:=QC h2 hp;rw[if_neg h1,if_pos h2,if_neg (by omega),if_pos this]
  ·obtain rfl:x=0:=by omega
   simp
noncomputable def hv(t b:Int):List Int->Int
 | []=>0
 |v::l=>v*b^(l.length+1)+t*hv t b l
theorem oJ(t b:Int):hv t b []=0:=rfl
theorem d6(t b v:Int)(l:List Int):hv t b (v::l)=v*b^(l.length+1)+t*hv t b l:=rfl
noncomputable def mb(a b:Int):Int->List Int->List Int
 |c,[]=>[c]
 |c,x::l=>(-a*x+c)::mb a b (b*x) l
theorem ox(a b:Int):∀(c:Int) (l:List Int),(mb a b c l).length=l.length+1
 |c,[]=>rfl
 |c,x::l=>by show(mb a b (b*x) l).length+1=_;rw[ox];rfl
theorem jr(a b:Int):∀(c:Int) (l:List Int) (k:Nat),cf (mb a b c l) k = -a*cf l k+(if k=0 then c else b*cf l (k-1))
 |c,[],0=>by show c=_;rw[cK];simp
 |c,[],k+1=>by show cf [] k=_;rw[cK,cK];simp[cK]
 |c,x::l,0=>rfl
 |c,x::l,k+1=>by
  show cf (mb a b (b*x) l) k=_;rw[jr a b (b*x) l k,o2,if_neg (Nat.succ_ne_zero k)];cases k with
  |zero=>rfl
  |succ k=>rw[if_neg (Nat.succ_ne_zero k)];rfl
theorem As(t u a b:Int):∀(c:Int) (l:List Int),hv t u (mb a b c l)=c*u^(l.length+1)+(b*t-a*u)*hv t u l
 |c,[]=>by show c*u^1+t*0=c*u^1+(b*t-a*u)*0;simp
 |c,x::l=>by show(-a*x+c)*u^((mb a b (b*x) l).length+1)+t*hv t u (mb a b (b*x) l)=c*u^(l.length+1+1)+(b*t-a*u)*(x*u^(l.length+1)+t*hv t u l);rw[As t u a b (b*x) l,ox];generalize hv t u l=h;rw[Q4 u (l.length+1)];generalize u^(l.length+1)=p;grind
theorem uQ(x y:Int)(k:Nat):cf [x,y] k=if k=0 then x else if k=1 then y else 0:=by
 rcases k with _ |_ |k
 ·rfl
 ·rfl
 ·rw[if_neg (by omega),if_neg (by omega)];exact cE (by simp)
theorem xL(l:List Int)(x y:Int)(n:Nat):∀j,sm l [x,y] n j=(if n<j then cf l n*x else 0)+(if 1<=n/\n-1<j then cf l (n-1)*y else 0)
 |0=>by rw[if_neg (by omega),if_neg (by omega)];rfl
 |j+1=>by
  show sm l [x,y] n j+tm l [x,y] n j=_;rw[xL l x y n j];unfold tm;rw[uQ];by_cases h1:n<j
  ·rw[if_pos h1,if_neg (show ¬j<=n by omega),if_pos (show n<j+1 by omega),Rk];by_cases h2:1<=n
   ·rw[if_pos ⟨h2,by omega⟩,if_pos ⟨h2,by omega⟩]
   ·rw[if_neg (λz=>h2 z.1),if_neg (λz=>h2 z.1)]
  ·rw[if_neg h1,if_pos (show j<=n by omega),Ru];by_cases h2:n=j
   ·subst h2;rw[Sc,if_pos rfl,if_pos (RV _),Int.add_comm];by_cases h3:1<=n
    ·rw[if_pos ⟨h3,by omega⟩,if_pos ⟨h3,by omega⟩]
    ·rw[if_neg (λz=>h3 z.1),if_neg (λz=>h3 z.1)]
   ·rw[if_neg (show ¬n-j=0 by omega),if_neg (show ¬n<j+1 by omega),Ru,if_neg (show ¬(1<=n/\n-1<j) by omega),Ru];by_cases h3:n-j=1
    ·rw[if_pos h3,if_pos (show 1<=n/\n-1<j+1 by omega),show n-1=j by omega]
    ·rw[if_neg h3,if_neg (show ¬(1<=n/\n-1<j+1) by omega),QX]
theorem Hm{a b:Int}{l:List Int}(h:l≠[]):af l [-a,b]=mb a b 0 l:=by
 apply d8
 ·rw[ox];unfold af;rw[if_neg (by simp[h]),QB,RO];simp
 ·intro k _;rw[aN,jr];unfold aC;rw[xL]
  have e1:(if k<l.length then cf l k * -a else 0) = -a*cf l k:=by
   by_cases hk:k<l.length
   ·rw[if_pos hk,QT]
   ·rw[if_neg hk,cE (RK hk),QX]
  have e2:(if 1<=k/\k-1<l.length then cf l (k-1)*b else 0)=if k=0 then 0 else b*cf l (k-1):=by
   by_cases h0:k=0
   ·rw[if_neg (by omega),if_pos h0]
   ·rw[if_neg h0];by_cases hk:k-1<l.length
    ·rw[if_pos (by omega),QT]
    ·rw[if_neg (by omega),cE (RK hk),QX]
  rw[e1,e2]
theorem oH(g t b:Int):∀l:List Int,hv (g*t) (g*b) l=g^l.length*hv t b l
 | []=>by simp[oJ]
 |v::l=>by rw[d6,d6,oH g t b l,Int.mul_pow];show v*(g^(l.length+1)*b^(l.length+1))+g*t*(g^l.length*hv t b l)=g^(l.length+1)*(v*b^(l.length+1)+t*hv t b l);rw[Q4 g l.length];generalize b^(l.length+1)=p;generalize g^l.length=q;generalize hv t b l=h;grind
theorem E5{g:Int}(h:0<g)(n:Nat):0<g^n:=by
 induction n with
 |zero=>simp
 |succ n ih=>rw[Q4];exact QC ih h
def At(l:List Int)(t b top bot:Int):Prop:=hv t b l*bot=top*b^l.length
theorem At.sign{l:List Int}{t b top bot:Int}(hb:0<b)(hbot:0<bot)(h:At l t b top bot):sg (hv t b l)=sg top:=by
 unfold At at h
 rw[<- qe (x:=hv t b l) hbot,h,qe (E5 hb _)]
theorem mr(t u c:Int):hv t u [c]=c*u:=by show c*u^1+t*0=c*u;grind
theorem Ld(t b:Int){l:List Int}{n:Nat}(h:n<l.length):hv t b (l.drop n)=cf l n*b^(l.length-n)+t*hv t b (l.drop (n+1)):=by
 rw[S8 h,d6,Rr,eJ h];have e:l.length-(n+1)+1=l.length-n:=by omega
 rw[e]
noncomputable def chF(z:Int×Int)(s:Int):Int×Int:=(if s*z.2<0 then z.1+1 else z.1,if s=0 then z.2 else s)
noncomputable def chS(l:List Int):Int×Int:=l.foldl chF (0,0)
theorem By(l:List Int)(s:Int):chS (l++[s])=chF (chS l) s:=by unfold chS;rw[List.foldl_append];rfl
theorem qd(x:Int):sg x=0↔x=0:=by unfold sg;split<;>(try split)<;>omega
theorem Bz:∀(n:Nat) (l:List Int),l.length=n->(∀s∈l,s.natAbs<=1)->(chS l).2.natAbs<=1/\0<=(chS l).1/\(chS l).1<=l.length
 |n,l,hn,h=>by
  rcases db l with rfl |⟨r,s,rfl⟩
  ·decide
  ·have hr:r.length+1=n:=by rw[<- hn,QO];rfl
   obtain⟨i1,i2,i3⟩:=Bz (n-1) r (by omega) (λx hx=>h x (RU _ hx));have hs:=h s (by simp);rw[By];unfold chF;refine⟨?_,?_,?_⟩
   ·dsimp only;split
    ·exact i1
    ·exact hs
   ·dsimp only;split<;>omega
   ·dsimp only;rw[QO];show _<=((r.length+1:Nat):Int);split<;>omega
termination_by n=>n
theorem LA(l:List Int)(h:∀s∈l,s.natAbs<=1):(chS l).2.natAbs<=1/\0<=(chS l).1/\(chS l).1<=l.length:=Bz _ l rfl h
theorem x9(x:Int):(sg x).natAbs<=1:=by unfold sg;split<;>(try split)<;>decide
theorem xO{q q' b:List Int}{c l:Int}{p n:Nat}(h:∀k,cf q' k=c*cf q k+(if k=p then l else 0)) :
 ∀j,sm q' b n j=c*sm q b n j+(if p<j/\p<=n then l*cf b (n-p)else 0)
 |0=>by rw[sm,sm,if_neg (by omega)];simp
 |j+1=>by
  rw[sm,sm,xO h j];unfold tm;by_cases hj:j<=n
  ·rw[if_pos hj,if_pos hj,h j];by_cases e:j=p
   ·subst e;rw[if_pos rfl,if_neg (by omega),if_pos ⟨by omega,hj⟩];grind
   ·rw[if_neg e];by_cases h2:p<j/\p<=n
    ·rw[if_pos h2,if_pos ⟨by omega,h2.2⟩];grind
    ·rw[if_neg h2,if_neg (by omega)];grind
  ·rw[if_neg hj,if_neg hj];by_cases h2:p<j/\p<=n
   ·rw[if_pos h2,if_pos ⟨by omega,h2.2⟩];grind
   ·rw[if_neg h2,if_neg (by omega)];grind
theorem Hl{q q' b:List Int}{c l:Int}{p n:Nat}(hl:q'.length=q.length)(hp:p<q.length)(h:∀k,cf q' k=c*cf q k+(if k=p then l else 0)) :
 aC q' b n=c*aC q b n+(if p<=n then l*cf b (n-p)else 0):=by
 unfold aC;rw[hl,xO h];by_cases h2:p<=n
 ·rw[if_pos h2,if_pos ⟨hp,h2⟩]
 ·rw[if_neg h2,if_neg (by omega)]
noncomputable def scL(c:Int)(l:List Int):List Int:=l.map λx=>c*x
theorem cv(c:Int)(l:List Int):(scL c l).length=l.length:=by unfold scL;rw[QB]
theorem bU(c:Int)(l:List Int)(k:Nat):cf (scL c l) k=c*cf l k:=by
 by_cases h:k<l.length
 ·unfold cf scL;simp[h]
 ·rw[cE (by rw[cv];omega),cE (by omega)];simp
noncomputable def jc(r b:List Int)(p:Nat)(l:Int):List Int:=(List.range (r.length-1)).map λk=>cf r k-(if p<=k then l*cf b (k-p)else 0)
theorem zR(r b:List Int)(p:Nat)(l:Int):(jc r b p l).length=r.length-1:=by unfold jc;simp
theorem o4(r b:List Int)(p:Nat)(l:Int)(k:Nat):cf (jc r b p l) k=if k<r.length-1 then cf r k-(if p<=k then l*cf b (k-p)else 0)else 0:=by unfold jc;rw[km]
theorem DC(x:Int):sg x*x=(x.natAbs:Int):=by unfold sg;split<;>(try split)<;>omega
noncomputable def di(b:List Int)(z:List Int×List Int)(i:Nat):List Int×List Int :=
 let s:Int:=((cf b (b.length-1)).natAbs:Int)
 let l:=sg (cf b (b.length-1))*cf z.2 (z.2.length-1)
 ((scL s z.1).set i l,jc (scL s z.2) b i l)
noncomputable def aV(a b:List Int):Nat->List Int×List Int
 |0=>(List.replicate (a.length+1-b.length) 0,a)
 |i+1=>di b (aV a b i) (a.length+1-b.length-1-i)
structure DivInv(a b:List Int)(i:Nat):Prop where
 lq:(aV a b i).1.length=a.length+1-b.length
 lr:(aV a b i).2.length=a.length-i
 low:∀k,k+i<a.length+1-b.length->cf (aV a b i).1 k=0
 eqn:∀n,((cf b (b.length-1)).natAbs:Int)^i*cf a n=aC (aV a b i).1 b n+cf (aV a b i).2 n
theorem sV{a b:List Int}{n:Nat}(h:∀k,cf a k=0):aC a b n=0:=by apply kU;intro i _;unfold tm;rw[h i];simp
theorem Lj{A B i:Nat}(hi:i+1<=A+1-B)(hb:0<B):∃p,A+1-B=p+i+1/\p+i+B=A:=⟨A-B-i,by omega,by omega⟩
theorem A9(p i:Nat):p<p+i+1:=Nat.lt_succ_of_le (Nat.le_add_right _ _)
theorem oZ{P A C M R:Int}(en:P*A=M+R):P*C*A=C*M+C*R:=by rw[Int.mul_right_comm,en,QT,Int.mul_add]
theorem Lk(x y z:Int):x+y=x+z+(y-z):=by omega
theorem jo{a b:List Int}(hb:b≠[]):∀i,i<=a.length+1-b.length->DivInv a b i
 |0,_=>⟨by simp[aV],by simp[aV],λk _=>by show cf (List.replicate _ 0) k=0;rw[mK],λn=>by
  show _=aC (List.replicate _ 0) b n+cf a n
  rw[sV λk=>mK _ _];simp⟩
 |i+1,hi=>by
  obtain⟨lq,lr,low,eqn⟩:=jo (a:=a) hb i (Nat.le_of_succ_le hi);have hbl:=QG.mpr hb;have e:aV a b (i+1)=di b (aV a b i) (a.length+1-b.length-1-i):=rfl;generalize aV a b i=z at e lq lr low eqn
  obtain⟨p,ep,ed⟩:=Lj hi hbl;rw[ep,show p+i+1-1-i=p from S1 _ _]at e;rw[ep]at lq low;have lz:z.2.length=p+b.length:=by rw[lr,<- ed,Nat.add_right_comm,S1]
  have hp:p<(scL ((cf b (b.length-1)).natAbs:Int) z.1).length:=by rw[cv,lq];exact A9 p i
  have hq:∀k,cf (di b z p).1 k=((cf b (b.length-1)).natAbs:Int)*cf z.1 k+(if k=p then sg (cf b (b.length-1))*cf z.2 (z.2.length-1)else 0):=by
   intro k;unfold di;dsimp only
   rw[mJ hp,bU];by_cases h:k=p
   ·rw[if_pos h,if_pos h,low k (by rw[h];exact RV _)];simp
   ·rw[if_neg h,if_neg h];simp
  have hlq:(di b z p).1.length=p+i+1:=by unfold di;dsimp only;rw[Sk,cv,lq]
  refine⟨?_,?_,?_,?_⟩
  ·rw[e,hlq,ep]
  ·rw[e];unfold di;dsimp only;rw[zR,cv,lr];rfl
  ·intro k hk;rw[ep]at hk;have hk':k<p:=by clear lq lr low eqn hp hq hlq lz e ep ed;omega
   rw[e,hq,if_neg (Re hk'),low k (Nat.lt_trans (Nat.add_lt_add_right hk' i) (RV _))];simp
  ·intro n;rw[e,Hl (by rw[hlq,lq]) (by rw[lq];exact A9 p i) hq,Q4];have en:=eqn n;unfold di;dsimp only
   rw[o4,cv,bU,lz];clear lq lr low eqn hp hq hlq e ep ed;by_cases h1:n<p+b.length-1
   ·rw[if_pos h1];by_cases h2:p<=n
    ·rw[if_pos h2,oZ en];exact Lk _ _ _
    ·rw[if_neg h2,oZ en,Rk,Int.sub_zero]
   ·rw[if_neg h1];have h2:p<=n:=by clear en;omega
    by_cases h3:n=p+b.length-1
    ·have h4:n-p=b.length-1:=by clear en;omega
     rw[if_pos h2,h4];have sg:=DC (cf b (b.length-1));rw[<- h3,oZ en,Rk,Int.mul_right_comm,sg]
    ·have hc:cf z.2 n=0:=cE (by rw[lz];clear en;omega);rw[if_pos h2,cE (l:=b) (k:=n-p) (by clear en;omega),oZ en,hc,QX,QX,Rk,Rk]
theorem A7{a b:List Int}(hb:b≠[])(ha:Tr a)(hbt:Tr b):∀i,i+1<=a.length+1-b.length->cf (aV a b (i+1)).1 (a.length+1-b.length-1)≠0
 |0,h=>by
  obtain⟨lq,lr,_,_⟩:=jo (a:=a) hb 0 (by omega);have hbl:=QG.mpr hb;show cf (di b (aV a b 0) _).1 _≠0;unfold di;dsimp only
  rw[mJ (by rw[cv,lq];omega),if_pos (by omega)];have hb1:=hbt (b.length-1) (by omega);have ha1:=ha (a.length-1) (by omega);refine QU ?_ ?_
  ·unfold sg;split<;>(try split)<;>omega
  ·rw[lr];exact ha1
 |i+1,h=>by
  have ih:=A7 hb ha hbt i (by omega);obtain⟨lq,lr,_,_⟩:=jo (a:=a) hb (i+1) (by omega);have hbl:=QG.mpr hb;show cf (di b (aV a b (i+1)) _).1 _≠0;unfold di;dsimp only
  rw[mJ (by rw[cv,lq];omega),if_neg (by omega),bU];have hb1:=hbt (b.length-1) (by omega);refine QU ?_ ih;omega
noncomputable def bJ(a b:List Int):Nat:=a.length+1-b.length
noncomputable def cw(a b:List Int):Int:=((cf b (b.length-1)).natAbs:Int)^bJ a b
noncomputable def cu(a b:List Int):List Int:=(aV a b (bJ a b)).1
noncomputable def aS(a b:List Int):List Int:=trim (aV a b (bJ a b)).2
theorem iC{a b:List Int}(hb:b≠[])(n:Nat):cw a b*cf a n=aC (cu a b) b n+cf (aS a b) n:=by unfold aS cu cw;rw[gN];exact(jo hb (bJ a b) (QD _)).eqn n
theorem gM{a b:List Int}(hb:b≠[]):(aS a b).length<b.length:=by
 have h:=(jo (a:=a) hb (bJ a b) (QD _)).lr;have h2:=tG (aV a b (bJ a b)).2;have hbl:=QG.mpr hb;unfold aS;unfold bJ at *
 omega
theorem uJ{a b:List Int}(hb:b≠[]):(cu a b).length=bJ a b:=(jo (a:=a) hb (bJ a b) (QD _)).lq
theorem uH{a b:List Int}(hb:b≠[])(ha:Tr a)(hbt:Tr b):Tr (cu a b):=by
 intro n hn;rw[uJ hb]at hn;have h:=A7 hb ha hbt n (by unfold bJ at hn;omega);unfold cu;rw[hn];have:a.length+1-b.length-1=n:=by unfold bJ at hn;omega
 rwa [this]at h
theorem ge(a b:List Int):Tr (aS a b):=fX _
theorem xR{a a' b b':List Int}{n:Nat}(h1:∀k,cf a k=cf a' k)(h2:∀k,cf b k=cf b' k):∀j,sm a b n j=sm a' b' n j
 |0=>rfl
 |j+1=>by rw[sm,sm,xR h1 h2 j];unfold tm;rw[h1 j,h2 (n-j)]
theorem xP{a b:List Int}{n:Nat}:∀d,sm a b n (a.length+d)=aC a b n
 |0=>rfl
 |d+1=>by rw[<- Nat.add_assoc,sm,xP d,CM (by omega)];omega
theorem kW{a b:List Int}{n N:Nat}(h:a.length<=N):sm a b n N=aC a b n:=by obtain⟨d,rfl⟩:=Nat.exists_eq_add_of_le h;exact xP d
theorem ot{a a' b b':List Int}{n:Nat}(h1:∀k,cf a k=cf a' k)(h2:∀k,cf b k=cf b' k):aC a b n=aC a' b' n:=by rw[<- kW (Nat.le_max_left a.length a'.length),<- kW (Nat.le_max_right a.length a'.length)];exact xR h1 h2 _
theorem xN{a b c q:List Int}{x y:Int}{n:Nat}(h:∀k,cf c k=x*cf a k+y*cf b k):∀j,sm c q n j=x*sm a q n j+y*sm b q n j
 |0=>by simp[sm]
 |j+1=>by
  rw[sm,sm,sm,xN h j];unfold tm;rw[h j];by_cases hj:j<=n
  ·rw[if_pos hj,if_pos hj,if_pos hj];grind
  ·rw[if_neg hj,if_neg hj,if_neg hj];grind
theorem eY{a b c q:List Int}{x y:Int}{n:Nat}(h:∀k,cf c k=x*cf a k+y*cf b k):aC c q n=x*aC a q n+y*aC b q n:=by
 have h1:a.length<=a.length+b.length+c.length:=by omega
 have h2:b.length<=a.length+b.length+c.length:=by omega
 have h3:c.length<=a.length+b.length+c.length:=by omega
 rw[<- kW h1,<- kW h2,<- kW h3];exact xN h _
theorem xM{a b b':List Int}{c:Int}{n:Nat}(h:∀k,cf b' k=c*cf b k):∀j,sm a b' n j=c*sm a b n j
 |0=>by simp[sm]
 |j+1=>by
  rw[sm,sm,xM h j];unfold tm;rw[h (n-j)];by_cases hj:j<=n
  ·rw[if_pos hj,if_pos hj];grind
  ·rw[if_neg hj,if_neg hj];grind
theorem lN{a b b':List Int}{c:Int}{n:Nat}(h:∀k,cf b' k=c*cf b k):aC a b' n=c*aC a b n:=xM h _
theorem f9(c:Int)(l:List Int)(n:Nat):aC [c] l n=c*cf l n:=by unfold aC;show sm [c] l n 0+tm [c] l n 0=_;unfold sm tm;rw[if_pos (QH _),BB,Rv,Ru]
theorem sT{l:List Int}(ht:Tr l)(h:∀k,cf l k=0):l=[]:=by
 refine Classical.byContradiction λhne=>?_
 have hl:=QG.mpr hne;exact ht (l.length-1) (by omega) (h _)
theorem zm{d q:List Int}(hq:q≠[])(hqt:Tr q)(h:∀n,q.length<=n+1->aC d q n=0):∀k,cf d k=0:=by
 have e:trim d=[]:=by
  refine Classical.byContradiction λhne=>?_
  have hl:=QG.mpr hne;have hql:=QG.mpr hq;have ht:=fX d ((trim d).length-1) (by omega);have hb:=hqt (q.length-1) (by omega);have h1:=h ((trim d).length-1+(q.length-1)) (by omega);rw[<- ot (a:=trim d) (b:=q) (λk=>gN d k) (λ_=>rfl),sW (la:=(trim d).length-1) (lb:=q.length-1) (by omega) (by omega)]at h1;exact QU ht hb h1
 intro k;rw[<- gN,e,cK]
theorem mG{a b:List Int}(hb:b≠[])(hbt:Tr b):cw a b≠0:=by
 have hbl:=QG.mpr hb;have h:=hbt (b.length-1) (by omega);have h1:((cf b (b.length-1)).natAbs:Int)≠0:=by omega
 unfold cw;generalize bJ a b=n
 induction n with
 |zero=>rw[RG];decide
 |succ n ih=>rw[Q4];exact QU ih h1
noncomputable def fc(d:Nat)(l:List Int):Nat:=l.foldl (λd v=>Nat.gcd d v.natAbs) d
noncomputable def aB(l:List Int):Nat:=fc 0 l
theorem oN(d:Nat):fc d []=d:=rfl
theorem iz(d:Nat)(v:Int)(l:List Int):fc d (v::l)=fc (Nat.gcd d v.natAbs) l:=rfl
theorem Kk(d:Nat)(l:List Int)(v:Int):fc d (l++[v])=Nat.gcd (fc d l) v.natAbs:=by unfold fc;rw[List.foldl_append];rfl
theorem Az(l:List Int)(v:Int):aB (l++[v])=Nat.gcd (aB l) v.natAbs:=Kk 0 l v
theorem AY{m:Nat}:∀{l:List Int} {d:Nat},m∣fc d l↔m∣d/\∀v∈l,m∣v.natAbs
 | [],d=>by simp[oN]
 |v::l,d=>by rw[iz,AY,Nat.dvd_gcd_iff];simp only[QK,forall_eq_or_imp];exact⟨λ⟨⟨a,b⟩,c⟩=>⟨a,b,c⟩,λ⟨a,b,c⟩=>⟨⟨a,b⟩,c⟩⟩
theorem dvd_gcdL{m:Nat}{l:List Int}:m∣aB l↔∀v∈l,m∣v.natAbs:=by unfold aB;rw[AY];exact⟨λh=>h.2,λh=>⟨Nat.dvd_zero m,h⟩⟩
theorem oM{l:List Int}{v:Int}(h:v∈l):aB l∣v.natAbs:=dvd_gcdL.mp (Nat.dvd_refl _) v h
theorem Ki(v:Int):aB [v]=v.natAbs:=by show Nat.gcd 0 v.natAbs=_;exact Sy _
theorem Ay{a b:Int}(ha:0<=a)(hb:0<b):Nat.gcd b.natAbs (a%b).natAbs=Nat.gcd a.natAbs b.natAbs:=by
 have e:(a%b).natAbs=a.natAbs%b.natAbs:=by obtain⟨x,rfl⟩:=Sz ha;obtain⟨y,rfl⟩:=Sz (QE hb);rfl
 rw[e,SA,<- Nat.gcd_rec,SA]
noncomputable def ar(l:List Int):List Int:=l.map λx=>x/(aB l:Int)
noncomputable def ap(l:List Int):Int:=cf l (l.length-1)
theorem dJ(r:List Int)(x:Int):ap (r++[x])=x:=by unfold ap;rw[QO];exact kn r x
noncomputable def cz(l:List Int):List Int:=if ap l<0 then l.map λx => -x else l
noncomputable def aA(l:List Int):List Int:=cz (ar l)
theorem wc{c:Int->Int}(h0:∀x,c x=0↔x=0):∀(n:Nat) (l:List Int),l.length=n->trim (l.map c)=(trim l).map c
 |0,l,h=>by rw[Sd.mp h];rfl
 |n+1,l,h=>by
  rcases db l with rfl |⟨r,x,rfl⟩
  ·rfl
  ·rw[QY];show trim (r.map c++[c x])=_;by_cases hx:x=0
   ·subst hx;rw[(h0 0).mpr rfl,nc,nc];exact wc h0 n r (by simpa using h)
   ·rw[kH r hx,kH _ (λz=>hx ((h0 x).mp z)),QY];rfl
def kC(l:List Int):Prop:=l=[]\/aB l=1
theorem x5{l:List Int}(h:kC l):ar l=l:=by
 rcases h with rfl |h
 ·rfl
 ·unfold ar;rw[h]
  conv=>rhs;rw[<- List.map_id l]
  apply Sm;intro x _;show x/1=x;exact Int.ediv_one x
theorem Kj{l:List Int}{s:Int}(hs:s=1\/s = -1):aB (l.map λx=>x*s)=aB l:=by
 have key:∀m:Nat,m∣aB (l.map λx=>x*s)↔m∣aB l:=by
  intro m;rw[dvd_gcdL,dvd_gcdL]
  have e:∀x:Int,(x*s).natAbs=x.natAbs:=λx=>by
   rcases hs with rfl |rfl
   ·rw[Q1]
   ·rw[Int.mul_neg,Q1,R5]
  constructor
  ·intro h v hv;have:=h (v*s) (QQ.mpr ⟨v,hv,rfl⟩)
   rwa [e]at this
  ·intro h v hv;obtain⟨u,hu,rfl⟩:=QQ.mp hv;rw[e];exact h u hu
 exact Nat.dvd_antisymm ((key _).mp (Nat.dvd_refl _)) ((key _).mpr (Nat.dvd_refl _))
theorem E3{l:List Int}(h:kC l):kC (l.map λx => -x):=by
 rcases h with rfl |h
 ·exact .inl rfl
 ·right
  have e:(l.map λx => -x)=l.map λx=>x*(-1):=by apply Sm;intro x _;omega
  rw[e,Kj (.inr rfl),h]
theorem zU(l:List Int):ap (l.map λx => -x) = -ap l:=by
 rcases db l with rfl |⟨r,x,rfl⟩
 ·rfl
 ·rw[QY];show ap (r.map _++[-x])=_;rw[dJ,dJ]
theorem EZ{l:List Int}(h:kC l):kC (cz l):=by
 unfold cz;split
 ·exact E3 h
 ·exact h
theorem CJ{c:Int->Int}(h0:∀x,c x=0↔x=0){l:List Int}(h:Tr l):Tr (l.map c):=by rw[<- CD h,<- wc h0 _ l rfl];exact fX _
theorem CG{l:List Int}(h:Tr l):Tr (cz l):=by
 unfold cz;split
 ·exact CJ (λx=>by omega) h
 ·exact h
theorem AA(c:Int):∀(l:List Int) (d:Nat),fc (c.natAbs*d) (scL c l)=c.natAbs*fc d l
 | [],d=>rfl
 |v::l,d=>by show fc (Nat.gcd (c.natAbs*d) (c*v).natAbs) (scL c l)=c.natAbs*fc (Nat.gcd d v.natAbs) l;rw[QR,Nat.gcd_mul_left,AA c l]
theorem ud(c:Int)(l:List Int):aB (scL c l)=c.natAbs*aB l:=by have h:=AA c l 0;rw[Nat.mul_zero]at h;exact h
theorem ji{l:List Int}{x:Int}(h:x∈l):(aB l:Int)∣x:=Sn.mpr (oM h)
theorem Dt{c:Int}(hc:0<c)(l:List Int):ar (scL c l)=ar l:=by
 unfold ar;rw[ud];unfold scL;rw[Rw];refine Sm λx _=>?_
 show c*x/((c.natAbs*aB l:Nat):Int)=x/(aB l:Int);have e:((c.natAbs*aB l:Nat):Int)=c*(aB l:Int):=by rw[Rx];congr 1;omega
 rw[e,Int.mul_ediv_mul_of_pos _ _ hc]
theorem Du{c:Int}(hc:c<0)(l:List Int):ar (scL c l)=(ar l).map λx => -x:=by
 unfold ar;rw[ud];unfold scL;rw[Rw,Rw];refine Sm λx hx=>?_
 show c*x/((c.natAbs*aB l:Nat):Int) = -(x/(aB l:Int));have e:((c.natAbs*aB l:Nat):Int)=(-c)*(aB l:Int):=by rw[Rx];congr 1;omega
 have e2:c*x=(-c)*(-x):=by rw[Int.neg_mul_neg]
 rw[e,e2,Int.mul_ediv_mul_of_pos _ _ (by omega:0 < -c),Int.neg_ediv_of_dvd (ji hx)]
theorem E7{m:List Int}(h:Tr m):cz (m.map λx => -x)=cz m:=by
 rcases db m with rfl |⟨r,x,rfl⟩
 ·rfl
 have hx:x≠0:=tr_snoc.mp h;have h1:=zU (r++[x]);rw[dJ]at h1;unfold cz;rw[h1,dJ];by_cases hn:x<0
 ·rw[if_neg (by omega),if_pos hn]
 ·rw[if_pos (by omega),if_neg hn,Rw];rw[show((λx:Int => -x) ∘ λx:Int => -x)=id from by funext y;simp];exact List.map_id _
theorem gk{l:List Int}(h:Tr l):Tr (ar l):=by
 intro n hn;have hl:l.length=n+1:=by rw[<- hn];unfold ar;rw[QB]
 have hx:=h n hl;have hm:cf l n∈l:=by rw[eJ (by omega)];exact Sb _
 have e:cf (ar l) n=cf l n/(aB l:Int):=by
  have h1:n<l.length:=by omega
  unfold ar cf;simp[List.getD,h1]
 rw[e];intro z;have d:=ji hm;have:=Int.mul_ediv_cancel' d;rw[z,QX]at this;exact hx this.symm
theorem ig{c:Int}(hc:c≠0){l:List Int}(h:Tr l):aA (scL c l)=aA l:=by
 unfold aA;by_cases hp:0<c
 ·rw[Dt hp]
 ·rw[Du (by omega),E7 (gk h)]
theorem kI{c:Int}(hc:c≠0){l:List Int}(h:Tr l):Tr (scL c l):=by intro n hn;rw[cv]at hn;rw[bU];exact QU hc (h n hn)
theorem E9{a b:List Int}{x y:Int}(hx:x≠0)(hy:y≠0)(ha:Tr a)(hb:Tr b)(h:∀k,x*cf a k=y*cf b k):aA a=aA b:=by
 have e:scL x a=scL y b:=mE (kI hx ha) (kI hy hb) λk=>by rw[bU,bU,h k]
 rw[<- ig hx ha,e,ig hy hb]
noncomputable def slopeL(l:List Int):List Int:=(List.range (l.length-1)).map λ(k:Nat)=>((k:Int)+1)*cf l (k+1)
noncomputable def turnL(l:List Int):List Int:=(List.range l.length).map λk=>if k%2=0 then cf l k else -cf l k
theorem pe(l:List Int):(turnL l).length=l.length:=by simp[turnL]
theorem BC(l:List Int)(k:Nat):cf (turnL l) k=if k%2=0 then cf l k else -cf l k:=by
 unfold turnL;rw[km];by_cases h:k<l.length
 ·rw[if_pos h]
 ·rw[if_neg h,cE (RK h)];simp
noncomputable def lp(l:List Int)(m i n:Nat):Int:=if n%m=0/\n/m<i then cf l (n/m)else 0
noncomputable def rst(one other:List Int):List Int:=if other=[]then[]else aS one other
noncomputable def nxt(one other:List Int):List Int:=ar (cU [] (rst one other))
noncomputable def bV:Nat->List Int->List Int->List (List Int)
 |0,_,_=>[]
 |n+1,one,other=>if one=[]then[]else one::bV n other (nxt one other)
theorem lg(n:Nat)(o:List Int):bV n [] o=[]:=by cases n with |zero=>rfl |succ n=>show(if([]:List Int)=[]then _ else _)=_;rw[if_pos rfl]
noncomputable def up(f:Nat->Int)(n:Nat):Int:=if n=0 then 0 else f (n-1)
theorem xQ(x:Int)(a b:List Int)(n:Nat):∀j,sm (x::a) b n (j+1)=x*cf b n+(if n=0 then 0 else sm a b (n-1) j)
 |0=>by
  show 0+tm (x::a) b n 0=_;unfold tm;rw[if_pos (QH _)];rw[BB,Rv];by_cases h:n=0
  ·rw[if_pos h];omega
  ·rw[if_neg h];show _=_+0;omega
 |j+1=>by
  show sm (x::a) b n (j+1)+tm (x::a) b n (j+1)=_;rw[xQ x a b n j];by_cases h:n=0
  ·rw[if_pos h,if_pos h];unfold tm;rw[if_neg (by omega)];omega
  ·rw[if_neg h,if_neg h];show _=_+(sm a b (n-1) j+tm a b (n-1) j)
   have e:tm (x::a) b n (j+1)=tm a b (n-1) j:=by
    unfold tm;rw[o2];by_cases h2:j+1<=n
    ·rw[if_pos h2,if_pos (by omega)]
     congr 2;omega
    ·rw[if_neg h2,if_neg (by omega)]
   rw[e];omega
theorem eD(x:Int)(a b:List Int)(n:Nat):aC (x::a) b n=x*cf b n+up (aC a b) n:=xQ x a b n a.length
theorem eV(b:List Int)(n:Nat):aC [] b n=0:=rfl
theorem uS(x:Int)(a:List Int)(n:Nat):cf (x::a) n=(if n=0 then x else 0)+up (cf a) n:=by
 cases n with
 |zero=>show x=x+0;omega
 |succ n=>show cf a n=0+cf a n;omega
theorem sY(y:Int)(b:List Int):∀(a:List Int) (n:Nat),aC a (y::b) n=y*cf a n+up (aC a b) n
 | [],n=>by
  rw[eV,cK];unfold up;split
  ·simp
  ·rw[eV];simp
 |x::a,n=>by
  rw[eD,uS,uS];cases n with
  |zero =>show x*(y+0)+0=y*(x+0)+0;simp only[Rk];exact QT _ _
  |succ n =>show x*(0+cf b n)+aC a (y::b) n=y*(0+cf a n)+aC (x::a) b n;rw[sY y b a n,eD];simp only[Ru];omega
theorem sX:∀(a:List Int) (n:Nat),aC a [] n=0
 | [],n=>rfl
 |x::a,n=>by
  rw[eD,cK];unfold up;split
  ·simp
  ·rw[sX a];simp
theorem gA:∀(a b:List Int) (n:Nat),aC a b n=aC b a n
 | [],b,n=>by rw[sX];rfl
 |x::a,b,n=>by
  rw[eD,sY]
  congr 1
  unfold up;split
  ·rfl
  ·exact gA a b _
theorem zo{a b c q:List Int}{x y:Int}{n:Nat}(h:∀k,cf c k=x*cf a k+y*cf b k):aC q c n=x*aC q a n+y*aC q b n:=by rw[gA q c,eY h,gA q a,gA q b]
theorem o3(a:List Int)(n:Nat):cf (0::a) n=up (cf a) n:=by rw[uS];split<;>omega
theorem zn(a b:List Int)(n:Nat):aC (0::a) b n=up (aC a b) n:=by rw[eD];omega
theorem j5:∀(a b c:List Int) (n:Nat),aC (af a b) c n=aC a (af b c) n
 | [],b,c,n=>by rw[eV,sV λk=>by rw[aN,eV]]
 |x::a,b,c,n=>by
  rw[eD,aN]
  have e:∀k,cf (af (x::a) b) k=x*cf b k+1*cf (0::af a b) k:=λk=>by
   rw[aN,eD,o3,QZ]
   congr 1
   unfold up;split
   ·rfl
   ·rw[aN]
  rw[eY e,zn,QZ]
  congr 1
  unfold up;split
  ·rfl
  ·exact j5 a b c _
def Dv(d p:List Int):Prop:=∃(c:Int) (q:List Int),c≠0/\∀n,c*cf p n=aC q d n
theorem Dv.refl(d:List Int):Dv d d:=⟨1,[1],by decide,λn=>by rw[f9]⟩
theorem Dv.nil(d:List Int):Dv d []:=⟨1,[],by decide,λn=>by rw[cK,eV];rfl⟩
theorem Dv.trans{d e p:List Int}(h1:Dv d e)(h2:Dv e p):Dv d p:=by obtain⟨c1,q1,hc1,e1⟩:=h1;obtain⟨c2,q2,hc2,e2⟩:=h2;refine⟨c1*c2,af q2 q1,QU hc1 hc2,λn=>?_⟩;rw[j5,Rc,e2,<- lN (b':=af q1 d) (λk=>by rw[aN,e1])]
theorem Dv.up{d a b r q:List Int}{f:Int}(hf:f≠0)(h:∀n,f*cf a n=aC q b n+cf r n)(hb:Dv d b)(hr:Dv d r):Dv d a:=by obtain⟨c1,q1,hc1,e1⟩:=hb;obtain⟨c2,q2,hc2,e2⟩:=hr;refine⟨c1*c2*f,eI c1 (scL c2 (af q q1)) q2,QU (QU hc1 hc2) hf,λn=>?_⟩;rw[eY (a:=af q q1) (b:=q2) (x:=c2) (y:=c1) (λk=>by rw[iG,bU]),j5,<- e2,lN (b:=b) (b':=af q1 d) (c:=c1) (λk=>by rw[aN,e1])];have:=h n;grind
theorem Dv.down{d a b r q:List Int}{f:Int}(h:∀n,f*cf a n=aC q b n+cf r n)(ha:Dv d a)(hb:Dv d b):Dv d r:=by obtain⟨c1,q1,hc1,e1⟩:=ha;obtain⟨c2,q2,hc2,e2⟩:=hb;refine⟨c1*c2,eI (-c1) (scL (f*c2) q1) (af q q2),QU hc1 hc2,λn=>?_⟩;rw[eY (a:=q1) (b:=af q q2) (x:=f*c2) (y := -c1) (λk=>by rw[iG,bU]),j5,<- e1,lN (b:=b) (b':=af q2 d) (c:=c2) (λk=>by rw[aN,e2])];have:=h n;grind
theorem Dv.prop_right{d p p':List Int}{x y:Int}(hx:x≠0)(h:∀n,x*cf p' n=y*cf p n)(hd:Dv d p):Dv d p':=by obtain⟨c,q,hc,e⟩:=hd;refine⟨c*x,scL y q,QU hc hx,λn=>?_⟩;rw[eY (a:=q) (b:=[]) (x:=y) (y:=0) (λk=>by rw[bU];simp),<- e];have:=h n;grind
theorem Dv.prop_left{d d' p:List Int}{x y:Int}(hx:x≠0)(hy:y≠0)(h:∀n,x*cf d' n=y*cf d n)(hd:Dv d p):Dv d' p :=
 Dv.trans (Dv.prop_right hy (λn=>(h n).symm) (Dv.refl d')) hd
theorem jW{l:List Int}(h:Tr l):∃g:Int,g≠0/\∀n,cf l n=g*cf (aA l) n:=by
 by_cases hl:l=[]
 ·subst hl;exact⟨1,by decide,λn=>by rw[cK];show 0=1*cf [] n;rw[cK];rfl⟩
 have hg:(aB l:Int)≠0:=by obtain⟨r,x,rfl⟩:=(db l).resolve_left hl;have hx:x≠0:=tr_snoc.mp h;have h1:0<aB (r++[x]):=Nat.pos_of_dvd_of_pos (oM (by simp:x∈r++[x])) (Se.mpr hx);omega
 have e1:∀n,cf l n=(aB l:Int)*cf (ar l) n:=λn=>by
  unfold ar;by_cases hn:n<l.length
  ·rw[eJ hn,eJ (by rw[QB];exact hn),List.getElem_map];exact(Int.mul_ediv_cancel' (ji (Sb hn))).symm
  ·rw[cE (by omega),cE (by rw[QB];omega),QX]
 unfold aA cz;split
 ·refine⟨-(aB l:Int),by omega,λn=>?_⟩
  have e2:cf ((ar l).map λx => -x) n = -cf (ar l) n:=by
   by_cases hn:n<(ar l).length
   ·rw[eJ hn,eJ (by rw[QB];exact hn),List.getElem_map]
   ·rw[cE (l:=ar l) (by omega),cE (l:=(ar l).map λx => -x) (by rw[QB];omega)];rfl
  rw[e1,e2];grind
 ·exact⟨_,hg,e1⟩
theorem Dv.plain{d p:List Int}(hp:Tr p):Dv d (aA p)↔Dv d p:=by obtain⟨g,hg,e⟩:=jW hp;exact⟨λh=>Dv.prop_right (x:=1) (y:=g) (by decide) (λn=>by rw[e];omega) h,λh=>Dv.prop_right (x:=g) (y:=1) hg (λn=>by rw[<- e];omega) h⟩
theorem plain_len(l:List Int):(aA l).length=l.length:=by unfold aA cz ar;split<;>simp
theorem g8{l:List Int}(h:Tr l):Tr (aA l):=CG (gk h)
noncomputable def cT:Nat->List Int->List Int->List Int
 |0,one,_=>one
 |n+1,one,other=>if other=[]then one else cT n other (aA (aS one other))
theorem Bn(n:Nat)(one:List Int):cT n one []=one:=by cases n<;>rfl
theorem Lx{n:Nat}{one other:List Int}(h:other≠[]):cT (n+1) one other=cT n other (aA (aS one other)):=by show(if other=[]then one else cT n other (aA (aS one other)))=_;rw[if_neg h]
theorem Bm:∀(n:Nat) (one other:List Int),other.length<=n->Tr one->Tr other->Tr (cT n one other)/\Dv (cT n one other) one/\Dv (cT n one other) other/\(∀d,Dv d one->Dv d other->Dv d (cT n one other))/\(one≠[]\/other≠[]->cT n one other≠[])/\(cT n one other=one\/cT n one other=other\/∃l,Tr l/\cT n one other=aA l)
 |n,one,[],_,t1,_=>by rw[Bn];exact⟨t1,Dv.refl _,Dv.nil _,λd h _=>h,λh=>h.resolve_right λz=>z rfl,.inl rfl⟩
 |0,one,x::o,h,_,_=>absurd h (Nat.not_succ_le_zero _)
 |n+1,one,x::o,h,t1,t2=>by
  have hne:x::o≠[]:=λz=>nomatch z
  rw[Lx hne];generalize x::o=other at h t2 hne
  have tr:=ge one other;have hl:=gM (a:=one) hne;obtain⟨c1,c2,c3,c4,c5,c6⟩:=Bm n other (aA (aS one other)) (by rw[plain_len];omega) t2 (g8 tr);have eq:=λk=>iC (a:=one) hne k
  refine⟨c1,Dv.up (mG (a:=one) hne t2) eq c2 ((Dv.plain tr).mp c3),c2,λd h1 h2=>c4 d h2 ((Dv.plain tr).mpr (Dv.down eq h1 h2)),λ_=>c5 (.inl hne),?_⟩;rcases c6 with e |e |e
  ·exact .inr (.inl e)
  ·exact .inr (.inr ⟨_,tr,e⟩)
  ·exact .inr (.inr e)
def Cop(a:List Int)(m:Nat):Prop:=∀k:Nat,k∣m->(∀n,(k:Int)∣cf a n)->k=1
theorem ue:∀(N:Nat) (a b:List Int) (m:Nat),a.length+b.length<=N->Cop a m->Cop b m->(∀n,(m:Int)∣aC a b n)->m=1
 |_,[],b,m,_,h1,_,_=>h1 m (Nat.dvd_refl _) λn=>by rw[cK];exact Int.dvd_zero _
 |_,_::_,[],m,_,_,h2,_=>h2 m (Nat.dvd_refl _) λn=>by rw[cK];exact Int.dvd_zero _
 |0,_::_,_::_,_,h,_,_,_=>absurd h (by simp)
 |N+1,x::a,y::b,m,h,h1,h2,h3=>by
  have d1:Nat.gcd m x.natAbs=1:=by
   refine ue N a (y::b) _ (by simp at h ⊢;omega) (λk hk hn=>h1 k (SB hk (R6 _ _)) λn=>?_) (λk hk=>h2 k (SB hk (R6 _ _))) λn=>?_
   ·cases n with
    |zero=>exact Sn.mpr (SB hk (Sl _ _))
    |succ n=>exact hn n
   ·have e:=eD x a (y::b) (n+1);have g1:((Nat.gcd m x.natAbs:Nat):Int)∣aC (x::a) (y::b) (n+1):=Int.dvd_trans (Int.ofNat_dvd.mpr (R6 _ _)) (h3 _);have g2:((Nat.gcd m x.natAbs:Nat):Int)∣x*cf (y::b) (n+1):=Int.dvd_mul_of_dvd_left (Sn.mpr (Sl _ _))
    have e2:aC a (y::b) n=aC (x::a) (y::b) (n+1)-x*cf (y::b) (n+1):=by rw[e];show _=_+aC a (y::b) n-_;omega
    rw[e2];exact Int.dvd_sub g1 g2
  have d2:Nat.gcd m y.natAbs=1:=by
   refine ue N (x::a) b _ (by simp at h ⊢;omega) (λk hk=>h1 k (SB hk (R6 _ _))) (λk hk hn=>h2 k (SB hk (R6 _ _)) λn=>?_) λn=>?_
   ·cases n with
    |zero=>exact Sn.mpr (SB hk (Sl _ _))
    |succ n=>exact hn n
   ·have e:=sY y b (x::a) (n+1);have g1:((Nat.gcd m y.natAbs:Nat):Int)∣aC (x::a) (y::b) (n+1):=Int.dvd_trans (Int.ofNat_dvd.mpr (R6 _ _)) (h3 _);have g2:((Nat.gcd m y.natAbs:Nat):Int)∣y*cf (x::a) (n+1):=Int.dvd_mul_of_dvd_left (Sn.mpr (Sl _ _))
    have e2:aC (x::a) b n=aC (x::a) (y::b) (n+1)-y*cf (x::a) (n+1):=by rw[e];show _=_+aC (x::a) b n-_;omega
    rw[e2];exact Int.dvd_sub g1 g2
  have h0:=h3 0;rw[eD]at h0
  have h0':m∣x.natAbs*y.natAbs:=by
   rw[<- QR];refine Sn.mp ?_
   have e:x*cf (y::b) 0+up (aC a (y::b)) 0=x*y:=by show x*y+0=x*y;omega
   rwa [e]at h0
  have h4:m∣y.natAbs:=Nat.Coprime.dvd_of_dvd_mul_left d1 h0';rw[Nat.gcd_eq_left h4]at d2;exact d2
theorem Hu{l:List Int}{v:Int}(h:v∈l):∃n,n<l.length/\cf l n=v:=by obtain⟨n,hn,e⟩:=List.getElem_of_mem h;exact⟨n,hn,by rw[eJ hn,e]⟩
theorem Bj{a:List Int}{m:Nat}(h:aB a=1):Cop a m:=λk _ hn=>by
 have:k∣aB a:=dvd_gcdL.mpr λv hv=>by obtain⟨n,_,rfl⟩:=Hu hv;exact Sn.mp (hn n)
 rw[h]at this;exact Nat.dvd_one.mp this
theorem E4{a b:List Int}(ha:aB a=1)(hb:aB b=1):aB (af a b)=1:=by
 refine ue _ a b _ (QD _) (Bj ha) (Bj hb) λn=>?_
 rw[<- aN];by_cases hn:n<(af a b).length
 ·rw[eJ hn];exact ji (Sb hn)
 ·rw[cE (by omega)];exact Int.dvd_zero _
structure Pln(l:List Int):Prop where
 tr:Tr l
 ne:l≠[]
 prim:aB l=1
 pos:0<ap l
theorem zT{l:List Int}(h:Tr l)(hne:l≠[]):ap l≠0:=by have:=QG.mpr hne;exact h (l.length-1) (by omega)
theorem Pln.plain{l:List Int}(h:Pln l):aA l=l:=by unfold aA;rw[x5 (.inr h.prim)];unfold cz;rw[if_neg (by have:=h.pos;omega)]
theorem shr_scale{l:List Int}:scL (aB l:Int) (ar l)=l:=by unfold scL ar;rw[Rw];refine(Sm (g:=id) λx hx=>?_).trans (List.map_id _);exact Int.mul_ediv_cancel' (ji hx)
theorem fy{l:List Int}(h:Tr l)(hne:l≠[]):Pln (aA l):=by
 have hg:0<aB l:=by obtain⟨r,x,rfl⟩:=(db l).resolve_left hne;have hx:x≠0:=tr_snoc.mp h;exact Nat.pos_of_dvd_of_pos (oM (by simp:x∈r++[x])) (Se.mpr hx)
 have h1:aB (ar l)=1:=by have e:=ud (aB l:Int) (ar l);rw[shr_scale,Q2]at e;exact Nat.eq_of_mul_eq_mul_left hg (by rw[<- e,Nat.mul_one])
 have hs:ar l≠[]:=λz=>hne (by have:=congrArg List.length z;unfold ar at this;simpa using this)
 have hl:=zT (gk h) hs
 have hp:aB (aA l)=1:=by
  rcases EZ (.inr h1:kC (ar l))with z |z
  ·exact absurd (congrArg List.length z) (by
    have:=plain_len l;unfold aA at this
    rw[this]
    exactλq=>hne (Sd.mp q))
  ·exact z
 refine⟨g8 h,λz=>hne (Sd.mp (by rw[<- plain_len,z];rfl)),hp,?_⟩;unfold aA cz;split
 ·rw[zU];omega
 ·omega
theorem bZ{a b:List Int}(ha:a≠[])(hb:b≠[]):(af a b).length=a.length+b.length-1:=by unfold af;rw[if_neg (λz=>z.elim ha hb),QB,RO]
theorem tM{a b:List Int}(ha:a≠[])(hb:b≠[]):ap (af a b)=ap a*ap b:=by
 have h1:=QG.mpr ha;have h2:=QG.mpr hb;unfold ap;rw[bZ ha hb,aN];have e:a.length+b.length-1-1=(a.length-1)+(b.length-1):=by omega
 rw[e,sW (by omega) (by omega)]
theorem Pln.mul{a b:List Int}(ha:Pln a)(hb:Pln b):Pln (af a b):=by
 refine⟨nh ha.tr hb.tr,λz=>?_,E4 ha.prim hb.prim,by rw[tM ha.ne hb.ne];exact QC ha.pos hb.pos⟩;have h1:=QG.mpr ha.ne;have h2:=QG.mpr hb.ne;have:=bZ ha.ne hb.ne;rw[z]at this;simp at this
 omega
theorem yO{p q d:List Int}{c:Int}(hc:c≠0)(hp:Tr p)(hpn:p≠[])(hq:Tr q)(hd:Pln d)(h:∀n,c*cf p n=aC q d n):af (aA q) d=aA p:=by
 have hqn:q≠[]:=λz=>by have h1:=QG.mpr hpn;have h2:=h (p.length-1);rw[z,eV]at h2;exact QU hc (hp (p.length-1) (by omega)) h2
 obtain⟨g,hg,e⟩:=jW hq;have hm:=(fy hq hqn).mul hd;rw[<- hm.plain];refine E9 hg hc hm.tr hp λk=>?_
 rw[h,aN,eY (a:=aA q) (b:=[]) (x:=g) (y:=0) (c:=q) (λk=>by rw[e];simp),eV];simp
theorem Dv.trim{d p:List Int}(h:Dv d p):∃(c:Int) (q:List Int),c≠0/\Tr q/\∀n,c*cf p n=aC q d n:=by obtain⟨c,q,hc,e⟩:=h;exact⟨c,RM.trim q,hc,fX q,λn=>by rw[e];exact(ot (λk=>gN q k) λ_=>rfl).symm⟩
theorem Dv.fellow{d p:List Int}(hd:Pln d)(hp:Tr p)(hpn:p≠[])(h:Dv d p):∃q,Pln q/\af q d=aA p:=by
 obtain⟨c,q,hc,hq,e⟩:=h.trim
 have hqn:q≠[]:=λz=>by have h1:=QG.mpr hpn;have h2:=e (p.length-1);rw[z,eV]at h2;exact QU hc (hp (p.length-1) (by omega)) h2
 exact⟨aA q,fy hq hqn,yO hc hp hpn hq hd e⟩
theorem Pln.const{l:List Int}(h:Pln l)(h1:l.length=1):l=[1]:=by
 obtain⟨x,rfl⟩:∃x,l=[x]:=List.length_eq_one_iff.mp h1;have h2:=h.prim;rw[Ki]at h2;have h3:0<x:=h.pos;have:x=1:=by omega
 rw[this]
theorem one_mul(l:List Int)(h:Tr l):af [1] l=l:=by
 refine mE (nh (tr_snoc (r:=[]).mpr (by decide)) h) h λk=>?_
 rw[aN,f9];omega
theorem sD{a b:List Int}(ha:Pln a)(hb:Pln b)(h1:Dv a b)(h2:Dv b a):a=b:=by obtain⟨q,hq,e⟩:=h1.fellow ha hb.tr hb.ne;obtain⟨r,hr,e'⟩:=h2.fellow hb ha.tr ha.ne;rw[hb.plain]at e;rw[ha.plain]at e';have l1:=bZ hq.ne ha.ne;have l2:=bZ hr.ne hb.ne;rw[e]at l1;rw[e']at l2;have p1:=QG.mpr hq.ne;have p2:=QG.mpr hr.ne;have p3:=QG.mpr ha.ne;have hq1:=hq.const (by omega);rw[hq1,one_mul a ha.tr]at e;exact e
theorem Dv.short{d r:List Int}(hd:d≠[])(hdt:Tr d)(hr:Tr r)(hl:r.length<d.length)(h:Dv d r):r=[]:=by
 obtain⟨c,q,hc,e⟩:=h;have z:=zm hd hdt (d:=q) λn hn=>by rw[<- e,cE (by omega),QX]
 refine sT hr λk=>?_
 have h1:=e k;rw[sV z]at h1;exact(RX.mp h1).resolve_left hc
theorem Dv.rest{d p:List Int}(hd:d≠[])(hdt:Tr d)(h:Dv d p):aS p d=[] :=
 Dv.short hd hdt (ge _ _) (gM hd) (Dv.down (λn=>iC (a:=p) hd n) h (Dv.refl d))
theorem Dv.mul_right(a b:List Int):Dv b (af a b):=⟨1,a,by decide,λn=>by rw[aN];omega⟩
theorem Dv.mul_left(a b:List Int):Dv a (af a b):=⟨1,b,by decide,λn=>by rw[aN,gA];omega⟩
theorem ME{l1 l2 r1 r2 pl pc a1 a2 c1 c2 x1 x2:Int}(ha:0<a2)(hc:0<c2)(e1:a1*pc=pl*a2)(e2:c1*(r2*a2)=r1*a1*c2)(e3:x1*(l2*c2)=(l1*c2+c1*l2)*x2) :
 x1*(l2*r2*pc)=(l1*r2*pc+r1*l2*pl)*x2:=by
 have h0:c2*a2≠0:=Rf (QC hc ha);refine SD h0 ?_
 calc x1*(l2*r2*pc)*(c2*a2)=x1*(l2*c2)*(r2*pc*a2):=by grind
  _=(l1*c2+c1*l2)*x2*(r2*pc*a2):=by rw[e3]
  _=x2*(l1*c2*r2*pc*a2+l2*pc*(c1*(r2*a2))):=by grind
  _=x2*(l1*c2*r2*pc*a2+l2*pc*(r1*a1*c2)):=by rw[e2]
  _=x2*c2*(l1*r2*pc*a2+l2*r1*(a1*pc)):=by grind
  _=x2*c2*(l1*r2*pc*a2+l2*r1*(pl*a2)):=by rw[e1]
  _=(l1*r2*pc+r1*l2*pl)*x2*(c2*a2):=by grind
theorem LL{l r:Int}(hl:0<l)(hr:0<r){g:Nat}(hg:g=Nat.gcd l.natAbs r.natAbs):∃l' r':Int,0<l'/\0<r'/\(0:Int)<g/\l=g*l'/\r=g*r'/\l*r/g=l*r'/\l*r'/l=r'/\l*r'/r=l'/\0<l*r':=by
 have g0:0<g:=by rw[hg];exact Nat.gcd_pos_of_pos_left _ (by omega)
 have gi:(0:Int)<g:=by omega
 obtain⟨l',hl'⟩:(g:Int)∣l:=ST.mp (by rw[Q2,hg];exact R6 _ _);obtain⟨r',hr'⟩:(g:Int)∣r:=ST.mp (by rw[Q2,hg];exact Sl _ _);have l0:0<l':=S9 (a:=(g:Int)) (by rw[QX,<- hl'];exact hl) (QE gi);have r0:0<r':=S9 (a:=(g:Int)) (by rw[QX,<- hr'];exact hr) (QE gi);refine⟨l',r',l0,r0,gi,hl',hr',?_,?_,?_,QC hl r0⟩
 ·have e:l*r=(l*r')*g:=by
   calc l*r=l*(g*r'):=by rw[<- hr']
    _=(l*r')*g:=by grind
  rw[e];exact Int.mul_ediv_cancel _ (Rf gi)
 ·exact Int.mul_ediv_cancel_left _ (Rf hl)
 ·have e:l*r'=l'*r:=by
   calc l*r'=(g*l')*r':=by rw[<- hl']
    _=l'*(g*r'):=by grind
    _=l'*r:=by rw[<- hr']
  rw[e];exact Int.mul_ediv_cancel _ (Rf hr)
noncomputable def cP:List Int->List Int
 | []=>[]
 |v::l=>2^l.length*v::cP l
theorem np:∀l,(cP l).length=l.length
 | []=>rfl
 |v::l=>by show(cP l).length+1=_;rw[np l];rfl
theorem Aq(p q:Int):∀l,2*hv p q (cP l)=hv p (2*q) l
 | []=>by show 2*0=(0:Int);rfl
 |v::l=>by have ih:=Aq p q l;show 2*(2^l.length*v*q^((cP l).length+1)+p*hv p q (cP l))=v*(2*q)^(l.length+1)+p*hv p (2*q) l;rw[np,<- ih,Int.mul_pow,Q4 2];grind
noncomputable def suf:List Int->List Int
 | []=>[]
 |v::l=>(v+(suf l).headD 0)::suf l
theorem jK:∀l,(suf l).length=l.length
 | []=>rfl
 |v::l=>by show(suf l).length+1=_;rw[jK l];rfl
theorem wy(p q:Int):∀l,hv (p+q) q l=(suf l).headD 0*q^l.length+p*hv (p+q) q ((suf l).tail)
 | []=>by show(0:Int)=0*q^0+p*0;omega
 |v::l=>by
  have ih:=wy p q l;show v*q^(l.length+1)+(p+q)*hv (p+q) q l=(v+(suf l).headD 0)*q^(l.length+1)+p*hv (p+q) q (suf l);cases hs:suf l with
  |nil =>
   have hl:l=[]:=by have:=jK l;rw[hs]at this;exact Sf this.symm
   subst hl;show v*q^1+(p+q)*0=(v+0)*q^1+p*0;grind
  |cons g r =>
   rw[hs]at ih;have hl:r.length+1=l.length:=by have:=jK l;rw[hs]at this;exact this
   have ih':hv (p+q) q l=g*q^l.length+p*hv (p+q) q r:=ih;show v*q^(l.length+1)+(p+q)*hv (p+q) q l=(v+g)*q^(l.length+1)+p*(g*q^(r.length+1)+(p+q)*hv (p+q) q r);rw[ih',hl,Q4];grind
noncomputable def eo:Nat->List Int->List Int
 |0,m=>suf m
 |_+1,[]=>[]
 |i+1,c::m=>c::eo i m
theorem sH:∀(i:Nat) (m:List Int),(eo i m).length=m.length
 |0,m=>jK m
 |_+1,[]=>rfl
 |i+1,c::m=>by show(eo i m).length+1=_;rw[sH i m];rfl
noncomputable def ga(p q:Int):Nat->List Int->Int
 |0,m=>hv (p+q) q m
 |_+1,[]=>0
 |i+1,c::m=>c*q^(m.length+1)+p*ga p q i m
theorem zB(p q:Int):∀(i:Nat) (m:List Int),ga p q (i+1) (eo i m)=ga p q i m
 |0,m=>by
  show ga p q 1 (suf m)=hv (p+q) q m;rw[wy];cases hs:suf m with
  |nil =>show(0:Int)=0*q^m.length+p*hv (p+q) q [];rw[oJ];omega
  |cons g r =>
   have hl:r.length+1=m.length:=by have:=jK m;rw[hs]at this;exact this
   show g*q^(r.length+1)+p*hv (p+q) q r=g*q^m.length+p*hv (p+q) q r;rw[hl]
 |i+1,[]=>rfl
 |i+1,c::m=>by show c*q^((eo i m).length+1)+p*ga p q (i+1) (eo i m)=c*q^(m.length+1)+p*ga p q i m;rw[zB p q i m,sH]
theorem zD(p q:Int):∀(i:Nat) (m:List Int),m.length<=i+1->ga p q i m=hv p q m
 |0,[],_=>rfl
 |0,[c],_=>by show c*q^1+(p+q)*0=c*q^1+p*0;omega
 |0,_::_::_,h=>absurd h (by simp)
 |_+1,[],_=>rfl
 |i+1,c::m,h=>by show c*q^(m.length+1)+p*ga p q i m=c*q^(m.length+1)+p*hv p q m;rw[zD p q i m (by simpa using h)]
noncomputable def fH:Nat->List Int->List Int
 |0,l=>l
 |i+1,l=>eo i (fH i l)
theorem ou:∀(i:Nat) (l:List Int),(fH i l).length=l.length
 |0,_=>rfl
 |i+1,l=>by show(eo i (fH i l)).length=_;rw[sH,ou i l]
theorem zC(p q:Int):∀(i:Nat) (l:List Int),ga p q i (fH i l)=hv (p+q) q l
 |0,_=>rfl
 |i+1,l=>by show ga p q (i+1) (eo i (fH i l))=_;rw[zB,zC p q i l]
noncomputable def lV(l:List Int):List Int:=fH (l.length-1) l
theorem zy(l:List Int):(lV l).length=l.length:=ou _ _
theorem J4(p q:Int)(l:List Int):hv p q (lV l)=hv (p+q) q l:=by rw[<- zC p q (l.length-1) l];exact(zD p q (l.length-1) _ (by rw[zy];omega)).symm
theorem Ao:∀l:List Int,hv 1 1 l=l.sum
 | []=>rfl
 |v::l=>by show v*1^(l.length+1)+1*hv 1 1 l=v+l.sum;rw[Ao l,Int.one_pow];omega
noncomputable def cq(m s0 s1:Int):List Int->List Int
 | []=>[]
 |v::l=>mb (-s0) s1 (v*m^l.length) (cq m s0 s1 l)
theorem jL(m s0 s1:Int):∀l,(cq m s0 s1 l).length=l.length
 | []=>rfl
 |v::l=>by show(mb _ _ _ _).length=_;rw[ox,jL m s0 s1 l];rfl
theorem Ap(m s0 s1 p q:Int):∀l,m*hv p q (cq m s0 s1 l)=hv (s0*q+s1*p) (m*q) l
 | []=>by show m*0=(0:Int);omega
 |v::l=>by have ih:=Ap m s0 s1 p q l;show m*hv p q (mb (-s0) s1 (v*m^l.length) (cq m s0 s1 l))=v*(m*q)^(l.length+1)+(s0*q+s1*p)*hv (s0*q+s1*p) (m*q) l;rw[As,jL,<- ih,Int.mul_pow,Q4 m];grind
theorem wA(m s0 s1:Int):∀l,cf (cq m s0 s1 l) (l.length-1)=cf l (l.length-1)*s1^(l.length-1)
 | []=>by show(0:Int)=0*_;omega
 | [v]=>by show cf (mb (-s0) s1 (v*m^0) []) 0=v*s1^0;rw[jr,if_pos rfl,cK,RG,RG];omega
 |v::u::l=>by have ih:=wA m s0 s1 (u::l);show cf (mb (-s0) s1 _ (cq m s0 s1 (u::l))) (l.length+1)=cf (u::l) l.length*s1^(l.length+1);rw[jr,if_neg (by omega)];have e1:cf (cq m s0 s1 (u::l)) (l.length+1)=0:=cE (by rw[jL];exact QD _);have e2:cf (cq m s0 s1 (u::l)) (l.length+1-1)=cf (u::l) l.length*s1^l.length:=ih;rw[e1,e2,Q4];grind
theorem eN{x p:Int}(hp:0<p):sg (p*x)=sg x:=by rw[QT];exact qe hp
noncomputable def sgq(u v d:Int):Int :=
 if 0<=u/\0<=v then(if 0<u\/0<v then 1 else 0)
 else if u<=0/\v<=0 then -1
 else if 0<u then(if u*u<d*v*v then -1 else 1)
 else(if u*u>d*v*v then -1 else 1)
def NSq(d:Int):Prop:=0<d/\∀a b:Int,b≠0->a*a≠d*b*b
theorem He(n d:Nat)(h1:n*n<d)(h2:d<(n+1)*(n+1)):∀b a:Nat,0<b->a*a≠d*(b*b):=by
 intro b
 induction b using Nat.strongRecOn with
 |ind b ih =>
  intro a hb e
  have l1:n*b<a:=by
   refine Classical.byContradiction λz=>?_
   have z':a<=n*b:=by omega
   have h3:=RD z' z';have h4:n*n*(b*b)<d*(b*b):=Nat.mul_lt_mul_of_pos_right h1 (Nat.mul_pos hb hb);have e2:n*b*(n*b)=n*n*(b*b):=by grind
   omega
  have l2:a<(n+1)*b:=by
   refine Classical.byContradiction λz=>?_
   have z':(n+1)*b<=a:=by omega
   have h3:=RD z' z';have h4:d*(b*b)<(n+1)*(n+1)*(b*b):=Nat.mul_lt_mul_of_pos_right h2 (Nat.mul_pos hb hb);have e2:(n+1)*b*((n+1)*b)=(n+1)*(n+1)*(b*b):=by grind
   omega
  have e3:(n+1)*b=n*b+b:=by grind
  obtain⟨c,hc⟩:∃c,a=n*b+c:=⟨a-n*b,by omega⟩;have hc0:0<c:=by omega
  have hcb:c<b:=by omega
  have l3:n*a<=d*b:=by
   have h5:n*a*a<=d*b*a:=by
    have h6:n*(a*a)=n*(d*(b*b)):=by rw[e]
    have h7:n*b*(d*b)<=a*(d*b):=Ro _ (Sj l1);have e4:n*a*a=n*(a*a):=by grind
    have e5:n*(d*(b*b))=n*b*(d*b):=by grind
    have e6:d*b*a=a*(d*b):=by grind
    omega
   exact Ta h5 (by omega)
  obtain⟨f,hf⟩:∃f,d*b=n*a+f:=⟨d*b-n*a,by omega⟩;refine ih c hcb f hc0 ?_
  have e7:(f:Int)=(d:Int)*b-n*a:=by have:=congrArg (λz:Nat=>(z:Int)) hf;simp only[Int.natCast_add,Rx]at this;omega
  have e8:(c:Int)=(a:Int)-n*b:=by have:=congrArg (λz:Nat=>(z:Int)) hc;simp only[Int.natCast_add,Rx]at this;omega
  have e9:(a:Int)*a=d*(b*b):=by have:=congrArg (λz:Nat=>(z:Int)) e;simp only[Rx]at this;exact this
  have e10:(f:Int)*f=d*(c*c):=by
   rw[e7,e8];have:((d:Int)*b-n*a)*(d*b-n*a)-d*((a-n*b)*(a-n*b))=(d*(b*b)-a*a)*(d-n*n):=by grind
   rw[e9,Int.sub_self,Q3]at this;omega
  have e11:((f*f:Nat):Int)=((d*(c*c):Nat):Int):=by simp only[Rx];exact e10
  exact Int.ofNat.inj e11
theorem ip{n d:Nat}(h1:n*n<d)(h2:d<(n+1)*(n+1)):NSq d:=by
 refine⟨by omega,λa b hb e=>?_⟩;refine He n d h1 h2 b.natAbs a.natAbs (by omega) ?_;have e1:((a.natAbs*a.natAbs:Nat):Int)=a*a:=Int.natAbs_mul_self;have e2:((b.natAbs*b.natAbs:Nat):Int)=b*b:=Int.natAbs_mul_self
 have:((a.natAbs*a.natAbs:Nat):Int)=((d*(b.natAbs*b.natAbs):Nat):Int):=by rw[Rx (d) _,e1,e2,e,Rc]
 exact Int.ofNat.inj this
theorem DB(u v d:Int):sgq u v d=1\/sgq u v d=0\/sgq u v d = -1:=by
 unfold sgq;split
 ·split
  ·exact .inl rfl
  ·exact .inr (.inl rfl)
 ·split
  ·exact .inr (.inr rfl)
  ·split<;>split<;>simp
theorem hJ{u v d:Int}(hu:0<=u)(hv:0<=v)(h:0<u\/0<v):sgq u v d=1:=by unfold sgq;rw[if_pos ⟨hu,hv⟩,if_pos h]
theorem iU{u v d:Int}(hu:u<=0)(hv:v<=0)(h:u<0\/v<0):sgq u v d = -1:=by unfold sgq;rw[if_neg (by omega),if_pos ⟨hu,hv⟩]
theorem nM{u v d:Int}(hu:0<u)(hv:v<0):sgq u v d=if u*u<d*v*v then -1 else 1:=by unfold sgq;rw[if_neg (by omega),if_neg (by omega),if_pos hu]
theorem nN{u v d:Int}(hu:u<0)(hv:0<v):sgq u v d=if u*u>d*v*v then -1 else 1:=by unfold sgq;rw[if_neg (by omega),if_neg (by omega),if_neg (by omega)]
theorem nQ(d:Int):sgq 0 0 d=0:=rfl
theorem IO(u v:Int):(u=0/\v=0)\/(0<=u/\0<=v/\(0<u\/0<v))\/(u<=0/\v<=0/\(u<0\/v<0))\/(0<u/\v<0)\/(u<0/\0<v):=by omega
theorem x8{g u v d:Int}(hg:0<g):sgq (g*u) (g*v) d=sgq u v d:=by
 have hp:∀x:Int,0<x->0<g*x:=λx h=>QC hg h
 have hn:∀x:Int,x<0->g*x<0:=λx h=>SU hg h
 have hz:∀x:Int,0<=x->0<=g*x:=λx h=>Q8 (QE hg) h
 have hy:∀x:Int,x<=0->g*x<=0:=λx h=>Int.mul_nonpos_of_nonneg_of_nonpos (QE hg) h
 have gg:0<g*g:=QC hg hg;have e1:g*u*(g*u)=u*u*(g*g):=by grind
 have e2:d*(g*v)*(g*v)=d*v*v*(g*g):=by grind
 rcases IO u v with⟨rfl,rfl⟩ |⟨a,b,c⟩ |⟨a,b,c⟩ |⟨a,b⟩ |⟨a,b⟩
 ·rw[QX]
 ·rw[hJ a b c,hJ (hz _ a) (hz _ b) (c.elim (λz=>.inl (hp _ z)) (λz=>.inr (hp _ z)))]
 ·rw[iU a b c,iU (hy _ a) (hy _ b) (c.elim (λz=>.inl (hn _ z)) (λz=>.inr (hn _ z)))]
 ·rw[nM a b,nM (hp _ a) (hn _ b),e1,e2];by_cases z:u*u<d*v*v
  ·rw[if_pos z,if_pos (Rj z gg)]
  ·rw[if_neg z,if_neg (λy=>z (R7 y (QE gg)))]
 ·rw[nN a b,nN (hn _ a) (hp _ b),e1,e2];by_cases z:u*u>d*v*v
  ·rw[if_pos z,if_pos (Rj z gg)]
  ·rw[if_neg z,if_neg (λy=>z (R7 y (QE gg)))]
theorem Hk{t h v:Int}{T X V:Nat}(ht:t.natAbs=T)(hh:X<=h.natAbs)(hv:v.natAbs<=V):T*X<=(v+t*h).natAbs+V:=by subst ht;have e1:t.natAbs*h.natAbs=(t*h).natAbs:=(QR t h).symm;have e2:t.natAbs*X<=t.natAbs*h.natAbs:=RP _ hh;have e3:=So (v+t*h) v;rw[Int.add_comm v,Int.add_sub_cancel,Int.add_comm _ v]at e3;rw[e1]at e2;exact QL e2 (QL e3 (Nat.add_le_add_left hv _))
theorem BG{B n:Nat}{t:Int}(hn:0<n)(hB:1<=B)(ht:B*n<=t.natAbs)(z:Int):∀os:List Int,(∀x∈os,x.natAbs<=(B-1)*z.natAbs)->z.natAbs*n^(os.length+1)<=(hv t n (os++[z])).natAbs
 | [],_=>by show z.natAbs*n^1<=(z*(n:Int)^1+t*0).natAbs;rw[QX,Rk,QR,SE,Q2];exact QD _
 |v::os,h=>by
  have ih:=BG hn hB ht z os (λx hx=>h x (QJ _ hx));have hvv:=h v (QN ..);rw[SV,d6]
  have e1:(v*(n:Int)^((os++[z]).length+1)).natAbs<=(B-1)*z.natAbs*n^(os.length+2):=by
   rw[QR,SE,Q2];have:(os++[z]).length+1=os.length+2:=by simp
   rw[this];exact Ro _ hvv
  have e2:=Hk (t:=t) rfl ih e1;have e3:B*n*(z.natAbs*n^(os.length+1))<=t.natAbs*(z.natAbs*n^(os.length+1)):=Ro _ ht;have e4:(v::os).length+1=os.length+2:=by simp
  rw[e4];have e5:n^(os.length+2)=n*n^(os.length+1):=by rw[Rz,RJ]
  rw[e5]at e2 ⊢;generalize n^(os.length+1)=p at *
  generalize (v*(n:Int)^((os++[z]).length+1)+t*hv t n (os++[z])).natAbs=W at *
  obtain⟨C,rfl⟩:∃C,B=C+1:=⟨B-1,by omega⟩
  have e6:(C+1)*n*(z.natAbs*p)=C*z.natAbs*(n*p)+z.natAbs*(n*p):=by grind
  have e7:C+1-1=C:=rfl;rw[e7]at e2;omega
theorem ub{t n x y:Int}:∀(a b c:List Int),a.length=c.length->b.length=c.length->(∀k,cf c k=x*cf a k+y*cf b k)->hv t n c=x*hv t n a+y*hv t n b
 | [],[],[],_,_,_=>by simp[oJ]
 |u::a,v::b,w::c,ha,hb,h=>by
  have h0:w=x*u+y*v:=h 0;have ih:=ub (t:=t) (n:=n) (x:=x) (y:=y) a b c (by simpa using ha) (by simpa using hb) (λk=>h (k+1));have la:a.length=c.length:=by simpa using ha
  have lb:b.length=c.length:=by simpa using hb
  rw[d6,d6,d6,ih,h0,la,lb];generalize n^(c.length+1)=p;grind
 | [],_::_,[],_,h,_=>by simp at h
 |_::_,_,[],h,_,_=>by simp at h
 | [],_,_::_,h,_,_=>by simp at h
 |_::_,[],_::_,_,h,_=>by simp at h
theorem Ar(t n g:Int)(l:List Int):hv t n (scL g l)=g*hv t n l:=by have:=ub (t:=t) (n:=n) (x:=g) (y:=0) l l (scL g l) (by rw[cv]) (by rw[cv]) (λk=>by rw[bU];simp);rw[this];simp
theorem An(t n:Int):∀(k:Nat) (l:List Int),hv t n (l++List.replicate k 0)=n^k*hv t n l
 |k,[]=>by
  rw[List.nil_append,oJ,QX]
  induction k with
  |zero=>rfl
  |succ k ih=>rw[R3,d6,ih];simp
 |k,v::l=>by
  rw[SV,d6,An t n k l,d6];have:(l++List.replicate k (0:Int)).length+1=l.length+1+k:=by simp;omega
  rw[this,Int.pow_add];generalize n^(l.length+1)=p;generalize n^k=q;grind
theorem LC(l:List Int)(k j:Nat):cf (l++List.replicate k 0) j=cf l j:=by
 by_cases h:j<l.length
 ·rw[BE h]
 ·rw[mL (by omega),mK,cE (by omega)]
theorem oK(t n:Int){b:List Int}(hb:b≠[]):∀{a:List Int},a≠[]->n*hv t n (af a b)=hv t n a*hv t n b
 | [x],_=>by
  have e:af [x] b=scL x b:=by
   apply d8
   ·rw[bZ (by simp) hb,cv];simp
   ·intro k _;rw[aN,f9,bU]
  rw[e,Ar,mr];grind
 |x::y::a,_=>by
  have ih:=oK t n hb (a:=y::a) (by simp);have lm:(af (x::y::a) b).length=(y::a).length+b.length:=by rw[bZ (by simp) hb,Rb];omega
  have lm2:(af (y::a) b).length+1=(y::a).length+b.length:=by rw[bZ (by simp) hb];have:=QG.mpr hb;rw[Rb];omega
  have e:=ub (t:=t) (n:=n) (x:=x) (y:=1) (b++List.replicate (y::a).length 0) (0::af (y::a) b) (af (x::y::a) b) (by rw[lm,QO,SO];omega) (by rw[lm,Rb,lm2])
   (λk=>by rw[aN,eD,LC,o3];rw[QZ];congr 1;unfold up;split<;>first |rfl |rw[aN])
  rw[e,An,d6 (v:=0),d6 (v:=x)];have:n*(x*(n^(y::a).length*hv t n b)+1*(0*n^((af (y::a) b).length+1)+t*hv t n (af (y::a) b)))=x*(n^(y::a).length*n)*hv t n b+t*(n*hv t n (af (y::a) b)):=by grind
  rw[this,ih,<- Q4];grind
noncomputable def pr(t n:Int):List (List Int)->Int
 | []=>1
 |s::ss=>hv t n s*pr t n ss
noncomputable def sl:List (List Int)->Nat
 | []=>0
 |s::ss=>s.length+sl ss
theorem j7{a b:List Int}(ha:a≠[])(hb:b≠[]):af a b≠[]:=λz=>by have:=bZ ha hb;rw[z]at this;have h1:=QG.mpr ha;have h2:=QG.mpr hb;rw[List.length_nil]at this;omega
noncomputable def aT(acc:List Int)(ss:List (List Int)):List Int:=ss.foldl af acc
theorem jU:∀(ss:List (List Int)) (acc:List Int),acc≠[]->Tr acc->(∀s∈ss,s≠[]/\Tr s)->aT acc ss≠[]/\Tr (aT acc ss)/\(aT acc ss).length+ss.length=acc.length+sl ss
 | [],acc,h1,h2,_=>⟨h1,h2,by simp[aT,sl]⟩
 |s::ss,acc,h1,h2,h3=>by have hs:=h3 s (QN ..);obtain⟨a,b,c⟩:=jU ss (af acc s) (j7 h1 hs.1) (nh h2 hs.2) (λx hx=>h3 x (QJ _ hx));refine⟨a,b,?_⟩;have l:=bZ h1 hs.1;have p1:=QG.mpr h1;have p2:=QG.mpr hs.1;show(aT (af acc s) ss).length+(ss.length+1)=acc.length+(s.length+sl ss);omega
theorem oI(t n:Int):∀(ss:List (List Int)) (acc:List Int),acc≠[]->(∀s∈ss,s≠[])->n^ss.length*hv t n (aT acc ss)=hv t n acc*pr t n ss
 | [],acc,_,_=>by show n^0*hv t n acc=hv t n acc*1;simp
 |s::ss,acc,h1,h3=>by have hs:=h3 s (QN ..);have ih:=oI t n ss (af acc s) (j7 h1 hs) (λx hx=>h3 x (QJ _ hx));have e:=oK t n hs h1;show n^(ss.length+1)*hv t n (aT (af acc s) ss)=hv t n acc*(hv t n s*pr t n ss);rw[Q4,QT _ n,Rc,ih,<- Rc,e,Rc]
theorem KH{c:Int}{ss:List (List Int)}{B n:Nat}{t:Int}(hc:c≠0)(hs:∀s∈ss,s≠[]/\Tr s)(hB:1<=B)
 (hb:∀x∈(af [c] (aT [1] ss)).take ((af [c] (aT [1] ss)).length-1),x.natAbs<=(B-1)*(ap (af [c] (aT [1] ss))).natAbs) (hn:0<n) (ht:B*n<=t.natAbs):n^sl ss<=(pr t n ss).natAbs:=by
 obtain⟨p1,p2,p3⟩:=jU ss [1] (by simp) (by intro k hk;have:k=0:=by simpa using hk.symm
                                           subst this;decide) hs
 have hm:=oI t n ss [1] (by simp) (λs h=>(hs s h).1);generalize aT [1] ss=Pr at *
 have hne:af [c] Pr≠[]:=j7 (by simp) p1;have hl:=tM (a:=[c]) (b:=Pr) (by simp) p1;have hlen:=bZ (a:=[c]) (b:=Pr) (by simp) p1;have hv1:=oK t n p1 (a:=[c]) (by simp);obtain⟨os,z,e⟩:=(db (af [c] Pr)).resolve_left hne;rw[e]at hb hl hv1 hlen;rw[dJ]at hb hl;have ht2:(os++[z]).take ((os++[z]).length-1)=os:=by simp
 rw[ht2]at hb;have hcau:=BG hn hB ht z os hb;have hlp:ap Pr≠0:=zT p2 p1;have hz:z=c*ap Pr:=hl;rw[mr]at hv1;have hn0:(n:Int)≠0:=by omega
 have e2:hv t n (os++[z])=c*hv t n Pr:=by refine Tb hn0 ?_;rw[hv1];grind
 rw[e2,hz,QR,QR,Nat.mul_assoc]at hcau;have hc1:0<c.natAbs:=Se.mpr hc;have h4:=Tc hcau hc1;have h5:1*n^(os.length+1)<=(ap Pr).natAbs*n^(os.length+1):=Ro _ (Se.mpr hlp);have h6:os.length+1=Pr.length:=by simp at hlen;omega
 rw[h6]at h4 h5;have h7:n^Pr.length<=(hv t n Pr).natAbs:=by omega
 have h8:(n^ss.length*n^Pr.length)<=n*(pr t n ss).natAbs:=by
  have h9:=RP (n^ss.length) h7
  have h10:n^ss.length*(hv t n Pr).natAbs=n*(pr t n ss).natAbs:=by have:=congrArg Int.natAbs hm;rw[QR,SE,Q2,mr,QZ,QR,Q2]at this;exact this
  omega
 rw[<- Nat.pow_add]at h8;have h11:ss.length+Pr.length=sl ss+1:=by simp at p3;omega
 rw[h11,Rz,RJ]at h8;exact Tc h8 hn
theorem nk{r:List Int}(h:Tr r):cU [] r=scL (-1) r:=by
 refine mE (fX _) (kI (by decide) h) λk=>?_
 unfold cU;rw[gN,iG,bU,cK];omega
theorem Li{a b:List Int}(hb:b≠[])(hbt:Tr b):0<cw a b:=by
 have h:=mG (a:=a) hb hbt
 have h2:0<=cw a b:=by
  unfold cw;generalize bJ a b=n
  induction n with
  |zero=>rw[RG];decide
  |succ n ih=>rw[Q4];exact Q8 ih (S2 _)
 omega
theorem yl{n:Nat}{one:List Int}(h:one≠[])(hn:0<n):bV n one []=[one]:=by obtain⟨m,rfl⟩:∃m,n=m+1:=⟨n-1,by omega⟩;show(if one=[]then[]else one::bV m [] (nxt one []))=_;rw[if_neg h,lg]
noncomputable def Ends:Nat->List Int->List Int->Prop
 |0,one,_=>one=[]
 |n+1,one,other=>one=[]\/Ends n other (nxt one other)
noncomputable def gr(B:Nat):Nat->Nat
 |0=>B
 |1=>2*B
 |k+2=>2*gr B (k+1)+gr B k
theorem Kc(B:Nat):∀k,gr B k<=gr B (k+1)
 |0=>by show B<=2*B;omega
 |k+1=>by show gr B (k+1)<=2*gr B (k+1)+gr B k;omega
theorem gd(B:Nat){j k:Nat}(h:j<=k):gr B j<=gr B k:=by
 induction h with
 |refl=>exact QD _
 |step _ ih=>exact QL ih (Kc B _)
theorem uc(B j:Nat):∀d,gr B j+(d+2)*gr B (j+1)<=gr B (j+2+d)
 |0=>by show gr B j+2*gr B (j+1)<=2*gr B (j+1)+gr B j;omega
 |d+1=>by
  have ih:=uc B j d
  have e:gr B (j+2+(d+1))=2*gr B (j+2+d)+gr B (j+1+d):=by
   have:j+2+(d+1)=(j+1+d)+2:=by omega
   rw[this];show 2*gr B (j+1+d+1)+gr B (j+1+d)=_;have e2:j+1+d+1=j+2+d:=by omega
   rw[e2]
  have hm:gr B (j+1)<=gr B (j+1+d):=gd B (by omega);rw[e,Nat.add_mul]at *;have e3:(d+1)*gr B (j+1)=d*gr B (j+1)+gr B (j+1):=by rw[Nat.add_mul,Nat.one_mul]
  omega
theorem gB(a:List Int):af [] a=[]:=by unfold af;rw[if_pos (.inl rfl)]
theorem ir(a:List Int):af a []=[]:=by unfold af;rw[if_pos (.inr rfl)]
theorem lQ(a b:List Int):af a b=af b a:=by
 by_cases ha:a=[]
 ·rw[ha,gB,ir]
 by_cases hb:b=[]
 ·rw[hb,gB,ir]
 refine d8 ?_ λk _=>?_
 ·rw[bZ ha hb,bZ hb ha];omega
 ·rw[aN,aN,gA]
theorem j6{a b:List Int}(ha:a≠[])(hb:b≠[]):af a b≠[]:=λz=>by have:=bZ ha hb;rw[z,List.length_nil]at this;have:=QG.mpr ha;have:=QG.mpr hb;omega
theorem iu(a b c:List Int):af (af a b) c=af a (af b c):=by
 by_cases ha:a=[]
 ·rw[ha,gB,gB,gB]
 by_cases hb:b=[]
 ·rw[hb,gB,ir,gB]
 by_cases hc:c=[]
 ·rw[hc,ir,ir,ir]
 have h1:=j6 ha hb;have h2:=j6 hb hc;refine d8 ?_ λk _=>?_
 ·have:=QG.mpr hb;rw[bZ h1 hc,bZ ha h2,bZ ha hb,bZ hb hc];obtain⟨y,ey⟩:=Nat.exists_eq_succ_of_ne_zero (Nat.ne_of_gt this);rw[ey,Nat.succ_add,Nat.add_succ,Nat.succ_sub_one,Nat.succ_sub_one,Nat.add_assoc]
 ·rw[aN,aN,j5]
instance:Std.Commutative af:=⟨lQ⟩
instance:Std.Associative af:=⟨iu⟩
theorem lT(a:List Int):af [1] a=a:=by
 by_cases ha:a=[]
 ·rw[ha,ir]
 refine d8 ?_ λk _=>?_
 ·rw[bZ (by simp) ha];simp
 ·rw[aN,f9];omega
theorem c9(a:List Int):af a [1]=a:=by rw[lQ,lT]
theorem pln_one:Pln [1]:=⟨tr_snoc (r:=[]).mpr (by decide),by simp,by decide,by decide⟩
theorem yN{a:List Int}(h:Pln a):1<=a.length:=QG.mpr h.ne
def Sim(a b:List Int):Prop:=∃x y:Int,x≠0/\y≠0/\∀n,x*cf a n=y*cf b n
theorem Sim.refl(a:List Int):Sim a a:=⟨1,1,by decide,by decide,λ_=>rfl⟩
theorem Sim.dv{a b d:List Int}(h:Sim a b)(hd:Dv d b):Dv d a:=by obtain⟨x,y,hx,hy,e⟩:=h;exact Dv.prop_right hx e hd
theorem Sim.symm{a b:List Int}(h:Sim a b):Sim b a:=by obtain⟨x,y,hx,hy,e⟩:=h;exact⟨y,x,hy,hx,λn=>(e n).symm⟩
theorem Dv.cancel{d a b:List Int}(hd:d≠[])(ht:Tr d)(h:Dv (af d a) (af d b)):Dv a b:=by
 obtain⟨c,q,hc,e⟩:=h
 have key:∀k,cf (eI (-1) (scL c b) (af q a)) k=0:=by
  refine zm hd ht λn _=>?_
  rw[eY (a:=b) (b:=af q a) (x:=c) (y := -1) (λk=>by rw[iG,bU])]
  have e1:aC (af q a) d n=aC q (af d a) n:=by
   rw[<- aN,<- aN]
   congr 1
   rw[iu,lQ a d]
  have e2:=e n;rw[aN,gA]at e2;rw[e1,<- e2];omega
 refine⟨c,q,hc,λn=>?_⟩;have:=key n;rw[iG,bU,aN]at this;omega
theorem E8{d a b:List Int}(hd:Pln d)(ha:Pln a)(hb:Pln b)(h:af d a=af d b):a=b :=
 sD ha hb (Dv.cancel hd.ne hd.tr (h ▸ Dv.refl _)) (Dv.cancel hd.ne hd.tr (h ▸ Dv.refl _))
noncomputable def prd(ss:List (List Int)):List Int:=ss.foldr af [1]
theorem AF:∀(ss:List (List Int)) (acc:List Int),ss.foldl af acc=af acc (prd ss)
 | [],acc=>(c9 acc).symm
 |s::ss,acc=>by show ss.foldl af (af acc s)=af acc (af s (prd ss));rw[AF ss,iu]
theorem iX:∀(ss:List (List Int)),(∀s∈ss,Pln s)->Pln (prd ss)
 | [],_=>pln_one
 |s::ss,h=>(h s (QN ..)).mul (iX ss λx hx=>h x (QJ _ hx))
structure Pri(s:List Int):Prop where
 pln:Pln s
 two:2<=s.length
 or:∀a b,Dv s (af a b)->Dv s a\/Dv s b
theorem Pri.not_one{s:List Int}(h:Pri s):¬Dv s [1]:=λz=>by have:=Dv.short h.pln.ne h.pln.tr pln_one.tr (by have:=h.two;show 1<s.length;omega) z;exact absurd this (by simp)
theorem Pri.prd{s:List Int}(h:Pri s):∀ss:List (List Int),Dv s (prd ss)->∃t∈ss,Dv s t
 | [],hd=>absurd hd h.not_one
 |t::ss,hd=>by
  rcases h.or t (RM.prd ss) hd with z |z
  ·exact⟨t,QN ..,z⟩
  ·obtain⟨t',ht,z'⟩:=Pri.prd h ss z;exact⟨t',QJ _ ht,z'⟩
theorem Pri.same{s t:List Int}(hs:Pri s)(ht:Pri t)(h:Dv s t):s=t:=by
 obtain⟨q,hq,e⟩:=h.fellow hs.pln ht.pln.tr ht.pln.ne;rw[ht.pln.plain]at e;have l:=bZ hq.ne hs.pln.ne;rw[e]at l;have:=hs.two;have:=yN hq;rcases ht.or q s (e ▸ Dv.refl _)with z |z
 ·exact absurd (Dv.short ht.pln.ne ht.pln.tr hq.tr (by omega) z) hq.ne
 ·exact sD hs.pln ht.pln h z
theorem oY:∀(ps:List (List Int)) {E:List Int},(∀p∈ps,Pri p)->Pln E->Dv E (prd ps)->E=[1]\/∃p∈ps,Dv p E
 | [],E,_,hE,h=>by
  refine .inl (hE.const ?_);have:=yN hE;refine Classical.byContradiction λz=>?_
  have:=Dv.short hE.ne hE.tr pln_one.tr (by show 1<E.length;omega) h;exact absurd this (by simp)
 |p::ps,E,hp,hE,h=>by
  obtain⟨c,q,hc,e⟩:=h;have P:=hp p (QN ..)
  have d1:Dv p (af q E):=Dv.prop_right (x:=1) (y:=c) (by decide) (λn=>by
   show 1*cf (af q E) n=c*cf (RM.prd (p::ps)) n
   rw[e,aN];omega) (Dv.mul_left p (prd ps))
  rcases P.or q E d1 with z |z
  ·obtain⟨c',q',hc',e'⟩:=z
   have d2:Dv (af p E) (af p (prd ps)):=by
    refine⟨c*c',q',QU hc hc',λn=>?_⟩;have e1:=e n;rw[show af p (prd ps)=RM.prd (p::ps)from rfl]
    have e2:aC (af q' p) E n=c'*aC q E n:=by have:=eY (a:=q) (b:=[]) (x:=c') (y:=0) (c:=af q' p) (q:=E) (n:=n) (λk=>by rw[aN,<- e'];simp);rw[this];simp
    rw[<- j5,e2,<- e1,QT c c',Rc]
   rcases oY ps (λx hx=>hp x (QJ _ hx)) hE (Dv.cancel P.pln.ne P.pln.tr d2)with w |⟨t,ht,w⟩
   ·exact .inl w
   ·exact .inr ⟨t,QJ _ ht,w⟩
  ·exact .inr ⟨p,QN ..,z⟩
theorem Lu{A B C D L M:List Int}{ps:List (List Int)}(hC:Pln C)(cA:Dv C A)(cB:Dv C B)(call:∀d,Dv d A->Dv d B->Dv d C)(hD:Pln D)(sA:Sim A (af D L))(sB:Sim B (af D M))(hps:∀p∈ps,Pri p)(hL:L=prd ps)(hM:∀p∈ps,¬Dv p M):C=D:=by
 have dC:Dv D C:=call D (sA.dv (Dv.mul_left _ _)) (sB.dv (Dv.mul_left _ _));obtain⟨E,hE,e⟩:=dC.fellow hD hC.tr hC.ne;rw[hC.plain,lQ]at e;have EL:Dv E L:=Dv.cancel hD.ne hD.tr (by rw[e];exact sA.symm.dv cA);have EM:Dv E M:=Dv.cancel hD.ne hD.tr (by rw[e];exact sB.symm.dv cB);rw[hL]at EL;rcases oY ps hps hE EL with z |⟨p,hp,z⟩
 ·rw[<- e,z,c9]
 ·exact absurd (z.trans EM) (hM p hp)
theorem yR{A D L:List Int}(hA:Tr A)(hAn:A≠[])(hD:Pln D)(hL:Pln L)(e:aA A=af D L):aS A D=[]/\aA (cu A D)=L:=by
 have dv:Dv D A:=(Dv.plain hA).mp (by rw[e];exact Dv.mul_left _ _);have hr:=dv.rest hD.ne hD.tr;refine⟨hr,?_⟩;have eq:=λn=>iC (a:=A) hD.ne n
 have m:=yO (mG (a:=A) hD.ne hD.tr) hA hAn (uH hD.ne hA hD.tr) hD (λn=>by rw[eq n,hr,cK];omega)
 have hq:cu A D≠[]:=λz=>by rw[z]at m;have:aA []=[]:=rfl;rw[this,gB,e]at m;exact j6 hD.ne hL.ne m.symm
 have pq:=fy (uH hD.ne hA hD.tr) hq;refine E8 hD pq hL ?_;rw[lQ,m,e]
theorem fh(l:List Int)(n:Nat):cf (slopeL l) n=((n:Int)+1)*cf l (n+1):=by
 unfold slopeL;rw[km];by_cases h:n<l.length-1
 ·rw[if_pos h]
 ·rw[if_neg h,cE (l:=l) (by omega),QX]
theorem xV(x:Int)(a:List Int)(n:Nat):cf (slopeL (x::a)) n=1*cf a n+1*cf (0::slopeL a) n:=by
 rw[fh,o2,o3];cases n with
 |zero=>show(((0:Nat):Int)+1)*cf a 0=1*cf a 0+1*0;omega
 |succ n =>
  show(((n+1:Nat):Int)+1)*cf a (n+1)=1*cf a (n+1)+1*cf (slopeL a) n;rw[fh];have:((n+1:Nat):Int)=(n:Int)+1:=by omega
  rw[this,Int.add_mul];omega
theorem pV:∀(a b:List Int) (n:Nat),cf (slopeL (af a b)) n=aC (slopeL a) b n+aC a (slopeL b) n
 | [],b,n=>by rw[gB];show cf (slopeL []) n=aC (slopeL []) b n+aC [] (slopeL b) n;have:slopeL []=[]:=rfl;rw[this,cK,eV,eV];omega
 |x::a,b,n=>by
  rw[fh,aN,eD,eY (q:=b) (xV x a),zn,eD,fh];show((n:Int)+1)*(x*cf b (n+1)+aC a b n)=_;cases n with
  |zero =>show(((0:Nat):Int)+1)*(x*cf b 1+aC a b 0)=1*aC a b 0+1*0+(x*((((0:Nat):Int)+1)*cf b 1)+0);simp;omega
  |succ n =>
   have ih:=pV a b n;rw[fh,aN]at ih;show(((n+1:Nat):Int)+1)*(x*cf b (n+1+1)+aC a b (n+1))=1*aC a b (n+1)+1*aC (slopeL a) b n+(x*((((n+1:Nat):Int)+1)*cf b (n+1+1))+aC a (slopeL b) n);have:((n+1:Nat):Int)=(n:Int)+1:=by omega
   rw[this];generalize aC a b (n+1)=z at *
   generalize aC (slopeL a) b n=z1 at *
   generalize aC a (slopeL b) n=z2 at *
   generalize cf b (n+1+1)=z3 at *
   generalize (n:Int)=m at *
   grind
noncomputable def pw(s:List Int):Nat->List Int
 |0=>[1]
 |n+1=>af s (pw s n)
theorem gu(s:List Int):pw s 1=s:=c9 s
theorem yG(s:List Int):∀a b,af (pw s a) (pw s b)=pw s (a+b)
 |0,b=>by rw[Nat.zero_add];exact lT _
 |a+1,b=>by rw[show a+1+b=a+b+1 by omega];show af (af s (pw s a)) (pw s b)=af s (pw s (a+b));rw[iu,yG s a b]
theorem yF{s:List Int}(h:Pln s):∀n,Pln (pw s n)
 |0=>pln_one
 |n+1=>h.mul (yF h n)
theorem xT(s:List Int):∀(k n:Nat),cf (slopeL (pw s (k+1))) n=((k:Int)+1)*aC (slopeL s) (pw s k) n
 |0,n=>by rw[gu];show _=(((0:Nat):Int)+1)*aC (slopeL s) [1] n;rw[gA,f9];omega
 |k+1,n=>by
  show cf (slopeL (af s (pw s (k+1)))) n=_;rw[pV];have e:aC s (slopeL (pw s (k+1))) n=((k:Int)+1)*aC s (af (slopeL s) (pw s k)) n:=lN λj=>by rw[xT s k j,aN]
  have e2:aC s (af (slopeL s) (pw s k)) n=aC (slopeL s) (pw s (k+1)) n:=by
   show _=aC (slopeL s) (af s (pw s k)) n;rw[<- aN,<- aN]
   congr 1
   ac_rfl
  rw[e,e2];have:((k+1:Nat):Int)=(k:Int)+1:=by omega
  rw[this,Int.add_mul ((k:Int)+1) 1];omega
noncomputable def fP(g:Nat->Nat)(us:List (List Int×Nat)):List Int:=us.foldr (λp acc=>af (pw p.1 (g p.2)) acc) [1]
theorem fN(g:Nat->Nat)(p:List Int×Nat)(us:List (List Int×Nat)):fP g (p::us)=af (pw p.1 (g p.2)) (fP g us):=rfl
theorem uE(g h:Nat->Nat):∀us,af (fP g us) (fP h us)=fP (λm=>g m+h m) us
 | []=>lT _
 |p::us=>by
  rw[fN,fN,fN,<- uE g h us,<- yG]
  ac_rfl
theorem ki{g h:Nat->Nat}:∀us:List (List Int×Nat),(∀p∈us,g p.2=h p.2)->fP g us=fP h us
 | [],_=>rfl
 |p::us,H=>by rw[fN,fN,H p (QN ..),ki us λx hx=>H x (QJ _ hx)]
theorem AU{g:Nat->Nat}:∀us:List (List Int×Nat),(∀p∈us,Pri p.1)->Pln (fP g us)
 | [],_=>pln_one
 |p::us,h=>(yF (h p (QN ..)).pln _).mul (AU us λx hx=>h x (QJ _ hx))
theorem AT(c:Nat->Bool):∀us:List (List Int×Nat),fP (λm=>if c m then 1 else 0) us=prd ((us.filter λp=>c p.2).map (·.1))
 | []=>rfl
 |p::us=>by
  rw[fN,AT c us,List.filter_cons];cases h:c p.2 with
  |true =>simp only[if_true,Ri];rw[gu];rfl
  |false =>simp only[Bool.false_eq_true,if_false];exact lT _
theorem AV{g:Nat->Nat}:∀(us:List (List Int×Nat)) {p:List Int×Nat},p∈us->0<g p.2->Dv p.1 (fP g us)
 |q::us,p,hp,h0=>by
  rw[fN];rcases QK.mp hp with rfl |hp
  ·obtain⟨k,hk⟩:∃k,g p.2=k+1:=⟨g p.2-1,by omega⟩;rw[hk];show Dv p.1 (af (af p.1 (pw p.1 k)) _);rw[iu];exact Dv.mul_left _ _
  ·exact(AV us hp h0).trans (Dv.mul_right _ _)
theorem Pri.pw{s t:List Int}(h:Pri s):∀n,Dv s (pw t n)->0<n/\Dv s t
 |0,hd=>absurd hd h.not_one
 |n+1,hd=>by
  refine⟨by omega,?_⟩;rcases h.or t (RM.pw t n) hd with z |z
  ·exact z
  ·exact(Pri.pw h n z).2
theorem Pri.fP{s:List Int}(h:Pri s){g:Nat->Nat}:∀us:List (List Int×Nat),Dv s (fP g us)->∃p∈us,0<g p.2/\Dv s p.1
 | [],hd=>absurd hd h.not_one
 |p::us,hd=>by
  rcases h.or (RM.pw p.1 (g p.2)) (RM.fP g us) hd with z |z
  ·exact⟨p,QN ..,(h.pw _ z)⟩
  ·obtain⟨q,hq,z'⟩:=Pri.fP h us z;exact⟨q,QJ _ hq,z'⟩
structure Use(us:List (List Int×Nat)):Prop where
 pri:∀p∈us,Pri p.1
 pos:∀p∈us,1<=p.2
 nd:(us.map (·.1)).Nodup
theorem Use.tail{p:List Int×Nat}{us:List (List Int×Nat)}(h:Use (p::us)):Use us :=
 ⟨λx hx=>h.pri x (QJ _ hx),λx hx=>h.pos x (QJ _ hx),(R9.mp h.nd).2⟩
theorem Use.head{p q:List Int×Nat}{us:List (List Int×Nat)}(h:Use (p::us))(hq:q∈us):p.1≠q.1:=λz =>(R9.mp h.nd).1 (QQ.mpr ⟨q,hq,z.symm⟩)
theorem gG(l:List Int):(slopeL l).length=l.length-1:=by unfold slopeL;simp
theorem iN{l:List Int}(h:Tr l):Tr (slopeL l):=λn hn=>by rw[gG]at hn;rw[fh];exact QU (by omega) (h (n+1) (by omega))
theorem xU:∀us:List (List Int×Nat),Use us->∃M,(∀n,cf (slopeL (fP id us)) n=aC (fP (·-1) us) M n)/\∀q∈us,¬Dv q.1 M
 | [],_=>⟨[],λn=>by
  show cf (slopeL [1]) n=aC [1] [] n
  rw[sX];exact cK n,λ_ h=>nomatch h⟩
 |p::us,h=>by
  obtain⟨M',e',h'⟩:=xU us h.tail;obtain⟨s,m⟩:=p;have P:Pri s:=h.pri _ (QN ..);obtain⟨k,hk⟩:∃k,m=k+1:=⟨m-1,by have:=h.pos _ (QN ..);simp at this;omega⟩;subst hk
  have eF:fP id us=af (fP (·-1) us) (fP (λ_=>1) us):=by rw[uE];exact ki us λp hp=>by have:=h.tail.pos p hp;show p.2=p.2-1+1;omega
  have hX:∀n,cf (eI 1 (af (scL ((k:Int)+1) (slopeL s)) (fP (λ_=>1) us)) (af s M')) n=1*cf (af (scL ((k:Int)+1) (slopeL s)) (fP (λ_=>1) us)) n+1*cf (af s M') n:=λn=>by rw[iG];omega
  refine⟨eI 1 (af (scL ((k:Int)+1) (slopeL s)) (fP (λ_=>1) us)) (af s M'),λn=>?_,λq hq hd=>?_⟩
  ·rw[fN,fN];show cf (slopeL (af (pw s (k+1)) (fP id us))) n=aC (af (pw s k) (fP (·-1) us)) _ n;rw[pV,zo hX]
   have a1:aC (slopeL (pw s (k+1))) (fP id us) n=aC (af (pw s k) (fP (·-1) us)) (af (scL ((k:Int)+1) (slopeL s)) (fP (λ_=>1) us)) n:=by
    rw[eF]
    have:aC (slopeL (pw s (k+1))) (af (fP (·-1) us) (fP (λ_=>1) us)) n=aC (af (scL ((k:Int)+1) (slopeL s)) (pw s k)) (af (fP (·-1) us) (fP (λ_=>1) us)) n:=by
     refine ot (λj=>?_) λ_=>rfl
     rw[xT,aN];have:=eY (a:=slopeL s) (b:=[]) (x:=(k:Int)+1) (y:=0) (c:=scL ((k:Int)+1) (slopeL s)) (q:=pw s k) (n:=j) (λi=>by rw[bU];simp);rw[this];simp
    rw[this,<- aN,<- aN]
    congr 1
    ac_rfl
   have a2:aC (pw s (k+1)) (slopeL (fP id us)) n=aC (af (pw s k) (fP (·-1) us)) (af s M') n:=by
    rw[ot (a':=pw s (k+1)) (b':=af (fP (·-1) us) M') (λ_=>rfl) (λj=>by rw[e',aN])];show aC (af s (pw s k)) _ n=_;rw[<- aN,<- aN]
    congr 1
    ac_rfl
   rw[a1,a2];omega
  ·have hX':∀n,1*cf (eI 1 (af (scL ((k:Int)+1) (slopeL s)) (fP (λ_=>1) us)) (af s M')) n=aC M' s n+cf (af (scL ((k:Int)+1) (slopeL s)) (fP (λ_=>1) us)) n:=λn=>by rw[hX,aN s,gA s];omega
   rcases QK.mp hq with rfl |hq
   ·have d1:=Dv.down hX' hd (Dv.refl _);rcases P.or _ _ d1 with z |z
    ·have t:Tr (scL ((k:Int)+1) (slopeL s)):=kI (by omega) (iN P.pln.tr);have l:(scL ((k:Int)+1) (slopeL s)).length=s.length-1:=by rw[cv,gG]
     have:=P.two;have n:=Dv.short P.pln.ne P.pln.tr t (by omega) z;rw[n]at l;simp at l
     omega
    ·obtain⟨q',hq',_,w⟩:=P.fP us z;exact h.head hq' (P.same (h.tail.pri q' hq') w)
   ·have Q:=h.tail.pri q hq;have d0:Dv q.1 (af (scL ((k:Int)+1) (slopeL s)) (fP (λ_=>1) us)):=(AV us hq (g:=λ_=>1) (by decide)).trans (Dv.mul_right _ _);have d1:Dv q.1 (af s M'):=Dv.down (f:=1) (q:=[1]) (λn=>by rw[hX,f9];omega) hd d0;rcases Q.or _ _ d1 with z |z
    ·exact h.head hq (Q.same P z).symm
    ·exact h' q hq z
theorem Eu{s a b:List Int}(hs:s≠[])(h:Dv s (af a b)):Dv s (af (aS a s) (aS b s)):=by
 have e1:=λn=>iC (a:=a) hs n
 have e2:=λn=>iC (a:=b) hs n
 have d1:Dv s (af (aS a s) b):=by
  refine Dv.down (f:=cw a s) (q:=af (cu a s) b) (b:=s) (λn=>?_) h (Dv.refl _);rw[aN,aN];have l:=eY (a:=af (cu a s) s) (b:=aS a s) (x:=1) (y:=1) (c:=scL (cw a s) a) (q:=b) (n:=n) (λk=>by rw[bU,e1,aN];omega);have l2:=eY (a:=a) (b:=[]) (x:=cw a s) (y:=0) (c:=scL (cw a s) a) (q:=b) (n:=n) (λk=>by rw[bU];simp)
  have l3:aC (af (cu a s) s) b n=aC (af (cu a s) b) s n:=by
   rw[<- aN,<- aN]
   congr 1
   ac_rfl
  rw[l2,l3]at l;rw[eV]at l;omega
 refine Dv.down (f:=cw b s) (q:=af (aS a s) (cu b s)) (b:=s) (λn=>?_) d1 (Dv.refl _);rw[aN,aN];have l:=zo (a:=af (cu b s) s) (b:=aS b s) (x:=1) (y:=1) (c:=scL (cw b s) b) (q:=aS a s) (n:=n) (λk=>by rw[bU,e2,aN];omega);have l2:=lN (a:=aS a s) (b:=b) (b':=scL (cw b s) b) (c:=cw b s) (n:=n) (λk=>by rw[bU])
 have l3:aC (aS a s) (af (cu b s) s) n=aC (af (aS a s) (cu b s)) s n:=by
  rw[<- aN,<- aN]
  congr 1
  ac_rfl
 rw[l2,l3]at l;omega
theorem uF{s a:List Int}(hs:s≠[])(ht:Tr s)(h:aS a s=[]):Dv s a :=
 ⟨cw a s,cu a s,mG hs ht,λn=>by rw[iC hs,h,cK];omega⟩
noncomputable def aM(u e b:Int):List Int:=if e=0 then[-u,b]else[u*u-e,-2*b*u,b*b]
theorem gm{u e b:Int}(hb:1<=b):Tr (aM u e b)/\2<=(aM u e b).length:=by
 unfold aM;split
 ·exact⟨(tr_snoc (r:=[-u])).mpr (by omega),by show 2<=2;decide⟩
 ·exact⟨(tr_snoc (r:=[u*u-e,-2*b*u])).mpr (QU (by omega) (by omega)),by show 2<=3;decide⟩
theorem zb{n e:Int}(hn:0<=n)(h1:n*n<e)(h2:e<(n+1)*(n+1)):∀(k:Nat) (x y:Int),x.toNat<=k->0<x->0<=y->e*(x*x)=y*y->False
 |0,x,y,hk,hx,_,_=>by omega
 |k+1,x,y,hk,hx,hy,h=>by
  have hxx:0<x*x:=QC hx hx
  have a1:n*x<y:=by
   refine RQ.mp λz=>?_
   have:=SF z z hy (Int.le_trans hy z);have:=Rj h1 hxx;have e1:n*x*(n*x)=n*n*(x*x):=by grind
   omega
  have a2:y<(n+1)*x:=by
   refine RQ.mp λz=>?_
   have z0:0<=(n+1)*x:=Q8 (by omega) (by omega);have:=SF z z z0 hy;have:=Rj h2 hxx;have e1:(n+1)*x*((n+1)*x)=(n+1)*(n+1)*(x*x):=by grind
   omega
  have a3:(n+1)*x=n*x+x:=by rw[Int.add_mul];omega
  refine zb hn h1 h2 k (y-n*x) ((e*x-n*y).natAbs:Int) (by omega) (by omega) (by omega) ?_;rw[Int.natAbs_mul_self' (e*x-n*y)];grind
def NS(e:Int):Prop:=e<=0\/∃n:Int,0<=n/\n*n<e/\e<(n+1)*(n+1)
theorem NS.no{e x y:Int}(h:NS e)(he:e≠0)(hx:x≠0)(eq:x*x*e=y*y):False:=by
 rcases h with h |⟨n,hn,h1,h2⟩
 ·have hxx:0<x*x:=by
   rcases RY hx with z |z
   ·exact Sq z z
   ·exact QC z z
  have:x*x*e<0:=SU hxx (by omega)
  have:0<=y*y:=by
   rcases Int.le_total 0 y with z |z
   ·exact Q8 z z
   ·exact S0 z z
  omega
 ·refine zb hn h1 h2 _ (x.natAbs:Int) (y.natAbs:Int) (QD _) (by omega) (by omega) ?_;rw[Int.natAbs_mul_self' x,Int.natAbs_mul_self' y,<- eq,QT]
theorem ED{u e b:Int}(hb:1<=b)(he:NS e){p q:List Int}(h:Dv (aM u e b) (af p q)):Dv (aM u e b) p\/Dv (aM u e b) q:=by
 obtain⟨tr,l2⟩:=gm (u:=u) (e:=e) hb;have hne:aM u e b≠[]:=λz=>by rw[z]at l2;simp at l2
 by_cases hp:aS p (aM u e b)=[]
 ·exact .inl (uF hne tr hp)
 by_cases hq:aS q (aM u e b)=[]
 ·exact .inr (uF hne tr hq)
 exfalso;have d:=Eu hne h;have t1:=ge p (aM u e b);have t2:=ge q (aM u e b);have n1:=gM (a:=p) hne;have n2:=gM (a:=q) hne;generalize aS p (aM u e b)=r1 at *
 generalize aS q (aM u e b)=r2 at *
 have lm:=bZ hp hq;have p1:=QG.mpr hp;have p2:=QG.mpr hq;by_cases hs:(af r1 r2).length<(aM u e b).length
 ·exact j6 hp hq (Dv.short hne tr (nh t1 t2) hs d)
 by_cases h0:e=0
 ·have:(aM u e b).length=2:=by unfold aM;rw[if_pos h0];rfl
  omega
 have er:aM u e b=[u*u-e,-2*b*u,b*b]:=by unfold aM;rw[if_neg h0]
 rw[er]at hs n1 n2 d hne tr;simp only[Rb,List.length_nil]at hs n1 n2
 obtain⟨α,β,rfl⟩:∃α β,r1=[α,β]:=by
  match r1,(show r1.length=2 by omega)with
  | [α,β],_=>exact⟨α,β,rfl⟩
 obtain⟨γ,δ,rfl⟩:∃γ δ,r2=[γ,δ]:=by
  match r2,(show r2.length=2 by omega)with
  | [γ,δ],_=>exact⟨γ,δ,rfl⟩
 have hβ:β≠0:=(tr_snoc (r:=[α])).mp t1;have hδ:δ≠0:=(tr_snoc (r:=[γ])).mp t2
 have em:af [α,β] [γ,δ]=[α*γ,α*δ+β*γ,β*δ]:=by
  refine d8 (by rw[lm];rfl) λk hk=>?_
  rw[lm]at hk;rw[aN];have hk':k<3:=hk;have:k=0\/k=1\/k=2:=by omega
  rcases this with rfl |rfl |rfl
  ·show(0+(α*γ))+0=α*γ;omega
  ·show(0+(α*δ))+(β*γ)=α*δ+β*γ;omega
  ·show(0+α*cf [γ,δ] 2)+(β*δ)=β*δ;have:cf [γ,δ] 2=0:=rfl;rw[this];simp
 rw[em]at d;have hr:=d.rest hne tr;have eqn:=λn=>iC (a:=[α*γ,α*δ+β*γ,β*δ]) hne n
 have hf:=mG (a:=[α*γ,α*δ+β*γ,β*δ]) hne tr;have lq:=uJ (a:=[α*γ,α*δ+β*γ,β*δ]) hne;generalize cw [α*γ,α*δ+β*γ,β*δ] [u*u-e,-2*b*u,b*b]=f at *
 generalize cu [α*γ,α*δ+β*γ,β*δ] [u*u-e,-2*b*u,b*b]=Q at *
 rw[hr]at eqn;have lq':Q.length=1:=lq;obtain⟨κ,rfl⟩:∃κ,Q=[κ]:=List.length_eq_one_iff.mp lq';have g0:=eqn 0;have g1:=eqn 1;have g2:=eqn 2;rw[f9,cK]at g0 g1 g2
 replace g0:f*(α*γ)=κ*(u*u-e)+0:=g0
 replace g1:f*(α*δ+β*γ)=κ*(-2*b*u)+0:=g1
 replace g2:f*(β*δ)=κ*(b*b)+0:=g2
 have hκ:κ≠0:=λz=>by rw[z,Q3]at g2;exact QU hf (QU hβ hδ) (by omega)
 refine he.no h0 (x:=2*κ*b) (y:=f*(α*δ-β*γ)) (QU (QU (by decide) hκ) (by omega)) ?_;have k1:f*(α*δ-β*γ)*(f*(α*δ-β*γ))=f*(α*δ+β*γ)*(f*(α*δ+β*γ))-4*((f*(α*γ))*(f*(β*δ))):=by grind
 rw[k1,g0,g1,g2];grind
theorem EC{u e b:Int}(hb:1<=b)(he:NS e):Pri (aA (aM u e b)):=by
 obtain⟨tr,l2⟩:=gm (u:=u) (e:=e) hb;have hne:aM u e b≠[]:=λz=>by rw[z]at l2;simp at l2
 obtain⟨g,hg,eg⟩:=jW tr;have to:∀p,Dv (aA (aM u e b)) p->Dv (aM u e b) p:=λp h=>Dv.prop_left (x:=1) (y:=g) (by decide) hg (λn=>by rw[eg];omega) h
 have fr:∀p,Dv (aM u e b) p->Dv (aA (aM u e b)) p:=λp h=>Dv.prop_left (x:=g) (y:=1) hg (by decide) (λn=>by rw[<- eg];omega) h
 refine⟨fy tr hne,by rw[plain_len];exact l2,λp q h=>?_⟩;exact(ED hb he (to _ h)).imp (fr _) (fr _)
noncomputable def com(xs ys:List Int):List Int:=cT 20 (aA xs) (aA ys)
structure ComOk(xs ys:List Int):Prop where
 pln:xs≠[]\/ys≠[]->Pln (com xs ys)
 left:Dv (com xs ys) xs
 right:Dv (com xs ys) ys
 all:∀d,Dv d xs->Dv d ys->Dv d (com xs ys)
theorem Bk{xs ys:List Int}(h2:ys.length<=19)(t1:Tr xs)(t2:Tr ys):ComOk xs ys:=by
 obtain⟨c1,c2,c3,c4,c5,c6⟩:=Bm 20 (aA xs) (aA ys) (by rw[plain_len];omega) (g8 t1) (g8 t2);refine⟨λh=>?_,(Dv.plain t1).mp c2,(Dv.plain t2).mp c3,λd a b=>c4 d ((Dv.plain t1).mpr a) ((Dv.plain t2).mpr b)⟩;have hne:com xs ys≠[]:=c5 (h.imp (λz q=>z (Sd.mp (by rw[<- plain_len,q];rfl))) (λz q=>z (Sd.mp (by rw[<- plain_len,q];rfl))))
 obtain⟨l,tl,el⟩:∃l,Tr l/\com xs ys=aA l:=by
  rcases c6 with e |e |e
  ·exact⟨xs,t1,e⟩
  ·exact⟨ys,t2,e⟩
  ·exact e
 have hl:l≠[]:=λz=>hne (by rw[el,z];rfl)
 rw[el];exact fy tl hl
theorem Lv{A B D L M:List Int}{ps:List (List Int)}(tA:Tr A)(nA:A≠[])(tB:Tr B)(lB:B.length<=19)(hD:Pln D)(sA:Sim A (af D L))(sB:Sim B (af D M))(hps:∀p∈ps,Pri p)(hL:L=prd ps)(hM:∀p∈ps,¬Dv p M):com A B=D :=
 have C:=Bk lB tA tB
 Lu (C.pln (.inl nA)) C.left C.right C.all hD sA sB hps hL hM
noncomputable def eq1(k m:Nat):Nat:=if m=k then 1 else 0
noncomputable def sO(_:Nat):Nat:=1
noncomputable def mor(us:List (List Int×Nat))(k:Nat):List Int:=fP (·-k) us
noncomputable def flt(us:List (List Int×Nat)):List Int:=fP sO us
variable {us:List (List Int×Nat)}
theorem AI:flt us=prd (us.map (·.1)):=by
 have:=AT (λ_=>true) us;have e:us.filter (λp=>(λ_=>true) p.2)=us:=List.filter_eq_self.mpr λ_ _=>rfl
 rw[e]at this;rw[<- this];exact ki us λp _=>rfl
theorem jm(h:Use us)(g:Nat->Nat):Pln (fP g us):=AU us h.pri
noncomputable def whl(c:Int)(us:List (List Int×Nat)):List Int:=af [c] (fP id us)
theorem fW(c:Int):whl c us=scL c (fP id us):=by
 unfold whl;by_cases h:fP id us=[]
 ·rw[h,ir];rfl
 refine d8 ?_ λk _=>?_
 ·rw[bZ (by simp) h,cv];simp
 ·rw[aN,f9,bU]
theorem kG(h:Use us){c:Int}(hc:c≠0):Tr (whl c us)/\whl c us≠[]/\aA (whl c us)=fP id us:=by have pl:=jm h id;rw[fW];refine⟨kI hc pl.tr,λz=>pl.ne (Sd.mp (by rw[<- cv c,z];rfl)),?_⟩;rw[ig hc pl.tr,pl.plain]
theorem vU(h:Use us):af (mor us 1) (flt us)=fP id us:=by unfold mor flt;rw[uE];exact ki us λp hp=>by have:=h.pos p hp;show p.2-1+1=p.2;omega
theorem vT(h:Use us){c:Int}(hc:c≠0)(hl:(whl c us).length<=20):com (whl c us) (slopeL (whl c us))=mor us 1:=by
 obtain⟨t,n,p⟩:=kG h hc;obtain⟨M,eM,hM⟩:=xU us h;refine Lv (L:=flt us) (M:=M) (ps:=us.map (·.1)) t n (iN t) (by rw[gG];omega) (jm h _) ⟨1,c,by decide,hc,λk=>?_⟩ ⟨1,c,by decide,hc,λk=>?_⟩ (λp hp=>?_) AI (λp hp=>?_)
 ·rw[vU h,fW,bU];omega
 ·rw[aN];have e:=eM k;rw[fh]at e;show 1*cf (slopeL (whl c us)) k=c*aC (fP (·-1) us) M k;rw[<- e,fh,fW,bU];grind
 ·obtain⟨q,hq,rfl⟩:=QQ.mp hp;exact h.pri q hq
 ·obtain⟨q,hq,rfl⟩:=QQ.mp hp;exact hM q hq
theorem Cg(h:Use us){c:Int}(hc:c≠0):aS (whl c us) (mor us 1)=[]/\aA (cu (whl c us) (mor us 1))=flt us:=by obtain⟨t,n,p⟩:=kG h hc;exact yR t n (jm h _) (jm h _) (by rw[p,vU h])
noncomputable def dgs(g:Nat->Nat):List (List Int×Nat)->Nat
 | []=>0
 |p::us=>g p.2*(p.1.length-1)+dgs g us
theorem Bb{g h:Nat->Nat}:∀us:List (List Int×Nat),(∀p∈us,g p.2<=h p.2)->dgs g us<=dgs h us
 | [],_=>QD _
 |p::us,H=>by
  have:=Bb us λx hx=>H x (QJ _ hx)
  have:=Ro (p.1.length-1) (H p (QN ..));show g p.2*_+dgs g us<=h p.2*_+dgs h us;omega
theorem nZ{s:List Int}(h:s≠[]):∀n,(pw s n).length=1+n*(s.length-1)/\pw s n≠[]
 |0=>⟨by rw[Nat.zero_mul];rfl,by simp[pw]⟩
 |n+1=>by obtain⟨a,b⟩:=nZ h n;have:=QG.mpr h;refine⟨?_,j6 h b⟩;show(af s (pw s n)).length=_;rw[bZ h b,a,Nat.succ_mul];omega
theorem oV(g:Nat->Nat):∀us:List (List Int×Nat),(∀p∈us,p.1≠[])->(fP g us).length=1+dgs g us/\fP g us≠[]
 | [],_=>⟨rfl,by simp[fP]⟩
 |p::us,H=>by
  obtain⟨a,b⟩:=oV g us λx hx=>H x (QJ _ hx)
  obtain⟨c,d⟩:=nZ (H p (QN ..)) (g p.2);rw[fN];refine⟨?_,j6 d b⟩;rw[bZ d b,a,c];show _=1+(g p.2*_+dgs g us);omega
noncomputable def aX(sq due:Int):Int:=if due<0\/due*due<sq then 1 else 0-(if sq<due*due then 1 else 0)
noncomputable def al(l:List Int)(t n:Int):Int:=if 0<cf l 3 then aX (cf l 1*n*n) (cf l 2*t-cf l 0*n)else 0-aX (cf l 1*n*n) (0-(cf l 2*t-cf l 0*n))
theorem ci(sq d:Int):(aX sq d=1/\(d<0\/d*d<sq))\/(aX sq d=0/\0<=d/\d*d=sq)\/(aX sq d = -1/\0<=d/\sq<d*d):=by
 unfold aX;by_cases h:d<0\/d*d<sq
 ·rw[if_pos h];exact .inl ⟨rfl,h⟩
 ·rw[if_neg h];by_cases h2:sq<d*d
  ·rw[if_pos h2];exact .inr (.inr ⟨rfl,by omega,h2⟩)
  ·rw[if_neg h2];exact .inr (.inl ⟨rfl,by omega,by omega⟩)
structure Spt(l:List Int):Prop where
 is:∃u e b s:Int,l=[u,e,b,s]/\0<=e/\1<=b/\(s=1\/s = -1)
theorem iP{x y:Int}(hx:0<=x)(h:x<=y):x*x<=y*y:=SF h h hx (by omega)
theorem pA{x y:Int}(hx:0<=x)(h:x<y):x*x<y*y:=by have h1:x*x<=x*y:=Sg (QE h) hx;have h2:x*y<y*y:=Rj h (by omega);omega
theorem IE{x y:Int}(hy:0<=y)(h:x*x<y*y):x<y:=RQ.mp λz=>by have:=iP hy z;omega
theorem IM{x y:Int}(hy:0<=y)(h:x*x<=y*y):x<=y:=Rp.mp λz=>by have:=pA hy z;omega
theorem wv{g sq d:Int}(hg:0<g):aX (sq*(g*g)) (g*d)=aX sq d:=by
 have hgg:0<g*g:=QC hg hg;have e1:g*d*(g*d)=d*d*(g*g):=by grind
 have e2:(g*d<0)↔d<0:=by
  constructor
  ·intro h;refine RQ.mp λz=>?_
   have:=Q8 (QE hg) z;omega
  ·intro h;exact SU hg h
 have e3:∀x y:Int,(x*(g*g)<y*(g*g))↔x<y:=λx y=>⟨λh=>R7 h (QE hgg),λh=>Rj h hgg⟩
 unfold aX;rw[e1];simp only[e2,e3]
theorem x4{g t n:Int}(l:List Int)(hg:0<g):al l (g*t) (g*n)=al l t n:=by
 have e1:cf l 1*(g*n)*(g*n)=cf l 1*n*n*(g*g):=by grind
 have e2:cf l 2*(g*t)-cf l 0*(g*n)=g*(cf l 2*t-cf l 0*n):=by grind
 have e3:0-g*(cf l 2*t-cf l 0*n)=g*(0-(cf l 2*t-cf l 0*n)):=by grind
 unfold al;rw[e1,e2,e3,wv hg,wv hg]
theorem hI{t n t' n':Int}(l:List Int)(hn:0<n)(hn':0<n')(e:t*n'=t'*n):al l t n=al l t' n':=by
 rw[<- x4 (g:=n') l hn',<- x4 (g:=n) (t:=t') l hn];have e1:n'*t=n*t':=by rw[QT,e,QT]
 rw[e1,QT n' n]
theorem dW(l:List Int)(t n:Int):al l t n=1\/al l t n=0\/al l t n = -1:=by
 unfold al;split
 ·rcases ci (cf l 1*n*n) (cf l 2*t-cf l 0*n)with h |h |h<;>omega
 ·rcases ci (cf l 1*n*n) (0-(cf l 2*t-cf l 0*n))with h |h |h<;>omega
theorem dU{l:List Int}(hl:Spt l){t n t' n':Int}(hn:0<n)(hn':0<n')(h:t*n'<t'*n)(hs:al l t n<=0):al l t' n' = -1:=by
 obtain⟨u,e,b,s,rfl,he,hb,hs1⟩:=hl
 have hlt:(b*t-u*n)*n'<(b*t'-u*n')*n:=by
  have h1:b*(t*n')<b*(t'*n):=Td h (by omega);have e1:(b*t-u*n)*n'=b*(t*n')-u*n*n':=by grind
  have e2:(b*t'-u*n')*n=b*(t'*n)-u*n*n':=by grind
  omega
 have hnn:0<n*n:=QC hn hn;have hnn':0<n'*n':=QC hn' hn';rcases hs1 with rfl |rfl
 ·have z0:(0:Int)<1:=by decide
  have hs:aX (e*n*n) (b*t-u*n)<=0:=hs;show aX (e*n'*n') (b*t'-u*n') = -1;generalize b*t-u*n=a at *
  generalize b*t'-u*n'=a' at *
  have k1:0<=a/\e*n*n<=a*a:=by rcases ci (e*n*n) a with h |h |h<;>omega
  have k2:0<=a*n':=Q8 k1.1 (QE hn');have k3:0<a':=R7 (a:=n) (by omega) (QE hn);have k4:=pA k2 hlt;have k5:e*n*n*(n'*n')<=a*a*(n'*n'):=Q5 k1.2 (QE hnn')
  have k6:e*n'*n'*(n*n)<a'*a'*(n*n):=by
   have e1:e*n'*n'*(n*n)=e*n*n*(n'*n'):=by grind
   have e2:a'*a'*(n*n)=a'*n*(a'*n):=by grind
   have e3:a*a*(n'*n')=a*n'*(a*n'):=by grind
   omega
  have k7:=R7 k6 (QE hnn);rcases ci (e*n'*n') a' with h |h |h<;>omega
 ·have hs:0-aX (e*n*n) (0-(b*t-u*n))<=0:=hs;show 0-aX (e*n'*n') (0-(b*t'-u*n')) = -1;generalize ha:0-(b*t-u*n)=a at *
  generalize ha':0-(b*t'-u*n')=a' at *
  have hlt':a'*n<a*n':=by
   have e1:a'*n = -((b*t'-u*n')*n):=by rw[<- ha'];grind
   have e2:a*n' = -((b*t-u*n)*n'):=by rw[<- ha];grind
   omega
  have k1:a<0\/a*a<=e*n*n:=by rcases ci (e*n*n) a with h |h |h<;>omega
  have k2:a'<0\/a'*a'<e*n'*n':=by
   by_cases z:a'<0
   ·exact .inl z
   right;have p1:0<=a'*n:=Q8 (by omega) (QE hn);have p2:0<a:=R7 (a:=n') (by omega) (QE hn');have p3:=pA p1 hlt';have k5:a*a*(n'*n')<=e*n*n*(n'*n'):=Q5 (by omega) (QE hnn')
   have k6:a'*a'*(n*n)<e*n'*n'*(n*n):=by
    have e1:e*n'*n'*(n*n)=e*n*n*(n'*n'):=by grind
    have e2:a'*a'*(n*n)=a'*n*(a'*n):=by grind
    have e3:a*a*(n'*n')=a*n'*(a*n'):=by grind
    omega
   exact R7 k6 (QE hnn)
  rcases ci (e*n'*n') a' with h |h |h<;>omega
noncomputable def spF(f:List Int):List (List Int):=(if 0<=cf f 1 then[[cf f 0,cf f 1,cf f 2,1]]else[])++(if 0<cf f 1 then[[cf f 0,cf f 1,cf f 2,-1]]else[])
noncomputable def aL(fs:List (List Int)):List (List Int):=fs.flatMap spF
noncomputable def spr(t n:Int):List (List Int)->Int
 | []=>1
 |l::ls => -al l t n*spr t n ls
theorem jM(t n:Int):∀a b,spr t n (a++b)=spr t n a*spr t n b
 | [],b=>by show _=1*_;rw[QZ];rfl
 |x::a,b=>by show _*spr t n (a++b)=_*_*_;rw[jM t n a b,Rc]
theorem pH{f l:List Int}{u e b:Int}(hf:f=[u,e,b])(hb:1<=b)(h:l∈spF f):Spt l/\∃s,l=[u,e,b,s]/\0<=e/\(s=1\/s = -1/\0<e):=by
 subst hf;have hd:spF [u,e,b]=(if 0<=e then[[u,e,b,1]]else[])++(if 0<e then[[u,e,b,-1]]else[]):=rfl;rw[hd]at h;rcases QS.mp h with h |h
 ·by_cases z:0<=e
  ·rw[if_pos z]at h;obtain rfl:=QF.mp h;exact⟨⟨u,e,b,1,rfl,z,hb,.inl rfl⟩,1,rfl,z,.inl rfl⟩
  ·rw[if_neg z]at h;cases h
 ·by_cases z:0<e
  ·rw[if_pos z]at h;obtain rfl:=QF.mp h;exact⟨⟨u,e,b,-1,rfl,by omega,hb,.inr rfl⟩,-1,rfl,by omega,.inr ⟨rfl,z⟩⟩
  ·rw[if_neg z]at h;cases h
theorem EB{u e b t n:Int}(hn:0<n):sg (hv t n (aM u e b))=spr t n (spF [u,e,b]):=by
 have hd:spF [u,e,b]=(if 0<=e then[[u,e,b,1]]else[])++(if 0<e then[[u,e,b,-1]]else[]):=rfl;rw[hd];by_cases h0:e=0
 ·subst h0;have er:aM u 0 b=[-u,b]:=by unfold aM;rw[if_pos rfl]
  have ev:hv t n [-u,b]=n*(b*t-u*n):=by show -u*n^2+t*(b*n^1+t*0)=_;grind
  rw[er,ev,eN hn,if_pos (Q7 _),if_neg (by omega)];show _ = -aX (0*n*n) (b*t-u*n)*1;generalize b*t-u*n=a;rw[Q3,Q3];have:a<0\/a=0\/0<a:=by omega
  rcases this with h |h |h
  ·have h1:sg a = -1:=by unfold sg;rw[if_pos h]
   rcases ci 0 a with z |z |z<;>omega
  ·subst h;rfl
  ·have h1:sg a=1:=by unfold sg;rw[if_neg (by omega),if_pos h]
   have h2:=QC h h;rcases ci 0 a with z |z |z<;>omega
 ·have er:aM u e b=[u*u-e,-2*b*u,b*b]:=by unfold aM;rw[if_neg h0]
  have ev:hv t n [u*u-e,-2*b*u,b*b]=n*((b*t-u*n)*(b*t-u*n)-e*n*n):=by show(u*u-e)*n^3+t*((-2*b*u)*n^2+t*((b*b)*n^1+t*0))=_;grind
  rw[er,ev,eN hn];by_cases hp:0<=e
  ·rw[if_pos hp,if_pos (by omega)];show _ = -aX (e*n*n) (b*t-u*n)*(-(0-aX (e*n*n) (0-(b*t-u*n)))*1);generalize b*t-u*n=a;have hE:0<e*n*n:=QC (QC (by omega) hn) hn;generalize e*n*n=E at *
   have e1:(0-a)*(0-a)=a*a:=by grind
   have h1:=ci E a;have h2:=ci E (0-a);rw[e1]at h2;have az:a=0->a*a=0:=λz=>by rw[z];rfl
   have s3:(a*a<E/\sg (a*a-E) = -1)\/(a*a=E/\sg (a*a-E)=0)\/(E<a*a/\sg (a*a-E)=1):=by unfold sg;split<;>(try split)<;>omega
   generalize a*a=q at *
   rcases h1 with⟨x1,x2⟩ |⟨x1,x2⟩ |⟨x1,x2⟩<;>rcases h2 with⟨y1,y2⟩ |⟨y1,y2⟩ |⟨y1,y2⟩<;>rw[x1,y1]<;>simp<;>omega
  ·rw[if_neg hp,if_neg (by omega)]
   have h1:0<=(b*t-u*n)*(b*t-u*n):=by
    rcases Int.le_total 0 (b*t-u*n)with z |z
    ·exact Q8 z z
    ·exact S0 z z
   have h2:e*n*n<0:=by rw[Rc];exact Sx (by omega) (QC hn hn)
   show sg _=1;unfold sg;rw[if_neg (by omega),if_pos (by omega)]
noncomputable def ah(f:List Int):List Int:=aA (aM (cf f 0) (cf f 1) (cf f 2))
theorem ya(x y:Int):sg (x*y)=sg x*sg y:=by
 rcases SW x 0 with hx |hx |hx
 ·have h1:sg x = -1:=by unfold sg;rw[if_pos hx]
  have e:x*y = -((-x)*y):=by grind
  rw[e,DF,eN (by omega),h1];omega
 ·subst hx;rw[Q3];show(0:Int)=0*_;rw[Q3]
 ·have h1:sg x=1:=by unfold sg;rw[if_neg (by omega),if_pos hx]
  rw[eN hx,h1,QZ]
theorem lE{l:List Int}(h:Tr l)(hne:l≠[])(hp:0<ap l):∃g:Int,0<g/\l=scL g (aA l):=by
 obtain⟨g,hg,e⟩:=jW h
 have e2:l=scL g (aA l):=by
  apply d8
  ·rw[cv,plain_len]
  ·intro k _;rw[bU,e k]
 have hP:=fy h hne;refine⟨g,?_,e2⟩;obtain⟨r,x,er⟩:=(db l).resolve_left hne;have hx:ap l=cf l r.length:=by rw[er,dJ,kn]
 obtain⟨r',x',er'⟩:=(db (aA l)).resolve_left hP.ne;have hx':ap (aA l)=cf (aA l) r'.length:=by rw[er',dJ,kn]
 have hl:r.length=r'.length:=by have:=plain_len l;have h1:=congrArg List.length er;have h2:=congrArg List.length er';simp at h1 h2;omega
 have h3:=e r.length;rw[<- hx,hl,<- hx']at h3;have h4:=hP.pos;rw[h3]at hp;rcases RY hg with z |z
 ·have:=Sx z h4;omega
 ·exact z
theorem Dw{u e b t n:Int}(hb:1<=b)(hn:0<n):sg (hv t n (ah [u,e,b]))=spr t n (spF [u,e,b]):=by
 obtain⟨tr,l2⟩:=gm (u:=u) (e:=e) hb;have hne:aM u e b≠[]:=λz=>by rw[z]at l2;simp at l2
 have hlast:0<ap (aM u e b):=by
  unfold aM;split
  ·show 0<ap ([-u]++[b]);rw[dJ];omega
  ·show 0<ap ([u*u-e,-2*b*u]++[b*b]);rw[dJ];exact QC (by omega) (by omega)
 obtain⟨g,hg,eg⟩:=lE tr hne hlast;rw[<- EB hn];show sg (hv t n (aA (aM u e b)))=_
 have e3:hv t n (aM u e b)=g*hv t n (aA (aM u e b)):=by
  calc hv t n (aM u e b)=hv t n (scL g (aA (aM u e b))):=by rw[<- eg]
   _=_:=Ar _ _ _ _
 rw[e3,eN hg]
def fk(f:List Int):Prop:=∃u e b:Int,f=[u,e,b]/\1<=b
theorem yM{t n:Int}(hn:0<n):∀(fs:List (List Int)),(∀f∈fs,fk f)->sg (pr t n (fs.map ah))=spr t n (aL fs)
 | [],_=>rfl
 |f::fs,h=>by
  obtain⟨u,e,b,rfl,hb⟩:=h f (QN ..);have ih:=yM (t:=t) hn fs λx hx=>h x (QJ _ hx)
  have e1:aL ([u,e,b]::fs)=spF [u,e,b]++aL fs:=by unfold aL;rw[List.flatMap_cons]
  show sg (hv t n (ah [u,e,b])*pr t n (fs.map ah))=_;rw[ya,Dw hb hn,ih,e1,jM]
theorem qc{f:List Int}(h:fk f):ah f≠[]/\Tr (ah f):=by obtain⟨u,e,b,rfl,hb⟩:=h;obtain⟨tr,l2⟩:=gm (u:=u) (e:=e) hb;refine⟨λz=>?_,g8 tr⟩;have:=plain_len (aM u e b);have z':aA (aM u e b)=[]:=z;rw[z']at this;simp at this;omega
theorem lw{t n c:Int}(hn:0<n){fs:List (List Int)}(h:∀f∈fs,fk f):sg (hv t n (af [c] (aT [1] (fs.map ah))))=sg c*spr t n (aL fs):=by
 have hs:∀s∈fs.map ah,s≠[]/\Tr s:=λs hs=>by obtain⟨x,hx,rfl⟩:=QQ.mp hs;exact qc (h x hx)
 obtain⟨p1,p2,p3⟩:=jU (fs.map ah) [1] (by simp) ((tr_snoc (r:=[])).mpr (by decide)) hs;have e1:=oK t n (a:=[c]) (b:=aT [1] (fs.map ah)) p1 (by simp);have e2:=oI t n (fs.map ah) [1] (by simp) λs h=>(hs s h).1
 rw[mr]at e1 e2;rw[<- yM hn fs h]
 have e3:hv t n (af [c] (aT [1] (fs.map ah)))=c*hv t n (aT [1] (fs.map ah)):=by refine Tb (Rf hn) ?_;rw[e1];grind
 rw[e3,ya];have e4:=congrArg sg e2;rw[eN (Rl hn),QZ,eN hn]at e4;rw[e4]
def inS(l:List Int)(A B D:Int):Prop:=0<al l A D/\al l B D<=0
instance (l:List Int) (A B D:Int):Decidable (inS l A B D):=inferInstanceAs (Decidable (_/\_))
structure Fsm(u e b:Int):Prop where
 u1 : -1000000000<=u
 u2:u<=1000000000
 e0:0<=e
 e1:e<=10000000000000000
 b1:1<=b
 b2:b<=1000
theorem ze{u e b s A B D:Int}(h:Fsm u e b)(hs:s=1\/s = -1/\0<e)(hD:2^200<=D)(hw:B=A+128)(hi:inS [u,e,b,s] A B D):((b*A-u*D)*(b*A-u*D)-e*D*D).natAbs<=30000000000000*D.natAbs:=by
 obtain⟨u1,u2,e0,e1,b1,b2⟩:=h;have hDD:0<D:=by omega
 have eB:b*B-u*D=b*A-u*D+128*b:=by rw[hw];grind
 have h36:e*D*D<=100000000*D*(100000000*D):=by
  have h1:e*(D*D)<=10000000000000000*(D*D):=Q5 (by omega) (QE (QC hDD hDD));have e2:e*D*D=e*(D*D):=by grind
  have e3:100000000*D*(100000000*D)=10000000000000000*(D*D):=by grind
  omega
 have hE0:0<=e*D*D:=Q8 (Q8 e0 (by omega)) (by omega)
 have hbig:e=0\/16384000000<e*D*D:=by
  rcases RZ 0 e with z |z
  ·right;have h1:1*(D*D)<=e*(D*D):=Q5 (by omega) (QE (QC hDD hDD));have e2:e*D*D=e*(D*D):=by grind
   have h2:1*D<=D*D:=Q5 (by omega) (by omega);omega
  ·left;omega
 rcases hs with rfl |⟨rfl,hp⟩
 ·have i1:0<aX (e*D*D) (b*A-u*D):=hi.1;have i2:aX (e*D*D) (b*B-u*D)<=0:=hi.2;rw[eB]at i2;generalize b*A-u*D=a at *
  have k1:a<0\/a*a<e*D*D:=by rcases ci (e*D*D) a with z |z |z<;>omega
  have k2:0<=a+128*b/\e*D*D<=(a+128*b)*(a+128*b):=by rcases ci (e*D*D) (a+128*b)with z |z |z<;>omega
  by_cases ha:a<0
  ·have q1:=iP k2.1 (show a+128*b<=128000 by omega);have z0:e=0:=by omega
   subst z0;have q2:(-a)*(-a)<=128000*128000:=iP (by omega) (by omega);have q3:(-a)*(-a)=a*a:=by grind
   have q4:0<=a*a:=by rw[<- q3];exact Q8 (by omega) (by omega)
   rw[Q3,Q3];omega
  ·have k3:a*a<e*D*D:=by omega
   have k4:a<100000000*D:=IE (by omega) (by omega);have e3:(a+128*b)*(a+128*b)=a*a+256*(b*a)+16384*(b*b):=by grind
   have k5:b*a<=1000*a:=Q5 b2 (by omega);have k6:b*b<=1000000:=SF b2 b2 (by omega) (by omega);omega
 ·have i1:0<0-aX (e*D*D) (0-(b*A-u*D)):=hi.1;have i2:0-aX (e*D*D) (0-(b*B-u*D))<=0:=hi.2;rw[eB]at i2;have eq1:(b*A-u*D)*(b*A-u*D)=(0-(b*A-u*D))*(0-(b*A-u*D)):=by grind
  have eq2:0-(b*A-u*D+128*b)=0-(b*A-u*D)-128*b:=by omega
  rw[eq1];rw[eq2]at i2;generalize 0-(b*A-u*D)=c at *
  have k1:0<=c/\e*D*D<c*c:=by rcases ci (e*D*D) c with z |z |z<;>omega
  have k2:c-128*b<0\/(c-128*b)*(c-128*b)<=e*D*D:=by rcases ci (e*D*D) (c-128*b)with z |z |z<;>omega
  by_cases hc:c-128*b<0
  ·have q1:=iP k1.1 (show c<=128000 by omega);omega
  ·have k3:(c-128*b)*(c-128*b)<=e*D*D:=by omega
   have k4:c-128*b<=100000000*D:=IM (by omega) (by omega);have e3:c*c=(c-128*b)*(c-128*b)+256*(b*c)-16384*(b*b):=by grind
   have k5:b*c<=1000*c:=Q5 b2 (by omega);have k6:0<=b*b:=Q8 (by omega) (by omega);omega
theorem Cp{u e b A B D:Int}(h:Fsm u e b)(he:0<e)(hD:2^200<=D)(hw:B=A+128)(h1:inS [u,e,b,1] A B D)(h2:inS [u,e,b,-1] A B D):False:=by
 obtain⟨u1,u2,e0,e1,b1,b2⟩:=h;have hDD:0<D:=by omega
 have eB:b*B-u*D=b*A-u*D+128*b:=by rw[hw];grind
 have i1:aX (e*D*D) (b*B-u*D)<=0:=h1.2;have i2:0<0-aX (e*D*D) (0-(b*A-u*D)):=h2.1;rw[eB]at i1;generalize b*A-u*D=a at *
 have k1:0<=a+128*b:=by rcases ci (e*D*D) (a+128*b)with z |z |z<;>omega
 have k2:0<=0-a/\e*D*D<(0-a)*(0-a):=by rcases ci (e*D*D) (0-a)with z |z |z<;>omega
 have k3:=iP k2.1 (show 0-a<=128000 by omega);have h3:1*(D*D)<=e*(D*D):=Q5 (by omega) (QE (QC hDD hDD));have e2:e*D*D=e*(D*D):=by grind
 have h4:1*D<=D*D:=Q5 (by omega) (by omega);omega
theorem dA{x y:Int}{a b:Nat}(hx:x.natAbs<=a)(hy:y.natAbs<=b):(x*y).natAbs<=a*b:=by rw[QR];exact RD hx hy
theorem zg(N:Nat):1000*1000*(30000000000000*N)+1000*1000*(30000000000000*N)<=60000000000000000000*N/\1000*1000*(30000000000000*N)<=30000000000000000000*N:=by omega
theorem Hh{n2 n3 n4 x1 x2 x3:Nat}(h:n4<=x1+x2+x3)(t1:x1<=482400000000000000000000000000000000000000000*n3)(t2:x2<=3600000000000000000000000000000000000000*n2)(t3:x3<=480000000000000000000000000000000000000000000*n3)(m1:n2<=n3)(m2:1606938044258990275541962092341162602522202993782792835301376*n3<=n4)(m4:0<n3):False:=by omega
theorem Hi{u e b u' e' b' A D:Int}(h:Fsm u e b)(h':Fsm u' e' b')(hD:2^200<=D)
 (n1:((b*A-u*D)*(b*A-u*D)-e*D*D).natAbs<=30000000000000*D.natAbs) (n2:((b'*A-u'*D)*(b'*A-u'*D)-e'*D*D).natAbs<=30000000000000*D.natAbs) :
 4*((b*u'-u*b')*(b*u'-u*b'))*(b*b*e')=(b'*b'*e-b*b*e'-(b*u'-u*b')*(b*u'-u*b'))*(b'*b'*e-b*b*e'-(b*u'-u*b')*(b*u'-u*b')):=by
 obtain⟨u1,u2,e0,e1,b1,b2⟩:=h;obtain⟨u1',u2',e0',e1',b1',b2'⟩:=h';obtain⟨N,rfl⟩:=Sz (show 0<=D by omega);rw[Q2]at n1 n2;have hN:1606938044258990275541962092341162602522202993782792835301376<=N:=by omega
 have q9:(b'*b').natAbs<=1000*1000:=dA (a:=1000) (b:=1000) (by omega) (by omega);have q9':(b*b).natAbs<=1000*1000:=dA (a:=1000) (b:=1000) (by omega) (by omega);have d1:=dA q9 n1;have d2:=dA q9' n2
 have hU:(b*u'-u*b').natAbs<=2000000000000:=by have a1:(b*u').natAbs<=1000*1000000000:=dA (by omega) (by omega);have a2:(u*b').natAbs<=1000000000*1000:=dA (by omega) (by omega);exact QL (So _ _) (SX a1 a2)
 have hE1:(b'*b'*e).natAbs<=1000*1000*10000000000000000:=dA q9 (by omega);have hE2:(b*b*e').natAbs<=1000*1000*10000000000000000:=dA q9' (by omega);have r1:(b'*(b*A-u*N))*(b'*(b*A-u*N))=b'*b'*e*(N*N)+b'*b'*((b*A-u*N)*(b*A-u*N)-e*N*N):=by grind
 have r2:(b*(b'*A-u'*N))*(b*(b'*A-u'*N))=b*b*e'*(N*N)+b*b*((b'*A-u'*N)*(b'*A-u'*N)-e'*N*N):=by grind
 have r3:b'*(b*A-u*N)=b*(b'*A-u'*N)+(b*u'-u*b')*N:=by grind
 generalize b'*b'*((b*A-u*N)*(b*A-u*N)-e*N*N)=δ1 at *
 generalize b*b*((b'*A-u'*N)*(b'*A-u'*N)-e'*N*N)=δ2 at *
 rw[r3]at r1;generalize b*(b'*A-u'*N)=Y at *
 generalize b*u'-u*b'=U at *
 generalize b'*b'*e=E1 at *
 generalize b*b*e'=E2 at *
 clear n1 n2 q9 q9' r3 u1 u2 e0 e1 b1 b2 u1' u2' e0' e1' b1' b2' hD;have hUU:(U*U).natAbs<=2000000000000*2000000000000:=dA hU hU;have hW:(E1-E2-U*U).natAbs<=4020000000000000000000000:=QL (So _ _) (QL (SX (QL (So _ _) (SX hE1 hE2)) hUU) (by decide));generalize hWd:E1-E2-U*U=W at *
 have r4:2*U*N*Y=W*(N*N)+(δ1-δ2):=by rw[<- hWd];grind
 have r5:(2*U*N*Y)*(2*U*N*Y)=4*(U*U)*(N*N)*(Y*Y):=by grind
 rw[r4,r2]at r5;have hM:(δ1-δ2).natAbs<=60000000000000000000*N:=QL (So _ _) (QL (SX d1 d2) (zg N).1);have hδ2:δ2.natAbs<=30000000000000000000*N:=QL d2 (zg N).2;generalize δ1-δ2=δ at *
 have hNN:(0:Int)<(N:Int)*N:=QC (by omega) (by omega);have r6:(4*(U*U)*E2-W*W)*(N*N)*(N*N)=2*W*δ*(N*N)+δ*δ-4*(U*U)*δ2*(N*N):=by grind
 refine Int.sub_eq_zero.mp (Classical.byContradiction λhne=>?_);generalize hZ:4*(U*U)*E2-W*W=Z at *
 have hZ1:1<=Z.natAbs:=by omega
 have b1:(Z*(N*N)*(N*N)).natAbs=Z.natAbs*(N*N)*(N*N):=by rw[QR,QR,QR,Q2]
 have t1:(2*W*δ*(N*N)).natAbs<=2*4020000000000000000000000*(60000000000000000000*N)*(N*N):=by refine dA (dA (dA (by decide) hW) hM) ?_;rw[QR,Q2];exact QD _
 have t2:(δ*δ).natAbs<=60000000000000000000*N*(60000000000000000000*N):=dA hM hM
 have t3:(4*(U*U)*δ2*(N*N)).natAbs<=4*(2000000000000*2000000000000)*(30000000000000000000*N)*(N*N):=by refine dA (dA (dA (by decide) hUU) hδ2) ?_;rw[QR,Q2];exact QD _
 have t4:1*(N*N)*(N*N)<=Z.natAbs*(N*N)*(N*N):=Ro _ (Ro _ hZ1);rw[<- b1,r6]at t4;have e1:2*4020000000000000000000000*(60000000000000000000*N)*(N*N)=482400000000000000000000000000000000000000000*(N*N*N):=by grind
 have e2:60000000000000000000*N*(60000000000000000000*N)=3600000000000000000000000000000000000000*(N*N):=by grind
 have e3:4*(2000000000000*2000000000000)*(30000000000000000000*N)*(N*N)=480000000000000000000000000000000000000000000*(N*N*N):=by grind
 have e4:1*(N*N)*(N*N)=N*(N*N*N):=by grind
 have m1:1*(N*N)<=N*(N*N):=Ro _ (by omega);have m2:1606938044258990275541962092341162602522202993782792835301376*(N*N*N)<=N*(N*N*N):=Ro _ hN;have m3:N*(N*N)=N*N*N:=by grind
 have m4:0<N*N*N:=Nat.mul_pos (Nat.mul_pos (by omega) (by omega)) (by omega);rw[e4]at t4;rw[e1]at t1;rw[e2]at t2;rw[e3]at t3;rw[Nat.one_mul,m3]at m1;exact Hh (QL t4 (QL (So _ _) (Nat.add_le_add_right (SS _ _) _))) t1 t2 t3 m1 m2 m4
theorem Dx{u e b u' e' b':Int}(h:Fsm u e b)(h':Fsm u' e' b')(hs:NS e)(hs':NS e')
 (eq:4*((b*u'-u*b')*(b*u'-u*b'))*(b*b*e')=(b'*b'*e-b*b*e'-(b*u'-u*b')*(b*u'-u*b'))*(b'*b'*e-b*b*e'-(b*u'-u*b')*(b*u'-u*b'))):ah [u,e,b]=ah [u',e',b']:=by
 obtain⟨u1,u2,e0,e1,b1,b2⟩:=h;obtain⟨u1',u2',e0',e1',b1',b2'⟩:=h'
 have key:b*u'-u*b'=0/\b'*b'*e=b*b*e':=by
  by_cases hz:e'=0
  ·subst hz
   have e3:(b'*b'*e-(b*u'-u*b')*(b*u'-u*b'))*(b'*b'*e-(b*u'-u*b')*(b*u'-u*b'))=0:=by
    have:b*b*(0:Int)=0:=QX _;rw[this]at eq;rw[QX]at eq;have h9:b'*b'*e-0-(b*u'-u*b')*(b*u'-u*b')=b'*b'*e-(b*u'-u*b')*(b*u'-u*b'):=by omega
    rw[h9]at eq;exact eq.symm
   have e4:b'*b'*e=(b*u'-u*b')*(b*u'-u*b'):=by rcases RX.mp e3 with z |z<;>omega
   by_cases hz2:e=0
   ·subst hz2;rw[QX]at e4;refine⟨?_,by rw[QX,QX]⟩;rcases RX.mp e4.symm with z |z<;>exact z
   ·exact(hs.no hz2 (by omega) e4).elim
  ·by_cases hU:b*u'-u*b'=0
   ·rw[hU]at eq
    have e3:(b'*b'*e-b*b*e')*(b'*b'*e-b*b*e')=0:=by
     have h8:4*((0:Int)*0)*(b*b*e')=0:=by rw[QX,QX,Q3]
     rw[h8]at eq;have h9:b'*b'*e-b*b*e'-0*0=b'*b'*e-b*b*e':=by omega
     rw[h9]at eq;exact eq.symm
    refine⟨hU,?_⟩;rcases RX.mp e3 with z |z<;>omega
   ·refine(hs'.no hz (x:=2*(b*u'-u*b')*b) (QU (QU (by decide) hU) (by omega)) (Eq.trans ?_ eq)).elim;grind
 obtain⟨k1,k2⟩:=key;show aA (aM u e b)=aA (aM u' e' b');obtain⟨tr,l2⟩:=gm (u:=u) (e:=e) b1;obtain⟨tr',l2'⟩:=gm (u:=u') (e:=e') b1';have hne:aM u e b≠[]:=λz=>by rw[z]at l2;simp at l2
 have hne':aM u' e' b'≠[]:=λz=>by rw[z]at l2';simp at l2'
 have hz:e=0↔e'=0:=by
  constructor
  ·intro z;rw[z,QX]at k2;rcases RX.mp k2.symm with y |y
   ·rcases RX.mp y with y |y<;>omega
   ·exact y
  ·intro z;rw[z,QX]at k2;rcases RX.mp k2 with y |y
   ·rcases RX.mp y with y |y<;>omega
   ·exact y
 have prop:∃x y:Int,x≠0/\y≠0/\∀n,x*cf (aM u' e' b') n=y*cf (aM u e b) n:=by
  by_cases h0:e=0
  ·have h0':=hz.mp h0;refine⟨b,b',by omega,by omega,λn=>?_⟩;unfold aM;rw[if_pos h0,if_pos h0',uQ,uQ];split
   ·have:b*u'=u*b':=by omega
    grind
   ·split
    ·grind
    ·omega
  ·have h0':¬e'=0:=λz=>h0 (hz.mpr z)
   refine⟨b*b,b'*b',QU (by omega) (by omega),QU (by omega) (by omega),λn=>?_⟩;have k3:b*u'=u*b':=by omega
   unfold aM;rw[if_neg h0,if_neg h0']
   match n with
   |0 =>
    show b*b*(u'*u'-e')=b'*b'*(u*u-e);have:(b*u')*(b*u')=(u*b')*(u*b'):=by rw[k3]
    grind
   |1 =>
    show b*b*(-2*b'*u')=b'*b'*(-2*b*u);have:b*b'*(b*u')=b*b'*(u*b'):=by rw[k3]
    grind
   |2 =>show b*b*(b'*b')=b'*b'*(b*b);grind
   |n+3 =>show b*b*0=b'*b'*0;omega
 obtain⟨x,y,hx,hy,hp⟩:=prop;refine sD (fy tr hne) (fy tr' hne') ?_ ?_
 ·rw[Dv.plain tr'];refine Dv.prop_right hx hp ?_;obtain⟨g,hg,eg⟩:=jW tr;exact⟨1,[g],by decide,λn=>by rw[f9,<- eg];omega⟩
 ·rw[Dv.plain tr];refine Dv.prop_right (x:=y) (y:=x) hy (λn=>(hp n).symm) ?_;obtain⟨g,hg,eg⟩:=jW tr';exact⟨1,[g],by decide,λn=>by rw[f9,<- eg];omega⟩
def FacG(f:List Int):Prop:=∃u e b:Int,f=[u,e,b] /\ -1000000000<=u/\u<=1000000000 /\ -10000000000000000<=e/\e<=10000000000000000/\1<=b/\b<=1000/\NS e
theorem FacG.q{f:List Int}(h:FacG f):fk f:=by obtain⟨u,e,b,rfl,_,_,_,_,h5,_⟩:=h;exact⟨u,e,b,rfl,h5⟩
def Cc(l l':List Int):Prop:=∀A B D:Int,2^200<=D->B=A+128->inS l A B D->inS l' A B D->False
theorem pG{fs:List (List Int)}(hF:∀f∈fs,FacG f)(hn:(fs.map ah).Nodup):(aL fs).Pairwise Cc:=by
 unfold aL;rw[List.pairwise_flatMap];constructor
 ·intro f hf;obtain⟨u,e,b,rfl,h1,h2,h3,h4,h5,h6,h7⟩:=hF f hf;have hd:spF [u,e,b]=(if 0<=e then[[u,e,b,1]]else[])++(if 0<e then[[u,e,b,-1]]else[]):=rfl;rw[hd];by_cases z:0<e
  ·rw[if_pos (by omega),if_pos z];show List.Pairwise _ [[u,e,b,1],[u,e,b,-1]];refine List.pairwise_pair.mpr λA B D hD hw a1 a2=>?_
   exact Cp ⟨h1,h2,by omega,h4,h5,h6⟩ z hD hw a1 a2
  ·rw[if_neg z];split
   ·exact List.pairwise_singleton _ _
   ·exact List.Pairwise.nil
 ·rw[List.nodup_iff_pairwise_ne,List.pairwise_map]at hn;refine hn.imp_of_mem λ{f g} hf hg hne x hx y hy A B D hD hw a1 a2=>hne ?_
  obtain⟨u,e,b,rfl,h1,h2,h3,h4,h5,h6,h7⟩:=hF f hf;obtain⟨u',e',b',rfl,h1',h2',h3',h4',h5',h6',h7'⟩:=hF g hg;obtain⟨_,s,rfl,he,hs⟩:=pH rfl h5 hx;obtain⟨_,s',rfl,he',hs'⟩:=pH rfl h5' hy;have F1:Fsm u e b:=⟨h1,h2,he,h4,h5,h6⟩;have F2:Fsm u' e' b':=⟨h1',h2',he',h4',h5',h6'⟩;exact Dx F1 F2 h7 h7' (Hi F1 F2 hD (ze F1 hs hD hw a1) (ze F2 hs' hD hw a2))
theorem dq{fs:List (List Int)}(hF:∀f∈fs,fk f){l:List Int}(hl:l∈aL fs):Spt l:=by obtain⟨f,hf,hm⟩:=R0.mp hl;obtain⟨u,e,b,rfl,hb⟩:=hF f hf;exact(pH rfl hb hm).1
noncomputable def pv:List Int->Rat->Rat
 | [],_=>0
 |c::l,x=>(c:Rat)+x*pv l x
theorem yJ:∀(N:Nat) (a b c:List Int) (u v:Int) (x:Rat),a.length<=N->b.length<=N->c.length<=N->(∀n,cf c n=u*cf a n+v*cf b n)->pv c x=(u:Rat)*pv a x+(v:Rat)*pv b x
 |0,a,b,c,u,v,x,ha,hb,hc,_=>by rw[Sf (Nat.le_zero.mp ha),Sf (Nat.le_zero.mp hb),Sf (Nat.le_zero.mp hc)];show(0:Rat)=u*0+v*0;grind
 |N+1,a,b,c,u,v,x,ha,hb,hc,h=>by
  have key:∀l:List Int,l.length<=N+1->pv l x=(cf l 0:Rat)+x*pv l.tail x/\l.tail.length<=N/\∀n,cf l.tail n=cf l (n+1):=λl hl=>by
   cases l with
   |nil=>exact⟨by show(0:Rat)=((0:Int):Rat)+x*0;grind,QH _,λn=>by rw[cK];rfl⟩
   |cons y l=>exact⟨rfl,by simpa using hl,λn=>rfl⟩
  obtain⟨a1,a2,a3⟩:=key a ha;obtain⟨b1,b2,b3⟩:=key b hb;obtain⟨c1,c2,c3⟩:=key c hc;have ih:=yJ N a.tail b.tail c.tail u v x a2 b2 c2 λn=>by rw[a3,b3,c3,h]
  have h0:(cf c 0:Rat)=(u:Rat)*(cf a 0:Rat)+(v:Rat)*(cf b 0:Rat):=by rw[h 0,SG,QI,QI]
  rw[a1,b1,c1,ih,h0];grind
theorem n5{a b c:List Int}{u v:Int}(x:Rat)(h:∀n,cf c n=u*cf a n+v*cf b n):pv c x=(u:Rat)*pv a x+(v:Rat)*pv b x :=
 yJ (a.length+b.length+c.length) a b c u v x (by omega) (by omega) (by omega) h
theorem lu{a c:List Int}{u:Int}(x:Rat)(h:∀n,cf c n=u*cf a n):pv c x=(u:Rat)*pv a x:=by
 have:=n5 (a:=a) (b:=[]) (c:=c) (u:=u) (v:=0) x λn=>by rw[h n,Q3,Rk]
 rw[this];show _+((0:Int):Rat)*0=_;grind
theorem yI(x:Rat):∀(a b c:List Int),(∀n,cf c n=aC a b n)->pv c x=pv a x*pv b x
 | [],b,c,h=>by
  have:=lu (a:=[]) (c:=c) (u:=0) x λn=>by rw[h n,eV];simp
  rw[this];show _=(0:Rat)*_;show((0:Int):Rat)*0=0*_;grind
 |y::a,b,c,h=>by
  have ih:=yI x a b (af a b) (aN a b)
  have:=n5 (a:=b) (b:=0::af a b) (c:=c) (u:=y) (v:=1) x λn=>by
   rw[h n,eD,o3,QZ]
   congr 1
   unfold up;split
   ·rfl
   ·rw[aN]
  rw[this];show(y:Rat)*pv b x+((1:Int):Rat)*(((0:Int):Rat)+x*pv (af a b) x)=((y:Rat)+x*pv a x)*pv b x;rw[ih];grind
theorem fY{a b:Rat}(ha:0<a)(hb:0<b):0<a/b:=by rw[Rat.div_def];exact QV ha (Rat.inv_pos.mpr hb)
noncomputable def Bd(M v:Rat):Prop := -M<=v/\v<=M
theorem Bd.mul{M N u v:Rat}(h1:Bd M u)(h2:Bd N v):Bd (M*N) (u*v):=by obtain⟨a,b⟩:=h1;obtain⟨c,d⟩:=h2;have p1:0<=(M-u)*(N-v):=Q0 (by grind) (by grind);have p2:0<=(M+u)*(N+v):=Q0 (by grind) (by grind);have p3:0<=(M-u)*(N+v):=Q0 (by grind) (by grind);have p4:0<=(M+u)*(N-v):=Q0 (by grind) (by grind);constructor<;>grind
theorem Bd.add{M N u v:Rat}(h1:Bd M u)(h2:Bd N v):Bd (M+N) (u+v):=by obtain⟨a,b⟩:=h1;obtain⟨c,d⟩:=h2;constructor<;>grind
theorem Bd.mono{M N u:Rat}(h1:Bd M u)(h:M<=N):Bd N u:=by obtain⟨a,b⟩:=h1;constructor<;>grind
def Nice(f:Rat->Rat):Prop:=∀R:Rat,0<=R->∃M:Rat,0<=M/\(∀x,Bd R x->Bd M (f x))/\∀x y,Bd R x->Bd R y->x<=y->Bd (M*(y-x)) (f y-f x)
theorem j4(c:Rat):Nice λ_=>c:=λR _=>by
 rcases Rs (a:=0) (b:=c)with h |h
 ·exact⟨c,h,λx _=>⟨by grind,by grind⟩,λx y _ _ hxy=>by
   have:=Q0 h (show 0<=y-x by grind)
   exact⟨by grind,by grind⟩⟩
 ·exact⟨-c,by grind,λx _=>⟨by grind,by grind⟩,λx y _ _ hxy=>by
   have:=Q0 (show 0 <= -c by grind) (show 0<=y-x by grind)
   exact⟨by grind,by grind⟩⟩
theorem nice_id:Nice λx=>x:=λR hR=>by refine⟨R+1,by grind,λx h=>h.mono (by grind),λx y _ _ hxy=>?_⟩;have:=Q0 hR (show 0<=y-x by grind);exact⟨by grind,by grind⟩
theorem Nice.add{f g:Rat->Rat}(hf:Nice f)(hg:Nice g):Nice λx=>f x+g x:=λR hR=>by
 obtain⟨M,m0,m1,m2⟩:=hf R hR;obtain⟨N,n0,n1,n2⟩:=hg R hR;refine⟨M+N,by grind,λx h=>(m1 x h).add (n1 x h),λx y hx hy hxy=>?_⟩;have:=(m2 x y hx hy hxy).add (n2 x y hx hy hxy);have e1:M*(y-x)+N*(y-x)=(M+N)*(y-x):=by grind
 have e2:f y-f x+(g y-g x)=f y+g y-(f x+g x):=by grind
 rwa [e1,e2]at this
theorem Nice.mul{f g:Rat->Rat}(hf:Nice f)(hg:Nice g):Nice λx=>f x*g x:=λR hR=>by
 obtain⟨M,m0,m1,m2⟩:=hf R hR;obtain⟨N,n0,n1,n2⟩:=hg R hR;have p:=Q0 m0 n0;refine⟨2*(M*N),by grind,λx h=>((m1 x h).mul (n1 x h)).mono (by grind),λx y hx hy hxy=>?_⟩;have:=((m2 x y hx hy hxy).mul (n1 y hy)).add ((m1 x hx).mul (n2 x y hx hy hxy));have e1:M*(y-x)*N+M*(N*(y-x))=2*(M*N)*(y-x):=by grind
 have e2:(f y-f x)*g y+f x*(g y-g x)=f y*g y-f x*g x:=by grind
 rwa [e1,e2]at this
theorem fG:∀l:List Int,Nice (pv l)
 | []=>j4 0
 |c::l=>(j4 (c:Rat)).add (nice_id.mul (fG l))
theorem yH:∀(l:List Int) (R:Rat),0<=R->∃M:Rat,0<=M/\∀x y,Bd R x->Bd R y->x<=y->Bd (M*((y-x)*(y-x))) (pv l y-pv l x-(y-x)*pv (slopeL l) x)
 | [],R,_=>⟨0,by grind,λx y _ _ _=>by
  have e:pv [] y-pv [] x-(y-x)*pv (slopeL []) x=0:=by show(0:Rat)-0-(y-x)*0=0;grind
  rw[e];constructor<;>grind⟩
 |c::l,R,hR=>by
  obtain⟨M,m0,m1⟩:=yH l R hR;obtain⟨N,n0,n1,n2⟩:=fG l R hR;have p:=Q0 hR m0;refine⟨N+R*M,by grind,λx y hx hy hxy=>?_⟩
  have hd:pv (slopeL (c::l)) x=pv l x+x*pv (slopeL l) x:=by
   have:=n5 (a:=l) (b:=0::slopeL l) (c:=slopeL (c::l)) (u:=1) (v:=1) x λn=>xV c l n
   rw[this];show((1:Int):Rat)*pv l x+((1:Int):Rat)*(((0:Int):Rat)+x*pv (slopeL l) x)=_;grind
  have hz:Bd (y-x) (y-x):=⟨by grind,by grind⟩;have:=(hz.mul (n2 x y hx hy hxy)).add (hx.mul (m1 x y hx hy hxy));have e1:(y-x)*(N*(y-x))+R*(M*((y-x)*(y-x)))=(N+R*M)*((y-x)*(y-x)):=by grind
  have e2:(y-x)*(pv l y-pv l x)+x*(pv l y-pv l x-(y-x)*pv (slopeL l) x)=pv (c::l) y-pv (c::l) x-(y-x)*pv (slopeL (c::l)) x:=by rw[hd];show _=((c:Rat)+y*pv l y)-((c:Rat)+x*pv l x)-_;grind
  rwa [e1,e2]at this
noncomputable def sgR(v:Rat):Int:=if v<0 then -1 else if 0<v then 1 else 0
theorem cN(v:Rat):(v<0/\sgR v = -1)\/(v=0/\sgR v=0)\/(0<v/\sgR v=1):=by
 unfold sgR;by_cases h:v<0
 ·exact .inl ⟨h,by rw[if_pos h]⟩
 ·by_cases h2:0<v
  ·exact .inr (.inr ⟨h2,by rw[if_neg h,if_pos h2]⟩)
  ·exact .inr (.inl ⟨by grind,by rw[if_neg h,if_neg h2]⟩)
def Sta(f:Rat->Rat)(x y:Rat):Prop:=sgR (f x)=sgR (f y)/\sgR (f x)≠0
theorem sR{f:Rat->Rat}{x y D:Rat}(h:¬Sta f x y)(hd:Bd D (f y-f x)):Bd D (f x)/\Bd D (f y):=by
 obtain⟨d1,d2⟩:=hd
 have key:(f x<=0/\0<=f y)\/(0<=f x/\f y<=0):=by
  rcases cN (f x)with⟨a,b⟩ |⟨a,b⟩ |⟨a,b⟩<;>rcases cN (f y)with⟨c,d⟩ |⟨c,d⟩ |⟨c,d⟩
  ·exact absurd ⟨by rw[b,d],by rw[b];decide⟩ h
  ·exact .inl ⟨by grind,by grind⟩
  ·exact .inl ⟨by grind,by grind⟩
  ·exact .inr ⟨by grind,by grind⟩
  ·exact .inl ⟨by grind,by grind⟩
  ·exact .inl ⟨by grind,by grind⟩
  ·exact .inr ⟨by grind,by grind⟩
  ·exact .inr ⟨by grind,by grind⟩
  ·exact absurd ⟨by rw[b,d],by rw[b];decide⟩ h
 rcases key with⟨a,b⟩ |⟨a,b⟩
 ·exact⟨⟨by grind,by grind⟩,⟨by grind,by grind⟩⟩
 ·exact⟨⟨by grind,by grind⟩,⟨by grind,by grind⟩⟩
inductive SRow:List (List Int)->Prop
 |last {c:Int} (h:c≠0):SRow [[c]]
 |two {a:List Int} {c:Int} (h:c≠0):SRow [a,[c]]
 |cons {a b c:List Int} {r:List (List Int)} {q:List Int} {α β:Rat} (hα:0<α) (hβ:0<β) (e:∀x,α*pv a x=pv q x*pv b x-β*pv c x) (h:SRow (b::c::r)):SRow (a::b::c::r)
theorem sC(c:Int)(x:Rat):pv [c] x=(c:Rat):=by show(c:Rat)+x*0=c;grind
theorem bez:∀{row:List (List Int)},SRow row->∀a b r,row=a::b::r->∃(A B:Rat->Rat) (k:Rat),Nice A/\Nice B/\k≠0/\∀x,A x*pv a x+B x*pv b x=k
 |_,.last h,a,b,r,e=>by cases e
 |_,.two (c:=c) h,a,b,r,e=>by cases e;refine⟨λ_=>0,λ_=>1,(c:Rat),j4 0,j4 1,λz=>h (SH.mp (by rw[z];rfl)),λx=>?_⟩;rw[sC];grind
 |_,.cons (a:=a0) (b:=b0) (c:=c) (q:=q) (α:=α) (β:=β) hα hβ eq h,a,b,r,e=>by
  cases e;obtain⟨A,B,k,nA,nB,hk,hAB⟩:=bez h _ _ _ rfl;refine⟨λx=>(-α)*B x,λx=>β*A x+B x*pv q x,β*k,(j4 (-α)).mul nB,((j4 β).mul nA).add (nB.mul (fG q)),λz=>?_,λx=>?_⟩
  ·rcases Rat.mul_eq_zero.mp z with y |y
   ·grind
   ·exact hk y
  ·have h1:=hAB x;have h2:=eq x;have:(-α)*B x*pv a0 x+(β*A x+B x*pv q x)*pv b0 x=B x*(pv q x*pv b0 x-α*pv a0 x)+β*A x*pv b0 x:=by grind
   rw[this,h2];have:B x*(pv q x*pv b0 x-(pv q x*pv b0 x-β*pv c x))+β*A x*pv b0 x=β*(A x*pv b0 x+B x*pv c x):=by grind
   rw[this,h1]
theorem yS{a b:Rat->Rat}(na:Nice a)(nb:Nice b){A B:Rat->Rat}{k:Rat}(nA:Nice A)(nB:Nice B)(hk:0<k)(hAB:∀x,A x*a x+B x*b x=k\/A x*a x+B x*b x = -k){R:Rat}(hR:0<=R) :
 ∃(δ κ:Rat),0<δ/\0<κ/\∀x y,Bd R x->Bd R y->x<y->y-x<=δ->¬Sta a x y->Sta b x y/\(κ<=b x\/b x <= -κ)/\(κ<=b y\/b y <= -κ):=by
 obtain⟨M1,p1,q1,r1⟩:=na R hR;obtain⟨M2,p2,q2,r2⟩:=nb R hR;obtain⟨M3,p3,q3,_⟩:=nA R hR;obtain⟨M4,p4,q4,_⟩:=nB R hR;have h31:=Q0 p3 p1;have h42:=Q0 p4 p2;have hT:0<2*(M3*M1+M4*M2+1):=by grind
 have hT4:0<2*(M4+1):=by grind
 refine⟨k/(2*(M3*M1+M4*M2+1)),k/(2*(M4+1)),fY hk hT,fY hk hT4,λx y hx hy hxy hd hs=>?_⟩
 have hd':(y-x)*(2*(M3*M1+M4*M2+1))<=k:=by
  have:=Rq hd (QM hT)
  rwa [QW (by grind)]at this
 have hyx:0<y-x:=by grind
 obtain⟨a1,a2⟩:=sR hs (r1 x y hx hy (by grind));have hM1:0<=M1*(y-x):=Q0 p1 (QM hyx)
 have far:∀z,Bd R z->Bd (M1*(y-x)) (a z)->k/(2*(M4+1))<=b z\/b z <= -(k/(2*(M4+1))):=λz hz ha=>by
  have e1:=(q3 z hz).mul ha
  have e2:2*(M3*(M1*(y-x)))<=k:=by have h1:=Q0 h42 (QM hyx);grind
  have hB:(k<=2*(B z*b z))\/(2*(B z*b z) <= -k):=by
   obtain⟨f1,f2⟩:=e1;rcases hAB z with g |g
   ·left;grind
   ·right;grind
  rcases Rs (a:=k/(2*(M4+1))) (b:=b z)with g |g
  ·exact .inl g
  ·rcases Rs (a:=b z) (b := -(k/(2*(M4+1))))with g2 |g2
   ·exact .inr g2
   ·exfalso;have hb:Bd (k/(2*(M4+1))) (b z):=⟨g2,g⟩;obtain⟨f1,f2⟩:=(q4 z hz).mul hb
    have e3:2*(M4*(k/(2*(M4+1))))<k:=by
     have e4:k/(2*(M4+1))*(2*(M4+1))=k:=QW (by grind);have e5:=fY hk hT4;generalize k/(2*(M4+1))=w at *
     grind
    rcases hB with g3 |g3<;>grind
 refine⟨Classical.byContradiction λhs2=>?_,far x hx a1,far y hy a2⟩;obtain⟨b1,b2⟩:=sR hs2 (r2 x y hx hy (by grind));obtain⟨e1,e2⟩:=(q3 x hx).mul a1;obtain⟨e3,e4⟩:=(q4 x hx).mul b1;have hM:0<=(M3*M1+M4*M2)*(y-x):=Q0 (by grind) (QM hyx);have e5:M3*(M1*(y-x))+M4*(M2*(y-x))=(M3*M1+M4*M2)*(y-x):=by grind
 have e6:(y-x)*(2*(M3*M1+M4*M2+1))=2*((M3*M1+M4*M2)*(y-x))+2*(y-x):=by grind
 rcases hAB x with g |g<;>grind
theorem BQ{row:List (List Int)}(h:SRow row){a b:List Int}{r:List (List Int)}(e:row=a::b::r):∃(A B:Rat->Rat) (k:Rat),Nice A/\Nice B/\0<k/\∀x,A x*pv a x+B x*pv b x=k\/A x*pv a x+B x*pv b x = -k:=by
 obtain⟨A,B,k,nA,nB,hk,hAB⟩:=bez h a b r e;rcases Rs (a:=0) (b:=k)with g |g
 ·exact⟨A,B,k,nA,nB,by grind,λx=>.inl (hAB x)⟩
 ·exact⟨A,B,-k,nA,nB,by grind,λx=>.inr (by rw[hAB x];grind)⟩
noncomputable def vr:Int->List Int->Int
 |_,[]=>0
 |b,s::r=>(if s*b<0 then 1 else 0)+vr (if s=0 then b else s) r
theorem Bw:∀(l:List Int) (n b:Int),l.foldl chF (n,b)=(n+vr b l,(l.foldl chF (n,b)).2)
 | [],n,b=>by show(n,b)=(n+0,b);rw[Rk]
 |s::r,n,b=>by
  show r.foldl chF (chF (n,b) s)=(n+((if s*b<0 then 1 else 0)+vr (if s=0 then b else s) r),(r.foldl chF (chF (n,b) s)).2)
  have e:chF (n,b) s=(n+(if s*b<0 then 1 else 0),if s=0 then b else s):=by
   unfold chF;by_cases h:s*b<0
   ·rw[if_pos h,if_pos h]
   ·rw[if_neg h,if_neg h,Rk]
  rw[e];have:=Bw r (n+(if s*b<0 then 1 else 0)) (if s=0 then b else s);rw[Int.add_assoc]at this;exact this
theorem BA(l:List Int):(chS l).1=vr 0 l:=by unfold chS;rw[Bw l 0 0];show 0+vr 0 l=_;omega
def iK(s:Int):Prop:=s=1\/s=0\/s = -1
inductive Al:Int->List Int->List Int->Prop
 |nil {b:Int}:Al b [] []
 |stab {b s:Int} {r r':List Int} (h:s≠0) (t:Al s r r'):Al b (s::r) (s::r')
 |unst {b s s':Int} {r r':List Int} (h1:iK s) (h2:iK s') (t:Al (-b) r r'):Al b (s :: -b::r) (s' :: -b::r')
theorem vV{b s:Int}(hb:b=1\/b = -1)(hs:iK s)(r:List Int):vr b (s :: -b::r)=1+vr (-b) r:=by
 have hb0:¬(-b=0):=by omega
 rcases hs with rfl |rfl |rfl
 ·rcases hb with rfl |rfl<;>simp[vr]
 ·rcases hb with rfl |rfl<;>simp[vr]
 ·rcases hb with rfl |rfl<;>simp[vr]
theorem Al.vr:∀{b:Int} {r r':List Int},Al b r r'->(b=1\/b = -1)->(∀s∈r,iK s)->RM.vr b r=RM.vr b r'
 |_,_,_,.nil,_,_=>rfl
 |b,_,_,.stab (s:=s) (r:=r) (r':=r') h t,hb,hu=>by
  have hs:iK s:=hu s (QN ..);have hs':s=1\/s = -1:=by rcases hs with z |z |z;exact .inl z;exact absurd z h;exact .inr z
  have ih:=Al.vr t hs' λx hx=>hu x (QJ _ hx)
  show _+RM.vr (if s=0 then b else s) r=_+RM.vr (if s=0 then b else s) r';rw[if_neg h,ih]
 |b,_,_,.unst h1 h2 t,hb,hu=>by
  have ih:=Al.vr t (by omega) λx hx=>hu x (QJ _ (QJ _ hx))
  rw[vV hb h1,vV hb h2,ih]
noncomputable def sgX(row:List (List Int))(x:Rat):List Int:=row.map λf=>sgR (pv f x)
theorem nS(v:Rat):iK (sgR v):=by
 rcases cN v with⟨_,h⟩ |⟨_,h⟩ |⟨_,h⟩<;>rw[h]
 ·exact .inr (.inr rfl)
 ·exact .inr (.inl rfl)
 ·exact .inl rfl
theorem yc(row:List (List Int))(x:Rat):∀s∈sgX row x,iK s:=λs hs=>by obtain⟨f,_,rfl⟩:=QQ.mp hs;exact nS _
def B6(row:List (List Int))(R:Rat):Prop:=∃δ:Rat,0<δ/\∀x y,Bd R x->Bd R y->x<y->y-x<=δ->∀a r,row=a::r->Sta (pv a) x y->Al (sgR (pv a x)) (sgX r x) (sgX r y)
theorem DI{c:Int}(h:c≠0):sgR (c:Rat)≠0:=by
 rcases cN (c:Rat)with⟨_,e⟩ |⟨z,_⟩ |⟨_,e⟩
 ·rw[e];decide
 ·exact absurd (SH.mp (by rw[z];rfl)) h
 ·rw[e];decide
theorem zL:∀{row:List (List Int)},SRow row->∀R:Rat,0<=R->B6 row R/\B6 row.tail R
 |_,.last h,R,_=>⟨⟨1,by grind,λx y _ _ _ _ a r e _=>by cases e;exact .nil⟩,⟨1,by grind,λx y _ _ _ _ a r e _=>by cases e⟩⟩
 |_,.two (c:=c) h,R,_=>by refine⟨⟨1,by grind,λx y _ _ _ _ a r e _=>?_⟩,⟨1,by grind,λx y _ _ _ _ a r e _=>by cases e;exact .nil⟩⟩;cases e;show Al _ [sgR (pv [c] x)] [sgR (pv [c] y)];rw[sC,sC];exact .stab (DI h) .nil
 |_,.cons (a:=a) (b:=b) (c:=c) (r:=r) (q:=q) (α:=α) (β:=β) hα hβ eq h,R,hR=>by
  obtain⟨⟨δ1,d1,l1⟩,⟨δ2,d2,l2⟩⟩:=zL h R hR;refine⟨?_,⟨δ1,d1,l1⟩⟩;obtain⟨A,B,k,nA,nB,hk,hAB⟩:=BQ h rfl;obtain⟨δ3,κ,d3,hκ,l3⟩:=yS (fG b) (fG c) nA nB hk hAB hR;obtain⟨M,m0,m1,m2⟩:=fG b R hR;obtain⟨N,n0,n1,_⟩:=fG q R hR;have hMN:=Q0 n0 m0;have hT:0<N*M+1:=by grind
  have hβκ:=QV hβ hκ
  obtain⟨δ,hδ,g1,g2,g3,g4⟩:∃δ:Rat,0<δ/\δ<=δ1/\δ<=δ2/\δ<=δ3/\δ*(N*M+1)<=β*κ:=by
   have hw:=fY hβκ hT;have hw2:β*κ/(N*M+1)*(N*M+1)=β*κ:=QW (by grind)
   have two:∀u v:Rat,0<u->0<v->∃w:Rat,0<w/\w<=u/\w<=v:=λu v hu hv=>by
    rcases Rs (a:=u) (b:=v)with z |z
    ·exact⟨u,hu,Q6,z⟩
    ·exact⟨v,hv,z,Q6⟩
   obtain⟨u,hu,u1,u2⟩:=two δ1 δ2 d1 d2;obtain⟨v,hv,v1,v2⟩:=two u δ3 hu d3;obtain⟨w,hw',w1,w2⟩:=two v _ hv hw;refine⟨w,hw',by grind,by grind,by grind,?_⟩;have:=Rq w2 (QM hT)
   rwa [hw2]at this
  refine⟨δ,hδ,λx y hx hy hxy hd a' r' e sa=>?_⟩;cases e;show Al (sgR (pv a x)) (sgR (pv b x)::sgX (c::r) x) (sgR (pv b y)::sgX (c::r) y);by_cases sb:Sta (pv b) x y
  ·have t:=l1 x y hx hy hxy (by grind) b (c::r) rfl sb;rw[<- sb.1];exact .stab sb.2 t
  ·obtain⟨sc,c1,c2⟩:=l3 x y hx hy hxy (by grind) sb;obtain⟨b1,_⟩:=sR sb (m2 x y hx hy (by grind));have hyx:0<y-x:=by grind
   have hop:sgR (pv c x) = -sgR (pv a x):=by
    obtain⟨f1,f2⟩:=(n1 x hx).mul b1;have e1:=eq x
    have e2:N*(M*(y-x))<β*κ:=by have h1:(y-x)*(N*M+1)<=δ*(N*M+1):=Rq hd (QM hT);grind
    rcases c1 with z |z
    ·have h2:β*κ<=β*pv c x:=Rg z (QM hβ);have h3:α*pv a x<0:=by grind
     have h4:pv a x<0:=by
      rcases Rs (a:=0) (b:=pv a x)with w |w
      ·have:=Q0 (QM hα) w;grind
      ·rcases cN (pv a x)with⟨w2,_⟩ |⟨w2,_⟩ |⟨w2,_⟩
       ·exact w2
       ·rw[w2]at h3;grind
       ·grind
     rcases cN (pv c x)with⟨w,_⟩ |⟨w,_⟩ |⟨_,w⟩
     ·grind
     ·grind
     ·rcases cN (pv a x)with⟨_,v⟩ |⟨v,_⟩ |⟨v,_⟩
      ·rw[w,v];decide
      ·grind
      ·grind
    ·have h2:β*pv c x<=β*(-κ):=Rg z (QM hβ);have h3:0<α*pv a x:=by grind
     have h4:0<pv a x:=by
      rcases cN (pv a x)with⟨w2,_⟩ |⟨w2,_⟩ |⟨w2,_⟩
      ·have:=Q0 (QM hα) (show 0 <= -pv a x by grind);grind
      ·rw[w2]at h3;grind
      ·exact w2
     rcases cN (pv c x)with⟨_,w⟩ |⟨w,_⟩ |⟨w,_⟩
     ·rcases cN (pv a x)with⟨v,_⟩ |⟨v,_⟩ |⟨_,v⟩
      ·grind
      ·grind
      ·rw[w,v]
     ·grind
     ·grind
   have hop':sgR (pv c y) = -sgR (pv a x):=by rw[<- sc.1];exact hop
   have t:Al (sgR (pv c x)) (sgX r x) (sgX r y):=l2 x y hx hy hxy (by grind) c r rfl sc;rw[hop]at t;show Al _ (_::sgR (pv c x)::sgX r x) (_::sgR (pv c y)::sgX r y);rw[hop,hop'];exact .unst (nS _) (nS _) t
noncomputable def chg(f:Rat->Rat)(x y:Rat):Int:=if sgR (f x)≠0/\sgR (f y)≠sgR (f x)then 1 else 0
noncomputable def vrs(row:List (List Int))(x:Rat):Int:=vr 0 (sgX row x)
theorem pb{s:Int}(r:List Int):vr 0 (s::r)=vr s r:=by
 show(if s*0<0 then 1 else 0)+vr (if s=0 then 0 else s) r=_;rw[QX,if_neg (by decide),Ru];split
 ·rename_i h;rw[h]
 ·rfl
theorem Dd{F0 F1:List Int}{r:List (List Int)}(h:SRow (F0::F1::r)){γ:Rat}(hγ:0<γ)(hd:∀x,pv (slopeL F0) x=γ*pv F1 x){R:Rat}(hR:0<=R) :
 ∃δ:Rat,0<δ/\∀x y,Bd R x->Bd R y->x<y->y-x<=δ->vrs (F0::F1::r) x-vrs (F0::F1::r) y=chg (pv F0) x y:=by
 obtain⟨⟨δ1,d1,l1⟩,⟨δ2,d2,l2⟩⟩:=zL h R hR;obtain⟨A,B,k,nA,nB,hk,hAB⟩:=BQ h rfl;obtain⟨δ3,κ,d3,hκ,l3⟩:=yS (fG F0) (fG F1) nA nB hk hAB hR;obtain⟨M,m0,m1⟩:=yH F0 R hR;have hγκ:=QV hγ hκ
 obtain⟨δ,hδ,g1,g2,g3,g4⟩:∃δ:Rat,0<δ/\δ<=δ1/\δ<=δ2/\δ<=δ3/\δ*(M+1)<=γ*κ:=by
  have hT:0<M+1:=by grind
  have hw:=fY hγκ hT;have hw2:γ*κ/(M+1)*(M+1)=γ*κ:=QW (by grind)
  have two:∀u v:Rat,0<u->0<v->∃w:Rat,0<w/\w<=u/\w<=v:=λu v hu hv=>by
   rcases Rs (a:=u) (b:=v)with z |z
   ·exact⟨u,hu,Q6,z⟩
   ·exact⟨v,hv,z,Q6⟩
  obtain⟨u,hu,u1,u2⟩:=two δ1 δ2 d1 d2;obtain⟨v,hv,v1,v2⟩:=two u δ3 hu d3;obtain⟨w,hw',w1,w2⟩:=two v _ hv hw;refine⟨w,hw',by grind,by grind,by grind,?_⟩;have:=Rq w2 (QM hT)
  rwa [hw2]at this
 refine⟨δ,hδ,λx y hx hy hxy hyd=>?_⟩;have e0:∀z,vrs (F0::F1::r) z=vr (sgR (pv F0 z)) (sgX (F1::r) z):=λz=>pb _
 have nz:∀{v:Rat},sgR v≠0->sgR v=1\/sgR v = -1:=λ{v} hv=>by rcases nS v with z |z |z;exact .inl z;exact absurd z hv;exact .inr z
 rw[e0,e0];by_cases s0:Sta (pv F0) x y
 ·have t:=(l1 x y hx hy hxy (by grind) F0 (F1::r) rfl s0).vr (nz s0.2) (yc _ _);rw[<- s0.1,t];unfold chg;rw[if_neg (λz=>z.2 s0.1.symm)];omega
 ·obtain⟨s1,c1,c2⟩:=l3 x y hx hy hxy (by grind) s0;have t:=(l2 x y hx hy hxy (by grind) F1 r rfl s1).vr (nz s1.2) (yc _ _);have hyx:0<y-x:=by grind
  have hyy:0<(y-x)*(y-x):=QV hyx hyx;obtain⟨f1,f2⟩:=m1 x y hx hy (by grind)
  have small:M*((y-x)*(y-x))<(y-x)*(γ*κ):=by
   have h1:(y-x)*(M+1)<=γ*κ:=by have:=Rq hyd (show 0<=M+1 by grind);grind
   have h2:(y-x)*((y-x)*(M+1))<=(y-x)*(γ*κ):=Rg h1 (QM hyx);grind
  rw[hd]at f1 f2;show vr (sgR (pv F0 x)) (sgR (pv F1 x)::sgX r x)-vr (sgR (pv F0 y)) (sgR (pv F1 y)::sgX r y)=_
  have hu:∀(b s:Int) (l:List Int),s≠0->vr b (s::l)=(if s*b<0 then 1 else 0)+vr s l:=λb s l hs=>by show _+vr (if s=0 then b else s) l=_;rw[if_neg hs]
  have s1':sgR (pv F1 y)=sgR (pv F1 x):=s1.1.symm;rw[s1',hu _ _ _ s1.2,hu _ _ _ s1.2,t];unfold chg;rcases c1 with z |z
  ·
   have h1:γ*κ<=γ*pv F1 x:=Rg z (QM hγ);have h2:(y-x)*(γ*κ)<=(y-x)*(γ*pv F1 x):=Rg h1 (QM hyx);have rise:pv F0 x<pv F0 y:=by grind
   have s1p:sgR (pv F1 x)=1:=by
    rcases cN (pv F1 x)with⟨w,_⟩ |⟨w,_⟩ |⟨_,w⟩
    ·grind
    ·grind
    ·exact w
   rw[s1p];rcases cN (pv F0 x)with⟨a1,a2⟩ |⟨a1,a2⟩ |⟨a1,a2⟩<;>rcases cN (pv F0 y)with⟨b1,b2⟩ |⟨b1,b2⟩ |⟨b1,b2⟩
   ·exact absurd ⟨by rw[a2,b2],by rw[a2];decide⟩ s0
   ·rw[a2,b2];simp
   ·rw[a2,b2];simp
   ·grind
   ·grind
   ·rw[a2,b2];simp
   ·grind
   ·grind
   ·exact absurd ⟨by rw[a2,b2],by rw[a2];decide⟩ s0
  ·have h1:γ*pv F1 x<=γ*(-κ):=Rg z (QM hγ);have h2:(y-x)*(γ*pv F1 x)<=(y-x)*(γ*(-κ)):=Rg h1 (QM hyx);have fall:pv F0 y<pv F0 x:=by grind
   have s1p:sgR (pv F1 x) = -1:=by
    rcases cN (pv F1 x)with⟨_,w⟩ |⟨w,_⟩ |⟨w,_⟩
    ·exact w
    ·grind
    ·grind
   rw[s1p];rcases cN (pv F0 x)with⟨a1,a2⟩ |⟨a1,a2⟩ |⟨a1,a2⟩<;>rcases cN (pv F0 y)with⟨b1,b2⟩ |⟨b1,b2⟩ |⟨b1,b2⟩
   ·exact absurd ⟨by rw[a2,b2],by rw[a2];decide⟩ s0
   ·grind
   ·grind
   ·rw[a2,b2];simp
   ·grind
   ·grind
   ·rw[a2,b2];simp
   ·rw[a2,b2];simp
   ·exact absurd ⟨by rw[a2,b2],by rw[a2];decide⟩ s0
structure Cut(s:Rat->Int):Prop where
 u:∀x,iK (s x)
 m:∀x y,x<y->s x<=0->s y = -1
noncomputable def cnt(S:List (Rat->Int))(x y:Rat):Int:=(S.map λs=>if 0<s x/\s y<=0 then(1:Int)else 0).sum
theorem Bo(x y:Rat):cnt [] x y=0:=rfl
theorem fg(s:Rat->Int)(S:List (Rat->Int))(x y:Rat):cnt (s::S) x y=(if 0<s x/\s y<=0 then 1 else 0)+cnt S x y:=by unfold cnt;rw[Ri,List.sum_cons]
theorem uP{x y z:Rat}(hxy:x<y)(hyz:y<z):∀{S:List (Rat->Int)},(∀s∈S,Cut s)->cnt S x z=cnt S x y+cnt S y z
 | [],_=>rfl
 |s::S,h=>by
  have hs:=h s (QN ..);have ih:=uP hxy hyz (S:=S) λt ht=>h t (QJ _ ht)
  rw[fg,fg,fg,ih]
  have e:(if 0<s x/\s z<=0 then(1:Int)else 0)=(if 0<s x/\s y<=0 then 1 else 0)+(if 0<s y/\s z<=0 then 1 else 0):=by
   by_cases hy:s y<=0
   ·have hz:=hs.m y z hyz hy;rw[if_neg (show ¬(0<s y/\s z<=0) by omega)];by_cases hx:0<s x
    ·rw[if_pos ⟨hx,by omega⟩,if_pos ⟨hx,hy⟩];rfl
    ·rw[if_neg (by omega),if_neg (by omega)];rfl
   ·have hx:0<s x:=by
     rcases RZ 0 (s x)with q |q
     ·exact q
     ·have:=hs.m x y hxy q;omega
    rw[if_neg (show ¬(0<s x/\s y<=0) by omega)];by_cases hz:s z<=0
    ·rw[if_pos ⟨hx,hz⟩,if_pos ⟨by omega,hz⟩];rfl
    ·rw[if_neg (by omega),if_neg (by omega)];rfl
  rw[e];omega
noncomputable def cpr(x:Rat):List (Rat->Int)->Int
 | []=>1
 |s::S => -s x*cpr x S
theorem o1(x:Rat):∀a b,cpr x (a++b)=cpr x a*cpr x b
 | [],b=>by show _=1*_;rw[QZ];rfl
 |s::a,b=>by show _*cpr x (a++b)=_*_*_;rw[o1 x a b,Rc]
def inC(s:Rat->Int)(x y:Rat):Prop:=0<=s x/\s y<=0
theorem IV{s:Rat->Int}(h:Cut s){x y:Rat}(hxy:x<y)(hn:¬inC s x y):s x=s y/\(s x=1\/s x = -1):=by
 have h1:=h.u x;have h2:=h.u y;unfold inC at hn
 by_cases hx:s x<=0
 ·have:=h.m x y hxy hx;rcases h1 with a |a |a<;>omega
 ·rcases h1 with a |a |a
  ·rcases h2 with b |b |b<;>omega
  ·omega
  ·omega
theorem tO{x y:Rat}(hxy:x<y):∀{S:List (Rat->Int)},(∀s∈S,Cut s)->(∀s∈S,¬inC s x y)->cpr x S=cpr y S/\(cpr x S=1\/cpr x S = -1)/\cnt S x y=0
 | [],_,_=>⟨rfl,.inl rfl,rfl⟩
 |s::S,h,hn=>by
  obtain⟨i1,i2,i3⟩:=tO hxy (S:=S) (λt ht=>h t (QJ _ ht)) λt ht=>hn t (QJ _ ht)
  obtain⟨a1,a2⟩:=IV (h s (QN ..)) hxy (hn s (QN ..));refine⟨by show -s x*cpr x S = -s y*cpr y S;rw[a1,i1],?_,?_⟩
  ·show -s x*cpr x S=1 \/ -s x*cpr x S = -1;rcases a2 with z |z<;>rcases i2 with w |w<;>rw[z,w]<;>decide
  ·rw[fg,i3,if_neg (by omega)];rfl
theorem uO(x y:Rat):∀a b,cnt (a++b) x y=cnt a x y+cnt b x y
 | [],b=>by rw[Bo];simp
 |s::a,b=>by rw[SV,fg,fg,uO x y a b];omega
theorem Bv{f:Rat->Rat}{S:List (Rat->Int)}{ε:Int}(hε:ε=1\/ε = -1)(hS:∀s∈S,Cut s){x y:Rat}(hxy:x<y)(hx:sgR (f x)=ε*cpr x S)(hy:sgR (f y)=ε*cpr y S)(hp:S.Pairwise λs t=>¬(inC s x y/\inC t x y)):chg f x y=cnt S x y:=by
 by_cases hall:∀s∈S,¬inC s x y
 ·obtain⟨k1,k2,k3⟩:=tO hxy hS hall;rw[k3];unfold chg;rw[if_neg];rintro⟨_,h2⟩;exact h2 (by rw[hx,hy,k1])
 ·obtain⟨s,hs,hin⟩:∃s,s∈S/\inC s x y:=by refine Classical.byContradiction λz=>hall λs hs hi=>z ⟨s,hs,hi⟩
  obtain⟨pre,post,rfl⟩:=SI hs
  have hno:∀t∈pre++post,¬inC t x y:=λt ht hi=>by
   rw[List.pairwise_append]at hp;rcases QS.mp ht with z |z
   ·exact hp.2.2 t z s (QN ..) ⟨hi,hin⟩
   ·exact(List.pairwise_cons.mp hp.2.1).1 t z ⟨hin,hi⟩
  have hS':∀t∈pre++post,Cut t:=λt ht=>hS t (by
   rcases QS.mp ht with z |z
   ·exact RU _ z
   ·exact Rm _ (QJ _ z))
  obtain⟨k1,k2,k3⟩:=tO hxy hS' hno;have hc:=hS s hs
  have e1:∀z,cpr z (pre++s::post)=cpr z (pre++post) * -s z:=λz=>by rw[o1,o1];show cpr z pre*(-s z*cpr z post)=_;rw[QT (-s z),Rc]
  have e2:cnt (pre++s::post) x y=(if 0<s x/\s y<=0 then 1 else 0):=by rw[uO,fg];rw[uO]at k3;omega
  rw[e1]at hx hy;rw[<- k1]at hy;rw[e2];unfold inC at hin
  have h1:=hc.u x;have h2:=hc.u y;unfold chg;rw[hx,hy];generalize cpr x (pre++post)=c at *
  have hs0:s x=0->s y = -1:=λz=>hc.m x y hxy (by omega)
  rcases h1 with a |a |a
  ·rw[a];rcases h2 with b |b |b
   ·omega
   ·rw[b];rcases hε with rfl |rfl<;>rcases k2 with rfl |rfl<;>simp
   ·rw[b];rcases hε with rfl |rfl<;>rcases k2 with rfl |rfl<;>simp
  ·rw[a];simp
  ·omega
theorem BZ(q:Rat):∃n:Nat,q<=(n:Rat):=by refine⟨q.ceil.toNat,Rat.le_trans (Rat.le_ceil (x:=q)) ?_⟩;have h:q.ceil<=(q.ceil.toNat:Int):=Int.self_le_toNat _;have h2:=RS.mpr h;exact h2
theorem zh(n:Nat):(n:Rat)<=2^n:=by
 induction n with
 |zero=>decide
 |succ n ih =>
  have h1:((1:Nat):Rat)<=2^n:=by
   have:(1:Nat)<=2^n:=RC (by decide);have h2:((1:Nat):Rat)<=((2^n:Nat):Rat):=Rat.natCast_le_natCast.mpr this
   rwa [Rat.natCast_pow]at h2
  rw[Rat.pow_succ,Rat.natCast_add];grind
theorem uW{V:Rat->Int}{S:List (Rat->Int)}(hS:∀s∈S,Cut s){R δ:Rat}(hδ:0<δ)(h:∀x y,Bd R x->Bd R y->x<y->y-x<=δ->V x-V y=cnt S x y):∀(n:Nat) (x y:Rat),Bd R x->Bd R y->x<y->y-x<=2^n*δ->V x-V y=cnt S x y
 |0,x,y,hx,hy,hxy,hd=>h x y hx hy hxy (by rw[Rat.pow_zero]at hd;grind)
 |n+1,x,y,hx,hy,hxy,hd=>by
  have m1:x<(x+y)/2:=by grind
  have m2:(x+y)/2<y:=by grind
  have hm:Bd R ((x+y)/2):=by obtain⟨a,b⟩:=hx;obtain⟨c,d⟩:=hy;constructor<;>grind
  rw[Rat.pow_succ]at hd;have i1:=uW hS hδ h n x ((x+y)/2) hx hm m1 (by grind);have i2:=uW hS hδ h n ((x+y)/2) y hm hy m2 (by grind);rw[uP m1 m2 hS];omega
theorem De{F0 F1:List Int}{r:List (List Int)}(h:SRow (F0::F1::r)){γ:Rat}(hγ:0<γ)(hd:∀x,pv (slopeL F0) x=γ*pv F1 x){S:List (Rat->Int)}(hS:∀s∈S,Cut s){ε:Int}(hε:ε=1\/ε = -1)(hf:∀x,sgR (pv F0 x)=ε*cpr x S)
 {δ0:Rat} (hδ0:0<δ0) (hp:∀x y,x<y->y-x<=δ0->S.Pairwise λs t=>¬(inC s x y/\inC t x y)) {x y:Rat} (hxy:x<y):vrs (F0::F1::r) x-vrs (F0::F1::r) y=cnt S x y:=by
 obtain⟨R,hR,hx,hy⟩:∃R:Rat,0<=R/\Bd R x/\Bd R y:=by
  have ab:∀v:Rat,∃w:Rat,0<=w/\Bd w v:=λv=>by
   rcases Rs (a:=0) (b:=v)with z |z
   ·exact⟨v,z,by grind,by grind⟩
   ·exact⟨-v,by grind,by grind,by grind⟩
  obtain⟨u,u0,u1⟩:=ab x;obtain⟨v,v0,v1⟩:=ab y;exact⟨u+v,by grind,u1.mono (by grind),v1.mono (by grind)⟩
 obtain⟨δ1,d1,l1⟩:=Dd h hγ hd hR
 obtain⟨δ,hδ,g1,g2⟩:∃δ:Rat,0<δ/\δ<=δ0/\δ<=δ1:=by
  rcases Rs (a:=δ0) (b:=δ1)with z |z
  ·exact⟨δ0,hδ0,Q6,z⟩
  ·exact⟨δ1,d1,z,Q6⟩
 obtain⟨n,hn⟩:=BZ ((y-x)/δ);refine uW hS hδ (R:=R) (λx y hx hy hxy hdd=>?_) n x y hx hy hxy ?_
 ·rw[l1 x y hx hy hxy (by grind)];exact Bv hε hS hxy (hf x) (hf y) (hp x y hxy (by grind))
 ·have h1:(y-x)/δ<=2^n:=Rat.le_trans hn (zh n);have h2:=Rq h1 (QM hδ)
  rwa [QW (by grind)]at h2
theorem tZ{n:Int}(hn:n≠0):(n:Rat)≠0:=λz=>hn (SH.mp (show((n:Int):Rat)=((0:Int):Rat) by rw[z];rfl))
theorem om(q:Rat):(q.num:Rat)=q*((q.den:Int):Rat):=by
 have hd:((q.den:Int):Rat)≠0:=tZ (by have:=q.den_pos;omega)
 have hx:(q.num:Rat)/((q.den:Int):Rat)=q:=by have:=Rat.mkRat_self q;rw[Rat.mkRat_eq_div]at this;exact this
 have:=QW (a:=(q.num:Rat)) hd;rw[hx]at this;exact this.symm
theorem EE{t n:Int}(hn:0<n):((t:Rat)/(n:Rat)).num*n=t*(((t:Rat)/(n:Rat)).den:Int):=by
 have hn':(n:Rat)≠0:=tZ (by omega);have hq:(t:Rat)/(n:Rat)*(n:Rat)=(t:Rat):=QW hn';generalize (t:Rat)/(n:Rat)=q at hq ⊢
 apply SH.mp;rw[QI,QI,om q,<- hq];grind
theorem iV{t n t' n':Int}(hn:0<n)(hn':0<n'):(t:Rat)/(n:Rat)<(t':Rat)/(n':Rat)↔t*n'<t'*n:=by
 have p1:(0:Rat)<(n:Rat):=QP.mpr hn;have p2:(0:Rat)<(n':Rat):=QP.mpr hn';have e1:(t:Rat)/(n:Rat)*(n:Rat)=(t:Rat):=QW (by grind);have e2:(t':Rat)/(n':Rat)*(n':Rat)=(t':Rat):=QW (by grind);generalize (t:Rat)/(n:Rat)=q at e1 ⊢
 generalize (t':Rat)/(n':Rat)=q' at e2 ⊢
 rw[<- QP,QI,QI,<- e1,<- e2];have p3:=QV p1 p2;have e3:q*(n:Rat)*(n':Rat)=q*((n:Rat)*(n':Rat)):=by grind
 have e4:q'*(n':Rat)*(n:Rat)=q'*((n:Rat)*(n':Rat)):=by grind
 rw[e3,e4];constructor
 ·intro h;exact Te h p3
 ·intro h;refine Sh.mp λz=>?_
  have:=Rq z (QM p3);grind
theorem yd{p v:Rat}(hp:0<p):sgR (p*v)=sgR v:=by
 rcases cN v with⟨a,b⟩ |⟨a,b⟩ |⟨a,b⟩
 ·have:p*v<0:=by have:=QV hp (show 0 < -v by grind);grind
  rcases cN (p*v)with⟨_,d⟩ |⟨c,d⟩ |⟨c,d⟩
  ·rw[b,d]
  ·grind
  ·grind
 ·rw[a];have:p*0=0:=by grind
  rw[this]
 ·have:=QV hp a;rcases cN (p*v)with⟨c,d⟩ |⟨c,d⟩ |⟨_,d⟩
  ·grind
  ·grind
  ·rw[b,d]
theorem DH(z:Int):sgR (z:Rat)=sg z:=by
 rcases cN (z:Rat)with⟨a,b⟩ |⟨a,b⟩ |⟨a,b⟩
 ·have:z<0:=QP.mp a;rw[b];unfold sg;rw[if_pos this]
 ·have:z=0:=SH.mp a;rw[this];rfl
 ·have:0<z:=QP.mp a;rw[b];unfold sg;rw[if_neg (by omega),if_pos this]
theorem ua{t n:Int}(hn:0<n):∀l:List Int,(hv t n l:Rat)=(n:Rat)^l.length*pv l ((t:Rat)/(n:Rat))
 | []=>by show((0:Int):Rat)=_*0;grind
 |c::l=>by
  have hn':(n:Rat)≠0:=tZ (by omega);have hq:(t:Rat)/(n:Rat)*(n:Rat)=(t:Rat):=QW hn';rw[d6,SG,QI,QI,ua hn l,Rat.intCast_pow];show _=(n:Rat)^(l.length+1)*((c:Rat)+(t:Rat)/(n:Rat)*pv l ((t:Rat)/(n:Rat)));rw[Rat.pow_succ];generalize hqq:(t:Rat)/(n:Rat)=q at *
  rw[<- hq];grind
theorem qf{t n:Int}(hn:0<n)(l:List Int):sg (hv t n l)=sgR (pv l ((t:Rat)/(n:Rat))):=by rw[<- DH,ua hn];exact yd (Rat.pow_pos (QP.mpr hn))
def Cop2(a b:List Int):Prop:=∀d,d≠[]->Tr d->Dv d a->Dv d b->d.length<=1
theorem G9{one other:List Int}(ho:other≠[]):∀n,cw one other*cf one n=aC (cu one other) other n-(aB (cU [] (aS one other)):Int)*cf (nxt one other) n:=λn=>by
 have h1:=iC (a:=one) ho n;have e:nxt one other=ar (cU [] (aS one other)):=by unfold nxt rst;rw[if_neg ho]
 have h2:=congrArg (λl=>cf l n) (shr_scale (l:=cU [] (aS one other)));simp only[bU]at h2
 have h3:cf (cU [] (aS one other)) n = -cf (aS one other) n:=by rw[nk (ge _ _),bU];omega
 rw[e,h2,h3,h1];omega
theorem CH(one other:List Int):Tr (nxt one other):=by unfold nxt;exact gk (by unfold cU;exact fX _)
theorem Ha{one other:List Int}(ho:other≠[]):(nxt one other).length<other.length:=by
 have h1:=gM (a:=one) ho;unfold nxt rst;rw[if_neg ho,nk (ge _ _)]
 have h2:(ar (scL (-1) (aS one other))).length<=(scL (-1) (aS one other)).length:=by unfold ar;rw[QB];exact QD _
 rw[cv]at h2;omega
theorem tI{l:List Int}(h:l.length<=1)(hne:l≠[]):∃c,l=[c]:=List.length_eq_one_iff.mp (by have:=QG.mpr hne;omega)
theorem yk:∀(n:Nat) (one other:List Int),other.length<=n->Tr one->one≠[]->Tr other->Cop2 one other->SRow (bV (n+1) one other)
 |0,one,other,hl,to,no,tt,hc=>by have e0:other=[]:=Sf (Nat.le_zero.mp hl);subst e0;have h1:=hc one no to (Dv.refl _) (Dv.nil _);obtain⟨c,rfl⟩:=tI h1 no;show SRow (if([c]:List Int)=[]then _ else[c]::bV 0 [] (nxt [c] []));rw[if_neg no];exact .last (tr_snoc (r:=[]) |>.mp to)
 |n+1,one,other,hl,to,no,tt,hc=>by
  have e:bV (n+1+1) one other=one::bV (n+1) other (nxt one other):=by show(if one=[]then _ else _)=_;rw[if_neg no]
  rw[e];by_cases ho:other=[]
  ·subst ho;have h1:=hc one no to (Dv.refl _) (Dv.nil _);obtain⟨c,rfl⟩:=tI h1 no;rw[lg];exact .last (tr_snoc (r:=[]) |>.mp to)
  have hs:=G9 (one:=one) ho;have hlen:=Ha (one:=one) ho;have tn:=CH one other;have fp:0<cw one other:=Li ho tt;by_cases hn:nxt one other=[]
  ·
   have hdv:Dv other one:=⟨cw one other,cu one other,by omega,λk=>by rw[hs k,hn,cK];omega⟩;have h1:=hc other ho tt hdv (Dv.refl _);obtain⟨c,rfl⟩:=tI h1 ho;rw[hn,yl ho (by omega)];exact .two (tr_snoc (r:=[]) |>.mp tt)
  ·have hc2:Cop2 other (nxt one other):=λd dn dt h1 h2=>by
    refine hc d dn dt ?_ h1;refine Dv.up (f:=cw one other) (q:=cu one other) (r:=scL (-(aB (cU [] (aS one other)):Int)) (nxt one other)) (by omega) (λk=>?_) h1 ?_
    ·rw[hs k,bU,RH];omega
    ·exact Dv.prop_right (x:=1) (y := -(aB (cU [] (aS one other)):Int)) (by decide) (λk=>by rw[bU];omega) h2
   have ih:=yk n other (nxt one other) (by omega) tt ho tn hc2;have e2:bV (n+1) other (nxt one other)=other::bV n (nxt one other) (nxt other (nxt one other)):=by show(if other=[]then _ else _)=_;rw[if_neg ho]
   have n1:0<n:=by have:=QG.mpr hn;omega
   obtain⟨m,rfl⟩:∃m,n=m+1:=⟨n-1,by omega⟩;have e3:bV (m+1) (nxt one other) (nxt other (nxt one other))=nxt one other::bV m (nxt other (nxt one other)) (nxt (nxt one other) (nxt other (nxt one other))):=by show(if nxt one other=[]then _ else _)=_;rw[if_neg hn]
   rw[e2,e3]at ih ⊢
   have gp:0<(aB (cU [] (aS one other)):Int):=by
    rcases S3 (aB (cU [] (aS one other)))with z |z
    ·exfalso;apply hn;refine sT tn λk=>?_
     have e:nxt one other=ar (cU [] (aS one other)):=by unfold nxt rst;rw[if_neg ho]
     rw[e];unfold ar;rw[z];unfold cf;simp[List.getD];cases(cU [] (aS one other))[k]? with
     |none=>rfl
     |some v=>simp
    ·omega
   refine .cons (q:=cu one other) (α:=(cw one other:Rat)) (β:=((aB (cU [] (aS one other)):Int):Rat)) (QP.mpr fp) (QP.mpr gp) (λx=>?_) ih;have h1:=lu (a:=one) (c:=scL (cw one other) one) (u:=cw one other) x λk=>bU _ _ _
   have h2:=yI x (cu one other) other (af (cu one other) other) (aN _ _);have h3:=n5 (a:=af (cu one other) other) (b:=nxt one other) (c:=scL (cw one other) one) (u:=1) (v := -(aB (cU [] (aS one other)):Int)) x λk=>by rw[bU,hs k,aN,RH];omega
   rw[<- h1,h3,h2,Sr];show((1:Int):Rat)*_+_=_;grind
theorem yK{ss:List (List Int)}(h:∀s∈ss,Pri s):aT [1] ss=prd ss:=by unfold aT;rw[AF,one_mul _ (iX ss λs hs=>(h s hs).pln).tr]
theorem fM{f:List Int}(h:FacG f):Pri (ah f):=by obtain⟨u,e,b,rfl,_,_,_,_,h5,_,h7⟩:=h;exact EC h5 h7
noncomputable def iM(fs:List (List Int)):List (List Int×Nat):=fs.map λf=>(ah f,1)
theorem v3{fs:List (List Int)}(hF:∀f∈fs,FacG f)(hn:(fs.map ah).Nodup):Use (iM fs):=by
 refine⟨λp hp=>?_,λp hp=>?_,?_⟩
 ·obtain⟨f,hf,rfl⟩:=QQ.mp hp;exact fM (hF f hf)
 ·obtain⟨f,hf,rfl⟩:=QQ.mp hp;exact QD _
 ·unfold iM;rw[Rw];exact hn
theorem vZ{c:Int}{fs:List (List Int)}(hF:∀f∈fs,FacG f):whl c (iM fs)=af [c] (aT [1] (fs.map ah)):=by
 unfold whl
 congr 1
 rw[yK λs hs=>by obtain⟨f,hf,rfl⟩:=QQ.mp hs;exact fM (hF f hf)]
 have e1:fP id (iM fs)=flt (iM fs):=ki _ λp hp=>by obtain⟨f,hf,rfl⟩:=QQ.mp hp;rfl
 rw[e1,AI]
 congr 1
 unfold iM;rw[Rw];rfl
theorem AS:∀us:List (List Int×Nat),fP (λ_=>0) us=[1]
 | []=>rfl
 |p::us=>by rw[fN,AS us];rfl
theorem Cl{fs:List (List Int)}:mor (iM fs) 1=[1]:=by unfold mor;rw[ki (h:=λ_=>0) _ λp hp=>by obtain⟨f,hf,rfl⟩:=QQ.mp hp;rfl];exact AS _
theorem EY{c:Int}{fs:List (List Int)}(hF:∀f∈fs,FacG f)(hn:(fs.map ah).Nodup)(hc:c≠0)(hl:(af [c] (aT [1] (fs.map ah))).length<=20):Cop2 (af [c] (aT [1] (fs.map ah))) (slopeL (af [c] (aT [1] (fs.map ah)))):=λd dn dt h1 h2=>by
 have U:=v3 hF hn;have ew:=vZ (c:=c) hF;obtain⟨tw,nw,_⟩:=kG U hc;have hcom:=vT U hc (by rw[ew];exact hl);rw[Cl]at hcom;rw[<- ew]at h1 h2 hl;have h3:=(Bk (by rw[gG];omega) tw (iN tw)).all d h1 h2;rw[hcom]at h3;rcases Nat.lt_or_ge 1 d.length with z |z
 ·have:=Dv.short dn dt ((tr_snoc (r:=[])).mpr (by decide)) (show([1]:List Int).length<d.length from z) h3;cases this
 ·exact z
theorem k8{l:List Int}(h:Tr l)(hne:l≠[]):0<(aB l:Int)/\Tr (ar l)/\ar l≠[]/\∀n,cf l n=(aB l:Int)*cf (ar l) n:=by
 have e:=shr_scale (l:=l)
 have ec:∀n,cf l n=(aB l:Int)*cf (ar l) n:=λn=>by have:=congrArg (λz=>cf z n) e;simp only[bU]at this;exact this.symm
 have hl:(ar l).length=l.length:=by unfold ar;rw[QB]
 refine⟨?_,gk h,λz=>by rw[z]at hl;exact hne (Sf hl.symm),ec⟩;rcases S3 (aB l)with z |z
 ·exfalso;refine hne (sT h λk=>?_);rw[ec k,z];simp
 ·omega
theorem Cop2.shr{a b:List Int}(h:Cop2 a b)(ha:Tr a)(hna:a≠[])(hb:Tr b):Cop2 (ar a) (ar b):=λd dn dt h1 h2=>by
 obtain⟨_,_,_,ea⟩:=k8 ha hna;refine h d dn dt (Dv.prop_right (x:=1) (y:=(aB a:Int)) (by decide) (λn=>by rw[ea n];omega) h1) ?_;by_cases hnb:b=[]
 ·rw[hnb];exact Dv.nil _
 ·obtain⟨_,_,_,eb⟩:=k8 hb hnb;exact Dv.prop_right (x:=1) (y:=(aB b:Int)) (by decide) (λn=>by rw[eb n];omega) h2
noncomputable def sdR(l:List Int)(x:Rat):Int:=al l x.num x.den
theorem fe(x:Rat):0<(x.den:Int):=by have:=x.den_pos;omega
theorem gn(l:List Int){t n:Int}(hn:0<n):sdR l ((t:Rat)/(n:Rat))=al l t n:=by unfold sdR;exact hI l (fe _) hn (EE hn)
theorem lf{l:List Int}(h:Spt l):Cut (sdR l):=by
 refine⟨λx=>?_,λx y hxy hs=>?_⟩
 ·rcases dW l x.num x.den with z |z |z
  ·exact .inl z
  ·exact .inr (.inl z)
  ·exact .inr (.inr z)
 ·exact dU h (fe x) (fe y) ((Rat.lt_iff x y).mp hxy) hs
theorem uM(x:Rat):∀ls:List (List Int),cpr x (ls.map sdR)=spr x.num x.den ls
 | []=>rfl
 |l::ls=>by show -sdR l x*_ = -al l x.num x.den*_;rw[uM x ls];rfl
theorem uI(x:Rat):(x.num:Rat)/((x.den:Int):Rat)=x:=by have:=Rat.mkRat_self x;rw[Rat.mkRat_eq_div]at this;exact this
theorem vk{l l':List Int}(hl:Spt l)(hl':Spt l')(h:Cc l l'){x y:Rat}(hxy:x<y)(hd:y-x<=1/2^200):¬(inC (sdR l) x y/\inC (sdR l') x y):=by
 rintro⟨h1,h2⟩;have hD:(0:Rat)<2^200:=Rat.pow_pos (by decide);have hDi:((2^200:Int):Rat)=2^200:=Rat.intCast_pow 2 200;have f1:=Rat.floor_le (x*2^200);have f2:=Rat.lt_floor_add_one (x*2^200);rw[SG]at f2
 have hd2:(y-x)*2^200<=1:=by
  have:=Rq hd (QM hD)
  rwa [QW (by grind)]at this
 have key:∀k:List Int,Spt k->inC (sdR k) x y->inS k ((x*2^200).floor-1) ((x*2^200).floor-1+128) (2^200):=λk hk hi=>by
  have hc:=lf hk
  have eA:((((x*2^200).floor-1:Int)):Rat)/((2^200:Int):Rat)*2^200=((x*2^200).floor:Rat)-1:=by rw[hDi,QW (by grind),SJ];rfl
  have eB:((((x*2^200).floor-1+128:Int)):Rat)/((2^200:Int):Rat)*2^200=((x*2^200).floor:Rat)-1+128:=by rw[hDi,QW (by grind),SG,SJ];rfl
  constructor
  ·rw[<- gn k (by decide)];generalize ((((x*2^200).floor-1:Int)):Rat)/((2^200:Int):Rat)=a at *
   have hax:a<x:=by
    refine Sh.mp λz=>?_
    have:=Rq z (QM hD);grind
   rcases RZ 0 (sdR k a)with w |w
   ·exact w
   ·have h3:=hc.m a x hax w;have h4:=hi.1;omega
  ·rw[<- gn k (by decide)];generalize ((((x*2^200).floor-1+128:Int)):Rat)/((2^200:Int):Rat)=b at *
   have hby:y<b:=by
    refine Sh.mp λz=>?_
    have:=Rq z (QM hD);have e1:((1:Int):Rat)=1:=rfl;grind
   have h3:=hc.m y b hby hi.2;omega
 exact h _ _ _ (Q7 _) rfl (key l hl h1) (key l' hl' h2)
noncomputable def bT(ls:List (List Int))(t n t' n':Int):Int:=(ls.map λl=>if 0<al l t n/\al l t' n'<=0 then(1:Int)else 0).sum
theorem kj{t n t' n':Int}(hn:0<n)(hn':0<n'):∀ls:List (List Int),cnt (ls.map sdR) ((t:Rat)/(n:Rat)) ((t':Rat)/(n':Rat))=bT ls t n t' n'
 | []=>rfl
 |l::ls=>by have ih:=kj (t:=t) (t':=t') hn hn' ls;rw[Ri,fg,ih,gn l hn,gn l hn'];unfold bT;rw[Ri,List.sum_cons]
noncomputable def sgv(row:List (List Int))(t n:Int):List Int:=row.map λf=>sg (hv t n f)
theorem x6{t n:Int}(hn:0<n)(row:List (List Int)):sgv row t n=sgX row ((t:Rat)/(n:Rat)):=by unfold sgv sgX;exact Sm λf _=>qf hn f
theorem Lq{c:Int}{fs:List (List Int)}(hF:∀f∈fs,FacG f)(hnd:(fs.map ah).Nodup)(hc:c≠0){P:List Int}(hP:P=af [c] (aT [1] (fs.map ah)))(hl:P.length<=20){N:Nat}(hN:P.length<=N+1){t n t' n':Int}(hn:0<n)(hn':0<n')(hlt:t*n'<t'*n) :
 vr 0 (sgv (bV (N+1) (ar P) (ar (slopeL P))) t n)-vr 0 (sgv (bV (N+1) (ar P) (ar (slopeL P))) t' n')=bT (aL fs) t n t' n':=by
 have hFQ:∀f∈fs,fk f:=λf hf=>(hF f hf).q
 have U:=v3 hF hnd;have ew:=vZ (c:=c) hF;obtain⟨tP,nP,_⟩:=kG U hc;rw[ew,<- hP]at tP nP;have cop:=EY hF hnd hc (by rw[<- hP];exact hl);rw[<- hP]at cop;have tS:=iN tP;obtain⟨g0,t0,n0,e0⟩:=k8 tP nP;have copS:=cop.shr tP nP tS;have lS:(ar (slopeL P)).length=P.length-1:=by unfold ar;rw[QB,gG]
 have hst:=yk N (ar P) (ar (slopeL P)) (by omega) t0 n0 (gk tS) copS;by_cases hs:slopeL P=[]
 ·
  have h1:P.length<=1:=by have:=congrArg List.length hs;rw[gG]at this;simp at this;omega
  have hfs:fs=[]:=by
   cases fs with
   |nil=>rfl
   |cons f fs =>
    exfalso
    have hss:∀s∈(f::fs).map ah,s≠[]/\Tr s:=λs h=>by obtain⟨x,hx,rfl⟩:=QQ.mp h;exact qc (hFQ x hx)
    obtain⟨p1,p2,p3⟩:=jU ((f::fs).map ah) [1] (by simp) ((tr_snoc (r:=[])).mpr (by decide)) hss
    have hl2:2<=(ah f).length:=by obtain⟨u,e,b,rfl,hb⟩:=hFQ f (QN ..);obtain⟨_,l2⟩:=gm (u:=u) (e:=e) hb;show 2<=(aA (aM u e b)).length;rw[plain_len];exact l2
    have hsl:∀ss:List (List Int),(∀s∈ss,s≠[])->ss.length<=sl ss:=λss=>by
     induction ss with
     |nil=>intro _;exact QD _
     |cons s ss ih =>
      intro h;have h1:=QG.mpr (h s (QN ..));have h2:=ih λx hx=>h x (QJ _ hx)
      show ss.length+1<=s.length+sl ss;omega
    have h3:=hsl (fs.map ah) λs hs=>(hss s (QJ _ hs)).1
    have h4:sl ((f::fs).map ah)=(ah f).length+sl (fs.map ah):=rfl
    have h5:P.length=(aT [1] ((f::fs).map ah)).length:=by rw[hP,bZ (by simp) p1];show 1+_-1=_;omega
    simp only[QB,Rb,List.length_nil]at p3 h3;omega
  subst hfs
  have hr:bV (N+1) (ar P) (ar (slopeL P))=[ar P]:=by
   have:ar (slopeL P)=[]:=by rw[hs];rfl
   rw[this];exact yl n0 (by omega)
  rw[hr];show vr 0 [_]-vr 0 [_]=0;rw[pb,pb];rfl
 ·obtain⟨g1,t1,n1,e1⟩:=k8 tS hs
  have hN1:1<=N:=by have:=QG.mpr n1;omega
  obtain⟨M,rfl⟩:∃M,N=M+1:=⟨N-1,by omega⟩
  have er:bV (M+1+1) (ar P) (ar (slopeL P))=ar P::ar (slopeL P)::bV M (nxt (ar P) (ar (slopeL P))) (nxt (ar (slopeL P)) (nxt (ar P) (ar (slopeL P)))):=by show(if ar P=[]then _ else ar P::(if ar (slopeL P)=[]then _ else _))=_;rw[if_neg n0,if_neg n1]
  rw[er]at hst ⊢;have g0':(0:Rat)<((aB P:Int):Rat):=QP.mpr g0;have g1':(0:Rat)<((aB (slopeL P):Int):Rat):=QP.mpr g1
  have hd:∀x,pv (slopeL (ar P)) x=((aB (slopeL P):Int):Rat)/((aB P:Int):Rat)*pv (ar (slopeL P)) x:=λx=>by
   have h1:=lu (a:=slopeL (ar P)) (c:=slopeL P) (u:=(aB P:Int)) x λk=>by rw[fh,fh,e0 (k+1)];grind
   have h2:=lu (a:=ar (slopeL P)) (c:=slopeL P) (u:=(aB (slopeL P):Int)) x e1;have h3:((aB (slopeL P):Int):Rat)/((aB P:Int):Rat)*((aB P:Int):Rat)=((aB (slopeL P):Int):Rat):=QW (by grind);rw[h1]at h2
   have h4:((aB P:Int):Rat)*pv (slopeL (ar P)) x=((aB P:Int):Rat)*(((aB (slopeL P):Int):Rat)/((aB P:Int):Rat)*pv (ar (slopeL P)) x):=by
    rw[h2];generalize ((aB (slopeL P):Int):Rat)/((aB P:Int):Rat)=w at *
    rw[<- h3];grind
   generalize pv (slopeL (ar P)) x=u at *
   generalize ((aB (slopeL P):Int):Rat)/((aB P:Int):Rat)*pv (ar (slopeL P)) x=v at *
   have h5:((aB P:Int):Rat)*(u-v)=0:=by grind
   rcases Rat.mul_eq_zero.mp h5 with z |z
   ·grind
   ·grind
  have hS:∀s∈(aL fs).map sdR,Cut s:=λs hs=>by obtain⟨l,hl,rfl⟩:=QQ.mp hs;exact lf (dq hFQ hl)
  have hsg:sg c=1\/sg c = -1:=by
   rcases RY hc with z |z
   ·right;unfold sg;rw[if_pos z]
   ·left;unfold sg;rw[if_neg (by omega),if_pos z]
  have hf:∀x,sgR (pv (ar P) x)=sg c*cpr x ((aL fs).map sdR):=λx=>by have h1:=lw (t:=x.num) (n:=x.den) (c:=c) (fe x) hFQ;rw[<- hP,qf (fe x),uI]at h1;rw[uM,<- h1,lu (a:=ar P) (c:=P) (u:=(aB P:Int)) x e0,yd g0']
  have hap:=pG hF hnd
  have hp:∀x y:Rat,x<y->y-x<=1/2^200->((aL fs).map sdR).Pairwise λs t=>¬(inC s x y/\inC t x y):=λx y hxy hdd=>by rw[List.pairwise_map];exact hap.imp_of_mem λ{l l'} hl hl' h=>vk (dq hFQ hl) (dq hFQ hl') h hxy hdd
  have:=De hst (fY g1' g0') hd hS hsg hf (fY (by decide) (Rat.pow_pos (by decide))) hp ((iV hn hn').mpr hlt);rw[kj hn hn']at this;rw[x6 hn,x6 hn'];exact this
theorem uV{C:Rat->Rat->Prop}(hadd:∀x y z,x<y->y<z->C x y->C y z->C x z){δ a b:Rat}(hδ:0<δ)(h:∀x y,a<=x->y<=b->x<y->y-x<=δ->C x y):∀(n:Nat) (x y:Rat),a<=x->y<=b->x<y->y-x<=2^n*δ->C x y
 |0,x,y,hx,hy,hxy,hd=>h x y hx hy hxy (by rw[Rat.pow_zero]at hd;grind)
 |n+1,x,y,hx,hy,hxy,hd=>by
  have m1:x<(x+y)/2:=by grind
  have m2:(x+y)/2<y:=by grind
  rw[Rat.pow_succ]at hd;exact hadd x _ y m1 m2 (uV hadd hδ h n x _ hx (by grind) m1 (by grind)) (uV hadd hδ h n _ y (by grind) hy m2 (by grind))
theorem xK{δ:Rat}(hδ:0<δ)(w:Rat):∃n:Nat,w<=2^n*δ:=by
 obtain⟨n,hn⟩:=BZ (w/δ);refine⟨n,?_⟩;have h1:w/δ<=2^n:=Rat.le_trans hn (zh n);have h2:=Rq h1 (QM hδ)
 rwa [QW (by grind)]at h2
theorem B3(v:Rat):∃w:Rat,0<=w/\Bd w v:=by
 rcases Rs (a:=0) (b:=v)with z |z
 ·exact⟨v,z,by grind,by grind⟩
 ·exact⟨-v,by grind,by grind,by grind⟩
theorem IU{f:Rat->Rat}(hf:Nice f){a b:Rat}(hab:a<b)(h:∀z,a<=z->z<=b->1<=f z\/f z <= -1):sgR (f a)=sgR (f b):=by
 obtain⟨u,u0,u1⟩:=B3 a;obtain⟨v,v0,v1⟩:=B3 b;obtain⟨M,m0,m1,m2⟩:=hf (u+v) (by grind)
 have hB:∀z,a<=z->z<=b->Bd (u+v) z:=λz h1 h2=>by obtain⟨p1,p2⟩:=u1;obtain⟨p3,p4⟩:=v1;constructor<;>grind
 have hT:0<M+1:=by grind
 obtain⟨n,hn⟩:=xK (fY (show(0:Rat)<1 by decide) hT) (b-a);refine uV (C:=λx y=>sgR (f x)=sgR (f y)) (λx y z _ _ h1 h2=>h1.trans h2) (fY (show(0:Rat)<1 by decide) hT) (a:=a) (b:=b) (λx y hx hy hxy hd=>?_) n a b (by grind) (by grind) hab hn
 have hd':(y-x)*(M+1)<=1:=by
  have:=Rq hd (QM hT)
  rwa [QW (by grind)]at this
 obtain⟨f1,f2⟩:=m2 x y (hB x hx (by grind)) (hB y (by grind) hy) (by grind);have hx1:=h x hx (by grind);have hy1:=h y (by grind) hy;rcases cN (f x)with⟨a1,a2⟩ |⟨a1,a2⟩ |⟨a1,a2⟩<;>rcases cN (f y)with⟨b1,b2⟩ |⟨b1,b2⟩ |⟨b1,b2⟩
 ·rw[a2,b2]
 ·grind
 ·grind
 ·grind
 ·grind
 ·grind
 ·grind
 ·grind
 ·rw[a2,b2]
theorem sU{s:Rat->Int}{ε:Rat}(hε:0<ε):∀(n:Nat) (x y:Rat),x<y->0<s x->s y<=0->y-x<=2^n*ε->∃x' y',x<=x'/\x'<y'/\y'<=y/\y'-x'<=ε/\0<s x'/\s y'<=0
 |0,x,y,hxy,hx,hy,hd=>⟨x,y,Q6,hxy,Q6,by rw[Rat.pow_zero]at hd;grind,hx,hy⟩
 |n+1,x,y,hxy,hx,hy,hd=>by
  have m1:x<(x+y)/2:=by grind
  have m2:(x+y)/2<y:=by grind
  rw[Rat.pow_succ]at hd;by_cases h:s ((x+y)/2)<=0
  ·obtain⟨x',y',h1,h2,h3,h4⟩:=sU hε n x _ m1 hx h (by grind);exact⟨x',y',h1,h2,by grind,h4⟩
  ·obtain⟨x',y',h1,h2,h3,h4⟩:=sU hε n _ y m2 (by omega) hy (by grind);exact⟨x',y',by grind,h2,h3,h4⟩
theorem zd{f:Rat->Rat}(hf:Nice f){S:List (Rat->Int)}{ε:Int}(hε:ε=1\/ε = -1)(hS:∀s∈S,Cut s)(hv:∀x,sgR (f x)=ε*cpr x S){δ:Rat}(hδ:0<δ)(hp:∀x y,x<y->y-x<=δ->S.Pairwise λs t=>¬(inC s x y/\inC t x y)){a b:Rat}(hab:a<b)(h:∀z,a<=z->z<=b->1<=f z\/f z <= -1){s:Rat->Int}(hs:s∈S):¬(0<s a/\s b<=0):=by
 rintro⟨ha,hb⟩;obtain⟨n,hn⟩:=xK hδ (b-a);obtain⟨x,y,h1,h2,h3,h4,h5,h6⟩:=sU hδ n a b hab ha hb hn;have hc:=Bv hε hS h2 (hv x) (hv y) (hp x y h2 h4);have hsame:=IU hf h2 λz hz1 hz2=>h z (by grind) (by grind)
 unfold chg at hc
 rw[if_neg (λz=>z.2 hsame.symm)]at hc
 have pos:∀(S:List (Rat->Int)),s∈S->1<=cnt S x y:=λS=>by
  induction S with
  |nil=>intro h;cases h
  |cons t S ih =>
   intro h
   have nn:∀S:List (Rat->Int),0<=cnt S x y:=λS=>by
    induction S with
    |nil=>exact Q7 _
    |cons t S ih=>rw[fg];split<;>omega
   rw[fg];rcases QK.mp h with rfl |h
   ·rw[if_pos ⟨h5,h6⟩];have:=nn S;omega
   ·have:=ih h;split<;>omega
 have:=pos S hs;omega
theorem EU{ss:List (List Int)}(hs:∀s∈ss,s≠[]/\Tr s){t:Int}{n:Nat}(hn:0<n)(h:n^sl ss<=(pr t n ss).natAbs):1<=pv (aT [1] ss) ((t:Rat)/((n:Int):Rat))\/pv (aT [1] ss) ((t:Rat)/((n:Int):Rat)) <= -1:=by
 have hn':(0:Int)<(n:Int):=by omega
 obtain⟨p1,p2,p3⟩:=jU ss [1] (by simp) ((tr_snoc (r:=[])).mpr (by decide)) hs;have e1:=oI t n ss [1] (by simp) λs h=>(hs s h).1
 rw[mr,QZ]at e1;have e2:=congrArg Int.natAbs e1;rw[QR,SE,QR,Q2]at e2;have h3:n*n^sl ss<=n^ss.length*(hv t n (aT [1] ss)).natAbs:=by rw[e2];exact RP _ h
 have e4:n*n^sl ss=n^ss.length*n^(aT [1] ss).length:=by
  rw[<- Nat.pow_add,RJ,<- Rz]
  congr 1
  have:([1]:List Int).length=1:=rfl;omega
 rw[e4]at h3;have h5:=Tc h3 (RC hn);have e6:=ua (t:=t) hn' (aT [1] ss);generalize pv (aT [1] ss) ((t:Rat)/((n:Int):Rat))=q at *
 generalize hv t n (aT [1] ss)=z at *
 have hp:(0:Rat)<((n:Int):Rat)^(aT [1] ss).length:=Rat.pow_pos (QP.mpr hn')
 have e7:(((n^(aT [1] ss).length:Nat):Int):Rat)=((n:Int):Rat)^(aT [1] ss).length:=by rw[Ss,Rat.intCast_pow]
 rcases Int.le_total 0 z with w |w
 ·left;have h8:((n^(aT [1] ss).length:Nat):Int)<=z:=by omega
  have h9:=RS.mpr h8;rw[e7,e6]at h9;refine RI.mp λhq=>?_
  have:=Rat.mul_lt_mul_of_pos_left hq hp;grind
 ·right;have h8:z <= -((n^(aT [1] ss).length:Nat):Int):=by omega
  have h9:=RS.mpr h8;rw[Sr,e7,e6]at h9;refine RI.mp λhq=>?_
  have:=Rat.mul_lt_mul_of_pos_left hq hp;grind
theorem Ds{l:List Int}(hl:Spt l):∃M:Int,0<M/\∀T:Int,M<=T->al l T 1<0/\0<al l (-T) 1:=by
 obtain⟨u,e,b,s,rfl,he,hb,hs⟩:=hl;refine⟨(u.natAbs:Int)+e+1,by omega,λT hT=>?_⟩
 have h1:T<=b*T:=by have:=Q5 hb (show 0<=T by omega);omega
 have g1:e+1<=b*T-u*1:=by omega
 have g2:e+1<=0-(b * -T-u*1):=by have:b * -T = -(b*T):=Int.mul_neg _ _;omega
 have q1:=iP (show 0<=e+1 by omega) g1;have q2:=iP (show 0<=e+1 by omega) g2;have q3:(e+1)*(e+1)=e*e+2*e+1:=by grind
 have q4:0<=e*e:=Q8 he he;rcases hs with rfl |rfl
 ·constructor
  ·show aX (e*1*1) (b*T-u*1)<0;rcases ci (e*1*1) (b*T-u*1)with z |z |z<;>omega
  ·show 0<aX (e*1*1) (b * -T-u*1);rcases ci (e*1*1) (b * -T-u*1)with z |z |z<;>omega
 ·constructor
  ·show 0-aX (e*1*1) (0-(b*T-u*1))<0;rcases ci (e*1*1) (0-(b*T-u*1))with z |z |z<;>omega
  ·show 0<0-aX (e*1*1) (0-(b * -T-u*1));rcases ci (e*1*1) (0-(b * -T-u*1))with z |z |z<;>omega
theorem wL{fs:List (List Int)}(hF:∀f∈fs,FacG f)(hnd:(fs.map ah).Nodup){B:Nat}(hB:1<=B)(hb:∀x∈(aT [1] (fs.map ah)).take ((aT [1] (fs.map ah)).length-1),x.natAbs<=(B-1)*(ap (aT [1] (fs.map ah))).natAbs){l:List Int}(hl:l∈aL fs):al l B 1<0/\0<al l (-(B:Int)) 1:=by
 have hFQ:∀f∈fs,fk f:=λf hf=>(hF f hf).q
 have hss:∀s∈fs.map ah,s≠[]/\Tr s:=λs h=>by obtain⟨x,hx,rfl⟩:=QQ.mp h;exact qc (hFQ x hx)
 have hT:Tr (aT [1] (fs.map ah)):=(jU (fs.map ah) [1] (by simp) ((tr_snoc (r:=[])).mpr (by decide)) hss).2.1;have e1:af [1] (aT [1] (fs.map ah))=aT [1] (fs.map ah):=one_mul _ hT;have far:=λ(t:Int) (n:Nat)=>KH (t:=t) (n:=n) (B:=B) (c:=1) (by decide) hss hB (by rw[e1];exact hb)
 have hspt:=dq hFQ hl;have hcut:=lf hspt
 have hS:∀s∈(aL fs).map sdR,Cut s:=λs hs=>by obtain⟨l,hl,rfl⟩:=QQ.mp hs;exact lf (dq hFQ hl)
 have hf:∀x,sgR (pv (aT [1] (fs.map ah)) x)=1*cpr x ((aL fs).map sdR):=λx=>by have h1:=lw (t:=x.num) (n:=x.den) (c:=1) (fe x) hFQ;rw[e1,qf (fe x),uI]at h1;rw[uM,h1];rfl
 have hap:=pG hF hnd
 have hp:∀x y:Rat,x<y->y-x<=1/2^200->((aL fs).map sdR).Pairwise λs t=>¬(inC s x y/\inC t x y):=λx y hxy hdd=>by rw[List.pairwise_map];exact hap.imp_of_mem λ{l l'} hl hl' h=>vk (dq hFQ hl) (dq hFQ hl') h hxy hdd
 have away:∀z:Rat,((B:Int):Rat)<=z\/z <= -((B:Int):Rat)->1<=pv (aT [1] (fs.map ah)) z\/pv (aT [1] (fs.map ah)) z <= -1:=λz hz=>by
  have h1:=EU hss (t:=z.num) (n:=z.den) z.den_pos (far z.num z.den z.den_pos ?_)
  ·rw[uI]at h1;exact h1
  ·have hd:(0:Rat)<((z.den:Int):Rat):=QP.mpr (fe z);have hnum:=om z;rcases hz with w |w
   ·have h2:=Rq w (QM hd);rw[<- hnum,<- QI]at h2;have h3:=RS.mp h2;have h4:((B*z.den:Nat):Int)=(B:Int)*(z.den:Int):=Rx _ _;omega
   ·have h2:=Rq w (QM hd);rw[<- hnum,<- Sr,<- QI]at h2;have h3:=RS.mp h2;have h4:((B*z.den:Nat):Int)=(B:Int)*(z.den:Int):=Rx _ _;have h5 : -(B:Int)*(z.den:Int) = -((B:Int)*(z.den:Int)):=RH _ _;omega
 obtain⟨M,hM,hfar⟩:=Ds hspt;have hmem:sdR l∈(aL fs).map sdR:=QQ.mpr ⟨l,hl,rfl⟩;have δ0:(0:Rat)<1/2^200:=fY (by decide) (Rat.pow_pos (by decide))
 have int1:∀z:Int,sdR l (z:Rat)=al l z 1:=λz=>by
  have:=gn l (t:=z) (n:=1) (by decide)
  have e:(z:Rat)/((1:Int):Rat)=(z:Rat):=by have:((1:Int):Rat)=1:=rfl;rw[this];grind
  rw[e]at this;exact this
 constructor
 ·
  have hlt:((B:Int):Rat)<((M+B:Int):Rat):=QP.mpr (by omega);have no:=zd (fG _) (.inl rfl) hS hf δ0 hp hlt (λz h1 _=>away z (.inl h1)) hmem;rw[int1,int1]at no;have hfr:=(hfar (M+B) (by omega)).1;rcases dW l B 1 with z |z |z
  ·exact absurd ⟨by omega,by omega⟩ no
  ·
   exfalso;have h1:=away (((B:Int)):Rat) (.inl Q6)
   have h2:sgR (pv (aT [1] (fs.map ah)) ((B:Int):Rat))=0:=by
    rw[hf]
    have h3:∀(S:List (Rat->Int)) (x:Rat) (s:Rat->Int),s∈S->s x=0->cpr x S=0:=λS x s hs h0=>by obtain⟨pre,post,rfl⟩:=SI hs;rw[o1];show _*(-s x*_)=0;rw[h0];simp
    rw[h3 _ _ _ hmem (by rw[int1];exact z)];rfl
   rcases cN (pv (aT [1] (fs.map ah)) ((B:Int):Rat))with⟨a,c⟩ |⟨a,c⟩ |⟨a,c⟩
   ·omega
   ·grind
   ·omega
  ·omega
 ·have hlt:((-(M+B):Int):Rat)<((-(B:Int):Int):Rat):=QP.mpr (by omega);have no:=zd (fG _) (.inl rfl) hS hf δ0 hp hlt (λz _ h2=>away z (.inr (by rw[Sr]at h2;exact h2))) hmem;rw[int1,int1]at no;have hfr:=(hfar (M+B) (by omega)).2;rcases dW l (-(B:Int)) 1 with z |z |z
  ·omega
  ·exact absurd ⟨hfr,by omega⟩ no
  ·exact absurd ⟨hfr,by omega⟩ no
theorem ly{s:List Int}:∀(pre post:List (List Int)),prd (pre++s::post)=af s (prd (pre++post))
 | [],post=>rfl
 |t::pre,post=>by show af t (prd (pre++s::post))=af s (af t (prd (pre++post)));rw[ly pre post];ac_rfl
theorem y0{l:List Int}(h:Pln l):af [1] l=l:=one_mul l h.tr
theorem Lh{ss:List (List Int)}(hp:∀s∈ss,Pri s)(hn:ss.Nodup){E:List Int}(hE:Pln E)(hl:E.length=3)(hd:Dv E (prd ss)):E∈ss\/∃p q,p∈ss/\q∈ss/\p≠q/\E=af p q:=by
 have ne1:E≠[1]:=λz=>by rw[z]at hl;cases hl
 obtain⟨p,hpm,hpd⟩:=(oY ss hp hE hd).resolve_left ne1;have pp:=hp p hpm;obtain⟨q,hq,eq⟩:=Dv.fellow pp.pln hE.tr hE.ne hpd;rw[hE.plain]at eq;have hlen:=bZ hq.ne pp.pln.ne;rw[eq,hl]at hlen;have l2:=pp.two;have ql:=QG.mpr hq.ne;rcases Nat.lt_or_ge p.length 3 with z |z
 ·
  have lp:p.length=2:=by omega
  have lq:q.length=2:=by omega
  obtain⟨pre,post,rfl⟩:=SI hpm
  have hd2:Dv (af p q) (af p (prd (pre++post))):=by
   rw[<- ly];have:af p q=E:=by rw[<- eq];ac_rfl
   rw[this];exact hd
  have hd3:=Dv.cancel pp.pln.ne pp.pln.tr hd2
  have ho:∀s∈pre++post,Pri s:=λs hs=>hp s (by
   rcases QS.mp hs with w |w
   ·exact RU _ w
   ·exact Rm _ (QJ _ w))
  have nq1:q≠[1]:=λw=>by rw[w]at lq;cases lq
  obtain⟨p',hpm',hpd'⟩:=(oY (pre++post) ho hq hd3).resolve_left nq1;have pp':=ho p' hpm';obtain⟨r,hr,er⟩:=Dv.fellow pp'.pln hq.tr hq.ne hpd';rw[hq.plain]at er;have hlen':=bZ hr.ne pp'.pln.ne;rw[er,lq]at hlen';have l2':=pp'.two;have rl:=QG.mpr hr.ne;have r1:=hr.const (by omega);rw[r1,y0 pp'.pln]at er
  have hmem:p'∈pre++p::post:=by
   rcases QS.mp hpm' with w |w
   ·exact RU _ w
   ·exact Rm _ (QJ _ w)
  refine .inr ⟨p,p',hpm,hmem,λw=>?_,?_⟩
  ·rw[List.nodup_append]at hn;rcases QS.mp hpm' with y |y
   ·exact hn.2.2 p' y p (QN ..) w.symm
   ·exact(R9.mp hn.2.1).1 (w ▸ y)
  ·rw[er,<- eq];ac_rfl
 ·left;have q1:=hq.const (by omega);rw[q1,y0 pp.pln]at eq;rw[<- eq];exact hpm
theorem uG(u b:Int)(x:Rat):((b*x.num-u*(x.den:Int):Int):Rat)=((b:Rat)*x-(u:Rat))*((x.den:Int):Rat):=by rw[SJ,QI,QI,om x];grind
theorem Hg(u b:Int)(x:Rat):b*x.num-u*(x.den:Int)<0↔(b:Rat)*x-(u:Rat)<0:=by
 have hd:(0:Rat)<((x.den:Int):Rat):=QP.mpr (fe x);rw[<- QP,uG];constructor
 ·intro h;refine Sh.mp λz=>?_
  have:=Q0 z (QM hd);have e:((0:Int):Rat)=0:=rfl;grind
 ·intro h;have:=QV (show 0 < -((b:Rat)*x-(u:Rat)) by grind) hd;have e:((0:Int):Rat)=0:=rfl;grind
theorem wE(u e b:Int)(x:Rat):((b*x.num-u*(x.den:Int))*(b*x.num-u*(x.den:Int))<e*(x.den:Int)*(x.den:Int)↔((b:Rat)*x-(u:Rat))*((b:Rat)*x-(u:Rat))<(e:Rat))/\(e*(x.den:Int)*(x.den:Int)<(b*x.num-u*(x.den:Int))*(b*x.num-u*(x.den:Int))↔(e:Rat)<((b:Rat)*x-(u:Rat))*((b:Rat)*x-(u:Rat))):=by
 have hd:(0:Rat)<((x.den:Int):Rat):=QP.mpr (fe x);have hdd:=QV hd hd;have e1:(((b*x.num-u*(x.den:Int))*(b*x.num-u*(x.den:Int)):Int):Rat)=((b:Rat)*x-(u:Rat))*((b:Rat)*x-(u:Rat))*(((x.den:Int):Rat)*((x.den:Int):Rat)):=by rw[QI,uG];grind
 have e2:((e*(x.den:Int)*(x.den:Int):Int):Rat)=(e:Rat)*(((x.den:Int):Rat)*((x.den:Int):Rat)):=by rw[QI,QI];grind
 have key:∀p q:Rat,(p*(((x.den:Int):Rat)*((x.den:Int):Rat))<q*(((x.den:Int):Rat)*((x.den:Int):Rat)))↔p<q:=λp q=>⟨λh=>Sh.mp λz=>by
  have:=Rq z (QM hdd)
  grind,λh=>Te h hdd⟩
 constructor
 ·rw[<- QP,e1,e2,key]
 ·rw[<- QP,e1,e2,key]
theorem v5{u e b:Int}(x:Rat):(0<sdR [u,e,b,1] x↔(b:Rat)*x-(u:Rat)<0\/((b:Rat)*x-(u:Rat))*((b:Rat)*x-(u:Rat))<(e:Rat)):=by have h:sdR [u,e,b,1] x=aX (e*(x.den:Int)*(x.den:Int)) (b*x.num-u*(x.den:Int)):=rfl;rw[h,<- Hg,<- (wE u e b x).1];rcases ci (e*(x.den:Int)*(x.den:Int)) (b*x.num-u*(x.den:Int))with⟨z,w⟩ |⟨z,w⟩ |⟨z,w⟩<;>rw[z]<;>omega
theorem v6{u e b:Int}(x:Rat):(0<sdR [u,e,b,-1] x↔(b:Rat)*x-(u:Rat)<=0/\(e:Rat)<((b:Rat)*x-(u:Rat))*((b:Rat)*x-(u:Rat))):=by
 have h:sdR [u,e,b,-1] x=0-aX (e*(x.den:Int)*(x.den:Int)) (0-(b*x.num-u*(x.den:Int))):=rfl;have e1:(0-(b*x.num-u*(x.den:Int)))*(0-(b*x.num-u*(x.den:Int)))=(b*x.num-u*(x.den:Int))*(b*x.num-u*(x.den:Int)):=by grind
 have hle:(b:Rat)*x-(u:Rat)<=0↔0<=0-(b*x.num-u*(x.den:Int)):=by
  have hd:(0:Rat)<((x.den:Int):Rat):=QP.mpr (fe x);have e3:=uG u b x;constructor
  ·intro h
   have:¬(0<b*x.num-u*(x.den:Int)):=λz=>by have z':=QP.mpr z;rw[e3]at z';have:=Q0 (show 0 <= -((b:Rat)*x-(u:Rat)) by grind) (QM hd);have e:((0:Int):Rat)=0:=rfl;grind
   omega
  ·intro h;refine RI.mp λz=>?_
   have:=QV z hd;rw[<- e3]at this;have:=QP.mp (show((0:Int):Rat)<_ from this);omega
 rw[h,hle,<- (wE u e b x).2];rcases ci (e*(x.den:Int)*(x.den:Int)) (0-(b*x.num-u*(x.den:Int)))with⟨z,w⟩ |⟨z,w⟩ |⟨z,w⟩<;>rw[z]<;>rw[e1]at w<;>omega
structure Two(u e b x y x' y':Rat):Prop where
 xp:b*x-u<0\/(b*x-u)*(b*x-u)<e
 yp:0<=b*y-u/\e<=(b*y-u)*(b*y-u)
 xm:b*x'-u<=0/\e<(b*x'-u)*(b*x'-u)
 ym:0<b*y'-u\/(b*y'-u)*(b*y'-u)<=e
theorem El{a c:Rat}(hc:0<=c)(h:a*a<c*c):a<c:=Sh.mp λz=>by have:=Q0 (show 0<=a-c by grind) (show 0<=a+c by grind);grind
theorem Em{a c:Rat}(hc:0<=c)(h:a*a<=c*c):a<=c:=RI.mp λz=>by have:=QV (show 0<a-c by grind) (show 0<a+c by grind);grind
theorem Two.sum{u e b x y x' y':Rat}(h:Two u e b x y x' y'):2*u<=b*(y+y')/\b*(x+x')<2*u:=by
 obtain⟨xp,yp,xm,ym⟩:=h;constructor
 ·rcases ym with z |z
  ·grind
  ·have : -(b*y'-u)<=b*y-u:=Em yp.1 (by grind);grind
 ·rcases xp with z |z
  ·grind
  ·have:b*x-u < -(b*x'-u):=El (by grind) (by grind);grind
noncomputable def mx(a b:Rat):Rat:=if a<b then b else a
theorem zk(a b:Rat):a<=mx a b:=by unfold mx;split<;>grind
theorem zj(a b:Rat):b<=mx a b:=by unfold mx;split<;>grind
theorem zl(a b:Rat):mx a b=a\/mx a b=b:=by unfold mx;split<;>simp
theorem bil{X Y X' Y' a a' m:Rat}(h1:X<=a)(h2:a<=Y)(h3:X'<=a')(h4:a'<=Y')(c1:X*X'<=m)(c2:X*Y'<=m)(c3:Y*X'<=m)(c4:Y*Y'<=m):a*a'<=m:=by
 have g1:X*a'<=m:=by
  rcases Rs (a:=0) (b:=X)with z |z
  ·have:=Q0 z (show 0<=Y'-a' by grind);grind
  ·have:=Q0 (show 0 <= -X by grind) (show 0<=a'-X' by grind);grind
 have g2:Y*a'<=m:=by
  rcases Rs (a:=0) (b:=Y)with z |z
  ·have:=Q0 z (show 0<=Y'-a' by grind);grind
  ·have:=Q0 (show 0 <= -Y by grind) (show 0<=a'-X' by grind);grind
 rcases Rs (a:=0) (b:=a')with z |z
 ·have:=Q0 z (show 0<=Y-a by grind);grind
 ·have:=Q0 (show 0 <= -a' by grind) (show 0<=a-X by grind);grind
theorem Two.prod{u e b x y x' y' m w N:Rat}(h:Two u e b x y x' y')(hb:0<b)(he:0<e)(hirr:∀q:Rat,q*q≠e)(hxy:x<y)(hxy':x'<y')(hw:y-x<=w)(hw':y'-x'<=w)(n1:Bd N x)(n2:Bd N y)(n3:Bd N x')(n4:Bd N y')
 (c1:x*x'<=m) (c2:x*y'<=m) (c3:y*x'<=m) (c4:y*y'<=m) (hm:m=x*x'\/m=x*y'\/m=y*x'\/m=y*y'):u*u-e<b*b*m/\b*b*m<=u*u-e+2*(b*b)*(w*N):=by
 have hs:=h.sum;obtain⟨xp,yp,xm,ym⟩:=h;have hbb:=QV hb hb
 have scale:∀a a':Rat,b*x-u<=a->a<=b*y-u->b*x'-u<=a'->a'<=b*y'-u->(a+u)*(a'+u)<=b*b*m:=λa a' g1 g2 g3 g4=>by
  have e1:∀p q:Rat,b*p*(b*q)=b*b*(p*q):=λp q=>by grind
  have k:∀p q:Rat,p*q<=m->b*p*(b*q)<=b*b*m:=λp q hpq=>by rw[e1];exact Rg hpq (QM hbb)
  exact bil (X:=b*x) (Y:=b*y) (X':=b*x') (Y':=b*y') (by grind) (by grind) (by grind) (by grind) (k _ _ c1) (k _ _ c2) (k _ _ c3) (k _ _ c4)
 constructor
 ·obtain⟨a,a0,ae,ax,ay,am⟩:∃a:Rat,0<=a/\a*a<e/\b*x-u<=a/\a<=b*y-u /\ -(b*y'-u)<=a/\a <= -(b*x'-u):=by
   have p1:=zk (b*x-u) (mx (-(b*y'-u)) 0);have p2:=zj (b*x-u) (mx (-(b*y'-u)) 0);have p3:=zk (-(b*y'-u)) 0;have p4:=zj (-(b*y'-u)) 0
   have hX:b*x-u<=b*y-u:=by have:=QV hb (show 0<y-x by grind);grind
   have hX':b*x'-u<=b*y'-u:=by have:=QV hb (show 0<y'-x' by grind);grind
   have q1:=zl (b*x-u) (mx (-(b*y'-u)) 0);have q2:=zl (-(b*y'-u)) 0;have hxm:=xm.1;have hyp:=yp.1;refine⟨mx (b*x-u) (mx (-(b*y'-u)) 0),by grind,?_,p1,?_,by grind,?_⟩
   ·rcases q1 with z |z
    ·rw[z]at p2 ⊢;rcases xp with w |w
     ·grind
     ·exact w
    ·rw[z];rcases q2 with z2 |z2
     ·rw[z2]at p4 ⊢;have e1 : -(b*y'-u) * -(b*y'-u)=(b*y'-u)*(b*y'-u):=by grind
      rw[e1];rcases ym with w |w
      ·grind
      ·have:=hirr (b*y'-u);grind
     ·rw[z2];grind
   ·rcases q1 with z |z
    ·rw[z];exact hX
    ·rw[z];rcases q2 with z2 |z2
     ·rw[z2];grind
     ·rw[z2];exact hyp
   ·rcases q1 with z |z
    ·rw[z];grind
    ·rw[z];rcases q2 with z2 |z2
     ·rw[z2];grind
     ·rw[z2];grind
  have:=scale a (-a) ax ay (by grind) (by grind);grind
 ·obtain⟨c,c0,ce,cx,cy,cm,cm'⟩:∃c:Rat,0<=c/\e<=c*c/\b*x-u<=c/\c<=b*y-u /\ -(b*y'-u)<=c/\c <= -(b*x'-u):=by
   have hX:b*x-u<=b*y-u:=by have:=QV hb (show 0<y-x by grind);grind
   have hX':b*x'-u<=b*y'-u:=by have:=QV hb (show 0<y'-x' by grind);grind
   rcases Rs (a:=b*y-u) (b := -(b*x'-u))with z |z
   ·exact⟨b*y-u,yp.1,yp.2,hX,Q6,by grind,z⟩
   ·refine⟨-(b*x'-u),by grind,by grind,by grind,z,by grind,Q6⟩
  have hbw:0<=b*w:=Q0 (QM hb) (by grind)
  have side:∀p q:Rat,b*x-u<=b*p-u->b*p-u<=b*y-u->b*x'-u<=b*q-u->b*q-u<=b*y'-u->Bd N p->b*b*(p*q)<=u*u-e+2*(b*b)*(w*N):=λp q g1 g2 g3 g4 hp=>by
   have w1:b*(y-x)<=b*w:=Rg hw (QM hb);have w2:b*(y'-x')<=b*w:=Rg hw' (QM hb);have d1:Bd (b*w) (b*p-u-c):=⟨by grind,by grind⟩;have d2:Bd (b*w) (b*q-u+c):=⟨by grind,by grind⟩;have bN1:b*x'<=u-c/\u-c<=b*y':=⟨by grind,by grind⟩
   have k1 : -(b*N)<=b*x':=by have:=Rg n3.1 (QM hb);grind
   have k2:b*y'<=b*N:=Rg n4.2 (QM hb);have d3:Bd (b*N) (u-c):=⟨by grind,by grind⟩
   have d4:Bd (b*N) (b*p):=by obtain⟨r1,r2⟩:=hp;have s1:=Rg r1 (QM hb);have s2:=Rg r2 (QM hb);exact⟨by grind,s2⟩
   obtain⟨_,z1⟩:=d1.mul d3;obtain⟨_,z2⟩:=d2.mul d4;have e1:b*b*(p*q)=(c+u)*(u-c)+((b*p-u-c)*(u-c)+(b*q-u+c)*(b*p)):=by grind
   have e2:b*w*(b*N)=b*b*(w*N):=by grind
   rw[e2]at z1 z2;grind
  have hX:b*x-u<=b*y-u:=by have:=QV hb (show 0<y-x by grind);grind
  have hX':b*x'-u<=b*y'-u:=by have:=QV hb (show 0<y'-x' by grind);grind
  rcases hm with rfl |rfl |rfl |rfl
  ·exact side x x' Q6 hX Q6 hX' n1
  ·exact side x y' Q6 hX hX' Q6 n1
  ·exact side y x' hX Q6 Q6 hX' n2
  ·exact side y y' hX Q6 hX' Q6 n2
theorem AJ{c t b Z:Int}(hb:0<b)(h1:(Z:Rat)<=(c:Rat)*((t:Rat)/(b:Rat)))(h2:(c:Rat)*((t:Rat)/(b:Rat))<(Z:Rat)+1):c*t/b=Z:=by
 have hb':(0:Rat)<(b:Rat):=QP.mpr hb;have e1:(t:Rat)/(b:Rat)*(b:Rat)=(t:Rat):=QW (by grind);have g1:=Rq h1 (QM hb');have g2:=Te h2 hb'
 have e2:(c:Rat)*((t:Rat)/(b:Rat))*(b:Rat)=((c*t:Int):Rat):=by
  rw[QI];generalize (t:Rat)/(b:Rat)=q at *
  rw[<- e1];grind
 rw[e2]at g1 g2
 have i1:Z*b<=c*t:=by have:=g1;rw[<- QI]at this;exact RS.mp this
 have i2:c*t<(Z+1)*b:=by
  have e3:((Z:Rat)+1)*(b:Rat)=(((Z+1)*b:Int):Rat):=by rw[QI,SG];rfl
  rw[e3]at g2;exact QP.mp g2
 refine Int.le_antisymm ?_ ?_
 ·have:=(Int.ediv_lt_iff_lt_mul hb).mpr i2;omega
 ·exact(Int.le_ediv_iff_mul_le hb).mpr i1
theorem Bp{x y:Rat}:∀{S:List (Rat->Int)},(S.Pairwise λs t=>¬(inC s x y/\inC t x y))->cnt S x y<=1
 | [],_=>by rw[Bo];decide
 |s::S,h=>by
  obtain⟨h1,h2⟩:=List.pairwise_cons.mp h;rw[fg];have ih:=Bp h2;by_cases hs:0<s x/\s y<=0
  ·rw[if_pos hs]
   have z:∀(S:List (Rat->Int)),(∀t∈S,¬(inC s x y/\inC t x y))->cnt S x y=0:=λS=>by
    induction S with
    |nil=>intro _;rfl
    |cons t S ih =>intro h;rw[fg,ih λu hu=>h u (QJ _ hu),if_neg λw=>h t (QN ..) ⟨⟨QE hs.1,hs.2⟩,⟨QE w.1,w.2⟩⟩];rfl
   rw[z S h1];decide
  ·rw[if_neg hs];omega
theorem mI(ls:List (List Int))(t n t' n':Int):0<=bT ls t n t' n':=by
 induction ls with
 |nil=>exact Q7 _
 |cons l ls ih =>
  unfold bT at ih ⊢
  rw[Ri,List.sum_cons];split<;>omega
theorem dm(l:List Int)(ls:List (List Int))(t n t' n':Int):bT (l::ls) t n t' n'=(if 0<al l t n/\al l t' n'<=0 then 1 else 0)+bT ls t n t' n':=by unfold bT;rw[Ri,List.sum_cons]
theorem Lz{fs:List (List Int)}(hF:∀f∈fs,fk f){a1 a2 b1 b2 c1 c2:Int}(a:0<a2)(b:0<b2)(c:0<c2)(h1:a1*b2<b1*a2)(h2:b1*c2<c1*b2):bT (aL fs) a1 a2 c1 c2=bT (aL fs) a1 a2 b1 b2+bT (aL fs) b1 b2 c1 c2:=by
 have hS:∀s∈(aL fs).map sdR,Cut s:=λs hs=>by obtain⟨l,hl,rfl⟩:=QQ.mp hs;exact lf (dq hF hl)
 rw[<- kj a c,<- kj a b,<- kj b c];exact uP ((iV a b).mpr h1) ((iV b c).mpr h2) hS
theorem Ly{fs:List (List Int)}(hF:∀f∈fs,FacG f)(hn:(fs.map ah).Nodup){l1 l2 h1 h2:Int}(l2p:0<l2)(h2p:0<h2)(lt:l1*h2<h1*l2)(hw:(h1*l2-l1*h2)*2^200<=l2*h2):bT (aL fs) l1 l2 h1 h2<=1:=by
 rw[<- kj l2p h2p];refine Bp ?_;rw[List.pairwise_map]
 have hd:(h1:Rat)/(h2:Rat)-(l1:Rat)/(l2:Rat)<=1/2^200:=by
  have L2:(0:Rat)<(l2:Rat):=QP.mpr l2p;have H2:(0:Rat)<(h2:Rat):=QP.mpr h2p;have e1:(l1:Rat)/(l2:Rat)*(l2:Rat)=(l1:Rat):=QW (Rt L2);have e2:(h1:Rat)/(h2:Rat)*(h2:Rat)=(h1:Rat):=QW (Rt H2);generalize (l1:Rat)/(l2:Rat)=x at e1 ⊢
  generalize (h1:Rat)/(h2:Rat)=y at e2 ⊢
  have hw':((h1:Rat)*(l2:Rat)-(l1:Rat)*(h2:Rat))*2^200<=(l2:Rat)*(h2:Rat):=by have:=RS.mpr hw;rw[QI,QI,SJ,QI,QI]at this;exact this
  have M:(0:Rat)<(l2:Rat)*(h2:Rat):=QV L2 H2;have P:(0:Rat)<2^200:=Rat.pow_pos (by decide);rw[<- e1,<- e2]at hw';have e3:(y*(h2:Rat)*(l2:Rat)-x*(l2:Rat)*(h2:Rat))*2^200=((y-x)*2^200)*((l2:Rat)*(h2:Rat)):=by grind
  rw[e3]at hw'
  have h4:(y-x)*2^200<=1:=by
   refine RI.mp λz=>?_
   have:=QV (show 0<(y-x)*2^200-1 by grind) M;grind
  have e5:(1:Rat)/2^200*2^200=1:=QW (Rt P);refine RI.mp λz=>?_
  have:=QV (show 0<(y-x)-1/2^200 by grind) P;grind
 exact(pG hF hn).imp_of_mem λ{l l'} hl hl' h=>vk (dq (λf hf=>(hF f hf).q) hl) (dq (λf hf=>(hF f hf).q) hl') h ((iV l2p h2p).mpr lt) hd
theorem Bq{l1 l2 h1 h2:Int}:∀{ls:List (List Int)},bT ls l1 l2 h1 h2=0->∀x∈ls,¬(0<al x l1 l2/\al x h1 h2<=0)
 | [],_,x,hx=>nomatch hx
 |l::ls,h,x,hx=>by
  rw[dm]at h;have nn:=mI ls l1 l2 h1 h2;by_cases hl:0<al l l1 l2/\al l h1 h2<=0
  ·rw[if_pos hl]at h;omega
  ·rw[if_neg hl]at h;rcases QK.mp hx with rfl |z
   ·exact hl
   ·exact Bq (by omega) x z
theorem mH{l1 l2 h1 h2:Int}:∀{ls:List (List Int)},bT ls l1 l2 h1 h2=1->∃pre s post,ls=pre++s::post/\(0<al s l1 l2/\al s h1 h2<=0)/\∀x∈pre++post,¬(0<al x l1 l2/\al x h1 h2<=0)
 | [],h=>by cases h
 |l::ls,h=>by
  rw[dm]at h;by_cases hl:0<al l l1 l2/\al l h1 h2<=0
  ·rw[if_pos hl]at h;exact⟨[],l,ls,rfl,hl,Bq (ls:=ls) (by omega)⟩
  ·rw[if_neg hl]at h;obtain⟨pre,s,post,rfl,e2,e3⟩:=mH (l1:=l1) (l2:=l2) (h1:=h1) (h2:=h2) (ls:=ls) (by omega);refine⟨l::pre,s,post,rfl,e2,λx hx=>?_⟩;rcases QK.mp hx with rfl |z
   ·exact hl
   ·exact e3 x z
theorem Bs{l1 l2 h1 h2:Int}:∀{ls:List (List Int)} {s:List Int},s∈ls->(0<al s l1 l2/\al s h1 h2<=0)->1<=bT ls l1 l2 h1 h2
 |l::ls,s,hs,h=>by
  rw[dm];have nn:=mI ls l1 l2 h1 h2;rcases QK.mp hs with rfl |z
  ·rw[if_pos h];omega
  ·have:=Bs z h;split<;>omega
structure Dya(B:Int)(d:Nat)(l1 l2 h1 h2:Int):Prop where
 l2p:0<l2
 h2p:0<h2
 gl:Nat.gcd l1.natAbs l2.natAbs=1
 gh:Nat.gcd h1.natAbs h2.natAbs=1
 at':∃m:Int,0<=m/\m+1<=2^d/\l1*2^d=(2*m*B-B*2^d)*l2/\h1*2^d=(2*(m+1)*B-B*2^d)*h2
theorem AX{X l1 l2:Int}{d k:Nat}(l2p:0<l2)(g:Nat.gcd l1.natAbs l2.natAbs=1)(e:l1*2^d=X*l2)(hX:X.natAbs<=2^k)(hk:d<=k):l1.natAbs<=2^k/\l2.natAbs<=2^k:=by
 have e':l1.natAbs*2^d=X.natAbs*l2.natAbs:=by have:=congrArg Int.natAbs e;rw[QR,QR,SE]at this;exact this
 have hd:l2.natAbs∣2^d:=by refine Nat.Coprime.dvd_of_dvd_mul_left (k:=l2.natAbs) (m:=l1.natAbs) (by rw[Nat.Coprime,SA];exact g) ?_;exact⟨X.natAbs,by rw[e',RJ]⟩
 have p2:0<2^d:=RC (by decide);have hle:=Nat.le_of_dvd p2 hd;refine⟨?_,QL hle (SR (by decide) hk)⟩;have h1:l1.natAbs*2^d<=X.natAbs*2^d:=by rw[e'];exact RP _ hle
 exact QL (Ta h1 p2) hX
theorem y6{B D m:Int}{N:Nat}(hN:(N:Int)=B*D)(B0:0<B)(m0:0<=m)(m1:m<=D):(2*m*B-B*D).natAbs<=N:=by
 have k1:0<=m*B:=Q8 m0 (QE B0);have k2:m*B<=D*B:=Q5 m1 (QE B0);have k4:D*B=B*D:=QT _ _;have k5:2*m*B=2*(m*B):=Rc _ _ _;rw[k5];generalize m*B=x at *
 generalize B*D=y at *
 omega
theorem Dya.bits{kb d:Nat}{l1 l2 h1 h2:Int}(h:Dya (2^kb) d l1 l2 h1 h2):(l1.natAbs<=2^(kb+d)/\l2.natAbs<=2^(kb+d))/\h1.natAbs<=2^(kb+d)/\h2.natAbs<=2^(kb+d):=by
 obtain⟨l2p,h2p,gl,gh,m,m0,m1,e1,e2⟩:=h;have B0:(0:Int)<2^kb:=Rl (by decide);have eq:(((2:Nat)^(kb+d):Nat):Int)=2^kb*2^d:=by rw[Ss,Int.pow_add];rfl
 exact⟨AX l2p gl e1 (y6 eq B0 m0 (by omega)) (by omega),AX h2p gh e2 (y6 eq B0 (by omega) m1) (by omega)⟩
theorem Dya.width{B:Int}{d:Nat}{l1 l2 h1 h2:Int}(h:Dya B d l1 l2 h1 h2):(h1*l2-l1*h2)*2^d=2*B*(l2*h2):=by obtain⟨l2p,h2p,gl,gh,m,m0,m1,e1,e2⟩:=h;grind
theorem Dya.lt{B:Int}(hB:0<B){d:Nat}{l1 l2 h1 h2:Int}(h:Dya B d l1 l2 h1 h2):l1*h2<h1*l2:=by
 have w:=h.width;have p:(0:Int)<2^d:=Rl (by decide);have q:0<2*B*(l2*h2):=QC (by omega) (QC h.l2p h.h2p);rw[<- w]at q
 have:0<h1*l2-l1*h2:=RQ.mp λz=>by have:=Int.mul_nonpos_of_nonpos_of_nonneg z (QE p);omega
 omega
theorem Dya.start{B:Int}:Dya B 0 (-B) 1 B 1:=⟨by decide,by decide,SY _,SY _,0,by decide,by decide,by grind,by grind⟩
theorem Dya.half{B:Int}{d:Nat}{l1 l2 h1 h2 c1 c2:Int}(h:Dya B d l1 l2 h1 h2)(c2p:0<c2)(gc:Nat.gcd c1.natAbs c2.natAbs=1)(e:c1*(2*l2*h2)=(l1*h2+h1*l2)*c2):Dya B (d+1) l1 l2 c1 c2/\Dya B (d+1) c1 c2 h1 h2:=by
 obtain⟨l2p,h2p,gl,gh,m,m0,m1,e1,e2⟩:=h
 have ec:c1*2^(d+1)=(2*(2*m+1)*B-B*2^(d+1))*c2:=by
  have hp:0<l2*h2:=QC l2p h2p;refine SD (a:=l2*h2) (by omega) ?_;rw[Q4];have q1:c1*(2^d*2)*(l2*h2)=c1*(2*l2*h2)*2^d:=by grind
  rw[q1,e];have q2:(l1*h2+h1*l2)*c2*2^d=(l1*2^d*h2+h1*2^d*l2)*c2:=by grind
  rw[q2,e1,e2];grind
 have p2:(2:Int)^(d+1)=2^d*2:=Q4 ..;refine⟨⟨l2p,c2p,gl,gc,2*m,by omega,by omega,?_,ec⟩,⟨c2p,h2p,gc,gh,2*m+1,by omega,by omega,ec,?_⟩⟩
 ·rw[p2,<- Rc,e1];grind
 ·rw[p2,<- Rc,e2];grind
theorem Dya.few{fs:List (List Int)}(hF:∀f∈fs,FacG f)(hn:(fs.map ah).Nodup){kb d:Nat}{l1 l2 h1 h2:Int}(h:Dya (2^kb) d l1 l2 h1 h2)(hd:kb+201<=d):bT (aL fs) l1 l2 h1 h2<=1:=by
 have B0:(0:Int)<2^kb:=Rl (by decide);refine Ly hF hn h.l2p h.h2p (h.lt B0) ?_;have w:=h.width;obtain⟨j,rfl⟩:∃j,d=kb+201+j:=⟨d-(kb+201),by omega⟩
 have e:(2:Int)^(kb+201+j)=2*2^kb*(2^200*2^j):=by rw[Int.pow_add,Int.pow_add,show(2:Int)^201=2*2^200 by decide];grind
 have j0:(1:Int)<=2^j:=by have:=Rl (n:=2) (m:=j) (by decide);omega
 rw[e]at w;have lp:=h.lt B0;have e2:(h1*l2-l1*h2)*(2*2^kb*(2^200*2^j))=2*2^kb*((h1*l2-l1*h2)*2^200*2^j):=by grind
 rw[e2]at w;have w2:=Tb (show 2*(2:Int)^kb≠0 by omega) w;have q:0<=(h1*l2-l1*h2)*2^200:=Q8 (by omega) (QE (Rl (by decide)));have:=Sg j0 q;rw[Q1]at this;rw[<- w2];exact this
noncomputable def prQ(fs:List (List Int)):List Int:=aT [1] (fs.map ah)
structure Fam(fs:List (List Int)):Prop where
 fac:∀f∈fs,FacG f
 nd:(fs.map ah).Nodup
variable {fs:List (List Int)}
theorem Fam.q(h:Fam fs):∀f∈fs,fk f:=λf hf=>(h.fac f hf).q
theorem Fam.pri(h:Fam fs):∀s∈fs.map ah,Pri s:=λs hs=>by obtain⟨f,hf,rfl⟩:=QQ.mp hs;exact fM (h.fac f hf)
theorem Fam.prd(h:Fam fs):prQ fs=prd (fs.map ah):=yK h.pri
theorem Fam.pln(h:Fam fs):Pln (prQ fs):=by rw[h.prd];exact iX _ λs hs=>(h.pri s hs).pln
theorem Fam.one(h:Fam fs):af [1] (prQ fs)=prQ fs:=one_mul _ h.pln.tr
theorem Fam.sign(h:Fam fs){t n:Int}(hn:0<n):sg (hv t n (prQ fs))=spr t n (aL fs):=by have:=lw (t:=t) (n:=n) (c:=1) hn h.q;rw[show af [1] (aT [1] (fs.map ah))=aT [1] (fs.map ah)from h.one]at this;rw[show sg 1=1 from rfl,QZ]at this;exact this
theorem pC{t n:Int}:∀{ls:List (List Int)},spr t n ls=0->∃s∈ls,al s t n=0
 | [],h=>by cases h
 |l::ls,h=>by
  rcases RX.mp (show -al l t n*spr t n ls=0 from h)with z |z
  ·exact⟨l,QN ..,by omega⟩
  ·obtain⟨s,hs,e⟩:=pC z;exact⟨s,QJ _ hs,e⟩
theorem Fam.sub{fs gs:List (List Int)}(h:Fam fs)(s:gs.Sublist fs):Fam gs:=⟨λf hf=>h.fac f (s.subset hf),h.nd.sublist (s.map _)⟩
theorem Fam.single(h:Fam fs){f:List Int}(hf:f∈fs):Fam [f]:=h.sub (List.singleton_sublist.mpr hf)
theorem n6{f:List Int}(h:Fam [f]):prQ [f]=ah f:=by rw[h.prd];show af (ah f) [1]=_;exact c9 _
structure OneS(fs:List (List Int))(f0 s0:List Int)(l1 l2 h1 h2:Int):Prop where
 fam:Fam fs
 mem:f0∈fs
 sp:s0∈spF f0
 l2p:0<l2
 h2p:0<h2
 lt:l1*h2<h1*l2
 inn:0<al s0 l1 l2/\al s0 h1 h2<=0
 only:∀s∈aL fs,0<al s l1 l2->al s h1 h2<=0->s=s0
theorem FC{l1 l2 h1 h2:Int}(hF:Fam fs)(l2p:0<l2)(h2p:0<h2)(lt:l1*h2<h1*l2)(h:bT (aL fs) l1 l2 h1 h2=1):∃f0 s0,OneS fs f0 s0 l1 l2 h1 h2:=by
 obtain⟨pre,s,post,e,hin,hno⟩:=mH h;have hs:s∈aL fs:=by rw[e];simp
 obtain⟨f0,hf0,hsp⟩:=R0.mp hs;refine⟨f0,s,hF,hf0,hsp,l2p,h2p,lt,hin,λx hx a b=>?_⟩;rw[e]at hx;rcases QS.mp hx with z |z
 ·exact absurd ⟨a,b⟩ (hno x (RU _ z))
 ·rcases QK.mp z with z |z
  ·exact z
  ·exact absurd ⟨a,b⟩ (hno x (Rm _ z))
variable {f0 s0:List Int}{l1 l2 h1 h2:Int}
theorem p8{s:List Int}(hs:Spt s){t n t' n':Int}(hn:0<n)(hn':0<n')(h:t*n'<=t'*n)(hz:al s t n<=0):al s t' n'<=0:=by
 rcases RT h with w |w
 ·have:=dU hs hn hn' w hz;omega
 ·rw[<- hI s hn hn' w];exact hz
theorem OneS.zero(h:OneS fs f0 s0 l1 l2 h1 h2){x1 x2:Int}(x2p:0<x2)(a:l1*x2<x1*l2)(b:x1*h2<=h1*x2)(z:hv x1 x2 (prQ fs)=0):al s0 x1 x2=0:=by
 have hs:=h.fam.sign (t:=x1) (n:=x2) x2p;rw[z]at hs;obtain⟨s,hm,hz⟩:=pC (show spr x1 x2 (aL fs)=0 from hs.symm);have hS:=dq h.fam.q hm
 have e:s=s0:=by refine h.only s hm (RQ.mp λw=>?_) (p8 hS x2p h.h2p b (by omega));have:=dU hS h.l2p x2p a w;omega
 rw[<- e];exact hz
theorem pI{u e b:Int}{s:List Int}(h:s∈spF [u,e,b]):∃σ:Int,s=[u,e,b,σ]/\(σ=1/\0<=e\/σ = -1/\0<e):=by
 unfold spF at h
 rcases QS.mp h with w |w
 ·split at w
  ·rename_i he
   exact⟨1,QF.mp w,.inl ⟨rfl,he⟩⟩
  ·cases w
 ·split at w
  ·rename_i he
   exact⟨-1,QF.mp w,.inr ⟨rfl,he⟩⟩
  ·cases w
theorem pZ{u e b σ t n:Int}(hNS:NS e)(he:0<e)(hn:0<n):al [u,e,b,σ] t n≠0:=λz=>by
 unfold al at z
 have key:∀d:Int,aX (e*n*n) d=0->False:=λd hd=>by
  rcases ci (e*n*n) d with⟨c,_⟩ |⟨_,_,c⟩ |⟨c,_⟩
  ·omega
  ·exact hNS.no (x:=n) (y:=d) (by omega) (by omega) (by rw[c];grind)
  ·omega
 split at z
 ·exact key _ z
 ·exact key _ (by have:0-aX (e*n*n) (0-(b*t-u*n))=0:=z;show aX (e*n*n) (0-(b*t-u*n))=0;omega)
theorem uv{u e b:Int}(h:FacG [u,e,b]):1<=b/\NS e:=by obtain⟨u',e',b',he,_,_,_,_,h5,_,h7⟩:=h;cases he;exact⟨h5,h7⟩
theorem OneS.cases(h:OneS fs f0 s0 l1 l2 h1 h2):∃u e b σ:Int,f0=[u,e,b]/\s0=[u,e,b,σ]/\1<=b/\NS e/\(σ=1/\e=0\/(σ=1\/σ = -1)/\0<e):=by
 obtain⟨u,e,b,rfl,_⟩:=h.fam.fac f0 h.mem;obtain⟨hb,hn⟩:=uv (h.fam.fac _ h.mem);obtain⟨σ,rfl,hσ⟩:=pI h.sp;refine⟨u,e,b,σ,rfl,rfl,hb,hn,?_⟩;rcases hσ with⟨a,c⟩ |⟨a,c⟩
 ·rcases RT c with w |w
  ·exact .inr ⟨.inl a,w⟩
  ·exact .inl ⟨a,w.symm⟩
 ·exact .inr ⟨.inr a,c⟩
theorem OneS.none(h:OneS fs f0 s0 l1 l2 h1 h2){u e b σ:Int}(ef:s0=[u,e,b,σ])(hN:NS e)(he:0<e){x1 x2:Int}(x2p:0<x2)(a:l1*x2<x1*l2)(c:x1*h2<=h1*x2):hv x1 x2 (prQ fs)≠0:=λz=>by have:=h.zero x2p a c z;rw[ef]at this;exact pZ hN he x2p this
theorem zS(h:Fam fs)(hf:f0∈fs):∃r:Int,0<r/\ap (prQ fs)=ap (ah f0)*r:=by
 obtain⟨pre,post,e⟩:=SI (List.mem_map_of_mem (f:=ah) hf);have hp:=h.pri;rw[h.prd];rw[e]at hp ⊢;have hq:Pln (RM.prd (pre++post)):=iX _ λs hs=>(hp s (by simp at hs ⊢;rcases hs with z |z<;>simp[z])).pln
 have hs:Pln (ah f0):=(hp _ (by simp)).pln;rw[ly,tM hs.ne hq.ne];exact⟨_,hq.pos,rfl⟩
theorem Ev{a b c d:Int}(hb:0<b)(hd:0<d)(g1:Nat.gcd a.natAbs b.natAbs=1)(g2:Nat.gcd c.natAbs d.natAbs=1)(e:a*d=c*b):a=c/\b=d:=by
 have e':a.natAbs*d.natAbs=c.natAbs*b.natAbs:=by
  have:=congrArg Int.natAbs e
  rwa [QR,QR]at this
 have h1:b.natAbs∣d.natAbs:=Nat.Coprime.dvd_of_dvd_mul_left (k:=b.natAbs) (m:=a.natAbs) (by rw[Nat.Coprime,SA];exact g1) ⟨c.natAbs,by rw[e',RJ]⟩;have h2:d.natAbs∣b.natAbs:=Nat.Coprime.dvd_of_dvd_mul_left (k:=d.natAbs) (m:=c.natAbs) (by rw[Nat.Coprime,SA];exact g2) ⟨a.natAbs,by rw[<- e',RJ]⟩;have h3:=Nat.dvd_antisymm h1 h2;have h4:b=d:=by omega
 subst h4;exact⟨SD (by omega) e,rfl⟩
theorem nK{u b:Int}(hb:1<=b):∃g A0 A1:Int,0<g/\ah [u,0,b]=[A0,A1] /\ -u=g*A0/\b=g*A1/\0<A1/\Nat.gcd A0.natAbs A1.natAbs=1:=by
 have hr:aM u 0 b=[-u,b]:=by unfold aM;rw[if_pos rfl]
 have ht:=(gm (u:=u) (e:=0) hb).1;rw[hr]at ht;have hl:ap [-u,b]=b:=rfl;obtain⟨g,hg,e⟩:=lE ht (by simp) (by rw[hl];omega);have hS:ah [u,0,b]=aA [-u,b]:=by show aA (aM u 0 b)=_;rw[hr]
 have hp:=fy ht (by simp);rw[hS];have hl2:(aA [-u,b]).length=2:=RM.plain_len _;generalize aA [-u,b]=P at e hp hl2
 match P,hl2 with
 | [A0,A1],_ =>
  have e1 : -u=g*A0/\b=g*A1:=by have:[-u,b]=[g*A0,g*A1]:=e;simpa using this
  refine⟨g,A0,A1,hg,rfl,e1.1,e1.2,hp.pos,?_⟩
  have h2:aB [A0,A1]=Nat.gcd A0.natAbs A1.natAbs:=by unfold aB;rw[iz,iz,oN,Sy]
  rw[<- h2];exact hp.prim
theorem K0{a y Z:Int}(hy:0<y)(h1:Z*y<=a)(h2:a<(Z+1)*y):a/y=Z :=
 Int.le_antisymm (Int.lt_add_one_iff.mp (Int.ediv_lt_of_lt_mul hy h2)) (Int.le_ediv_of_mul_le hy h1)
theorem side_line{u b t n:Int}:0<al [u,0,b,1] t n↔b*t<u*n:=by
 unfold al;rw[if_pos (show(0:Int)<cf [u,0,b,1] 3 from(by decide:(0:Int)<1))];show 0<aX (0*n*n) (b*t-u*n)↔_;rw[Q3,Q3];rcases ci 0 (b*t-u*n)with⟨c,d⟩ |⟨c,d,_⟩ |⟨c,d,_⟩
 ·rw[c];constructor
  ·intro _;rcases d with d |d
   ·omega
   ·have:0<=(b*t-u*n)*(b*t-u*n):=by
     rcases Int.le_total 0 (b*t-u*n)with w |w
     ·exact Q8 w w
     ·exact S0 w w
    omega
  ·intro _;decide
 ·rw[c];constructor
  ·intro z;exact absurd z (by decide)
  ·intro z;omega
 ·rw[c];constructor
  ·intro z;exact absurd z (by decide)
  ·intro z;omega
theorem OneS.line{u b:Int}(h:OneS fs [u,0,b] [u,0,b,1] l1 l2 h1 h2){x1 x2 y1 y2 B:Int}(x2p:0<x2)(y2p:0<y2)(hB:1<=B)(lo:0<al [u,0,b,1] x1 x2)(hi:al [u,0,b,1] y1 y2<=0)(hlt:x1*y2<y1*x2)(hw:(y1*x2-x1*y2)*(8*ap (prQ fs)*B)<=1*(x2*y2)) :
 let Z:=ap (prQ fs)*y1/y2
 ah [u,0,b]=[-(rt Z (ap (prQ fs))),rb Z (ap (prQ fs))]/\x1*rb Z (ap (prQ fs))<rt Z (ap (prQ fs))*x2/\hv (rt Z (ap (prQ fs))) (rb Z (ap (prQ fs))) (prQ fs)=0:=by
 have hb:=(uv (h.fam.fac _ h.mem)).1;obtain⟨g,A0,A1,hg,eS,e0,e1,hA,hgcd⟩:=nK (u:=u) hb;obtain⟨r,hr,eL⟩:=zS h.fam h.mem;rw[eS]at eL;have eL':ap (prQ fs)=A1*r:=eL;have lo':=side_line.mp lo;have hi':u*y2<=b*y1:=Rp.mp λz=>by have:=side_line.mpr z;omega
 have Lp:0<ap (prQ fs):=h.fam.pln.pos
 have k1 : -A0*y2<=A1*y1:=by
  refine Int.le_of_mul_le_mul_left (a:=g) ?_ hg
  have q1:g*(-A0*y2)=u*y2:=by
   have:u=g * -A0:=by grind
   rw[this];grind
  have q2:g*(A1*y1)=b*y1:=by rw[e1];grind
  omega
 have k2:A1*x1 < -A0*x2:=by
  refine S9 (a:=g) ?_ (QE hg)
  have q1:g*(-A0*x2)=u*x2:=by
   have:u=g * -A0:=by grind
   rw[this];grind
  have q2:g*(A1*x1)=b*x1:=by rw[e1];grind
  omega
 have eZ:ap (prQ fs)*y1/y2 = -A0*r:=by
  refine K0 y2p ?_ ?_
  ·rw[eL'];have:=Sg k1 (QE hr);have q1:r*(-A0*y2) = -A0*r*y2:=by grind
   have q2:r*(A1*y1)=A1*r*y1:=by grind
   omega
  ·have w0:0<=(y1*x2-x1*y2)*ap (prQ fs):=Q8 (by omega) (QE Lp);have w1:(y1*x2-x1*y2)*(8*ap (prQ fs)*B)=(y1*x2-x1*y2)*ap (prQ fs)*(8*B):=by grind
   have w2:=Sg (show 1<=8*B by omega) w0;have w3:(y1*x2-x1*y2)*ap (prQ fs)<=x2*y2:=by omega
   rw[eL']at w3 ⊢;have w4:=Td k2 (QC hr y2p);refine R7 (a:=x2) ?_ (QE x2p);have q1:A1*r*y1*x2=(y1*x2-x1*y2)*(A1*r)+r*y2*(A1*x1):=by grind
   have q2:(-A0*r+1)*y2*x2=r*y2*(-A0*x2)+x2*y2:=by grind
   rw[q1,q2];omega
 intro Z;have hZ:Z = -A0*r:=eZ
 clear_value Z
 subst hZ;have L0:ap (prQ fs)≠0:=by omega
 have hc:=ei (t := -A0*r) L0;have hgr:=ie (t := -A0*r) L0;have hpr:=c7 (t := -A0*r) L0
 obtain⟨m1,m2⟩:=Ev (a:=rt (-A0*r) (ap (prQ fs))) (b:=rb (-A0*r) (ap (prQ fs))) (c := -A0) (d:=A1) hpr hA hgr (by rw[R5];exact hgcd) (by
  refine SD (a:=r) (by omega) ?_
  rw[Rc,<- eL',hc];grind)
 rw[m1,m2];refine⟨by rw[eS,Int.neg_neg],by rw[QT];exact k2,?_⟩;have hs:=h.fam.sign (t := -A0) (n:=A1) hA
 have hz:spr (-A0) A1 (aL fs)=0:=by
  have hm:[u,0,b,1]∈aL fs:=R0.mpr ⟨_,h.mem,h.sp⟩
  have hside:al [u,0,b,1] (-A0) A1=0:=by
   unfold al;rw[if_pos (show(0:Int)<cf [u,0,b,1] 3 from(by decide:(0:Int)<1))];show aX (0*A1*A1) (b * -A0-u*A1)=0
   have:b * -A0-u*A1=0:=by
    have q:u=g * -A0:=by grind
    rw[e1,q];grind
   rw[this,Q3,Q3];rfl
  have z0:∀ls:List (List Int),[u,0,b,1]∈ls->spr (-A0) A1 ls=0:=λls=>by
   induction ls with
   |nil=>intro h;cases h
   |cons l ls ih =>
    intro h;show -al l (-A0) A1*spr (-A0) A1 ls=0;rcases QK.mp h with w |w
    ·rw[<- w,hside];omega
    ·rw[ih w,QX]
  exact z0 _ hm
 rw[hz]at hs;exact(qd _).mp hs
theorem fv{g a b:Rat}(hg:0<g)(h:g*a<=g*b):a<=b:=RI.mp λz=>by have:=QV hg (show 0<a-b by grind);grind
theorem sn{g a b:Rat}(hg:0<g)(h:g*a<g*b):a<b:=Sh.mp λz=>by have:=Q0 (QM hg) (show 0<=a-b by grind);grind
theorem Db{u b g A1 A2 r L w x y x' y':Rat}(hg:0<g)(hb:0<b)(hr:0<r)(hA:0<A2)(e1 : -2*b*u=g*A1)(e2:b*b=g*A2)(eL:L=A2*r)(s1:2*u<=b*(y+y'))(s2:b*(x+x')<2*u)(hw:y-x<=w)(hw':y'-x'<=w)(hwL:4*(L*w)<=1) : -A1*r<=L*(y+y')/\L*(y+y') < -A1*r+1:=by
 have hbr:=QV hb hr;have hL:0<L:=by rw[eL];exact QV hA hr
 have q1:g*(L*(y+y'))=b*r*(b*(y+y')):=by rw[eL];grind
 have q2:g*(-A1*r)=b*r*(2*u):=by grind
 constructor
 ·refine fv hg ?_;rw[q1,q2];exact Rg s1 (QM hbr)
 ·have h1:L*(x+x') < -A1*r:=by
   refine sn hg ?_;have q3:g*(L*(x+x'))=b*r*(b*(x+x')):=by rw[eL];grind
   rw[q3,q2];have:=QV hbr (show 0<2*u-b*(x+x') by grind);grind
  have h2:=Rg (show y+y'<=x+x'+2*w by grind) (QM hL);have e3:L*(x+x'+2*w)=L*(x+x')+2*(L*w):=by grind
  grind
theorem EX{u e b g A0 A2 r L w N m:Rat}(hg:0<g)(hr:0<r)(hA:0<A2)(e0:u*u-e=g*A0)(e2:b*b=g*A2)(eL:L=A2*r)(p1:u*u-e<b*b*m)(p2:b*b*m<=u*u-e+2*(b*b)*(w*N))(hwL:2*(L*(w*N))<1):A0*r<=L*m/\L*m<A0*r+1:=by
 have q1:g*(L*m)=r*(b*b*m):=by rw[eL];grind
 have q2:g*(A0*r)=r*(u*u-e):=by grind
 constructor
 ·refine fv hg ?_;rw[q1,q2];exact Rg (QM p1) (QM hr)
 ·have h1:L*m<=A0*r+2*(L*(w*N)):=by
   refine fv hg ?_;have q3:g*(A0*r+2*(L*(w*N)))=r*(u*u-e+2*(b*b)*(w*N)):=by rw[eL];grind
   rw[q1,q3];exact Rg p2 (QM hr)
  grind
theorem NS.irr{e:Int}(h:NS e)(he:0<e)(q:Rat):q*q≠(e:Rat):=λz=>by have hn:=om q;have hd:=fe q;refine h.no (x:=(q.den:Int)) (y:=q.num) (by omega) (by omega) ?_;refine SH.mp ?_;rw[QI,QI,QI,hn,<- z];grind
theorem qb{u e b:Int}(hb:1<=b)(he:e≠0):∃g A0 A1 A2:Int,0<g/\ah [u,e,b]=[A0,A1,A2]/\u*u-e=g*A0 /\ -2*b*u=g*A1/\b*b=g*A2/\0<A2:=by
 have hr:aM u e b=[u*u-e,-2*b*u,b*b]:=by unfold aM;rw[if_neg he]
 have ht:=(gm (u:=u) (e:=e) hb).1;rw[hr]at ht;have hl:ap [u*u-e,-2*b*u,b*b]=b*b:=rfl;obtain⟨g,hg,e'⟩:=lE ht (by simp) (by rw[hl];exact QC (by omega) (by omega));have hS:ah [u,e,b]=aA [u*u-e,-2*b*u,b*b]:=by show aA (aM u e b)=_;rw[hr]
 have hp:=fy ht (by simp);rw[hS];have hl2:(aA [u*u-e,-2*b*u,b*b]).length=3:=RM.plain_len _;generalize aA [u*u-e,-2*b*u,b*b]=P at e' hp hl2
 match P,hl2 with
 | [A0,A1,A2],_ =>
  have e1:u*u-e=g*A0 /\ -2*b*u=g*A1/\b*b=g*A2:=by have:[u*u-e,-2*b*u,b*b]=[g*A0,g*A1,g*A2]:=e';simpa using this
  exact⟨g,A0,A1,A2,hg,rfl,e1.1,e1.2.1,e1.2.2,hp.pos⟩
theorem yf{L B:Int}{d w:Rat}(hLB:0<L*B)(hw:w*(8*((L:Rat)*(B:Rat)))=1)(h:d*(8*((L:Rat)*(B:Rat)))<=1):d<=w:=by
 have p:(0:Rat)<8*((L:Rat)*(B:Rat)):=by have:(0:Rat)<((L*B:Int):Rat):=QP.mpr hLB;rw[QI]at this;grind
 refine fv p ?_;grind
theorem wG{u e b L B:Int}(hF:Fam fs)(hm:[u,e,b]∈fs)(he:0<e)(hL:L=ap (prQ fs))(hB:1<=B){x y x' y' m:Rat}(T:Two u e b x y x' y')(hxy:x<y)(hxy':x'<y')(hw:(y-x)*(8*((L:Rat)*(B:Rat)))<=1)(hw':(y'-x')*(8*((L:Rat)*(B:Rat)))<=1)
 (n1:Bd (2*(B:Rat)-1/2) x) (n2:Bd (2*(B:Rat)-1/2) y) (n3:Bd (2*(B:Rat)-1/2) x') (n4:Bd (2*(B:Rat)-1/2) y') (c1:x*x'<=m) (c2:x*y'<=m) (c3:y*x'<=m) (c4:y*y'<=m) (hmm:m=x*x'\/m=x*y'\/m=y*x'\/m=y*y')
 {t1 t2 m1 m2:Int} (t2p:0<t2) (m2p:0<m2) (ht:(t1:Rat)/(t2:Rat)=y+y') (hmr:(m1:Rat)/(m2:Rat)=m):aA [L*m1/m2,-(L*t1/t2),L]=ah [u,e,b]:=by
 obtain⟨hb,hN⟩:=uv (hF.fac _ hm);obtain⟨g,A0,A1,A2,hg,eS,e0,e1,e2,hA⟩:=qb (u:=u) hb (show e≠0 by omega);obtain⟨r,hr,eL⟩:=zS hF hm;rw[eS,<- hL]at eL;have eL':L=A2*r:=eL;have Lp:0<L:=by rw[eL'];exact QC hA hr
 have LB:0<L*B:=QC Lp (by omega);have cL:(0:Rat)<(L:Rat):=QP.mpr Lp;have cB:(1:Rat)<=(B:Rat):=RS.mpr hB
 have cp:(0:Rat)<8*((L:Rat)*(B:Rat)):=by have:=QV cL (show(0:Rat)<(B:Rat) by grind);grind
 obtain⟨w,hwd⟩:∃w:Rat,w*(8*((L:Rat)*(B:Rat)))=1:=⟨1/(8*((L:Rat)*(B:Rat))),QW (Rt cp)⟩;have h1:=yf LB hwd hw;have h2:=yf LB hwd hw';have cg:(0:Rat)<(g:Rat):=QP.mpr hg;have cb:(0:Rat)<(b:Rat):=QP.mpr (show(0:Int)<b by omega);have cr:(0:Rat)<(r:Rat):=QP.mpr hr;have cA:(0:Rat)<(A2:Rat):=QP.mpr hA;have ce:(0:Rat)<(e:Rat):=QP.mpr he
 have E0:(u:Rat)*(u:Rat)-(e:Rat)=(g:Rat)*(A0:Rat):=by rw[<- QI,<- SJ,e0,QI]
 have E1 : -2*(b:Rat)*(u:Rat)=(g:Rat)*(A1:Rat):=by rw[<- QI,<- e1,QI,QI];rfl
 have E2:(b:Rat)*(b:Rat)=(g:Rat)*(A2:Rat):=by rw[<- QI,e2,QI]
 have EL:(L:Rat)=(A2:Rat)*(r:Rat):=by rw[eL',QI]
 have wp:0<w:=Sh.mp λz=>by have:=Q0 (show 0 <= -w by grind) (QM cp);grind
 have LwB:8*((L:Rat)*w*(B:Rat))=1:=by grind
 have Lw:0<(L:Rat)*w:=QV cL wp
 have Lw4:4*((L:Rat)*w)<=1:=by have:=Rg cB (QM Lw);grind
 have S:=T.sum;obtain⟨f1,f2⟩:=Db cg cb cr cA E1 E2 EL S.1 S.2 h1 h2 Lw4;obtain⟨P1,P2⟩:=T.prod cb ce (hN.irr he) hxy hxy' h1 h2 n1 n2 n3 n4 c1 c2 c3 c4 hmm;obtain⟨f3,f4⟩:=EX cg cr cA E0 E2 EL P1 P2 (by grind);have z1:L*t1/t2 = -A1*r:=AJ t2p (by rw[ht,QI,Sr];exact f1) (by rw[ht,QI,Sr];exact f2);have z2:L*m1/m2=A0*r:=AJ m2p (by rw[hmr,QI];exact f3) (by rw[hmr,QI];exact f4);rw[z1,z2,eL'];have hP:Pln (ah [u,e,b]):=(fM (hF.fac _ hm)).pln
 have e3:[A0*r,-(-A1*r),A2*r]=scL r (ah [u,e,b]):=by
  rw[eS];show _=[r*A0,r*A1,r*A2];rw[QT A0,QT A2]
  congr 2
  grind
 rw[e3,ig (by omega) hP.tr,hP.plain]
variable {fs:List (List Int)}{f0 s0:List Int}{l1 l2 h1 h2:Int}
theorem Di{u e b σ:Int}{f:List Int}(hf:fk f)(h:[u,e,b,σ]∈spF f):f=[u,e,b]:=by obtain⟨u',e',b',rfl,_⟩:=hf;obtain⟨σ',eq,_⟩:=pI h;cases eq;rfl
theorem kO{u e b:Int}(he:0<e):spF [u,e,b]=[[u,e,b,1],[u,e,b,-1]]:=by show(if 0<=e then[[u,e,b,1]]else[])++(if 0<e then[[u,e,b,-1]]else[])=_;rw[if_pos (by omega),if_pos he];rfl
theorem kN{u b:Int}:spF [u,0,b]=[[u,0,b,1]]:=by show(if(0:Int)<=0 then[[u,0,b,1]]else[])++(if(0:Int)<0 then[[u,0,b,-1]]else[])=_;rw[if_pos (by decide),if_neg (by decide)];rfl
theorem wJ(f:List Int):aL [f]=spF f:=by show spF f++[]=_;rw[List.append_nil]
theorem OneS.cnt(h:OneS fs f0 s0 l1 l2 h1 h2):bT (aL [f0]) l1 l2 h1 h2=1:=by
 obtain⟨u,e,b,σ,rfl,rfl,hb,hN,hc⟩:=h.cases;rw[wJ];have hin:=h.inn
 have other:∀τ:Int,[u,e,b,τ]∈spF [u,e,b]->τ≠σ->¬(0<al [u,e,b,τ] l1 l2/\al [u,e,b,τ] h1 h2<=0):=λτ hτ hne z=>by
  have:=h.only _ (R0.mpr ⟨_,h.mem,hτ⟩) z.1 z.2;simp at this
  exact hne this
 have c0:bT [] l1 l2 h1 h2=0:=rfl;rcases hc with⟨rfl,rfl⟩ |⟨hσ,he⟩
 ·rw[kN,dm,if_pos hin,c0];rfl
 ·rw[kO he]at other ⊢;rcases hσ with rfl |rfl
  ·rw[dm,dm,if_pos hin,if_neg (other (-1) (by simp) (by decide)),c0];rfl
  ·rw[dm,dm,if_neg (other 1 (by simp) (by decide)),if_pos hin,c0];rfl
theorem OneS.sq(h:OneS fs f0 s0 l1 l2 h1 h2)(hl0:(ah f0).length=3){E:List Int}(hE:Pln E)(hl:E.length=3)(hd:Dv E (prQ fs)):∃gs,Fam gs/\(∀g∈gs,g∈fs)/\gs.length<=2/\E=prQ gs/\(bT (aL gs) l1 l2 h1 h2=1->E=ah f0):=by
 have hF:=h.fam
 have hs0:∀gs:List (List Int),Fam gs->(∀g∈gs,g∈fs)->bT (aL gs) l1 l2 h1 h2=1->f0∈gs:=λgs hG hsub hc=>by
  obtain⟨pre,s,post,eq,hin,_⟩:=mH hc;have hm:s∈aL gs:=by rw[eq];simp
  obtain⟨f,hf,hsf⟩:=R0.mp hm;have e1:=h.only s (R0.mpr ⟨f,hsub f hf,hsf⟩) hin.1 hin.2;obtain⟨u,e,b,σ,ef,es,_⟩:=h.cases;rw[e1,es]at hsf;have:=Di (hG.q f hf) hsf;rw[ef,<- this];exact hf
 rw[hF.prd]at hd;rcases Lh hF.pri hF.nd hE hl hd with hm |⟨p,q,hp,hq,hne,eE⟩
 ·obtain⟨f,hf,rfl⟩:=QQ.mp hm;have hG:=hF.single hf;refine⟨[f],hG,λg hg=>by rw[QF.mp hg];exact hf,by simp,(n6 hG).symm,λhc=>?_⟩;have:=hs0 [f] hG (λg hg=>by rw[QF.mp hg];exact hf) hc;rw[QF.mp this]
 ·obtain⟨f,hf,rfl⟩:=QQ.mp hp;obtain⟨f',hf',rfl⟩:=QQ.mp hq
  have hsub:∀g∈[f,f'],g∈fs:=λg hg=>by
   rcases QK.mp hg with rfl |w
   ·exact hf
   ·rw[QF.mp w];exact hf'
  have hG:Fam [f,f']:=⟨λg hg=>hF.fac g (hsub g hg),by simp;exact hne⟩
  have eP:E=prQ [f,f']:=by rw[hG.prd,eE];show _=af (ah f) (af (ah f') [1]);rw[c9]
  refine⟨[f,f'],hG,hsub,by simp,eP,λhc=>?_⟩;have hm:=hs0 [f,f'] hG hsub hc;have n1:=(fM (hF.fac f hf));have n2:=(fM (hF.fac f' hf'));have hlen:=bZ n1.pln.ne n2.pln.ne;rw[<- eE,hl]at hlen;have t1:=n1.two;have t2:=n2.two;rcases QK.mp hm with rfl |w
  ·omega
  ·rw[QF.mp w]at hl0;omega
theorem vR(hF:Fam fs)(hm:f0∈fs)(hl:(prQ fs).length<=(ah f0).length):prQ fs=ah f0:=by
 obtain⟨pre,post,e⟩:=SI (List.mem_map_of_mem (f:=ah) hm);have hp:=hF.pri;rw[hF.prd]at hl ⊢;rw[e]at hp hl ⊢;have hq:Pln (RM.prd (pre++post)):=iX _ λs hs=>(hp s (by simp at hs ⊢;rcases hs with z |z<;>simp[z])).pln
 have hs:Pln (ah f0):=(hp _ (by simp)).pln;rw[ly]at hl ⊢;have hlen:=bZ hs.ne hq.ne;have:=QG.mpr hs.ne;have:=QG.mpr hq.ne;rw[hq.const (by omega),c9]
theorem OneS.low(h:OneS fs f0 s0 l1 l2 h1 h2):sg (hv l1 l2 (ah f0))≠0:=by
 have hG:=h.fam.single h.mem;rw[<- n6 hG,hG.sign h.l2p,wJ];obtain⟨u,e,b,σ,rfl,rfl,hb,hN,hc⟩:=h.cases;intro z;obtain⟨s,hs,hz⟩:=pC z;have hin:=h.inn.1;rcases hc with⟨rfl,rfl⟩ |⟨hσ,he⟩
 ·rw[kN]at hs;rw[QF.mp hs]at hz;omega
 ·obtain⟨τ,rfl,_⟩:=pI hs;exact pZ hN he h.l2p hz
theorem pd{u e b x1 x2 y1 y2 p1 p2 q1 q2:Int}(x2p:0<x2)(y2p:0<y2)(p2p:0<p2)(q2p:0<q2)(hx:0<al [u,e,b,1] x1 x2)(hy:al [u,e,b,1] y1 y2<=0)(hp:0<al [u,e,b,-1] p1 p2)(hq:al [u,e,b,-1] q1 q2<=0):Two u e b ((x1:Rat)/(x2:Rat)) ((y1:Rat)/(y2:Rat)) ((p1:Rat)/(p2:Rat)) ((q1:Rat)/(q2:Rat)):=by
 rw[<- gn _ x2p]at hx;rw[<- gn _ y2p]at hy;rw[<- gn _ p2p]at hp;rw[<- gn _ q2p]at hq;have hy':=λz=>(absurd (v5 _ |>.mpr z) (Rp.mpr hy):False)
 have hq':=λz=>(absurd (v6 _ |>.mpr z) (Rp.mpr hq):False)
 refine⟨(v5 _).mp hx,?_,(v6 _).mp hp,?_⟩
 ·generalize (b:Rat)*((y1:Rat)/(y2:Rat))-(u:Rat)=v at hy'
  refine⟨RI.mp λz=>hy' (.inl z),RI.mp λz=>hy' (.inr z)⟩
 ·generalize (b:Rat)*((q1:Rat)/(q2:Rat))-(u:Rat)=v at hq'
  by_cases z:0<v
  ·exact .inl z
  ·exact .inr (RI.mp λw=>hq' ⟨RI.mp z,w⟩)
theorem zf{s:List Int}(hs:Spt s){B L:Int}(hB:1<=B)(hL:1<=L)(hb:al s B 1<0/\0<al s (-B) 1){x1 x2 y1 y2:Int}(x2p:0<x2)(y2p:0<y2)(hx:0<al s x1 x2)(hy:al s y1 y2<=0)(hlt:x1*y2<y1*x2)(hw:(y1*x2-x1*y2)*(8*L*B)<=1*(x2*y2)) :
 Bd (2*(B:Rat)-1/2) ((x1:Rat)/(x2:Rat))/\Bd (2*(B:Rat)-1/2) ((y1:Rat)/(y2:Rat))/\(x1:Rat)/(x2:Rat)<(y1:Rat)/(y2:Rat)/\((y1:Rat)/(y2:Rat)-(x1:Rat)/(x2:Rat))*(8*((L:Rat)*(B:Rat)))<=1:=by
 have X2:(0:Rat)<(x2:Rat):=QP.mpr x2p;have Y2:(0:Rat)<(y2:Rat):=QP.mpr y2p;have e1:(x1:Rat)/(x2:Rat)*(x2:Rat)=(x1:Rat):=QW (Rt X2);have e2:(y1:Rat)/(y2:Rat)*(y2:Rat)=(y1:Rat):=QW (Rt Y2);have ltR:=(iV x2p y2p).mpr hlt
 have xB:x1<B*x2:=RQ.mp λz=>by have:=p8 hs (t:=B) (n:=1) (t':=x1) (n':=x2) (by decide) x2p (by omega) (by omega);omega
 have yB : -B*y2<y1:=RQ.mp λz=>by have:=p8 hs (t:=y1) (n:=y2) (t' := -B) (n':=1) y2p (by decide) (by omega) hy;omega
 have cB:(1:Rat)<=(B:Rat):=RS.mpr hB;have cL:(1:Rat)<=(L:Rat):=RS.mpr hL;have xB':(x1:Rat)<(B:Rat)*(x2:Rat):=by rw[<- QI];exact QP.mpr xB
 have yB' : -(B:Rat)*(y2:Rat)<(y1:Rat):=by rw[<- Sr,<- QI];exact QP.mpr yB
 have hw':((y1:Rat)*(x2:Rat)-(x1:Rat)*(y2:Rat))*(8*(L:Rat)*(B:Rat))<=(x2:Rat)*(y2:Rat):=by rw[QZ]at hw;have:=RS.mpr hw;rw[QI,QI,QI,QI,SJ,QI,QI]at this;exact this
 generalize (x1:Rat)/(x2:Rat)=x at *
 generalize (y1:Rat)/(y2:Rat)=y at *
 rw[<- e1]at xB' hw';rw[<- e2]at yB' hw';have xb:x<(B:Rat):=sn X2 (by grind);have yb : -(B:Rat)<y:=sn Y2 (by grind);have M:=QV X2 Y2
 have wd:(y-x)*(8*((L:Rat)*(B:Rat)))<=1:=by refine fv M ?_;grind
 have LB:1<=(L:Rat)*(B:Rat):=by have:=Rg cB (show 0<=(L:Rat) by grind);grind
 have w8:(y-x)*8<=1:=by have:=Rg LB (show 0<=(y-x)*8 by grind);grind
 exact⟨⟨by grind,by grind⟩,⟨by grind,by grind⟩,ltR,wd⟩
theorem wD:∀e:Nat,∃n:Nat,n*n<=e/\e<(n+1)*(n+1)
 |0=>⟨0,by decide,by decide⟩
 |e+1=>by
  obtain⟨n,h1,h2⟩:=wD e;by_cases h:e+1<(n+1)*(n+1)
  ·exact⟨n,by omega,h⟩
  ·refine⟨n+1,by omega,?_⟩;have e1:(n+1+1)*(n+1+1)=(n+1)*(n+1)+2*(n+1)+1:=by grind
   omega
theorem za{d:Int}(h:NSq d)(v:Int):NS (d*v*v):=by
 by_cases hv:v=0
 ·left;rw[hv];omega
 ·right
  have hp:0<d*v*v:=by
   rw[Rc];refine QC h.1 ?_;rcases RY hv with z |z
   ·exact Sq z z
   ·exact QC z z
  obtain⟨n,h1,h2⟩:=wD (d*v*v).toNat;have h3:((n*n:Nat):Int)=(n:Int)*(n:Int):=Rx _ _;have h4:(((n+1)*(n+1):Nat):Int)=((n:Int)+1)*((n:Int)+1):=by rw[Rx];rfl
  have ne:=h.2 (n:Int) v hv;refine⟨n,by omega,?_,?_⟩
  ·omega
  ·omega
noncomputable def ck(v:Int):Int:=if v<0 then -1 else 1
theorem pX{u v w d x1 x2:Int}(hd:NSq d)(x2p:0<x2):0<al [u,d*v*v,w,ck v] x1 x2↔0<sgq (u*x2-x1*w) (v*x2) d:=by
 have eq:d*v*v*x2*x2=d*(v*x2)*(v*x2):=by grind
 have ne:v≠0->(u*x2-x1*w)*(u*x2-x1*w)≠d*(v*x2)*(v*x2):=λhv=>hd.2 _ _ (QU hv (by omega))
 unfold al ck;by_cases hv:v<0
 ·rw[if_pos hv,if_neg (show ¬(0:Int)<cf [u,d*v*v,w,-1] 3 from(by decide:¬(0:Int) < -1))];show 0<0-aX (d*v*v*x2*x2) (0-(w*x1-u*x2))↔_;rw[eq];have eA:0-(w*x1-u*x2)=u*x2-x1*w:=by grind
  rw[eA];have hvx:v*x2<0:=Sx hv x2p;have hne:=ne (by omega);generalize u*x2-x1*w=A at *
  generalize v*x2=B at *
  rcases RZ 0 A with z |z
  ·rw[nM z hvx];rcases ci (d*B*B) A with⟨c,h1⟩ |⟨c,_,h1⟩ |⟨c,_,h1⟩
   ·rw[c,if_pos (by omega)];omega
   ·exact absurd h1 hne
   ·rw[c,if_neg (by omega)];omega
  ·rw[iU z (by omega) (.inr hvx)];rcases ci (d*B*B) A with⟨c,h1⟩ |⟨c,_,h1⟩ |⟨c,h0,h1⟩
   ·rw[c];omega
   ·exact absurd h1 hne
   ·have:A=0:=by omega
    subst this;have h5:0<d*B*B:=by rw[Rc];exact QC hd.1 (Sq hvx hvx)
    omega
 ·rw[if_neg hv,if_pos (show(0:Int)<cf [u,d*v*v,w,1] 3 from(by decide:(0:Int)<1))];show 0<aX (d*v*v*x2*x2) (w*x1-u*x2)↔_;rw[eq];have eA:w*x1-u*x2 = -(u*x2-x1*w):=by grind
  rw[eA];have hvx:0<=v*x2:=Q8 (by omega) (by omega);have hz:v=0->v*x2=0:=λh=>by rw[h,Q3]
  have hp:v≠0->0<v*x2:=λh=>QC (by omega) x2p
  generalize u*x2-x1*w=A at *
  generalize v*x2=B at *
  have sqA : -A * -A=A*A:=by grind
  by_cases h0:v=0
  ·have hB:=hz h0;subst hB;have e0:d*0*0=0:=by omega
   rw[e0];rcases SW A 0 with z |z |z
   ·rw[iU (by omega) (Q7 _) (.inl z)];rcases ci 0 (-A)with⟨c,h1 |h1⟩ |⟨c,_,h1⟩ |⟨c,_,h1⟩
    ·omega
    ·have:=Sq z z;omega
    ·rw[c];omega
    ·rw[c]
   ·subst z;have a1:aX 0 (-0)=0:=by decide
    rw[a1,nQ]
   ·rw[hJ (by omega) (Q7 _) (.inl z)];unfold aX;rw[if_pos (.inl (by omega))]
  ·have hB:=hp h0;have hne:=ne h0;have hpos:0<d*B*B:=by rw[Rc];exact QC hd.1 (QC hB hB)
   rcases RZ A 0 with z |z
   ·rw[nN z hB];rcases ci (d*B*B) (-A)with⟨c,h1 |h1⟩ |⟨c,_,h1⟩ |⟨c,_,h1⟩
    ·omega
    ·rw[c,if_neg (by omega)]
    ·exact absurd (by omega) hne
    ·rw[c,if_pos (by omega)]
   ·rw[hJ z (by omega) (.inr hB)]
    have:aX (d*B*B) (-A)=1:=by
     unfold aX;rw[if_pos];rcases RT z with y |y
     ·exact .inl (by omega)
     ·right;rw[<- y];omega
    rw[this]
theorem Br{l1 l2 h1 h2:Int}:∀{ls:List (List Int)},(∀x∈ls,¬(0<al x l1 l2/\al x h1 h2<=0))->bT ls l1 l2 h1 h2=0
 | [],_=>rfl
 |l::ls,h=>by rw[dm,if_neg (h l (QN ..)),Br λx hx=>h x (QJ _ hx)];rfl
theorem Bu(l1 l2 h1 h2:Int):∀a b:List (List Int),bT (a++b) l1 l2 h1 h2=bT a l1 l2 h1 h2+bT b l1 l2 h1 h2
 | [],b=>by rw[List.nil_append];show _=0+_;omega
 |x::a,b=>by rw[SV,dm,dm,Bu l1 l2 h1 h2 a b];omega
theorem wK(f:List Int)(fs:List (List Int)):aL (f::fs)=spF f++aL fs:=rfl
theorem yZ{u v w d l1 l2 h1 h2:Int}{rs:List (List Int)}(hd:NSq d)(hF:Fam ([u,d*v*v,w]::rs))(l2p:0<l2)(h2p:0<h2)(lt:l1*h2<h1*l2)(lo:0<sgq (u*l2-l1*w) (v*l2) d)(hi:¬0<sgq (u*h2-h1*w) (v*h2) d)(ol:0<v->u*l2<=l1*w)(oh:v<0->h1*w<=u*h2)(hno:∀x∈aL rs,¬(0<al x l1 l2/\al x h1 h2<=0)) :
 OneS ([u,d*v*v,w]::rs) [u,d*v*v,w] [u,d*v*v,w,ck v] l1 l2 h1 h2/\bT (aL ([u,d*v*v,w]::rs)) l1 l2 h1 h2=1:=by
 have lo':=(pX (u:=u) (v:=v) (w:=w) (d:=d) (x1:=l1) hd l2p).mpr lo;have hi':al [u,d*v*v,w,ck v] h1 h2<=0:=Rp.mp λz=>hi ((pX hd h2p).mp z)
 have key:ck v=1/\spF [u,d*v*v,w]=[[u,d*v*v,w,1]]/\v=0\/ck v=1/\spF [u,d*v*v,w]=[[u,d*v*v,w,1],[u,d*v*v,w,-1]]/\¬(0<al [u,d*v*v,w,-1] l1 l2/\al [u,d*v*v,w,-1] h1 h2<=0)\/ck v = -1/\spF [u,d*v*v,w]=[[u,d*v*v,w,1],[u,d*v*v,w,-1]]/\¬(0<al [u,d*v*v,w,1] l1 l2/\al [u,d*v*v,w,1] h1 h2<=0):=by
  by_cases hv:v=0
  ·left;subst hv;have e0:d*0*0=0:=by omega
   rw[e0];exact⟨rfl,kN,rfl⟩
  ·have he:0<d*v*v:=by
    rw[Rc];refine QC hd.1 ?_;rcases RY hv with z |z
    ·exact Sq z z
    ·exact QC z z
   right;rcases RY hv with z |z
   ·right;refine⟨by unfold ck;rw[if_pos z],kO he,λhh=>?_⟩;have h5:=oh z
    have:al [u,d*v*v,w,1] h1 h2=1:=by
     unfold al;rw[if_pos (show(0:Int)<cf [u,d*v*v,w,1] 3 from(by decide:(0:Int)<1))];show aX (d*v*v*h2*h2) (w*h1-u*h2)=1;unfold aX;rw[if_pos];have e1:w*h1=h1*w:=QT _ _;rcases RT h5 with y |y
     ·exact .inl (by omega)
     ·right;have:w*h1-u*h2=0:=by omega
      rw[this,Q3];exact QC (QC he h2p) h2p
    omega
   ·left;refine⟨by unfold ck;rw[if_neg (by omega)],kO he,λhh=>?_⟩;have h5:=ol z
    have:al [u,d*v*v,w,-1] l1 l2 = -1:=by
     unfold al;rw[if_neg (show ¬(0:Int)<cf [u,d*v*v,w,-1] 3 from(by decide:¬(0:Int) < -1))];show 0-aX (d*v*v*l2*l2) (0-(w*l1-u*l2)) = -1
     have:aX (d*v*v*l2*l2) (0-(w*l1-u*l2))=1:=by
      unfold aX;rw[if_pos];have e1:w*l1=l1*w:=QT _ _;rcases RT h5 with y |y
      ·exact .inl (by omega)
      ·right;have:0-(w*l1-u*l2)=0:=by omega
       rw[this,Q3];exact QC (QC he l2p) l2p
     omega
    omega
 have c0:bT (aL rs) l1 l2 h1 h2=0:=Br hno;have e0:bT [] l1 l2 h1 h2=0:=rfl;refine⟨⟨hF,QN ..,?_,l2p,h2p,lt,⟨lo',hi'⟩,λs hs a b=>?_⟩,?_⟩
 ·rcases key with⟨k1,k2,_⟩ |⟨k1,k2,_⟩ |⟨k1,k2,_⟩<;>rw[k1,k2]<;>simp
 ·rw[wK]at hs;rcases QS.mp hs with z |z
  ·rcases key with⟨k1,k2,_⟩ |⟨k1,k2,k3⟩ |⟨k1,k2,k3⟩
   ·rw[k2]at z;rw[k1];exact QF.mp z
   ·rw[k2]at z;rw[k1];rcases QK.mp z with y |y
    ·exact y
    ·rw[QF.mp y]at a b;exact absurd ⟨a,b⟩ k3
   ·rw[k2]at z;rw[k1];rcases QK.mp z with y |y
    ·rw[y]at a b;exact absurd ⟨a,b⟩ k3
    ·exact QF.mp y
  ·exact absurd ⟨a,b⟩ (hno s z)
 ·rw[wK,Bu,c0];rcases key with⟨k1,k2,_⟩ |⟨k1,k2,k3⟩ |⟨k1,k2,k3⟩
  ·rw[k1]at lo' hi';rw[k2,dm,if_pos ⟨lo',hi'⟩,e0];rfl
  ·rw[k1]at lo' hi';rw[k2,dm,dm,if_pos ⟨lo',hi'⟩,if_neg k3,e0];rfl
  ·rw[k1]at lo' hi';rw[k2,dm,dm,if_neg k3,if_pos ⟨lo',hi'⟩,e0];rfl
theorem kZ{u v w d x1 x2:Int}(hd:NSq d)(x2p:0<x2):al [u,d*v*v,w,ck v] x1 x2=sgq (u*x2-x1*w) (v*x2) d:=by
 have hu:=pX (u:=u) (v:=v) (w:=w) (x1:=x1) hd x2p;have c1:=dW [u,d*v*v,w,ck v] x1 x2;have c2:=DB (u*x2-x1*w) (v*x2) d
 have hz:al [u,d*v*v,w,ck v] x1 x2=0↔sgq (u*x2-x1*w) (v*x2) d=0:=by
  by_cases hv:v=0
  ·subst hv;have e0:d*0*0=0:=by omega
   rw[e0,Q3];show al [u,0,w,1] x1 x2=0↔_
   have hs:al [u,0,w,1] x1 x2=aX 0 (w*x1-u*x2):=by unfold al;rw[if_pos (show(0:Int)<cf [u,0,w,1] 3 from(by decide:(0:Int)<1))];show aX (0*x2*x2) (w*x1-u*x2)=_;rw[Q3,Q3]
   rw[hs];have eA:w*x1-u*x2 = -(u*x2-x1*w):=by grind
   rw[eA];generalize u*x2-x1*w=A;rcases SW A 0 with z |z |z
   ·rw[iU (by omega) (Q7 _) (.inl z)];rcases ci 0 (-A)with⟨c,_⟩ |⟨c,_,h1⟩ |⟨c,_⟩
    ·rw[c];decide
    ·have:=QC (show 0 < -A by omega) (show 0 < -A by omega);omega
    ·rw[c]
   ·subst z;have a1:aX 0 (-0)=0:=by decide
    rw[a1,nQ]
   ·rw[hJ (by omega) (Q7 _) (.inl z)];unfold aX;rw[if_pos (.inl (by omega))]
  ·have he:0<d*v*v:=by
    rw[Rc];refine QC hd.1 ?_;rcases RY hv with z |z
    ·exact Sq z z
    ·exact QC z z
   have n1:al [u,d*v*v,w,ck v] x1 x2≠0:=pZ (za hd v) he x2p;have hvx:v*x2≠0:=QU hv (by omega)
   have n2:sgq (u*x2-x1*w) (v*x2) d≠0:=by
    unfold sgq;split
    ·rw[if_pos (.inr (by omega))];decide
    ·split
     ·decide
     ·split
      ·split<;>decide
      ·split<;>decide
   exact⟨λz=>absurd z n1,λz=>absurd z n2⟩
 rcases c1 with z |z |z<;>rcases c2 with y |y |y<;>omega
theorem Ct(c:Int)(l:List Int):turnL (scL c l)=scL c (turnL l):=by
 have e:(scL c l).length=l.length:=QB _;unfold turnL;rw[e];unfold scL;rw[Rw];refine Sm λk _=>?_
 have:cf (l.map λx=>c*x) k=c*cf l k:=bU c l k;show(if k%2=0 then cf (l.map λx=>c*x) k else -cf (l.map λx=>c*x) k)=c*(if k%2=0 then cf l k else -cf l k);rw[this];split
 ·rfl
 ·grind
theorem wa{l:List Int}(h:Tr l):Tr (turnL l):=λn e=>by rw[pe]at e;have:=h n e;rw[BC];split<;>omega
theorem wb{l:List Int}(h:Tr l)(hp:0<ap l):aA (turnL (aA l))=aA (turnL l):=by
 have hne:l≠[]:=λz=>by subst z;exact absurd hp (by decide)
 obtain⟨g0,t0,n0,e0⟩:=k8 h hne
 have hl:ap l=(aB l:Int)*ap (ar l):=by have:=e0 (l.length-1);unfold ap;have e:(ar l).length=l.length:=QB _;rw[e];exact this
 have e1:aA l=ar l:=by unfold aA cz;rw[if_neg];intro z;have:=SU g0 z;omega
 have e2:l=scL (aB l:Int) (ar l):=shr_scale.symm;rw[e1]
 conv=>rhs;rw[e2,Ct]
 rw[ig (by omega) (wa t0)]
theorem DA{a b d:Int}(h:sgq a b d=0):a=0/\b=0:=by
 unfold sgq at h
 split at h
 ·split at h
  ·cases h
  ·omega
 ·split at h
  ·cases h
  ·split at h
   ·split at h<;>cases h
   ·split at h<;>cases h
theorem nO{d:Int}(hd:NSq d)(a b:Int):sgq (-a) (-b) d = -sgq a b d:=by
 unfold sgq;by_cases h1:0<=a/\0<=b
 ·rw[if_pos h1];by_cases h2:0<a\/0<b
  ·rw[if_pos h2,if_neg (by omega),if_pos (by omega)]
  ·rw[if_neg h2,if_pos (by omega),if_neg (by omega)];rfl
 ·by_cases h3:a<=0/\b<=0
  ·rw[if_neg h1,if_pos h3,if_pos (by omega),if_pos (by omega)];rfl
  ·have e1 : -a * -a=a*a:=Int.neg_mul_neg _ _;have e2:d * -b * -b=d*b*b:=by grind
   rw[if_neg h1,if_neg h3,if_neg (by omega),if_neg (by omega),e1,e2];have hne:=hd.2 a b (by omega);by_cases h4:0<a
   ·rw[if_pos h4,if_neg (by omega)];by_cases h5:a*a<d*b*b
    ·rw[if_pos h5,if_neg (by omega)];rfl
    ·rw[if_neg h5,if_pos (by omega)]
   ·rw[if_neg h4,if_pos (by omega)];by_cases h5:a*a<d*b*b
    ·rw[if_pos h5,if_neg (by omega)]
    ·rw[if_neg h5,if_pos (by omega)];rfl
open PySem PySem.NumText PySem.Builtin PySem.Builtin.Str
noncomputable def stL(l:List Nat):Str:=⟨l.toArray⟩
theorem kL(l:List Nat):(stL l).cps.toList=l:=rfl
theorem cj(l:List Nat):(stL l).length=l.length:=by unfold stL Str.length;simp
theorem kM(a b:List Nat):stL a++stL b=stL (a++b):=LD a b
theorem stL_inj{a b:List Nat}:stL a=stL b↔a=b:=⟨λh=>congrArg (λz:Str=>z.cps.toList) h,λh=>by rw[h]⟩
theorem kX(l:List Nat){a b:Nat}(hab:a<=b)(hb:b<=l.length):Txt.slice (stL l) (some (a:Int)) (some (b:Int))=stL ((l.drop a).take (b-a)):=by
 unfold Txt.slice;have hl:b<=(stL l).length:=by rw[cj];exact hb
 split
 ·rename_i h
  have e:(strSliceIndices (some (a:Int)) (some (b:Int)) 1 (stL l).length).length=(stL l).length:=by simpa using h
  rw[StrLaws.strSliceIndices_plain hab hl,QB,RO,cj]at e;have ha:a=0:=by omega
  have hb':b=l.length:=by omega
  subst ha;subst hb';rw[RL,Rv,RF]
 ·rw[StrLaws.sliced_plain (stL l) hab hl];rfl
noncomputable def isD(c:Nat):Bool:=decide (48<=c)&&decide (c<=57)
theorem Hc(n:Nat):aK n≠[]:=by
 by_cases h:n<10
 ·rw[gz h];simp
 ·rw[j3 (by omega)];simp
theorem y9:∀(n m:Nat),m<=n->∀c∈aK m,isD c=true
 |0,m,h=>by
  have e:m=0:=by omega
  subst e;rw[gz (by decide)];intro c hc;rw[QF.mp hc];decide
 |n+1,m,h=>by
  intro c hc;by_cases h':m<10
  ·rw[gz h']at hc;rw[QF.mp hc];unfold isD;simp only[SQ,decide_eq_true_eq];omega
  ·rw[j3 (by omega)]at hc;rcases QS.mp hc with hc |hc
   ·exact y9 n (m/10) (by omega) c hc
   ·rw[QF.mp hc];have:=Nat.mod_lt m (show 0<10 by decide);unfold isD;simp only[SQ,decide_eq_true_eq];omega
theorem Hd(n:Nat):∀c∈aK n,isD c=true:=y9 n n (QD _)
theorem y8:∀(n m:Nat),m<=n->1<=m->∃c r,aK m=c::r/\c≠48
 |0,m,h,h1=>by omega
 |n+1,m,h,h1=>by
  by_cases h':m<10
  ·exact⟨48+m,[],gz h',by omega⟩
  ·obtain⟨c,r,e,hc⟩:=y8 n (m/10) (by omega) (by omega);rw[j3 (by omega),e];exact⟨c,r++[48+m%10],rfl,hc⟩
def Bl(b:List Nat):Prop:=b=[]\/∃r,b=32::r
theorem Bl.no{b:List Nat}(h:Bl b)(p:Nat->Bool)(hp:p 32=false):∀c∈b.head?,p c=false:=by
 rcases h with rfl |⟨r,rfl⟩
 ·intro c hc;simp at hc
 ·intro c hc;have:c=32:=by simpa using hc.symm
  rw[this];exact hp
theorem Ai{n len:Nat}(hn:0<n)(h:n<=len):strSliceIndices none (some (-(n:Int))) 1 len=strSliceIndices (some ((0:Nat):Int)) (some ((len-n:Nat):Int)) 1 len/\strSliceIndices (some (-(n:Int))) none 1 len=strSliceIndices (some ((len-n:Nat):Int)) (some ((len:Nat):Int)) 1 len:=by
 have h1 : -(n:Int)<0:=by omega
 have h2:¬(((len-n:Nat):Int)<0):=by omega
 have h3:¬(((len:Nat):Int)<0):=by omega
 have h4:¬(((0:Nat):Int)<0):=by omega
 have e1:max (0:Int) (min (-(n:Int)+(len:Int)) (len:Int))=((len-n:Nat):Int):=by omega
 have e2:max (0:Int) (min (((len-n:Nat):Int)) (len:Int))=((len-n:Nat):Int):=by omega
 have e3:max (0:Int) (min (((len:Nat):Int)) (len:Int))=((len:Nat):Int):=by omega
 have e4:max (0:Int) (min (((0:Nat):Int)) (len:Int))=0:=by omega
 constructor
 ·simp only[strSliceIndices,h1,h2,h4,if_true,if_false,e1,e2,e4,show((1:Int)>0)=True from by simp]
 ·simp only[strSliceIndices,h1,h2,h3,if_true,if_false,e1,e2,e3,show((1:Int)>0)=True from by simp]
theorem Aj{j len:Nat}(h:j<=len):strSliceIndices none (some (j:Int)) 1 len=strSliceIndices (some ((0:Nat):Int)) (some (j:Int)) 1 len/\strSliceIndices (some (j:Int)) none 1 len=strSliceIndices (some (j:Int)) (some ((len:Nat):Int)) 1 len:=by
 have h2:¬((j:Int)<0):=by omega
 have h3:¬(((len:Nat):Int)<0):=by omega
 have h4:¬(((0:Nat):Int)<0):=by omega
 have e3:max (0:Int) (min (((len:Nat):Int)) (len:Int))=((len:Nat):Int):=by omega
 have e4:max (0:Int) (min (((0:Nat):Int)) (len:Int))=0:=by omega
 constructor
 ·simp only[strSliceIndices,h2,h4,if_true,if_false,e4,show((1:Int)>0)=True from by simp]
 ·simp only[strSliceIndices,h2,h3,if_true,if_false,e3,show((1:Int)>0)=True from by simp]
theorem kY{z:Str}{a b c d:Option Int}(h:strSliceIndices a b 1 z.length=strSliceIndices c d 1 z.length):Txt.slice z a b=Txt.slice z c d:=by unfold Txt.slice;rw[h]
theorem xY(l:List Nat){j:Nat}(h:j<=l.length):Txt.slice (stL l) none (some (j:Int))=stL (l.take j):=by rw[kY (c:=some ((0:Nat):Int)) (d:=some (j:Int)) (by rw[cj];exact(Aj h).1),kX l (QH _) h,RL,Rv]
theorem Do(l:List Nat){j:Nat}(h:j<=l.length):Txt.slice (stL l) (some (j:Int)) none=stL (l.drop j):=by rw[kY (c:=some (j:Int)) (d:=some ((l.length:Nat):Int)) (by rw[cj];exact(Aj h).2),kX l h (QD _),List.take_of_length_le (by rw[Rr];omega)]
theorem xX(l:List Nat){n:Nat}(hn:0<n)(h:n<=l.length):Txt.slice (stL l) none (some (-(n:Int)))=stL (l.take (l.length-n)):=by rw[kY (c:=some ((0:Nat):Int)) (d:=some ((l.length-n:Nat):Int)) (by rw[cj];exact(Ai hn h).1),kX l (QH _) (by omega),RL,Rv]
theorem xZ(l:List Nat){n:Nat}(hn:0<n)(h:n<=l.length):Txt.slice (stL l) (some (-(n:Int))) none=stL (l.drop (l.length-n)):=by rw[kY (c:=some ((l.length-n:Nat):Int)) (d:=some ((l.length:Nat):Int)) (by rw[cj];exact(Ai hn h).2),kX l (by omega) (QD _),List.take_of_length_le (by rw[Rr];omega)]
noncomputable def aZ(k m:Nat):List Nat:=List.replicate (k-(aK m).length) 48++aK m
theorem lH(k m:Nat):(aZ k m).length=max k (aK m).length:=by unfold aZ;rw[QO,SO];omega
theorem Ce(k m:Nat):PySem.Txt.zfill (stL (aK m)) (k:Int)=stL (aZ k m):=by
 unfold PySem.Txt.zfill;have hl:(stL (aK m)).length=(aK m).length:=cj _;rw[hl];by_cases h6:(k:Int)<=((aK m).length:Nat)
 ·rw[if_pos h6];unfold aZ;have e:k-(aK m).length=0:=by omega
  rw[e];rfl
 ·rw[if_neg h6];unfold zfilled
  have hc:∀c,(stL (aK m)).cps[0]?=some c->48<=c:=λc e=>by
   have e':(aK m)[0]?=some c:=by simpa[stL]using e
   exact sQ m m (QD _) c (List.mem_of_getElem? e')
  split
  ·rename_i e
   have:=hc _ e;omega
  ·rename_i e
   have:=hc _ e;omega
  ·unfold Builtin.Str.padded aZ;have e:Int.toNat (k:Int)-(stL (aK m)).length=k-(aK m).length:=by rw[hl];rfl
   simp[stL,Str.length]
noncomputable def dP(l:List Nat)(n:Nat):List Nat:=if n=0 then l else l.take (l.length-n)++(46::l.drop (l.length-n))
noncomputable def iB(neg:Bool)(m n:Nat):List Nat:=(if neg=true/\0<m then[45]else[])++dP (aZ (n+1) m) n
open PySem PySem.NumText PySem.Builtin PySem.Builtin.Str L2
theorem JW{a b len:Nat}(hb:0<b)(hab:b<=a)(h:a<=len):strSliceIndices (some (-(a:Int))) (some (-(b:Int))) 1 len=strSliceIndices (some ((len-a:Nat):Int)) (some ((len-b:Nat):Int)) 1 len:=by
 have h1 : -(a:Int)<0:=by omega
 have h1' : -(b:Int)<0:=by omega
 have h2:¬(((len-a:Nat):Int)<0):=by omega
 have h2':¬(((len-b:Nat):Int)<0):=by omega
 have e1:max (0:Int) (min (-(a:Int)+(len:Int)) (len:Int))=((len-a:Nat):Int):=by omega
 have e1':max (0:Int) (min (-(b:Int)+(len:Int)) (len:Int))=((len-b:Nat):Int):=by omega
 have e2:max (0:Int) (min (((len-a:Nat):Int)) (len:Int))=((len-a:Nat):Int):=by omega
 have e2':max (0:Int) (min (((len-b:Nat):Int)) (len:Int))=((len-b:Nat):Int):=by omega
 simp only[strSliceIndices,h1,h2,h1',h2',if_true,if_false,e1,e2,e1',e2',show((1:Int)>0)=True from by simp]
theorem Dn(l:List Nat){a b:Nat}(hb:0<b)(hab:b<=a)(h:a<=l.length):Txt.slice (stL l) (some (-(a:Int))) (some (-(b:Int)))=stL ((l.drop (l.length-a)).take (a-b)):=by rw[kY (c:=some ((l.length-a:Nat):Int)) (d:=some ((l.length-b:Nat):Int)) (by rw[cj];exact JW hb hab h),kX l (by omega) (by omega),show l.length-b-(l.length-a)=a-b by omega]
theorem yV(k m:Nat):∀c∈aZ k m,isD c=true:=λc hc=>by
 unfold aZ at hc
 rcases QS.mp hc with h |h
 ·rw[(List.mem_replicate.mp h).2];rfl
 ·exact Hd m c h
theorem vY:∀(j:Nat) (l:List Nat),digitsVal (List.replicate j 48++l)=digitsVal l
 |0,l=>rfl
 |j+1,l=>by
  have ih:=vY j l;unfold digitsVal at ih ⊢
  rw[R3,SV,List.foldl_cons];exact ih
theorem Fq(k m:Nat)(hl:(aZ k m).length<=4300):PySem.intText? (stL (aZ k m))=some (m:Int):=by
 have hd:AllDigits (stL (aZ k m)).cps.toList:=λc hc=>by
  rw[kL]at hc;have:=yV k m c hc;unfold isD at this
  simpa using this
 have ne:aZ k m≠[]:=by unfold aZ;exact List.append_ne_nil_of_right_ne_nil _ (Hc m)
 have e:=intText_digits hd (by rw[kL];exact ne) (by rw[cj];exact hl);rw[kL]at e;rw[e];have:digitsVal (aZ k m)=m:=by unfold aZ;rw[vY];exact PySem.W.KIN.val_back m
 rw[this]
theorem Ks{c:Nat}(h:isD c=true):(!(!(Builtin.Str.occurrences (Str.ofString "0123456789") ⟨#[c]⟩ 0 (Str.ofString "0123456789").length 1).isEmpty))=false:=by
 have h1:48<=c/\c<=57:=by unfold isD at h;simpa using h
 have key:∀k:Fin 10,(!(!(Builtin.Str.occurrences (Str.ofString "0123456789") ⟨#[48+k.val]⟩ 0 (Str.ofString "0123456789").length 1).isEmpty))=false:=by decide +kernel
 have:=key ⟨c-48,by omega⟩;rw[show 48+(c-48)=c by omega]at this;exact this
theorem Le{ds:List Nat}{n:Nat}(hn:0<n)(hl:n+1<=ds.length):Txt.slice (stL (dP ds n)) (some (-((n+1:Nat):Int))) (some (-(n:Int)))=stL [46]/\Txt.slice (stL (dP ds n)) none (some (-((n+1:Nat):Int)))=stL (ds.take (ds.length-n))/\Txt.slice (stL (dP ds n)) (some (-(n:Int))) none=stL (ds.drop (ds.length-n)):=by
 unfold dP;rw[if_neg (by omega)];have l1:(ds.take (ds.length-n)).length=ds.length-n:=by rw[Rn];omega
 have l2:(ds.drop (ds.length-n)).length=n:=by rw[Rr];omega
 generalize ds.take (ds.length-n)=A at l1 ⊢
 generalize ds.drop (ds.length-n)=B at l2 ⊢
 have ll:(A++46::B).length=A.length+(n+1):=by rw[QO,Rb,l2]
 refine⟨?_,?_,?_⟩
 ·rw[Dn _ hn (by omega) (by omega),ll,S1,List.drop_left,show n+1-n=1 by omega];rfl
 ·rw[xX _ (by omega) (by omega),ll,S1,List.take_left]
 ·have e:A++46::B=(A++[46])++B:=by simp
  have e2:(A++46::B).length-n=(A++[46]).length:=by rw[ll,QO,List.length_singleton];omega
  rw[xZ _ hn (by omega),e2,e,List.drop_left]
theorem Fu{k m:Nat}(h:k<(aZ k m).length)(hk:0<k):∃c r,aZ k m=c::r/\c≠48:=by
 rw[lH]at h;have e:aZ k m=aK m:=by unfold aZ;rw[show k-(aK m).length=0 by omega];rfl
 rw[e];refine y8 m m (QD _) ?_;rcases S3 m with z |z
 ·subst z;have:(aK 0).length=1:=by rw[gz (by decide)];rfl
  omega
 ·exact z
theorem Lg{ds:List Nat}{n:Nat}(hl:n+1<=ds.length)(hd:∀c∈ds,isD c=true):∃c r,dP ds n=c::r/\isD c=true:=by
 cases ds with
 |nil=>exact absurd hl (by simp)
 |cons c r =>
  refine⟨c,?_⟩;unfold dP;split
  ·exact⟨r,rfl,hd c (QN ..)⟩
  ·obtain⟨j,hj⟩:∃j,(c::r).length-n=j+1:=⟨(c::r).length-n-1,by omega⟩;rw[hj];exact⟨_,rfl,hd c (QN ..)⟩
theorem Lf{ds:List Nat}{n:Nat}(hl:n+1<=ds.length):(dP ds n).length<=ds.length+1:=by
 unfold dP;split
 ·omega
 ·rw[QO,Rb,Rn,Rr];omega
theorem Kp{z:Str}{g:TG}{tb:TS}{D:L2.Ends}{σ:St}{H:Hp}(Pv:Nat->St->Hp->Prop)(h0:Pv 0 σ H)
 (hs:∀i c σ H,z.cps[i]?=some c->Pv i σ H->g (.str ⟨#[c]⟩) σ H λσ2 H2=>tb { D with nx:=Pv (i+1),ct:=Pv (i+1),bk:=D.nx } σ2 H2) (hd:∀σ H,Pv z.cps.size σ H->D.nx σ H) :
 ∃W:Nat->Nat->St->Hp->Prop,(∃m,W 0 m σ H)/\∀i m σ H,W i m σ H ->
  ((Its z).stop i H/\D.nx σ H)\/((Its z).go i H/\∃N:St->Hp->Prop,(∀σ' H',N σ' H'->∃m',m'<m/\W (i+1) m' σ' H')/\∀x H',(Its z).yld i H x H'->g x σ H' λσ2 H2=>tb { D with nx:=N,ct:=N,bk:=D.nx } σ2 H2):=by
 refine⟨λi m σ H=>m=z.cps.size-i/\i<=z.cps.size/\Pv i σ H,⟨z.cps.size,by simp,QH _,h0⟩,?_⟩;rintro i m σ H ⟨rfl,hi,p⟩;by_cases hlt:i<z.cps.size
 ·refine .inr ⟨hlt,Pv (i+1),λσ' H' p'=>⟨z.cps.size-(i+1),by omega,rfl,hlt,p'⟩,λx H' y=>?_⟩;obtain⟨e,c,hc,y⟩:=y;subst e y;exact hs i c σ _ hc p
 ·have e:i=z.cps.size:=by omega
  subst e;exact .inl ⟨QD _,hd σ H p⟩
end RM
open PySem.W in
local macro_rules | `(tactic|walk_at "comp_ok")=>`(tactic|exact⟨by with_unfolding_all rfl,by decide +kernel,rfl,by decide +kernel,by repeat' (first |exact List.forall_mem_nil _ |refine List.forall_mem_cons.2 ⟨rfl,?_⟩),by rfl,by repeat' (first |exact .nil |refine .cons ⟨rfl,by first |exact Or.inl rfl |exact Or.inr rfl,rfl⟩ ?_)⟩)
namespace R73
open PySem L2 RM
noncomputable def top(i:Nat):Stmt:=PySem.Challenge.pw_rootspan_k73_figures.main.body.getD i (.Pass ⟨0,0,0,0⟩)
abbrev qC:Stmt:=top 10
abbrev qB:Stmt:=top 11
abbrev qj:Stmt:=top 12
abbrev qi:Stmt:=top 13
abbrev jS:Stmt:=jj (top 14) 0
abbrev rV:Stmt:=jj (top 14) 1
abbrev rW:Stmt:=jj (top 14) 2
abbrev rT:Stmt:=jj (top 14) 3
abbrev rY:Stmt:=jj (top 14) 5
abbrev rX:Stmt:=jj (top 14) 7
abbrev qI:Stmt:=top 16
abbrev rj:Stmt:=top 17
abbrev rF:Stmt:=top 18
abbrev qq:Stmt:=top 19
abbrev rq:Stmt:=top 20
abbrev qR:Stmt:=top 21
abbrev qy:Stmt:=top 22
abbrev qm:Stmt:=top 23
abbrev nU:Stmt:=top 24
abbrev qJ:Stmt:=top 25
abbrev qk:Stmt:=top 26
abbrev qA:Stmt:=top 27
abbrev rh:Stmt:=top 29
abbrev qD:Stmt:=top 30
abbrev qV:Stmt:=top 31
abbrev qE:Stmt:=top 33
abbrev qF:Stmt:=top 34
abbrev rz:Stmt:=top 35
abbrev rk:Stmt:=top 36
abbrev rB:Stmt:=top 38
abbrev rA:Stmt:=top 39
abbrev qT:Stmt:=top 40
abbrev qP:Stmt:=top 41
abbrev qZ:Stmt:=top 42
abbrev qr:Stmt:=top 43
abbrev q8:Stmt:=top 44
abbrev qv:Stmt:=top 45
abbrev qS:Stmt:=top 46
abbrev rD:Stmt:=top 47
abbrev rf:Stmt:=top 49
abbrev rm:Stmt:=top 50
abbrev qK:Stmt:=top 51
abbrev qh:Stmt:=top 52
abbrev qw:Stmt:=top 54
abbrev qX:Stmt:=top 56
abbrev re:Stmt:=top 57
abbrev qW:Stmt:=top 58
abbrev qu:Stmt:=top 59
abbrev qo:Stmt:=top 60
abbrev rZ:Stmt:=jj (top 63) 0
abbrev jQ:Stmt:=top 64
abbrev qG:Stmt:=top 65
abbrev qH:Stmt:=top 66
abbrev qU:Stmt:=top 67
abbrev qN:Stmt:=top 68
abbrev qQ:Stmt:=top 69
abbrev qx:Stmt:=top 70
abbrev rE:Stmt:=top 71
abbrev rC:Stmt:=top 72
abbrev qz:Stmt:=top 73
abbrev qL:Stmt:=top 75
abbrev qM:Stmt:=top 76
abbrev qt:Stmt:=top 78
abbrev jR:Stmt:=top 79
abbrev qO:Stmt:=top 80
abbrev qp:Stmt:=top 81
abbrev rR:Stmt:=top 83
abbrev rQ:Stmt:=top 84
abbrev rL:Stmt:=top 85
abbrev rN:Stmt:=top 86
abbrev rP:Stmt:=top 87
abbrev rJ:Stmt:=top 88
abbrev rS:Stmt:=top 89
abbrev rG:Stmt:=top 90
abbrev rK:Stmt:=top 91
abbrev rO:Stmt:=top 92
abbrev rM:Stmt:=top 93
abbrev rH:Stmt:=top 94
abbrev qY:Stmt:=top 95
theorem scM{N P:List Str}{sc:Scope}(a:sc.kind=.function:=by rfl)(b:sc.isCoroutine=false:=by rfl)(c:sc.isGenerator=false:=by rfl)(e:N.Nodup:=by decide +kernel)(f:N.take P.length=P:=by rfl)(g:∀x∈P,sc.names.lookup x=some .local\/sc.names.lookup x=some .cell:=by decide +kernel)(h:∀y∈sc.names,y.2≠.free:=by decide +kernel):FnScope N P sc:=⟨a,b,c,e,f,g,h⟩
theorem sc_shared:FnScope ["row","divisor","value"] ["row"] (aD qC):=scM
theorem sc_shared_by_two:FnScope ["one","other","greater","less","rest"] ["one","other"] (aD qB):=scM
theorem DM:FnScope ["value"] ["value"] (aD qj):=scM
theorem sc_whole_text:FnScope ["value","chunk","rest","pieces"] ["value"] (aD qi):=scM
theorem sc_Ratio___init__:FnScope ["self","top","bottom","divisor"] ["self","top","bottom"] (aD jS):=scM
theorem Ed:FnScope ["self","other"] ["self","other"] (aD rV):=scM
theorem Ee:FnScope ["self","other"] ["self","other"] (aD rW):=scM
theorem Ec:FnScope ["self","other"] ["self","other"] (aD rT):=scM
theorem Eg:FnScope ["self","other"] ["self","other"] (aD rY):=scM
theorem Ef:FnScope ["self"] ["self"] (aD rX):=scM
theorem sc_poly:FnScope ["row","length"] ["row"] (aD qI):=scM
theorem D3:FnScope ["row"] ["row"] (aD rj):=scM
theorem sc_added:FnScope ["first","second","length"] ["first","second"] (aD rF):=scM
theorem sc_taken:FnScope ["first","second","length"] ["first","second"] (aD qq):=scM
theorem D5:FnScope ["row","place"] ["row","place"] (aD rq):=scM
theorem sc_multiplied:FnScope ["first","second","product","j","one","k","other"] ["first","second"] (aD qR):=scM
theorem DQ:FnScope ["row"] ["row"] (aD qy):=scM
theorem DN:FnScope ["row"] ["row"] (aD qm):=scM
theorem sc_shrunk:FnScope ["row","divisor"] ["row"] (aD nU):=scM
theorem sc_plain:FnScope ["row","small"] ["row"] (aD qJ):=scM
theorem sc_value_parts:FnScope ["row","top","bottom","above","below","value"] ["row","top","bottom"] (aD qk):=scM
theorem DS:FnScope ["row","ratio"] ["row","ratio"] (aD qA):=scM
theorem sc_divided:FnScope ["first","second","size","sign","steps","factor","quotient","rest","place","lead"] ["first","second"] (aD rh):=scM
theorem DT:FnScope ["row","factor"] ["row","factor"] (aD qD):=scM
theorem sc_lowered:FnScope ["row","second","place","lead","kept","k","value"] ["row","second","place","lead"] (aD qV):=scM
theorem DU:FnScope ["polynomial"] ["polynomial"] (aD qE):=scM
theorem sc_row_from:FnScope ["first","second","row","one","other","rest"] ["first","second"] (aD qF):=scM
theorem sc_changes:FnScope ["row","ratio","many","before","polynomial","sign"] ["row","ratio"] (aD rz):=scM
theorem D4:FnScope ["row","low","high"] ["row","low","high"] (aD rk):=scM
theorem sc_bound:FnScope ["row","last","greatest","size"] ["row"] (aD rB):=scM
theorem sc_cells:FnScope ["row","chain","high","low","waiting","found","cell","many","cut","there"] ["row"] (aD rA):=scM
theorem DX:FnScope ["low","high"] ["low","high"] (aD qT):=scM
theorem sc_narrowed:FnScope ["row","low","high","width","reach","steps","found"] ["row","low","high","width"] (aD qP):=scM
theorem sc_halvings:FnScope ["reach","width","wide","goal","steps"] ["reach","width"] (aD qZ):=scM
theorem sc_stretched:FnScope ["row","low","reach","bottom","start","step","found","power","value"] ["row","low","reach"] (aD qr):=scM
theorem sc_halved:FnScope ["row","end","steps","place","pieces","ahead","left","k","there"] ["row","end","steps"] (aD q8):=scM
theorem sc_spread:FnScope ["row","found","factor","value"] ["row"] (aD qv):=scM
theorem sc_moved:FnScope ["row","found","start","k"] ["row"] (aD qS):=scM
theorem D7:FnScope ["low","reach","place","pieces"] ["low","reach","place","pieces"] (aD rD):=scM
theorem D2:FnScope ["divisor","row"] ["divisor","row"] (aD rf):=scM
theorem sc_common:FnScope ["first","second","one","other","rest"] ["first","second"] (aD rm):=scM
theorem sc_part:FnScope ["row","divisor","found"] ["row","divisor"] (aD qK):=scM
theorem DL:FnScope ["row"] ["row"] (aD qh):=scM
theorem sc_span_product:FnScope ["first","second","least","greatest","found"] ["first","second"] (aD qw):=scM
theorem sc_least:FnScope ["row","low","high","whole","width","span","line","cell","square"] ["row","low","high"] (aD qX):=scM
theorem DZ:FnScope ["whole"] ["whole"] (aD re):=scM
theorem sc_line_of:FnScope ["whole","span","found"] ["whole","span"] (aD qW):=scM
theorem sc_square_of:FnScope ["whole","span","other","last","together"] ["whole","span","other"] (aD qu):=scM
theorem DO:FnScope ["factor","ratio"] ["factor","ratio"] (aD qo):=scM
theorem Eh:FnScope ["self","row","low","high"] ["self","row","low","high"] (aD rZ):=scM
theorem sc_number:FnScope ["row","low","high","start","end","simple","many"] ["row","low","high"] (aD jQ):=scM
theorem DV:FnScope ["height"] ["height"] (aD qG):=scM
theorem sc_refuse_great:FnScope ["row","limit"] ["row"] (aD qH):=scM
theorem DY:FnScope ["simple","low","high"] ["simple","low","high"] (aD qU):=scM
theorem sc_number_in:FnScope ["simple","low","high","row","span","half"] ["simple","low","high"] (aD qN):=scM
theorem sc_narrow:FnScope ["one","width","span"] ["one","width"] (aD qQ):=scM
theorem DP:FnScope ["one","width"] ["one","width"] (aD qx):=scM
theorem D8:FnScope ["one","ratio"] ["one","ratio"] (aD rE):=scM
theorem D6:FnScope ["one","sign"] ["one","sign"] (aD rC):=scM
theorem DR:FnScope ["one"] ["one"] (aD qz):=scM
theorem sc_opposite:FnScope ["one","row"] ["one"] (aD qL):=scM
theorem sc_only_root:FnScope ["row","worth"] ["row"] (aD qM):=scM
theorem sc_steps:FnScope ["one","bottom","near","most"] ["one","bottom"] (aD qt):=scM
theorem sc_figures:FnScope ["one","places","below","many","digits","sign"] ["one","places"] (aD jR):=scM
theorem DW:FnScope ["one","scale"] ["one","scale"] (aD qO):=scM
theorem sc_ten_to:FnScope ["places","found","step"] ["places"] (aD qp):=scM
theorem Ea:FnScope ["_law_script","_law_k"] ["_law_script","_law_k"] (aD rR):=scM
theorem sc__law_divisor:FnScope ["_law_one","_law_other","_law_rest"] ["_law_one","_law_other"] (aD rQ):=scM
theorem D9:FnScope ["_law_u","_law_v","_law_d"] ["_law_u","_law_v","_law_d"] (aD rL):=scM
theorem sc__law_plain:FnScope ["_law_row","_law_by","_law_one"] ["_law_row"] (aD rN):=scM
theorem sc__law_least:FnScope ["_law_worth_here","_law_u","_law_v","_law_w","_law_d"] ["_law_worth_here"] (aD rP):=scM
theorem sc__law_times:FnScope ["_law_one","_law_other","_law_found","_law_k","_law_j"] ["_law_one","_law_other"] (aD rJ):=scM
theorem Eb:FnScope ["_law_cell"] ["_law_cell"] (aD rS):=scM
theorem sc__law_worth:FnScope ["_law_script","_law_k","_law_v","_law_cell"] ["_law_script","_law_k"] (aD rG):=scM
theorem sc__law_span:FnScope ["_law_worth_here","_law_more","_law_u","_law_v","_law_w","_law_d"] ["_law_worth_here","_law_more"] (aD rK):=scM
theorem sc__law_padded:FnScope ["_law_worth_here","_law_span_here","_law_cell","_law_u","_law_v","_law_w","_law_d","_law_found","_law_far"] ["_law_worth_here","_law_span_here","_law_cell"] (aD rO):=scM
theorem sc__law_power:FnScope ["_law_places","_law_base","_law_k"] ["_law_places"] (aD rM):=scM
theorem sc__law_whole_of:FnScope ["_law_text","_law_places","_law_below","_law_row","_law_sign_here"] ["_law_text","_law_places"] (aD rH):=scM
theorem sc_law:FnScope ["_law_script","_law_worth_here","_law_span_here","_law_n","_law_places","_law_m","_law_u","_law_v","_law_w","_law_d","_law_base","_law_above","_law_under"] ["_law_script"] (aD qY):=scM
structure Txt(K:PySem.W.Frag)(mg:Str->Option Value):Prop where
 abs_:mg "abs"=none
 str_:mg "str"=none
 len_:mg "len"=none
 max_:mg "max"=none
 range_:mg "range"=none
 enumerate_:mg "enumerate"=none
 reversed_:mg "reversed"=none
 list_:mg "list"=none
 sum_:mg "sum"=none
 any_:mg "any"=none
 int_:mg "int"=none
 isinstance_:mg "isinstance"=none
 HIGHEST_:∃t:Tok,mg "HIGHEST"=some (.int 8 t)
def nC(K:PySem.W.Frag):Sp:=λvs H Q _=>∃(a:Addr) (ns:List Int),vs=[.ref a]/\SqL K H a (ns.map V.int)/\ns.length<=63/\∀H',Q (.bl true) H'
section
variable {P:Program}{w:World}{K:PySem.W.Frag}{mg:Str->Option Value}{base:Heap}
theorem se(n:Nat):(List.replicate n [V.int 0]).flatten=(List.replicate n (0:Int)).map V.int:=by
 induction n with
 |zero=>rfl
 |succ n ih=>rw[R3,R4,ih,R3];rfl
theorem mq{n j:Nat}{i:Int}(e:i=j)(h:j<n):ixN n i=some j:=by subst e;unfold ixN;rw[if_pos (S2 _),if_pos (by omega)];simp
theorem oz(l:List Int)(j:Nat)(x:Int):(l.map V.int).set j (.int x)=(l.set j x).map V.int:=by rw[List.map_set]
theorem kt{l:List Int}{j:Nat}{i:Int}(e:i=j)(h:j<l.length):atI (l.map V.int) i=some (.int (cf l j)):=by subst e;exact ku (by rw[List.getElem?_map,jk h];rfl)
def SameB(p:Addr)(H H':Hp):Prop:=∀b o,b≠p->H b=some o->H' b=some o
theorem SameB.refl(p:Addr)(H:Hp):SameB p H H:=λ_ _ _ h=>h
theorem SameB.then_new{p q:Addr}{H H1:Hp}{o:HO}(s:SameB p H H1)(h:H1 q=none):SameB p H (upd H1 q o):=λb u n e=>by rw[upd_ne (aY (s b u n e) h)];exact s b u n e
theorem SameB.then_upd{p:Addr}{H H1:Hp}{o:HO}(s:SameB p H H1):SameB p H (upd H1 p o):=λb u n e=>by rw[upd_ne n];exact s b u n e
def AllB(k:Nat)(l:List Int):Prop:=∀x∈l,Bits k x
theorem AllB.cf{k:Nat}{l:List Int}(h:AllB k l)(n:Nat):Bits k (cf l n):=by
 by_cases hn:n<l.length
 ·rw[eJ hn];exact h _ (Sb hn)
 ·rw[cE (RK hn)];exact Bits.zero
theorem eu{H H2:Hp}{p:Addr}{o:HO}(s:Same H H2)(hp:H p=none):Same H (upd H2 p o):=λb u e=>by rw[upd_ne (aY e hp)];exact s b u e
theorem Hy(l:List Int)(x:Int):l.map V.int++[V.int x]=(l++[x]).map V.int:=by rw[QY];rfl
noncomputable def iF(ms:List Int)(lo hi:Option Int):List Int:=(ms.drop (HT.sIx ms.length 0 lo)).take (HT.sIx ms.length ms.length hi-HT.sIx ms.length 0 lo)
theorem uL(ms:List Int)(lo hi:Option Int):iE (ms.map V.int) lo hi=(iF ms lo hi).map V.int:=by unfold iE iF;rw[QB,<- List.map_drop,<- List.map_take]
theorem Ln{ms:List Int}{lo hi:Option Int}{x:Int}(h:x∈iF ms lo hi):x∈ms:=S4 (S5 h)
theorem AllB.cut{k:Nat}{ms:List Int}{lo hi:Option Int}(h:AllB k ms):AllB k (iF ms lo hi):=λx hx=>h x (Ln hx)
theorem AllB.app{k:Nat}{l r:List Int}(h1:AllB k l)(h2:AllB k r):AllB k (l++r):=λx hx=>(QS.mp hx).elim (h1 x) (h2 x)
theorem AllB.zeros{k n:Nat}:AllB k (List.replicate n 0):=λx hx=>by rw[List.eq_of_mem_replicate hx];exact Bits.zero
theorem AllB.mono{j k:Nat}{l:List Int}(h:AllB j l)(hk:j<=k:=by decide):AllB k l:=λx hx=>(h x hx).mono hk
theorem AllB.nil{k:Nat}:AllB k []:=λ_ h=>nomatch h
theorem AllB.snoc{k:Nat}{l:List Int}{x:Int}(h:AllB k l)(hx:Bits k x):AllB k (l++[x]):=h.app λy hy=>by rw[QF.mp hy];exact hx
theorem Ht{l:List Int}{x:Int}(h:x∈trim l):x∈l:=by
 unfold trim at h
 rw[List.mem_reverse]at h;exact List.mem_reverse.mp ((List.dropWhile_sublist _).subset h)
theorem AllB.trim{k:Nat}{l:List Int}(h:AllB k l):AllB k (trim l):=λx hx=>h x (Ht hx)
theorem gK{l:List Int}{i:Nat}{x:V}(h:(l.map V.int)[i]?=some x):∃c,l[i]?=some c/\x=.int c/\c∈l/\l.take (i+1)=l.take i++[c]:=by
 rw[List.getElem?_map]at h;cases e:l[i]? with
 |none=>rw[e]at h;cases h
 |some c=>rw[e]at h;exact⟨c,rfl,(Option.some.inj h).symm,List.mem_of_getElem? e,by rw[RE,e];rfl⟩
def mkL(H:Hp)(Q:VK)(r:List Int):Prop:=∀(p:Addr) (H':Hp),Same H H'->H p=none->H' p=some (.lst (r.map V.int))->Q (.ref p) H'
def kP(K:PySem.W.Frag):Sp:=λvs H Q _=>∃(a:Addr) (ns:List Int),vs=[.ref a]/\SqL K H a (ns.map V.int)/\mkL H Q (trim ns)
def jP(K:PySem.W.Frag):Sp:=λvs H Q _=>∃(a:Addr) (ns:List Int) (k:Nat),vs=[.ref a,.int k]/\SqL K H a (ns.map V.int)/\Q (.int (ns.getD k 0)) H
def nF(K:PySem.W.Frag)(g:List Int->List Int->List Int):Sp:=λvs H Q _=>∃(a b:Addr) (xs ys:List Int),vs=[.ref a,.ref b]/\SqL K H a (xs.map V.int)/\SqL K H b (ys.map V.int)/\xs.length<=1000000/\ys.length<=1000000/\mkL H Q (g xs ys)
theorem zE(i j:Nat):(if((j:Nat):Int)>((i:Nat):Int)then((j:Nat):Int)else((i:Nat):Int))=((max i j:Nat):Int):=by split<;>omega
theorem nG{n:Nat}(h:n<=sizeLine) : -(2^62)<=((n:Nat):Int)/\((n:Nat):Int)<2^62:=by have:=sizeLine_eq;omega
def RwH(H:Hp)(ps:List Addr)(xss:List (List Int)):Prop:=ps.length=xss.length/\∀(i:Nat) (p:Addr) (xs:List Int),ps[i]?=some p->xss[i]?=some xs->H p=some (.lst (xs.map V.int))
theorem RwH.nil{H:Hp}:RwH H [] []:=⟨rfl,λi p xs h=>by simp at h⟩
theorem RwH.same{H H':Hp}{ps:List Addr}{xss:List (List Int)}(h:RwH H ps xss)(s:Same H H'):RwH H' ps xss:=⟨h.1,λi p xs a b=>s _ _ (h.2 i p xs a b)⟩
theorem RwH.snoc{H:Hp}{ps:List Addr}{xss:List (List Int)}{p:Addr}{xs:List Int}(h:RwH H ps xss)(hp:H p=some (.lst (xs.map V.int))):RwH H (ps++[p]) (xss++[xs]):=by
 refine⟨by rw[QO,QO,h.1];rfl,λi q ys a b=>?_⟩;by_cases hi:i<ps.length
 ·rw[List.getElem?_append_left hi]at a;rw[List.getElem?_append_left (by rw[<- h.1];exact hi)]at b;exact h.2 i q ys a b
 ·rw[List.getElem?_append_right (by omega)]at a;rw[List.getElem?_append_right (by rw[<- h.1];omega),<- h.1]at b;by_cases h0:i-ps.length=0
  ·rw[h0]at a b;obtain rfl:p=q:=by simpa using a
   obtain rfl:xs=ys:=by simpa using b
   exact hp
  ·rw[List.getElem?_eq_none_iff.mpr (by simp;omega)]at a;cases a
theorem RwH.get{H:Hp}{ps:List Addr}{xss:List (List Int)}{i:Nat}(h:RwH H ps xss)(hi:i<xss.length):∃p,ps[i]?=some p/\H p=some (.lst ((xss.getD i []).map V.int)):=by
 have hi':i<ps.length:=by rw[h.1];exact hi
 refine⟨ps[i],List.getElem?_eq_getElem hi',h.2 i _ _ (List.getElem?_eq_getElem hi') ?_⟩;rw[List.getElem?_eq_getElem hi];simp[List.getD,hi]
theorem RwH.of_get{H:Hp}{ps:List Addr}{xss:List (List Int)}{i:Nat}{x:V}(h:RwH H ps xss)(hx:(ps.map V.ref)[i]?=some x):∃p xs,x=.ref p/\ps[i]?=some p/\xss[i]?=some xs/\H p=some (.lst (xs.map V.int))/\i<xss.length:=by
 rw[List.getElem?_map]at hx;cases e:ps[i]? with
 |none=>rw[e]at hx;cases hx
 |some p =>
  rw[e]at hx;have hi:i<ps.length:=(List.getElem?_eq_some_iff.mp e).1;have hi':i<xss.length:=by rw[<- h.1];exact hi
  exact⟨p,xss[i],(Option.some.inj hx).symm,rfl,List.getElem?_eq_getElem hi',h.2 i p _ e (List.getElem?_eq_getElem hi'),hi'⟩
theorem Hz(ps:List Addr)(p:Addr):ps.map V.ref++[V.ref p]=(ps++[p]).map V.ref:=by rw[QY];rfl
def sp2:Sp:=λvs H Q _=>∃a b:Int,vs=[.int a,.int b]/\Q (.int (Nat.gcd a.natAbs b.natAbs:Nat)) H
theorem ky(i:Int):(if i<0 then -i else i)=(i.natAbs:Int):=by split<;>omega
theorem FV(F:Fun K "shared_by_two" "shared_by_two" qB f fd)(T:Txt K mg):FnOk P w K mg base CX0 1 f fd ["one","other"] sp2:=by
 refine F.ok sc_shared_by_two (λvs H Q E h=>?_) (λcdv A outer s H vs Q E hr h=>?_)
 ·obtain⟨a,b,rfl,_⟩:=h;rfl
 ·obtain⟨a,b,rfl,k⟩:=h
  refine⟨_,(ag (ao (i:=2) sc_shared_by_two.nd rfl (Or.inl rfl) (bX gf (by rfl) T.abs_ PyProof.Rows.boot_abs (aa (pv 0) ac)))
   (ag (ao (i:=3) sc_shared_by_two.nd rfl (Or.inl rfl) (bX gf (by rfl) T.abs_ PyProof.Rows.boot_abs (aa (pv 1) ac)))
   (ag (f7 PassesOwn.never (aG jX (pv 3) ad (aE _))
     (ag (ao (i:=4) sc_shared_by_two.nd rfl (Or.inl rfl) (ai cX (pv 2) (pv 3)))
       (ag (ao (i:=2) sc_shared_by_two.nd rfl (Or.inl rfl) (pv 3))
       (ak (ao (i:=3) sc_shared_by_two.nd rfl (Or.inl rfl) (pv 4))))))
   (ak (av (pv 2)))))),?_⟩
  refine⟨_,rfl,_,rfl,?_⟩;refine⟨_,rfl,_,rfl,?_⟩;refine⟨λm σ' H'=>∃(x y:Int) (z:Option V),σ'=[some (.int a),some (.int b),some (.int x),some (.int y),z]/\H=H'/\0<=x/\0<=y/\y.natAbs=m/\Nat.gcd x.natAbs y.natAbs=Nat.gcd a.natAbs b.natAbs,⟨_,_,_,none,rfl,rfl,?_,?_,rfl,?_⟩,?_⟩
  ·rw[ky];exact S2 _
  ·rw[ky];exact S2 _
  ·rw[ky,ky,Q2,Q2]
  ·rintro m σ' H' ⟨x,y,z,rfl,rfl,hx,hy,rfl,hg⟩;refine⟨_,rfl,_,_,rfl,rfl,_,rfl,?_⟩;refine dB (λhn=>?_) (λh0=>?_)
   ·have hp:0<y:=by have:y≠0:=hn;omega
    refine⟨λσ'' H''=>∃m',m'<y.natAbs/\∃(x' y':Int) (z:Option V),σ''=[some (.int a),some (.int b),some (.int x'),some (.int y'),z]/\H=H''/\0<=x'/\0<=y'/\y'.natAbs=m'/\Nat.gcd x'.natAbs y'.natAbs=Nat.gcd a.natAbs b.natAbs,λ_ _ h=>h,?_⟩;refine⟨_,rfl,_,rfl,_,_,rfl,rfl,hp,?_⟩;refine⟨_,rfl,?_⟩;refine⟨_,rfl,?_⟩;have h1:=Int.emod_nonneg x (Rf hp);have h2:=S6 x hp;exact⟨(x%y).natAbs,by omega,y,x%y,_,rfl,rfl,hy,h1,rfl,by rw[Ay hx hp];exact hg⟩
   ·refine⟨_,rfl,?_⟩;have e:(y:Int)=0:=h0;subst e
    have e2:(x:Int)=((Nat.gcd a.natAbs b.natAbs:Nat):Int):=by rw[<- hg];show x=((Nat.gcd x.natAbs 0:Nat):Int);rw[Nat.gcd_zero_right];omega
    rw[e2];exact k
def pL(K:PySem.W.Frag):Sp:=λvs H Q _=>∃(a:Addr) (ns:List Int),vs=[.ref a]/\SqL K H a (ns.map V.int)/\Q (.int (aB ns:Nat)) H
theorem FW(F:Fun K "shared" "shared" qC f fd)(T:Txt K mg)(vG:Cal P w K mg base 1 "shared_by_two" ["one","other"] sp2 KN Kw):FnOk P w K mg base CX0 2 f fd ["row"] (pL K):=by
 obtain⟨vv,tu,tR,uZ⟩:=vG;refine F.ok sc_shared (λvs H Q E h=>?_) (λcdv A outer s H vs Q E hr h=>?_)
 ·obtain⟨a,ns,rfl,_⟩:=h;rfl
 ·obtain⟨a,ns,rfl,hS,k⟩:=h
  refine⟨_,(ag (ao (i:=1) sc_shared.nd rfl (Or.inl rfl) ad)
   (ag (c8 PassesOwn.never rfl (fz (K:=K) rfl (pv 0)) (aU (i:=2) sc_shared.nd rfl (Or.inl rfl))
     (ak (ao (i:=1) sc_shared.nd rfl (Or.inl rfl) (aq vv (hr.mono) rfl tu tR uZ .nil aj (aa (pv 1) (aa (pv 2) ac))))))
   (ak (av (pv 1))))),?_⟩
  refine⟨_,rfl,a,rfl,⟨_,hS⟩,oO (K:=K) (a:=a) (xs:=ns.map V.int) (λi σ' H'=>∃z:Option V,σ'=[some (.ref a),some (.int (aB (ns.take i):Nat)),z]/\H=H') ⟨none,rfl,rfl⟩ (λi σ' H' _ ⟨z,_,e⟩=>by rw[<- e];exact hS) ?_ ?_⟩
  ·rintro i y σ' H' hi ⟨z,rfl,rfl⟩;rw[List.getElem?_map]at hi;cases e:ns[i]? with
   |none=>rw[e]at hi;cases hi
   |some n =>
    rw[e]at hi;obtain rfl:=Option.some.inj hi;refine⟨_,rfl,_,rfl,_,_,rfl,?_⟩;have e3:ns.take (i+1)=ns.take i++[n]:=by rw[RE,e];rfl
    refine⟨some (.int n),?_,rfl⟩;rw[e3,Az,Q2];rfl
  ·rintro σ' H' ⟨z,rfl,rfl⟩;refine⟨_,rfl,?_⟩;rw[QB,RF];exact k
noncomputable def gL(t b:Int):List (Str×V):=cV "bottom" (.int b) (cV "top" (.int t) [])
theorem CO:¬(("top":Str)="bottom"):=by decide +kernel
theorem cs(t b:Int):(gL t b).lookup ("bottom":Str)=some (.int b):=by unfold gL;rw[eG,if_pos rfl]
theorem df(t b:Int):(gL t b).lookup ("top":Str)=some (.int t):=by unfold gL;rw[eG,if_neg CO,eG,if_pos rfl]
theorem cZ(t b:Int){m:Str}(h1:¬m="bottom")(h2:¬m="top"):(gL t b).lookup m=none:=by unfold gL;rw[eG,if_neg h1,eG,if_neg h2];rfl
structure RCI(K:PySem.W.Frag)(mg:Str->Option Value)(C:Addr):Prop where
 cl:Cls K C
 nT:NoAttr K C "top"
 nB:NoAttr K C "bottom"
 mg:mg "Ratio"=some (.ref C)
 ha:PySem.W.findIn K (.ref C) "__class__"=some (some (.builtin "object.__class__"))
 hn:PySem.W.specialIn K (.builtin "object.__class__") "__get__"=some (some (.builtin "getset_descriptor.__get__"))
 ht:PySem.W.takesIn K (.builtin "object.__class__")=some true
 hm:PySem.W.mroIn K C (.type "object")=some true
def RA(C:Addr)(H:Hp)(p:Addr)(t b:Int):Prop:=∃dx,H p=some (.ins C dx (gL t b))
theorem RA.same{C:Addr}{H H':Hp}{p:Addr}{t b:Int}(h:RA C H p t b)(s:Same H H'):RA C H' p t b:=let⟨dx,e⟩:=h;⟨dx,s _ _ e⟩
def mkR(C:Addr)(H:Hp)(Q:VK)(t b:Int):Prop:=∀(x:Addr) (H':Hp),Same H H'->H x=none->RA C H' x (rt t b) (rb t b)->Q (.ref x) H'
def da(C:Addr):Sp:=λvs H Q _=>∃(p dx:Addr) (t b:Int),vs=[.ref p,.int t,.int b]/\H p=some (.ins C dx [])/\b≠0/\Bits 9000 b/\Q .non (upd H p (.ins C dx (gL (rt t b) (rb t b))))
theorem cI{C:Addr}{H1:Hp}{q:Addr->Hp->Prop}{E:XK}{t b:Int}(hb:b≠0)(bb:Bits 9000 b)(h:∀(x:Addr) (H':Hp),Same H1 H'->H1 x=none->RA C H' x (rt t b) (rb t b)->q x H'):∀x dx:Addr,H1 x=none->H1 dx=none->dx≠x->da C (.ref x::([.int t,.int b]++[])) (upd (upd H1 dx (.own x)) x (.ins C dx [])) (λv H2=>v=.non/\q x H2) E:=λx dx nx ndx ne=>by
 refine⟨x,dx,t,b,rfl,au,hb,bb,rfl,?_⟩;rw[m8]
 have s0:Same H1 (upd (upd H1 dx (.own x)) x (.ins C dx (gL (rt t b) (rb t b)))):=λc o e=>by rw[upd_ne (aY e nx),upd_ne (aY e ndx)];exact e
 exact h x _ s0 nx ⟨dx,au⟩
theorem A5{t b:Int}(hb:b≠0)(bb:Bits 9000 b):Bits 9000 (dv t b):=bb.of_le (by rw[jn];exact Nat.le_of_dvd (Se.mpr hb) (Sl _ _))
theorem G5(F:FunD K "__init__" "Ratio.__init__" jS dV f fd)(T:Txt K mg)(R:RCI K mg C)(vG:Cal P w K mg base 1 "shared_by_two" ["one","other"] sp2 KN Kw):FnOk P w K mg base CX0 2 f fd ["self","top","bottom"] (da C):=by
 obtain⟨vv,tu,tR,uZ⟩:=vG;refine F.ok sc_Ratio___init__ (λvs H Q E h=>?_) (λcdv A outer s H vs Q E hr h=>?_)
 ·obtain⟨p,dx,t,b,rfl,_⟩:=h;rfl
 ·obtain⟨p,dx,t,b,rfl,hp,hb,bb,k⟩:=h
  refine⟨_,(ag (aO (aG cR (pv 2) ad (aE _))
   (ak iW)
   aP)
   (ag (ao (i:=3) sc_Ratio___init__.nd rfl (Or.inl rfl) (aq vv (hr.mono) rfl tu tR uZ .nil aj (aa (pv 1) (aa (pv 2) ac))))
   (ag (aO (aG cY (pv 2) ad (aE _))
     (ak (ao (i:=3) sc_Ratio___init__.nd rfl (Or.inl rfl) (bH bF (pv 3))))
     aP)
   (ag (lv (pv 0) (ai yW (pv 1) (pv 3)) rfl)
   (ak (lv (pv 0) (ai yW (pv 2) (pv 3)) rfl)))))),?_⟩
  refine bI ⟨_,rfl,_,_,rfl,rfl,_,rfl,aH (λh=>absurd h hb) (λ_=>?_)⟩;refine aw ⟨_,rfl,_,rfl,t,b,rfl,?_⟩;refine dF (λσ' H'=>H=H'/\σ'=[some (.ref p),some (.int t),some (.int b),some (.int (dv t b))]) ?_ ?_
  ·rintro σ' H' ⟨rfl,rfl⟩;refine⟨_,rfl,_,rfl,_,_,rfl,rfl,⟨mF hb,A5 hb bb⟩,_,rfl,p,C,dx,_,rfl,hp,R.cl,R.nT,by show 0<1000;decide,?_⟩;refine⟨_,rfl,_,rfl,_,_,rfl,rfl,⟨mF hb,A5 hb bb⟩,_,rfl,p,C,dx,_,rfl,au,R.cl,R.nB,by show 1<1000;decide,?_⟩;show Q .non (upd (upd H p _) p _);rw[m8];exact k
  ·intro rest;refine⟨_,rfl,_,_,rfl,rfl,_,rfl,?_⟩;refine aH (λh=>?_) (λh=>?_)
   ·refine⟨_,rfl,_,rfl,rest _ _ ⟨rfl,?_⟩⟩;have e:dv t b = -((Nat.gcd t.natAbs b.natAbs:Nat):Int):=by unfold dv;rw[if_pos h]
    rw[e];rfl
   ·refine rest _ _ ⟨rfl,?_⟩;have e:dv t b=((Nat.gcd t.natAbs b.natAbs:Nat):Int):=by unfold dv;rw[if_neg h]
    rw[e];rfl
def kQ:Sp:=λvs H Q _=>∃x:Int,vs=[.int x]/\Q (.int (sg x)) H
theorem FF(F:Fun K "whole_sign" "whole_sign" qj f fd)(T:Txt K mg):FnOk P w K mg base CX0 1 f fd ["value"] kQ:=by
 refine F.ok DM (λvs H Q E h=>?_) (λcdv A outer s H vs Q E hr h=>?_)
 ·obtain⟨x,rfl,_⟩:=h;rfl
 ·obtain⟨x,rfl,k⟩:=h
  refine⟨_,(ag (aO (aG cY (pv 0) ad (aE _))
   (ak (av (bH bF ad)))
   aP)
   (ag (aO (aG cQ (pv 0) ad (aE _))
     (ak (av ad))
     aP)
   (ak (av ad)))),?_⟩
  refine bI ⟨_,rfl,_,_,rfl,rfl,_,rfl,aH (λh=>?_) (λh=>?_)⟩
  ·have e:sg x = -1:=by unfold sg;rw[if_pos h]
   rw[e]at k;exact⟨_,rfl,k⟩
  refine bI ⟨_,rfl,_,_,rfl,rfl,_,rfl,aH (λh'=>?_) (λh'=>?_)⟩
  ·have e:sg x=1:=by unfold sg;rw[if_neg h,if_pos h']
   rw[e]at k;exact k
  ·have e:sg x=0:=by unfold sg;rw[if_neg h,if_neg h']
   rw[e]at k;exact k
def kT(C:Addr):Sp:=λvs H Q _=>∃(p q:Addr) (t b u d:Int),vs=[.ref p,.ref q]/\RA C H p t b/\RA C H q u d/\Bits 100000 t/\Bits 100000 b/\Bits 100000 u/\Bits 100000 d/\Q (.int (sg (t*d-u*b))) H
theorem G4(F:Fun K "against" "Ratio.against" rY f fd)(T:Txt K mg)(R:RCI K mg C)(jD:Cal P w K mg base 1 "whole_sign" ["value"] kQ uz ul):FnOk P w K mg base CX0 2 f fd ["self","other"] (kT C):=by
 obtain⟨jz,i8,je,ju⟩:=jD;refine F.ok Eg (λvs H Q E h=>?_) (λcdv A outer s H vs Q E hr h=>?_)
 ·obtain⟨p,q,t,b,u,d,rfl,_⟩:=h;rfl
 ·obtain⟨p,q,t,b,u,d,rfl,⟨dx,hp⟩,⟨dy,hq⟩,bt,bb,bu,bd,k⟩:=h;refine⟨_,(ak (av (aq jz (hr.mono) rfl i8 je ju .nil aj (aa (ai ca (ai aJ (aR (K:=K) rfl (pv 0) rfl) (aR (K:=K) rfl (pv 1) rfl)) (ai aJ (aR (K:=K) rfl (pv 1) rfl) (aR (K:=K) rfl (pv 0) rfl))) ac)))),?_⟩;refine⟨_,rfl,p,C,dx,_,_,rfl,hp,R.cl,R.nT,df _ _,_,rfl,q,C,dy,_,_,rfl,hq,R.cl,R.nB,cs _ _,_,_,rfl,rfl,⟨bt.mono,bd.mono⟩,?_⟩;exact⟨_,rfl,q,C,dy,_,_,rfl,hq,R.cl,R.nT,df _ _,_,rfl,p,C,dx,_,_,rfl,hp,R.cl,R.nB,cs _ _,_,_,rfl,rfl,⟨bu.mono,bb.mono⟩,_,_,rfl,rfl,_,rfl,k⟩
theorem Gc(F:Fun K "poly" "poly" qI f fd)(T:Txt K mg):FnOk P w K mg base CX0 1 f fd ["row"] (kP K):=by
 refine F.ok sc_poly (λvs H Q E h=>?_) (λcdv A outer s H vs Q E hr h=>?_)
 ·obtain⟨a,ns,rfl,_⟩:=h;rfl
 ·obtain⟨a,ns,rfl,hS,k⟩:=h
  refine⟨_,(ag (ao (i:=1) sc_poly.nd rfl (Or.inl rfl) (bX (dz (K:=K) rfl) (by rfl) T.len_ PySem.boot_len (aa (pv 0) ac)))
   (ag (f7 PassesOwn.never (PW.pt (f6 (aG cQ (pv 1) ad (aE _)) (fZ (aG cR (aI (cC (K:=K) rfl) (pv 0) (ai ca (pv 1) ad) (λ_ _=>rfl)) ad (aE _)))))
     (ak (ao (i:=1) sc_poly.nd rfl (Or.inl rfl) (ai ca (pv 1) ad))))
   (ak (av (fC (nI (K:=K) rfl) (pv 0) f8 (eQ (pv 1))))))),?_⟩
  refine⟨_,rfl,a,_,rfl,.inl hS,?_⟩;refine⟨λm σ' H'=>∃n:Nat,n<=ns.length/\σ'=[some (.ref a),some (.int n)]/\H=H'/\n=m/\trim (ns.take n)=trim ns,⟨_,ns.length,QD _,?_,rfl,rfl,?_⟩,?_⟩
  ·rw[QB];rfl
  ·rw[RF]
  ·rintro m σ' H' ⟨n,hn,rfl,rfl,rfl,ht⟩
   have fin:trim (ns.take n)=ns.take n->∃v,([some (V.ref a),some (V.int n)]:St)[0]?=some (some v)/\∃v_1,([some (V.ref a),some (V.int n)]:St)[1]?=some (some v_1)/\∃i,v_1=V.int i/\su K v none (some i) H Q:=λh=>by
    refine⟨_,rfl,_,rfl,n,rfl,a,_,rfl,hS,λp hp=>k p _ (Same.upd_new hp) hp ?_⟩;rw[au,<- ht,h]
    have e:iE (ns.map V.int) none (some (n:Int))=(ns.take n).map V.int:=by unfold iE;rw[HT.sIx_none,HT.sIx_nat,RL,Rv,QB,Nat.min_eq_left hn,List.map_take]
    rw[e]
   refine⟨_,rfl,_,_,rfl,rfl,_,rfl,?_⟩;refine aH (λhp=>?_) (λhp=>?_)
   ·obtain⟨j,rfl⟩:∃j,n=j+1:=⟨n-1,by have:(0:Int)<n:=hp;omega⟩;have hj:j<ns.length:=hn;refine⟨_,rfl,_,rfl,_,_,rfl,rfl,a,_,j,.int (cf ns j),rfl,?_,hS,ku ?_,_,_,rfl,rfl,_,rfl,?_⟩
    ·show V.int (((j+1:Nat):Int)-1)=V.int j
     congr 1;omega
    ·rw[List.getElem?_map,jk hj];rfl
    refine aH (λh0=>?_) (λh0=>?_)
    ·refine⟨λσ'' H''=>∃m',m'<j+1/\∃n:Nat,n<=ns.length/\σ''=[some (.ref a),some (.int n)]/\H=H''/\n=m'/\trim (ns.take n)=trim ns,λ_ _ h=>h,?_⟩;refine⟨_,rfl,_,_,rfl,rfl,j,RV _,j,Sj hj,?_,rfl,rfl,?_⟩
     ·show[some (V.ref a),some (V.int (((j+1:Nat):Int)-1))]=[some (V.ref a),some (V.int j)]
      congr 4;omega
     ·rw[<- ht,CB hj h0]
    ·exact fin (CC hj h0)
   ·obtain rfl:n=0:=by have:¬(0:Int)<n:=hp;omega
    exact fin (by rw[List.take_zero];rfl)
def iR:Sp:=λvs H Q _=>∃(a:Addr) (xs:List V),vs=[.ref a]/\H a=some (.lst xs)/\Q (.int ((xs.length:Int)-1)) H
theorem GD(F:Fun K "degree" "degree" rj f fd)(T:Txt K mg):FnOk P w K mg base CX0 1 f fd ["row"] iR:=by
 refine F.ok D3 (λvs H Q E h=>?_) (λcdv A outer s H vs Q E hr h=>?_)
 ·obtain⟨a,xs,rfl,_⟩:=h;rfl
 ·obtain⟨a,xs,rfl,hA,k⟩:=h;refine⟨_,(ak (av (ai ca (bX (dz (K:=K) rfl) (by rfl) T.len_ PySem.boot_len (aa (pv 0) ac)) ad))),?_⟩;exact⟨_,rfl,a,_,rfl,.inl (SqL.of hA),_,_,rfl,rfl,k⟩
theorem GG(F:Fun K "coefficient" "coefficient" rq f fd)(T:Txt K mg):FnOk P w K mg base CX0 1 f fd ["row","place"] (jP K):=by
 refine F.ok D5 (λvs H Q E h=>?_) (λcdv A outer s H vs Q E hr h=>?_)
 ·obtain⟨a,ns,k,rfl,_⟩:=h;rfl
 ·obtain⟨a,ns,n,rfl,hS,k⟩:=h
  refine⟨_,(ag (aO (aG cY (pv 1) (bX (dz (K:=K) rfl) (by rfl) T.len_ PySem.boot_len (aa (pv 0) ac)) (aE _))
   (ak (av (aI (cC (K:=K) rfl) (pv 0) (pv 1) (λ_ _=>rfl))))
   aP)
   (ak (av ad))),?_⟩
  refine⟨_,rfl,_,rfl,a,_,rfl,.inl hS,_,_,rfl,rfl,_,rfl,?_⟩;refine aH (λh1=>?_) (λh1=>?_)
  ·rw[QB]at h1;have h2:n<ns.length:=by omega
   refine⟨_,rfl,_,rfl,a,_,_,_,rfl,rfl,hS,ku (v:=.int (ns.getD n 0)) ?_,k⟩;rw[List.getElem?_map,List.getElem?_eq_getElem h2];simp[List.getD,h2]
  ·rw[QB]at h1;have h2:ns.length<=n:=by omega
   have e:ns.getD n 0=0:=by simp[List.getD,List.getElem?_eq_none_iff.mpr h2]
   rw[e]at k;exact k
theorem FK(F:Fun K "taken" "taken" qq f fd)(T:Txt K mg)(jE:Cal P w K mg base 1 "poly" ["row"] (kP K) uA um)(vJ:Cal P w K mg base 1 "coefficient" ["row","place"] (jP K) KQ Kz):FnOk P w K mg base CX0 2 f fd ["first","second"] (nF K cU):=by
 obtain⟨jA,i9,jf,jv⟩:=jE;obtain⟨mU,md,ml,mP⟩:=vJ;refine F.ok sc_taken (λvs H Q E h=>?_) (λcdv A outer s H vs Q E hr h=>?_)
 ·obtain⟨a,b,xs,ys,rfl,_⟩:=h;rfl
 ·obtain⟨a,b,xs,ys,rfl,hA,hB,hx,hy,k⟩:=h
  refine⟨_,(ag (ao (i:=2) sc_taken.nd rfl (Or.inl rfl) (bX (BI rfl) (by rfl) T.max_ PyProof.Rows.boot_max (aa (bX (dz (K:=K) rfl) (by rfl) T.len_ PySem.boot_len (aa (pv 0) ac)) (aa (bX (dz (K:=K) rfl) (by rfl) T.len_ PySem.boot_len (aa (pv 1) ac)) ac))))
   (ak (av (aq jA (hr.mono) rfl i9 jf jv .nil aj (aa (fE (own:=["k"]) (fr:=["first","second"]) (js:=[0,1]) (by walk_at "comp_ok") rfl (ii rfl T.range_ (aa (pv 2) ac)) (λ_ _ _ _=>(aU (i:=0) (show List.Nodup (["k","first","second"]:List Str)from by decide +kernel) rfl (Or.inl rfl))) (λ_ _ _ _=>(ai ca (aq mU (hr.mono) rfl md ml mP .nil aj (aa (pv 1) (aa (pv 0) ac))) (aq mU (hr.mono) rfl md ml mP .nil aj (aa (pv 2) (aa (pv 0) ac)))))) ac))))),?_⟩
  refine⟨_,rfl,a,_,rfl,.inl hA,_,rfl,b,_,rfl,.inl hB,_,_,rfl,?_⟩;rw[zE,QB,QB];have hz:max xs.length ys.length<=sizeLine:=by have:=sizeLine_eq;omega
  refine⟨_,rfl,_,rfl,(nG hz).1,(nG hz).2,uN (lo:=0) (n:=max xs.length ys.length) (λi zs σ' H'=>∃z:Option V,σ'=[z,some (.ref a),some (.ref b)]/\zs=((List.range i).map λk=>V.int (cf xs k-cf ys k))/\H=H') hz ⟨none,rfl,rfl,rfl⟩ ?_ ?_ ?_⟩
  ·rintro i zs σ' H' _ ⟨z,rfl,rfl,rfl⟩;simp
  ·rintro i zs σ' H' hi ⟨z,rfl,rfl,rfl⟩;refine⟨_,rfl,_,rfl,a,xs,i,?_,hA,_,rfl,_,rfl,b,ys,i,?_,hB,_,_,rfl,rfl,_,rfl,?_,rfl⟩
   ·show[V.ref a,V.int (0+(i:Int))]=_;rw[Ru]
   ·show[V.ref b,V.int (0+(i:Int))]=_;rw[Ru]
   ·rw[List.range_succ,QY];rfl
  ·rintro zs σ' H' p ⟨z,rfl,rfl,rfl⟩ hp;refine⟨p,(List.range (max xs.length ys.length)).map λk=>cf xs k-cf ys k,rfl,SqL.of ?_,?_⟩
   ·rw[au,Rw];rfl
   ·intro p' H' sm hp' e;refine k p' H' ((Same.upd_new hp).trans sm) ((Same.upd_new hp).free hp') ?_;rw[e,Dc]
def sp1(g:List Int->List Int):Sp:=λvs H Q _=>∃(a:Addr) (ns:List Int),vs=[.ref a]/\H a=some (.lst (ns.map V.int))/\ns.length<=100000/\AllB 100000 ns/\mkL H Q (g ns)
theorem Hj{k:Nat}{n:Nat}(h:n<2^k):Bits k (n:Int):=by show((n:Int)).natAbs<2^k;rw[Q2];exact h
theorem Dk{n:Nat}(h:n<=1000000):Bits 1000000 (n:Int):=(Hj (k:=20) (RB h (by decide))).mono
theorem sr(f:Nat->V)(i:Nat):(List.range i).map f++[f i]=(List.range (i+1)).map f:=by rw[List.range_succ,QY];rfl
theorem FR(F:Fun K "slope" "slope" qy f fd)(T:Txt K mg):FnOk P w K mg base CX0 1 f fd ["row"] (sp1 slopeL):=by
 refine F.ok DQ (λvs H Q E h=>?_) (λcdv A outer s H vs Q E hr h=>?_)
 ·obtain⟨a,ns,rfl,_⟩:=h;rfl
 ·obtain⟨a,ns,rfl,hA,hn,hb,k⟩:=h;have big:=sizeLine_eq;refine⟨_,(ak (av (fE (own:=["k"]) (fr:=["row"]) (js:=[0]) (by walk_at "comp_ok") rfl (Fe rfl T.range_ (aa ad (aa (bX (dz (K:=K) rfl) (by rfl) T.len_ PySem.boot_len (aa (pv 0) ac)) ac))) (λ_ _ _ _=>(aU (i:=0) (show List.Nodup (["k","row"]:List Str)from by decide +kernel) rfl (Or.inl rfl))) (λ_ _ _ _=>(ai aJ (pv 0) (aI (cC (K:=K) rfl) (pv 1) (pv 0) (λ_ _=>rfl))))))),?_⟩;have hl:(ns.map V.int).length=ns.length:=QB _;refine aQ ⟨_,rfl,a,_,rfl,.inl (SqL.of hA),1,_,rfl,⟨by decide,by decide,by rw[hl];omega,by rw[hl];omega⟩,uN (lo:=1) (λi ys σ' H'=>∃z:Option V,σ'=[z,some (.ref a)]/\ys=((List.range i).map λ(j:Nat)=>V.int (((j:Int)+1)*cf ns (j+1)))/\H=H') (by rw[hl];omega) ⟨none,rfl,rfl,rfl⟩ ?_ ?_ ?_⟩
  ·rintro i ys σ' H' _ ⟨z,rfl,rfl,rfl⟩;simp
  ·rintro i ys σ' H' hi ⟨z,rfl,rfl,rfl⟩;rw[hl]at hi;have hi':i+1<ns.length:=by omega
   have e0:(1:Int)+(i:Int)=((i+1:Nat):Int):=by omega
   refine⟨_,rfl,_,rfl,_,rfl,a,_,_,_,rfl,rfl,SqL.of hA,kt e0 hi',_,_,rfl,rfl,⟨by rw[e0];exact Dk (by omega),(hb.cf _).mono⟩,_,rfl,?_,rfl⟩;rw[<- sr];show _++[V.int ((1+(i:Int))*cf ns (i+1))]=_;rw[Int.add_comm 1]
  ·rintro ys σ' H' p ⟨z,rfl,rfl,rfl⟩ hp;refine k p _ (Same.upd_new hp) hp ?_;have en:(((ns.map V.int).length:Int)-1).toNat=ns.length-1:=by rw[hl];omega
   rw[au,en];unfold RM.slopeL;rw[Rw];rfl
def pK:Sp:=λvs H Q _=>∃(a:Addr) (ns:List Int),vs=[.ref a]/\H a=some (.lst (ns.map V.int))/\Tr ns/\ns.length<=1000000/\mkL H Q (ar ns)
theorem Kh{ns:List Int}(ht:Tr ns)(hne:ns≠[]):0<(aB ns:Int):=by
 obtain⟨r,x,rfl⟩:=(db ns).resolve_left hne;have hx:x≠0:=tr_snoc.mp ht;have hm:x∈r++[x]:=by simp
 have h1:0<aB (r++[x]):=Nat.pos_of_dvd_of_pos (oM hm) (Se.mpr hx);omega
theorem FU(F:Fun K "shrunk" "shrunk" nU f fd)(T:Txt K mg)(hNS:base.NoSeer)(hTr:P.given.tree=none)(vH:Cal P w K mg base 2 "shared" ["row"] (pL K) KO Kx):FnOk P w K mg base CX0 33 f fd ["row"] pK:=by
 obtain⟨vw,tz,tT,u3⟩:=vH;refine F.ok sc_shrunk (λvs H Q E h=>?_) (λcdv A outer s H vs Q E hr h=>?_)
 ·obtain⟨a,ns,rfl,_⟩:=h;rfl
 ·obtain⟨a,ns,rfl,hA,ht,hn,k⟩:=h;have big:=sizeLine_eq;have hdp:(A.deeper (PyProof.Rows.envOfC (Str.ofString "shrunk") (aD nU) s.heap.objs.size f cdv)).depth+100<recursionLimit:=by have:=hr.dp;omega
  refine⟨_,(ag (ao (i:=1) sc_shrunk.nd rfl (Or.inr rfl) (aq vw (hr.mono) rfl tz tT u3 .nil aj (aa (pv 0) ac)))
   (ak (av (fE (own:=["value"]) (fr:=["divisor"]) (js:=[1]) (by walk_at "comp_ok") rfl (fz (K:=K) rfl (pv 0)) (λ_ _ _ _=>(aU (i:=0) (show List.Nodup (["value","divisor"]:List Str)from by decide +kernel) rfl (Or.inl rfl))) (λ_ _ _ _=>(ai (FA hNS hTr hdp rfl rfl rfl rfl rfl) (pv 0) (pv 1))))))),?_⟩
  refine aw ⟨_,rfl,a,ns,rfl,SqL.of hA,?_⟩;refine aQ ⟨_,rfl,a,rfl,⟨_,SqL.of hA⟩,jq (K:=K) (a:=a) (xs:=ns.map V.int) (λi ys σ' H'=>∃(z0:Option V),σ'=[z0,some (.int (aB ns:Nat))]/\ys=((ns.take i).map λx=>x/(aB ns:Int)).map V.int/\H=H') (by rw[QB];omega) ⟨none,rfl,rfl,rfl⟩ ?_ ?_ ?_⟩
  ·rintro i ys σ' H' _ ⟨z0,rfl,rfl,rfl⟩;exact⟨SqL.of hA,by rw[QB,QB,Rn];exact SK _ _⟩
  ·rintro i x ys σ' H' hi ⟨z0,rfl,rfl,rfl⟩;rw[List.getElem?_map]at hi;cases e:ns[i]? with
   |none=>rw[e]at hi;cases hi
   |some c =>rw[e]at hi;obtain rfl:=Option.some.inj hi;have g1:=Kh ht (λz=>by rw[z]at e;simp at e);refine⟨_,rfl,_,rfl,_,_,rfl,rfl,g1,_,rfl,?_,rfl⟩;rw[RE,e];simp
  ·rintro ys σ' H' p ⟨z0,rfl,rfl,rfl⟩ hp;refine k p _ (Same.upd_new hp) hp ?_;rw[au,QB,RF];rfl
def jO:Sp:=λvs H Q _=>∃(a:Addr) (ns:List Int),vs=[.ref a]/\H a=some (.lst (ns.map V.int))/\Tr ns/\ns.length<=1000000/\mkL H Q (aA ns)
theorem BW(r:List Int)(x:Int):atI ((r++[x]).map V.int) (-1)=some (.int x):=by rw[QY];exact vi _ _
theorem Gd(F:Fun K "plain" "plain" qJ f fd)(T:Txt K mg)(vF:Cal P w K mg base 33 "shrunk" ["row"] pK KM Kv):FnOk P w K mg base CX0 34 f fd ["row"] jO:=by
 obtain⟨mS,lZ,mi,mN⟩:=vF;refine F.ok sc_plain (λvs H Q E h=>?_) (λcdv A outer s H vs Q E hr h=>?_)
 ·obtain⟨a,ns,rfl,_⟩:=h;rfl
 ·obtain⟨a,ns,rfl,hA,ht,hn,k⟩:=h;have big:=sizeLine_eq;have hu:=hr.units
  refine⟨_,(ag (ao (i:=1) sc_plain.nd rfl (Or.inl rfl) (aq mS (hr.mono) rfl lZ mi mN .nil aj (aa (pv 0) ac)))
   (ag (aO (PW.pt (f6 (aG (lJ (K:=K) rfl hu) (pv 1) (bK ac) (aE _)) (fZ (aG cY (aI (cC (K:=K) rfl) (pv 1) (bH bF ad) (λ_ _=>rfl)) ad (aE _)))))
     (ak (av (fE (own:=["value"]) (fr:=[]) (js:=[]) (by walk_at "comp_ok") rfl (fz (K:=K) rfl (pv 1)) (λ_ _ _ _=>(aU (i:=0) (show List.Nodup (["value"]:List Str)from by decide +kernel) rfl (Or.inl rfl))) (λ_ _ _ _=>(bH bF (pv 0))))))
     aP)
   (ak (av (pv 1))))),?_⟩
  refine aw ⟨_,rfl,a,ns,rfl,hA,ht,hn,λp H1 s1 hp e1=>?_⟩;have hsl:(ar ns).length=ns.length:=QB _;have done:cz (ar ns)=ar ns->Q (.ref p) H1:=λe=>k p H1 s1 hp (by rw[e1];show _=some (HO.lst ((cz (ar ns)).map V.int));rw[e])
  refine dF (λσ' H'=>σ'=[some (.ref a),some (.ref p)]/\Same H H'/\H' p=some (.lst ((ar ns).map V.int))/\cz (ar ns)=ar ns) ?_ ?_
  ·rintro σ' H' ⟨rfl,s2,e2,e3⟩;exact⟨_,rfl,k p H' s2 hp (by rw[e2];show _=some (HO.lst ((cz (ar ns)).map V.int));rw[e3])⟩
  intro rest;refine dG ⟨_,rfl,QH _,λq hq=>?_⟩;have s2:Same H (upd H1 q (.lst [])):=s1.then_new hq;have e2:upd H1 q (.lst []) p=some (.lst ((ar ns).map V.int)):=by rw[upd_ne (aY e1 hq)];exact e1
  refine⟨p,q,ar ns,[],rfl,rfl,SqL.of e2,SqL.of au,_,rfl,?_⟩;refine dB (λhne=>?_) (λhe=>?_)
  ·obtain⟨r,x,er⟩:=(db (ar ns)).resolve_left hne;refine⟨_,rfl,_,rfl,p,_,_,.int x,rfl,rfl,SqL.of e2,(by rw[er];exact BW r x),_,_,rfl,rfl,_,rfl,?_⟩;have elast:ap (ar ns)=x:=by rw[er,dJ]
   refine aH (λhx=>?_) (λhx=>?_)
   ·have hx':x<0:=hx;have epos:cz (ar ns)=(ar ns).map λx => -x:=by unfold cz;rw[elast,if_pos hx']
    refine aQ ⟨_,rfl,p,rfl,⟨_,SqL.of e2⟩,jq (K:=K) (a:=p) (xs:=(ar ns).map V.int) (λi ys σ' H'=>∃(z0:Option V),σ'=[z0]/\ys=(((ar ns).take i).map λx => -x).map V.int/\upd H1 q (.lst [])=H') (by rw[QB,hsl];omega) ⟨none,rfl,rfl,rfl⟩ ?_ ?_ ?_⟩
    ·rintro i ys σ' H' _ ⟨z0,rfl,rfl,rfl⟩;exact⟨SqL.of e2,by rw[QB,QB,Rn];exact SK _ _⟩
    ·rintro i x ys σ' H' hi ⟨z0,rfl,rfl,rfl⟩;rw[List.getElem?_map]at hi;cases e:(ar ns)[i]? with
     |none=>rw[e]at hi;cases hi
     |some c =>rw[e]at hi;obtain rfl:=Option.some.inj hi;refine⟨_,rfl,_,rfl,_,rfl,?_,rfl⟩;rw[RE,e];simp
    ·rintro ys σ' H' p' ⟨z0,rfl,rfl,rfl⟩ hp';refine k p' _ (s2.then_new hp') (s2.free hp') ?_;rw[au,QB,RF];show _=some (HO.lst ((cz (ar ns)).map V.int));rw[epos]
   ·exact rest _ _ ⟨rfl,s2,e2,by unfold cz;rw[elast,if_neg hx]⟩
  ·have he':ar ns=[]:=he;exact rest _ _ ⟨rfl,s2,e2,by rw[he'];rfl⟩
def w6:Sp:=λvs H Q _=>∃(a:Addr) (xs:List Int) (c:Int),vs=[.ref a,.int c]/\H a=some (.lst (xs.map V.int))/\xs.length<=1000000/\Bits 1000000 c/\AllB 1000000 xs/\mkL H Q (scL c xs)
theorem FX(F:Fun K "scaled" "scaled" qD f fd)(T:Txt K mg):FnOk P w K mg base CX0 1 f fd ["row","factor"] w6:=by
 refine F.ok DT (λvs H Q E h=>?_) (λcdv A outer s H vs Q E hr h=>?_)
 ·obtain⟨a,xs,c,rfl,_⟩:=h;rfl
 ·obtain⟨a,xs,c,rfl,hA,hn,bc,bx,k⟩:=h;have big:=sizeLine_eq;refine⟨_,(ak (av (fE (own:=["value"]) (fr:=["factor"]) (js:=[1]) (by walk_at "comp_ok") rfl (fz (K:=K) rfl (pv 0)) (λ_ _ _ _=>(aU (i:=0) (show List.Nodup (["value","factor"]:List Str)from by decide +kernel) rfl (Or.inl rfl))) (λ_ _ _ _=>(ai aJ (pv 1) (pv 0)))))),?_⟩;refine aQ ⟨_,rfl,a,rfl,⟨_,SqL.of hA⟩,jq (K:=K) (a:=a) (xs:=xs.map V.int) (λi ys σ' H'=>∃(z0:Option V),σ'=[z0,some (.int c)]/\ys=(scL c (xs.take i)).map V.int/\H=H') (by rw[QB];omega) ⟨none,rfl,rfl,rfl⟩ ?_ ?_ ?_⟩
  ·rintro i ys σ' H' _ ⟨z0,rfl,rfl,rfl⟩;exact⟨SqL.of hA,by rw[QB,cv,Rn];exact SK _ _⟩
  ·rintro i x ys σ' H' hi ⟨z0,rfl,rfl,rfl⟩;obtain⟨y,_,rfl,hm,et⟩:=gK hi;refine⟨_,rfl,_,rfl,_,_,rfl,rfl,⟨bc,bx y hm⟩,_,rfl,?_,rfl⟩;rw[et];simp[scL]
  ·rintro ys σ' H' p ⟨z0,rfl,rfl,rfl⟩ hp;refine k p _ (Same.upd_new hp) hp ?_;rw[au,QB,RF]
theorem Bi(ms:List Int):iF ms none (some (-1))=ms.take (ms.length-1):=by
 unfold iF;rw[HT.sIx_none,RL,Rv]
 congr 1
 show(if(-1:Int)<0 then((-1:Int)+(ms.length:Int)).toNat else min (-1:Int).toNat ms.length)=_;rw[if_pos (by decide)];omega
theorem BD{ms:List Int}{n k:Nat}:cf (ms.take n) k=if k<n then cf ms k else 0:=by
 unfold cf;by_cases h:k<n
 ·rw[if_pos h];simp[List.getD,List.getElem?_take,h]
 ·rw[if_neg h];simp[List.getD,List.getElem?_take,h]
def xw:Sp:=λvs H Q _=>∃(a b:Addr) (rs ys:List Int) (p:Nat) (l:Int),vs=[.ref a,.ref b,.int p,.int l]/\H a=some (.lst (rs.map V.int))/\H b=some (.lst (ys.map V.int))/\rs.length=p+ys.length/\ys≠[]/\Bits 1000000 l/\AllB 1000000 ys/\mkL H Q (jc rs ys p l)
theorem Gr(F:Fun K "lowered" "lowered" qV f fd)(T:Txt K mg):FnOk P w K mg base CX0 1 f fd ["row","second","place","lead"] xw:=by
 refine F.ok sc_lowered (λvs H Q E h=>?_) (λcdv A outer s H vs Q E hr h=>?_)
 ·obtain⟨a,b,rs,ys,p,l,rfl,_⟩:=h;rfl
 ·obtain⟨a,b,rs,ys,p,l,rfl,hA,hB,hl,hy,bl,by',k⟩:=h;have hyl:=QG.mpr hy
  refine⟨_,(ag (ao (i:=4) sc_lowered.nd rfl (Or.inl rfl) (fC (nI (K:=K) rfl) (pv 0) f8 (eQ (bH bF ad))))
   (ag (c8 PassesOwn.never rfl (og rfl T.enumerate_ (aa (fC (nI (K:=K) rfl) (pv 1) f8 (eQ (bH bF ad))) ac)) (ik rfl (cH (aU (i:=5) sc_lowered.nd rfl (Or.inl rfl)) (cH (aU (i:=6) sc_lowered.nd rfl (Or.inl rfl)) ij)))
     (ak (gv (ai ca (aI (cC (K:=K) rfl) (pv 4) (ai bQ (pv 2) (pv 5)) (λ_ _=>rfl)) (ai aJ (pv 3) (pv 6))) (lG (pv 4) (ai bQ (pv 2) (pv 5)) ld))))
   (ak (av (pv 4))))),?_⟩
  refine aw ⟨_,rfl,_,rfl,_,rfl,a,_,rfl,SqL.of hA,λkp hkp=>?_⟩;rw[uL,Bi];have s1:=Same.upd_new (o:=.lst ((rs.take (rs.length-1)).map V.int)) hkp;have nkb:b≠kp:=aY hB hkp;refine⟨_,rfl,_,rfl,_,rfl,b,_,rfl,SqL.of (s1 _ _ hB),λp2 hp2=>?_⟩;rw[uL,Bi];have n2:kp≠p2:=aY au hp2;generalize hH2:upd (upd H kp (.lst ((rs.take (rs.length-1)).map V.int))) p2 (.lst ((ys.take (ys.length-1)).map V.int))=H2;have hk2:H2 kp=some (.lst ((rs.take (rs.length-1)).map V.int)):=by rw[<- hH2,upd_ne n2,au]
  have hq2:H2 p2=some (.lst ((ys.take (ys.length-1)).map V.int)):=by rw[<- hH2,au]
  have s2:Same H H2:=by rw[<- hH2];exact s1.then_new hp2
  have lt:(rs.take (rs.length-1)).length=rs.length-1:=by rw[Rn];omega
  have lty:(ys.take (ys.length-1)).length=ys.length-1:=by rw[Rn];omega
  refine⟨p2,rfl,⟨_,SqL.of hq2⟩,uh (K:=K) (a:=p2) (xs:=(ys.take (ys.length-1)).map V.int) (λi σ' H'=>∃(acc:List Int) (z5 z6:Option V),σ'=[some (.ref a),some (.ref b),some (.int p),some (.int l),some (.ref kp),z5,z6]/\SameB kp H2 H'/\H' kp=some (.lst (acc.map V.int))/\acc.length=rs.length-1/\∀n,n<acc.length->cf acc n=cf rs n-(if p<=n/\n-p<i then l*cf ys (n-p)else 0))
   ⟨_,none,none,rfl,SameB.refl _ _,hk2,lt,λn hn=>by rw[BD,if_pos (by omega),if_neg (by omega)];omega⟩ ?_ ?_ ?_⟩
  ·rintro i σ' H' _ ⟨acc,z5,z6,rfl,sb,_⟩;exact SqL.of (sb _ _ (Ne.symm n2) hq2)
  ·rintro i x σ' H' q hi ⟨acc,z5,z6,rfl,sb,hpa,hal,hac⟩ hq
   have hil:i<ys.length-1:=by apply Classical.byContradiction;intro hn;rw[List.getElem?_eq_none_iff.mpr (by rw[QB,lty];omega)]at hi;cases hi
   rw[List.getElem?_map,jk (by rw[lty];exact hil),BD,if_pos hil]at hi;obtain rfl:=Option.some.inj hi;refine⟨q,_,rfl,SqT.of au,rfl,_,_,rfl,_,_,rfl,rfl,?_⟩;have nqp:kp≠q:=aY hpa hq;have hpa':upd H' q (.tup [.int i,.int (cf ys i)]) kp=some (.lst (acc.map V.int)):=by rw[upd_ne nqp];exact hpa
   have hpi:p+i<acc.length:=by omega
   have epi:((p:Nat):Int)+((i:Nat):Int)=((p+i:Nat):Int):=by omega
   refine⟨_,rfl,_,rfl,_,rfl,_,_,rfl,rfl,kp,_,_,_,rfl,rfl,SqL.of hpa',kt epi hpi,_,rfl,_,rfl,_,_,rfl,rfl,⟨bl,by'.cf i⟩,_,_,rfl,rfl,_,rfl,_,rfl,_,rfl,_,_,rfl,rfl,kp,_,_,p+i,rfl,rfl,hpa',mq epi (by rw[QB];exact hpi),?_⟩;refine⟨acc.set (p+i) (cf acc (p+i)-l*cf ys i),_,_,rfl,(sb.then_new hq).then_upd,by rw[au,oz],by rw[Sk];exact hal,λn hn=>?_⟩;rw[Sk]at hn;rw[mJ hpi];by_cases e:n=p+i
   ·subst e;rw[if_pos rfl,hac _ hpi,if_neg (by omega),if_pos (by omega),Nat.add_sub_cancel_left];omega
   ·rw[if_neg e,hac n hn];by_cases h1:p<=n/\n-p<i
    ·rw[if_pos h1,if_pos (by omega)]
    ·rw[if_neg h1,if_neg (by omega)]
  ·rintro σ' H' ⟨acc,z5,z6,rfl,sb,hpa,hal,hac⟩;rw[QB,lty]at hac;refine⟨_,rfl,k kp H' (λb' o e=>sb b' o (aY e hkp) (s2 b' o e)) hkp ?_⟩;rw[hpa]
   have e:acc=jc rs ys p l:=by
    apply d8
    ·rw[hal,zR]
    ·intro n hn;have hn':n<rs.length-1:=by omega
     rw[hac n hn,o4,if_pos hn'];by_cases h1:p<=n
     ·have h2:p<=n/\n-p<ys.length-1:=⟨h1,by omega⟩;rw[if_pos h1,if_pos h2]
     ·have h2:¬(p<=n/\n-p<ys.length-1):=λz=>h1 z.1
      rw[if_neg h1,if_neg h2]
   rw[e]
theorem AllB.of_cf{k:Nat}{l:List Int}(h:∀n,Bits k (RM.cf l n)):AllB k l:=λx hx=>by
 obtain⟨i,hi,rfl⟩:=List.mem_iff_getElem.mp hx;have:=h i
 rwa [eJ hi]at this
theorem vm{k:Nat}{x:Int}(h:Bits k x):Bits k ((x.natAbs:Nat):Int):=h.of_le (by rw[Q2];exact QD _)
theorem sg_bits{x:Int}:Bits 1 (sg x):=by show(sg x).natAbs<2^1;unfold sg;split<;>(try split)<;>decide
theorem lc{k:Nat}{x y:Int}(h:Bits k y):Bits k (sg x*y):=h.of_le (by
 rw[QR];have h2:(sg x).natAbs<=1:=by unfold sg;split<;>(try split)<;>decide
 calc (sg x).natAbs*y.natAbs<=1*y.natAbs:=Ro _ h2
  _=y.natAbs:=Nat.one_mul _)
theorem A8{xs ys:List Int}{b:Nat}(hx:AllB b xs)(hy:AllB b ys):∀i,AllB (b+i*(b+1)) (aV xs ys i).1/\AllB (b+i*(b+1)) (aV xs ys i).2
 |0=>by rw[Nat.zero_mul];exact⟨AllB.zeros,hx⟩
 |i+1=>by
  obtain⟨h1,h2⟩:=A8 hx hy i;have e:b+(i+1)*(b+1)=b+i*(b+1)+b+1:=by rw[Nat.succ_mul];omega
  have hs:Bits b (((RM.cf ys (ys.length-1)).natAbs:Nat):Int):=vm (hy.cf _);rw[e];show AllB _ (di ys (aV xs ys i) _).1/\AllB _ (di ys (aV xs ys i) _).2;unfold di;dsimp only
  constructor
  ·intro x hx;rcases List.mem_or_eq_of_mem_set hx with h |rfl
   ·obtain⟨y,hy',rfl⟩:=QQ.mp h;have:=hs.mul (h1 y hy');exact this.mono (by omega)
   ·exact(lc (h2.cf _)).mono (by omega)
  ·refine AllB.of_cf λn=>?_
   rw[o4];by_cases hn:n<(scL (((RM.cf ys (ys.length-1)).natAbs:Nat):Int) (aV xs ys i).2).length-1
   ·rw[if_pos hn,bU]
    have m1:Bits (b+i*(b+1)+b) ((((RM.cf ys (ys.length-1)).natAbs:Nat):Int)*RM.cf (aV xs ys i).2 n):=by have:=hs.mul (h2.cf n);rwa [Nat.add_comm]at this
    refine m1.sub ?_;by_cases hp:(xs.length+1-ys.length-1-i)<=n
    ·rw[if_pos hp];exact(lc (h2.cf _)).mul (hy.cf _)
    ·rw[if_neg hp];exact Bits.zero
   ·rw[if_neg hn];exact Bits.zero
theorem jt{k:Nat}{b:Int}(h:Bits k b):∀n,Bits (k*n+1) (b^n)
 |0=>by show((b^0:Int)).natAbs<2^(k*0+1);rw[RG,Nat.mul_zero];decide
 |n+1=>by rw[Q4];have:=(jt h n).mul h;exact this.mono (by rw[Nat.mul_succ];omega)
def Hs(H:Hp)(Q:VK)(xs ys:List Int):Prop:=∀(t q r:Addr) (H':Hp),Same H H'->H t=none->H q=none->H r=none->q≠r->q≠t->r≠t->H' t=some (.tup [.int (cw xs ys),.ref q,.ref r])->H' q=some (.lst ((cu xs ys).map V.int))->H' r=some (.lst ((aS xs ys).map V.int))->Q (.ref t) H'
def kS:Sp:=λvs H Q _=>∃(a b:Addr) (xs ys:List Int) (n:Nat),vs=[.ref a,.ref b]/\H a=some (.lst (xs.map V.int))/\H b=some (.lst (ys.map V.int))/\ys≠[]/\AllB n xs/\AllB n ys/\(xs.length+2)*(n+1)<=1000000/\ys.length<=1000000/\Hs H Q xs ys
theorem vh{l:List Int}(h:l≠[]):atI (l.map V.int) (-1)=some (.int (cf l (l.length-1))):=by
 obtain⟨r,x,rfl⟩:=(db l).resolve_left h;have e:(r++[x]).length-1=r.length:=by simp
 rw[e,kn,QY];exact vi _ _
theorem GC(F:Fun K "divided" "divided" rh f fd)(T:Txt K mg)(jD:Cal P w K mg base 1 "whole_sign" ["value"] kQ uz ul)(fV:Cal P w K mg base 1 "degree" ["row"] iR mD mB)(NQ:Cal P w K mg base 1 "scaled" ["row","factor"] w6 PL OO)(N8:Cal P w K mg base 1 "lowered" ["row","second","place","lead"] xw P8 O3)(jE:Cal P w K mg base 1 "poly" ["row"] (kP K) uA um):FnOk P w K mg base CX0 2 f fd ["first","second"] kS:=by
 obtain⟨jz,i8,je,ju⟩:=jD;obtain⟨dS,dI,dL,dR⟩:=fV;obtain⟨B7,zF,zW,BR⟩:=NQ;obtain⟨Nh,Ii,Jv,Mf⟩:=N8;obtain⟨jA,i9,jf,jv⟩:=jE;refine F.ok sc_divided (λvs H Q E h=>?_) (λcdv A outer s H vs Q E hr h=>?_)
 ·obtain⟨a,b,xs,ys,n,rfl,_⟩:=h;rfl
 ·obtain⟨a,b,xs,ys,nb,rfl,hA,hB,hy,bx,by',hsz,hyn,k⟩:=h;have big:=sizeLine_eq;have hu:=hr.units;have hyl:=QG.mpr hy
  have hxl:xs.length<=1000000:=by have:=RP (xs.length+2) (show 1<=nb+1 by omega);omega
  have bsz:∀i,i<=xs.length->nb+i*(nb+1)<=1000000:=λi hi=>by have h1:=Ro (nb+1) hi;rw[Nat.add_mul]at hsz;omega
  have hnb:nb<=1000000:=by have:=bsz 0 (QH _);omega
  refine⟨_,(ag (aO (aG (jZ (K:=K) rfl hu) (pv 1) (bK ac) (aE _))
   (ak iW)
   aP)
   (ag (ao (i:=2) sc_divided.nd rfl (Or.inl rfl) (bX gf (by rfl) T.abs_ PyProof.Rows.boot_abs (aa (aI (cC (K:=K) rfl) (pv 1) (bH bF ad) (λ_ _=>rfl)) ac)))
   (ag (ao (i:=3) sc_divided.nd rfl (Or.inl rfl) (aq jz (hr.mono) rfl i8 je ju .nil aj (aa (aI (cC (K:=K) rfl) (pv 1) (bH bF ad) (λ_ _=>rfl)) ac)))
   (ag (ao (i:=4) sc_divided.nd rfl (Or.inl rfl) (ai bQ (ai ca (aq dS (hr.mono) rfl dI dL dR .nil aj (aa (pv 0) ac)) (aq dS (hr.mono) rfl dI dL dR .nil aj (aa (pv 1) ac))) ad))
   (ag (ao (i:=5) sc_divided.nd rfl (Or.inl rfl) ad)
   (ag (ao (i:=6) sc_divided.nd rfl (Or.inl rfl) (ai sL (bK (aa ad ac)) (pv 4)))
   (ag (ao (i:=7) sc_divided.nd rfl (Or.inl rfl) (eT (uT (K:=K) rfl) (by rfl) T.list_ PyProof.Rows.boot_list (aa (pv 0) ac)))
   (ag (c8 PassesOwn.never rfl (yP rfl T.range_ (aa (ai ca (pv 4) ad) (aa (bH bF ad) (aa (bH bF ad) ac)))) (aU (i:=8) sc_divided.nd rfl (Or.inl rfl))
     (ag (ao (i:=9) sc_divided.nd rfl (Or.inl rfl) (ai aJ (pv 3) (aI (cC (K:=K) rfl) (pv 7) (bH bF ad) (λ_ _=>rfl))))
       (ag (ao (i:=5) sc_divided.nd rfl (Or.inl rfl) (ai aJ (pv 5) (pv 2)))
       (ag (ao (i:=6) sc_divided.nd rfl (Or.inl rfl) (aq B7 (hr.mono) rfl zF zW BR .nil aj (aa (pv 6) (aa (pv 2) ac))))
       (ag (gv (pv 9) (lG (pv 6) (pv 8) ld))
       (ak (ao (i:=7) sc_divided.nd rfl (Or.inl rfl) (aq Nh (hr.mono) rfl Ii Jv Mf .nil aj (aa (aq B7 (hr.mono) rfl zF zW BR .nil aj (aa (pv 7) (aa (pv 2) ac))) (aa (pv 1) (aa (pv 8) (aa (pv 9) ac))))))))))))
   (ak (av (du (aa (pv 5) (aa (pv 6) (aa (aq jA (hr.mono) rfl i9 jf jv .nil aj (aa (pv 7) ac)) ac)))))))))))))),?_⟩
  refine bI ⟨_,rfl,QH _,λp1 hp1=>?_⟩;have s1:Same H (upd H p1 (.lst [])):=Same.upd_new hp1;refine⟨b,p1,ys,[],rfl,rfl,SqL.of (s1 _ _ hB),SqL.of au,_,rfl,aH (λh0=>absurd h0 hy) (λ_=>?_)⟩;generalize upd H p1 (.lst [])=H1 at s1 ⊢
  refine aw ⟨_,rfl,_,rfl,b,_,_,_,rfl,rfl,SqL.of (s1 _ _ hB),vh hy,_,rfl,?_⟩;rw[ky];refine aw ⟨_,rfl,_,rfl,b,_,_,_,rfl,rfl,SqL.of (s1 _ _ hB),vh hy,_,rfl,?_⟩;refine aw ⟨_,rfl,a,_,rfl,s1 _ _ hA,_,rfl,b,_,rfl,s1 _ _ hB,_,_,rfl,rfl,_,_,rfl,rfl,?_⟩;dsimp only
  rw[QB,QB];have est:((xs.length:Int)-1-((ys.length:Int)-1)+1).toNat=bJ xs ys:=by unfold bJ;omega
  generalize hst:((xs.length:Int)-1-((ys.length:Int)-1)+1)=st at est ⊢
  refine aw ?_;refine aw ⟨by show 1<=sizeLine;decide,λp2 hp2=>⟨_,rfl,p2,_,_,rfl,rfl,au,by omega,by omega,by show 1*_<=_;omega,λq hq=>?_⟩⟩;rw[est,se];have s2:=s1.then_new (o:=.lst [V.int 0]) hp2;have s3:=s2.then_new (o:=.lst ((List.replicate (bJ xs ys) (0:Int)).map V.int)) hq;have fq:H q=none:=s2.free hq;refine aw ⟨_,rfl,a,_,rfl,.inl (SqL.of (s3 _ _ hA)),λr hr'=>?_⟩;have hq3:upd (upd H1 p2 (.lst [V.int 0])) q (.lst ((List.replicate (bJ xs ys) (0:Int)).map V.int)) q=some (.lst ((List.replicate (bJ xs ys) (0:Int)).map V.int)):=au;have s4:=s3.then_new (o:=.lst (xs.map V.int)) hr';have fr:H r=none:=s3.free hr';have nqr:q≠r:=aY hq3 hr';generalize hH4:upd (upd (upd H1 p2 (.lst [V.int 0])) q (.lst ((List.replicate (bJ xs ys) (0:Int)).map V.int))) r (.lst (xs.map V.int))=H4 at s4 ⊢
  have hq4:H4 q=some (.lst ((List.replicate (bJ xs ys) (0:Int)).map V.int)):=by rw[<- hH4,upd_ne nqr];exact hq3
  have hr4:H4 r=some (.lst (xs.map V.int)):=by rw[<- hH4,au]
  have hs:Bits nb (((cf ys (ys.length-1)).natAbs:Nat):Int):=vm (by'.cf _);refine⟨_,rfl,_,_,rfl,rfl,_,rfl,_,rfl,st-1,-1,rfl,by omega,?_⟩;have en:(st-1 - -1).toNat=bJ xs ys:=by rw[<- est];congr 1;omega
  rw[en]
  refine AD (λi σ' H'=>∃(q r:Addr) (z8 z9:Option V),σ'=[some (.ref a),some (.ref b),some (.int ((cf ys (ys.length-1)).natAbs:Nat)),some (.int (sg (cf ys (ys.length-1)))),some (.int st),some (.int (((cf ys (ys.length-1)).natAbs:Int)^i)),some (.ref q),some (.ref r),z8,z9]/\Same H H'/\H q=none/\H r=none/\q≠r/\H' q=some (.lst ((aV xs ys i).1.map V.int))/\H' r=some (.lst ((aV xs ys i).2.map V.int)))
   ⟨q,r,none,none,rfl,s4,fq,fr,nqr,hq4,hr4⟩ ?_ ?_
  ·rintro i σ' H' hi ⟨q,r,z8,z9,rfl,sm,fq,fr,nqr,hq',hr'⟩;obtain⟨lq,lr,low,_⟩:=jo (a:=xs) hy i (Sj hi);obtain⟨bq,br⟩:=A8 bx by' i;have hix:i<xs.length:=by unfold bJ at hi;omega
   have bi:=bsz i (Sj hix);have rne:(aV xs ys i).2≠[]:=λz=>by rw[z]at lr;simp at lr;omega
   have ep:st-1+(i:Int) * -1=((xs.length+1-ys.length-1-i:Nat):Int):=by unfold bJ at hi est;omega
   refine aw ⟨_,rfl,_,rfl,_,rfl,r,_,_,_,rfl,rfl,SqL.of hr',vh rne,_,_,rfl,rfl,⟨sg_bits.mono,(br.cf _).mono bi⟩,?_⟩
   have bpow:Bits 1000000 (((cf ys (ys.length-1)).natAbs:Int)^i):=(jt hs i).mono (by
    have:=Ro i (show nb<=nb+1 by omega);rw[RJ (nb+1) i]at this;have h2:=bsz (i+1) hix;rw[Nat.succ_mul]at h2
    omega)
   refine aw ⟨_,rfl,_,rfl,_,_,rfl,rfl,⟨bpow,hs.mono hnb⟩,?_⟩;dsimp only
   rw[<- Q4];refine aw ⟨_,rfl,_,rfl,q,_,_,rfl,hq',by rw[lq];omega,hs.mono hnb,bq.mono bi,λq1 H2 sm2 hq1 eq1=>?_⟩;have fq1:H q1=none:=sm.free hq1;have sm2':=sm.trans sm2;have hpl:xs.length+1-ys.length-1-i<(scL ((cf ys (ys.length-1)).natAbs:Int) (aV xs ys i).1).length:=by rw[cv,lq];unfold bJ at hi;omega
   refine⟨_,rfl,_,rfl,_,rfl,q1,_,_,_,rfl,rfl,eq1,mq ep (by rw[QB];exact hpl),?_⟩;rw[oz];have sm3:Same H (upd H2 q1 (.lst (((scL ((cf ys (ys.length-1)).natAbs:Int) (aV xs ys i).1).set (xs.length+1-ys.length-1-i) (sg (cf ys (ys.length-1))*cf (aV xs ys i).2 ((aV xs ys i).2.length-1))).map V.int))):=eu sm2' fq1;have nq1r:q1≠r:=λz=>by rw[z,hr']at hq1;cases hq1
   have hr3:upd H2 q1 (.lst (((scL ((cf ys (ys.length-1)).natAbs:Int) (aV xs ys i).1).set (xs.length+1-ys.length-1-i) (sg (cf ys (ys.length-1))*cf (aV xs ys i).2 ((aV xs ys i).2.length-1))).map V.int)) r=some (.lst ((aV xs ys i).2.map V.int)):=by rw[upd_ne (Ne.symm nq1r)];exact sm2 _ _ hr'
   have hq3:upd H2 q1 (.lst (((scL ((cf ys (ys.length-1)).natAbs:Int) (aV xs ys i).1).set (xs.length+1-ys.length-1-i) (sg (cf ys (ys.length-1))*cf (aV xs ys i).2 ((aV xs ys i).2.length-1))).map V.int)) q1=some (.lst (((scL ((cf ys (ys.length-1)).natAbs:Int) (aV xs ys i).1).set (xs.length+1-ys.length-1-i) (sg (cf ys (ys.length-1))*cf (aV xs ys i).2 ((aV xs ys i).2.length-1))).map V.int)):=au;generalize upd H2 q1 (.lst (((scL ((cf ys (ys.length-1)).natAbs:Int) (aV xs ys i).1).set (xs.length+1-ys.length-1-i) (sg (cf ys (ys.length-1))*cf (aV xs ys i).2 ((aV xs ys i).2.length-1))).map V.int))=H3 at sm3 hr3 hq3 ⊢
   refine⟨_,rfl,_,rfl,r,_,_,rfl,hr3,by rw[lr];omega,hs.mono hnb,br.mono bi,λr1 H5 sm5 hr1 er1=>?_⟩;have sm35:=sm3.trans sm5;refine⟨_,rfl,_,rfl,_,rfl,r1,b,_,_,(xs.length+1-ys.length-1-i),sg (cf ys (ys.length-1))*cf (aV xs ys i).2 ((aV xs ys i).2.length-1),?_,er1,sm35 _ _ hB,?_,hy,(lc (br.cf _)).mono bi,by'.mono hnb,λr2 H6 sm6 hr2 er2=>?_⟩
   ·rw[<- ep];rfl
   ·rw[cv,lr];unfold bJ at hi;omega
   ·have nqr2:q1≠r2:=λz=>by rw[<- z,sm5 _ _ hq3]at hr2;cases hr2
    exact⟨q1,r2,_,_,rfl,sm35.trans sm6,fq1,sm35.free hr2,nqr2,sm6 _ _ (sm5 _ _ hq3),er2⟩
  ·rintro σ' H' ⟨q,r,z8,z9,rfl,sm,fq,fr,nqr,hq',hr'⟩;refine⟨_,rfl,_,rfl,_,rfl,r,_,rfl,SqL.of hr',λr1 H2 sm2 hr1 er1=>⟨by show 3<=sizeLine;decide,λt ht=>?_⟩⟩;have nqr1:q≠r1:=λz=>by rw[<- z,hq']at hr1;cases hr1
   have ntq:q≠t:=aY (sm2 _ _ hq') ht;have ntr:r1≠t:=aY er1 ht;refine k t q r1 _ ((sm.trans sm2).then_new ht) ((sm.trans sm2).free ht) fq (sm.free hr1) nqr1 ntq ntr au ?_ ?_
   ·rw[upd_ne ntq];exact sm2 _ _ hq'
   ·rw[upd_ne ntr];exact er1
def Vp(C:Addr)(H:Hp)(vs:List V)(a r:Addr)(ns:List Int)(t b:Int):Prop:=vs=[.ref a,.ref r]/\H a=some (.lst (ns.map V.int))/\RA C H r t b/\ns.length<=20/\AllB 95000 ns/\Bits 3000 t/\Bits 3000 b
def VpI(H:Hp)(vs:List V)(a:Addr)(ns:List Int)(t b:Int):Prop:=vs=[.ref a,.int t,.int b]/\H a=some (.lst (ns.map V.int))/\ns.length<=20/\AllB 95000 ns/\Bits 3000 t/\Bits 3000 b
def wQ:Sp:=λvs H Q _=>∃(a:Addr) (ns:List Int) (t b:Int),VpI H vs a ns t b/\∀(p:Addr) (H':Hp),Same H H'->H p=none->H' p=some (.tup [.int (hv t b ns),.int (b^ns.length)])->Q (.ref p) H'
theorem Au{t b:Int}(bt:Bits 3000 t)(bb:Bits 3000 b):∀{l:List Int},AllB 95000 l->Bits (95000+1+(3000+1)*l.length) (hv t b l)
 | [],_=>by refine Bits.mono (j:=1) ?_ (by omega);show(0:Int).natAbs<2^1;decide
 |v::l,h=>by
  rw[d6];have h1:=h v (QN ..);have h2:=Au bt bb (l:=l) λx hx=>h x (QJ _ hx)
  have e1:=(h1.mul (jt bb (l.length+1))).mono (k:=95000+1+(3000+1)*l.length+3000) (by omega);have e2:=(bt.mul h2).mono (k:=95000+1+(3000+1)*l.length+3000) (by omega);exact(e1.add e2).mono (by rw[Rb];omega)
theorem FG(F:Fun K "value_parts" "value_parts" qk f fd)(T:Txt K mg):FnOk P w K mg base CX0 1 f fd ["row","top","bottom"] wQ:=by
 refine F.ok sc_value_parts (λvs H Q E h=>?_) (λcdv A outer s H vs Q E hr h=>?_)
 ·obtain⟨a,ns,t,b,⟨rfl,_⟩,_⟩:=h;rfl
 ·obtain⟨a,ns,t,b,⟨rfl,hA,hn,hb,bt,bb⟩,k⟩:=h
  refine⟨_,(ag (ao (i:=3) sc_value_parts.nd rfl (Or.inl rfl) ad)
   (ag (ao (i:=4) sc_value_parts.nd rfl (Or.inl rfl) ad)
   (ag (c8 PassesOwn.never rfl (sE rfl T.reversed_ (aa (pv 0) ac)) (aU (i:=5) sc_value_parts.nd rfl (Or.inl rfl))
     (ag (ao (i:=4) sc_value_parts.nd rfl (Or.inl rfl) (ai aJ (pv 4) (pv 2)))
       (ak (ao (i:=3) sc_value_parts.nd rfl (Or.inl rfl) (ai bQ (ai aJ (pv 3) (pv 1)) (ai aJ (pv 5) (pv 4)))))))
   (ak (av (du (aa (pv 3) (aa (pv 4) ac)))))))),?_⟩
  have hl:(ns.map V.int).length=ns.length:=QB _;refine aw ?_;refine aw ?_;refine⟨_,rfl,a,_,rfl,SqL.of hA,ug (K:=K) (a:=a) (xs:=ns.map V.int) (λi σ' H'=>∃z:Option V,σ'=[some (.ref a),some (.int t),some (.int b),some (.int (hv t b (ns.drop (ns.length-i)))),some (.int (b^i)),z]/\H=H') ⟨none,?_,rfl⟩ ?_ ?_ ?_⟩
  ·rw[Rv,List.drop_length,RG];rfl
  ·rintro i σ' H' _ ⟨z,rfl,rfl⟩;exact SqL.of hA
  ·rintro i x σ' H' hi hx ⟨z,rfl,rfl⟩;rw[hl]at hi hx;obtain⟨c,ec,rfl,hc,_⟩:=gK hx;have hi':i<ns.length:=hi;have e1:ns.length-(i+1)=ns.length-1-i:=by omega
   have hd:=Ld t b (l:=ns) (n:=ns.length-1-i) (by omega);have e2:ns.length-1-i+1=ns.length-i:=by omega
   have e3:ns.length-(ns.length-1-i)=i+1:=by omega
   rw[e2,e3,uR ec]at hd;have bs:=Au bt bb (l:=ns.drop (ns.length-i)) λx hx=>hb x (S4 hx)
   rw[Rr]at bs;have bp:=jt bb i;have bq:=jt bb (i+1);refine⟨_,rfl,_,rfl,_,_,rfl,rfl,⟨bp.mono (by omega),bb.mono⟩,?_⟩;refine⟨_,rfl,_,rfl,_,_,rfl,rfl,⟨bs.mono (by omega),bt.mono⟩,_,rfl,_,rfl,_,_,rfl,rfl,⟨(hb c hc).mono,?_⟩,_,_,rfl,rfl,?_⟩
   ·show Bits 1000000 (b^i*b);rw[<- Q4];exact bq.mono (by omega)
   refine⟨some (.int c),?_,rfl⟩;rw[e1,hd,Q4 b i,Int.add_comm,QT t];rfl
  ·rintro σ' H' ⟨z,rfl,rfl⟩;rw[hl,Sc,RL];exact⟨_,rfl,_,rfl,by show 2<=sizeLine;decide,λp hp=>k p _ (Same.upd_new hp) hp au⟩
def iQ(C:Addr):Sp:=λvs H Q _=>∃(a r:Addr) (ns:List Int) (t b:Int),Vp C H vs a r ns t b/\∀H',Same H H'->Q (.int (sg (hv t b ns))) H'
theorem FT(F:Fun K "sign_at" "sign_at" qA f fd)(T:Txt K mg)(R:RCI K mg C)(NE:Cal P w K mg base 1 "value_parts" ["row","top","bottom"] wQ Pw OD)(jD:Cal P w K mg base 1 "whole_sign" ["value"] kQ uz ul):FnOk P w K mg base CX0 2 f fd ["row","ratio"] (iQ C):=by
 obtain⟨MN,HG,IY,LO⟩:=NE;obtain⟨jz,i8,je,ju⟩:=jD;refine F.ok DS (λvs H Q E h=>?_) (λcdv A outer s H vs Q E hr h=>?_)
 ·obtain⟨a,r,ns,t,b,⟨rfl,_⟩,_⟩:=h;rfl
 ·obtain⟨a,r,ns,t,b,hV,k⟩:=h;obtain⟨rfl,hA,⟨dx,hR⟩,hn,hbs,bt,bb⟩:=hV;refine⟨_,(ak (av (aq jz (hr.mono) rfl i8 je ju .nil aj (aa (aI (aW (K:=K) rfl) (aq MN (hr.mono) rfl HG IY LO .nil aj (aa (pv 0) (aa (aR (K:=K) rfl (pv 1) rfl) (aa (aR (K:=K) rfl (pv 1) rfl) ac)))) ad (λ_ _=>rfl)) ac)))),?_⟩;refine⟨_,rfl,_,rfl,r,C,dx,_,_,rfl,hR,R.cl,R.nT,df _ _,_,rfl,r,C,dx,_,_,rfl,hR,R.cl,R.nB,cs _ _,a,ns,t,b,⟨rfl,hA,hn,hbs,bt,bb⟩,λp H1 s1 hp e1=>?_⟩;exact⟨p,_,_,_,rfl,rfl,SqT.of e1,rfl,_,rfl,k H1 s1⟩
theorem b60:Bits 200 (10^60):=by show((10:Int)^60).natAbs<2^200;decide +kernel
theorem BY{xs:List V}{n:Int}(hn:n=xs.length)(h:0<n)(c:Int):∃v,v∈xs/\atI xs (c%n)=some v:=by
 have h1:=Int.emod_nonneg c (Rf h);have h2:=S6 c h;obtain⟨j,hj⟩:=Sz h1;have hl:j<xs.length:=by omega
 refine⟨xs[j],Sb hl,?_⟩;rw[hj];exact ku (by simp[hl])
def Fit(one other:List Int):Prop:=Tr one/\Tr other/\∃n,AllB n one/\AllB n other/\(one.length+2)*(n+1)<=1000000/\other.length<=1000000
noncomputable def Run:Nat->List Int->List Int->Prop
 |0,one,_=>one=[]
 |n+1,one,other=>one=[]\/(Fit one other/\Run n other (nxt one other))
def zA(H:Hp)(Q:VK)(xss:List (List Int)):Prop:=∀(l:Addr) (ps:List Addr) (H':Hp),Same H H'->H l=none->(∀p∈ps,H p=none/\p≠l)->H' l=some (.lst (ps.map V.ref))->RwH H' ps xss->Q (.ref l) H'
theorem RwH.upd_ne{H:Hp}{ps:List Addr}{xss:List (List Int)}{a:Addr}{o:HO}(h:RwH H ps xss)(hn:∀p∈ps,p≠a):RwH (upd H a o) ps xss:=⟨h.1,λi p xs e1 e2=>by rw[L2.upd_ne (hn p (List.mem_of_getElem? e1))];exact h.2 i p xs e1 e2⟩
def w9:Sp:=λvs H Q _=>∃(a b:Addr) (xs ys:List Int) (n:Nat),vs=[.ref a,.ref b]/\H a=some (.lst (xs.map V.int))/\H b=some (.lst (ys.map V.int))/\Tr xs/\Tr ys/\xs.length<=1000/\ys.length<=1000/\n<=1000/\Run n (ar xs) (ar ys)/\zA H Q (bV n (ar xs) (ar ys))
theorem FZ(F:Fun K "row_from" "row_from" qF f fd)(T:Txt K mg)(vF:Cal P w K mg base 33 "shrunk" ["row"] pK KM Kv)(jF:Cal P w K mg base 2 "divided" ["first","second"] kS uB uo)(NH:Cal P w K mg base 2 "taken" ["first","second"] (nF K cU) Pz OG):FnOk P w K mg base CX0 34 f fd ["first","second"] w9:=by
 obtain⟨mS,lZ,mi,mN⟩:=vF;obtain⟨jB,ja,jg,jw⟩:=jF;obtain⟨MQ,HJ,I9,LR⟩:=NH;refine F.ok sc_row_from (λvs H Q E h=>?_) (λcdv A outer s H vs Q E hr h=>?_)
 ·obtain⟨a,b,xs,ys,n,rfl,_⟩:=h;rfl
 ·obtain⟨a,b,xs,ys,n,rfl,hA,hB,xtr,ytr,hx,hy,hn,hrun,k⟩:=h;have big:=sizeLine_eq;have hu:=hr.units
  refine⟨_,(ag (ao (i:=2) sc_row_from.nd rfl (Or.inl rfl) (bK ac))
   (ag (ao (i:=3) sc_row_from.nd rfl (Or.inl rfl) (aq mS (hr.mono) rfl lZ mi mN .nil aj (aa (pv 0) ac)))
   (ag (ao (i:=4) sc_row_from.nd rfl (Or.inl rfl) (aq mS (hr.mono) rfl lZ mi mN .nil aj (aa (pv 1) ac)))
   (ag (f7 PassesOwn.never (aG (lJ (K:=K) rfl hu) (pv 3) (bK ac) (aE _))
     (ag (eO (fF PySem.F.plainAttrs_list PySem.F.slot_list_append PySem.F.type_list_append iw (pv 2) (aa (pv 3) ac)))
       (ag (ao (i:=5) sc_row_from.nd rfl (Or.inl rfl) (iZ (aG (jZ (K:=K) rfl hu) (pv 4) (bK ac) (aE _)) (bK ac) (aI (aW (K:=K) rfl) (aq jB (hr.mono) rfl ja jg jw .nil aj (aa (pv 3) (aa (pv 4) ac))) ad (λ_ _=>rfl))))
       (ag (ao (i:=3) sc_row_from.nd rfl (Or.inl rfl) (pv 4))
       (ak (ao (i:=4) sc_row_from.nd rfl (Or.inl rfl) (aq mS (hr.mono) rfl lZ mi mN .nil aj (aa (aq MQ (hr.mono) rfl HJ I9 LR .nil aj (aa (bK ac) (aa (pv 5) ac))) ac))))))))
   (ak (av (pv 2))))))),?_⟩
  refine aw ⟨QH _,λl hl=>?_⟩;have s1:=Same.upd_new (o:=.lst []) hl;have hl1:upd H l (.lst []) l=some (.lst (([]:List Addr).map V.ref)):=au;generalize upd H l (.lst [])=H1 at s1 hl1 ⊢
  refine aw ⟨_,rfl,a,xs,rfl,s1 _ _ hA,xtr,by omega,λp1 H2 sm2 hp1 e1=>?_⟩;have s2:=s1.trans sm2;refine aw ⟨_,rfl,b,ys,rfl,s2 _ _ hB,ytr,by omega,λp2 H3 sm3 hp2 e2=>?_⟩;have s3:=s2.trans sm3;have n1l:p1≠l:=λz=>by rw[z,hl1]at hp1;cases hp1
  have n2l:p2≠l:=λz=>by rw[z,sm2 _ _ hl1]at hp2;cases hp2
  generalize ar xs=one' at hrun k e1
  generalize ar ys=other at hrun k e2
  refine⟨λm σ' H'=>∃(po pt:Addr) (one other':List Int) (ps:List Addr) (acc:List (List Int)) (z5:Option V),σ'=[some (.ref a),some (.ref b),some (.ref l),some (.ref po),some (.ref pt),z5]/\Same H H'/\H' l=some (.lst (ps.map V.ref))/\RwH H' ps acc/\(∀p∈ps,H p=none/\p≠l)/\H' po=some (.lst (one.map V.int))/\H' pt=some (.lst (other'.map V.int))/\H po=none/\H pt=none/\po≠l/\pt≠l/\Run m one other'/\acc++bV m one other'=bV n one' other/\ps.length+m<=1000,
   ⟨_,p1,p2,one',other,[],[],none,rfl,s3,sm3 _ _ (sm2 _ _ hl1),RwH.nil,(λp hp=>nomatch hp),sm3 _ _ e1,e2,s1.free hp1,s2.free hp2,n1l,n2l,hrun,rfl,by show 0+n<=1000;omega⟩,?_⟩
  rintro m σ' H4 ⟨po,pt,one,other',ps,acc,z5,rfl,s4,hl4,hR4,hf4,ho4,ht4,fo,ft,nol,ntl,hrun4,hacc,hlen⟩;refine⟨_,rfl,QH _,λq hq=>?_⟩;have t5:=Same.upd_new (o:=.lst []) hq;refine⟨po,q,one,[],rfl,rfl,SqL.of (t5 _ _ ho4),SqL.of au,_,rfl,dB (λhne=>?_) (λhe=>?_)⟩
  rotate_left
  ·have he':one=[]:=he;subst he';rw[lg,List.append_nil]at hacc;refine⟨_,rfl,k l ps _ (s4.trans t5) hl hf4 (t5 _ _ hl4) ?_⟩;rw[<- hacc];exact hR4.same t5
  have hne':one≠[]:=hne
  obtain⟨m1,rfl⟩:∃m1,m=m1+1:=by
   cases m with
   |zero=>exact absurd hrun4 hne'
   |succ m1=>exact⟨m1,rfl⟩
  obtain⟨⟨otr,ttr,nb,bo,bt,hsz,htl⟩,hrun5⟩:=(show one=[]\/(Fit one other'/\Run m1 other' (nxt one other'))from hrun4).resolve_left hne'
  have hacc5:(acc++[one])++bV m1 other' (nxt one other')=bV n one' other:=by rw[<- hacc];show _=acc++(if one=[]then[]else one::bV m1 other' (nxt one other'));rw[if_neg hne',RW];rfl
  generalize hH5:upd H4 q (.lst [])=H5 at t5 ⊢
  refine⟨λσ'' H''=>∃m',m'<m1+1/\∃(po pt:Addr) (one other':List Int) (ps:List Addr) (acc:List (List Int)) (z5:Option V),σ''=[some (.ref a),some (.ref b),some (.ref l),some (.ref po),some (.ref pt),z5]/\Same H H''/\H'' l=some (.lst (ps.map V.ref))/\RwH H'' ps acc/\(∀p∈ps,H p=none/\p≠l)/\H'' po=some (.lst (one.map V.int))/\H'' pt=some (.lst (other'.map V.int))/\H po=none/\H pt=none/\po≠l/\pt≠l/\Run m' one other'/\acc++bV m' one other'=bV n one' other/\ps.length+m'<=1000,λ_ _ h=>h,?_⟩;have hl5:=t5 _ _ hl4;refine gq ⟨_,rfl,.inl ⟨rfl,_,SqL.of hl5⟩,_,rfl,l,_,_,rfl,rfl,hl5,by rw[QB];omega,?_⟩;rw[Hz];have s6:Same H (upd H5 l (.lst ((ps++[po]).map V.ref))):=eu (s4.trans t5) hl;have hl6:upd H5 l (.lst ((ps++[po]).map V.ref)) l=some (.lst ((ps++[po]).map V.ref)):=au
  have hf6:∀p∈ps++[po],H p=none/\p≠l:=λp hp=>by
   rcases QS.mp hp with h |h
   ·exact hf4 p h
   ·rw[QF.mp h];exact⟨fo,nol⟩
  have hR6:RwH (upd H5 l (.lst ((ps++[po]).map V.ref))) (ps++[po]) (acc++[one]):=((hR4.same t5).snoc (t5 _ _ ho4)).upd_ne λp hp=>(hf6 p hp).2
  have ho6:upd H5 l (.lst ((ps++[po]).map V.ref)) po=some (.lst (one.map V.int)):=by rw[L2.upd_ne nol];exact t5 _ _ ho4
  have ht6:upd H5 l (.lst ((ps++[po]).map V.ref)) pt=some (.lst (other'.map V.int)):=by rw[L2.upd_ne ntl];exact t5 _ _ ht4
  generalize upd H5 l (.lst ((ps++[po]).map V.ref))=H6 at s6 hl6 hR6 ho6 ht6 ⊢
  refine nX (λσ' H'=>∃pr:Addr,σ'=[some (.ref a),some (.ref b),some (.ref l),some (.ref po),some (.ref pt),some (.ref pr)]/\Same H6 H'/\H' pr=some (.lst ((rst one other').map V.int))) ?_ ?_
  case refine_2 =>
   intro rest;refine cG (yt ⟨_,rfl,QH _,λq2 hq2=>?_⟩);have t7:=Same.upd_new (o:=.lst []) hq2;refine⟨pt,q2,other',[],rfl,rfl,SqL.of (t7 _ _ ht6),SqL.of au,_,rfl,aH (λh0=>?_) (λh0=>?_)⟩
   ·have h0':other'=[]:=h0;refine⟨QH _,λq3 hq3=>rest _ _ ⟨q3,rfl,t7.then_new hq3,?_⟩⟩;rw[au];unfold rst;rw[if_pos h0'];rfl
   ·have h0':other'≠[]:=h0;refine⟨_,rfl,_,rfl,po,pt,one,other',nb,rfl,t7 _ _ ho6,t7 _ _ ht6,h0',bo,bt,hsz,htl,λt q' r H8 sm8 _ _ _ _ _ _ et _ er=>?_⟩;refine⟨t,_,_,_,rfl,rfl,SqT.of et,rfl,rest _ _ ⟨r,rfl,t7.trans sm8,?_⟩⟩;rw[er];unfold rst;rw[if_neg h0']
  rintro σ' H8 ⟨pr,rfl,t8,hr8⟩;refine aw ⟨_,rfl,?_⟩;refine cG ⟨QH _,λq hq=>?_⟩;have t9:=t8.then_new (o:=.lst []) hq
  have hrl:(rst one other').length<=1000000:=by
   unfold rst;split
   ·exact QH _
   ·rename_i h0
    have:=gM (a:=one) h0;omega
  refine⟨_,rfl,q,pr,[],rst one other',rfl,SqL.of au,SqL.of (by rw[L2.upd_ne (aY hr8 hq)];exact hr8),QH _,hrl,λp9 H9 sm9 hp9 e9=>?_⟩;have hsl:(cU [] (rst one other')).length<=1000000:=QL (tG _) (by unfold eI;rw[QB,RO];exact Nat.max_le.mpr ⟨QH _,hrl⟩);refine⟨p9,_,rfl,e9,fX _,hsl,λp10 H10 sm10 hp10 e10=>?_⟩;have t10:Same H6 H10:=(t9.trans sm9).trans sm10;have f10:H6 p10=none:=(t9.trans sm9).free hp10;refine⟨m1,RV _,pt,p10,other',nxt one other',ps++[po],acc++[one],_,rfl,s6.trans t10,t10 _ _ hl6,hR6.same t10,hf6,t10 _ _ ht6,e10,ft,s6.free f10,ntl,(λz=>by rw[z,hl6]at f10;cases f10),hrun5,hacc5,by rw[QO];show ps.length+1+m1<=1000;omega⟩
def nr:Sp:=λvs H Q _=>∃(a:Addr) (xs:List Int) (n:Nat),vs=[.ref a]/\H a=some (.lst (xs.map V.int))/\Tr xs/\AllB 90000 xs/\xs.length<=1000/\n<=1000/\Run n (ar xs) (ar (slopeL xs))/\zA H Q (bV n (ar xs) (ar (slopeL xs)))
theorem we{xs:List Int}(h:Tr xs):Tr (slopeL xs):=by
 intro n hn;unfold slopeL at *
 rw[QB,RO]at hn;rw[km,if_pos (by omega)];exact QU (by omega) (h (n+1) (by omega))
theorem FY(F:Fun K "row_of" "row_of" qE f fd)(T:Txt K mg)(NR:Cal P w K mg base 34 "row_from" ["first","second"] w9 PM OP)(vE:Cal P w K mg base 1 "slope" ["row"] (sp1 slopeL) KL Ku):FnOk P w K mg base CX0 35 f fd ["polynomial"] nr:=by
 obtain⟨MY,HS,Jh,LZ⟩:=NR;obtain⟨vt,tq,tQ,uY⟩:=vE;refine F.ok DU (λvs H Q E h=>?_) (λcdv A outer s H vs Q E hr h=>?_)
 ·obtain⟨a,xs,n,rfl,_⟩:=h;rfl
 ·obtain⟨a,xs,n,rfl,hA,xtr,bx,hx,hn,hrun,k⟩:=h;refine⟨_,(ak (av (aq MY (hr.mono) rfl HS Jh LZ .nil aj (aa (pv 0) (aa (aq vt (hr.mono) rfl tq tQ uY .nil aj (aa (pv 0) ac)) ac))))),?_⟩;refine aQ ⟨_,rfl,_,rfl,a,xs,rfl,hA,by omega,bx.mono,λp H1 s1 hp e1=>?_⟩;have hsl:(slopeL xs).length<=1000:=by unfold slopeL;rw[QB,RO];omega
  exact⟨a,p,xs,slopeL xs,n,rfl,s1 _ _ hA,e1,xtr,we xtr,hx,hsl,hn,hrun,λl ps H' sm hl hf e r=>k l ps H' (s1.trans sm) (s1.free hl) (λp hp=>⟨s1.free (hf p hp).1,(hf p hp).2⟩) e r⟩
noncomputable def sgs(t b:Int)(xss:List (List Int)):List Int:=xss.map λp=>sg (hv t b p)
def pT(C:Addr):Sp:=λvs H Q _=>∃(l r:Addr) (ps:List Addr) (xss:List (List Int)) (t b:Int),vs=[.ref l,.ref r]/\H l=some (.lst (ps.map V.ref))/\RwH H ps xss/\RA C H r t b/\Bits 3000 t/\Bits 3000 b/\(∀xs∈xss,xs.length<=20/\AllB 95000 xs)/\xss.length<=1000000/\∀H',Same H H'->Q (.int (chS (sgs t b xss)).1) H'
theorem Dz(t b:Int)(xss:List (List Int)):∀s∈sgs t b xss,s.natAbs<=1:=λs hs=>by obtain⟨x,_,rfl⟩:=QQ.mp hs;exact x9 _
theorem Dy{t b:Int}{xss:List (List Int)}{i:Nat}{xs:List Int}(h:xss[i]?=some xs):sgs t b (xss.take (i+1))=sgs t b (xss.take i)++[sg (hv t b xs)]:=by unfold sgs;rw[RE,h,QY];rfl
theorem y4{x:Int}(h:x.natAbs<=1):Bits 1000000 x:=Bits.mono (j:=1) (RB h (by decide)) (by decide)
theorem GH(F:Fun K "changes" "changes" rz f fd)(T:Txt K mg)(R:RCI K mg C)(fU:Cal P w K mg base 2 "sign_at" ["row","ratio"] (iQ C) mC mz):FnOk P w K mg base CX0 3 f fd ["row","ratio"] (pT C):=by
 obtain⟨fS,fI,fK,fO⟩:=fU;refine F.ok sc_changes (λvs H Q E h=>?_) (λcdv A outer s H vs Q E hr h=>?_)
 ·obtain⟨l,r,ps,xss,t,b,rfl,_⟩:=h;rfl
 ·obtain⟨l,r,ps,xss,t,b,rfl,hL,hR,hRA,bt,bb,hb,hn,k⟩:=h
  refine⟨_,(ag (ao (i:=2) sc_changes.nd rfl (Or.inl rfl) ad)
   (ag (ao (i:=3) sc_changes.nd rfl (Or.inl rfl) ad)
   (ag (c8 PassesOwn.never rfl (fz (K:=K) rfl (pv 0)) (aU (i:=4) sc_changes.nd rfl (Or.inl rfl))
     (ag (ao (i:=5) sc_changes.nd rfl (Or.inl rfl) (aq fS (hr.mono) rfl fI fK fO .nil aj (aa (pv 4) (aa (pv 1) ac))))
       (ag (aO (aG cY (ai aJ (pv 5) (pv 3)) ad (aE _))
         (ak (ao (i:=2) sc_changes.nd rfl (Or.inl rfl) (ai bQ (pv 2) ad)))
         aP)
       (ak (aO (aG jX (pv 5) ad (aE _))
         (ak (ao (i:=3) sc_changes.nd rfl (Or.inl rfl) (pv 5)))
         aP)))))
   (ak (av (pv 2)))))),?_⟩
  have hpl:(ps.map V.ref).length=xss.length:=by rw[QB,hR.1]
  refine aw ?_;refine aw ?_;refine⟨_,rfl,l,rfl,⟨_,SqL.of hL⟩,oO (K:=K) (a:=l) (xs:=ps.map V.ref) (λi σ' H'=>∃(z4 z5:Option V),σ'=[some (.ref l),some (.ref r),some (.int (chS (sgs t b (xss.take i))).1),some (.int (chS (sgs t b (xss.take i))).2),z4,z5]/\Same H H') ⟨none,none,rfl,λ_ _ e=>e⟩ ?_ ?_ ?_⟩
  ·rintro i σ' H' _ ⟨z4,z5,rfl,sm⟩;exact SqL.of (sm _ _ hL)
  ·rintro i x σ' H1 hi ⟨z4,z5,rfl,s1⟩;obtain⟨p,xs,rfl,ep,ex,hp,hlt⟩:=hR.of_get hi;obtain⟨hx1,hx2⟩:=hb xs (List.mem_of_getElem? ex);show cM (iO _ (jl 5)) _ _ _ _;refine aw ⟨_,rfl,_,rfl,p,r,xs,t,b,⟨rfl,s1 _ _ hp,hRA.same s1,hx1,hx2,bt.mono,bb.mono⟩,λH2 sm2=>?_⟩;have s2:=s1.trans sm2;obtain⟨c1,c2,c3⟩:=LA _ (Dz t b (xss.take i));rw[Dy ex,By];have hs:=x9 (hv t b xs);generalize sg (hv t b xs)=s at hs ⊢
   generalize chS (sgs t b (xss.take i))=z at c1 ⊢
   obtain⟨m,bf⟩:=z;dsimp only
   refine dF (λσ' H'=>σ'=[some (.ref l),some (.ref r),some (.int (if s*bf<0 then m+1 else m)),some (.int bf),some (.ref p),some (.int s)]/\H2=H') ?_ ?_
   case refine_2 =>
    intro rest;refine⟨_,rfl,_,rfl,_,_,rfl,rfl,⟨y4 hs,y4 c1⟩,_,_,rfl,rfl,_,rfl,aH (λh1=>?_) (λh1=>?_)⟩
    ·refine cG ⟨_,rfl,_,_,rfl,rfl,rest _ _ ⟨?_,rfl⟩⟩;rw[if_pos h1];rfl
    ·refine rest _ _ ⟨?_,rfl⟩;rw[if_neg h1];rfl
   rintro σ' H' ⟨rfl,rfl⟩;refine⟨_,rfl,_,_,rfl,rfl,_,rfl,dB (λh1=>?_) (λh1=>?_)⟩
   ·refine cG ⟨_,rfl,some (.ref p),some (.int s),?_,s2⟩;unfold chF;have h1':¬s=0:=h1;rw[if_neg h1'];rfl
   ·refine⟨some (.ref p),some (.int s),?_,s2⟩;unfold chF;have h1':s=0:=h1;rw[if_pos h1']
  ·rintro σ' H' ⟨z4,z5,rfl,sm⟩;rw[hpl,RF];exact⟨_,rfl,k H' sm⟩
def pR(C:Addr):Sp:=λvs H Q _=>∃(l r r2:Addr) (ps:List Addr) (xss:List (List Int)) (t b t2 b2:Int),vs=[.ref l,.ref r,.ref r2]/\H l=some (.lst (ps.map V.ref))/\RwH H ps xss/\RA C H r t b/\RA C H r2 t2 b2/\Bits 3000 t/\Bits 3000 b/\Bits 3000 t2/\Bits 3000 b2/\(∀xs∈xss,xs.length<=20/\AllB 95000 xs)/\xss.length<=1000000/\∀H',Same H H'->Q (.int ((chS (sgs t b xss)).1-(chS (sgs t2 b2 xss)).1)) H'
theorem GE(F:Fun K "count" "count" rk f fd)(T:Txt K mg)(R:RCI K mg C)(vK:Cal P w K mg base 3 "changes" ["row","ratio"] (pT C) KR KA):FnOk P w K mg base CX0 4 f fd ["row","low","high"] (pR C):=by
 obtain⟨kF,j9,kd,kq⟩:=vK;refine F.ok D4 (λvs H Q E h=>?_) (λcdv A outer s H vs Q E hr h=>?_)
 ·obtain⟨l,r,r2,ps,xss,t,b,t2,b2,rfl,_⟩:=h;rfl
 ·obtain⟨l,r,r2,ps,xss,t,b,t2,b2,rfl,hL,hR,h1,h2,bt,bb,bt2,bb2,hb,hn,k⟩:=h;refine⟨_,(ak (av (ai ca (aq kF (hr.mono) rfl j9 kd kq .nil aj (aa (pv 0) (aa (pv 1) ac))) (aq kF (hr.mono) rfl j9 kd kq .nil aj (aa (pv 0) (aa (pv 2) ac)))))),?_⟩;refine aQ ⟨_,rfl,_,rfl,l,r,ps,xss,t,b,rfl,hL,hR,h1,bt,bb,hb,hn,λH1 s1=>?_⟩;refine⟨_,rfl,_,rfl,l,r2,ps,xss,t2,b2,rfl,s1 _ _ hL,hR.same s1,h2.same s1,bt2,bb2,hb,hn,λH2 s2=>?_⟩;exact⟨_,_,rfl,rfl,k _ (s1.trans s2)⟩
theorem mR(i:Int):(if i<0 then -i else i)=(i.natAbs:Int):=by split<;>omega
theorem MB{l:List Int}(h:l≠[]):atI (l.map V.int) (-1)=some (.int (ap l)):=by obtain⟨r,x,rfl⟩:=(db l).resolve_left h;rw[dJ,QY];exact vi _ _
theorem Lo{l:List Int}:iF l none (some (-1))=l.take (l.length-1):=by
 unfold iF;rw[HT.sIx_none]
 have e:HT.sIx l.length l.length (some (-1))=l.length-1:=by unfold HT.sIx;simp;omega
 rw[e,RL,Rv]
def isB(os:List Int)(l k:Nat):Prop:=(∀x∈os,x.natAbs<=(2^k-1)*l)/\∀j,j<k->∃x∈os,(2^j-1)*l<x.natAbs
def nE(K:PySem.W.Frag):Sp:=λvs H Q _=>∃(a:Addr) (ns:List Int),vs=[.ref a]/\SqL K H a (ns.map V.int)/\Tr ns/\ns≠[]/\ns.length<=100000/\AllB 100000 ns /\
 ∀(k:Nat) (H':Hp),k<=100000->isB (ns.take (ns.length-1)) (ap ns).natAbs k->Same H H'->Q (.int ((2^k:Nat):Int)) H'
theorem EO{os:List Int}{F:Int->Prop}(h:∀g:Nat,(∀x∈os,x.natAbs<=g)->(g=0\/∃x∈os,x.natAbs=g)->F g) :
 (∀M,M∈os.map (λx=>(x.natAbs:Int))->(∀a∈os.map (λx=>(x.natAbs:Int)),a<=M)->F M)/\(os.map (λx=>(x.natAbs:Int))=[]->F 0):=by
 constructor
 ·intro M hM ha;obtain⟨x,hx,rfl⟩:=QQ.mp hM;exact h x.natAbs (λy hy=>Int.ofNat_le.mp (ha _ (QQ.mpr ⟨y,hy,rfl⟩))) (.inr ⟨x,hx,rfl⟩)
 ·intro e;have:os=[]:=List.map_eq_nil_iff.mp e;subst this;exact h 0 (λx hx=>nomatch hx) (.inl rfl)
theorem GJ(F:Fun K "bound" "bound" rB f fd)(T:Txt K mg):FnOk P w K mg base CX0 1 f fd ["row"] (nE K):=by
 refine F.ok sc_bound (λvs H Q E h=>?_) (λcdv A outer s H vs Q E hr h=>?_)
 ·obtain⟨a,ns,rfl,_⟩:=h;rfl
 ·obtain⟨a,ns,rfl,hA,ht,hne,hn,hb,k⟩:=h;have big:=sizeLine_eq
  refine⟨_,(ag (ao (i:=1) sc_bound.nd rfl (Or.inl rfl) (bX gf (by rfl) T.abs_ PyProof.Rows.boot_abs (aa (aI (cC (K:=K) rfl) (pv 0) (bH bF ad) (λ_ _=>rfl)) ac)))
   (ag (ao (i:=2) sc_bound.nd rfl (Or.inl rfl) (Fk (K:=K) rfl rfl (by rfl) T.max_ (fE (own:=["value"]) (fr:=[]) (js:=[]) (by walk_at "comp_ok") rfl (fz (K:=K) rfl (fC (nI (K:=K) rfl) (pv 0) f8 (eQ (bH bF ad)))) (λ_ _ _ _=>(aU (i:=0) (show List.Nodup (["value"]:List Str)from by decide +kernel) rfl (Or.inl rfl))) (λ_ _ _ _=>(bX gf (by rfl) T.abs_ PyProof.Rows.boot_abs (aa (pv 0) ac)))) ad))
   (ag (ao (i:=3) sc_bound.nd rfl (Or.inl rfl) ad)
   (ag (f7 PassesOwn.never (aG cY (ai aJ (ai ca (pv 3) ad) (pv 1)) (pv 2) (aE _))
     (ak (ao (i:=3) sc_bound.nd rfl (Or.inl rfl) (ai aJ ad (pv 3)))))
   (ak (av (pv 3))))))),?_⟩
  refine aw ⟨_,rfl,_,rfl,a,_,_,_,rfl,rfl,hA,MB hne,_,rfl,?_⟩;rw[mR]
  have hl0:ap ns≠0:=by obtain⟨r,x,rfl⟩:=(db ns).resolve_left hne;rw[dJ];exact tr_snoc.mp ht
  generalize hL:(ap ns).natAbs=L at k ⊢
  have hL1:1<=L:=by omega
  have bL:Bits 100000 (L:Int):=by obtain⟨r,x,rfl⟩:=(db ns).resolve_left hne;rw[dJ]at hL;exact(hb x (by simp)).of_le (by omega)
  refine aw ⟨_,rfl,_,rfl,_,rfl,a,_,rfl,hA,λp1 hp1=>?_⟩;rw[uL,Lo];have s1:Same H (upd H p1 (.lst ((ns.take (ns.length-1)).map V.int))):=Same.upd_new hp1;have q1:upd H p1 (.lst ((ns.take (ns.length-1)).map V.int)) p1=some (.lst ((ns.take (ns.length-1)).map V.int)):=au;generalize hO:ns.take (ns.length-1)=os at k s1 q1 ⊢
  generalize upd H p1 (.lst (os.map V.int))=H1 at s1 q1 ⊢
  have bO:AllB 100000 os:=λx hx=>hb x (S5 (hO ▸ hx))
  have lO:os.length<=100000:=by rw[<- hO,Rn];omega
  refine⟨p1,rfl,⟨_,SqL.of q1⟩,jq (K:=K) (a:=p1) (xs:=os.map V.int) (λi ys σ' H'=>∃(z0:Option V),σ'=[z0]/\ys=((os.take i).map λx=>(x.natAbs:Int)).map V.int/\H1=H') (by rw[QB];omega) ⟨none,rfl,rfl,rfl⟩ ?_ ?_ ?_⟩
  ·rintro i ys σ' H' _ ⟨z0,rfl,rfl,rfl⟩;exact⟨SqL.of q1,by rw[QB,QB,Rn];exact SK _ _⟩
  ·rintro i x ys σ' H' hi ⟨z0,rfl,rfl,rfl⟩;rw[List.getElem?_map]at hi;cases e:os[i]? with
   |none=>rw[e]at hi;cases hi
   |some c =>rw[e]at hi;obtain rfl:=Option.some.inj hi;refine⟨_,rfl,_,rfl,_,rfl,?_,rfl⟩;rw[RE,e,mR];simp
  ·rintro ys σ' H' p ⟨z0,rfl,rfl,rfl⟩ hp;rw[QB,RF];have s2:Same H (upd H1 p (.lst ((os.map λx=>(x.natAbs:Int)).map V.int))):=s1.then_new hp;refine⟨p,_,rfl,SqL.of au,?_⟩;generalize upd H1 p (.lst ((os.map λx=>(x.natAbs:Int)).map V.int))=H2 at s2 ⊢
   refine And.symm (EO λg hg1 hg2=>?_)
   have bg:g<2^100000:=by
    rcases hg2 with rfl |⟨x,hx,rfl⟩
    ·exact RC (by decide)
    ·exact bO x hx
   refine aw ?_;refine⟨λm σ' H'=>∃k0:Nat,σ'=[some (.ref a),some (.int L),some (.int g),some (.int ((2^k0:Nat):Int))]/\H2=H'/\2*g+2-2^k0=m/\2^k0<=2*g+1/\∀j,j<k0->(2^j-1)*L<g,⟨_,0,rfl,rfl,rfl,by omega,λj hj=>absurd hj (SL _)⟩,?_⟩;rintro m σ' H' ⟨k0,rfl,rfl,rfl,h2,h3⟩
   have hk0:k0<=100000:=by
    have e:2^k0<2^100001:=by rw[Rz 2 100000];omega
    have:=(SM (a:=2) (by decide)).mp e;omega
   have hp:1<=2^k0:=RC (by decide)
   have bk:Bits 100002 ((2^k0:Nat):Int):=by show((2^k0:Nat):Int).natAbs<_;rw[Q2];exact(SM (a:=2) (by decide)).mpr (by omega)
   have bk1:Bits 100002 (((2^k0:Nat):Int)-1):=bk.of_le (by omega)
   have cast:(((2^k0:Nat):Int)-1)*(L:Int)=(((2^k0-1)*L:Nat):Int):=by rw[Rx,Int.natCast_sub hp];rfl
   refine⟨_,rfl,_,_,rfl,rfl,_,rfl,_,_,rfl,rfl,⟨bk1.mono,bL.mono⟩,_,rfl,_,_,rfl,rfl,_,rfl,?_⟩;rw[cast];refine aH (λhlt=>?_) (λhge=>?_)
   ·have hlt':(2^k0-1)*L<g:=by exact Su.mp hlt
    have h4:2^k0-1<g:=RB (Nat.le_mul_of_pos_right _ hL1) hlt';refine⟨λσ'' H''=>∃m',m'<2*g+2-2^k0/\∃k0:Nat,σ''=[some (.ref a),some (.int L),some (.int g),some (.int ((2^k0:Nat):Int))]/\H2=H''/\2*g+2-2^k0=m'/\2^k0<=2*g+1/\∀j,j<k0->(2^j-1)*L<g,λ_ _ h=>h,?_⟩;refine⟨_,rfl,_,_,rfl,rfl,⟨Bits.mono (j:=2) (by show(2:Int).natAbs<2^2;decide) (by decide),bk.mono⟩,?_⟩;have e2:(2:Int)*((2^k0:Nat):Int)=((2^(k0+1):Nat):Int):=by rw[Rz];omega
    have e3:2^(k0+1)=2*2^k0:=by rw[Rz];omega
    refine⟨2*g+2-2^(k0+1),by omega,k0+1,by rw[<- e2];rfl,rfl,rfl,by omega,λj hj=>?_⟩;by_cases ej:j=k0
    ·subst ej;exact hlt'
    ·exact h3 j (by omega)
   ·have hge':¬(2^k0-1)*L<g:=λz=>hge (Su.mpr z)
    refine⟨_,rfl,k k0 H2 hk0 ⟨λx hx=>QL (hg1 x hx) (by omega),λj hj=>?_⟩ s2⟩;have h5:=h3 j hj;rcases hg2 with rfl |⟨x,hx,e⟩
    ·exact absurd h5 (SL _)
    ·exact⟨x,hx,by rw[e];exact h5⟩
def vC(one other:List Int):Prop:=Tr one/\Tr other/\∃n,AllB n one/\AllB n other/\(one.length+2)*(n+1)<=1000000/\other.length<=1000000
noncomputable def kB:Nat->List Int->List Int->Prop
 |0,_,other=>other=[]
 |n+1,one,other=>other=[]\/(vC one other/\kB n other (aA (aS one other)))
def xF:Sp:=λvs H Q _=>∃(a b:Addr) (xs ys:List Int) (n:Nat),vs=[.ref a,.ref b]/\H a=some (.lst (xs.map V.int))/\H b=some (.lst (ys.map V.int))/\Tr xs/\Tr ys/\xs.length<=1000/\ys.length<=1000/\kB n (aA xs) (aA ys)/\mkL H Q (cT n (aA xs) (aA ys))
theorem GF(F:Fun K "common" "common" rm f fd)(T:Txt K mg)(gZ:Cal P w K mg base 34 "plain" ["row"] jO oS oP)(jF:Cal P w K mg base 2 "divided" ["first","second"] kS uB uo):FnOk P w K mg base CX0 35 f fd ["first","second"] xF:=by
 obtain⟨fT,fJ,fL,fQ⟩:=gZ;obtain⟨jB,ja,jg,jw⟩:=jF;refine F.ok sc_common (λvs H Q E h=>?_) (λcdv A outer s H vs Q E hr h=>?_)
 ·obtain⟨a,b,xs,ys,n,rfl,_⟩:=h;rfl
 ·obtain⟨a,b,xs,ys,n,rfl,hA,hB,xtr,ytr,hx,hy,hrun,k⟩:=h;have big:=sizeLine_eq;have hu:=hr.units
  refine⟨_,(ag (ao (i:=2) sc_common.nd rfl (Or.inl rfl) (aq fT (hr.mono) rfl fJ fL fQ .nil aj (aa (pv 0) ac)))
   (ag (ao (i:=3) sc_common.nd rfl (Or.inl rfl) (aq fT (hr.mono) rfl fJ fL fQ .nil aj (aa (pv 1) ac)))
   (ag (f7 PassesOwn.never (aG (lJ (K:=K) rfl hu) (pv 3) (bK ac) (aE _))
     (ag (ao (i:=4) sc_common.nd rfl (Or.inl rfl) (aq fT (hr.mono) rfl fJ fL fQ .nil aj (aa (aI (aW (K:=K) rfl) (aq jB (hr.mono) rfl ja jg jw .nil aj (aa (pv 2) (aa (pv 3) ac))) ad (λ_ _=>rfl)) ac)))
       (ag (ao (i:=2) sc_common.nd rfl (Or.inl rfl) (pv 3))
       (ak (ao (i:=3) sc_common.nd rfl (Or.inl rfl) (pv 4))))))
   (ak (av (pv 2)))))),?_⟩
  refine aw ⟨_,rfl,a,xs,rfl,hA,xtr,by omega,λp1 H1 s1 hp1 e1=>?_⟩;refine aw ⟨_,rfl,b,ys,rfl,s1 _ _ hB,ytr,by omega,λp2 H2 sm2 hp2 e2=>?_⟩;have s2:=s1.trans sm2;generalize aA xs=one' at hrun k e1
  generalize aA ys=other' at hrun k e2
  refine⟨λm σ' H'=>∃(po pt:Addr) (one other:List Int) (z4:Option V),σ'=[some (.ref a),some (.ref b),some (.ref po),some (.ref pt),z4]/\Same H H'/\H' po=some (.lst (one.map V.int))/\H' pt=some (.lst (other.map V.int))/\H po=none/\H pt=none/\kB m one other/\cT m one other=cT n one' other',
   ⟨_,p1,p2,one',other',none,rfl,s2,sm2 _ _ e1,e2,hp1,s1.free hp2,hrun,rfl⟩,?_⟩
  rintro m σ' H3 ⟨po,pt,one,other,z4,rfl,s3,ho,ht,fo,ft,hrun3,hcom⟩;refine⟨_,rfl,QH _,λq hq=>?_⟩;have t4:=Same.upd_new (o:=.lst []) hq;refine⟨pt,q,other,[],rfl,rfl,SqL.of (t4 _ _ ht),SqL.of au,_,rfl,dB (λhne=>?_) (λhe=>?_)⟩
  rotate_left
  ·have he':other=[]:=he;subst he';rw[Bn]at hcom;refine⟨_,rfl,k po _ (s3.trans t4) fo ?_⟩;rw[<- hcom];exact t4 _ _ ho
  have hne':other≠[]:=hne
  obtain⟨m1,rfl⟩:∃m1,m=m1+1:=by
   cases m with
   |zero=>exact absurd hrun3 hne'
   |succ m1=>exact⟨m1,rfl⟩
  obtain⟨⟨otr,ttr,nb,bo,bt,hsz,htl⟩,hrun5⟩:=(show other=[]\/(vC one other/\kB m1 other (aA (aS one other)))from hrun3).resolve_left hne'
  have hcom5:cT m1 other (aA (aS one other))=cT n one' other':=by
   rw[<- hcom];show _=if other=[]then one else cT m1 other (aA (aS one other))
   rw[if_neg hne']
  generalize hH5:upd H3 q (.lst [])=H5 at t4 ⊢
  refine⟨λσ'' H''=>∃m',m'<m1+1/\∃(po pt:Addr) (one other:List Int) (z4:Option V),σ''=[some (.ref a),some (.ref b),some (.ref po),some (.ref pt),z4]/\Same H H''/\H'' po=some (.lst (one.map V.int))/\H'' pt=some (.lst (other.map V.int))/\H po=none/\H pt=none/\kB m' one other/\cT m' one other=cT n one' other',λ_ _ h=>h,?_⟩
  have hrl:(aS one other).length<=1000000:=by have:=gM (a:=one) hne';omega
  refine aw ⟨_,rfl,_,rfl,po,pt,one,other,nb,rfl,t4 _ _ ho,t4 _ _ ht,hne',bo,bt,hsz,htl,λt q' r H8 sm8 _ _ _ _ _ _ et _ er=>?_⟩;refine⟨t,_,_,_,rfl,rfl,SqT.of et,rfl,r,_,rfl,er,ge _ _,hrl,λp9 H9 sm9 hp9 e9=>?_⟩;refine aw ⟨_,rfl,?_⟩;refine⟨_,rfl,?_⟩;have t9:=(t4.trans sm8).trans sm9;exact⟨m1,RV _,pt,p9,other,_,_,rfl,s3.trans t9,t9 _ _ ht,e9,ft,s3.free ((t4.trans sm8).free hp9),hrun5,hcom5⟩
def xh:Sp:=λvs H Q _=>∃(a b:Addr) (xs ys:List Int) (n:Nat),vs=[.ref a,.ref b]/\H a=some (.lst (xs.map V.int))/\H b=some (.lst (ys.map V.int))/\Tr xs/\Tr ys/\AllB n xs/\AllB n ys/\(xs.length+2)*(n+1)<=1000000/\ys.length<=1000000/\ys≠[]/\aS xs ys=[]/\mkL H Q (aA (cu xs ys))
theorem Ge(F:Fun K "part" "part" qK f fd)(T:Txt K mg)(jF:Cal P w K mg base 2 "divided" ["first","second"] kS uB uo)(gZ:Cal P w K mg base 34 "plain" ["row"] jO oS oP):FnOk P w K mg base CX0 35 f fd ["row","divisor"] xh:=by
 obtain⟨jB,ja,jg,jw⟩:=jF;obtain⟨fT,fJ,fL,fQ⟩:=gZ;refine F.ok sc_part (λvs H Q E h=>?_) (λcdv A outer s H vs Q E hr h=>?_)
 ·obtain⟨a,b,xs,ys,n,rfl,_⟩:=h;rfl
 ·obtain⟨a,b,xs,ys,nb,rfl,hA,hB,xtr,ytr,bx,by',hsz,hyn,hy,hR,k⟩:=h;have hu:=hr.units
  refine⟨_,(ag (ao (i:=2) sc_part.nd rfl (Or.inl rfl) (aq jB (hr.mono) rfl ja jg jw .nil aj (aa (pv 0) (aa (pv 1) ac))))
   (ag (aO (aG (lJ (K:=K) rfl hu) (aI (aW (K:=K) rfl) (pv 2) ad (λ_ _=>rfl)) (bK ac) (aE _))
     (ak iW)
     aP)
   (ak (av (aq fT (hr.mono) rfl fJ fL fQ .nil aj (aa (aI (aW (K:=K) rfl) (pv 2) ad (λ_ _=>rfl)) ac)))))),?_⟩
  refine aw ⟨_,rfl,_,rfl,a,b,xs,ys,nb,rfl,hA,hB,hy,bx,by',hsz,hyn,λt q r H1 sm1 ft fq fr _ _ _ et eq er=>?_⟩;refine bI ⟨_,rfl,t,_,_,_,rfl,rfl,SqT.of et,rfl,QH _,λp hp=>?_⟩;have s2:=Same.upd_new (o:=.lst []) hp;refine⟨r,p,_,[],rfl,rfl,SqL.of (s2 _ _ er),SqL.of au,_,rfl,dB (λh=>absurd hR h) (λh=>?_)⟩;have lq:=uJ (a:=xs) hy
  have hxl:xs.length<=1000000:=by have:=RP (xs.length+2) (show 1<=nb+1 by omega);omega
  have hN:bJ xs ys<=xs.length+1:=by unfold bJ;omega
  have hN2:bJ xs ys<=xs.length:=by have:=QG.mpr hy;unfold bJ;omega
  exact⟨_,rfl,t,_,_,_,rfl,rfl,SqT.of (s2 _ _ et),rfl,q,cu xs ys,rfl,s2 _ _ eq,uH hy xtr ytr,by omega,λp' H' sm' hp' e'=>k p' H' ((sm1.then_new hp).trans sm') ((sm1.then_new hp).free hp') e'⟩
theorem GN(F:Fun K "added" "added" rF f fd)(T:Txt K mg)(jE:Cal P w K mg base 1 "poly" ["row"] (kP K) uA um)(vJ:Cal P w K mg base 1 "coefficient" ["row","place"] (jP K) KQ Kz):FnOk P w K mg base CX0 2 f fd ["first","second"] (nF K iJ):=by
 obtain⟨jA,i9,jf,jv⟩:=jE;obtain⟨mU,md,ml,mP⟩:=vJ;refine F.ok sc_added (λvs H Q E h=>?_) (λcdv A outer s H vs Q E hr h=>?_)
 ·obtain⟨a,b,xs,ys,rfl,_⟩:=h;rfl
 ·obtain⟨a,b,xs,ys,rfl,hA,hB,hx,hy,k⟩:=h
  refine⟨_,(ag (ao (i:=2) sc_added.nd rfl (Or.inl rfl) (bX (BI rfl) (by rfl) T.max_ PyProof.Rows.boot_max (aa (bX (dz (K:=K) rfl) (by rfl) T.len_ PySem.boot_len (aa (pv 0) ac)) (aa (bX (dz (K:=K) rfl) (by rfl) T.len_ PySem.boot_len (aa (pv 1) ac)) ac))))
   (ak (av (aq jA (hr.mono) rfl i9 jf jv .nil aj (aa (fE (own:=["k"]) (fr:=["first","second"]) (js:=[0,1]) (by walk_at "comp_ok") rfl (ii rfl T.range_ (aa (pv 2) ac)) (λ_ _ _ _=>(aU (i:=0) (show List.Nodup (["k","first","second"]:List Str)from by decide +kernel) rfl (Or.inl rfl))) (λ_ _ _ _=>(ai bQ (aq mU (hr.mono) rfl md ml mP .nil aj (aa (pv 1) (aa (pv 0) ac))) (aq mU (hr.mono) rfl md ml mP .nil aj (aa (pv 2) (aa (pv 0) ac)))))) ac))))),?_⟩
  refine⟨_,rfl,a,_,rfl,.inl hA,_,rfl,b,_,rfl,.inl hB,_,_,rfl,?_⟩;rw[zE,QB,QB];have hz:max xs.length ys.length<=sizeLine:=by have:=sizeLine_eq;omega
  refine⟨_,rfl,_,rfl,(nG hz).1,(nG hz).2,uN (lo:=0) (n:=max xs.length ys.length) (λi zs σ' H'=>∃z:Option V,σ'=[z,some (.ref a),some (.ref b)]/\zs=((List.range i).map λk=>V.int (cf xs k+cf ys k))/\H=H') hz ⟨none,rfl,rfl,rfl⟩ ?_ ?_ ?_⟩
  ·rintro i zs σ' H' _ ⟨z,rfl,rfl,rfl⟩;simp
  ·rintro i zs σ' H' hi ⟨z,rfl,rfl,rfl⟩;refine⟨_,rfl,_,rfl,a,xs,i,?_,hA,_,rfl,_,rfl,b,ys,i,?_,hB,_,_,rfl,rfl,_,rfl,?_,rfl⟩
   ·show[V.ref a,V.int (0+(i:Int))]=_;rw[Ru]
   ·show[V.ref b,V.int (0+(i:Int))]=_;rw[Ru]
   ·rw[List.range_succ,QY];rfl
  ·rintro zs σ' H' p ⟨z,rfl,rfl,rfl⟩ hp;refine⟨p,(List.range (max xs.length ys.length)).map λk=>cf xs k+cf ys k,rfl,SqL.of ?_,?_⟩
   ·rw[au,Rw];rfl
   ·intro p' H' sm hp' e;refine k p' H' ((Same.upd_new hp).trans sm) ((Same.upd_new hp).free hp') ?_;rw[e,MG]
def xr:Sp:=λvs H Q _=>∃(a b:Addr) (xs ys:List Int),vs=[.ref a,.ref b]/\H a=some (.lst (xs.map V.int))/\H b=some (.lst (ys.map V.int))/\xs.length<=1000000/\ys.length<=1000000/\AllB 1000000 xs/\AllB 1000000 ys/\mkL H Q (af xs ys)
theorem Gn(F:Fun K "multiplied" "multiplied" qR f fd)(T:Txt K mg):FnOk P w K mg base CX0 1 f fd ["first","second"] xr:=by
 refine F.ok sc_multiplied (λvs H Q E h=>?_) (λcdv A outer s H vs Q E hr h=>?_)
 ·obtain⟨a,b,xs,ys,rfl,_⟩:=h;rfl
 ·obtain⟨a,b,xs,ys,rfl,hA,hB,hx,hy,bx,by',k⟩:=h;have hu:=hr.units
  refine⟨_,(ag (aO (PW.pt (sy (aG (jZ (K:=K) rfl hu) (pv 0) (bK ac) (aE _)) (sv (aG (jZ (K:=K) rfl hu) (pv 1) (bK ac) (aE _)))))
   (ak (av (bK ac)))
   aP)
   (ag (ao (i:=2) sc_multiplied.nd rfl (Or.inl rfl) (ai sL (bK (aa ad ac)) (ai ca (ai bQ (bX (dz (K:=K) rfl) (by rfl) T.len_ PySem.boot_len (aa (pv 0) ac)) (bX (dz (K:=K) rfl) (by rfl) T.len_ PySem.boot_len (aa (pv 1) ac))) ad)))
   (ag (c8 PassesOwn.never rfl (og rfl T.enumerate_ (aa (pv 0) ac)) (ik rfl (cH (aU (i:=3) sc_multiplied.nd rfl (Or.inl rfl)) (cH (aU (i:=4) sc_multiplied.nd rfl (Or.inl rfl)) ij)))
     (ak (c8 PassesOwn.never rfl (og rfl T.enumerate_ (aa (pv 1) ac)) (ik rfl (cH (aU (i:=5) sc_multiplied.nd rfl (Or.inl rfl)) (cH (aU (i:=6) sc_multiplied.nd rfl (Or.inl rfl)) ij)))
       (ak (gv (ai bQ (aI (cC (K:=K) rfl) (pv 2) (ai bQ (pv 3) (pv 5)) (λ_ _=>rfl)) (ai aJ (pv 4) (pv 6))) (lG (pv 2) (ai bQ (pv 3) (pv 5)) ld))))))
   (ak (av (pv 2)))))),?_⟩
  refine⟨_,rfl,QH _,λp1 hp1=>?_⟩;have s1:Same H (upd H p1 (.lst [])):=Same.upd_new hp1;refine⟨a,p1,xs,[],rfl,rfl,SqL.of (s1 _ _ hA),SqL.of au,_,rfl,?_⟩;refine aH (λh0=>?_) (λh0=>?_)
  ·refine li ⟨QH _,λp2 hp2=>k p2 _ (s1.then_new hp2) (s1.free hp2) ?_⟩;rw[au];unfold af;rw[if_pos (.inl h0)];rfl
  refine⟨_,rfl,QH _,λp2 hp2=>?_⟩;have s2:Same H (upd (upd H p1 (.lst [])) p2 (.lst [])):=s1.then_new hp2;refine⟨b,p2,ys,[],rfl,rfl,SqL.of (s2 _ _ hB),SqL.of au,_,rfl,?_⟩;refine aH (λh1=>?_) (λh1=>?_)
  ·refine⟨QH _,λp3 hp3=>k p3 _ (s2.then_new hp3) (s2.free hp3) ?_⟩;rw[au];unfold af;rw[if_pos (.inr h1)];rfl
  generalize upd (upd H p1 (.lst [])) p2 (.lst [])=H2 at s2 ⊢
  obtain⟨la,ea⟩:∃la,xs.length=la+1:=⟨xs.length-1,by have:=QG.mpr h0;omega⟩;obtain⟨lb,eb⟩:∃lb,ys.length=lb+1:=⟨ys.length-1,by have:=QG.mpr h1;omega⟩;refine⟨(by show 1<=sizeLine;decide),λp3 hp3=>?_⟩;have s3:=s2.then_new (o:=.lst [V.int 0]) hp3;have big:=sizeLine_eq;refine⟨_,rfl,a,_,rfl,.inl (SqL.of (s3 _ _ hA)),_,rfl,b,_,rfl,.inl (SqL.of (s3 _ _ hB)),_,_,rfl,rfl,_,_,rfl,rfl,p3,_,_,rfl,rfl,au,?_,?_,?_,λp hp=>?_⟩
  ·rw[QB,QB];omega
  ·rw[QB,QB];omega
  ·rw[QB,QB];show 1*_<=_;omega
  have en:(((xs.map V.int).length:Int)+((ys.map V.int).length:Int)-1).toNat=la+lb+1:=by rw[QB,QB];omega
  rw[en,se];have s4:=s3.then_new (o:=.lst ((List.replicate (la+lb+1) (0:Int)).map V.int)) hp;have npa:a≠p:=s3.ne hA hp;have npb:b≠p:=s3.ne hB hp;generalize hH4:upd (upd H2 p3 (.lst [V.int 0])) p (.lst ((List.replicate (la+lb+1) (0:Int)).map V.int))=H4 at s4 ⊢
  have hp4:H4 p=some (.lst ((List.replicate (la+lb+1) (0:Int)).map V.int)):=by rw[<- hH4,au]
  refine⟨_,rfl,a,rfl,⟨_,SqL.of (s4 _ _ hA)⟩,uh (K:=K) (a:=a) (xs:=xs.map V.int) (λj σ' H'=>∃(acc:List Int) (z3 z4 z5 z6:Option V),σ'=[some (.ref a),some (.ref b),some (.ref p),z3,z4,z5,z6]/\SameB p H4 H'/\H' p=some (.lst (acc.map V.int))/\acc.length=la+lb+1/\∀n,n<acc.length->cf acc n=sm xs ys n j)
   ⟨List.replicate (la+lb+1) 0,none,none,none,none,rfl,SameB.refl _ _,hp4,by simp,λn _=>by rw[mK];rfl⟩ ?_ ?_ ?_⟩
  ·rintro j σ' H' _ ⟨acc,z3,z4,z5,z6,rfl,sb,_⟩;exact SqL.of (sb _ _ npa (s4 _ _ hA))
  ·rintro j x σ' H' q hj ⟨acc,z3,z4,z5,z6,rfl,sb,hpa,hal,hac⟩ hq;rw[List.getElem?_map]at hj
   have hjl:j<xs.length:=by apply Classical.byContradiction;intro hn;rw[List.getElem?_eq_none_iff.mpr (RK hn)]at hj;cases hj
   rw[jk hjl]at hj;obtain rfl:=Option.some.inj hj;refine⟨q,_,rfl,SqT.of au,rfl,_,_,rfl,_,_,rfl,rfl,?_⟩;have nqp:p≠q:=aY hpa hq;have sb1:SameB p H4 (upd H' q (.tup [.int j,.int (cf xs j)])):=sb.then_new hq
   refine⟨_,rfl,b,rfl,⟨_,SqL.of (sb1 _ _ npb (s4 _ _ hB))⟩,uh (K:=K) (a:=b) (xs:=ys.map V.int) (λi σ' H'=>∃(acc:List Int) (z5 z6:Option V),σ'=[some (.ref a),some (.ref b),some (.ref p),some (.int j),some (.int (cf xs j)),z5,z6]/\SameB p H4 H'/\H' p=some (.lst (acc.map V.int))/\acc.length=la+lb+1/\∀n,n<acc.length->cf acc n=sm xs ys n j+(if j<=n/\n-j<i then tm xs ys n j else 0))
    ⟨acc,z5,z6,rfl,sb1,by rw[upd_ne nqp];exact hpa,hal,zr hac⟩ ?_ ?_ ?_⟩
   ·rintro i σ' H' _ ⟨acc,z5,z6,rfl,sb,_⟩;exact SqL.of (sb _ _ npb (s4 _ _ hB))
   ·rintro i x σ' H' q hi ⟨acc,z5,z6,rfl,sb,hpa,hal,hac⟩ hq;rw[List.getElem?_map]at hi
    have hil:i<ys.length:=by apply Classical.byContradiction;intro hn;rw[List.getElem?_eq_none_iff.mpr (RK hn)]at hi;cases hi
    rw[jk hil]at hi;obtain rfl:=Option.some.inj hi;refine⟨q,_,rfl,SqT.of au,rfl,_,_,rfl,_,_,rfl,rfl,?_⟩;have nqp:p≠q:=aY hpa hq;have hpa':upd H' q (.tup [.int i,.int (cf ys i)]) p=some (.lst (acc.map V.int)):=by rw[upd_ne nqp];exact hpa
    have hji:j+i<acc.length:=by omega
    have eji:((j:Nat):Int)+((i:Nat):Int)=((j+i:Nat):Int):=by omega
    refine⟨_,rfl,_,rfl,_,rfl,_,_,rfl,rfl,p,_,_,_,rfl,rfl,SqL.of hpa',kt eji hji,_,rfl,_,rfl,_,_,rfl,rfl,⟨bx.cf j,by'.cf i⟩,_,_,rfl,rfl,_,rfl,_,rfl,_,rfl,_,_,rfl,rfl,p,_,_,j+i,rfl,rfl,hpa',mq eji (by rw[QB];exact hji),?_⟩;refine⟨acc.set (j+i) (cf acc (j+i)+cf xs j*cf ys i),_,_,rfl,(sb.then_new hq).then_upd,by rw[au,oz],by rw[Sk];exact hal,zq hjl hil hji hac⟩
   ·rintro σ' H' ⟨acc,z5,z6,rfl,sb,hpa,hal,hac⟩;rw[QB]at hac;exact⟨acc,_,_,_,_,rfl,sb,hpa,hal,zt hac⟩
  ·rintro σ' H' ⟨acc,z3,z4,z5,z6,rfl,sb,hpa,hal,hac⟩;rw[QB]at hac;refine⟨_,rfl,k p H' (λb' o e=>sb b' o (s3.ne e hp) (s4 b' o e)) (s3.free hp) ?_⟩;rw[hpa]
   have e:acc=af xs ys:=by
    apply d8
    ·rw[hal];unfold af;rw[if_neg (by intro z;exact z.elim h0 h1),QB,RO];omega
    ·intro n _;rw[aN,zu (by omega) hac]
   rw[e]
def pM(C:Addr):Sp:=λvs H Q _=>∃(p q:Addr) (t b u d:Int) (i j:Nat),vs=[.ref p,.ref q]/\RA C H p t b/\RA C H q u d/\Bits 100000 t/\Bits i b/\Bits 100000 u/\Bits j d/\i+j<=9000/\0<b/\0<d/\mkR C H Q (t*d+u*b) (b*d)
theorem G1(F:Fun K "plus" "Ratio.plus" rV f fd)(T:Txt K mg)(R:RCI K mg C)(cc:KCal P w K mg base 2 C "Ratio" ["self","top","bottom"] (da C) dN dM dO [.int 1]):FnOk P w K mg base CX0 4 f fd ["self","other"] (pM C):=by
 obtain⟨bC,bz,bj,b9,cF,cD⟩:=cc;refine F.ok Ed (λvs H Q E h=>?_) (λcdv A outer s H vs Q E hr h=>?_)
 ·obtain⟨p,q,t,b,u,d,i,j,rfl,_⟩:=h;rfl
 ·obtain⟨p,q,t,b,u,d,i,j,rfl,⟨dx,hp⟩,⟨dy,hq⟩,bt,bb,bu,bd,hij,hb,hd,k⟩:=h;have bb':Bits 1000000 b:=bb.mono (by omega);have bd':Bits 1000000 d:=bd.mono (by omega);refine⟨_,(ak (av (b5 bz bC (hr.mono) rfl bj b9 .nil aj (aa (ai bQ (ai aJ (aR (K:=K) rfl (pv 0) rfl) (aR (K:=K) rfl (pv 1) rfl)) (ai aJ (aR (K:=K) rfl (pv 1) rfl) (aR (K:=K) rfl (pv 0) rfl))) (aa (ai aJ (aR (K:=K) rfl (pv 0) rfl) (aR (K:=K) rfl (pv 1) rfl)) ac))))),?_⟩;refine⟨_,rfl,p,C,dx,_,_,rfl,hp,R.cl,R.nT,df _ _,_,rfl,q,C,dy,_,_,rfl,hq,R.cl,R.nB,cs _ _,_,_,rfl,rfl,⟨bt.mono,bd'⟩,?_⟩;refine⟨_,rfl,q,C,dy,_,_,rfl,hq,R.cl,R.nT,df _ _,_,rfl,p,C,dx,_,_,rfl,hp,R.cl,R.nB,cs _ _,_,_,rfl,rfl,⟨bu.mono,bb'⟩,_,_,rfl,rfl,?_⟩;refine⟨_,rfl,p,C,dx,_,_,rfl,hp,R.cl,R.nB,cs _ _,_,rfl,q,C,dy,_,_,rfl,hq,R.cl,R.nB,cs _ _,_,_,rfl,rfl,⟨bb',bd'⟩,?_⟩;exact cI (Rf (QC hb hd)) ((bb.mul bd).mono hij) k
def kR(C:Addr):Sp:=λvs H Q _=>∃(p q:Addr) (t b u d:Int) (i j:Nat),vs=[.ref p,.ref q]/\RA C H p t b/\RA C H q u d/\Bits 100000 t/\Bits i b/\Bits 100000 u/\Bits j d/\i+j<=9000/\0<b/\0<d/\mkR C H Q (t*d-u*b) (b*d)
theorem G2(F:Fun K "minus" "Ratio.minus" rW f fd)(T:Txt K mg)(R:RCI K mg C)(cc:KCal P w K mg base 2 C "Ratio" ["self","top","bottom"] (da C) dN dM dO [.int 1]):FnOk P w K mg base CX0 4 f fd ["self","other"] (kR C):=by
 obtain⟨bC,bz,bj,b9,cF,cD⟩:=cc;refine F.ok Ee (λvs H Q E h=>?_) (λcdv A outer s H vs Q E hr h=>?_)
 ·obtain⟨p,q,t,b,u,d,i,j,rfl,_⟩:=h;rfl
 ·obtain⟨p,q,t,b,u,d,i,j,rfl,⟨dx,hp⟩,⟨dy,hq⟩,bt,bb,bu,bd,hij,hb,hd,k⟩:=h;have bb':Bits 1000000 b:=bb.mono (by omega);have bd':Bits 1000000 d:=bd.mono (by omega);refine⟨_,(ak (av (b5 bz bC (hr.mono) rfl bj b9 .nil aj (aa (ai ca (ai aJ (aR (K:=K) rfl (pv 0) rfl) (aR (K:=K) rfl (pv 1) rfl)) (ai aJ (aR (K:=K) rfl (pv 1) rfl) (aR (K:=K) rfl (pv 0) rfl))) (aa (ai aJ (aR (K:=K) rfl (pv 0) rfl) (aR (K:=K) rfl (pv 1) rfl)) ac))))),?_⟩;refine⟨_,rfl,p,C,dx,_,_,rfl,hp,R.cl,R.nT,df _ _,_,rfl,q,C,dy,_,_,rfl,hq,R.cl,R.nB,cs _ _,_,_,rfl,rfl,⟨bt.mono,bd'⟩,?_⟩;refine⟨_,rfl,q,C,dy,_,_,rfl,hq,R.cl,R.nT,df _ _,_,rfl,p,C,dx,_,_,rfl,hp,R.cl,R.nB,cs _ _,_,_,rfl,rfl,⟨bu.mono,bb'⟩,_,_,rfl,rfl,?_⟩;refine⟨_,rfl,p,C,dx,_,_,rfl,hp,R.cl,R.nB,cs _ _,_,rfl,q,C,dy,_,_,rfl,hq,R.cl,R.nB,cs _ _,_,_,rfl,rfl,⟨bb',bd'⟩,?_⟩;exact cI (Rf (QC hb hd)) ((bb.mul bd).mono hij) k
def jN(C:Addr):Sp:=λvs H Q _=>∃(p q:Addr) (t b u d:Int) (i j:Nat),vs=[.ref p,.ref q]/\RA C H p t b/\RA C H q u d/\Bits 100000 t/\Bits i b/\Bits 100000 u/\Bits j d/\i+j<=9000/\0<b/\0<d/\mkR C H Q (t*u) (b*d)
theorem G0(F:Fun K "times" "Ratio.times" rT f fd)(T:Txt K mg)(R:RCI K mg C)(cc:KCal P w K mg base 2 C "Ratio" ["self","top","bottom"] (da C) dN dM dO [.int 1]):FnOk P w K mg base CX0 4 f fd ["self","other"] (jN C):=by
 obtain⟨bC,bz,bj,b9,cF,cD⟩:=cc;refine F.ok Ec (λvs H Q E h=>?_) (λcdv A outer s H vs Q E hr h=>?_)
 ·obtain⟨p,q,t,b,u,d,i,j,rfl,_⟩:=h;rfl
 ·obtain⟨p,q,t,b,u,d,i,j,rfl,⟨dx,hp⟩,⟨dy,hq⟩,bt,bb,bu,bd,hij,hb,hd,k⟩:=h;refine⟨_,(ak (av (b5 bz bC (hr.mono) rfl bj b9 .nil aj (aa (ai aJ (aR (K:=K) rfl (pv 0) rfl) (aR (K:=K) rfl (pv 1) rfl)) (aa (ai aJ (aR (K:=K) rfl (pv 0) rfl) (aR (K:=K) rfl (pv 1) rfl)) ac))))),?_⟩;refine⟨_,rfl,p,C,dx,_,_,rfl,hp,R.cl,R.nT,df _ _,_,rfl,q,C,dy,_,_,rfl,hq,R.cl,R.nT,df _ _,_,_,rfl,rfl,⟨bt.mono,bu.mono⟩,?_⟩;refine⟨_,rfl,p,C,dx,_,_,rfl,hp,R.cl,R.nB,cs _ _,_,rfl,q,C,dy,_,_,rfl,hq,R.cl,R.nB,cs _ _,_,_,rfl,rfl,⟨bb.mono (by omega),bd.mono (by omega)⟩,?_⟩;exact cI (Rf (QC hb hd)) ((bb.mul bd).mono hij) k
theorem A6{l:List Int}{i:Nat}{c:Int}(hi:i<l.length)(e:l[l.length-1-i]?=some c):l.drop (l.length-(i+1))=c::l.drop (l.length-i):=by
 have h:l.length-(i+1)=l.length-1-i:=by omega
 rw[h,S8 (by omega)];have h2:l.length-1-i+1=l.length-i:=by omega
 rw[h2];have h3:=List.getElem?_eq_getElem (l:=l) (i:=l.length-1-i) (by omega);rw[h3]at e;rw[Option.some.inj e]
theorem jV(n:Nat):(0:Int)<2^n:=Rl (by decide)
theorem iY(n:Nat):(2:Int)^n=((2^n:Nat):Int):=by rw[Ss];rfl
theorem lC{n k:Nat}(h:n<k):Bits k ((2:Int)^n):=by rw[iY];show(((2^n:Nat):Int)).natAbs<2^k;rw[Q2];exact(SM (by decide)).mpr h
theorem d9:Bits 1000000 (2:Int):=Bits.mono (j:=2) (by show(2:Int).natAbs<2^2;decide) (by decide)
theorem sN:Bits 1000000 (1:Int):=Bits.mono (j:=1) (by show(1:Int).natAbs<2^1;decide) (by decide)
def xz(C:Addr):Sp:=λvs H Q _=>∃(r wd:Addr) (r1 r2 w1 w2:Int) (kr kw:Nat),vs=[.ref r,.ref wd]/\RA C H r r1 r2/\RA C H wd w1 w2/\0<r2/\0<w1/\Bits kr r1/\Bits 100000 r2/\Bits 100000 w1/\Bits kw w2/\kr+kw<=100000/\∀n:Nat,n<=kr+kw->r1*w2<=w1*r2*2^n->(∀j:Nat,j<n->w1*r2*2^j<r1*w2)->Q (.int n) H
theorem Gw(F:Fun K "halvings" "halvings" qZ f fd)(T:Txt K mg)(R:RCI K mg C):FnOk P w K mg base CX0 1 f fd ["reach","width"] (xz C):=by
 refine F.ok sc_halvings (λvs H Q E h=>?_) (λcdv A outer s H vs Q E hr h=>?_)
 ·obtain⟨r,wd,r1,r2,w1,w2,kr,kw,rfl,_⟩:=h;rfl
 ·obtain⟨r,wd,r1,r2,w1,w2,kr,kw,rfl,⟨dr,hR⟩,⟨dw,hW⟩,hr2,hw1,br1,br2,bw1,bw2,hkk,k⟩:=h
  refine⟨_,(ag (ao (i:=2) sc_halvings.nd rfl (Or.inl rfl) (ai aJ (aR (K:=K) rfl (pv 0) rfl) (aR (K:=K) rfl (pv 1) rfl)))
   (ag (ao (i:=3) sc_halvings.nd rfl (Or.inl rfl) (ai aJ (aR (K:=K) rfl (pv 1) rfl) (aR (K:=K) rfl (pv 0) rfl)))
   (ag (ao (i:=4) sc_halvings.nd rfl (Or.inl rfl) ad)
   (ag (f7 PassesOwn.never (aG cQ (pv 2) (pv 3) (aE _))
     (ag (ao (i:=3) sc_halvings.nd rfl (Or.inl rfl) (ai aJ ad (pv 3)))
       (ak (ao (i:=4) sc_halvings.nd rfl (Or.inl rfl) (ai bQ (pv 4) ad)))))
   (ak (av (pv 4))))))),?_⟩
  refine aw ⟨_,rfl,r,C,dr,_,_,rfl,hR,R.cl,R.nT,df _ _,_,rfl,wd,C,dw,_,_,rfl,hW,R.cl,R.nB,cs _ _,_,_,rfl,rfl,⟨br1.mono (by omega),bw2.mono (by omega)⟩,?_⟩;refine aw ⟨_,rfl,wd,C,dw,_,_,rfl,hW,R.cl,R.nT,df _ _,_,rfl,r,C,dr,_,_,rfl,hR,R.cl,R.nB,cs _ _,_,_,rfl,rfl,⟨bw1.mono,br2.mono⟩,?_⟩;have bW:Bits (kr+kw) (r1*w2):=br1.mul bw2;have g0:0<w1*r2:=QC hw1 hr2;refine aw ?_;dsimp only
  generalize r1*w2=W at *
  generalize w1*r2=g at *
  show cM _ _ _ _ _
  have b0:∀n:Nat,(∀j:Nat,j<n->g*2^j<W)->n<=kr+kw:=λn hn=>by
   rcases Nat.lt_or_ge (kr+kw) n with z |z
   ·have h1:=hn (kr+kw) z
    have h2:(2:Int)^(kr+kw)<=g*2^(kr+kw):=by have:=Q5 (show(1:Int)<=g by omega) (QE (jV (kr+kw)));omega
    have h3:W.natAbs<2^(kr+kw):=bW;have h5:(W.natAbs:Int)<((2^(kr+kw):Nat):Int):=Su.mpr h3;rw[<- iY]at h5;generalize (2:Int)^(kr+kw)=Y at *
    omega
   ·exact z
  refine⟨λm σ' H'=>∃n:Nat,σ'=[some (.ref r),some (.ref wd),some (.int W),some (.int (g*2^n)),some (.int n)]/\H=H'/\m=(W-g*2^n).toNat/\∀j:Nat,j<n->g*2^j<W,⟨_,0,by rw[RG,Q1];rfl,rfl,rfl,λj hj=>absurd hj (SL _)⟩,?_⟩;rintro m σ' H' ⟨n,rfl,rfl,rfl,hj⟩;refine⟨_,rfl,_,rfl,_,_,rfl,rfl,_,rfl,aH (λhgt=>?_) (λhle=>?_)⟩
  ·have hgt':g*2^n<W:=hgt;have gp:0<g*2^n:=QC g0 (jV n);have bg:Bits (kr+kw) (g*2^n):=bW.of_le (by omega);refine⟨λσ'' H''=>∃m',m'<(W-g*2^n).toNat/\∃n:Nat,σ''=[some (.ref r),some (.ref wd),some (.int W),some (.int (g*2^n)),some (.int n)]/\H=H''/\m'=(W-g*2^n).toNat/\∀j:Nat,j<n->g*2^j<W,λ_ _ h=>h,?_⟩;have e2:2*(g*2^n)=g*2^(n+1):=by rw[Q4];grind
   refine aw ⟨_,rfl,_,_,rfl,rfl,⟨d9,bg.mono (by omega)⟩,?_⟩;refine cG ⟨_,rfl,_,_,rfl,rfl,?_⟩;refine⟨(W-g*2^(n+1)).toNat,by rw[<- e2];omega,n+1,by rw[<- e2];rfl,rfl,rfl,λj h'=>?_⟩;by_cases ej:j=n
   ·subst ej;exact hgt'
   ·exact hj j (by omega)
  ·refine⟨_,rfl,k n (b0 n hj) ?_ hj⟩;have:¬g*2^n<W:=hle;omega
theorem ee{k:Nat}{t b:Int}(hb:b≠0)(h:Bits k t):Bits k (rt t b):=h.of_le (Ek hb)
theorem dY{k:Nat}{t b:Int}(hb:b≠0)(h:Bits k b):Bits k (rb t b):=h.of_le (EA hb)
theorem oo:¬(("plus":Str)="bottom")/\¬(("plus":Str)="top"):=⟨by decide +kernel,by decide +kernel⟩
theorem iq:¬(("minus":Str)="bottom")/\¬(("minus":Str)="top"):=⟨by decide +kernel,by decide +kernel⟩
theorem dZ:¬(("times":Str)="bottom")/\¬(("times":Str)="top"):=⟨by decide +kernel,by decide +kernel⟩
def xJ(C:Addr):Sp:=λvs H Q _=>∃(l r:Addr) (l1 l2 r1 r2 pl pc:Int) (i j n:Nat),vs=[.ref l,.ref r,.int pl,.int pc]/\RA C H l l1 l2/\RA C H r r1 r2/\0<l2/\0<r2/\0<pc/\Bits i l1/\Bits i l2/\Bits j r1/\Bits j r2/\Bits n pl/\Bits n pc/\i+(j+n)<=9000 /\
 ∀(x:Addr) (H':Hp) (x1 x2:Int),Same H H'->H x=none->RA C H' x x1 x2->0<x2->x1*(l2*r2*pc)=(l1*r2*pc+r1*l2*pl)*x2->Bits (i+(j+n)+1) x1->Bits (i+(j+n)+1) x2->Nat.gcd x1.natAbs x2.natAbs=1->Q (.ref x) H'
theorem GL(F:Fun K "along" "along" rD f fd)(T:Txt K mg)(R:RCI K mg C)(vO:MCal P w K mg base 4 C "plus" ["self","other"] (pM C) KW KF)(g6:MCal P w K mg base 4 C "times" ["self","other"] (jN C) oT oQ)(cc:KCal P w K mg base 2 C "Ratio" ["self","top","bottom"] (da C) dN dM dO [.int 1]):FnOk P w K mg base CX0 5 f fd ["low","reach","place","pieces"] (xJ C):=by
 obtain⟨vA,sZ,ve⟩:=vO;obtain⟨fj,fb,fi⟩:=g6;obtain⟨bC,bz,bj,b9,cF,cD⟩:=cc;refine F.ok D7 (λvs H Q E h=>?_) (λcdv A outer s H vs Q E hr h=>?_)
 ·obtain⟨l,r,l1,l2,r1,r2,pl,pc,i,j,n,rfl,_⟩:=h;rfl
 ·obtain⟨l,r,l1,l2,r1,r2,pl,pc,i,j,n,rfl,hL,hR,hl2,hr2,hpc,bl1,bl2,br1,br2,bpl,bpc,hijn,k⟩:=h;refine⟨_,(ak (av (cW (pv 0) R.cl sZ vA (hr.mono) ve .nil aj (aa (cW (pv 1) R.cl fb fj (hr.mono) fi .nil aj (aa (b5 bz bC (hr.mono) rfl bj b9 .nil aj (aa (pv 2) (aa (pv 3) ac))) ac)) ac)))),?_⟩;obtain⟨dl,hl⟩:=id hL;obtain⟨dr,hrr⟩:=id hR;have pc0:pc≠0:=Rf hpc;refine aQ ⟨_,rfl,l,dl,_,rfl,hl,cZ _ _ oo.1 oo.2,_,rfl,r,dr,_,rfl,hrr,cZ _ _ dZ.1 dZ.2,_,rfl,_,rfl,cI pc0 (bpc.mono (by omega)) λxa H1 s1 ha hRa=>?_⟩;have a0:0<rb pl pc:=c7 pc0;have ba1:Bits n (rt pl pc):=ee pc0 bpl;have ba2:Bits n (rb pl pc):=dY pc0 bpc;have ea:=ei (t:=pl) pc0;generalize rt pl pc=a1 at *
  generalize rb pl pc=a2 at *
  refine⟨r,xa,r1,r2,a1,a2,j,n,rfl,hR.same s1,hRa,br1.mono (by omega),br2,ba1.mono (by omega),ba2,by omega,hr2,a0,λxc H2 s2 hc hRc=>?_⟩;have d0:r2*a2≠0:=Rf (QC hr2 a0);have c0:0<rb (r1*a1) (r2*a2):=c7 d0;have bc1:Bits (j+n) (rt (r1*a1) (r2*a2)):=ee d0 (br1.mul ba1);have bc2:Bits (j+n) (rb (r1*a1) (r2*a2)):=dY d0 (br2.mul ba2);have ec:=ei (t:=r1*a1) d0;generalize rt (r1*a1) (r2*a2)=c1 at *
  generalize rb (r1*a1) (r2*a2)=c2 at *
  have t2:=s1.trans s2;refine⟨l,xc,l1,l2,c1,c2,i,j+n,rfl,hL.same t2,hRc,bl1.mono (by omega),bl2,bc1.mono (by omega),bc2,hijn,hl2,c0,λxx H3 s3 hx hRx=>?_⟩;have x0:l2*c2≠0:=Rf (QC hl2 c0);refine k xx H3 _ _ (t2.trans s3) (t2.free hx) hRx (c7 x0) (ME a0 c0 ea ec (ei x0)) ?_ ?_ (ie x0)
  ·refine(ee x0 ?_);exact Bits.add (bl1.mul bc2) ((bc1.mul bl2).mono (by omega))
  ·exact(dY x0 (bl2.mul bc2)).mono (by omega)
theorem Hv{i j:Nat}{a b c:Int}{l:List Int}(hl:AllB i l)(ha:Bits j a)(hb:Bits j b)(hc:Bits (i+j) c):AllB (i+j+1) (mb a b c l):=AllB.of_cf λn=>by
 rw[jr];refine Bits.add ?_ ?_
 ·exact(ha.neg.mul (hl.cf n)).mono (by omega)
 ·split
  ·exact hc
  ·exact(hb.mul (hl.cf (n-1))).mono (by omega)
theorem wB{kv j:Nat}{m s0 s1:Int}(hm:Bits j m)(h0:Bits j s0)(h1:Bits j s1):∀{l:List Int},AllB kv l->AllB (kv+(j+1)*l.length+1) (cq m s0 s1 l)
 | [],_=>AllB.nil
 |v::l,h=>by
  have ih:=wB hm h0 h1 (l:=l) λx hx=>h x (QJ _ hx)
  have hv:=h v (QN ..)
  have:=Hv (c:=v*m^l.length) ih h0.neg h1 ((hv.mul (jt hm l.length)).mono (by
   have:(j+1)*l.length=j*l.length+l.length:=by rw[Nat.add_mul,Nat.one_mul]
   omega))
  refine AllB.mono this ?_;rw[Rb,Nat.mul_add,Nat.mul_one];omega
theorem Df{a b c:Int}{l:List Int}(hne:l≠[])(hT:Tr (mb a b c l)):iJ (af l [-a,b]) (trim [c])=mb a b c l:=by
 refine mE (fX _) hT λk=>?_
 unfold iJ;rw[gN,iG,gN,QZ,Hm hne,jr,jr];rcases k with _ |k
 ·show _+0+c=_+c;omega
 ·rw[if_neg (by omega),if_neg (by omega)];show _+cf [] k=_;rw[cK];omega
theorem CF{m s0 s1:Int}(hs:0<s1){l:List Int}(hne:l≠[])(hl:Tr l):Tr (cq m s0 s1 l):=by
 have h1:=wA m s0 s1 l;have hlen:=jL m s0 s1 l;have hp:0<l.length:=QG.mpr hne;have h2:cf l (l.length-1)≠0:=hl _ (by omega);intro n hn;have:n=l.length-1:=by omega
 subst this;rw[h1];exact QU h2 (Rf (Rl hs))
theorem CK{l:List Int}(hl:Tr l){i:Nat}(h:i<l.length):Tr (l.drop i):=by
 intro n hn;rw[Rr]at hn
 have e:cf (l.drop i) n=cf l (i+n):=by unfold cf;simp[List.getD]
 rw[e];exact hl _ (by omega)
def wS(C:Addr):Sp:=λvs H Q _=>∃(a l r:Addr) (ns:List Int) (l1 l2 r1 r2:Int),vs=[.ref a,.ref l,.ref r]/\H a=some (.lst (ns.map V.int))/\RA C H l l1 l2/\RA C H r r1 r2/\Tr ns/\ns≠[]/\ns.length<=12/\AllB 1000 ns/\0<l2/\0<r1/\0<r2/\Bits 1400 l1/\Bits 1400 l2/\Bits 2900 r1/\Bits 2900 r2 /\
 ∀m s0 s1:Int,0<m->s0*l2=l1*m->s1*r2=r1*m->0<s1->AllB 60000 (cq m s0 s1 ns)->mkL H Q (cq m s0 s1 ns)
theorem FL(F:Fun K "stretched" "stretched" qr f fd)(T:Txt K mg)(R:RCI K mg C)(vH:Cal P w K mg base 2 "shared" ["row"] (pL K) KO Kx)(Ol:Cal P w K mg base 2 "added" ["first","second"] (nF K iJ) Qk Pf)(N4:Cal P w K mg base 1 "multiplied" ["first","second"] xr P4 OZ)(jE:Cal P w K mg base 1 "poly" ["row"] (kP K) uA um):FnOk P w K mg base CX0 3 f fd ["row","low","reach"] (wS C):=by
 obtain⟨vw,tz,tT,u3⟩:=vH;obtain⟨Nt,Ix,JG,Mr⟩:=Ol;obtain⟨Nc,Id,Jr,Mb⟩:=N4;obtain⟨jA,i9,jf,jv⟩:=jE;refine F.ok sc_stretched (λvs H Q E h=>?_) (λcdv A outer s H vs Q E hr h=>?_)
 ·obtain⟨a,l,r,ns,l1,l2,r1,r2,rfl,_⟩:=h;rfl
 ·obtain⟨a,l,r,ns,l1,l2,r1,r2,rfl,hA,⟨dl,hL⟩,⟨dr,hR⟩,hT,hne,hln,hbn,hl2,hr1,hr2,bl1,bl2,br1,br2,k⟩:=h
  refine⟨_,(ag (ao (i:=3) sc_stretched.nd rfl (Or.inl rfl) (ai de (ai aJ (aR (K:=K) rfl (pv 1) rfl) (aR (K:=K) rfl (pv 2) rfl)) (aq vw (hr.mono) rfl tz tT u3 .nil aj (aa (bK (aa (aR (K:=K) rfl (pv 1) rfl) (aa (aR (K:=K) rfl (pv 2) rfl) ac))) ac))))
   (ag (ao (i:=4) sc_stretched.nd rfl (Or.inl rfl) (ai aJ (aR (K:=K) rfl (pv 1) rfl) (ai de (pv 3) (aR (K:=K) rfl (pv 1) rfl))))
   (ag (ao (i:=5) sc_stretched.nd rfl (Or.inl rfl) (ai aJ (aR (K:=K) rfl (pv 2) rfl) (ai de (pv 3) (aR (K:=K) rfl (pv 2) rfl))))
   (ag (ao (i:=6) sc_stretched.nd rfl (Or.inl rfl) (bK ac))
   (ag (ao (i:=7) sc_stretched.nd rfl (Or.inl rfl) ad)
   (ag (c8 PassesOwn.never rfl (sE rfl T.reversed_ (aa (pv 0) ac)) (aU (i:=8) sc_stretched.nd rfl (Or.inl rfl))
     (ag (ao (i:=6) sc_stretched.nd rfl (Or.inl rfl) (aq Nt (hr.mono) rfl Ix JG Mr .nil aj (aa (aq Nc (hr.mono) rfl Id Jr Mb .nil aj (aa (pv 6) (aa (bK (aa (pv 4) (aa (pv 5) ac))) ac))) (aa (aq jA (hr.mono) rfl i9 jf jv .nil aj (aa (bK (aa (ai aJ (pv 8) (pv 7)) ac)) ac)) ac))))
       (ak (ao (i:=7) sc_stretched.nd rfl (Or.inl rfl) (ai aJ (pv 7) (pv 3))))))
   (ak (av (pv 6))))))))),?_⟩
  obtain⟨l',r',pl',pr',pg,el,er,em,e1,e2,pm⟩:=LL hl2 hr2 (g:=aB [l2,r2]) (by show Nat.gcd (Nat.gcd 0 l2.natAbs) r2.natAbs=_;rw[Sy]);have bg:Bits 9000 ((aB [l2,r2]:Nat):Int):=Bits.mono (j:=1400) (bl2.of_le (by rw[Q2];exact Nat.le_of_dvd (by omega) (by show Nat.gcd (Nat.gcd 0 l2.natAbs) r2.natAbs∣_;rw[Sy];exact R6 _ _))) (by decide)
  have bl':Bits 1400 l':=bl2.of_le (by
   rw[el,QR]
   exact Sw _ (by omega))
  have br':Bits 2900 r':=br2.of_le (by
   rw[er,QR]
   exact Sw _ (by omega))
  refine aw ⟨_,rfl,l,C,dl,_,_,rfl,hL,R.cl,R.nB,cs _ _,_,rfl,r,C,dr,_,_,rfl,hR,R.cl,R.nB,cs _ _,_,_,rfl,rfl,⟨bl2.mono,br2.mono⟩,?_⟩;refine⟨_,rfl,l,C,dl,_,_,rfl,hL,R.cl,R.nB,cs _ _,_,rfl,r,C,dr,_,_,rfl,hR,R.cl,R.nB,cs _ _,by show 2<=sizeLine;decide,λp0 hp0=>?_⟩;have s0':=Same.upd_new (o:=.lst [V.int l2,V.int r2]) hp0;refine⟨p0,[l2,r2],rfl,SqL.of au,_,_,rfl,rfl,⟨pg,bg⟩,?_⟩;generalize upd H p0 (.lst [V.int l2,V.int r2])=H0 at s0' ⊢
  dsimp only
  rw[em];refine aw ⟨_,rfl,l,C,dl,_,_,rfl,s0' _ _ hL,R.cl,R.nT,df _ _,_,rfl,_,rfl,l,C,dl,_,_,rfl,s0' _ _ hL,R.cl,R.nB,cs _ _,_,_,rfl,rfl,⟨hl2,bl2.mono⟩,?_⟩;dsimp only
  rw[e1];refine⟨_,_,rfl,rfl,⟨bl1.mono,br'.mono⟩,?_⟩;refine aw ⟨_,rfl,r,C,dr,_,_,rfl,s0' _ _ hR,R.cl,R.nT,df _ _,_,rfl,_,rfl,r,C,dr,_,_,rfl,s0' _ _ hR,R.cl,R.nB,cs _ _,_,_,rfl,rfl,⟨hr2,br2.mono⟩,?_⟩;dsimp only
  rw[e2];refine⟨_,_,rfl,rfl,⟨br1.mono,bl'.mono⟩,?_⟩;have q0:l1*r'*l2=l1*(l2*r'):=by grind
  have q1:r1*l'*r2=r1*(l2*r'):=by
   calc r1*l'*r2=r1*l'*(((aB [l2,r2]:Nat):Int)*r'):=by rw[<- er]
    _=r1*((((aB [l2,r2]:Nat):Int)*l')*r'):=by grind
    _=r1*(l2*r'):=by rw[<- el]
  have q2:0<r1*l':=QC hr1 pl';have bm:Bits 4300 (l2*r'):=bl2.mul br';have bs0:Bits 4300 (l1*r'):=bl1.mul br';have bs1:Bits 4300 (r1*l'):=br1.mul bl';dsimp only
  generalize l2*r'=m at *
  generalize l1*r'=s0 at *
  generalize r1*l'=s1 at *
  have sb:∀{l:List Int},AllB 1000 l->l.length<=12->AllB 60000 (cq m s0 s1 l):=λ{l} h hl=>(wB bm bs0 bs1 h).mono (by omega)
  refine aw ⟨QH _,λp1 hp1=>?_⟩;have s1':=s0'.then_new (o:=.lst []) hp1;have h1:upd H0 p1 (.lst []) p1=some (.lst []):=au;have f1:H p1=none:=s0'.free hp1;generalize upd H0 p1 (.lst [])=H1 at s1' h1 ⊢
  refine aw ?_;have hl:(ns.map V.int).length=ns.length:=QB _;refine⟨_,rfl,a,_,rfl,SqL.of (s1' _ _ hA),ug (K:=K) (a:=a) (xs:=ns.map V.int) (λi σ' H'=>∃(p:Addr) (z:Option V),σ'=[some (.ref a),some (.ref l),some (.ref r),some (.int m),some (.int s0),some (.int s1),some (.ref p),some (.int (m^i)),z]/\Same H H'/\H p=none/\H' p=some (.lst ((cq m s0 s1 (ns.drop (ns.length-i))).map V.int))) ⟨p1,none,by rw[RG];rfl,s1',f1,by rw[Rv,List.drop_length];exact h1⟩ ?_ ?_ ?_⟩
  ·rintro i σ' H' _ ⟨p,z,rfl,sm,_⟩;exact SqL.of (sm _ _ hA)
  ·rintro i x σ' H2 hi hx ⟨p,z,rfl,s2,fp,e2'⟩;rw[hl]at hi hx;obtain⟨c,ec,rfl,hc,_⟩:=gK hx;have bc:=hbn c hc;have hd:=A6 hi ec;have len:(ns.drop (ns.length-i)).length=i:=by rw[Rr];omega
   have hbd:AllB 1000 (ns.drop (ns.length-i)):=λx hx=>hbn x (S4 hx)
   have aF:=sb hbd (by omega);have lF:(cq m s0 s1 (ns.drop (ns.length-i))).length=i:=by rw[jL,len]
   have bP:Bits 60000 (m^i):=(jt bm i).mono (by omega)
   have eF:iJ (af (cq m s0 s1 (ns.drop (ns.length-i))) [s0,s1]) (trim [c*m^i])=cq m s0 s1 (ns.drop (ns.length-(i+1))):=by
    have hT':Tr (cq m s0 s1 (ns.drop (ns.length-(i+1)))):=CF q2 (by rw[hd];simp) (CK hT (by omega));rw[hd]at hT' ⊢
    have hT2:Tr (mb (-s0) s1 (c*m^i) (cq m s0 s1 (ns.drop (ns.length-i)))):=by have:cq m s0 s1 (c::ns.drop (ns.length-i))=mb (-s0) s1 (c*m^(ns.drop (ns.length-i)).length) (cq m s0 s1 (ns.drop (ns.length-i))):=rfl;rw[this,len]at hT';exact hT'
    show _=mb (-s0) s1 (c*m^(ns.drop (ns.length-i)).length) (cq m s0 s1 (ns.drop (ns.length-i)));rw[len];by_cases hi0:i=0
    ·subst hi0;have e0:cq m s0 s1 (ns.drop (ns.length-0))=[]:=by rw[Rv,List.drop_length];rfl
     rw[e0]at hT2 ⊢;refine mE (fX _) hT2 λk=>?_
     unfold iJ;rw[gN,iG,aN,gN,QZ];show 0+_=_;rw[Ru];rfl
    ·have hn':cq m s0 s1 (ns.drop (ns.length-i))≠[]:=λz=>by rw[z]at lF;exact hi0 lF.symm
     have:=Df (a := -s0) (b:=s1) (c:=c*m^i) hn' hT2;rw[Int.neg_neg]at this;exact this
   show cM (iO _ (jl 6)) _ _ _ _
   have bs:AllB 4300 [s0,s1]:=λx hx=>by
    simp only[QK,SZ,or_false]at hx;rcases hx with rfl |rfl
    ·exact bs0
    ·exact bs1
   generalize cq m s0 s1 (ns.drop (ns.length-i))=Fs at *
   refine aw ⟨_,rfl,_,rfl,_,rfl,by show 2<=sizeLine;decide,λp3 hp3=>?_⟩;have s3:=s2.then_new (o:=.lst ([s0,s1].map V.int)) hp3;have e3:upd H2 p3 (.lst ([s0,s1].map V.int)) p=some (.lst (Fs.map V.int)):=(Same.upd_new hp3) _ _ e2';have h3:upd H2 p3 (.lst ([s0,s1].map V.int)) p3=some (.lst ([s0,s1].map V.int)):=au;refine⟨p,p3,Fs,[s0,s1],rfl,e3,h3,by omega,by show 2<=1000000;decide,aF.mono,bs.mono,λp4 H4 s4 hp4 e4=>?_⟩;have t4:=s3.trans s4;refine⟨_,rfl,_,rfl,_,_,rfl,rfl,⟨bc.mono,bP.mono⟩,by show 1<=sizeLine;decide,λp5 hp5=>?_⟩;have s5:=t4.then_new (o:=.lst ([c*m^i].map V.int)) hp5;have e5:upd H4 p5 (.lst ([c*m^i].map V.int)) p4=some (.lst ((af Fs [s0,s1]).map V.int)):=(Same.upd_new hp5) _ _ e4;have h5:upd H4 p5 (.lst ([c*m^i].map V.int)) p5=some (.lst ([c*m^i].map V.int)):=au;refine⟨p5,[c*m^i],rfl,SqL.of h5,λp6 H6 s6 hp6 e6=>?_⟩;have t6:=s5.trans s6;refine⟨p4,p6,af Fs [s0,s1],trim [c*m^i],rfl,SqL.of (s6 _ _ e5),SqL.of e6,?_,?_,λp7 H7 s7 hp7 e7=>?_⟩
   ·have:(af Fs [s0,s1]).length<=1000:=by
     unfold af;split
     ·exact QH _
     ·rw[QB,RO];show _+2-1<=_;omega
    omega
   ·have:=tG [c*m^i];have:(trim [c*m^i]).length<=1:=this;omega
   rw[eF]at e7;refine cG ⟨_,rfl,_,rfl,_,_,rfl,rfl,⟨bP.mono,bm.mono⟩,?_⟩;refine⟨p7,some (.int c),?_,t6.trans s7,t6.free hp7,e7⟩;rw[Q4];rfl
  ·rintro σ' H' ⟨p,z,rfl,sm,fp,e⟩;rw[hl,Sc,RL]at e;exact⟨_,rfl,k m s0 s1 pm q0 q1 q2 (sb hbn hln) p H' sm fp e⟩
def wV:Sp:=λvs H Q _=>∃(a:Addr) (ns:List Int),vs=[.ref a]/\H a=some (.lst (ns.map V.int))/\ns.length<=1000/\AllB 500000 ns/\mkL H Q (cP ns)
theorem FO(F:Fun K "spread" "spread" qv f fd)(T:Txt K mg):FnOk P w K mg base CX0 1 f fd ["row"] wV:=by
 refine F.ok sc_spread (λvs H Q E h=>?_) (λcdv A outer s H vs Q E hr h=>?_)
 ·obtain⟨a,ns,rfl,_⟩:=h;rfl
 ·obtain⟨a,ns,rfl,hA,hn,hb,k⟩:=h;have big:=sizeLine_eq
  refine⟨_,(ag (ao (i:=1) sc_spread.nd rfl (Or.inl rfl) (bK ac))
   (ag (ao (i:=2) sc_spread.nd rfl (Or.inl rfl) ad)
   (ag (c8 PassesOwn.never rfl (sE rfl T.reversed_ (aa (pv 0) ac)) (aU (i:=3) sc_spread.nd rfl (Or.inl rfl))
     (ag (eO (fF PySem.F.plainAttrs_list PySem.F.slot_list_append PySem.F.type_list_append iw (pv 1) (aa (ai aJ (pv 2) (pv 3)) ac)))
       (ak (ao (i:=2) sc_spread.nd rfl (Or.inl rfl) (ai aJ ad (pv 2))))))
   (ag (eO (sF PySem.F.plainAttrs_list PySem.F.slot_list_reverse PySem.F.type_list_reverse zw (pv 1)))
   (ak (av (pv 1))))))),?_⟩
  refine aw ⟨QH _,λp1 hp1=>?_⟩;have s1':=Same.upd_new (o:=.lst []) hp1;have h1:upd H p1 (.lst []) p1=some (.lst []):=au;generalize upd H p1 (.lst [])=H1 at s1' h1 ⊢
  refine aw ?_;have hl:(ns.map V.int).length=ns.length:=QB _;refine⟨_,rfl,a,_,rfl,SqL.of (s1' _ _ hA),ug (K:=K) (a:=a) (xs:=ns.map V.int) (λi σ' H'=>∃z:Option V,σ'=[some (.ref a),some (.ref p1),some (.int (2^i)),z]/\Same H H'/\H' p1=some (.lst ((cP (ns.drop (ns.length-i))).reverse.map V.int))) ⟨none,rfl,s1',by rw[Rv,List.drop_length];exact h1⟩ ?_ ?_ ?_⟩
  ·rintro i σ' H' _ ⟨z,rfl,sm,_⟩;exact SqL.of (sm _ _ hA)
  ·rintro i x σ' H2 hi hx ⟨z,rfl,s2,h2⟩;rw[hl]at hi hx;obtain⟨c,ec,rfl,hc,_⟩:=gK hx;have hd:=A6 hi ec;have len:(ns.drop (ns.length-i)).length=i:=by rw[Rr];omega
   show cM (nj _) _ _ _ _;refine gq ⟨_,rfl,.inl ⟨rfl,_,SqL.of h2⟩,_,rfl,_,rfl,_,_,rfl,rfl,⟨(lC (n:=i) (k:=1001) (by omega)).mono,(hb c hc).mono⟩,p1,_,_,rfl,rfl,h2,by rw[QB,List.length_reverse,np,len];omega,?_⟩;refine cG ⟨_,rfl,_,_,rfl,rfl,⟨d9,(lC (n:=i) (k:=1001) (by omega)).mono⟩,?_⟩;refine⟨some (.int c),?_,eu s2 hp1,?_⟩
   ·show[some (V.ref a),some (V.ref p1),some (V.int (2*2^i)),some (V.int c)]=_;rw[Q4,QT]
   ·rw[au,hd,Hy];show some (HO.lst (((cP (ns.drop (ns.length-i))).reverse++[2^i*c]).map V.int))=some (HO.lst ((2^(ns.drop (ns.length-i)).length*c::cP (ns.drop (ns.length-i))).reverse.map V.int));rw[List.reverse_cons,len]
  ·rintro σ' H2 ⟨z,rfl,s2,h2⟩;rw[hl,Sc,RL]at h2;dsimp only
   refine gq ⟨_,rfl,.inl ⟨rfl,_,SqL.of h2⟩,p1,_,rfl,rfl,h2,?_⟩;refine⟨_,rfl,k p1 _ (eu s2 hp1) hp1 ?_⟩;rw[au,<- List.map_reverse,List.reverse_reverse]
noncomputable def d7(m:List Int)(j:Nat):List Int:=m.take (m.length-1-j)++suf (m.drop (m.length-1-j))
theorem sI:∀(i:Nat) (m:List Int),eo i m=m.take i++suf (m.drop i)
 |0,m=>by rw[List.take_zero,RL];rfl
 |i+1,[]=>rfl
 |i+1,c::m=>by show c::eo i m=c::(m.take i++suf (m.drop i));rw[sI i m]
theorem Ka(m:List Int)(j:Nat):(d7 m j).length=m.length:=by unfold d7;rw[QO,jK,<- QO,List.take_append_drop]
theorem J8(m:List Int):d7 m 0=m:=by
 unfold d7;rw[Rv];cases hd:m.drop (m.length-1)with
 |nil =>have:m.length-1=m.length\/True:=.inr trivial;have h1:m.length<=m.length-1:=List.drop_eq_nil_iff.mp hd;have:m=[]:=Sf (by omega);subst this;rfl
 |cons c r =>have hl:=congrArg List.length hd;rw[Rr,Rb]at hl;have:r=[]:=Sf (by omega);subst this;show _++[c+0]=_;rw[Rk,<- hd,List.take_append_drop]
theorem Kb(m:List Int){i:Nat}(h:i+1<=m.length):d7 m (m.length-1-i)=eo i m:=by
 unfold d7;rw[sI];have:m.length-1-(m.length-1-i)=i:=by omega
 rw[this]
theorem J9(m:List Int){j:Nat}(h:j+2<=m.length):(d7 m j).set (m.length-2-j) (cf (d7 m j) (m.length-2-j)+cf (d7 m j) (m.length-1-j))=d7 m (j+1):=by
 have e1:m.length-1-(j+1)=m.length-2-j:=by omega
 have e2:m.length-1-j=m.length-2-j+1:=by omega
 have hk:m.length-2-j<m.length:=by omega
 unfold d7;rw[e1,e2];generalize m.length-2-j=k at hk e2
 have hd:m.drop k=m[k]::m.drop (k+1):=S8 hk;have ht:m.take (k+1)=m.take k++[m[k]]:=by rw[RE,List.getElem?_eq_getElem hk];rfl
 rw[hd,ht];have lt:(m.take k).length=k:=by rw[Rn];omega
 have c1:cf (m.take k++[m[k]]++suf (m.drop (k+1))) k=m[k]:=by rw[RW,mL (by omega),lt,Sc];rfl
 have c2:cf (m.take k++[m[k]]++suf (m.drop (k+1))) (k+1)=(suf (m.drop (k+1))).headD 0:=by
  rw[mL (by rw[QO,lt];exact QD _),QO,lt];show cf _ (k+1-(k+1))=_;rw[Sc];cases suf (m.drop (k+1))with
  |nil=>rfl
  |cons _ _=>rfl
 rw[c1,c2];show _=m.take k++((m[k]+(suf (m.drop (k+1))).headD 0)::suf (m.drop (k+1)));rw[RW,List.set_append_right _ _ (by omega),lt,Sc];rfl
theorem wx{M:Nat}:∀{l:List Int},(∀x∈l,x.natAbs<=M)->∀x∈suf l,x.natAbs<=l.length*M
 | [],_,x,hx=>nomatch hx
 |v::l,h,x,hx=>by
  have ih:=wx (l:=l) λx hx=>h x (QJ _ hx)
  have hv:=h v (QN ..)
  have hh:((suf l).headD 0).natAbs<=l.length*M:=by
   cases hs:suf l with
   |nil=>show(0:Int).natAbs<=_;exact QH _
   |cons g r=>exact ih g (by rw[hs];exact QN ..)
  rw[Rb,Nat.add_mul,Nat.one_mul];rcases QK.mp hx with e |e
  ·subst e;exact QL (SS _ _) (QL (SX hv hh) (R8 (Nat.add_comm _ _)))
  ·exact QL (ih x e) (Nat.le_add_right _ _)
theorem Fp{i k:Nat}{m:List Int}(h:AllB i m)(hl:m.length<=16):AllB (i+4) (eo k m):=by
 rw[sI];refine AllB.app (λx hx=>(h x (S5 hx)).mono (by omega)) λx hx=>?_
 have h1:=wx (M:=2^i-1) (l:=m.drop k) (λy hy=>by have:y.natAbs<2^i:=h y (S4 hy);omega) x hx;have h2:(m.drop k).length*(2^i-1)<=16*(2^i-1):=Ro _ (by rw[Rr];omega);have h3:0<2^i:=RC (by decide);show x.natAbs<2^(i+4);have h4:2^(i+4)=2^i*16:=by rw[Nat.pow_add]
 omega
theorem zx{i:Nat}{m:List Int}(h:AllB i m)(hl:m.length<=16):∀n,AllB (i+4*n) (fH n m)
 |0=>h
 |n+1=>by have:=Fp (k:=n) (zx h hl n) (by rw[ou];exact hl);exact this.mono (by omega)
theorem Hr{i:Nat}{m:List Int}(h:AllB i m)(hl:m.length<=12):AllB (i+44) (lV m):=(zx h (by omega) _).mono (by omega)
theorem wH{i:Nat}:∀{m:List Int},AllB i m->m.length<=12->AllB (i+13) (cP m)
 | [],_,_=>AllB.nil
 |v::m,h,hl=>by
  have ih:=wH (m:=m) (λx hx=>h x (QJ _ hx)) (by rw[Rb]at hl;omega);intro x hx;rcases QK.mp hx with e |e
  ·subst e;have:=(lC (n:=m.length) (k:=13) (by rw[Rb]at hl;omega)).mul (h v (QN ..));exact this.mono (by omega)
  ·exact ih x e
def xt:Sp:=λvs H Q _=>∃(a:Addr) (ns:List Int),vs=[.ref a]/\H a=some (.lst (ns.map V.int))/\1<=ns.length/\ns.length<=1000/\mkL H Q (lV ns)
theorem qg(l:List Int)(k:Nat)(v:Int):(l.map V.int).set k (.int v)=(l.set k v).map V.int:=by rw[List.map_set]
theorem BX{l:List Int}{k:Nat}{j:Int}(e:j=(k:Int))(h:k<l.length):atI (l.map V.int) j=some (.int (cf l k)):=by subst e;refine ku ?_;rw[List.getElem?_map,List.getElem?_eq_getElem h];show some (V.int l[k])=_;rw[uR (List.getElem?_eq_getElem h)]
theorem Go(F:Fun K "moved" "moved" qS f fd)(T:Txt K mg)(fV:Cal P w K mg base 1 "degree" ["row"] iR mD mB):FnOk P w K mg base CX0 2 f fd ["row"] xt:=by
 obtain⟨dS,dI,dL,dR⟩:=fV;refine F.ok sc_moved (λvs H Q E h=>?_) (λcdv A outer s H vs Q E hr h=>?_)
 ·obtain⟨a,ns,rfl,_⟩:=h;rfl
 ·obtain⟨a,ns,rfl,hA,hn1,hn,k⟩:=h;have big:=sizeLine_eq
  refine⟨_,(ag (ao (i:=1) sc_moved.nd rfl (Or.inl rfl) (eT (uT (K:=K) rfl) (by rfl) T.list_ PyProof.Rows.boot_list (aa (pv 0) ac)))
   (ag (c8 PassesOwn.never rfl (ii rfl T.range_ (aa (aq dS (hr.mono) rfl dI dL dR .nil aj (aa (pv 0) ac)) ac)) (aU (i:=2) sc_moved.nd rfl (Or.inl rfl))
     (ak (c8 PassesOwn.never rfl (yP rfl T.range_ (aa (ai ca (aq dS (hr.mono) rfl dI dL dR .nil aj (aa (pv 0) ac)) ad) (aa (ai ca (pv 2) ad) (aa (bH bF ad) ac)))) (aU (i:=3) sc_moved.nd rfl (Or.inl rfl))
       (ak (gv (ai bQ (aI (cC (K:=K) rfl) (pv 1) (pv 3) (λ_ _=>rfl)) (aI (cC (K:=K) rfl) (pv 1) (ai bQ (pv 3) ad) (λ_ _=>rfl))) (lG (pv 1) (pv 3) ld))))))
   (ak (av (pv 1))))),?_⟩
  refine aw ⟨_,rfl,a,_,rfl,.inl (SqL.of hA),λp hp=>?_⟩;have s1':=Same.upd_new (o:=.lst (ns.map V.int)) hp;have h1:upd H p (.lst (ns.map V.int)) p=some (.lst (ns.map V.int)):=au;generalize upd H p (.lst (ns.map V.int))=H1 at s1' h1 ⊢
  have hl:(ns.map V.int).length=ns.length:=QB _;have ed:((ns.map V.int).length:Int)-1=((ns.length-1:Nat):Int):=by rw[hl];omega
  refine⟨_,rfl,a,_,rfl,s1' _ _ hA,_,rfl,(by rw[ed];omega),(by rw[ed];omega),?_⟩;rw[ed];refine kg (lo:=0) (n:=ns.length-1) (λi σ' H'=>∃z2 z3:Option V,σ'=[some (.ref a),some (.ref p),z2,z3]/\Same H H'/\H' p=some (.lst ((fH i ns).map V.int))) ⟨none,none,rfl,s1',h1⟩ ?_ ?_
  ·rintro i σ' H2 hi ⟨z2,z3,rfl,s2,h2⟩;have lm:(fH i ns).length=ns.length:=ou _ _;generalize hM:fH i ns=M at h2 lm
   obtain⟨r,er⟩:∃r,ns.length=r+2:=⟨ns.length-2,by omega⟩;have er1:ns.length-1=r+1:=by rw[er];rfl
   have er2:ns.length-2=r:=by rw[er];rfl
   have hr':r+2<=100000:=by rw[<- er];omega
   rw[er1]at hi;refine⟨_,rfl,a,_,rfl,s2 _ _ hA,_,_,rfl,rfl,_,rfl,_,_,rfl,rfl,_,rfl,(r:Int),(i:Int)-1,?_,⟨by omega,by omega,by omega,by omega⟩,?_⟩
   ·rw[ed,er1];have e1:((r+1:Nat):Int)-1=(r:Int):=by omega
    have e2:(0:Int)+(i:Int)-1=(i:Int)-1:=by omega
    dsimp only
    rw[e1,e2]
   have en:((r:Int)-((i:Int)-1)).toNat=r+1-i:=by omega
   rw[en];refine AD (λj σ' H'=>∃z3:Option V,σ'=[some (.ref a),some (.ref p),some (.int (0+(i:Int))),z3]/\Same H H'/\H' p=some (.lst ((d7 M j).map V.int))) ⟨z3,rfl,s2,by rw[J8];exact h2⟩ ?_ ?_
   ·rintro j σ' H3 hj ⟨z3,rfl,s3,h3⟩;have hj':j<=r:=by omega
    have lh:(d7 M j).length=r+2:=by rw[Ka,lm,er]
    have hs:=J9 M (j:=j) (by rw[lm,er];omega);rw[lm,er1,er2]at hs;have k1:(r:Int)+(j:Int) * -1=((r-j:Nat):Int):=by omega
    have k2:(r:Int)+(j:Int) * -1+1=((r+1-j:Nat):Int):=by omega
    refine⟨_,rfl,_,rfl,p,_,_,_,rfl,rfl,SqL.of h3,BX k1 (by omega),_,rfl,_,rfl,_,_,rfl,rfl,p,_,_,_,rfl,rfl,SqL.of h3,BX k2 (by omega),_,_,rfl,rfl,_,rfl,_,rfl,p,_,_,r-j,rfl,rfl,h3,?_,?_⟩
    ·exact mq k1 (by rw[QB];omega)
    refine⟨_,rfl,eu s3 hp,?_⟩;rw[au,qg,hs]
   ·rintro σ' H3 ⟨z3,rfl,s3,h3⟩;refine⟨_,_,rfl,s3,?_⟩
    have:d7 M (r+1-i)=fH (i+1) ns:=by rw[<- er1,<- lm,Kb M (by rw[lm,er];omega),<- hM];rfl
    rw[<- this];exact h3
  ·rintro σ' H2 ⟨z2,z3,rfl,s2,h2⟩;exact⟨_,rfl,k p H2 s2 hp h2⟩
structure RootB(ns:List Int)(ε:Int)(up:Int->Int->Prop):Prop where
 e1:ε=1\/ε = -1
 r1:∀p c,0<p->p<=c->up p c->sg (hv p c ns) = -ε
 r2:∀p c,0<p->p<=c->¬up p c->sg (hv p c ns)=ε\/sg (hv p c ns)=0
 r3:∀p c p' c',0<p->p<=c->0<p'->p'<=c'->¬up p c->p*c'<p'*c->sg (hv p' c' ns)=ε
 sc:∀p c,0<c->(up (2*p) (2*c)↔up p c)
 top:¬up 1 1
theorem J3(p c:Int)(l:List Int):sg (hv (2*p) (2*c) l)=sg (hv p c l):=by rw[oH];exact eN (Rl (by decide))
def xA:Sp:=λvs H Q _=>∃(a:Addr) (ns:List Int) (e:Int) (n:Nat) (ε:Int) (up:Int->Int->Prop),vs=[.ref a,.int e,.int n]/\H a=some (.lst (ns.map V.int))/\1<=ns.length/\ns.length<=12/\AllB 60000 ns/\n<=4000/\RootB ns ε up/\e=sg (hv 1 1 ns) /\
 ∀(p:Addr) (H':Hp) (pl:Nat),Same H H'->H p=none->H' p=some (.tup [.int pl,.int (2^n)])->pl<2^n->(pl=0\/up pl (2^n))->¬up ((pl:Int)+1) (2^n)->Q (.ref p) H'
theorem Gx(F:Fun K "halved" "halved" q8 f fd)(T:Txt K mg)(NM:Cal P w K mg base 1 "spread" ["row"] wV PF OK)(jD:Cal P w K mg base 1 "whole_sign" ["value"] kQ uz ul)(N5:Cal P w K mg base 2 "moved" ["row"] xt P5 O0):FnOk P w K mg base CX0 3 f fd ["row","end","steps"] xA:=by
 obtain⟨MU,HN,Jd,LV⟩:=NM;obtain⟨jz,i8,je,ju⟩:=jD;obtain⟨Nd,Ie,Js,Mc⟩:=N5;refine F.ok sc_halved (λvs H Q E h=>?_) (λcdv A outer s H vs Q E hr h=>?_)
 ·obtain⟨a,ns,e,n,ε,up,rfl,_⟩:=h;rfl
 ·obtain⟨a,ns,e,n,ε,up,rfl,hA,h1n,hln,hbn,hn,hB,he,k⟩:=h
  refine⟨_,(ag (ao (i:=3) sc_halved.nd rfl (Or.inl rfl) ad)
   (ag (ao (i:=4) sc_halved.nd rfl (Or.inl rfl) ad)
   (ag (ao (i:=5) sc_halved.nd rfl (Or.inl rfl) (pv 1))
   (ag (ao (i:=6) sc_halved.nd rfl (Or.inl rfl) (pv 0))
   (ag (c8 PassesOwn.never rfl (ii rfl T.range_ (aa (pv 2) ac)) (aU (i:=7) sc_halved.nd rfl (Or.inl rfl))
     (ag (ao (i:=3) sc_halved.nd rfl (Or.inl rfl) (ai aJ ad (pv 3)))
       (ag (ao (i:=4) sc_halved.nd rfl (Or.inl rfl) (ai aJ ad (pv 4)))
       (ag (ao (i:=6) sc_halved.nd rfl (Or.inl rfl) (aq MU (hr.mono) rfl HN Jd LV .nil aj (aa (pv 6) ac)))
       (ag (ao (i:=8) sc_halved.nd rfl (Or.inl rfl) (aq jz (hr.mono) rfl i8 je ju .nil aj (aa (bX (LE (K:=K) rfl rfl) (by rfl) T.sum_ PyProof.Rows.boot_sum (aa (pv 6) ac)) ac)))
       (ak (aO (PW.pt (f6 (aG jX (pv 8) ad (aE _)) (fZ (aG jX (pv 8) (pv 5) (aE _)))))
         (ag (ao (i:=3) sc_halved.nd rfl (Or.inl rfl) (ai bQ (pv 3) ad))
           (ak (ao (i:=6) sc_halved.nd rfl (Or.inl rfl) (aq Nd (hr.mono) rfl Ie Js Mc .nil aj (aa (pv 6) ac)))))
         (ak (ao (i:=5) sc_halved.nd rfl (Or.inl rfl) (pv 8))))))))))
   (ak (av (du (aa (pv 3) (aa (pv 4) ac)))))))))),?_⟩
  refine aw ?_;refine aw ?_;refine aw ⟨_,rfl,?_⟩;refine aw ⟨_,rfl,?_⟩;refine⟨_,rfl,n,rfl,by omega,by omega,kg (lo:=0) (n:=n) (λi σ' H'=>∃(p:Addr) (pl:Nat) (L:List Int) (z7 z8:Option V),σ'=[some (.ref a),some (.int e),some (.int n),some (.int pl),some (.int (2^i)),some (.int (sg (hv ((pl:Int)+1) (2^i) ns))),some (.ref p),z7,z8]/\Same H H'/\H' p=some (.lst (L.map V.int))/\L.length=ns.length/\AllB (60000+60*i) L/\(∀p q:Int,2^i*hv p q L=hv (pl*q+p) (2^i*q) ns)/\pl<2^i/\(pl=0\/up pl (2^i))/\¬up ((pl:Int)+1) (2^i)) ⟨a,0,ns,none,none,by rw[he];rfl,Same.refl _,hA,rfl,hbn,λp q=>by rw[RG,QZ,QZ];show _=hv (0*q+p) q ns;rw[Q3,Ru],by decide,.inl rfl,by rw[RG];exact hB.top⟩ ?_ ?_⟩
  ·rintro i σ' H1 hi ⟨p,pl,L,z7,z8,rfl,s1,h1,lL,bL,hval,hpl,hup,hnup⟩;show cM (iO _ (jl 3)) _ _ _ _;have b2i:Bits 4002 ((2:Int)^i):=lC (by omega);have p2i:=jV i;have cpl:(pl:Int)<2^i:=by rw[iY];exact Su.mpr hpl
   have bpl:Bits 4002 (pl:Int):=b2i.of_le (by rw[iY];omega);refine aw ⟨_,rfl,_,_,rfl,rfl,⟨d9,bpl.mono⟩,?_⟩;refine aw ⟨_,rfl,_,_,rfl,rfl,⟨d9,b2i.mono⟩,?_⟩;refine aw ⟨_,rfl,p,L,rfl,h1,by omega,bL.mono (by omega),λp2 H2 s2 hp2 e2=>?_⟩;have t2:=s1.trans s2;have lS:(cP L).length=ns.length:=by rw[np,lL]
   have bS:AllB (60000+60*i+13) (cP L):=wH bL (by omega);have e2i:(2:Int)*2^i=2^(i+1):=by rw[Q4,QT]
   have vS:∀p q:Int,2^(i+1)*hv p q (cP L)=hv (((2*pl:Nat):Int)*q+p) (2^(i+1)*q) ns:=λp q=>by
    have h3:=hval p (2*q);rw[<- Aq]at h3;have h4:(2:Int)^(i+1)*hv p q (cP L)=2^i*(2*hv p q (cP L)):=by rw[Q4];grind
    rw[h4,h3]
    have h5:(pl:Int)*(2*q)+p=((2*pl:Nat):Int)*q+p:=by
     have:((2*pl:Nat):Int)=2*(pl:Int):=by omega
     rw[this];grind
    have h6:(2:Int)^i*(2*q)=2^(i+1)*q:=by rw[Q4];grind
    rw[h5,h6]
   refine aw ⟨_,rfl,p2,cP L,rfl,SqL.of e2,_,rfl,?_⟩;have p2i1:=jV (i+1)
   have ethere:sg (cP L).sum=sg (hv (((2*pl:Nat):Int)+1) (2^(i+1)) ns):=by have h3:=vS 1 1;rw[Q1,Q1]at h3;rw[<- Ao,<- h3,eN p2i1]
   have c2pl:(((2*pl:Nat):Int)+1)<=2^(i+1):=by rw[<- e2i];omega
   have hold:sg (hv ((pl:Int)+1) (2^i) ns)=sg (hv (2*((pl:Int)+1)) (2^(i+1)) ns):=by rw[<- e2i,J3]
   have plc:(pl:Int)+1<=2^i:=by omega
   generalize hth:sg (cP L).sum=th at ethere
   show kK _ _ _ _ _ _;have epl:(2:Int)*(pl:Int)=((2*pl:Nat):Int):=by omega
   have n2i:2^(i+1)=2*2^i:=by rw[Rz,RJ]
   refine dD (λσ' H'=>σ'=[some (.ref a),some (.int e),some (.int n),some (.int (2*(pl:Int))),some (.int (2*2^i)),some (.int (sg (hv ((pl:Int)+1) (2^i) ns))),some (.ref p2),some (.int (0+(i:Int))),some (.int th)]/\H2=H') ⟨by rw[<- hth];rfl,rfl⟩ ?_;rintro σ' H' ⟨rfl,rfl⟩;by_cases hu:up (((2*pl:Nat):Int)+1) (2^(i+1))
   ·
    have r1:=hB.r1 _ _ (by omega) c2pl hu;rw[<- ethere]at r1;have r2:=hB.r2 _ _ (by omega) plc hnup;have n0:th≠0:=by rcases hB.e1 with z |z<;>omega
    have n1:th≠sg (hv ((pl:Int)+1) (2^i) ns):=by rcases hB.e1 with z |z<;>rcases r2 with y |y<;>omega
    refine lj (dG ⟨_,rfl,_,_,rfl,rfl,_,rfl,dB (λ_=>?_) (λh0=>absurd h0 n0)⟩);refine⟨_,rfl,_,rfl,_,_,rfl,rfl,_,rfl,dB (λ_=>?_) (λh0=>absurd h0 n1)⟩;refine aw ⟨_,rfl,_,_,rfl,rfl,?_⟩;refine cG ⟨_,rfl,p2,cP L,rfl,e2,by omega,by omega,λp3 H3 s3 hp3 e3=>?_⟩;refine⟨p3,2*pl+1,lV (cP L),some (.int (0+(i:Int))),some (.int th),?_,t2.trans s3,e3,by rw[zy,lS],(Hr bS (by omega)).mono (by omega),λp q=>?_,by omega,.inr ?_,?_⟩
    ·have q1:(2:Int)*(pl:Int)+1=((2*pl+1:Nat):Int):=by omega
     have q2:((2*pl+1:Nat):Int)+1=2*((pl:Int)+1):=by omega
     rw[q2,<- hold,<- q1,<- e2i];rfl
    ·rw[J4,vS]
     have:((2*pl:Nat):Int)*q+(p+q)=((2*pl+1:Nat):Int)*q+p:=by
      have:((2*pl+1:Nat):Int)=((2*pl:Nat):Int)+1:=by omega
      rw[this];grind
     rw[this]
    ·exact hu
    ·have q2:((2*pl+1:Nat):Int)+1=2*((pl:Int)+1):=by omega
     rw[q2,<- e2i,hB.sc _ _ p2i];exact hnup
   ·
    have r2:=hB.r2 _ _ (by omega) c2pl hu;rw[<- ethere]at r2
    have r3:=hB.r3 _ _ ((pl:Int)+1) (2^i) (by omega) c2pl (by omega) plc hu (by
     have h7:(((2*pl:Nat):Int)+1)*2^i<(2*(pl:Int)+2)*2^i:=Rj (by omega) p2i;have h8:((pl:Int)+1)*2^(i+1)=(2*(pl:Int)+2)*2^i:=by rw[Q4];grind
     omega)
    have low:∃(p:Addr) (q:Nat) (L':List Int) (z7 z8:Option V),[some (V.ref a),some (V.int e),some (V.int n),some (V.int (2*(pl:Int))),some (V.int (2*2^i)),some (V.int th),some (V.ref p2),some (V.int (0+(i:Int))),some (V.int th)]=[some (.ref a),some (.int e),some (.int n),some (.int q),some (.int (2^(i+1))),some (.int (sg (hv ((q:Int)+1) (2^(i+1)) ns))),some (.ref p),z7,z8]/\Same H H2/\H2 p=some (.lst (L'.map V.int))/\L'.length=ns.length/\AllB (60000+60*(i+1)) L'/\(∀p q':Int,2^(i+1)*hv p q' L'=hv (q*q'+p) (2^(i+1)*q') ns)/\q<2^(i+1)/\(q=0\/up q (2^(i+1)))/\¬up ((q:Int)+1) (2^(i+1)):=by
     refine⟨p2,2*pl,cP L,some (.int (0+(i:Int))),some (.int th),by rw[e2i,epl,ethere],t2,e2,lS,bS.mono (by omega),vS,by omega,?_,hu⟩;rcases hup with z |z
     ·exact .inl (by omega)
     ·refine .inr ?_;rw[<- epl,<- e2i,hB.sc _ _ p2i];exact z
    by_cases n0:th=0
    ·refine lj (dG ⟨_,rfl,_,_,rfl,rfl,_,rfl,dB (λh0=>absurd n0 h0) (λ_=>?_)⟩);exact dX (cG ⟨_,rfl,low⟩)
    ·have n1:th=sg (hv ((pl:Int)+1) (2^i) ns):=by
      rcases r2 with z |z
      ·rw[z,r3]
      ·exact absurd z n0
     refine lj (dG ⟨_,rfl,_,_,rfl,rfl,_,rfl,dB (λ_=>?_) (λh0=>absurd h0 n0)⟩);refine⟨_,rfl,_,rfl,_,_,rfl,rfl,_,rfl,dB (λh0=>absurd n1 h0) (λ_=>?_)⟩;exact cG ⟨_,rfl,low⟩
  ·rintro σ' H1 ⟨p,pl,L,z7,z8,rfl,s1,h1,lL,bL,hval,hpl,hup,hnup⟩;dsimp only
   refine aQ ⟨_,rfl,_,rfl,by show 2<=sizeLine;decide,λp' hp'=>?_⟩;exact k p' _ pl (s1.then_new hp') (s1.free hp') au hpl hup hnup
structure RootU(ns:List Int)(l1 l2 h1 h2 ε:Int)(Up:Int->Int->Prop):Prop where
 e1:ε=1\/ε = -1
 r1:∀x1 x2,0<x2->l1*x2<x1*l2->x1*h2<=h1*x2->Up x1 x2->sg (hv x1 x2 ns) = -ε
 r2:∀x1 x2,0<x2->l1*x2<x1*l2->x1*h2<=h1*x2->¬Up x1 x2->sg (hv x1 x2 ns)=ε\/sg (hv x1 x2 ns)=0
 r3:∀x1 x2 y1 y2,0<x2->0<y2->l1*x2<x1*l2->y1*h2<=h1*y2->¬Up x1 x2->x1*y2<y1*x2->sg (hv y1 y2 ns)=ε
 sc:∀x1 x2 y1 y2,0<x2->0<y2->x1*y2=y1*x2->Up x1 x2->Up y1 y2
 low:Up l1 l2
 top:¬Up h1 h2
structure EndsG(k:Nat)(l1 l2 h1 h2:Int):Prop where
 l2p:0<l2
 h2p:0<h2
 bl1:Bits k l1
 bl2:Bits k l2
 bh1:Bits k h1
 bh2:Bits k h2
 lt:l1*h2<h1*l2
 gl:Nat.gcd l1.natAbs l2.natAbs=1
 gh:Nat.gcd h1.natAbs h2.natAbs=1
theorem EndsG.mono{j k:Nat}{l1 l2 h1 h2:Int}(e:EndsG j l1 l2 h1 h2)(h:j<=k:=by decide):EndsG k l1 l2 h1 h2:=⟨e.l2p,e.h2p,e.bl1.mono h,e.bl2.mono h,e.bh1.mono h,e.bh2.mono h,e.lt,e.gl,e.gh⟩
structure NarP(l1 l2 h1 h2 w1 w2:Int)(Up:Int->Int->Prop)(kb:Nat)(n pl:Nat)(x1 x2 y1 y2:Int):Prop where
 ends:EndsG kb x1 x2 y1 y2
 ux:Up x1 x2
 uy:¬Up y1 y2
 lo:l1*x2<=x1*l2
 hi:y1*h2<=h1*y2
 wide:(y1*x2-x1*y2)*w2<=w1*(x2*y2)
 pls:pl<2^n
 ex:x1*(l2*h2*2^n)=(l1*h2*2^n+(h1*l2-l1*h2)*pl)*x2
 ey:y1*(l2*h2*2^n)=(l1*h2*2^n+(h1*l2-l1*h2)*(pl+1))*y2
 big:∀j:Nat,j<n->w1*(h2*l2)*2^j<(h1*l2-l1*h2)*w2
 fit:(h1*l2-l1*h2)*w2<=w1*(h2*l2)*2^n
theorem DG{x1 x2 y1 y2:Int}(hx:0<x2)(hy:0<y2)(e:x1*y2=y1*x2)(l:List Int):sg (hv x1 x2 l)=sg (hv y1 y2 l):=by
 have h1:=oH y2 x1 x2 l;have h2:=oH x2 y1 y2 l;have e1:y2*x1=x2*y1:=by rw[QT y2,e,QT]
 rw[e1,QT y2 x2]at h1;rw[h1]at h2;have h3:=congrArg sg h2;rw[eN (Rl hy),eN (Rl hx)]at h3;exact h3
theorem cancel{a b c:Int}(hc:0<c)(h:a*c=b*c):a=b:=SD (Rf hc) h
theorem gP{a b c:Int}(hc:0<c)(h:a*c<=b*c):a<=b:=Int.le_of_mul_le_mul_right h hc
theorem gO{a b c:Int}(hc:0<c)(h:a*c<b*c):a<b:=R7 h (QE hc)
theorem B2{l1 l2 h1 h2 r1 r2 x1 x2 pc pl:Int}(hr:0<r2)(er:r1*(h2*l2)=(h1*l2-l1*h2)*r2)(e:x1*(l2*r2*pc)=(l1*r2*pc+r1*l2*pl)*x2):x1*(l2*h2*pc)=(l1*h2*pc+(h1*l2-l1*h2)*pl)*x2:=by
 refine cancel hr ?_
 calc x1*(l2*h2*pc)*r2=(x1*(l2*r2*pc))*h2:=by grind
  _=(l1*r2*pc+r1*l2*pl)*x2*h2:=by rw[e]
  _=(l1*h2*pc*r2+(r1*(h2*l2))*pl)*x2:=by grind
  _=(l1*h2*pc*r2+((h1*l2-l1*h2)*r2)*pl)*x2:=by rw[er]
  _=(l1*h2*pc+(h1*l2-l1*h2)*pl)*x2*r2:=by grind
theorem zi{l1 l2 h1 h2 w1 w2 x1 x2 y1 y2 pc pl:Int}(hl:0<l2)(hh:0<h2)(hx:0<x2)(hy:0<y2)(hpc:0<pc)(hp0:0<=pl)(hp1:pl+1<=pc)(hD:0<h1*l2-l1*h2)(ex:x1*(l2*h2*pc)=(l1*h2*pc+(h1*l2-l1*h2)*pl)*x2)(ey:y1*(l2*h2*pc)=(l1*h2*pc+(h1*l2-l1*h2)*(pl+1))*y2)(fit:(h1*l2-l1*h2)*w2<=w1*(h2*l2)*pc):x1*y2<y1*x2/\l1*x2<=x1*l2/\y1*h2<=h1*y2/\(y1*x2-x1*y2)*w2<=w1*(x2*y2):=by
 have hlh:0<l2*h2:=QC hl hh;have hM:0<l2*h2*pc:=QC hlh hpc;have hxy:0<x2*y2:=QC hx hy
 have hd:(y1*x2-x1*y2)*(l2*h2*pc)=(h1*l2-l1*h2)*(x2*y2):=by
  calc (y1*x2-x1*y2)*(l2*h2*pc)=(y1*(l2*h2*pc))*x2-(x1*(l2*h2*pc))*y2:=by grind
   _=((l1*h2*pc+(h1*l2-l1*h2)*(pl+1))*y2)*x2-((l1*h2*pc+(h1*l2-l1*h2)*pl)*x2)*y2:=by rw[ex,ey]
   _=(h1*l2-l1*h2)*(x2*y2):=by grind
 have hi:y1*h2<=h1*y2:=by
  refine gP (c:=l2*pc) (QC hl hpc) ?_;have e1:y1*h2*(l2*pc)=y1*(l2*h2*pc):=by grind
  have e2:h1*y2*(l2*pc)=(l1*h2*pc+(h1*l2-l1*h2)*pc)*y2:=by grind
  rw[e1,ey,e2];refine Q5 ?_ (QE hy);have:=Sg hp1 (QE hD);omega
 generalize h1*l2-l1*h2=D at *
 refine⟨?_,?_,hi,?_⟩
 ·have h3:0<(y1*x2-x1*y2)*(l2*h2*pc):=by rw[hd];exact QC hD hxy
  have h4:0<y1*x2-x1*y2:=gO hM (by rw[Q3];exact h3);omega
 ·refine gP (c:=h2*pc) (QC hh hpc) ?_;have e1:x1*l2*(h2*pc)=x1*(l2*h2*pc):=by grind
  have e2:l1*x2*(h2*pc)=l1*h2*pc*x2:=by grind
  rw[e1,ex,e2,Int.add_mul];have:0<=D*pl*x2:=Q8 (Q8 (QE hD) hp0) (QE hx);omega
 ·refine gP hM ?_;have e1:(y1*x2-x1*y2)*w2*(l2*h2*pc)=((y1*x2-x1*y2)*(l2*h2*pc))*w2:=by grind
  have e2:w1*(x2*y2)*(l2*h2*pc)=w1*(h2*l2)*pc*(x2*y2):=by grind
  have e3:D*(x2*y2)*w2=D*w2*(x2*y2):=by grind
  rw[e1,hd,e2,e3];exact Q5 fit (QE hxy)
def ny(C:Addr):Sp:=λvs H Q _=>∃(a l h wd:Addr) (ns:List Int) (l1 l2 h1 h2 w1 w2:Int) (k kw:Nat) (ε:Int) (Up:Int->Int->Prop),vs=[.ref a,.ref l,.ref h,.ref wd]/\H a=some (.lst (ns.map V.int))/\Tr ns/\ns≠[]/\ns.length<=12/\AllB 1000 ns/\RA C H l l1 l2/\RA C H h h1 h2/\RA C H wd w1 w2/\EndsG k l1 l2 h1 h2/\0<w1/\0<w2/\Bits kw w1/\Bits kw w2/\k<=1400/\2*k+kw<=3900/\5*k+kw<=8900/\RootU ns l1 l2 h1 h2 ε Up /\
 ∀(p x y:Addr) (H':Hp) (n pl:Nat) (x1 x2 y1 y2:Int),Same H H'->H p=none->H' p=some (.tup [.ref x,.ref y])->RA C H' x x1 x2->RA C H' y y1 y2->NarP l1 l2 h1 h2 w1 w2 Up (5*k+kw+4) n pl x1 x2 y1 y2->Q (.ref p) H'
theorem Gk(F:Fun K "narrowed" "narrowed" qP f fd)(T:Txt K mg)(R:RCI K mg C)(jG:MCal P w K mg base 4 C "minus" ["self","other"] (kR C) uC ur)(Ob:Cal P w K mg base 1 "halvings" ["reach","width"] (xz C) Qb O6)(Oc:Cal P w K mg base 3 "halved" ["row","end","steps"] xA Qc O7)(NI:Cal P w K mg base 3 "stretched" ["row","low","reach"] (wS C) PB OH)(fU:Cal P w K mg base 2 "sign_at" ["row","ratio"] (iQ C) mC mz)(Oj:Cal P w K mg base 5 "along" ["low","reach","place","pieces"] (xJ C) Qj Pe):FnOk P w K mg base CX0 6 f fd ["row","low","high","width"] (ny C):=by
 obtain⟨iL,ix,iI⟩:=jG;obtain⟨Nk,Il,Jy,Mi⟩:=Ob;obtain⟨Nl,Im,Jz,Mj⟩:=Oc;obtain⟨MR,HK,Ja,LS⟩:=NI;obtain⟨fS,fI,fK,fO⟩:=fU;obtain⟨B8,zG,zX,BS⟩:=Oj;refine F.ok sc_narrowed (λvs H Q E h=>?_) (λcdv A outer s H vs Q E hr h=>?_)
 ·obtain⟨a,l,h,wd,ns,l1,l2,h1,h2,w1,w2,k,kw,ε,Up,rfl,_⟩:=h;rfl
 ·obtain⟨a,l,h,wd,ns,l1,l2,h1,h2,w1,w2,kb,kw,ε,Up,rfl,hA,hT,hne,hln,hbn,hl,hh,hw,en,hw1,hw2,bw1,bw2,hk1,hk2,hk3,hU,k⟩:=h
  refine⟨_,(ag (ao (i:=4) sc_narrowed.nd rfl (Or.inl rfl) (cW (pv 2) R.cl ix iL (hr.mono) iI .nil aj (aa (pv 1) ac)))
   (ag (ao (i:=5) sc_narrowed.nd rfl (Or.inl rfl) (aq Nk (hr.mono) rfl Il Jy Mi .nil aj (aa (pv 4) (aa (pv 3) ac))))
   (ag (aO (aG cR (pv 5) ad (aE _))
     (ak (av (du (aa (pv 1) (aa (pv 2) ac)))))
     aP)
   (ag (ao (i:=6) sc_narrowed.nd rfl (Or.inl rfl) (aq Nl (hr.mono) rfl Im Jz Mj .nil aj (aa (aq MR (hr.mono) rfl HK Ja LS .nil aj (aa (pv 0) (aa (pv 1) (aa (pv 4) ac)))) (aa (aq fS (hr.mono) rfl fI fK fO .nil aj (aa (pv 0) (aa (pv 2) ac))) (aa (pv 5) ac)))))
   (ak (av (du (aa (aq B8 (hr.mono) rfl zG zX BS .nil aj (aa (pv 1) (aa (pv 4) (aa (aI (aW (K:=K) rfl) (pv 6) ad (λ_ _=>rfl)) (aa (aI (aW (K:=K) rfl) (pv 6) ad (λ_ _=>rfl)) ac))))) (aa (aq B8 (hr.mono) rfl zG zX BS .nil aj (aa (pv 1) (aa (pv 4) (aa (ai bQ (aI (aW (K:=K) rfl) (pv 6) ad (λ_ _=>rfl)) ad) (aa (aI (aW (K:=K) rfl) (pv 6) ad (λ_ _=>rfl)) ac))))) ac))))))))),?_⟩
  obtain⟨dl,hl'⟩:=id hl;obtain⟨dh,hh'⟩:=id hh;obtain⟨l2p,h2p,bl1,bl2,bh1,bh2,lt,_,_⟩:=id en;refine aw ⟨_,rfl,h,dh,_,rfl,hh',cZ _ _ iq.1 iq.2,_,rfl,h,l,h1,h2,l1,l2,kb,kb,rfl,hh,hl,bh1.mono (by omega),bh2,bl1.mono (by omega),bl2,by omega,h2p,l2p,λr H1 s1 fr hr1=>?_⟩;have d0:h2*l2≠0:=Rf (QC h2p l2p);have er:=ei (t:=h1*l2-l1*h2) d0;have r2p:0<rb (h1*l2-l1*h2) (h2*l2):=c7 d0;have br1:Bits (2*kb+1) (rt (h1*l2-l1*h2) (h2*l2)):=ee d0 (Bits.sub ((bh1.mul bl2).mono (by omega)) ((bl1.mul bh2).mono (by omega)));have br2:Bits (2*kb+1) (rb (h1*l2-l1*h2) (h2*l2)):=dY d0 ((bh2.mul bl2).mono (by omega));generalize rt (h1*l2-l1*h2) (h2*l2)=r1 at *
  generalize rb (h1*l2-l1*h2) (h2*l2)=r2 at *
  have hD:0<h1*l2-l1*h2:=by omega
  have hhl:0<h2*l2:=QC h2p l2p;have r1p:0<r1:=gO hhl (by rw[Q3,er];exact QC hD r2p);have hA1:=s1 _ _ hA;have hl1:=hl.same s1;have hh1:=hh.same s1;refine aw ⟨_,rfl,_,rfl,r,wd,r1,r2,w1,w2,2*kb+1,kw,rfl,hr1,hw.same s1,r2p,hw1,br1,br2.mono (by omega),bw1.mono (by omega),bw2,by omega,λn hn hle hmin=>?_⟩
  have fit:(h1*l2-l1*h2)*w2<=w1*(h2*l2)*2^n:=by
   refine gP r2p ?_
   calc (h1*l2-l1*h2)*w2*r2=((h1*l2-l1*h2)*r2)*w2:=by grind
    _=r1*(h2*l2)*w2:=by rw[er]
    _=r1*w2*(h2*l2):=by grind
    _<=w1*r2*2^n*(h2*l2):=Q5 hle (QE hhl)
    _=w1*(h2*l2)*2^n*r2:=by grind
  have bigg:∀j:Nat,j<n->w1*(h2*l2)*2^j<(h1*l2-l1*h2)*w2:=λj hj=>by
   refine gO r2p ?_
   calc w1*(h2*l2)*2^j*r2=w1*r2*2^j*(h2*l2):=by grind
    _<r1*w2*(h2*l2):=Rj (hmin j hj) hhl
    _=r1*(h2*l2)*w2:=by grind
    _=(h1*l2-l1*h2)*r2*w2:=by rw[er]
    _=(h1*l2-l1*h2)*w2*r2:=by grind
  refine bI ⟨_,rfl,_,_,rfl,rfl,_,rfl,aH (λh0=>?_) (λ_=>?_)⟩
  ·obtain rfl:n=0:=by have:(n:Int)=0:=h0;omega
   refine aQ ⟨_,rfl,_,rfl,by show 2<=sizeLine;decide,λp hp=>?_⟩;have sp:=Same.upd_new (o:=.tup [V.ref l,V.ref h]) hp;have ex:l1*(l2*h2*2^0)=(l1*h2*2^0+(h1*l2-l1*h2)*((0:Nat):Int))*l2:=by rw[RG];show _=(_+_*0)*_;grind
   have ey:h1*(l2*h2*2^0)=(l1*h2*2^0+(h1*l2-l1*h2)*(((0:Nat):Int)+1))*h2:=by rw[RG];show _=(_+_*(0+1))*_;grind
   have nf:=zi (w1:=w1) (w2:=w2) (pc:=2^0) l2p h2p l2p h2p (jV 0) (Q7 0) (by decide) hD ex ey fit;exact k p l h _ 0 0 l1 l2 h1 h2 (s1.then_new hp) (s1.free hp) au (hl1.same sp) (hh1.same sp) ⟨en.mono (by omega),hU.low,hU.top,Q7 _,Q7 _,nf.2.2.2,by decide,ex,ey,bigg,fit⟩
  refine aw ⟨_,rfl,_,rfl,_,rfl,a,l,r,ns,l1,l2,r1,r2,rfl,hA1,hl1,hr1,hT,hne,hln,hbn,l2p,r1p,r2p,bl1.mono hk1,bl2.mono hk1,br1.mono (by omega),br2.mono (by omega),λm s0 s1' pm e0 e1 hs1 bS p2 H2 s2 hp2 eq2=>?_⟩;have t2:=s1.trans s2;refine⟨_,rfl,_,rfl,a,h,ns,h1,h2,⟨rfl,t2 _ _ hA,hh.same t2,by omega,hbn.mono,bh1.mono (by omega),bh2.mono (by omega)⟩,λH3 s3=>?_⟩;have t3:=t2.trans s3;have lp:0<l2*r2:=QC l2p r2p
  have top:(s0+s1')*h2=h1*m:=by
   refine cancel lp ?_
   calc (s0+s1')*h2*(l2*r2)=((s0*l2)*r2+(s1'*r2)*l2)*h2:=by grind
    _=(l1*m*r2+r1*m*l2)*h2:=by rw[e0,e1]
    _=m*(l1*r2*h2+r1*(h2*l2)):=by grind
    _=m*(l1*r2*h2+(h1*l2-l1*h2)*r2):=by rw[er]
    _=h1*m*(l2*r2):=by grind
  have pt:∀p c:Int,0<p->p<=c->0<m*c/\l1*(m*c)<(s0*c+s1'*p)*l2/\(s0*c+s1'*p)*h2<=h1*(m*c):=λp c hp hc=>by
   refine⟨QC pm (by omega),?_,?_⟩
   ·have:(s0*c+s1'*p)*l2=l1*(m*c)+s1'*p*l2:=by
     calc (s0*c+s1'*p)*l2=(s0*l2)*c+s1'*p*l2:=by grind
      _=l1*m*c+s1'*p*l2:=by rw[e0]
      _=l1*(m*c)+s1'*p*l2:=by grind
    rw[this];have:=QC (QC hs1 hp) l2p;omega
   ·have h3:s1'*p<=s1'*c:=Sg hc (QE hs1);have h4:(s0*c+s1'*p)*h2<=(s0*c+s1'*c)*h2:=Q5 (by omega) (QE h2p)
    have h5:(s0*c+s1'*c)*h2=h1*(m*c):=by
     calc (s0*c+s1'*c)*h2=((s0+s1')*h2)*c:=by grind
      _=h1*m*c:=by rw[top]
      _=h1*(m*c):=by grind
    omega
  have vs:∀p c:Int,sg (hv p c (cq m s0 s1' ns))=sg (hv (s0*c+s1'*p) (m*c) ns):=λp c=>by rw[<- Ap,eN pm]
  have hB:RootB (cq m s0 s1' ns) ε (λp c=>Up (s0*c+s1'*p) (m*c)):=by
   refine⟨hU.e1,λp c hp hc hu=>?_,λp c hp hc hu=>?_,λp c p' c' hp hc hp' hc' hu hlt=>?_,λp c hc=>?_,λhu=>?_⟩
   ·rw[vs];obtain⟨q1,q2,q3⟩:=pt p c hp hc;exact hU.r1 _ _ q1 q2 q3 hu
   ·rw[vs];obtain⟨q1,q2,q3⟩:=pt p c hp hc;exact hU.r2 _ _ q1 q2 q3 hu
   ·rw[vs];obtain⟨q1,q2,q3⟩:=pt p c hp hc;obtain⟨q1',q2',q3'⟩:=pt p' c' hp' hc';refine hU.r3 _ _ _ _ q1 q1' q2 q3' hu ?_;have h3:s1'*m*(p*c')<s1'*m*(p'*c):=Td hlt (QC hs1 pm);have e3:(s0*c+s1'*p)*(m*c')=s0*c*(m*c')+s1'*m*(p*c'):=by grind
    have e4:(s0*c'+s1'*p')*(m*c)=s0*c*(m*c')+s1'*m*(p'*c):=by grind
    omega
   ·have g1:0<m*c:=QC pm hc;have g2:0<m*(2*c):=QC pm (by omega);constructor
    ·exact hU.sc _ _ _ _ g2 g1 (by grind)
    ·exact hU.sc _ _ _ _ g1 g2 (by grind)
   ·refine hU.top (hU.sc _ _ _ _ (by rw[Q1];exact pm) h2p ?_ hu);rw[Q1,Q1,Q1];exact top
  have lstr:=jL m s0 s1' ns;have hn1:1<=ns.length:=QG.mpr hne;refine⟨_,rfl,p2,cq m s0 s1' ns,_,n,ε,_,rfl,s3 _ _ eq2,by omega,by omega,bS,by omega,hB,?_,λp4 H4 pl s4 hp4 e4 hpl hup hnup=>?_⟩
  ·rw[vs];refine DG h2p (by rw[Q1];exact pm) ?_ ns;rw[Q1,Q1,Q1];exact top.symm
  have t4:=t3.trans s4;have u4:=(s2.trans s3).trans s4;have b2n:Bits (n+1) ((2:Int)^n):=lC (by omega);have cpl:(pl:Int)<2^n:=by rw[iY];exact Su.mpr hpl
  have bpl:Bits (n+1) (pl:Int):=b2n.of_le (by rw[iY];omega);have bpl1:Bits (n+1) ((pl:Int)+1):=b2n.of_le (by rw[iY];omega);have p2n:=jV n;refine aQ ⟨_,rfl,_,rfl,_,rfl,p4,_,_,_,rfl,rfl,SqT.of e4,rfl,_,rfl,p4,_,_,_,rfl,rfl,SqT.of e4,rfl,l,r,l1,l2,r1,r2,pl,2^n,kb,2*kb+1,n+1,rfl,hl.same t4,hr1.same u4,l2p,r2p,p2n,bl1,bl2,br1,br2,bpl,b2n,by omega,λx H5 x1 x2 s5 hx hRx x2p ex bx1 bx2 gx=>?_⟩;have e5:=s5 _ _ e4;have t5:=t4.trans s5;have u5:=u4.trans s5;refine⟨_,rfl,_,rfl,_,rfl,p4,_,_,_,rfl,rfl,SqT.of e5,rfl,_,_,rfl,rfl,_,rfl,p4,_,_,_,rfl,rfl,SqT.of e5,rfl,l,r,l1,l2,r1,r2,pl+1,2^n,kb,2*kb+1,n+1,rfl,hl.same t5,hr1.same u5,l2p,r2p,p2n,bl1,bl2,br1,br2,bpl1,b2n,by omega,λy H6 y1 y2 s6 hy hRy y2p ey by1 by2 gy=>?_⟩;refine⟨by show 2<=sizeLine;decide,λp hp=>?_⟩;have sp:=Same.upd_new (o:=.tup [V.ref x,V.ref y]) hp;have t6:=t5.trans s6;have ex':=B2 r2p er ex;have ey':=B2 r2p er ey;have nf:=zi (w1:=w1) (w2:=w2) l2p h2p x2p y2p p2n (show(0:Int)<=(pl:Int) by omega) (by omega) hD ex' ey' fit
  have cross:∀(q z1 z2:Int),z1*(l2*r2*2^n)=(l1*r2*2^n+r1*l2*q)*z2->(s0*2^n+s1'*q)*z2=z1*(m*2^n):=λq z1 z2 ez=>by
   refine cancel lp ?_
   calc (s0*2^n+s1'*q)*z2*(l2*r2)=((s0*l2)*r2*2^n+(s1'*r2)*l2*q)*z2:=by grind
    _=(l1*m*r2*2^n+r1*m*l2*q)*z2:=by rw[e0,e1]
    _=m*((l1*r2*2^n+r1*l2*q)*z2):=by grind
    _=m*(z1*(l2*r2*2^n)):=by rw[ez]
    _=z1*(m*2^n)*(l2*r2):=by grind
  have hm2:0<m*2^n:=QC pm p2n;refine k p x y _ n pl x1 x2 y1 y2 (t6.then_new hp) (t6.free hp) au ((hRx.same s6).same sp) (hRy.same sp) ⟨⟨x2p,y2p,bx1.mono (by omega),bx2.mono (by omega),by1.mono (by omega),by2.mono (by omega),nf.1,gx,gy⟩,?_,?_,nf.2.1,nf.2.2.1,nf.2.2.2,hpl,ex',ey',bigg,fit⟩
  ·rcases hup with z |z
   ·refine hU.sc _ _ _ _ l2p x2p ?_ hU.low;rw[z]at ex';refine cancel (QC h2p p2n) ?_
    calc l1*x2*(h2*2^n)=(l1*h2*2^n+(h1*l2-l1*h2)*((0:Nat):Int))*x2:=by show _=(_+_*0)*_;grind
     _=x1*(l2*h2*2^n):=ex'.symm
     _=x1*l2*(h2*2^n):=by grind
   ·exact hU.sc _ _ _ _ hm2 x2p (cross _ _ _ ex) z
  ·intro hu;exact hnup (hU.sc _ _ _ _ y2p hm2 (cross _ _ _ ey).symm hu)
theorem Ga(F:Fun K "refuse_high" "refuse_high" qG f fd)(T:Txt K mg):FnOk P w K mg base CX0 1 f fd ["height"] (λvs H Q _=>∃i:Int,vs=[.int i]/\i<=8/\Q .non H):=by
 obtain⟨tH,hHIGHEST⟩:=T.HIGHEST_;refine F.ok DV (λvs H Q E h=>?_) (λcdv A outer s H vs Q E hr h=>?_)
 ·obtain⟨i,rfl,_⟩:=h;rfl
 ·obtain⟨i,rfl,hi,k⟩:=h
  refine⟨_,(ak (aO (aG cQ (pv 0) (Fl (v:=.int 8) rfl hHIGHEST ⟨_,rfl⟩) (aE _))
   (ak iW)
   aP)),?_⟩
  refine lj ⟨_,rfl,_,_,rfl,rfl,_,rfl,aH (λh=>absurd (show i>8 from h) (by omega)) (λ_=>?_)⟩;exact k
structure NCI(K:PySem.W.Frag)(mg:Str->Option Value)(CN:Addr):Prop where
 cl:Cls K CN
 nP:NoAttr K CN "poly"
 nL:NoAttr K CN "low"
 nH:NoAttr K CN "high"
 mg:mg "Number"=some (.ref CN)
 ha:PySem.W.findIn K (.ref CN) "__class__"=some (some (.builtin "object.__class__"))
 hn:PySem.W.specialIn K (.builtin "object.__class__") "__get__"=some (some (.builtin "getset_descriptor.__get__"))
 ht:PySem.W.takesIn K (.builtin "object.__class__")=some true
 hm:PySem.W.mroIn K CN (.type "object")=some true
noncomputable def iA(p l h:Addr):List (Str×V):=cV "high" (.ref h) (cV "low" (.ref l) (cV "poly" (.ref p) []))
theorem Fg:¬(("poly":Str)="high"):=by decide +kernel
theorem Fa:¬(("poly":Str)="low"):=by decide +kernel
theorem IJ:¬(("low":Str)="high"):=by decide +kernel
theorem mw(p l h:Addr):(iA p l h).lookup ("high":Str)=some (.ref h):=by unfold iA;rw[eG,if_pos rfl]
theorem uk(p l h:Addr):(iA p l h).lookup ("low":Str)=some (.ref l):=by unfold iA;rw[eG,if_neg IJ,eG,if_pos rfl]
theorem mv(p l h:Addr):(iA p l h).lookup ("poly":Str)=some (.ref p):=by unfold iA;rw[eG,if_neg Fg,eG,if_neg Fa,eG,if_pos rfl]
def NA(CN:Addr)(H:Hp)(x p l h:Addr):Prop:=∃dx,H x=some (.ins CN dx (iA p l h))
theorem NA.same{CN:Addr}{H H':Hp}{x p l h:Addr}(n:NA CN H x p l h)(s:Same H H'):NA CN H' x p l h:=let⟨dx,e⟩:=n;⟨dx,s _ _ e⟩
def g9(CN:Addr):Sp:=λvs H Q _=>∃(x dx r l h:Addr) (ns:List V),vs=[.ref x,.ref r,.ref l,.ref h]/\H x=some (.ins CN dx [])/\H r=some (.lst ns)/\∀p,H p=none->Q .non (upd (upd H p (.lst ns)) x (.ins CN dx (iA p l h)))
theorem G6(F:Fun K "__init__" "Number.__init__" rZ f fd)(T:Txt K mg)(RN:NCI K mg CN):FnOk P w K mg base CX0 1 f fd ["self","row","low","high"] (g9 CN):=by
 refine F.ok Eh (λvs H Q E h=>?_) (λcdv A outer s H vs Q E hr h=>?_)
 ·obtain⟨x,dx,r,l,h,ns,rfl,_⟩:=h;rfl
 ·obtain⟨x,dx,r,l,h,ns,rfl,hx,hR,k⟩:=h
  refine⟨_,(ag (lv (pv 0) (eT (uT (K:=K) rfl) (by rfl) T.list_ PyProof.Rows.boot_list (aa (pv 1) ac)) rfl)
   (ag (lv (pv 0) (pv 2) rfl)
   (ak (lv (pv 0) (pv 3) rfl)))),?_⟩
  refine⟨_,rfl,r,_,rfl,.inl (SqL.of hR),λp hp=>?_⟩;have npx:x≠p:=aY hx hp;refine⟨_,rfl,x,CN,dx,_,rfl,by rw[upd_ne npx];exact hx,RN.cl,RN.nP,by show 0<1000;decide,?_⟩;refine⟨_,rfl,_,rfl,x,CN,dx,_,rfl,au,RN.cl,RN.nL,by show 1<1000;decide,?_⟩;refine⟨_,rfl,_,rfl,x,CN,dx,_,rfl,au,RN.cl,RN.nH,by show 2<1000;decide,?_⟩;show Q .non (upd (upd (upd (upd H p _) x _) x _) x _);rw[m8,m8];exact k p hp
def xf:Sp:=λvs H Q _=>∃(a:Addr) (ns:List Int),vs=[.ref a]/\H a=some (.lst (ns.map V.int))/\ns.length<=1000/\AllB 300 ns/\∀H',Same H H'->Q .non H'
theorem Mz:Bits 399 (10^60*10^60)/\(2:Int)^300<=10^60*10^60:=by
 constructor
 ·show((10:Int)^60*10^60).natAbs<2^399;decide +kernel
 ·decide +kernel
theorem Gb(F:Fun K "refuse_great" "refuse_great" qH f fd)(T:Txt K mg):FnOk P w K mg base CX0 1 f fd ["row"] xf:=by
 refine F.ok sc_refuse_great (λvs H Q E h=>?_) (λcdv A outer s H vs Q E hr h=>?_)
 ·obtain⟨a,ns,rfl,_⟩:=h;rfl
 ·obtain⟨a,ns,rfl,hA,hl,hb,k⟩:=h;have big:=sizeLine_eq
  refine⟨_,(ag (ao (i:=1) sc_refuse_great.nd rfl (Or.inr rfl) (ai aJ (ai lI ad ad) (ai lI ad ad)))
   (ak (aO (EV (bX (LK (K:=K) rfl rfl) (by rfl) T.any_ PyProof.Rows.boot_any (aa (fE (own:=["value"]) (fr:=["limit"]) (js:=[1]) (by walk_at "comp_ok") rfl (fz (K:=K) rfl (pv 0)) (λ_ _ _ _=>(aU (i:=0) (show List.Nodup (["value","limit"]:List Str)from by decide +kernel) rfl (Or.inl rfl))) (λ_ _ _ _=>(dH jY (bX gf (by rfl) T.abs_ PyProof.Rows.boot_abs (aa (pv 0) ac)) (pv 1) (aE _)))) ac)) (by intro _;rfl))
     (ak iW)
     aP))),?_⟩
  have b6:Bits 1000000 ((10:Int)^60):=b60.mono;refine aw ⟨_,_,rfl,rfl,⟨by decide,by decide,by decide⟩,_,_,rfl,rfl,⟨by decide,by decide,by decide⟩,_,_,rfl,rfl,⟨b6,b6⟩,?_⟩;refine lj ⟨_,rfl,a,rfl,⟨_,SqL.of hA⟩,jq (K:=K) (a:=a) (xs:=ns.map V.int) (λi ys σ' H'=>∃(z0:Option V) (bs:List Bool),σ'=[z0,some (.int (10^60*10^60))]/\ys=bs.map V.bl/\bs.length=i/\(∀x∈bs,x=false)/\H=H') (by rw[QB];omega) ⟨none,[],rfl,rfl,rfl,(λ_ h=>nomatch h),rfl⟩ ?_ ?_ ?_⟩
  ·rintro i ys σ' H' _ ⟨z0,bs,rfl,rfl,rfl,_,rfl⟩;exact⟨SqL.of hA,by rw[QB];exact QD _⟩
  ·rintro i x ys σ' H' hi ⟨z0,bs,rfl,rfl,rfl,hbs,rfl⟩;obtain⟨c,_,rfl,hc,_⟩:=gK hi;refine⟨_,rfl,_,rfl,_,rfl,_,_,rfl,rfl,?_⟩;refine⟨_,bs++[false],rfl,?_,by rw[QO];rfl,λx hx=>?_,rfl⟩
   ·have hlt:¬((if c<0 then -c else c)≥10^60*10^60):=by
     have h1:c.natAbs<2^300:=hb c hc;have h2:=Mz.2;have h3:((2^300:Nat):Int)=(2:Int)^300:=by rw[Ss];rfl
     have h4:(c.natAbs:Int)<(2:Int)^300:=by rw[<- h3];exact Su.mpr h1
     generalize (2:Int)^300=X at h2 h4
     generalize (10:Int)^60*10^60=Y at h2 ⊢
     split<;>omega
    rw[QY];show _++[V.bl (decide _)]=_;rw[decide_eq_false hlt];rfl
   ·rcases QS.mp hx with h |h
    ·exact hbs x h
    ·exact QF.mp h
  rintro ys σ' H' p ⟨z0,bs,rfl,rfl,hbl,hbs,rfl⟩ hp;refine⟨p,bs,rfl,SqL.of au,?_⟩
  have e:bs.any id=false:=by rw[List.any_eq_false];intro x hx;rw[hbs x hx];decide
  rw[e];refine⟨_,rfl,dX ?_⟩;exact k _ (Same.upd_new hp)
theorem DE{x:Int}(h:x<0):sg x = -1:=by unfold sg;split<;>(try split)<;>omega
theorem DD{x:Int}(h:0<x):sg x=1:=by unfold sg;split<;>(try split)<;>omega
theorem eU:(¬("against":Str)="bottom")/\¬("against":Str)="top":=⟨by decide +kernel,by decide +kernel⟩
theorem b1k{k:Nat}(h:1<=k):Bits k (1:Int):=Bits.mono (j:=1) (by show(1:Int).natAbs<2^1;decide) h
theorem A4(t:Int):dv t 1=1:=by unfold dv;rw[if_neg (by decide)];show((Nat.gcd t.natAbs 1:Nat):Int)=1;rw[SY];rfl
theorem ia(t:Int):rt t 1=t:=by have h:=ib (t:=t) (b:=1) (by decide);rw[A4,QZ]at h;exact h
theorem ic(t:Int):rb t 1=1:=by have h:=gt (t:=t) (b:=1) (by decide);rw[A4,QZ]at h;exact h
theorem AZ{b:Int}(hb:0<b):dv 1 b=1:=by unfold dv;rw[if_neg (by omega)];show((Nat.gcd 1 b.natAbs:Nat):Int)=1;rw[Nat.gcd_one_left];rfl
theorem yj{b:Int}(hb:0<b):rt 1 b=1:=by have h:=ib (t:=1) (b:=b) (by omega);rw[AZ hb,QZ]at h;exact h
theorem yu{b:Int}(hb:0<b):rb 1 b=b:=by have h:=gt (t:=1) (b:=b) (by omega);rw[AZ hb,QZ]at h;exact h
theorem lY{CN:Addr}{H3:Hp}{q:Addr->Hp->Prop}{E:XK}{r l h:Addr}{ns:List V}(e3:H3 r=some (.lst ns))(k:∀(x p:Addr) (H':Hp),Same H3 H'->H3 x=none->NA CN H' x p l h->H' p=some (.lst ns)->H3 p=none->q x H'):∀x dx:Addr,H3 x=none->H3 dx=none->dx≠x->g9 CN (.ref x::([.ref r,.ref l,.ref h]++[])) (upd (upd H3 dx (.own x)) x (.ins CN dx [])) (λv H2=>v=.non/\q x H2) E:=λx dx nx ndx ne=>by
 have npx:r≠x:=aY e3 nx;have npd:r≠dx:=aY e3 ndx;refine⟨x,dx,r,l,h,_,rfl,au,by rw[upd_ne npx,upd_ne npd];exact e3,λq hq=>⟨rfl,?_⟩⟩;have nqx:q≠x:=λz=>by rw[z,au]at hq;cases hq
 have nqd:q≠dx:=λz=>by rw[z,upd_ne ne,au]at hq;cases hq
 have hq3:H3 q=none:=by rw[upd_ne nqx,upd_ne nqd]at hq;exact hq
 refine k x q _ (λc o ec=>?_) nx ⟨dx,au⟩ (by rw[upd_ne nqx,au]) hq3;have ncx:c≠x:=aY ec nx;have ncd:c≠dx:=aY ec ndx;have e4:upd (upd H3 dx (.own x)) x (.ins CN dx []) c=some o:=by rw[upd_ne ncx,upd_ne ncd];exact ec
 rw[upd_ne ncx,upd_ne (aY e4 hq)];exact e4
theorem uK{xs ys:List Int}{x y:Nat}(hx:AllB x xs)(hy:AllB y ys):∀i,AllB (x+i*(y+1)) (aV xs ys i).1/\AllB (x+i*(y+1)) (aV xs ys i).2
 |0=>by rw[Nat.zero_mul];exact⟨AllB.zeros,hx⟩
 |i+1=>by
  obtain⟨h1,h2⟩:=uK hx hy i;have e:x+(i+1)*(y+1)=x+i*(y+1)+y+1:=by rw[Nat.succ_mul];omega
  have hs:Bits y (((RM.cf ys (ys.length-1)).natAbs:Nat):Int):=vm (hy.cf _);rw[e];show AllB _ (di ys (aV xs ys i) _).1/\AllB _ (di ys (aV xs ys i) _).2;unfold di;dsimp only
  constructor
  ·intro v hv;rcases List.mem_or_eq_of_mem_set hv with h |rfl
   ·obtain⟨u,hu,rfl⟩:=QQ.mp h;exact(hs.mul (h1 u hu)).mono (by omega)
   ·exact(lc (h2.cf _)).mono (by omega)
  ·refine AllB.of_cf λn=>?_
   rw[o4];by_cases hn:n<(scL (((RM.cf ys (ys.length-1)).natAbs:Nat):Int) (aV xs ys i).2).length-1
   ·rw[if_pos hn,bU]
    have m1:Bits (x+i*(y+1)+y) ((((RM.cf ys (ys.length-1)).natAbs:Nat):Int)*RM.cf (aV xs ys i).2 n):=by have:=hs.mul (h2.cf n);rwa [Nat.add_comm]at this
    refine m1.sub ?_;by_cases hp:(xs.length+1-ys.length-1-i)<=n
    ·rw[if_pos hp];exact(lc (h2.cf _)).mul (hy.cf _)
    ·rw[if_neg hp];exact Bits.zero
   ·rw[if_neg hn];exact Bits.zero
theorem k9{n:Nat}{l:List Int}(h:AllB n l):AllB n (ar l):=by
 intro y hy;obtain⟨x,hx,rfl⟩:=QQ.mp hy;obtain⟨d,hd⟩:=ji hx;by_cases hg:(aB l:Int)=0
 ·rw[hg,Int.ediv_zero];exact Bits.zero
 ·have e:x/(aB l:Int)=d:=by rw[hd];exact Int.mul_ediv_cancel_left d hg
  rw[e];refine(h x hx).of_le ?_;rw[hd,QR];exact Sw _ (Se.mpr hg)
theorem qa(l:List Int):(ar l).length=l.length:=QB _
theorem yh(n:Nat)(o:List Int):Run n [] o:=by cases n with |zero=>rfl |succ n=>exact .inl rfl
theorem AW(n:Nat)(o:List Int):RM.Ends n [] o:=by cases n with |zero=>rfl |succ n=>exact .inl rfl
theorem gr8:gr 540 6=91260:=by decide
def Okr(xs:List Int):Prop:=Tr xs/\AllB 91260 xs/\xs.length<=7
theorem yg:∀(n:Nat) (one other:List Int) (x y s:Nat),one.length=s+1->s<=6->other.length<=s->s<n->Tr one->Tr other->AllB x one->AllB y other->x+1<=gr 540 (6-s)->y+1<=gr 540 (6-s+1)->Run n one other/\RM.Ends n one other/\∀xs∈bV n one other,Okr xs
 |0,one,other,x,y,s,_,_,_,h,_,_,_,_,_,_=>absurd h (SL _)
 |m+1,one,other,x,y,s,hl,hs8,hol,hsm,t1,t2,b1,b2,g1,g2=>by
  have hne:one≠[]:=λz=>by rw[z]at hl;simp at hl
  have m1:gr 540 (6-s)<=91260:=by rw[<- gr8];exact gd 540 (by omega)
  have bo1:AllB 91260 one:=b1.mono (by omega)
  have bo2:AllB 91260 other:=by
   by_cases ho:other=[]
   ·rw[ho];exact AllB.nil
   ·have:=QG.mpr ho;have m2:gr 540 (6-s+1)<=91260:=by rw[<- gr8];exact gd 540 (by omega)
    exact b2.mono (by omega)
  have fit:Fit one other:=⟨t1,t2,91260,bo1,bo2,by rw[hl];omega,by omega⟩
  have eS:bV (m+1) one other=one::bV m other (nxt one other):=by show(if one=[]then[]else one::bV m other (nxt one other))=_;rw[if_neg hne]
  have ok1:Okr one:=⟨t1,bo1,by omega⟩;by_cases ho:other=[]
  ·subst ho;refine⟨.inr ⟨fit,yh _ _⟩,.inr (AW _ _),λxs hx=>?_⟩;rw[eS,lg]at hx;rw[QF.mp hx];exact ok1
  ·have hop:=QG.mpr ho;obtain⟨d,hd⟩:∃d,other.length=d+1:=⟨other.length-1,by omega⟩;have hN:bJ one other=(s-d-1)+2:=by unfold bJ;omega
   have e6:6-s+2+(s-d-1)=6-d+1:=by omega
   have rb:AllB (x+bJ one other*(y+1)) (aS one other):=((uK b1 b2 (bJ one other)).2).trim
   have nb:AllB (x+bJ one other*(y+1)) (nxt one other):=by
    unfold nxt rst;rw[if_neg ho,nk (ge _ _)];refine k9 λv hv=>?_
    obtain⟨u,hu,rfl⟩:=QQ.mp hv;have:=(rb u hu).neg
    rwa [show -1*u = -u by omega]
   have nl:(nxt one other).length<=d:=by unfold nxt rst;rw[if_neg ho,nk (ge _ _),qa,cv];have:=gM (a:=one) ho;omega
   have nt:Tr (nxt one other):=gk (fX _);have jump:=uc 540 (6-s) (s-d-1);rw[e6]at jump;have mm:=RP (s-d-1+2) g2;obtain⟨r1,r2,r3⟩:=yg m other (nxt one other) y (x+bJ one other*(y+1)) d hd (by omega) nl (by omega) t2 nt b2 nb (QL g2 (gd 540 (by omega))) (by rw[hN];omega);refine⟨.inr ⟨fit,r1⟩,.inr r2,λxs hx=>?_⟩;rw[eS]at hx;rcases QK.mp hx with rfl |hx
   ·exact ok1
   ·exact r3 xs hx
theorem yn:∀(n:Nat) (one other:List Int),(bV n one other).length<=n
 |0,_,_=>QD _
 |n+1,one,other=>by
  show(if one=[]then[]else one::bV n other (nxt one other)).length<=n+1;split
  ·exact QH _
  ·have:=yn n other (nxt one other);rw[Rb];omega
theorem xW{n:Nat}{xs:List Int}(h:AllB n xs)(hl:xs.length<=9):AllB (n+4) (slopeL xs):=by intro x hx;obtain⟨k,hk,rfl⟩:=QQ.mp hx;have hk':k<xs.length-1:=List.mem_range.mp hk;have b1:Bits 4 ((k:Int)+1):=RB (show((k:Int)+1).natAbs<=8 by omega) (by decide);exact(b1.mul (h.cf (k+1))).mono (by omega)
theorem Dm(xs:List Int):(slopeL xs).length=xs.length-1:=by unfold slopeL;rw[QB,RO]
theorem En{kps:List Int}(ktr:Tr kps)(kb:AllB 530 kps)(kl:kps.length<=7):Run 9 (ar kps) (ar (slopeL kps))/\RM.Ends 9 (ar kps) (ar (slopeL kps))/\∀xs∈bV 9 (ar kps) (ar (slopeL kps)),Okr xs:=by
 by_cases h0:kps=[]
 ·subst h0
  exact⟨yh _ _,AW _ _,λxs hx=>by
   have e:ar []=[]:=rfl;rw[e,lg]at hx
   exact nomatch hx⟩
 ·have hl:=QG.mpr h0;obtain⟨s,hs⟩:∃s,kps.length=s+1:=⟨kps.length-1,by omega⟩;refine yg 9 (ar kps) (ar (slopeL kps)) 530 534 s (by rw[qa,hs]) (by omega) (by rw[qa,Dm,hs];omega) (by omega) (gk ktr) (gk (we ktr)) (k9 kb) (k9 (xW kb (by omega))) ?_ ?_
  ·exact QL (show 531<=gr 540 0 by decide) (gd 540 (QH _))
  ·exact QL (show 535<=gr 540 1 by decide) (gd 540 (by omega))
theorem oa{n:Nat}{l:List Int}(h:AllB n l):AllB n (aA l):=by
 unfold aA cz;split
 ·intro y hy;obtain⟨x,hx,rfl⟩:=QQ.mp hy;exact(k9 h x hx).neg
 ·exact k9 h
theorem Kd:∀s:Nat,s<=8->1<=s->(s+3)*(gr 240 (8-s+1)+1)<=1000000
 |0,_,h=>absurd h (by decide)
 |1,_,_=>by show 4*(236400+1)<=1000000;decide
 |2,_,_=>by show 5*(97920+1)<=1000000;decide
 |3,_,_=>by show 6*(40560+1)<=1000000;decide
 |4,_,_=>by show 7*(16800+1)<=1000000;decide
 |5,_,_=>by show 8*(6960+1)<=1000000;decide
 |6,_,_=>by show 9*(2880+1)<=1000000;decide
 |7,_,_=>by show 10*(1200+1)<=1000000;decide
 |8,_,_=>by show 11*(480+1)<=1000000;decide
 |n+9,h,_=>absurd h (by omega)
theorem yi:∀(n:Nat) (one other:List Int) (x y s:Nat),one.length=s+1->s<=8->other.length<=s->s<n->Tr one->Tr other->AllB x one->AllB y other->x+1<=gr 240 (8-s)->y+1<=gr 240 (8-s+1)->kB n one other
 |0,one,other,x,y,s,_,_,_,h,_,_,_,_,_,_=>absurd h (SL _)
 |m+1,one,other,x,y,s,hl,hs8,hol,hsm,t1,t2,b1,b2,g1,g2=>by
  by_cases ho:other=[]
  ·exact .inl ho
  have hop:=QG.mpr ho;obtain⟨d,hd⟩:∃d,other.length=d+1:=⟨other.length-1,by omega⟩;have hN:bJ one other=(s-d-1)+2:=by unfold bJ;omega
  have e6:8-s+2+(s-d-1)=8-d+1:=by omega
  have rb:AllB (x+bJ one other*(y+1)) (aS one other):=((uK b1 b2 (bJ one other)).2).trim;have jump:=uc 240 (8-s) (s-d-1);rw[e6]at jump;have mm:=RP (s-d-1+2) g2;have nl:=gM (a:=one) ho;have m0:=gd 240 (show 8-s<=8-s+1 by omega);have fit:vC one other:=⟨t1,t2,gr 240 (8-s+1),b1.mono (by omega),b2.mono (by omega),by rw[hl];exact Kd s hs8 (by omega),by omega⟩
  exact .inr ⟨fit,yi m other (aA (aS one other)) y (x+bJ one other*(y+1)) d hd (by omega) (by rw[RM.plain_len];omega) (by omega) t2 (g8 (ge _ _)) b2 (oa rb) (QL g2 (gd 240 (by omega))) (by
   rw[hN];generalize (s-d-1+2)*(y+1)=z at mm ⊢
   generalize (s-d-1+2)*gr 240 (8-s+1)=z2 at mm jump
   omega)⟩
structure Made(kp:List Int)(c:Int)(us:List (List Int×Nat)):Prop where
 is:kp=whl c us
 c0:c≠0
 bc:Bits 10 c
 use:Use us
 deg:dgs id us<=8
 one:2<=kp.length
 bits:AllB 230 (fP id us)
 more:AllB 230 (mor us 1)
theorem Made.len{kp:List Int}{c:Int}{us:List (List Int×Nat)}(h:Made kp c us):kp.length<=9/\(mor us 1).length<=9/\1<=(mor us 1).length/\AllB 241 kp:=by
 have ne:∀p∈us,p.1≠[]:=λp hp=>(h.use.pri p hp).pln.ne
 have h1:=(oV id us ne).1;have h2:=(oV (·-1) us ne).1;have h3:dgs (·-1) us<=dgs id us:=Bb us λp _=>Nat.sub_le _ _
 have h4:=h.deg;refine⟨by rw[h.is,fW,cv];omega,by unfold mor;omega,by unfold mor;omega,?_⟩;rw[h.is,fW];intro x hx;obtain⟨y,hy,rfl⟩:=QQ.mp hx;exact(h.bc.mul (h.bits y hy)).mono
theorem Made.slope{kp:List Int}{c:Int}{us:List (List Int×Nat)}(h:Made kp c us):AllB 234 (aA (slopeL kp)):=by
 have pl:=jm h.use id;have hl:=h.len.1
 have e:slopeL kp=scL c (slopeL (fP id us)):=by
  rw[h.is];refine d8 ?_ λk _=>?_
  ·rw[cv,gG,gG,fW,cv]
  ·rw[bU,fh,fh,fW,bU];grind
 rw[e,ig h.c0 (iN pl.tr)];exact oa (xW h.bits (by rw[h.is,fW,cv]at hl;exact hl))
def wN:Sp:=λvs H Q _=>∃(a:Addr) (kp:List Int) (c:Int) (us:List (List Int×Nat)),vs=[.ref a]/\H a=some (.lst (kp.map V.int))/\Made kp c us/\mkL H Q (flt us)
theorem FD(F:Fun K "without_squares" "without_squares" qh f fd)(T:Txt K mg)(NW:Cal P w K mg base 35 "part" ["row","divisor"] xh PQ OS)(Og:Cal P w K mg base 35 "common" ["first","second"] xF Qg Pb)(vE:Cal P w K mg base 1 "slope" ["row"] (sp1 slopeL) KL Ku):FnOk P w K mg base CX0 36 f fd ["row"] wN:=by
 obtain⟨M5,HW,Jk,L4⟩:=NW;obtain⟨Np,Iu,JD,Mo⟩:=Og;obtain⟨vt,tq,tQ,uY⟩:=vE;refine F.ok DL (λvs H Q E h=>?_) (λcdv A outer s H vs Q E hr h=>?_)
 ·obtain⟨a,kp,c,us,rfl,_⟩:=h;rfl
 ·obtain⟨a,kp,c,us,rfl,hA,hM,k⟩:=h;have hu:=hr.units;have eW:=hM.is;obtain⟨tW,nW,pW⟩:=kG hM.use hM.c0;obtain⟨lW,lM,lM1,bW⟩:=hM.len;have hsl:=hM.slope;have l2':=hM.one;have eC:=vT hM.use hM.c0 (by rw[<- eW];omega);obtain⟨r1,r2⟩:=Cg hM.use hM.c0;rw[<- eW]at tW nW pW eC r1 r2;have lS:=gG kp
  refine⟨_,(ag (aO (aG (jZ (K:=K) rfl hu) (pv 0) (bK ac) (aE _))
   (ak (av (bK ac)))
   aP)
   (ak (av (aq M5 (hr.mono) rfl HW Jk L4 .nil aj (aa (pv 0) (aa (aq Np (hr.mono) rfl Iu JD Mo .nil aj (aa (pv 0) (aa (aq vt (hr.mono) rfl tq tQ uY .nil aj (aa (pv 0) ac)) ac))) ac)))))),?_⟩
  refine bI ⟨_,rfl,QH _,λp0 hp0=>?_⟩;have s0:Same H (upd H p0 (.lst [])):=Same.upd_new hp0;refine⟨a,p0,kp,[],rfl,rfl,SqL.of (s0 _ _ hA),SqL.of au,_,rfl,aH (λh0=>absurd h0 nW) (λ_=>?_)⟩;generalize upd H p0 (.lst [])=H0 at s0 ⊢
  have hA0:=s0 _ _ hA;refine aQ ⟨_,rfl,_,rfl,_,rfl,a,kp,rfl,hA0,by omega,bW.mono,λp1 H1 s1 hp1 e1=>?_⟩;have t1:=s0.trans s1;obtain⟨s,hs⟩:∃s,kp.length=s+1:=⟨kp.length-1,by omega⟩;refine⟨a,p1,kp,slopeL kp,20,rfl,t1 _ _ hA,e1,tW,iN tW,by omega,by omega,yi 20 (aA kp) (aA (slopeL kp)) 230 234 s (by rw[RM.plain_len];exact hs) (by omega) (by rw[RM.plain_len];omega) (by omega) (g8 tW) (g8 (iN tW)) (by rw[pW];exact hM.bits) hsl ?_ ?_,λp2 H2 s2 hp2 e2=>?_⟩
  ·exact QL (show 231<=gr 240 0 by decide) (gd 240 (QH _))
  ·exact QL (show 235<=gr 240 1 by decide) (gd 240 (by omega))
  have e2':H2 p2=some (.lst ((mor us 1).map V.int)):=by rw[<- eC];exact e2
  have t2:=t1.trans s2;refine⟨a,p2,kp,_,241,rfl,t2 _ _ hA,e2',tW,(jm hM.use _).tr,bW,hM.more.mono,by have:(kp.length+2)*(241+1)<=11*242:=Ro _ (by omega);omega,by omega,(jm hM.use _).ne,r1,λp3 H3 s3 hp3 e3=>?_⟩;rw[r2]at e3;exact k p3 H3 (t2.trans s3) (t2.free hp3) e3
structure Whl(fs:List (List Int)):Prop where
 fam:Fam fs
 l2:2<=(prQ fs).length
 l7:(prQ fs).length<=7
 bits:AllB 250 (prQ fs)
noncomputable def dj(fs:List (List Int)):List (List Int):=bV 9 (ar (prQ fs)) (ar (slopeL (prQ fs)))
theorem nV{fs:List (List Int)}(hF:Fam fs)(hl:(prQ fs).length<=7){t n t' n':Int}(hn:0<n)(hn':0<n')(hlt:t*n'<t'*n):((chS (sgs t n (dj fs))).1:Int)-(chS (sgs t' n' (dj fs))).1=bT (aL fs) t n t' n':=by have:=Lq (N:=8) (c:=1) hF.fac hF.nd (by decide) (P:=prQ fs) hF.one.symm (by omega) (by omega) hn hn' hlt;rw[BA,BA];exact this
theorem sd{fs:List (List Int)}(hF:Fam fs)(hl:(prQ fs).length<=7)(hb:AllB 250 (prQ fs)):Run 9 (ar (prQ fs)) (ar (slopeL (prQ fs)))/\(∀xs∈dj fs,xs.length<=20/\AllB 95000 xs)/\(dj fs).length<=1000000:=by
 obtain⟨r1,_,r3⟩:=En hF.pln.tr (hb.mono) hl;refine⟨r1,λxs hx=>?_,?_⟩
 ·obtain⟨_,b,l⟩:=r3 xs hx;exact⟨by omega,b.mono⟩
 ·have:=yn 9 (ar (prQ fs)) (ar (slopeL (prQ fs)));show(bV 9 _ _).length<=_;omega
def xq(C:Addr):Sp:=λvs H Q _=>∃(a l h:Addr) (fs:List (List Int)) (l1 l2 h1 h2:Int),vs=[.ref a,.ref l,.ref h]/\H a=some (.lst ((prQ fs).map V.int))/\Whl fs/\RA C H l l1 l2/\RA C H h h1 h2/\EndsG 250 l1 l2 h1 h2/\∀H',Same H H'->Q (.int (bT (aL fs) l1 l2 h1 h2)) H'
theorem Gq(F:Fun K "many_within" "many_within" qU f fd)(T:Txt K mg)(R:RCI K mg C)(jH:MCal P w K mg base 2 C "against" ["self","other"] (kT C) uD ut)(vI:Cal P w K mg base 4 "count" ["row","low","high"] (pR C) KP Ky)(mW:Cal P w K mg base 35 "row_of" ["polynomial"] nr AO AL):FnOk P w K mg base CX0 36 f fd ["simple","low","high"] (xq C):=by
 obtain⟨gX,gC,gS⟩:=jH;obtain⟨vx,tD,tU,va⟩:=vI;obtain⟨mT,ma,mj,mO⟩:=mW;refine F.ok DY (λvs H Q E h=>?_) (λcdv A outer s H vs Q E hr h=>?_)
 ·obtain⟨a,l,h,fs,l1,l2,h1,h2,rfl,_⟩:=h;rfl
 ·obtain⟨a,l,h,fs,l1,l2,h1,h2,rfl,hA,hW,hl,hh,en,k⟩:=h
  refine⟨_,(ag (aO (aG jY (cW (pv 1) R.cl gC gX (hr.mono) gS .nil aj (aa (pv 2) ac)) ad (aE _))
   (ak (av ad))
   aP)
   (ak (av (aq vx (hr.mono) rfl tD tU va .nil aj (aa (aq mT (hr.mono) rfl ma mj mO .nil aj (aa (pv 0) ac)) (aa (pv 1) (aa (pv 2) ac))))))),?_⟩
  have l7:=hW.l7;obtain⟨rn,rx,rl⟩:=sd hW.fam l7 hW.bits;obtain⟨dxl,hl'⟩:=id hl;refine bI ⟨_,rfl,l,dxl,_,rfl,hl',cZ _ _ eU.1 eU.2,_,rfl,l,h,l1,l2,h1,h2,rfl,hl,hh,en.bl1.mono,en.bl2.mono,en.bh1.mono,en.bh2.mono,_,_,rfl,rfl,_,rfl,aH (λhge=>?_) (λ_=>?_)⟩
  ·have:sg (l1*h2-h1*l2) = -1:=DE (by have:=en.lt;omega);rw[this]at hge;exact absurd hge (by decide)
  refine aQ ⟨_,rfl,a,prQ fs,9,rfl,hA,hW.fam.pln.tr,hW.bits.mono,by omega,by decide,rn,λlr ps H1 s1 hl1 hnew el hR=>?_⟩;refine⟨_,rfl,_,rfl,lr,l,h,ps,dj fs,l1,l2,h1,h2,rfl,el,hR,hl.same s1,hh.same s1,en.bl1.mono,en.bl2.mono,en.bh1.mono,en.bh2.mono,rx,rl,λH2 s2=>?_⟩;have:=k H2 (s1.trans s2);rw[<- nV hW.fam l7 en.l2p en.h2p en.lt]at this;exact this
theorem si{Q:Hp->Prop}{H1 H2:Hp}(e:H1=H2)(h:Q H2):Q H1:=by rw[e];exact h
def xu(C:Addr):Sp:=λvs H Q _=>∃(p q:Addr) (t b u d:Int),vs=[.ref p,.ref q]/\RA C H p t b/\RA C H q u d/\Bits 900 t/\Bits 900 b/\Bits 900 u/\Bits 900 d/\0<b/\0<d/\mkR C H Q (t*d+u*b) (2*b*d)
theorem Gp(F:Fun K "middle" "middle" qT f fd)(T:Txt K mg)(R:RCI K mg C)(cc:KCal P w K mg base 2 C "Ratio" ["self","top","bottom"] (da C) dN dM dO [.int 1]):FnOk P w K mg base CX0 4 f fd ["low","high"] (xu C):=by
 obtain⟨bC,bz,bj,b9,cF,cD⟩:=cc;refine F.ok DX (λvs H Q E h=>?_) (λcdv A outer s H vs Q E hr h=>?_)
 ·obtain⟨p,q,t,b,u,d,rfl,_⟩:=h;rfl
 ·obtain⟨p,q,t,b,u,d,rfl,⟨dx,hp⟩,⟨dy,hq⟩,bt,bb,bu,bd,hb,hd,k⟩:=h;have b2:Bits 2 (2:Int):=by show(2:Int).natAbs<2^2;decide
  have b2b:Bits 902 (2*b):=b2.mul bb |>.mono
  refine⟨_,(ak (av (b5 bz bC (hr.mono) rfl bj b9 .nil aj (aa (ai bQ (ai aJ (aR (K:=K) rfl (pv 0) rfl) (aR (K:=K) rfl (pv 1) rfl)) (ai aJ (aR (K:=K) rfl (pv 1) rfl) (aR (K:=K) rfl (pv 0) rfl))) (aa (ai aJ (ai aJ ad (aR (K:=K) rfl (pv 0) rfl)) (aR (K:=K) rfl (pv 1) rfl)) ac))))),?_⟩;refine⟨_,rfl,p,C,dx,_,_,rfl,hp,R.cl,R.nT,df _ _,_,rfl,q,C,dy,_,_,rfl,hq,R.cl,R.nB,cs _ _,_,_,rfl,rfl,⟨bt.mono,bd.mono⟩,?_⟩;refine⟨_,rfl,q,C,dy,_,_,rfl,hq,R.cl,R.nT,df _ _,_,rfl,p,C,dx,_,_,rfl,hp,R.cl,R.nB,cs _ _,_,_,rfl,rfl,⟨bu.mono,bb.mono⟩,_,_,rfl,rfl,?_⟩;refine⟨_,rfl,p,C,dx,_,_,rfl,hp,R.cl,R.nB,cs _ _,_,_,rfl,rfl,⟨b2.mono,bb.mono⟩,_,rfl,q,C,dy,_,_,rfl,hq,R.cl,R.nB,cs _ _,_,_,rfl,rfl,⟨b2b.mono,bd.mono⟩,?_⟩;exact cI (Rf (QC (by omega) hd)) ((b2b.mul bd).mono) k
theorem Ae{os:List Int}{l j k:Nat}(h1:isB os l j)(h2:isB os l k):j=k:=by
 rcases Nat.lt_trichotomy j k with z |z |z
 ·obtain⟨x,hx,h⟩:=h2.2 j z;have:=h1.1 x hx;omega
 ·exact z
 ·obtain⟨x,hx,h⟩:=h1.2 k z;have:=h2.1 x hx;omega
theorem BK{ns:List Int}(h:AllB 250 ns)(hp:0<ap ns){kb:Nat}(hB:isB (ns.take (ns.length-1)) (ap ns).natAbs kb):kb<=252:=by
 rcases Nat.lt_or_ge kb 253 with z |z
 ·omega
 ·obtain⟨x,hx,h2⟩:=hB.2 252 (by omega);have h3:x.natAbs<2^250:=h x (S5 hx);have h4:2^250<=2^252-1:=by decide +kernel
  have h5:2^252-1<=(2^252-1)*(ap ns).natAbs:=Nat.le_mul_of_pos_right _ (by omega);omega
def NL(H H':Hp):Prop:=∀c o,H c=some o->(∀xs,o≠.lst xs)->H' c=some o
theorem NL.of{H H':Hp}(s:Same H H'):NL H H':=λc o e _=>s c o e
theorem NL.upd{H:Hp}{p:Addr}{xs:List V}{o:HO}(hp:H p=some (.lst xs)):NL H (upd H p o):=λc o' e hn=>by
 have:c≠p:=λz=>by rw[z,hp]at e;exact hn xs (Option.some.inj e).symm
 rw[upd_ne this];exact e
theorem NL.trans{H1 H2 H3:Hp}(a:NL H1 H2)(b:NL H2 H3):NL H1 H3:=λc o e hn=>b c o (a c o e hn) hn
theorem RA.nl{C:Addr}{H H':Hp}{p:Addr}{t b:Int}(h:RA C H p t b)(s:NL H H'):RA C H' p t b:=let⟨dx,e⟩:=h;⟨dx,s _ _ e (λ_=>by simp)⟩
structure Cel where
 q:Addr
 lo:Addr
 hi:Addr
 l1:Int
 l2:Int
 h1:Int
 h2:Int
 d:Nat
noncomputable def VV(fs:List (List Int))(t n:Int):Int:=(chS (sgs t n (dj fs))).1
noncomputable def Cel.cn(x:Cel)(fs:List (List Int)):Int:=bT (aL fs) x.l1 x.l2 x.h1 x.h2
def Cel.inn(x:Cel)(s:List Int):Prop:=0<al s x.l1 x.l2/\al s x.h1 x.h2<=0
structure WtH(C:Addr)(H:Hp)(fs:List (List Int))(kb:Nat)(x:Cel):Prop where
 tup:H x.q=some (.tup [.ref x.lo,.ref x.hi,.int (VV fs x.l1 x.l2),.int (VV fs x.h1 x.h2)])
 lo:RA C H x.lo x.l1 x.l2
 hi:RA C H x.hi x.h1 x.h2
 dy:Dya (2^kb) x.d x.l1 x.l2 x.h1 x.h2
 dd:x.d<=kb+201
theorem WtH.nl{C:Addr}{H H':Hp}{fs:List (List Int)}{kb:Nat}{x:Cel}(h:WtH C H fs kb x)(s:NL H H'):WtH C H' fs kb x:=⟨s _ _ h.tup (λ_=>by simp),h.lo.nl s,h.hi.nl s,h.dy,h.dd⟩
structure FdH(C:Addr)(H:Hp)(fs:List (List Int))(kb:Nat)(x:Cel):Prop where
 tup:H x.q=some (.tup [.ref x.lo,.ref x.hi])
 lo:RA C H x.lo x.l1 x.l2
 hi:RA C H x.hi x.h1 x.h2
 dy:Dya (2^kb) x.d x.l1 x.l2 x.h1 x.h2
 dd:x.d<=kb+201
 one:x.cn fs=1
theorem FdH.nl{C:Addr}{H H':Hp}{fs:List (List Int)}{kb:Nat}{x:Cel}(h:FdH C H fs kb x)(s:NL H H'):FdH C H' fs kb x:=⟨s _ _ h.tup (λ_=>by simp),h.lo.nl s,h.hi.nl s,h.dy,h.dd,h.one⟩
theorem oW{kb d:Nat}{l1 l2 h1 h2:Int}(h:Dya (2^kb) d l1 l2 h1 h2)(hk:kb<=252)(hd:d<=kb+201):Bits 710 l1/\Bits 710 l2/\Bits 710 h1/\Bits 710 h2:=by obtain⟨⟨a,b⟩,c,e⟩:=h.bits;have hp:2^(kb+d)<2^710:=(SM (by decide)).mpr (by omega);exact⟨RB a hp,RB b hp,RB c hp,RB e hp⟩
theorem K9{kb d:Nat}{l1 l2 h1 h2:Int}(h:Dya (2^kb) d l1 l2 h1 h2)(hk:kb<=252)(hd:d<=kb+201):EndsG 710 l1 l2 h1 h2:=by obtain⟨a,b,c,e⟩:=oW h hk hd;exact⟨h.l2p,h.h2p,a,b,c,e,h.lt (Rl (by decide)),h.gl,h.gh⟩
noncomputable def wgt(fs:List (List Int))(kb:Nat)(x:Cel):Nat:=1+2*((x.cn fs).toNat*(kb+201-x.d))
noncomputable def eK(fs:List (List Int))(kb:Nat)(ws:List Cel):Nat:=(ws.map (wgt fs kb)).sum
theorem jI(fs:List (List Int))(kb:Nat)(ws:List Cel)(x:Cel):eK fs kb (ws++[x])=eK fs kb ws+wgt fs kb x:=by unfold eK;rw[QY,List.sum_append];simp
theorem o9(fs:List (List Int))(kb:Nat):∀ws:List Cel,ws.length<=eK fs kb ws
 | []=>QD _
 |x::ws=>by have:=o9 fs kb ws;show ws.length+1<=wgt fs kb x+eK fs kb ws;unfold wgt;omega
noncomputable def qs(ws:List Cel):List V:=ws.map λx=>V.ref x.q
theorem nY(ws:List Cel)(x:Cel):qs (ws++[x])=qs ws++[V.ref x.q]:=by unfold qs;rw[QY];rfl
theorem Bt(l1 l2 h1 h2:Int):∀ls:List (List Int),bT ls l1 l2 h1 h2<=ls.length
 | []=>Q7 _
 |l::ls=>by rw[dm];have:=Bt l1 l2 h1 h2 ls;rw[Rb];split<;>omega
theorem wI:∀fs:List (List Int),(aL fs).length<=2*fs.length
 | []=>QD _
 |f::fs=>by
  have:=wI fs;show(spF f++aL fs).length<=2*(fs.length+1);rw[QO]
  have h2:(spF f).length<=2:=by unfold spF;rw[QO];split<;>split<;>simp
  omega
theorem KI{fs:List (List Int)}(h:Fam fs):fs.length+1<=(prQ fs).length:=by
 have hp:=h.pri;rw[h.prd];generalize hs:fs.map ah=ss at hp
 have e:fs.length=ss.length:=by rw[<- hs,QB]
 rw[e];clear e hs h
 induction ss with
 |nil=>simp[prd]
 |cons s ss ih =>
  have h1:=ih λx hx=>hp x (QJ _ hx)
  have h2:=hp s (QN ..);have h3:Pln (prd ss):=iX ss λx hx=>(hp x (QJ _ hx)).pln
  have h4:=bZ h2.pln.ne h3.ne;have h5:=h2.two;show ss.length+1+1<=(af s (prd ss)).length;omega
def cov(s:List Int)(xs:List Cel):Prop:=∃x∈xs,x.inn s
theorem cov_snoc{s:List Int}{xs:List Cel}{x:Cel}:cov s (xs++[x])↔cov s xs\/x.inn s:=by
 constructor
 ·rintro⟨y,hy,h⟩;rcases QS.mp hy with z |z
  ·exact .inl ⟨y,z,h⟩
  ·rw[QF.mp z]at h;exact .inr h
 ·rintro(⟨y,hy,h⟩ |h)
  ·exact⟨y,RU _ hy,h⟩
  ·exact⟨x,by simp,h⟩
def xG(C:Addr):Sp:=λvs H Q _=>∃(a:Addr) (fs:List (List Int)),vs=[.ref a]/\H a=some (.lst ((prQ fs).map V.int))/\Whl fs /\
 ∀(kb:Nat) (p:Addr) (ys:List Cel) (H':Hp),kb<=252->isB ((prQ fs).take ((prQ fs).length-1)) (ap (prQ fs)).natAbs kb->Same H H'->H p=none->H' p=some (.lst (qs ys))->(∀y∈ys,FdH C H' fs kb y)->(∀s∈aL fs,cov s ys)->ys.length<=12000->Q (.ref p) H'
theorem GI(F:Fun K "cells" "cells" rA f fd)(T:Txt K mg)(R:RCI K mg C)(fV:Cal P w K mg base 1 "degree" ["row"] iR mD mB)(mW:Cal P w K mg base 35 "row_of" ["polynomial"] nr AO AL)(cc:KCal P w K mg base 2 C "Ratio" ["self","top","bottom"] (da C) dN dM dO [.int 1])(mY:Cal P w K mg base 1 "bound" ["row"] (nE K) AR AN)(vK:Cal P w K mg base 3 "changes" ["row","ratio"] (pT C) KR KA)(N6:Cal P w K mg base 4 "middle" ["low","high"] (xu C) P6 O1):FnOk P w K mg base CX0 36 f fd ["row"] (xG C):=by
 obtain⟨dS,dI,dL,dR⟩:=fV;obtain⟨mT,ma,mj,mO⟩:=mW;obtain⟨bC,bz,bj,b9,cF,cD⟩:=cc;obtain⟨jC,jb,jh,jx⟩:=mY;obtain⟨kF,j9,kd,kq⟩:=vK;obtain⟨Nf,Ig,Jt,Md⟩:=N6;refine F.ok sc_cells (λvs H Q E h=>?_) (λcdv A outer s H vs Q E hr h=>?_)
 ·obtain⟨a,fs,rfl,_⟩:=h;rfl
 ·obtain⟨a,fs,rfl,hA,hW,k⟩:=h;have big:=sizeLine_eq;have hP:=hW.fam.pln;have l7:=hW.l7;have l2':=hW.l2;have hml:((prQ fs).map V.int).length=(prQ fs).length:=QB _;obtain⟨rn,rx,rl⟩:=sd hW.fam l7 hW.bits
  refine⟨_,(ag (aO (aG cY (aq dS (hr.mono) rfl dI dL dR .nil aj (aa (pv 0) ac)) ad (aE _))
   (ak (av (bK ac)))
   aP)
   (ag (ao (i:=1) sc_cells.nd rfl (Or.inl rfl) (aq mT (hr.mono) rfl ma mj mO .nil aj (aa (pv 0) ac)))
   (ag (ao (i:=2) sc_cells.nd rfl (Or.inl rfl) (b5 bz bC (hr.mono) rfl bj cF cD aj (aa (aq jC (hr.mono) rfl jb jh jx .nil aj (aa (pv 0) ac)) ac)))
   (ag (ao (i:=3) sc_cells.nd rfl (Or.inl rfl) (b5 bz bC (hr.mono) rfl bj cF cD aj (aa (bH bF (aq jC (hr.mono) rfl jb jh jx .nil aj (aa (pv 0) ac))) ac)))
   (ag (ao (i:=4) sc_cells.nd rfl (Or.inl rfl) (bK (aa (du (aa (pv 3) (aa (pv 2) (aa (aq kF (hr.mono) rfl j9 kd kq .nil aj (aa (pv 1) (aa (pv 3) ac))) (aa (aq kF (hr.mono) rfl j9 kd kq .nil aj (aa (pv 1) (aa (pv 2) ac))) ac))))) ac)))
   (ag (ao (i:=5) sc_cells.nd rfl (Or.inl rfl) (bK ac))
   (ag (f7 PassesOwn.never (aG cQ (bX (dz (K:=K) rfl) (by rfl) T.len_ PySem.boot_len (aa (pv 4) ac)) ad (aE _))
     (ag (ao (i:=6) sc_cells.nd rfl (Or.inl rfl) (sF PySem.F.plainAttrs_list PySem.F.slot_list_pop PySem.F.type_list_pop Hn (pv 4)))
       (ag (ao (i:=7) sc_cells.nd rfl (Or.inl rfl) (ai ca (aI (aW (K:=K) rfl) (pv 6) ad (λ_ _=>rfl)) (aI (aW (K:=K) rfl) (pv 6) ad (λ_ _=>rfl))))
       (ag (aO (aG cR (pv 7) ad (aE _))
         (ak (eO (fF PySem.F.plainAttrs_list PySem.F.slot_list_append PySem.F.type_list_append iw (pv 5) (aa (du (aa (aI (aW (K:=K) rfl) (pv 6) ad (λ_ _=>rfl)) (aa (aI (aW (K:=K) rfl) (pv 6) ad (λ_ _=>rfl)) ac))) ac))))
         aP)
       (ak (aO (aG cQ (pv 7) ad (aE _))
         (ag (ao (i:=8) sc_cells.nd rfl (Or.inl rfl) (aq Nf (hr.mono) rfl Ig Jt Md .nil aj (aa (aI (aW (K:=K) rfl) (pv 6) ad (λ_ _=>rfl)) (aa (aI (aW (K:=K) rfl) (pv 6) ad (λ_ _=>rfl)) ac))))
           (ag (ao (i:=9) sc_cells.nd rfl (Or.inl rfl) (aq kF (hr.mono) rfl j9 kd kq .nil aj (aa (pv 1) (aa (pv 8) ac))))
           (ag (eO (fF PySem.F.plainAttrs_list PySem.F.slot_list_append PySem.F.type_list_append iw (pv 4) (aa (du (aa (pv 8) (aa (aI (aW (K:=K) rfl) (pv 6) ad (λ_ _=>rfl)) (aa (pv 9) (aa (aI (aW (K:=K) rfl) (pv 6) ad (λ_ _=>rfl)) ac))))) ac)))
           (ak (eO (fF PySem.F.plainAttrs_list PySem.F.slot_list_append PySem.F.type_list_append iw (pv 4) (aa (du (aa (aI (aW (K:=K) rfl) (pv 6) ad (λ_ _=>rfl)) (aa (pv 8) (aa (aI (aW (K:=K) rfl) (pv 6) ad (λ_ _=>rfl)) (aa (pv 9) ac))))) ac)))))))
         aP))))))
   (ak (av (pv 5)))))))))),?_⟩
  refine bI ⟨_,rfl,a,_,rfl,hA,_,_,rfl,rfl,_,rfl,aH (λh0=>absurd (show(((prQ fs).map V.int).length:Int)-1<1 from h0) (by rw[hml];omega)) (λ_=>?_)⟩;refine aw ⟨_,rfl,a,prQ fs,9,rfl,hA,hP.tr,hW.bits.mono,by omega,by decide,rn,λpc ps H1 s1 hpc hnew ec hR=>?_⟩;have hR':RwH H1 ps (dj fs):=hR;refine aw ⟨_,rfl,a,prQ fs,rfl,SqL.of (s1 _ _ hA),hP.tr,hP.ne,by omega,hW.bits.mono,λkb H2 hkb hB s2=>cI (t:=((2^kb:Nat):Int)) (b:=1) (by decide) (b1k (by decide)) λph H3 s3 hph hRh=>?_⟩;rw[ia,ic]at hRh;have t3:=(s1.trans s2).trans s3;refine aw ⟨_,rfl,a,prQ fs,rfl,SqL.of (t3 _ _ hA),hP.tr,hP.ne,by omega,hW.bits.mono,λkb' H4 hkb' hB' s4=>?_⟩;obtain rfl:=Ae hB hB';refine⟨_,rfl,cI (t := -((2^kb:Nat):Int)) (b:=1) (by decide) (b1k (by decide)) λpl H5 s5 hpl hRl=>?_⟩;rw[ia,ic]at hRl;have hk:=BK hW.bits hP.pos hB;have eB:((2^kb:Nat):Int)=(2:Int)^kb:=by rw[Ss];rfl
  rw[eB]at hRh hRl;have B0:(0:Int)<2^kb:=Rl (by decide);have t5:=(t3.trans s4).trans s5;have u5:=(s2.trans s3).trans (s4.trans s5);have ec5:=u5 _ _ ec;have hR5:=hR'.same u5;have hRh5:=hRh.same (s4.trans s5);have dy0:Dya (2^kb) 0 (-(2^kb)) 1 (2^kb) 1:=Dya.start;obtain⟨b1,b2,b3,b4⟩:=oW dy0 hk (by omega);refine aw ⟨_,rfl,_,rfl,_,rfl,_,rfl,pc,pl,ps,dj fs,_,_,rfl,ec5,hR5,hRl,b1.mono,b2.mono,rx,rl,λH6 s6=>?_⟩;refine⟨_,rfl,_,rfl,pc,ph,ps,dj fs,_,_,rfl,s6 _ _ ec5,hR5.same s6,hRh5.same s6,b3.mono,b4.mono,rx,rl,λH7 s7=>⟨by show 4<=sizeLine;omega,λq0 hq0=>⟨by show 1<=sizeLine;omega,λpw hpw=>?_⟩⟩⟩;have u7:=s6.trans s7;have ec7:=u7 _ _ ec5;have hR7:=hR5.same u7;have hRl7:=hRl.same u7;have hRh7:=hRh5.same u7;have t7:=t5.trans u7;have w7:Same H7 (upd H7 q0 (.tup [.ref pl,.ref ph,.int (VV fs (-(2^kb)) 1),.int (VV fs (2^kb) 1)])):=Same.upd_new hq0;have e8:upd H7 q0 (.tup [.ref pl,.ref ph,.int (VV fs (-(2^kb)) 1),.int (VV fs (2^kb) 1)]) q0=some (.tup [.ref pl,.ref ph,.int (VV fs (-(2^kb)) 1),.int (VV fs (2^kb) 1)]):=au;have hpw':upd H7 q0 (.tup [.ref pl,.ref ph,.int (VV fs (-(2^kb)) 1),.int (VV fs (2^kb) 1)]) pw=none:=hpw;refine aw ⟨QH _,λpf hpf=>?_⟩;have hpf':upd (upd H7 q0 (.tup [.ref pl,.ref ph,.int (VV fs (-(2^kb)) 1),.int (VV fs (2^kb) 1)])) pw (.lst [V.ref q0]) pf=none:=hpf;show cM _ _ _ _ _;refine dD (λσ' H'=>σ'=[some (.ref a),some (.ref pc),some (.ref ph),some (.ref pl),some (.ref pw),some (.ref pf),none,none,none,none]/\upd (upd (upd H7 q0 (.tup [.ref pl,.ref ph,.int (VV fs (-(2^kb)) 1),.int (VV fs (2^kb) 1)])) pw (.lst [V.ref q0])) pf (.lst [])=H') ⟨rfl,rfl⟩ ?_;rintro σ' H10 ⟨rfl,eH10⟩;generalize upd H7 q0 (.tup [.ref pl,.ref ph,.int (VV fs (-(2^kb)) 1),.int (VV fs (2^kb) 1)])=H8 at w7 e8 hpw' hpf' eH10
  have sw:Same H8 (upd H8 pw (.lst [V.ref q0])):=Same.upd_new hpw';have sf:Same (upd H8 pw (.lst [V.ref q0])) H10:=by rw[<- eH10];exact Same.upd_new hpf'
  have s810:=sw.trans sf;have fw:H8 pw=none:=hpw';have ff:H8 pf=none:=sw.free hpf';have nwf:pw≠pf:=aY (au (H:=H8) (o:=.lst [V.ref q0])) hpf';have ew10:H10 pw=some (.lst [V.ref q0]):=sf _ _ au;have ef10:H10 pf=some (.lst []):=by rw[<- eH10];exact au
  have x0w:WtH C H10 fs kb ⟨q0,pl,ph,-(2^kb),1,2^kb,1,0⟩:=⟨s810 _ _ e8,hRl7.same (w7.trans s810),hRh7.same (w7.trans s810),dy0,QH _⟩
  have cov0:∀s∈aL fs,cov s [⟨q0,pl,ph,-(2^kb),1,2^kb,1,0⟩]:=λs hs=>by obtain⟨z1,z2⟩:=wL hW.fam.fac hW.fam.nd (B:=2^kb) (RC (by decide)) hB.1 hs;rw[eB]at z1 z2;exact⟨_,QF.mpr rfl,z2,QE z1⟩
  clear eH10 sw sf;have hsp:=wI fs;have hfl:=KI hW.fam
  have hm0:eK fs kb [⟨q0,pl,ph,-(2^kb),1,2^kb,1,0⟩]<=11000:=by
   show wgt fs kb _+0<=11000;unfold wgt;have h1:=Bt (-(2^kb)) 1 (2^kb) 1 (aL fs)
   have h2:(Cel.cn ⟨q0,pl,ph,-(2^kb),1,2^kb,1,0⟩ fs).toNat<=12:=by show(bT (aL fs) (-(2^kb)) 1 (2^kb) 1).toNat<=12;omega
   have h3:=RD h2 (show kb+201-0<=453 by omega);have h4:(kb+201-(Cel.mk q0 pl ph (-(2^kb)) 1 (2^kb) 1 0).d)=kb+201-0:=rfl;rw[h4];omega
  refine⟨λm σ' H'=>∃(ws ys:List Cel) (z6 z7 z8 z9:Option V),m=eK fs kb ws/\σ'=[some (.ref a),some (.ref pc),some (.ref ph),some (.ref pl),some (.ref pw),some (.ref pf),z6,z7,z8,z9]/\Same H8 H'/\H' pw=some (.lst (qs ws))/\H' pf=some (.lst (qs ys))/\(∀x∈ws,WtH C H' fs kb x)/\(∀y∈ys,FdH C H' fs kb y)/\(∀s∈aL fs,cov s ws\/cov s ys)/\ys.length+m<=11000,
   ⟨_,[⟨q0,pl,ph,-(2^kb),1,2^kb,1,0⟩],[],none,none,none,none,rfl,rfl,s810,ew10,ef10,λx hx=>by rw[QF.mp hx];exact x0w,(λy hy=>nomatch hy),λs hs=>.inl (cov0 s hs),by show 0+_<=_;omega⟩,?_⟩
  clear hm0 cov0 x0w ew10 ef10 s810;rintro m σ' H' ⟨ws,ys,z6,z7,z8,z9,rfl,rfl,sm,ew,ef,hws,hys,hcov,hlen⟩;have hwl:=o9 fs kb ws;have hql:(qs ws).length=ws.length:=QB _;refine⟨_,rfl,pw,_,rfl,.inl (SqL.of ew),_,_,rfl,rfl,_,rfl,aH (λhgt=>?_) (λhle=>?_)⟩
  rotate_left
  ·
   have h0:ws=[]:=Sd.mp (by have:¬((qs ws).length:Int)>0:=hle;rw[hql]at this;omega);subst h0;refine⟨_,rfl,k kb pf ys H' hk hB (t7.trans (w7.trans sm)) ((t7.trans w7).free ff) ef hys (λs hs=>?_) (by omega)⟩;rcases hcov s hs with⟨x,hx,_⟩ |z
   ·cases hx
   ·exact z
  ·have hne:ws≠[]:=λz=>by rw[z]at hql;have:((qs ws).length:Int)>0:=hgt;rw[z]at this;exact absurd this (by decide)
   obtain⟨ws',x,rfl⟩:∃ws' x,ws=ws'++[x]:=⟨ws.dropLast,ws.getLast hne,(List.dropLast_concat_getLast hne).symm⟩;rw[jI]at hlen;rw[nY]at ew;have hx:=hws x (by simp);have hw':∀y∈ws',WtH C H' fs kb y:=λy hy=>hws y (by simp[hy])
   clear hws hql hgt hne;have hwl:=o9 fs kb ws';refine⟨λσ'' H''=>∃m',m'<eK fs kb (ws'++[x])/\∃(ws ys:List Cel) (z6 z7 z8 z9:Option V),m'=eK fs kb ws/\σ''=[some (.ref a),some (.ref pc),some (.ref ph),some (.ref pl),some (.ref pw),some (.ref pf),z6,z7,z8,z9]/\Same H8 H''/\H'' pw=some (.lst (qs ws))/\H'' pf=some (.lst (qs ys))/\(∀x∈ws,WtH C H'' fs kb x)/\(∀y∈ys,FdH C H'' fs kb y)/\(∀s∈aL fs,cov s ws\/cov s ys)/\ys.length+m'<=11000,λ_ _ h=>h,?_⟩;rw[jI];refine aw ⟨_,rfl,.inl ⟨rfl,_,SqL.of ew⟩,pw,_,V.ref x.q,rfl,rfl,ew,by rw[QO];simp,?_⟩;rw[List.dropLast_concat];have ew1:upd H' pw (.lst (qs ws')) pw=some (.lst (qs ws')):=au;have ef1:upd H' pw (.lst (qs ws')) pf=some (.lst (qs ys)):=by rw[upd_ne (Ne.symm nwf)];exact ef
   have n1:NL H' (upd H' pw (.lst (qs ws'))):=NL.upd ew;have sm1:Same H8 (upd H' pw (.lst (qs ws'))):=eu sm fw;generalize upd H' pw (.lst (qs ws'))=K1 at ew1 ef1 n1 sm1 ⊢
   have hx1:=hx.nl n1;have hw1:∀y∈ws',WtH C K1 fs kb y:=λy hy=>(hw' y hy).nl n1
   have hy1:∀y∈ys,FdH C K1 fs kb y:=λy hy=>(hys y hy).nl n1
   clear hw' hys ew ef sm n1 hx;refine aw ⟨_,rfl,x.q,_,_,_,rfl,rfl,SqT.of hx1.tup,rfl,_,rfl,x.q,_,_,_,rfl,rfl,SqT.of hx1.tup,rfl,_,_,rfl,rfl,?_⟩;have ecn:VV fs x.l1 x.l2-VV fs x.h1 x.h2=x.cn fs:=nV hW.fam l7 hx1.dy.l2p hx1.dy.h2p (hx1.dy.lt B0);dsimp only
   rw[ecn];have cn0:0<=x.cn fs:=mI _ _ _ _ _;refine dF (λσ' H'=>∃ys:List Cel,σ'=[some (.ref a),some (.ref pc),some (.ref ph),some (.ref pl),some (.ref pw),some (.ref pf),some (.ref x.q),some (.int (x.cn fs)),z8,z9]/\Same H8 H'/\H' pw=some (.lst (qs ws'))/\H' pf=some (.lst (qs ys))/\WtH C H' fs kb x/\(∀y∈ws',WtH C H' fs kb y)/\(∀y∈ys,FdH C H' fs kb y)/\(∀s∈aL fs,cov s ws'\/(x.cn fs≠1/\x.inn s)\/cov s ys)/\ys.length+eK fs kb ws'+(if x.cn fs=1 then 0 else wgt fs kb x)<=11000) ?_ ?_
   case refine_2 =>
    intro rest;refine⟨_,rfl,_,_,rfl,rfl,_,rfl,aH (λh1=>?_) (λh1=>?_)⟩
    ·have h1':x.cn fs=1:=h1;refine sj ⟨_,rfl,.inl ⟨rfl,_,SqL.of ef1⟩,_,rfl,x.q,_,_,_,rfl,rfl,SqT.of hx1.tup,rfl,_,rfl,x.q,_,_,_,rfl,rfl,SqT.of hx1.tup,rfl,by show 2<=sizeLine;omega,λp hp=>?_⟩;have s2:Same K1 (upd K1 p (.tup [V.ref x.lo,V.ref x.hi])):=Same.upd_new hp;have e2:upd K1 p (.tup [V.ref x.lo,V.ref x.hi]) p=some (.tup [V.ref x.lo,V.ref x.hi]):=au;generalize upd K1 p (.tup [V.ref x.lo,V.ref x.hi])=K2 at s2 e2 ⊢
     have ef2:=s2 _ _ ef1;have hyl:(qs ys).length=ys.length:=QB _;refine⟨pf,_,_,rfl,rfl,ef2,by rw[hyl];omega,?_⟩;have n3:NL K1 (upd K2 pf (.lst (qs ys++[V.ref p]))):=(NL.of s2).trans (NL.upd ef2);have n4:NL K2 (upd K2 pf (.lst (qs ys++[V.ref p]))):=NL.upd ef2;refine rest _ _ ⟨ys++[⟨p,x.lo,x.hi,x.l1,x.l2,x.h1,x.h2,x.d⟩],rfl,eu (sm1.trans s2) ff,by rw[upd_ne nwf];exact s2 _ _ ew1,by rw[au,nY],hx1.nl n3,λy hy=>(hw1 y hy).nl n3,λy hy=>?_,λs hs=>?_,?_⟩
     ·rcases QS.mp hy with z |z
      ·exact(hy1 y z).nl n3
      ·rw[QF.mp z];exact⟨n4 _ _ e2 (λ_=>by simp),hx1.lo.nl n3,hx1.hi.nl n3,hx1.dy,hx1.dd,h1'⟩
     ·rcases hcov s hs with z |z
      ·rcases cov_snoc.mp z with z |z
       ·exact .inl z
       ·exact .inr (.inr (cov_snoc.mpr (.inr z)))
      ·exact .inr (.inr (cov_snoc.mpr (.inl z)))
     ·rw[if_pos h1',QO];show ys.length+1+_+0<=_;have:1<=wgt fs kb x:=by unfold wgt;omega
      omega
    ·have h1':¬x.cn fs=1:=h1;refine rest _ _ ⟨ys,rfl,sm1,ew1,ef1,hx1,hw1,hy1,λs hs=>?_,by rw[if_neg h1'];omega⟩;rcases hcov s hs with z |z
     ·rcases cov_snoc.mp z with z |z
      ·exact .inl z
      ·exact .inr (.inl ⟨h1',z⟩)
     ·exact .inr (.inr z)
   clear hcov hlen hy1 hw1 hx1 ef1 ew1 sm1 ys;rintro σ' K3 ⟨ys,rfl,sm1,ew1,ef1,hx1,hw1,hy1,hcov,hlen⟩;refine⟨_,rfl,_,_,rfl,rfl,_,rfl,aH (λh2=>?_) (λh2=>?_)⟩
   rotate_left
   ·
    have h2':¬x.cn fs>1:=h2;refine⟨eK fs kb ws',by unfold wgt;omega,ws',ys,_,_,_,_,rfl,rfl,sm1,ew1,ef1,hw1,hy1,λs hs=>?_,by split at hlen<;>omega⟩;rcases hcov s hs with z |⟨z1,z2⟩ |z
    ·exact .inl z
    ·have:1<=x.cn fs:=Bs hs z2;omega
    ·exact .inr z
   have h2':x.cn fs>1:=h2;rw[if_neg (show ¬x.cn fs=1 by omega)]at hlen
   have hdl:x.d<kb+201:=Nat.not_le.mp λz=>by have:x.cn fs<=1:=Dya.few hW.fam.fac hW.fam.nd hx1.dy z;omega
   obtain⟨c1,c2,c3,c4⟩:=oW hx1.dy hk hx1.dd;refine aw ⟨_,rfl,x.q,_,_,_,rfl,rfl,SqT.of hx1.tup,rfl,_,rfl,x.q,_,_,_,rfl,rfl,SqT.of hx1.tup,rfl,x.lo,x.hi,_,_,_,_,rfl,hx1.lo,hx1.hi,c1.mono,c2.mono,c3.mono,c4.mono,hx1.dy.l2p,hx1.dy.h2p,λpm K4 s4 hpm hRm=>?_⟩;have n0:2*x.l2*x.h2≠0:=Rf (QC (by have:=hx1.dy.l2p;omega) hx1.dy.h2p);obtain⟨dl,dr⟩:=hx1.dy.half (c7 n0) (ie n0) (ei n0);generalize rt (x.l1*x.h2+x.h1*x.l2) (2*x.l2*x.h2)=m1 at hRm dl dr
   generalize rb (x.l1*x.h2+x.h1*x.l2) (2*x.l2*x.h2)=m2 at hRm dl dr
   have hx4:=hx1.nl (NL.of s4);obtain⟨g1,g2,g3,g4⟩:=oW dl hk (by omega);have sm4:=sm1.trans s4;refine aw ⟨_,rfl,_,rfl,pc,pm,ps,dj fs,m1,m2,rfl,sm4 _ _ (w7 _ _ ec7),hR7.same (w7.trans sm4),hRm,g3.mono,g4.mono,rx,rl,λK5 s5=>?_⟩;have hx5:=hx4.nl (NL.of s5);have u5:=s4.trans s5;refine gq ⟨_,rfl,.inl ⟨rfl,_,SqL.of (u5 _ _ ew1)⟩,_,rfl,_,rfl,x.q,_,_,_,rfl,rfl,SqT.of hx5.tup,rfl,_,rfl,_,rfl,x.q,_,_,_,rfl,rfl,SqT.of hx5.tup,rfl,by show 4<=sizeLine;omega,λq1 hq1=>?_⟩;have s6:Same K5 (upd K5 q1 (.tup [V.ref pm,V.ref x.hi,V.int (VV fs m1 m2),V.int (VV fs x.h1 x.h2)])):=Same.upd_new hq1;have e6:upd K5 q1 (.tup [V.ref pm,V.ref x.hi,V.int (VV fs m1 m2),V.int (VV fs x.h1 x.h2)]) q1=some (.tup [V.ref pm,V.ref x.hi,V.int (VV fs m1 m2),V.int (VV fs x.h1 x.h2)]):=au;refine si (H2:=upd K5 q1 (.tup [V.ref pm,V.ref x.hi,V.int (VV fs m1 m2),V.int (VV fs x.h1 x.h2)])) rfl ?_;generalize upd K5 q1 (.tup [V.ref pm,V.ref x.hi,V.int (VV fs m1 m2),V.int (VV fs x.h1 x.h2)])=K6 at s6 e6 ⊢
   have u6:=u5.trans s6;have ew6:=u6 _ _ ew1;have ef6:=u6 _ _ ef1;have hql:(qs ws').length=ws'.length:=QB _;refine⟨pw,_,_,rfl,rfl,ew6,by rw[hql];omega,?_⟩;have ew7:upd K6 pw (.lst (qs ws'++[V.ref q1])) pw=some (.lst (qs ws'++[V.ref q1])):=au;have ef7:upd K6 pw (.lst (qs ws'++[V.ref q1])) pf=some (.lst (qs ys)):=by rw[upd_ne (Ne.symm nwf)];exact ef6
   have n7:NL K6 (upd K6 pw (.lst (qs ws'++[V.ref q1]))):=NL.upd ew6;have sm7:Same H8 (upd K6 pw (.lst (qs ws'++[V.ref q1]))):=eu (sm1.trans u6) fw;generalize upd K6 pw (.lst (qs ws'++[V.ref q1]))=K7 at ew7 ef7 n7 sm7 ⊢
   have m5:NL K5 K7:=(NL.of s6).trans n7;have hx7:=hx5.nl m5;refine sj ⟨_,rfl,.inl ⟨rfl,_,SqL.of ew7⟩,_,rfl,x.q,_,_,_,rfl,rfl,SqT.of hx7.tup,rfl,_,rfl,_,rfl,x.q,_,_,_,rfl,rfl,SqT.of hx7.tup,rfl,_,rfl,by show 4<=sizeLine;omega,λq2 hq2=>?_⟩;have s8:Same K7 (upd K7 q2 (.tup [V.ref x.lo,V.ref pm,V.int (VV fs x.l1 x.l2),V.int (VV fs m1 m2)])):=Same.upd_new hq2;have e8':upd K7 q2 (.tup [V.ref x.lo,V.ref pm,V.int (VV fs x.l1 x.l2),V.int (VV fs m1 m2)]) q2=some (.tup [V.ref x.lo,V.ref pm,V.int (VV fs x.l1 x.l2),V.int (VV fs m1 m2)]):=au;refine si (H2:=upd K7 q2 (.tup [V.ref x.lo,V.ref pm,V.int (VV fs x.l1 x.l2),V.int (VV fs m1 m2)])) rfl ?_;generalize upd K7 q2 (.tup [V.ref x.lo,V.ref pm,V.int (VV fs x.l1 x.l2),V.int (VV fs m1 m2)])=K8 at s8 e8' ⊢
   have ew8:=s8 _ _ ew7;have hql8:(qs ws'++[V.ref q1]).length=ws'.length+1:=by rw[QO,hql];rfl
   refine⟨pw,_,_,rfl,rfl,ew8,by rw[hql8];omega,?_⟩;have n9:NL K8 (upd K8 pw (.lst ((qs ws'++[V.ref q1])++[V.ref q2]))):=NL.upd ew8;have m7:NL K7 (upd K8 pw (.lst ((qs ws'++[V.ref q1])++[V.ref q2]))):=(NL.of s8).trans n9;have m6:=n7.trans m7;have mm5:=m5.trans m7;have m3:=(NL.of u5).trans mm5;have ladd:x.cn fs=(Cel.mk q2 x.lo pm x.l1 x.l2 m1 m2 (x.d+1)).cn fs+(Cel.mk q1 pm x.hi m1 m2 x.h1 x.h2 (x.d+1)).cn fs:=Lz hW.fam.q dl.l2p dl.h2p dr.h2p (dl.lt B0) (dr.lt B0)
   have wl:wgt fs kb ⟨q1,pm,x.hi,m1,m2,x.h1,x.h2,x.d+1⟩+wgt fs kb ⟨q2,x.lo,pm,x.l1,x.l2,m1,m2,x.d+1⟩<wgt fs kb x:=by
    have p1:0<=(Cel.mk q2 x.lo pm x.l1 x.l2 m1 m2 (x.d+1)).cn fs:=mI _ _ _ _ _;have p2:0<=(Cel.mk q1 pm x.hi m1 m2 x.h1 x.h2 (x.d+1)).cn fs:=mI _ _ _ _ _;unfold wgt;show 1+2*(_*(kb+201-(x.d+1)))+(1+2*(_*(kb+201-(x.d+1))))<_;generalize (Cel.mk q2 x.lo pm x.l1 x.l2 m1 m2 (x.d+1)).cn fs=A at *
    generalize (Cel.mk q1 pm x.hi m1 m2 x.h1 x.h2 (x.d+1)).cn fs=B at *
    obtain⟨A,rfl⟩:=Sz p1;obtain⟨B,rfl⟩:=Sz p2;obtain⟨t,ht⟩:∃t,kb+201-x.d=t+1:=⟨kb+201-x.d-1,by omega⟩;have ht':kb+201-(x.d+1)=t:=by omega
    have hc:(x.cn fs).toNat=A+B:=by omega
    rw[hc,ht,ht'];show 1+2*(B*t)+(1+2*(A*t))<1+2*((A+B)*(t+1));have e1:(A+B)*(t+1)=A*t+B*t+(A+B):=by rw[Nat.mul_succ,Nat.add_mul]
    rw[e1];omega
   refine⟨eK fs kb (ws'++[⟨q1,pm,x.hi,m1,m2,x.h1,x.h2,x.d+1⟩]++[⟨q2,x.lo,pm,x.l1,x.l2,m1,m2,x.d+1⟩]),by rw[jI,jI];omega,_,ys,_,_,_,_,rfl,rfl,eu (sm7.trans s8) fw,by rw[au,nY,nY],by rw[upd_ne (Ne.symm nwf)];exact s8 _ _ ef7,λy hy=>?_,λy hy=>(hy1 y hy).nl m3,λs hs=>?_,by rw[jI,jI];omega⟩
   ·rcases QS.mp hy with z |z
    ·rcases QS.mp z with z |z
     ·exact(hw1 y z).nl m3
     ·rw[QF.mp z];exact⟨m6 _ _ e6 (λ_=>by simp),(hRm.same s5).nl mm5,hx5.hi.nl mm5,dr,by show x.d+1<=_;omega⟩
    ·rw[QF.mp z];exact⟨n9 _ _ e8' (λ_=>by simp),hx5.lo.nl mm5,(hRm.same s5).nl mm5,dl,by show x.d+1<=_;omega⟩
   ·rcases hcov s hs with z |⟨_,z2⟩ |z
    ·exact .inl (cov_snoc.mpr (.inl (cov_snoc.mpr (.inl z))))
    ·rcases RZ 0 (al s m1 m2)with v |v
     ·exact .inl (cov_snoc.mpr (.inl (cov_snoc.mpr (.inr ⟨v,z2.2⟩))))
     ·exact .inl (cov_snoc.mpr (.inr ⟨z2.1,v⟩))
    ·exact .inr z
theorem mh{ns:List Int}(h:ns≠[]):atI (ns.map V.int) (-1)=some (.int (ap ns)):=by obtain⟨r,x,rfl⟩:=(db ns).resolve_left h;rw[dJ];exact BW r x
theorem mf{k:Nat}{ns:List Int}(h:AllB k ns):Bits k (ap ns):=h.cf _
def xC(C:Addr):Sp:=λvs H Q _=>∃(a:Addr) (fs:List (List Int)),vs=[.ref a]/\H a=some (.lst ((prQ fs).map V.int))/\Whl fs/\∀(x:Addr) (H':Hp) (kb:Nat),kb<=252->isB ((prQ fs).take ((prQ fs).length-1)) (ap (prQ fs)).natAbs kb->Same H H'->H x=none->RA C H' x 1 (8*ap (prQ fs)*2^kb)->0<8*ap (prQ fs)*(2:Int)^kb->Bits 520 (8*ap (prQ fs)*(2:Int)^kb)->Q (.ref x) H'
theorem Gy(F:Fun K "fine_width" "fine_width" re f fd)(T:Txt K mg)(R:RCI K mg C)(cc:KCal P w K mg base 2 C "Ratio" ["self","top","bottom"] (da C) dN dM dO [.int 1])(mY:Cal P w K mg base 1 "bound" ["row"] (nE K) AR AN):FnOk P w K mg base CX0 4 f fd ["whole"] (xC C):=by
 obtain⟨bC,bz,bj,b9,cF,cD⟩:=cc;obtain⟨jC,jb,jh,jx⟩:=mY;refine F.ok DZ (λvs H Q E h=>?_) (λcdv A outer s H vs Q E hr h=>?_)
 ·obtain⟨a,fs,rfl,_⟩:=h;rfl
 ·obtain⟨a,fs,rfl,hA,hW,k⟩:=h;refine⟨_,(ak (av (b5 bz bC (hr.mono) rfl bj b9 .nil aj (aa ad (aa (ai aJ (ai aJ ad (aI (cC (K:=K) rfl) (pv 0) (bH bF ad) (λ_ _=>rfl))) (aq jC (hr.mono) rfl jb jh jx .nil aj (aa (pv 0) ac))) ac))))),?_⟩;have hP:=hW.fam.pln;have l7:=hW.l7;have hb:=hW.bits;have b8:Bits 4 (8:Int):=by show(8:Int).natAbs<2^4;decide
  have hp:=hP.pos;refine aQ ⟨_,rfl,_,rfl,a,_,_,_,rfl,rfl,SqL.of hA,mh hP.ne,_,_,rfl,rfl,⟨b8.mono,(mf hb).mono⟩,_,rfl,a,prQ fs,rfl,SqL.of hA,hP.tr,hP.ne,by omega,hb.mono,λkb H1 hkb hB s1=>?_⟩;have hk:=BK hb hp hB
  have b2:Bits 253 ((2^kb:Nat):Int):=by show(((2^kb:Nat):Int)).natAbs<2^253;rw[Q2];exact(SM (by decide)).mpr (by omega)
  have b3:Bits 254 (8*ap (prQ fs)):=(b8.mul (mf hb)).mono;have pk:(0:Int)<((2^kb:Nat):Int):=Su.mpr (RC (by decide));have hD:0<8*ap (prQ fs)*((2^kb:Nat):Int):=QC (by omega) pk;have bD:Bits 520 (8*ap (prQ fs)*((2^kb:Nat):Int)):=(b3.mul b2).mono;refine⟨_,_,rfl,rfl,⟨b3.mono,b2.mono⟩,cI (t:=1) (by omega) (bD.mono) λx H2 s2 hx hR=>?_⟩;rw[yj hD,yu hD]at hR;have eB:((2^kb:Nat):Int)=(2:Int)^kb:=by rw[Ss];rfl
  rw[eB]at hR hD bD;exact k x H2 kb hk hB (s1.trans s2) (s1.free hx) hR hD bD
def pP(C:Addr):Sp:=λvs H Q _=>∃(p:Addr) (t b:Int),vs=[.ref p]/\RA C H p t b/\0<b/\Bits 9000 b/\Q (.int (t/b)) H
theorem G3(F:Fun K "floor" "Ratio.floor" rX f fd)(T:Txt K mg)(R:RCI K mg C):FnOk P w K mg base CX0 1 f fd ["self"] (pP C):=by
 refine F.ok Ef (λvs H Q E h=>?_) (λcdv A outer s H vs Q E hr h=>?_)
 ·obtain⟨p,t,b,rfl,_⟩:=h;rfl
 ·obtain⟨p,t,b,rfl,⟨dx,hp⟩,hb,bb,k⟩:=h;refine⟨_,(ak (av (ai de (aR (K:=K) rfl (pv 0) rfl) (aR (K:=K) rfl (pv 0) rfl)))),?_⟩;exact⟨_,rfl,p,C,dx,_,_,rfl,hp,R.cl,R.nT,df _ _,_,rfl,p,C,dx,_,_,rfl,hp,R.cl,R.nB,cs _ _,_,_,rfl,rfl,⟨hb,bb⟩,k⟩
theorem oq:¬(("floor":Str)="bottom")/\¬(("floor":Str)="top"):=⟨by decide +kernel,by decide +kernel⟩
theorem yx{a c:Int}(hc:0<c):rt a c/rb a c=a/c:=by
 have h0:c≠0:=by omega
 have e1:=ib (t:=a) h0;have e2:=gt (t:=a) h0
 have hp:0<dv a c:=by unfold dv;rw[if_neg (by omega)];have:=kf (t:=a) h0;omega
 have e3:dv a c*rt a c/(dv a c*rb a c)=rt a c/rb a c:=Int.mul_ediv_mul_of_pos _ _ hp;rw[e1,e2]at e3;exact e3.symm
def pJ(C:Addr):Sp:=λvs H Q _=>∃(r:Addr) (c t b:Int),vs=[.int c,.ref r]/\RA C H r t b/\0<b/\Bits 10000 c/\Bits 10000 t/\Bits 8900 b/\∀H',Same H H'->Q (.int (c*t/b)) H'
theorem FI(F:Fun K "times_floor" "times_floor" qo f fd)(T:Txt K mg)(R:RCI K mg C)(cc:KCal P w K mg base 2 C "Ratio" ["self","top","bottom"] (da C) dN dM dO [.int 1])(g6:MCal P w K mg base 4 C "times" ["self","other"] (jN C) oT oQ)(vP:MCal P w K mg base 1 C "floor" ["self"] (pP C) KY KG):FnOk P w K mg base CX0 5 f fd ["factor","ratio"] (pJ C):=by
 obtain⟨bC,bz,bj,b9,cF,cD⟩:=cc;obtain⟨fj,fb,fi⟩:=g6;obtain⟨vB,tf,vf⟩:=vP;refine F.ok DO (λvs H Q E h=>?_) (λcdv A outer s H vs Q E hr h=>?_)
 ·obtain⟨r,c,t,b,rfl,_⟩:=h;rfl
 ·obtain⟨r,c,t,b,rfl,hR,hb,bc,bt,bb,k⟩:=h;refine⟨_,(ak (av (yQ (cW (b5 bz bC (hr.mono) rfl bj cF cD aj (aa (pv 0) ac)) R.cl fb fj (hr.mono) fi .nil aj (aa (pv 1) ac)) R.cl tf vB (hr.mono) vf .nil aj))),?_⟩;refine aQ ⟨_,rfl,cI (t:=c) (b:=1) (by decide) (b1k (by decide)) λx H1 s1 hx hX=>?_⟩;rw[ia,ic]at hX;obtain⟨dx,hX'⟩:=id hX;refine⟨x,dx,_,rfl,hX',cZ _ _ dZ.1 dZ.2,_,rfl,x,r,c,1,t,b,1,8900,rfl,hX,hR.same s1,bc.mono,b1k (by decide),bt.mono,bb,by decide,by decide,hb,λy H2 s2 hy hY=>?_⟩;obtain⟨dy,hY'⟩:=id hY;have d0:1*b≠0:=by omega
  refine⟨y,dy,_,rfl,hY',cZ _ _ oq.1 oq.2,y,_,_,rfl,hY,c7 d0,(dY d0 (by rw[QZ];exact bb)).mono,?_⟩;rw[yx (show 0<1*b by omega),QZ];exact k H2 (s1.trans s2)
noncomputable def vl(p:Int×Int):Rat:=(p.1:Rat)/(p.2:Rat)
theorem Ci{a b c d:Int}(hb:0<b)(hd:0<d)(h:¬c*b<a*d):(a:Rat)/(b:Rat)<=(c:Rat)/(d:Rat):=RI.mp λz=>h ((iV hd hb).mp z)
theorem vW{t b:Int}(hb:0<b):((rt t b:Int):Rat)/((rb t b:Int):Rat)=(t:Rat)/(b:Rat):=by
 have h0:b≠0:=by omega
 have hc:=ei (t:=t) h0;have hp:=c7 (t:=t) h0;have cb:(0:Rat)<(b:Rat):=QP.mpr hb;have cr:(0:Rat)<((rb t b:Int):Rat):=QP.mpr hp;have e1:((rt t b:Int):Rat)/((rb t b:Int):Rat)*((rb t b:Int):Rat)=((rt t b:Int):Rat):=QW (Rt cr);have e2:(t:Rat)/(b:Rat)*(b:Rat)=(t:Rat):=QW (Rt cb);have e3:((rt t b:Int):Rat)*(b:Rat)=(t:Rat)*((rb t b:Int):Rat):=by rw[<- QI,hc,QI]
 generalize ((rt t b:Int):Rat)/((rb t b:Int):Rat)=X at e1 ⊢
 generalize (t:Rat)/(b:Rat)=Y at e2 ⊢
 rw[<- e1,<- e2]at e3;have hM:=QV cr cb;have e4:(((rb t b:Int):Rat)*(b:Rat))*X=(((rb t b:Int):Rat)*(b:Rat))*Y:=by grind
 exact Rat.le_antisymm (fv hM (by rw[e4];exact Q6)) (fv hM (by rw[e4];exact Q6))
theorem Ch{a b c d:Int}(hb:0<b)(hd:0<d):((a*c:Int):Rat)/((b*d:Int):Rat)=(a:Rat)/(b:Rat)*((c:Rat)/(d:Rat)):=by
 have cb:(0:Rat)<(b:Rat):=QP.mpr hb;have cd:(0:Rat)<(d:Rat):=QP.mpr hd;rw[QI,QI];have hM:=QV cb cd;have e1:(a:Rat)/(b:Rat)*(b:Rat)=(a:Rat):=QW (Rt cb);have e2:(c:Rat)/(d:Rat)*(d:Rat)=(c:Rat):=QW (Rt cd);have e3:(a:Rat)*(c:Rat)/((b:Rat)*(d:Rat))*((b:Rat)*(d:Rat))=(a:Rat)*(c:Rat):=QW (Rt hM);generalize (a:Rat)/(b:Rat)=X at e1 ⊢
 generalize (c:Rat)/(d:Rat)=Y at e2 ⊢
 generalize (a:Rat)*(c:Rat)/((b:Rat)*(d:Rat))=Z at e3 ⊢
 rw[<- e1,<- e2]at e3;have e4:((b:Rat)*(d:Rat))*Z=((b:Rat)*(d:Rat))*(X*Y):=by grind
 exact Rat.le_antisymm (fv hM (by rw[e4];exact Q6)) (fv hM (by rw[e4];exact Q6))
theorem Cj{a b c d:Int}(hb:0<b)(hd:0<d):((a*d+c*b:Int):Rat)/((b*d:Int):Rat)=(a:Rat)/(b:Rat)+(c:Rat)/(d:Rat):=by
 have cb:(0:Rat)<(b:Rat):=QP.mpr hb;have cd:(0:Rat)<(d:Rat):=QP.mpr hd;rw[SG,QI,QI,QI];have hM:=QV cb cd;have e1:(a:Rat)/(b:Rat)*(b:Rat)=(a:Rat):=QW (Rt cb);have e2:(c:Rat)/(d:Rat)*(d:Rat)=(c:Rat):=QW (Rt cd);have e3:((a:Rat)*(d:Rat)+(c:Rat)*(b:Rat))/((b:Rat)*(d:Rat))*((b:Rat)*(d:Rat))=(a:Rat)*(d:Rat)+(c:Rat)*(b:Rat):=QW (Rt hM);generalize ((a:Rat)*(d:Rat)+(c:Rat)*(b:Rat))/((b:Rat)*(d:Rat))=Z at e3 ⊢
 generalize (a:Rat)/(b:Rat)=X at e1 ⊢
 generalize (c:Rat)/(d:Rat)=Y at e2 ⊢
 rw[<- e1,<- e2]at e3;have e4:((b:Rat)*(d:Rat))*Z=((b:Rat)*(d:Rat))*(X+Y):=by grind
 exact Rat.le_antisymm (fv hM (by rw[e4];exact Q6)) (fv hM (by rw[e4];exact Q6))
structure MaxP(x1 x2 y1 y2 p1 p2 q1 q2 m1 m2:Int):Prop where
 m2p:0<m2
 b1:Bits 6000 m1
 b2:Bits 6000 m2
 c1:vl (x1,x2)*vl (p1,p2)<=vl (m1,m2)
 c2:vl (x1,x2)*vl (q1,q2)<=vl (m1,m2)
 c3:vl (y1,y2)*vl (p1,p2)<=vl (m1,m2)
 c4:vl (y1,y2)*vl (q1,q2)<=vl (m1,m2)
 is:vl (m1,m2)=vl (x1,x2)*vl (p1,p2)\/vl (m1,m2)=vl (x1,x2)*vl (q1,q2)\/vl (m1,m2)=vl (y1,y2)*vl (p1,p2)\/vl (m1,m2)=vl (y1,y2)*vl (q1,q2)
structure TwoS(C:Addr)(H:Hp)(p q x y x' y':Addr)(x1 x2 y1 y2 p1 p2 q1 q2:Int):Prop where
 hp:H p=some (.tup [.ref x,.ref y])
 hq:H q=some (.tup [.ref x',.ref y'])
 hx:RA C H x x1 x2
 hy:RA C H y y1 y2
 hx':RA C H x' p1 p2
 hy':RA C H y' q1 q2
 e1:EndsG 1774 x1 x2 y1 y2
 e2:EndsG 4074 p1 p2 q1 q2
theorem TwoS.same{C:Addr}{H H':Hp}{p q x y x' y':Addr}{x1 x2 y1 y2 p1 p2 q1 q2:Int}(h:TwoS C H p q x y x' y' x1 x2 y1 y2 p1 p2 q1 q2)(s:Same H H'):TwoS C H' p q x y x' y' x1 x2 y1 y2 p1 p2 q1 q2:=⟨s _ _ h.hp,s _ _ h.hq,h.hx.same s,h.hy.same s,h.hx'.same s,h.hy'.same s,h.e1,h.e2⟩
def wW(C:Addr):Sp:=λvs H Q _=>∃(p q x y x' y':Addr) (x1 x2 y1 y2 p1 p2 q1 q2:Int),vs=[.ref p,.ref q]/\TwoS C H p q x y x' y' x1 x2 y1 y2 p1 p2 q1 q2/\∀(t lo hi:Addr) (H':Hp) (m1 m2:Int),Same H H'->H t=none->H' t=some (.tup [.ref lo,.ref hi])->RA C H' hi m1 m2->MaxP x1 x2 y1 y2 p1 p2 q1 q2 m1 m2->Q (.ref t) H'
structure PrH(C:Addr)(H:Hp)(r:Addr)(m1 m2:Int)(v:Rat):Prop where
 ra:RA C H r m1 m2
 m2p:0<m2
 b1:Bits 6000 m1
 b2:Bits 6000 m2
 is:vl (m1,m2)=v
theorem PrH.same{C:Addr}{H H':Hp}{r:Addr}{m1 m2:Int}{v:Rat}(h:PrH C H r m1 m2 v)(s:Same H H'):PrH C H' r m1 m2 v:=⟨h.ra.same s,h.m2p,h.b1,h.b2,h.is⟩
theorem n8{C:Addr}{H:Hp}{r:Addr}{a b c d:Int}(hb:0<b)(hd:0<d)(ba:Bits 1774 a)(bb:Bits 1774 b)(bc:Bits 4074 c)(bd:Bits 4074 d)(h:RA C H r (rt (a*c) (b*d)) (rb (a*c) (b*d))):PrH C H r (rt (a*c) (b*d)) (rb (a*c) (b*d)) (vl (a,b)*vl (c,d)):=by
 have hp:0<b*d:=QC hb hd;have h0:b*d≠0:=by omega
 refine⟨h,c7 h0,(ee h0 (ba.mul bc)).mono,(dY h0 (bb.mul bd)).mono,?_⟩;show((rt (a*c) (b*d):Int):Rat)/((rb (a*c) (b*d):Int):Rat)=_;rw[vW hp,Ch hb hd];rfl
theorem FP(F:Fun K "span_product" "span_product" qw f fd)(T:Txt K mg)(R:RCI K mg C)(g6:MCal P w K mg base 4 C "times" ["self","other"] (jN C) oT oQ)(jH:MCal P w K mg base 2 C "against" ["self","other"] (kT C) uD ut):FnOk P w K mg base CX0 5 f fd ["first","second"] (wW C):=by
 obtain⟨fj,fb,fi⟩:=g6;obtain⟨gX,gC,gS⟩:=jH;refine F.ok sc_span_product (λvs H Q E h=>?_) (λcdv A outer s H vs Q E hr h=>?_)
 ·obtain⟨p,q,x,y,x',y',x1,x2,y1,y2,p1,p2,q1,q2,rfl,_⟩:=h;rfl
 ·obtain⟨p,q,x,y,x',y',x1,x2,y1,y2,p1,p2,q1,q2,rfl,h,k⟩:=h;have big:=sizeLine_eq
  refine⟨_,(ag (ao (i:=2) sc_span_product.nd rfl (Or.inl rfl) (cW (aI (aW (K:=K) rfl) (pv 0) ad (λ_ _=>rfl)) R.cl fb fj (hr.mono) fi .nil aj (aa (aI (aW (K:=K) rfl) (pv 1) ad (λ_ _=>rfl)) ac)))
   (ag (ao (i:=3) sc_span_product.nd rfl (Or.inl rfl) (pv 2))
   (ag (c8 PassesOwn.never rfl (Fb (K:=K) rfl (du (aa (cW (aI (aW (K:=K) rfl) (pv 0) ad (λ_ _=>rfl)) R.cl fb fj (hr.mono) fi .nil aj (aa (aI (aW (K:=K) rfl) (pv 1) ad (λ_ _=>rfl)) ac)) (aa (cW (aI (aW (K:=K) rfl) (pv 0) ad (λ_ _=>rfl)) R.cl fb fj (hr.mono) fi .nil aj (aa (aI (aW (K:=K) rfl) (pv 1) ad (λ_ _=>rfl)) ac)) (aa (cW (aI (aW (K:=K) rfl) (pv 0) ad (λ_ _=>rfl)) R.cl fb fj (hr.mono) fi .nil aj (aa (aI (aW (K:=K) rfl) (pv 1) ad (λ_ _=>rfl)) ac)) ac))))) (aU (i:=4) sc_span_product.nd rfl (Or.inl rfl))
     (ag (aO (aG cY (cW (pv 4) R.cl gC gX (hr.mono) gS .nil aj (aa (pv 2) ac)) ad (aE _))
       (ak (ao (i:=2) sc_span_product.nd rfl (Or.inl rfl) (pv 4)))
       aP)
       (ak (aO (aG cQ (cW (pv 4) R.cl gC gX (hr.mono) gS .nil aj (aa (pv 3) ac)) ad (aE _))
         (ak (ao (i:=3) sc_span_product.nd rfl (Or.inl rfl) (pv 4)))
         aP))))
   (ak (av (du (aa (pv 2) (aa (pv 3) ac)))))))),?_⟩
  have e1:=h.e1;have e2:=h.e2;obtain⟨dx,hx0⟩:=id h.hx;refine aw ⟨_,rfl,p,_,_,_,rfl,rfl,SqT.of h.hp,rfl,x,dx,_,rfl,hx0,cZ _ _ dZ.1 dZ.2,_,rfl,q,_,_,_,rfl,rfl,SqT.of h.hq,rfl,x,x',x1,x2,p1,p2,1774,4074,rfl,h.hx,h.hx',e1.bl1.mono,e1.bl2,e2.bl1.mono,e2.bl2,by decide,e1.l2p,e2.l2p,λr0 H1 s1 hr0 hR0=>?_⟩;have P0:=n8 e1.l2p e2.l2p e1.bl1 e1.bl2 e2.bl1 e2.bl2 hR0;refine aw ⟨_,rfl,?_⟩;have h1:=h.same s1;obtain⟨dx1,hx1⟩:=id h1.hx;refine⟨_,rfl,p,_,_,_,rfl,rfl,SqT.of h1.hp,rfl,x,dx1,_,rfl,hx1,cZ _ _ dZ.1 dZ.2,_,rfl,q,_,_,_,rfl,rfl,SqT.of h1.hq,rfl,x,y',x1,x2,q1,q2,1774,4074,rfl,h1.hx,h1.hy',e1.bl1.mono,e1.bl2,e2.bh1.mono,e2.bh2,by decide,e1.l2p,e2.h2p,λr1 H2 s2 hr1 hR1=>?_⟩;have P1:=n8 e1.l2p e2.h2p e1.bl1 e1.bl2 e2.bh1 e2.bh2 hR1;have h2:=h1.same s2;obtain⟨dy2,hy2⟩:=id h2.hy;refine⟨_,rfl,p,_,_,_,rfl,rfl,SqT.of h2.hp,rfl,y,dy2,_,rfl,hy2,cZ _ _ dZ.1 dZ.2,_,rfl,q,_,_,_,rfl,rfl,SqT.of h2.hq,rfl,y,x',y1,y2,p1,p2,1774,4074,rfl,h2.hy,h2.hx',e1.bh1.mono,e1.bh2,e2.bl1.mono,e2.bl2,by decide,e1.h2p,e2.l2p,λr2 H3 s3 hr2 hR2=>?_⟩;have P2:=n8 e1.h2p e2.l2p e1.bh1 e1.bh2 e2.bl1 e2.bl2 hR2;have h3:=h2.same s3;obtain⟨dy3,hy3⟩:=id h3.hy;refine⟨_,rfl,p,_,_,_,rfl,rfl,SqT.of h3.hp,rfl,y,dy3,_,rfl,hy3,cZ _ _ dZ.1 dZ.2,_,rfl,q,_,_,_,rfl,rfl,SqT.of h3.hq,rfl,y,y',y1,y2,q1,q2,1774,4074,rfl,h3.hy,h3.hy',e1.bh1.mono,e1.bh2,e2.bh1.mono,e2.bh2,by decide,e1.h2p,e2.h2p,λr3 H4 s4 hr3 hR3=>⟨by show 3<=sizeLine;omega,λpt hpt=>?_⟩⟩;have P3:=n8 e1.h2p e2.h2p e1.bh1 e1.bh2 e2.bh1 e2.bh2 hR3;have s5:Same H4 (upd H4 pt (.tup [V.ref r1,V.ref r2,V.ref r3])):=Same.upd_new hpt;have q5:upd H4 pt (.tup [V.ref r1,V.ref r2,V.ref r3]) pt=some (.tup [V.ref r1,V.ref r2,V.ref r3]):=au;refine si (H2:=upd H4 pt (.tup [V.ref r1,V.ref r2,V.ref r3])) rfl ?_;generalize upd H4 pt (.tup [V.ref r1,V.ref r2,V.ref r3])=H5 at s5 q5 ⊢
  have A0:=(P0.same s2).same (s3.trans (s4.trans s5));have A1:=P1.same (s3.trans (s4.trans s5));have A2:=P2.same (s4.trans s5);have A3:=P3.same s5;have t5:=(s1.trans s2).trans (s3.trans (s4.trans s5));clear P0 P1 P2 P3 hR0 hR1 hR2 hR3
  have get:∀(i:Nat) (z:V),[V.ref r1,V.ref r2,V.ref r3][i]?=some z->∃(r:Addr) (t b:Int) (v:Rat),z=.ref r/\PrH C H5 r t b v/\[vl (x1,x2)*vl (p1,p2),vl (x1,x2)*vl (q1,q2),vl (y1,y2)*vl (p1,p2),vl (y1,y2)*vl (q1,q2)].take (i+1+1)=[vl (x1,x2)*vl (p1,p2),vl (x1,x2)*vl (q1,q2),vl (y1,y2)*vl (p1,p2),vl (y1,y2)*vl (q1,q2)].take (i+1)++[v]:=λi z hz=>by
   match i,hz with
   |0,hz=>exact⟨r1,_,_,_,(Option.some.inj hz).symm,A1,rfl⟩
   |1,hz=>exact⟨r2,_,_,_,(Option.some.inj hz).symm,A2,rfl⟩
   |2,hz=>exact⟨r3,_,_,_,(Option.some.inj hz).symm,A3,rfl⟩
  generalize hV:[vl (x1,x2)*vl (p1,p2),vl (x1,x2)*vl (q1,q2),vl (y1,y2)*vl (p1,p2),vl (y1,y2)*vl (q1,q2)]=W at get
  refine⟨pt,rfl,⟨_,SqT.of q5⟩,Ko (K:=K) (a:=pt) (xs:=[V.ref r1,V.ref r2,V.ref r3]) (λi σ' H'=>∃(lo g:Addr) (l1 l2 g1 g2:Int) (vo vg:Rat) (z4:Option V),σ'=[some (.ref p),some (.ref q),some (.ref lo),some (.ref g),z4]/\H5=H'/\PrH C H5 lo l1 l2 vo/\PrH C H5 g g1 g2 vg/\vg∈W.take (i+1)/\∀v∈W.take (i+1),v<=vg)
   ⟨r0,r0,_,_,_,_,_,_,none,rfl,rfl,A0,A0,by rw[<- hV];exact QF.mpr rfl,λv hv=>by rw[<- hV]at hv;rw[QF.mp hv];exact Q6⟩ ?_ ?_ ?_⟩
  ·rintro i σ' H' _ ⟨lo,g,l1,l2,g1,g2,vo,vg,z4,rfl,rfl,_⟩;exact SqT.of q5
  ·rintro i z σ' H' hi ⟨lo,g,l1,l2,g1,g2,vo,vg,z4,rfl,rfl,Po,Pg,hmem,hall⟩;obtain⟨r,t,b,v,rfl,Pr,ht⟩:=get i z hi;obtain⟨dr,hr'⟩:=id Pr.ra;dsimp only
   refine dF (λσ' H'=>∃(lo:Addr) (l1 l2:Int) (vo:Rat),σ'=[some (.ref p),some (.ref q),some (.ref lo),some (.ref g),some (.ref r)]/\H5=H'/\PrH C H5 lo l1 l2 vo) ?_ ?_
   case refine_2 =>
    intro rest;refine⟨_,rfl,r,dr,_,rfl,hr',cZ _ _ eU.1 eU.2,_,rfl,r,lo,t,b,l1,l2,rfl,Pr.ra,Po.ra,Pr.b1.mono,Pr.b2.mono,Po.b1.mono,Po.b2.mono,_,_,rfl,rfl,_,rfl,aH (λ_=>?_) (λ_=>?_)⟩
    ·exact⟨_,rfl,rest _ _ ⟨r,t,b,v,rfl,rfl,Pr⟩⟩
    ·exact rest _ _ ⟨lo,l1,l2,vo,rfl,rfl,Po⟩
   rintro σ' H' ⟨lo',l1',l2',vo',rfl,rfl,Po'⟩;refine⟨_,rfl,r,dr,_,rfl,hr',cZ _ _ eU.1 eU.2,_,rfl,r,g,t,b,g1,g2,rfl,Pr.ra,Pg.ra,Pr.b1.mono,Pr.b2.mono,Pg.b1.mono,Pg.b2.mono,_,_,rfl,rfl,_,rfl,aH (λh0=>?_) (λh0=>?_)⟩
   ·have h0':sg (t*g2-g1*b)>0:=h0
    have hlt:g1*b<t*g2:=RQ.mp λz=>by
     have:sg (t*g2-g1*b)<=0:=by unfold sg;split<;>(try split)<;>omega
     omega
    have hv:vg<v:=by rw[<- Pg.is,<- Pr.is];exact(iV Pg.m2p Pr.m2p).mpr hlt
    refine⟨_,rfl,lo',r,l1',l2',t,b,vo',v,_,rfl,rfl,Po',Pr,by rw[ht];simp,λu hu=>?_⟩;rw[ht]at hu;rcases QS.mp hu with z |z
    ·exact Rat.le_trans (hall u z) (QM hv)
    ·rw[QF.mp z];exact Q6
   ·have h0':¬sg (t*g2-g1*b)>0:=h0
    have hle:v<=vg:=by
     rw[<- Pg.is,<- Pr.is];refine Ci Pr.m2p Pg.m2p λz=>h0' ?_
     have z':g1*b<t*g2:=z;have:sg (t*g2-g1*b)=1:=DD (by omega);omega
    refine⟨lo',g,l1',l2',g1,g2,vo',vg,_,rfl,rfl,Po',Pg,by rw[ht];exact RU _ hmem,λu hu=>?_⟩;rw[ht]at hu;rcases QS.mp hu with z |z
    ·exact hall u z
    ·rw[QF.mp z];exact hle
  ·rintro σ' H' ⟨lo,g,l1,l2,g1,g2,vo,vg,z4,rfl,rfl,Po,Pg,hmem,hall⟩;refine⟨_,rfl,_,rfl,by show 2<=sizeLine;omega,λt ht=>?_⟩;have s6:Same H5 (upd H5 t (.tup [V.ref lo,V.ref g])):=Same.upd_new ht;refine k t lo g _ g1 g2 (t5.trans s6) (t5.free ht) au (Pg.ra.same s6) ⟨Pg.m2p,Pg.b1,Pg.b2,?_,?_,?_,?_,?_⟩
   all_goals rw[Pg.is]
   ·exact hall _ (by rw[<- hV];exact QN ..)
   ·exact hall _ (by rw[<- hV];exact QJ _ (QN ..))
   ·exact hall _ (by rw[<- hV];exact QJ _ (QJ _ (QN ..)))
   ·exact hall _ (by rw[<- hV];exact QJ _ (QJ _ (QJ _ (QN ..))))
   ·rw[<- hV]at hmem;rcases QK.mp hmem with z |z
    ·exact .inl z
    rcases QK.mp z with z |z
    ·exact .inr (.inl z)
    rcases QK.mp z with z |z
    ·exact .inr (.inr (.inl z))
    ·exact .inr (.inr (.inr (QF.mp z)))
structure SqR(x1 x2 y1 y2 p1 p2 q1 q2 t1 t2 m1 m2:Int):Prop where
 mx:MaxP x1 x2 y1 y2 p1 p2 q1 q2 m1 m2
 t2p:0<t2
 bt:Bits 6000 t1
 sum:vl (t1,t2)=vl (y1,y2)+vl (q1,q2)
def wU(C:Addr):Sp:=λvs H Q _=>∃(a p q x y x' y':Addr) (ns:List Int) (x1 x2 y1 y2 p1 p2 q1 q2:Int),vs=[.ref a,.ref p,.ref q]/\H a=some (.lst (ns.map V.int))/\Pln ns/\AllB 250 ns/\TwoS C H p q x y x' y' x1 x2 y1 y2 p1 p2 q1 q2/\∀t1 t2 m1 m2:Int,SqR x1 x2 y1 y2 p1 p2 q1 q2 t1 t2 m1 m2->mkL H Q (aA [ap ns*m1/m2,-(ap ns*t1/t2),ap ns])
theorem FN(F:Fun K "square_of" "square_of" qu f fd)(T:Txt K mg)(R:RCI K mg C)(vD:Cal P w K mg base 5 "times_floor" ["factor","ratio"] (pJ C) KK Kt)(vO:MCal P w K mg base 4 C "plus" ["self","other"] (pM C) KW KF)(NN:Cal P w K mg base 5 "span_product" ["first","second"] (wW C) PH OL)(gZ:Cal P w K mg base 34 "plain" ["row"] jO oS oP):FnOk P w K mg base CX0 35 f fd ["whole","span","other"] (wU C):=by
 obtain⟨o7,oA,oE,o5⟩:=vD;obtain⟨vA,sZ,ve⟩:=vO;obtain⟨MV,HP,Je,LW⟩:=NN;obtain⟨fT,fJ,fL,fQ⟩:=gZ;refine F.ok sc_square_of (λvs H Q E h=>?_) (λcdv A outer s H vs Q E hr h=>?_)
 ·obtain⟨a,p,q,x,y,x',y',ns,x1,x2,y1,y2,p1,p2,q1,q2,rfl,_⟩:=h;rfl
 ·obtain⟨a,p,q,x,y,x',y',ns,x1,x2,y1,y2,p1,p2,q1,q2,rfl,hA,hP,hb,h,k⟩:=h;have big:=sizeLine_eq
  refine⟨_,(ag (ao (i:=3) sc_square_of.nd rfl (Or.inl rfl) (aI (cC (K:=K) rfl) (pv 0) (bH bF ad) (λ_ _=>rfl)))
   (ag (ao (i:=4) sc_square_of.nd rfl (Or.inl rfl) (aq o7 (hr.mono) rfl oA oE o5 .nil aj (aa (pv 3) (aa (cW (aI (aW (K:=K) rfl) (pv 1) ad (λ_ _=>rfl)) R.cl sZ vA (hr.mono) ve .nil aj (aa (aI (aW (K:=K) rfl) (pv 2) ad (λ_ _=>rfl)) ac)) ac))))
   (ak (av (aq fT (hr.mono) rfl fJ fL fQ .nil aj (aa (bK (aa (aq o7 (hr.mono) rfl oA oE o5 .nil aj (aa (pv 3) (aa (aI (aW (K:=K) rfl) (aq MV (hr.mono) rfl HP Je LW .nil aj (aa (pv 1) (aa (pv 2) ac))) ad (λ_ _=>rfl)) ac))) (aa (bH bF (pv 4)) (aa (pv 3) ac)))) ac)))))),?_⟩
  have e1:=h.e1;have e2:=h.e2;have bl:=mf hb;have lp:=hP.pos;refine aw ⟨_,rfl,_,rfl,a,_,_,_,rfl,rfl,SqL.of hA,mh hP.ne,?_⟩;obtain⟨dy,hy0⟩:=id h.hy;have hp2:0<y2*q2:=QC e1.h2p e2.h2p;have h0:y2*q2≠0:=by omega
  have bsum:Bits 5850 (y1*q2+q1*y2):=by have a1:Bits 5848 (y1*q2):=e1.bh1.mul e2.bh2;have a2:Bits 5848 (q1*y2):=(e2.bh1.mul e1.bh2).mono;exact(a1.add a2).mono
  refine aw ⟨_,rfl,_,rfl,p,_,_,_,rfl,rfl,SqT.of h.hp,rfl,y,dy,_,rfl,hy0,cZ _ _ oo.1 oo.2,_,rfl,q,_,_,_,rfl,rfl,SqT.of h.hq,rfl,y,y',y1,y2,q1,q2,1774,4074,rfl,h.hy,h.hy',e1.bh1.mono,e1.bh2,e2.bh1.mono,e2.bh2,by decide,e1.h2p,e2.h2p,λr H1 s1 hr0 hR=>?_⟩;refine⟨r,ap ns,_,_,rfl,hR,c7 h0,bl.mono,(ee h0 bsum).mono,(dY h0 (e1.bh2.mul e2.bh2)).mono,λH2 s2=>?_⟩;have t2:=s1.trans s2;have h2:=h.same t2;refine aQ ⟨_,rfl,_,rfl,_,rfl,p,q,x,y,x',y',x1,x2,y1,y2,p1,p2,q1,q2,rfl,h2,λt lo hi H3 m1 m2 s3 ht et hm mx=>?_⟩;refine⟨t,_,_,_,rfl,rfl,SqT.of et,rfl,hi,ap ns,m1,m2,rfl,hm,mx.m2p,bl.mono,mx.b1.mono,mx.b2.mono,λH4 s4=>?_⟩;refine⟨_,rfl,_,rfl,_,rfl,by show 3<=sizeLine;omega,λpl hpl=>?_⟩;have t4:=(t2.trans s3).trans s4;have trl:Tr [ap ns*m1/m2,-(ap ns*rt (y1*q2+q1*y2) (y2*q2)/rb (y1*q2+q1*y2) (y2*q2)),ap ns]:=(tr_snoc (r:=[ap ns*m1/m2,-(ap ns*rt (y1*q2+q1*y2) (y2*q2)/rb (y1*q2+q1*y2) (y2*q2))])).mpr (by omega);refine⟨pl,[ap ns*m1/m2,-(ap ns*rt (y1*q2+q1*y2) (y2*q2)/rb (y1*q2+q1*y2) (y2*q2)),ap ns],rfl,au,trl,by show 3<=1000000;decide,λp5 H5 s5 hp5 e5=>?_⟩;have t5:=(t4.then_new (o:=.lst _) hpl).trans s5;refine k _ _ m1 m2 ⟨mx,c7 h0,(ee h0 bsum).mono,?_⟩ p5 H5 t5 ((t4.then_new hpl).free hp5) e5;show((rt (y1*q2+q1*y2) (y2*q2):Int):Rat)/((rb (y1*q2+q1*y2) (y2*q2):Int):Rat)=_;rw[vW hp2,Cj e1.h2p e2.h2p];rfl
theorem pF{t n t' n':Int}:∀{ls:List (List Int)},(∀l∈ls,al l t n=al l t' n')->spr t n ls=spr t' n' ls
 | [],_=>rfl
 |l::ls,h=>by show -al l t n*spr t n ls = -al l t' n'*spr t' n' ls;rw[h l (QN ..),pF λx hx=>h x (QJ _ hx)]
theorem pE{t n:Int}:∀{ls:List (List Int)},(∀l∈ls,al l t n≠0)->spr t n ls=1\/spr t n ls = -1
 | [],_=>.inl rfl
 |l::ls,h=>by
  have h1:=h l (QN ..);have h2:=pE (ls:=ls) λx hx=>h x (QJ _ hx)
  show -al l t n*spr t n ls=1 \/ -al l t n*spr t n ls = -1;rcases dW l t n with z |z |z
  ·rw[z];omega
  ·exact absurd z h1
  ·rw[z];omega
theorem pY{l:List Int}(hl:Spt l){t n t' n':Int}(hn:0<n)(hn':0<n')(h:t*n'<=t'*n)(hs:0<al l t' n'):0<al l t n:=by
 rcases RZ 0 (al l t n)with z |z
 ·exact z
 ·exfalso;rcases RT h with y |y
  ·have:=dU hl hn hn' y z;omega
  ·rw[hI l hn hn' y]at z;omega
theorem nJ{l:List Int}(hl:Spt l){l1 l2 h1 h2 x1 x2:Int}(l2p:0<l2)(h2p:0<h2)(x2p:0<x2)(lt:l1*h2<h1*l2)(hno:¬(0<al l l1 l2/\al l h1 h2<=0))(hx:l1*x2<x1*l2)(hx':x1*h2<=h1*x2):al l x1 x2=al l h1 h2/\al l h1 h2≠0:=by
 rcases RZ 0 (al l l1 l2)with z |z
 ·have h3:0<al l h1 h2:=by
   rcases RZ 0 (al l h1 h2)with y |y
   ·exact y
   ·exact absurd ⟨z,y⟩ hno
  have h4:=pY hl x2p h2p hx' h3;rcases dW l x1 x2 with y |y |y<;>rcases dW l h1 h2 with w |w |w<;>omega
 ·have e1:=dU hl l2p x2p hx z;have e2:=dU hl l2p h2p lt z;omega
theorem Ep{fs pre post:List (List Int)}{s:List Int}{c l1 l2 h1 h2:Int}(hF:∀f∈fs,fk f)(hc:c≠0)(hsp:aL fs=pre++s::post)(l2p:0<l2)(h2p:0<h2)(lt:l1*h2<h1*l2)(hin:0<al s l1 l2/\al s h1 h2<=0)(hno:∀x∈pre++post,¬(0<al x l1 l2/\al x h1 h2<=0)) :
 ∃ε,RootU (af [c] (aT [1] (fs.map ah))) l1 l2 h1 h2 ε (λx1 x2=>0<al s x1 x2):=by
 have hS:∀x∈aL fs,Spt x:=λx hx=>dq hF hx
 have hs:Spt s:=hS s (by rw[hsp];simp);have ho:∀x∈pre++post,Spt x:=λx hx=>hS x (by rw[hsp];simp at hx ⊢;rcases hx with h |h<;>simp[h])
 have val:∀x1 x2,0<x2->l1*x2<x1*l2->x1*h2<=h1*x2->sg (hv x1 x2 (af [c] (aT [1] (fs.map ah))))=sg c*spr h1 h2 (pre++post) * -al s x1 x2:=λx1 x2 x2p a b=>by
  rw[lw x2p hF,hsp,jM];show sg c*(spr x1 x2 pre*(-al s x1 x2*spr x1 x2 post))=_;have e:spr x1 x2 (pre++post)=spr h1 h2 (pre++post):=pF λy hy=>(nJ (ho y hy) l2p h2p x2p lt (hno y hy) a b).1
  rw[<- e,jM];grind
 have hu:=pE (t:=h1) (n:=h2) (ls:=pre++post) λy hy=>(nJ (ho y hy) l2p h2p h2p lt (hno y hy) lt (Q7 _)).2
 have hsg:sg c=1\/sg c = -1:=by
  rcases RY hc with z |z
  ·right;unfold sg;rw[if_pos z]
  ·left;unfold sg;rw[if_neg (by omega),if_pos z]
 have e1:sg c*spr h1 h2 (pre++post)=1\/sg c*spr h1 h2 (pre++post) = -1:=by rcases hsg with z |z<;>rcases hu with y |y<;>rw[z,y]<;>decide
 generalize sg c*spr h1 h2 (pre++post)=ε at val e1
 refine⟨ε,e1,λx1 x2 x2p a b hU=>?_,λx1 x2 x2p a b hU=>?_,λx1 x2 y1 y2 x2p y2p a b hU hlt=>?_,λx1 x2 y1 y2 x2p y2p e hU=>?_,hin.1,λz=>?_⟩
 ·rw[val x1 x2 x2p a b];rcases dW s x1 x2 with z |z |z
  ·rw[z];omega
  ·rw[z]at hU;exact absurd hU (by decide)
  ·rw[z]at hU;exact absurd hU (by decide)
 ·rw[val x1 x2 x2p a b];rcases dW s x1 x2 with z |z |z
  ·exact absurd (show 0<al s x1 x2 by omega) hU
  ·rw[z];right;omega
  ·rw[z];left;omega
 ·have hU':al s x1 x2<=0:=Rp.mp hU;have z:=dU hs x2p y2p hlt hU'
  have a':l1*y2<y1*l2:=by
   refine gO x2p ?_;have q1:=Rj a y2p;have q2:=Rj hlt l2p;have e2:l1*y2*x2=l1*x2*y2:=by grind
   have e3:x1*l2*y2=x1*y2*l2:=by grind
   have e4:y1*l2*x2=y1*x2*l2:=by grind
   omega
  rw[val y1 y2 y2p a' b,z];omega
 ·show 0<al s y1 y2;rw[<- hI s x2p y2p e];exact hU
 ·have z':0<al s h1 h2:=z;omega
noncomputable def gF(f0:List Int):List Int:=if cf f0 1=0 then ah f0 else[]
structure Nar1(fs:List (List Int))(s0:List Int)(l1 l2 h1 h2 x1 x2 y1 y2:Int)(kb:Nat):Prop where
 ends:EndsG 1774 x1 x2 y1 y2
 ux:0<al s0 x1 x2
 uy:al s0 y1 y2<=0
 lo:l1*x2<=x1*l2
 hi:y1*h2<=h1*y2
 wide:(y1*x2-x1*y2)*(8*ap (prQ fs)*2^kb)<=1*(x2*y2)
def xy(C:Addr):Sp:=λvs H Q _=>∃(a p x y:Addr) (fs:List (List Int)) (f0 s0:List Int) (l1 l2 h1 h2 x1 x2 y1 y2:Int) (kb:Nat),vs=[.ref a,.ref p]/\H a=some (.lst ((prQ fs).map V.int))/\H p=some (.tup [.ref x,.ref y])/\RA C H x x1 x2/\RA C H y y1 y2/\Whl fs/\OneS fs f0 s0 l1 l2 h1 h2/\Nar1 fs s0 l1 l2 h1 h2 x1 x2 y1 y2 kb/\mkL H Q (gF f0)
theorem Gs(F:Fun K "line_of" "line_of" qW f fd)(T:Txt K mg)(R:RCI K mg C)(cc:KCal P w K mg base 2 C "Ratio" ["self","top","bottom"] (da C) dN dM dO [.int 1])(vD:Cal P w K mg base 5 "times_floor" ["factor","ratio"] (pJ C) KK Kt)(jH:MCal P w K mg base 2 C "against" ["self","other"] (kT C) uD ut)(fU:Cal P w K mg base 2 "sign_at" ["row","ratio"] (iQ C) mC mz):FnOk P w K mg base CX0 6 f fd ["whole","span"] (xy C):=by
 obtain⟨bC,bz,bj,b9,cF,cD⟩:=cc;obtain⟨o7,oA,oE,o5⟩:=vD;obtain⟨gX,gC,gS⟩:=jH;obtain⟨fS,fI,fK,fO⟩:=fU;refine F.ok sc_line_of (λvs H Q E h=>?_) (λcdv A outer s H vs Q E hr h=>?_)
 ·obtain⟨a,p,x,y,fs,f0,s0,l1,l2,h1,h2,x1,x2,y1,y2,kb,rfl,_⟩:=h;rfl
 ·obtain⟨a,p,x,y,fs,f0,s0,l1,l2,h1,h2,x1,x2,y1,y2,kb,rfl,hA,hp,hx,hy,hW,hO,hN,k⟩:=h
  refine⟨_,(ag (ao (i:=2) sc_line_of.nd rfl (Or.inl rfl) (b5 bz bC (hr.mono) rfl bj b9 .nil aj (aa (aq o7 (hr.mono) rfl oA oE o5 .nil aj (aa (aI (cC (K:=K) rfl) (pv 0) (bH bF ad) (λ_ _=>rfl)) (aa (aI (aW (K:=K) rfl) (pv 1) ad (λ_ _=>rfl)) ac))) (aa (aI (cC (K:=K) rfl) (pv 0) (bH bF ad) (λ_ _=>rfl)) ac))))
   (ag (aO (PW.pt (f6 (aG cQ (cW (pv 2) R.cl gC gX (hr.mono) gS .nil aj (aa (aI (aW (K:=K) rfl) (pv 1) ad (λ_ _=>rfl)) ac)) ad (aE _)) (fZ (aG cR (aq fS (hr.mono) rfl fI fK fO .nil aj (aa (pv 0) (aa (pv 2) ac))) ad (aE _)))))
     (ak (av (bK (aa (bH bF (aR (K:=K) rfl (pv 2) rfl)) (aa (aR (K:=K) rfl (pv 2) rfl) ac)))))
     aP)
   (ak (av (bK ac))))),?_⟩
  have big:=sizeLine_eq;have en:=hN.ends;have hb:=hW.bits;have hP:=hW.fam.pln;have l7:=hW.l7;have bl:=mf hb;have lp:=hP.pos;have B1:(1:Int)<=2^kb:=by have:=Rl (n:=2) (m:=kb) (by decide);omega
  refine aw ⟨_,rfl,_,rfl,a,_,_,_,rfl,rfl,SqL.of hA,mh hP.ne,_,rfl,p,_,_,_,rfl,rfl,SqT.of hp,rfl,y,ap (prQ fs),y1,y2,rfl,hy,en.h2p,bl.mono,en.bh1.mono,en.bh2.mono,λH1 s1=>?_⟩;have bm:Bits 2300 (ap (prQ fs)*y1/y2):=Bits.of_le ((bl.mul en.bh1).mono (k:=2300) (by decide)) (S7 _ _);have l0:ap (prQ fs)≠0:=by omega
  have two:(gF f0=[-(rt (ap (prQ fs)*y1/y2) (ap (prQ fs))),rb (ap (prQ fs)*y1/y2) (ap (prQ fs))]/\x1*rb (ap (prQ fs)*y1/y2) (ap (prQ fs))<rt (ap (prQ fs)*y1/y2) (ap (prQ fs))*x2/\hv (rt (ap (prQ fs)*y1/y2) (ap (prQ fs))) (rb (ap (prQ fs)*y1/y2) (ap (prQ fs))) (prQ fs)=0)\/(gF f0=[]/\(x1*rb (ap (prQ fs)*y1/y2) (ap (prQ fs))<rt (ap (prQ fs)*y1/y2) (ap (prQ fs))*x2->hv (rt (ap (prQ fs)*y1/y2) (ap (prQ fs))) (rb (ap (prQ fs)*y1/y2) (ap (prQ fs))) (prQ fs)≠0)):=by
   obtain⟨u,e,b,σ,rfl,rfl,hb1,hNS,hc⟩:=hO.cases;rcases hc with⟨rfl,rfl⟩ |⟨hσ,he⟩
   ·left;have e0:gF [u,0,b]=ah [u,0,b]:=if_pos rfl;rw[e0];exact hO.line en.l2p en.h2p B1 hN.ux hN.uy en.lt hN.wide
   ·right;refine⟨if_neg (show ¬e=0 by omega),λhlt=>?_⟩;have hpos:=c7 (t:=ap (prQ fs)*y1/y2) l0;have hc:=ei (t:=ap (prQ fs)*y1/y2) l0;have hfl:ap (prQ fs)*y1/y2*y2<=ap (prQ fs)*y1:=Int.ediv_mul_le _ (by have:=en.h2p;omega);generalize rt (ap (prQ fs)*y1/y2) (ap (prQ fs))=m1 at *
    generalize rb (ap (prQ fs)*y1/y2) (ap (prQ fs))=m2 at *
    generalize ap (prQ fs)*y1/y2=Z at *
    have my:m1*y2<=y1*m2:=by
     refine gP lp ?_;have:=Q5 hfl (QE hpos);have e1:m1*y2*ap (prQ fs)=Z*y2*m2:=by rw[Int.mul_right_comm,hc];grind
     have e2:y1*m2*ap (prQ fs)=ap (prQ fs)*y1*m2:=by grind
     omega
    refine hO.none rfl hNS he hpos ?_ ?_
    ·refine gO en.l2p ?_;have q1:=Q5 hN.lo (QE hpos);have q2:=Rj hlt hO.l2p;have e1:l1*m2*x2=l1*x2*m2:=by grind
     have e2:x1*l2*m2=x1*m2*l2:=by grind
     have e3:m1*l2*x2=m1*x2*l2:=by grind
     omega
    ·refine gP en.h2p ?_;have q1:=Q5 hN.hi (QE hpos);have q2:=Q5 my (QE hO.h2p);have e1:m1*h2*y2=m1*y2*h2:=by grind
     have e2:y1*m2*h2=y1*h2*m2:=by grind
     have e3:h1*m2*y2=h1*y2*m2:=by grind
     omega
  generalize ap (prQ fs)*y1/y2=m at bm two ⊢
  refine⟨_,rfl,_,rfl,a,_,_,_,rfl,rfl,SqL.of (s1 _ _ hA),mh hP.ne,cI l0 (bl.mono) λr H2 s2 hr2 hR=>?_⟩;have t2:=s1.trans s2;obtain⟨dr,hR'⟩:=id hR
  have sgl:∀c d:Int,sg (c-d)>0↔d<c:=λc d=>by unfold sg;split<;>(try split)<;>constructor<;>intro z<;>omega
  refine bI (dG ⟨_,rfl,r,dr,_,rfl,hR',cZ _ _ eU.1 eU.2,_,rfl,p,_,_,_,rfl,rfl,SqT.of (t2 _ _ hp),rfl,r,x,_,_,x1,x2,rfl,hR,hx.same t2,(ee l0 bm).mono,(dY l0 bl).mono,en.bl1.mono,en.bl2.mono,_,_,rfl,rfl,_,rfl,aH (λh0=>?_) (λh0=>?_)⟩)
  ·have h0':=(sgl _ _).mp h0;refine⟨_,rfl,_,rfl,a,r,prQ fs,_,_,⟨rfl,t2 _ _ hA,hR,by omega,hb.mono,(ee l0 bm).mono,(dY l0 bl).mono⟩,λH3 s3=>⟨_,_,rfl,rfl,_,rfl,aH (λh3=>?_) (λh3=>?_)⟩⟩
   ·have h3':sg (hv (rt m (ap (prQ fs))) (rb m (ap (prQ fs))) (prQ fs))=0:=h3;rcases two with⟨z1,_,_⟩ |⟨_,z2⟩
    ·have hR3:=s3 _ _ hR';refine aQ ⟨_,rfl,r,C,dr,_,_,rfl,hR3,R.cl,R.nT,df _ _,_,rfl,_,rfl,r,C,dr,_,_,rfl,hR3,R.cl,R.nB,cs _ _,by show 2<=sizeLine;omega,λq hq=>?_⟩;refine k q _ ((t2.trans s3).then_new hq) ((t2.trans s3).free hq) ?_;rw[au,z1];rfl
    ·exact absurd ((qd _).mp h3') (z2 h0')
   ·rcases two with⟨_,_,z3⟩ |⟨z1,_⟩
    ·exact absurd ((qd _).mpr z3) h3
    ·exact aQ ⟨QH _,λq hq=>k q _ ((t2.trans s3).then_new hq) ((t2.trans s3).free hq) (by rw[au,z1];rfl)⟩
  ·rcases two with⟨_,z2,_⟩ |⟨z1,_⟩
   ·exact absurd ((sgl _ _).mpr z2) h0
   ·exact dX (aQ ⟨QH _,λq hq=>k q _ (t2.then_new hq) (t2.free hq) (by rw[au,z1];rfl)⟩)
theorem yo{fs:List (List Int)}{l1 l2 h1 h2:Int}(hF:Fam fs)(l2p:0<l2)(h2p:0<h2)(lt:l1*h2<h1*l2)(h:bT (aL fs) l1 l2 h1 h2=1):∃s ε,s∈aL fs/\0<al s l1 l2/\al s h1 h2<=0/\RootU (prQ fs) l1 l2 h1 h2 ε (λt n=>0<al s t n):=by obtain⟨pre,s,post,e,hin,hno⟩:=mH h;obtain⟨ε,hr⟩:=Ep (c:=1) hF.q (by decide) e l2p h2p lt hin hno;rw[show af [1] (aT [1] (fs.map ah))=prQ fs from hF.one]at hr;exact⟨s,ε,by rw[e];simp,hin.1,hin.2,hr⟩
theorem xS{i j:Nat}{a b:List Int}{n:Nat}(ha:AllB i a)(hb:AllB j b):∀m,Bits (i+j+m) (sm a b n m)
 |0=>Bits.zero
 |m+1=>by
  rw[sm];refine(xS ha hb m).add ?_;unfold tm;split
  ·exact((ha.cf m).mul (hb.cf _)).mono (by omega)
  ·exact Bits.zero
theorem i6{i j k:Nat}{a b:List Int}(ha:AllB i a)(hb:AllB j b)(hk:i+j+a.length<=k):AllB k (af a b):=AllB.of_cf λn=>by rw[aN];exact(xS ha hb a.length).mono hk
def xE:Sp:=λvs H Q _=>∃(a b:Addr) (xs ys:List Int) (n:Nat),vs=[.ref b,.ref a]/\H a=some (.lst (xs.map V.int))/\H b=some (.lst (ys.map V.int))/\ys≠[]/\AllB n xs/\AllB n ys/\(xs.length+2)*(n+1)<=1000000/\ys.length<=1000000/\∀H',Same H H'->Q (.bl (decide (aS xs ys=[]))) H'
theorem GA(F:Fun K "divides" "divides" rf f fd)(T:Txt K mg)(jF:Cal P w K mg base 2 "divided" ["first","second"] kS uB uo):FnOk P w K mg base CX0 3 f fd ["divisor","row"] xE:=by
 obtain⟨jB,ja,jg,jw⟩:=jF;refine F.ok D2 (λvs H Q E h=>?_) (λcdv A outer s H vs Q E hr h=>?_)
 ·obtain⟨a,b,xs,ys,n,rfl,_⟩:=h;rfl
 ·obtain⟨a,b,xs,ys,nb,rfl,hA,hB,hy,bx,by',hsz,hyn,k⟩:=h;have hu:=hr.units;refine⟨_,(ak (av (dH (jZ (K:=K) rfl hu) (aI (aW (K:=K) rfl) (aq jB (hr.mono) rfl ja jg jw .nil aj (aa (pv 1) (aa (pv 0) ac))) ad (λ_ _=>rfl)) (bK ac) (aE _)))),?_⟩;refine aQ ⟨_,rfl,_,rfl,a,b,xs,ys,nb,rfl,hA,hB,hy,bx,by',hsz,hyn,λt q r H1 sm1 ht hq hr' _ _ _ et eq er=>?_⟩;refine⟨t,_,_,_,rfl,rfl,SqT.of et,rfl,QH _,λp hp=>?_⟩;exact⟨r,p,_,[],rfl,rfl,SqL.of (by rw[upd_ne (aY er hp)];exact er),SqL.of au,k _ (sm1.then_new hp)⟩
theorem iT{f:List Int}(h:FacG f):AllB 62 (ah f)/\(ah f).length<=3:=by
 obtain⟨u,e,b,rfl,h1,h2,h3,h4,h5,h6,_⟩:=h;have sm:∀{x:Int} {n:Nat},x.natAbs<n->n<=2^62->Bits 62 x:=λh1 h2=>Q9 h1 h2
 have hr:AllB 62 (aM u e b)/\(aM u e b).length<=3:=by
  unfold aM;split
  ·refine⟨λx hx=>?_,by show 2<=3;decide⟩;rcases QK.mp hx with rfl |hx
   ·exact sm (n:=1000000001) (by omega) (by decide)
   ·rw[QF.mp hx];exact sm (n:=1001) (by omega) (by decide)
  ·refine⟨λx hx=>?_,QD _⟩;have u1:u.natAbs<=1000000000:=by omega
   have uu:(u*u).natAbs<=1000000000*1000000000:=by rw[QR];exact RD u1 u1
   have bu:(b*u).natAbs<=1000*1000000000:=by rw[QR];exact RD (by omega) u1
   have bb:(b*b).natAbs<=1000*1000:=by rw[QR];exact RD (by omega) (by omega)
   have e2 : -2*b*u = -2*(b*u):=Rc _ _ _;rw[e2]at hx;generalize u*u=A at *
   generalize b*u=B at *
   generalize b*b=D at *
   rcases QK.mp hx with rfl |hx
   ·exact sm (n:=2000000000000000000) (by omega) (by decide)
   rcases QK.mp hx with rfl |hx
   ·exact sm (n:=2000000000001) (by omega) (by decide)
   ·rw[QF.mp hx];exact sm (n:=1000001) (by omega) (by decide)
 exact⟨oa hr.1,by show(aA _).length<=3;rw[RM.plain_len];exact hr.2⟩
theorem Cn{gs:List (List Int)}(h:Fam gs)(hl:gs.length<=2):AllB 250 (prQ gs):=by
 have one:AllB 1 ([1]:List Int):=λx hx=>by rw[QF.mp hx];exact b1k (by decide)
 rw[h.prd]
 match gs,hl with
 | [],_=>exact one.mono
 | [f],_ =>obtain⟨b,l⟩:=iT (h.fac f (by simp));show AllB 250 (af (ah f) [1]);rw[c9];exact b.mono
 | [f,f'],_ =>obtain⟨b,l⟩:=iT (h.fac f (by simp));obtain⟨b',l'⟩:=iT (h.fac f' (by simp));show AllB 250 (af (ah f) (af (ah f') [1]));rw[c9];exact(i6 b b' (QD _)).mono (by omega)
theorem Dh{fs:List (List Int)}{u e b σ l1 l2 h1 h2 x1 x2 y1 y2 p1 p2 q1 q2 t1 t2 m1 m2:Int}{kb:Nat}(hO:OneS fs [u,e,b] [u,e,b,σ] l1 l2 h1 h2)(hW:Whl fs)(he:0<e)(hσ:σ=1\/σ = -1)(hB:isB ((prQ fs).take ((prQ fs).length-1)) (ap (prQ fs)).natAbs kb)(N1:Nar1 fs [u,e,b,σ] l1 l2 h1 h2 x1 x2 y1 y2 kb)
 (E2:EndsG 4074 p1 p2 q1 q2) (up:0<al [u,e,b,-σ] p1 p2) (uq:al [u,e,b,-σ] q1 q2<=0) (wide:(q1*p2-p1*q2)*(8*ap (prQ fs)*2^kb)<=1*(p2*q2)) (hS:SqR x1 x2 y1 y2 p1 p2 q1 q2 t1 t2 m1 m2):aA [ap (prQ fs)*m1/m2,-(ap (prQ fs)*t1/t2),ap (prQ fs)]=ah [u,e,b]:=by
 have hF:=hW.fam;have hL:=hF.pln.pos;have B1:(1:Int)<=2^kb:=by have:=Rl (n:=2) (m:=kb) (by decide);omega
 have eB:((2^kb:Nat):Int)=(2:Int)^kb:=by rw[Ss];rfl
 have mem0:[u,e,b,σ]∈aL fs:=R0.mpr ⟨_,hO.mem,hO.sp⟩;have mem1:[u,e,b,-σ]∈aL fs:=R0.mpr ⟨_,hO.mem,by rw[kO he];rcases hσ with rfl |rfl<;>simp⟩
 have bd:∀s∈aL fs,al s (2^kb) 1<0/\0<al s (-(2^kb)) 1:=λs hs=>by have:=wL hF.fac hF.nd (B:=2^kb) (RC (by decide)) hB.1 hs;rw[eB]at this;exact this
 have en:=N1.ends;obtain⟨a1,a2,a3,a4⟩:=zf (dq hF.q mem0) B1 (show 1<=ap (prQ fs) by omega) (bd _ mem0) en.l2p en.h2p N1.ux N1.uy en.lt N1.wide;obtain⟨c1,c2,c3,c4⟩:=zf (dq hF.q mem1) B1 (show 1<=ap (prQ fs) by omega) (bd _ mem1) E2.l2p E2.h2p up uq E2.lt wide;have mx:=hS.mx;have i1:=mx.c1;have i2:=mx.c2;have i3:=mx.c3;have i4:=mx.c4;have im:=mx.is;have is:=hS.sum;unfold vl at i1 i2 i3 i4 im is
 dsimp only at i1 i2 i3 i4 im is
 rcases hσ with rfl |rfl
 ·exact wG hF hO.mem he rfl B1 (pd en.l2p en.h2p E2.l2p E2.h2p N1.ux N1.uy up uq) a3 c3 a4 c4 a1 a2 c1 c2 i1 i2 i3 i4 im hS.t2p mx.m2p is rfl
 ·skip
  exact wG hF hO.mem he rfl B1 (pd E2.l2p E2.h2p en.l2p en.h2p up uq N1.ux N1.uy) c3 a3 c4 a4 c1 c2 a1 a2 (by rw[Si];exact i1) (by rw[Si];exact i3) (by rw[Si];exact i2) (by rw[Si];exact i4) (by
   rcases im with z |z |z |z
   ·exact .inl (by rw[z,Si])
   ·exact .inr (.inr (.inl (by rw[z,Si])))
   ·exact .inr (.inl (by rw[z,Si]))
   ·exact .inr (.inr (.inr (by rw[z,Si])))) hS.t2p mx.m2p (by rw[is,Rat.add_comm]) rfl
theorem La{fs:List (List Int)}{f0:List Int}(hF:Fam fs)(hm:f0∈fs):aS (prQ fs) (ah f0)=[]:=by
 obtain⟨pre,post,e⟩:=SI (List.mem_map_of_mem (f:=ah) hm);have hp:=hF.pri;have hP:=hF.pln;have e0:=hF.prd;rw[e]at hp e0;have hq:Pln (RM.prd (pre++post)):=iX _ λs hs=>(hp s (by simp at hs ⊢;rcases hs with z |z<;>simp[z])).pln
 have hs:Pln (ah f0):=(hp _ (by simp)).pln;rw[ly]at e0;exact(yR hP.tr hP.ne hs hq (by rw[hP.plain,e0])).1
def xv(C:Addr):Sp:=λvs H Q _=>∃(a l h:Addr) (fs:List (List Int)) (f0 s0:List Int) (l1 l2 h1 h2:Int),vs=[.ref a,.ref l,.ref h]/\H a=some (.lst ((prQ fs).map V.int))/\RA C H l l1 l2/\RA C H h h1 h2/\Whl fs/\OneS fs f0 s0 l1 l2 h1 h2/\bT (aL fs) l1 l2 h1 h2=1/\EndsG 250 l1 l2 h1 h2/\mkL H Q (ah f0)
theorem Gu(F:Fun K "least" "least" qX f fd)(T:Txt K mg)(gZ:Cal P w K mg base 34 "plain" ["row"] jO oS oP)(fV:Cal P w K mg base 1 "degree" ["row"] iR mD mB)(Od:Cal P w K mg base 4 "fine_width" ["whole"] (xC C) Qd O8)(mX:Cal P w K mg base 6 "narrowed" ["row","low","high","width"] (ny C) AQ AM)(N9:Cal P w K mg base 6 "line_of" ["whole","span"] (xy C) P9 O4)(Oh:Cal P w K mg base 36 "cells" ["row"] (xG C) Qh Pc)(NK:Cal P w K mg base 35 "square_of" ["whole","span","other"] (wU C) PD OJ)(Of:Cal P w K mg base 3 "divides" ["divisor","row"] xE Qf Pa)(vI:Cal P w K mg base 4 "count" ["row","low","high"] (pR C) KP Ky)(mW:Cal P w K mg base 35 "row_of" ["polynomial"] nr AO AL):FnOk P w K mg base CX0 37 f fd ["row","low","high"] (xv C):=by
 obtain⟨fT,fJ,fL,fQ⟩:=gZ;obtain⟨dS,dI,dL,dR⟩:=fV;obtain⟨Nm,Io,JA,Ml⟩:=Od;obtain⟨kE,j8,ka,ko⟩:=mX;obtain⟨Ni,Ij,Jw,Mg⟩:=N9;obtain⟨Nq,Iv,JE,Mp⟩:=Oh;obtain⟨MT,HM,Jc,LU⟩:=NK;obtain⟨No,Ir,JC,Mn⟩:=Of;obtain⟨vx,tD,tU,va⟩:=vI;obtain⟨mT,ma,mj,mO⟩:=mW;refine F.ok sc_least (λvs H Q E h=>?_) (λcdv A outer s H vs Q E hr h=>?_)
 ·obtain⟨a,l,h,fs,f0,s0,l1,l2,h1,h2,rfl,_⟩:=h;rfl
 ·obtain⟨a,l,h,fs,f0,s0,l1,l2,h1,h2,rfl,hA,hl,hh,hW,hO,hcn,en,k⟩:=h;have hu:=hr.units;have big:=sizeLine_eq;have hF:=hW.fam;have hP:=hF.pln;have l7:=hW.l7;have l2':=hW.l2;have hml:((prQ fs).map V.int).length=(prQ fs).length:=QB _;have pf0:=fM (hF.fac f0 hO.mem);have hL:=hP.pos
  refine⟨_,(ag (ao (i:=3) sc_least.nd rfl (Or.inl rfl) (aq fT (hr.mono) rfl fJ fL fQ .nil aj (aa (pv 0) ac)))
   (ag (aO (aG cY (aq dS (hr.mono) rfl dI dL dR .nil aj (aa (pv 3) ac)) ad (aE _))
     (ak (av (pv 3)))
     aP)
   (ag (ao (i:=4) sc_least.nd rfl (Or.inl rfl) (aq Nm (hr.mono) rfl Io JA Ml .nil aj (aa (pv 3) ac)))
   (ag (ao (i:=5) sc_least.nd rfl (Or.inl rfl) (aq kE (hr.mono) rfl j8 ka ko .nil aj (aa (pv 3) (aa (pv 1) (aa (pv 2) (aa (pv 4) ac))))))
   (ag (ao (i:=6) sc_least.nd rfl (Or.inl rfl) (aq Ni (hr.mono) rfl Ij Jw Mg .nil aj (aa (pv 3) (aa (pv 5) ac))))
   (ag (aO (aG (lJ (K:=K) rfl hu) (pv 6) (bK ac) (aE _))
     (ak (av (pv 6)))
     aP)
   (ag (aO (aG cR (aq dS (hr.mono) rfl dI dL dR .nil aj (aa (pv 3) ac)) ad (aE _))
     (ak (av (pv 3)))
     aP)
   (ag (c8 PassesOwn.never rfl (fz (K:=K) rfl (aq Nq (hr.mono) rfl Iv JE Mp .nil aj (aa (pv 3) ac))) (aU (i:=7) sc_least.nd rfl (Or.inl rfl))
     (ag (ao (i:=8) sc_least.nd rfl (Or.inl rfl) (aq MT (hr.mono) rfl HM Jc LU .nil aj (aa (pv 3) (aa (pv 5) (aa (aq kE (hr.mono) rfl j8 ka ko .nil aj (aa (pv 3) (aa (aI (aW (K:=K) rfl) (pv 7) ad (λ_ _=>rfl)) (aa (aI (aW (K:=K) rfl) (pv 7) ad (λ_ _=>rfl)) (aa (pv 4) ac))))) ac)))))
       (ak (aO (PW.pt (f6 (jT (aq No (hr.mono) rfl Ir JC Mn .nil aj (aa (pv 8) (aa (pv 3) ac)))) (fZ (aG cR (aq vx (hr.mono) rfl tD tU va .nil aj (aa (aq mT (hr.mono) rfl ma mj mO .nil aj (aa (pv 8) ac)) (aa (pv 1) (aa (pv 2) ac)))) ad (aE _)))))
         (ak (av (pv 8)))
         aP))))
   (ak (av (pv 3))))))))))),?_⟩
  refine aw ⟨_,rfl,a,prQ fs,rfl,hA,hP.tr,by omega,λp H1 s1 hp e1=>?_⟩;rw[hP.plain]at e1;refine bI ⟨_,rfl,p,_,rfl,e1,_,_,rfl,rfl,_,rfl,aH (λh0=>?_) (λh0=>?_)⟩
  ·have h0':((prQ fs).map V.int).length-(1:Int)<2:=h0;rw[hml]at h0';have e:=vR hF hO.mem (by have:=pf0.two;omega);rw[e]at e1;exact⟨_,rfl,k p H1 s1 hp e1⟩
  refine aw ⟨_,rfl,p,fs,rfl,e1,hW,λwd H2 kb hk hB s2 hwd hWd hD bD=>?_⟩;have t2:=s1.trans s2;have e2:=s2 _ _ e1;obtain⟨sx,ε,hsx,hx1,hx2,ru⟩:=yo hF en.l2p en.h2p en.lt hcn;obtain rfl:=hO.only sx hsx hx1 hx2;refine aw ⟨_,rfl,_,rfl,_,rfl,_,rfl,p,l,h,wd,prQ fs,l1,l2,h1,h2,1,8*ap (prQ fs)*2^kb,250,520,ε,_,rfl,e2,hP.tr,hP.ne,by omega,hW.bits.mono,hl.same t2,hh.same t2,hWd,en,by decide,hD,b1k (by decide),bD,by decide,by decide,by decide,ru,λps x y H3 n pl x1 x2 y1 y2 s3 hps e3 hx hy nar=>?_⟩;have t3:=t2.trans s3;have ep3:=s3 _ _ e2;have N1:Nar1 fs sx l1 l2 h1 h2 x1 x2 y1 y2 kb:=⟨nar.ends,nar.ux,Rp.mp nar.uy,nar.lo,nar.hi,nar.wide⟩;refine aw ⟨_,rfl,_,rfl,p,ps,x,y,fs,f0,sx,l1,l2,h1,h2,x1,x2,y1,y2,kb,rfl,ep3,e3,hx,hy,hW,hO,N1,λpl' H4 s4 hpl e4=>?_⟩;refine bI ⟨_,rfl,QH _,λp0 hp0=>?_⟩;have s5:=Same.upd_new (o:=.lst []) hp0;obtain⟨u,e,b,σ,rfl,rfl,hb1,hNS,hc⟩:=hO.cases;have hne:ah [u,e,b]≠[]:=pf0.pln.ne;refine⟨pl',p0,gF [u,e,b],[],rfl,rfl,SqL.of (s5 _ _ e4),SqL.of au,_,rfl,dB (λh3=>?_) (λh3=>?_)⟩
  ·have h3':gF [u,e,b]≠[]:=h3
   have e0:gF [u,e,b]=ah [u,e,b]:=by
    by_cases z:e=0
    ·exact if_pos z
    ·exact absurd (if_neg z) h3'
   rw[e0]at e4;exact⟨_,rfl,k pl' _ (t3.trans (s4.trans s5)) (t3.free hpl) (s5 _ _ e4)⟩
  have h3':gF [u,e,b]=[]:=h3
  have he:0<e:=by
   rcases hc with⟨_,rfl⟩ |⟨_,he⟩
   ·exact absurd ((if_pos rfl:gF [u,0,b]=ah [u,0,b]).symm.trans h3') hne
   ·exact he
  have hσ:σ=1\/σ = -1:=by
   rcases hc with⟨z,_⟩ |⟨z,_⟩
   ·exact .inl z
   ·exact z
  have hl3:(ah [u,e,b]).length=3:=by obtain⟨g,A0,A1,A2,_,eS,_⟩:=qb (u:=u) hb1 (show e≠0 by omega);rw[eS];rfl
  generalize upd H4 p0 (.lst [])=H5 at s5 ⊢
  have u5:=s3.trans (s4.trans s5);have ep5:=u5 _ _ e2;refine bI ⟨_,rfl,p,_,rfl,ep5,_,_,rfl,rfl,_,rfl,aH (λh0=>?_) (λ_=>?_)⟩
  ·have h0':(((prQ fs).map V.int).length:Int)-1=2:=h0;rw[hml]at h0';have eW:=vR hF hO.mem (by omega);rw[eW]at ep5;exact⟨_,rfl,k p H5 (t2.trans u5) hp ep5⟩
  refine⟨_,rfl,p,fs,rfl,ep5,hW,λkb' pc ys H6 hk' hB' s6 hpc ec hys hcov hyl=>?_⟩;obtain rfl:=Ae hB hB';have t5:=t2.trans u5;have u6:=u5.trans s6;have hsp1:[u,e,b,-σ]∈aL fs:=R0.mpr ⟨_,hO.mem,by rw[kO he];rcases hσ with rfl |rfl<;>simp⟩;have hql:(qs ys).length=ys.length:=QB _;refine⟨pc,rfl,⟨_,SqL.of ec⟩,oO (K:=K) (a:=pc) (xs:=qs ys) (λi σ' H'=>∃(z7 z8:Option V),σ'=[some (.ref a),some (.ref l),some (.ref h),some (.ref p),some (.ref wd),some (.ref ps),some (.ref pl'),z7,z8]/\Same H6 H'/\∀(j:Nat) (c:Cel),j<i->ys[j]?=some c->¬c.inn [u,e,b,-σ]) ⟨none,none,rfl,Same.refl _,λj c hj=>absurd hj (SL _)⟩ ?_ ?_ ?_⟩
  ·rintro i σ' H' _ ⟨z7,z8,rfl,sm,_⟩;exact SqL.of (sm _ _ ec)
  ·rintro i z σ' H' hi ⟨z7,z8,rfl,sm,hno⟩
   have hil:i<ys.length:=by apply Classical.byContradiction;intro hn;rw[List.getElem?_eq_none_iff.mpr (by rw[hql];omega)]at hi;cases hi
   have ey:ys[i]?=some ys[i]:=List.getElem?_eq_getElem hil
   have hz:z=V.ref ys[i].q:=by
    unfold qs at hi
    rw[List.getElem?_map,ey]at hi;exact(Option.some.inj hi).symm
   subst hz;generalize hc0:ys[i]=c at *
   have hcf:=(hys c (by rw[<- hc0];exact Sb hil)).nl (NL.of sm);have dE:=K9 hcf.dy hk hcf.dd;obtain⟨fx,sx',hO2⟩:=FC hF dE.l2p dE.h2p dE.lt hcf.one;obtain⟨sc,εc,hsc,hcx1,hcx2,ruc⟩:=yo hF dE.l2p dE.h2p dE.lt hcf.one;have esc:=hO2.only sc hsc hcx1 hcx2;have u7:=u6.trans sm;have t7:=t2.trans u7;refine aw ⟨_,rfl,_,rfl,_,rfl,_,rfl,c.q,_,_,_,rfl,rfl,SqT.of hcf.tup,rfl,_,rfl,c.q,_,_,_,rfl,rfl,SqT.of hcf.tup,rfl,_,rfl,p,c.lo,c.hi,wd,prQ fs,c.l1,c.l2,c.h1,c.h2,1,8*ap (prQ fs)*2^kb,710,520,εc,_,rfl,u7 _ _ e2,hP.tr,hP.ne,by omega,hW.bits.mono,hcf.lo,hcf.hi,hWd.same u7,dE,by decide,hD,b1k (by decide),bD,by decide,by decide,by decide,ruc,λps' x' y' H7 n' pl7 p1 p2 q1 q2 s7 hps' e7 hx' hy' nar'=>?_⟩;have u8:=u7.trans s7;have v8:=(s4.trans s5).trans (s6.trans (sm.trans s7));have tw:TwoS C H7 ps ps' x y x' y' x1 x2 y1 y2 p1 p2 q1 q2:=⟨v8 _ _ e3,e7,hx.same v8,hy.same v8,hx',hy',nar.ends,nar'.ends⟩;refine⟨p,ps,ps',x,y,x',y',prQ fs,x1,x2,y1,y2,p1,p2,q1,q2,rfl,u8 _ _ e2,hP,hW.bits,tw,λt1 t2' m1 m2 hS psq H8 s8 hpsq e8=>?_⟩;have bl:=mf hW.bits;have trE:Tr [ap (prQ fs)*m1/m2,-(ap (prQ fs)*t1/t2'),ap (prQ fs)]:=(tr_snoc (r:=[ap (prQ fs)*m1/m2,-(ap (prQ fs)*t1/t2')])).mpr (by omega);have hPE:=fy trE (by simp);have hlE:(aA [ap (prQ fs)*m1/m2,-(ap (prQ fs)*t1/t2'),ap (prQ fs)]).length=3:=RM.plain_len _
   have bE:AllB 6300 (aA [ap (prQ fs)*m1/m2,-(ap (prQ fs)*t1/t2'),ap (prQ fs)]):=by
    refine oa λv hv=>?_
    rcases QK.mp hv with rfl |hv
    ·exact Bits.of_le ((bl.mul hS.mx.b1).mono (k:=6300) (by decide)) (S7 _ _)
    rcases QK.mp hv with rfl |hv
    ·exact(Bits.of_le ((bl.mul hS.bt).mono (k:=6300) (by decide)) (S7 _ _)).neg
    ·rw[QF.mp hv];exact bl.mono
   have fell:c.inn [u,e,b,-σ]->aA [ap (prQ fs)*m1/m2,-(ap (prQ fs)*t1/t2'),ap (prQ fs)]=ah [u,e,b]:=λhin=>by
    have ex:=hO2.only _ hsp1 hin.1 hin.2;have e9:sc=[u,e,b,-σ]:=by rw[esc,ex]
    have ux:=nar'.ux;have uy:=Rp.mp nar'.uy;rw[e9]at ux uy;exact Dh hO hW he hσ hB N1 nar'.ends ux uy nar'.wide hS
   generalize aA [ap (prQ fs)*m1/m2,-(ap (prQ fs)*t1/t2'),ap (prQ fs)]=Es at e8 hPE hlE bE fell
   have u9:=u8.trans s8;have t9:=t2.trans u9
   have next:∀H',Same H8 H'->¬c.inn [u,e,b,-σ]->∃(z7 z8:Option V),[some (V.ref a),some (V.ref l),some (V.ref h),some (V.ref p),some (V.ref wd),some (V.ref ps),some (V.ref pl'),some (V.ref c.q),some (V.ref psq)]=[some (V.ref a),some (V.ref l),some (V.ref h),some (V.ref p),some (V.ref wd),some (V.ref ps),some (V.ref pl'),z7,z8]/\Same H6 H'/\∀(j:Nat) (c:Cel),j<i+1->ys[j]?=some c->¬c.inn [u,e,b,-σ]:=λH' s' hn=>⟨_,_,rfl,sm.trans (s7.trans (s8.trans s')),λj c' hj ej=>by
    rcases Nat.lt_or_eq_of_le (Nat.lt_succ_iff.mp hj)with v |v
    ·exact hno j c' v ej
    ·subst v;rw[ey,<- hc0]at ej
     rw[<- Option.some.inj ej,hc0];exact hn⟩
   refine dG ⟨_,rfl,_,rfl,p,psq,prQ fs,Es,6300,rfl,u9 _ _ e2,e8,hPE.ne,hW.bits.mono,bE,by have:((prQ fs).length+2)*(6300+1)<=9*6301:=Ro _ (by omega);omega,by omega,λH9 s9=>?_⟩;refine⟨_,rfl,aH (λhd=>?_) (λhd=>?_)⟩
   ·have hd':aS (prQ fs) Es=[]:=hd
    obtain⟨gs,hG,hgl,hEg,hone,hfel⟩:∃gs,Fam gs/\gs.length<=2/\Es=prQ gs/\(bT (aL gs) l1 l2 h1 h2=1->Es=ah [u,e,b])/\(c.inn [u,e,b,-σ]->bT (aL gs) l1 l2 h1 h2=1):=by
     by_cases hin:c.inn [u,e,b,-σ]
     ·have hG:=hF.single hO.mem;exact⟨[[u,e,b]],hG,by simp,by rw[n6 hG];exact fell hin,λ_=>fell hin,λ_=>hO.cnt⟩
     ·obtain⟨gs,g1,_,g3,g4,g5⟩:=hO.sq hl3 hPE hlE (uF hPE.ne hPE.tr hd');exact⟨gs,g1,g3,g4,g5,λz=>absurd z hin⟩
    have bG:=Cn hG hgl;obtain⟨rn,rx,rl⟩:=sd hG (by rw[<- hEg];omega) bG;rw[<- hEg]at rn bG;refine⟨_,rfl,psq,Es,9,rfl,s9 _ _ e8,hPE.tr,bE.mono,by omega,by decide,rn,λlr rs H10 s10 hlr hnew el hR=>?_⟩;have t10:=(t9.trans s9).trans s10;have hR':RwH H10 rs (dj gs):=by unfold dj;rw[<- hEg];exact hR
    refine⟨_,rfl,_,rfl,lr,l,h,rs,dj gs,l1,l2,h1,h2,rfl,el,hR',hl.same t10,hh.same t10,en.bl1.mono,en.bl2.mono,en.bh1.mono,en.bh2.mono,rx,rl,λH11 s11=>⟨_,_,rfl,rfl,_,rfl,aH (λh4=>?_) (λh4=>?_)⟩⟩
    ·have h4':((chS (sgs l1 l2 (dj gs))).1:Int)-(chS (sgs h1 h2 (dj gs))).1=1:=h4;rw[nV hG (by rw[<- hEg];omega) en.l2p en.h2p en.lt]at h4';rw[hone h4']at e8;have w11:=s9.trans (s10.trans s11);refine aQ ⟨_,rfl,?_⟩;exact k psq H11 (t9.trans w11) ((t2.trans u8).free hpsq) (w11 _ _ e8)
    ·have h4':¬((chS (sgs l1 l2 (dj gs))).1:Int)-(chS (sgs h1 h2 (dj gs))).1=1:=h4;rw[nV hG (by rw[<- hEg];omega) en.l2p en.h2p en.lt]at h4';exact next _ (s9.trans (s10.trans s11)) λz=>h4' (hfel z)
   ·have hd':¬aS (prQ fs) Es=[]:=hd;refine dX (next _ s9 λz=>hd' ?_);rw[fell z];exact La hF hO.mem
  ·rintro σ' H' ⟨z7,z8,rfl,sm,hno⟩;obtain⟨c,hc1,hc2⟩:=hcov _ hsp1;obtain⟨j,hj,ej⟩:=List.mem_iff_getElem.mp hc1;exact absurd hc2 (hno j c (by rw[hql];exact hj) (by rw[<- ej];exact List.getElem?_eq_getElem hj))
structure OneW(fs:List (List Int))(f0 s0:List Int)(l1 l2 h1 h2:Int):Prop where
 whl:Whl fs
 one:OneS fs f0 s0 l1 l2 h1 h2
 cnt:bT (aL fs) l1 l2 h1 h2=1
 en:EndsG 250 l1 l2 h1 h2
def xo(C CN:Addr):Sp:=λvs H Q _=>∃(a l h:Addr) (fs:List (List Int)) (f0 s0:List Int) (l1 l2 h1 h2:Int),vs=[.ref a,.ref l,.ref h]/\H a=some (.lst ((prQ fs).map V.int))/\RA C H l l1 l2/\RA C H h h1 h2/\OneW fs f0 s0 l1 l2 h1 h2/\∀(x q:Addr) (H':Hp),Same H H'->H x=none->NA CN H' x q l h->H' q=some (.lst ((ah f0).map V.int))->H q=none->Q (.ref x) H'
theorem Gh(F:Fun K "number_in" "number_in" qN f fd)(T:Txt K mg)(R:RCI K mg C)(Oa:Cal P w K mg base 37 "least" ["row","low","high"] (xv C) Qa O5)(fU:Cal P w K mg base 2 "sign_at" ["row","ratio"] (iQ C) mC mz)(mX:Cal P w K mg base 6 "narrowed" ["row","low","high","width"] (ny C) AQ AM)(jG:MCal P w K mg base 4 C "minus" ["self","other"] (kR C) uC ur)(g6:MCal P w K mg base 4 C "times" ["self","other"] (jN C) oT oQ)(cc:KCal P w K mg base 2 C "Ratio" ["self","top","bottom"] (da C) dN dM dO [.int 1])(g7:KCal P w K mg base 1 CN "Number" ["self","row","low","high"] (g9 CN) oU oR oX []):FnOk P w K mg base CX0 38 f fd ["simple","low","high"] (xo C CN):=by
 obtain⟨Nj,Ik,Jx,Mh⟩:=Oa;obtain⟨fS,fI,fK,fO⟩:=fU;obtain⟨kE,j8,ka,ko⟩:=mX;obtain⟨iL,ix,iI⟩:=jG;obtain⟨fj,fb,fi⟩:=g6;obtain⟨bC,bz,bj,b9,cF,cD⟩:=cc;obtain⟨gY,gU,gE,gT,o6,o0⟩:=g7;refine F.ok sc_number_in (λvs H Q E h=>?_) (λcdv A outer s H vs Q E hr h=>?_)
 ·obtain⟨a,l,h,fs,f0,s0,l1,l2,h1,h2,rfl,_⟩:=h;rfl
 ·obtain⟨a,l,h,fs,f0,s0,l1,l2,h1,h2,rfl,hA,hl,hh,hN,k⟩:=h
  refine⟨_,(ag (ao (i:=3) sc_number_in.nd rfl (Or.inl rfl) (aq Nj (hr.mono) rfl Ik Jx Mh .nil aj (aa (pv 0) (aa (pv 1) (aa (pv 2) ac)))))
   (ag (ao (i:=4) sc_number_in.nd rfl (Or.inl rfl) (du (aa (pv 1) (aa (pv 2) ac))))
   (ag (f7 PassesOwn.never (aG cR (aq fS (hr.mono) rfl fI fK fO .nil aj (aa (pv 3) (aa (aI (aW (K:=K) rfl) (pv 4) ad (λ_ _=>rfl)) ac))) ad (aE _))
     (ag (ao (i:=5) sc_number_in.nd rfl (Or.inl rfl) (cW (cW (aI (aW (K:=K) rfl) (pv 4) ad (λ_ _=>rfl)) R.cl ix iL (hr.mono) iI .nil aj (aa (aI (aW (K:=K) rfl) (pv 4) ad (λ_ _=>rfl)) ac)) R.cl fb fj (hr.mono) fi .nil aj (aa (b5 bz bC (hr.mono) rfl bj b9 .nil aj (aa ad (aa ad ac))) ac)))
       (ak (ao (i:=4) sc_number_in.nd rfl (Or.inl rfl) (aq kE (hr.mono) rfl j8 ka ko .nil aj (aa (pv 3) (aa (aI (aW (K:=K) rfl) (pv 4) ad (λ_ _=>rfl)) (aa (aI (aW (K:=K) rfl) (pv 4) ad (λ_ _=>rfl)) (aa (pv 5) ac)))))))))
   (ak (av (b5 gU gY (hr.mono) rfl gE gT .nil aj (aa (pv 3) (aa (aI (aW (K:=K) rfl) (pv 4) ad (λ_ _=>rfl)) (aa (aI (aW (K:=K) rfl) (pv 4) ad (λ_ _=>rfl)) ac))))))))),?_⟩
  obtain⟨bS,lS⟩:=iT (hN.one.fam.fac f0 hN.one.mem);refine aw ⟨_,rfl,_,rfl,_,rfl,a,l,h,fs,f0,s0,l1,l2,h1,h2,rfl,hA,hl,hh,hN.whl,hN.one,hN.cnt,hN.en,λp H1 s1 hp e1=>?_⟩;refine aw ⟨_,rfl,_,rfl,by show 2<=sizeLine;decide,λps hps=>?_⟩;have s2:=s1.then_new (o:=.tup [V.ref l,V.ref h]) hps;have q2:upd H1 ps (.tup [V.ref l,V.ref h]) ps=some (.tup [V.ref l,V.ref h]):=au;have e2:=(Same.upd_new (o:=.tup [V.ref l,V.ref h]) hps) _ _ e1;generalize upd H1 ps (.tup [V.ref l,V.ref h])=H2 at s2 q2 e2 ⊢
  refine⟨λm σ' H'=>m=0/\(∃z5:Option V,σ'=[some (.ref a),some (.ref l),some (.ref h),some (.ref p),some (.ref ps),z5])/\H2=H',⟨0,rfl,⟨none,rfl⟩,rfl⟩,?_⟩;rintro m σ' H' ⟨rfl,⟨z5,rfl⟩,rfl⟩;refine⟨_,rfl,_,rfl,ps,_,_,_,rfl,rfl,SqT.of q2,rfl,p,l,ah f0,l1,l2,⟨rfl,e2,hl.same s2,by omega,bS.mono,hN.en.bl1.mono,hN.en.bl2.mono⟩,λH3 s3=>⟨_,_,rfl,rfl,_,rfl,aH (λh0=>absurd h0 hN.one.low) (λ_=>?_)⟩⟩;have q3:=s3 _ _ q2;have e3:=s3 _ _ e2;have t3:=s2.trans s3;dsimp only
  refine aQ ⟨_,rfl,_,rfl,ps,_,_,_,rfl,rfl,SqT.of q3,rfl,_,rfl,ps,_,_,_,rfl,rfl,SqT.of q3,rfl,lY e3 λx q H4 s4 hx hNA hq hqn=>?_⟩;exact k x q H4 (t3.trans s4) (t3.free hx) hNA hq (t3.free hqn)
def pN(C CN:Addr):Sp:=λvs H Q _=>∃(a l h:Addr) (kp:List Int) (c:Int) (us:List (List Int×Nat)) (fs:List (List Int)) (f0 s0:List Int) (l1 l2 h1 h2:Int),vs=[.ref a,.ref l,.ref h]/\H a=some (.lst (kp.map V.int))/\RA C H l l1 l2/\RA C H h h1 h2/\Made kp c us/\flt us=prQ fs/\OneW fs f0 s0 l1 l2 h1 h2/\∀(x q:Addr) (H':Hp),Same H H'->H x=none->NA CN H' x q l h->H' q=some (.lst ((ah f0).map V.int))->H q=none->Q (.ref x) H'
theorem Gi(F:FunD K "number" "number" jQ dV f fd)(T:Txt K mg)(R:RCI K mg C)(NT:Cal P w K mg base 1 "refuse_high" ["height"] (λvs H Q _=>∃i:Int,vs=[.int i]/\i<=8/\Q .non H) PN OQ)(fV:Cal P w K mg base 1 "degree" ["row"] iR mD mB)(cc:KCal P w K mg base 2 C "Ratio" ["self","top","bottom"] (da C) dN dM dO [.int 1])(mY:Cal P w K mg base 1 "bound" ["row"] (nE K) AR AN)(NC:Cal P w K mg base 36 "without_squares" ["row"] wN Pt OB)(N7:Cal P w K mg base 36 "many_within" ["simple","low","high"] (xq C) P7 O2)(NV:Cal P w K mg base 1 "refuse_great" ["row"] xf PP OR)(NZ:Cal P w K mg base 38 "number_in" ["simple","low","high"] (xo C CN) PV OV):FnOk P w K mg base CX0 39 f fd ["row","low","high"] (pN C CN):=by
 obtain⟨MZ,HU,Ji,L1⟩:=NT;obtain⟨dS,dI,dL,dR⟩:=fV;obtain⟨bC,bz,bj,b9,cF,cD⟩:=cc;obtain⟨jC,jb,jh,jx⟩:=mY;obtain⟨ML,HE,IW,LM⟩:=NC;obtain⟨Ng,Ih,Ju,Me⟩:=N7;obtain⟨M0,HV,Jj,L3⟩:=NV;obtain⟨M8,HZ,Jn,L7⟩:=NZ;refine F.ok sc_number (λvs H Q E h=>?_) (λcdv A outer s H vs Q E hr h=>?_)
 ·obtain⟨a,l,h,kp,c,us,fs,f0,s0,l1,l2,h1,h2,rfl,_⟩:=h;rfl
 ·obtain⟨a,l,h,kp,c,us,fs,f0,s0,l1,l2,h1,h2,rfl,hA,hl,hh,hM,hfl,hN,k⟩:=h;have l9:=hM.len.1;have l2':=hM.one;have l7:=hN.whl.l7;have hml:(kp.map V.int).length=kp.length:=QB _
  refine⟨_,(ag (eO (aq MZ (hr.mono) rfl HU Ji L1 .nil aj (aa (aq dS (hr.mono) rfl dI dL dR .nil aj (aa (pv 0) ac)) ac)))
   (ag (aO (aG cY (aq dS (hr.mono) rfl dI dL dR .nil aj (aa (pv 0) ac)) ad (aE _))
     (ak iW)
     aP)
   (ag (ao (i:=3) sc_number.nd rfl (Or.inl rfl) (iZ (aG sM (pv 1) io (aE _)) (b5 bz bC (hr.mono) rfl bj cF cD aj (aa (bH bF (aq jC (hr.mono) rfl jb jh jx .nil aj (aa (pv 0) ac))) ac)) (pv 1)))
   (ag (ao (i:=4) sc_number.nd rfl (Or.inl rfl) (iZ (aG sM (pv 2) io (aE _)) (b5 bz bC (hr.mono) rfl bj cF cD aj (aa (aq jC (hr.mono) rfl jb jh jx .nil aj (aa (pv 0) ac)) ac)) (pv 2)))
   (ag (ao (i:=5) sc_number.nd rfl (Or.inl rfl) (aq ML (hr.mono) rfl HE IW LM .nil aj (aa (pv 0) ac)))
   (ag (ao (i:=6) sc_number.nd rfl (Or.inl rfl) (aq Ng (hr.mono) rfl Ih Ju Me .nil aj (aa (pv 5) (aa (pv 3) (aa (pv 4) ac)))))
   (ag (aO (aG jX (pv 6) ad (aE _))
     (ak iW)
     aP)
   (ag (eO (aq M0 (hr.mono) rfl HV Jj L3 .nil aj (aa (pv 5) ac)))
   (ak (av (aq M8 (hr.mono) rfl HZ Jn L7 .nil aj (aa (pv 5) (aa (pv 3) (aa (pv 4) ac)))))))))))))),?_⟩
  refine gq ⟨_,rfl,a,_,rfl,hA,_,rfl,by rw[hml];omega,?_⟩;refine bI ⟨_,rfl,a,_,rfl,hA,_,_,rfl,rfl,_,rfl,aH (λh0=>absurd (show((kp.map V.int).length:Int)-1<1 from h0) (by rw[hml];omega)) (λ_=>?_)⟩;refine aw ⟨_,rfl,rfl,_,rfl,?_⟩;rw[decide_eq_false (by simp)];refine dX ⟨_,rfl,?_⟩;refine aw ⟨_,rfl,rfl,_,rfl,?_⟩;rw[decide_eq_false (by simp)];refine dX ⟨_,rfl,?_⟩;refine aw ⟨_,rfl,a,kp,c,us,rfl,hA,hM,λpw H1 s1 hpw e1=>?_⟩;rw[hfl]at e1;refine aw ⟨_,rfl,_,rfl,_,rfl,pw,l,h,fs,l1,l2,h1,h2,rfl,e1,hN.whl,hl.same s1,hh.same s1,hN.en,λH2 s2=>?_⟩;rw[hN.cnt];have e2:=s2 _ _ e1;have t2:=s1.trans s2;refine bI ⟨_,rfl,_,_,rfl,rfl,_,rfl,dB (λh=>absurd rfl h) (λ_=>?_)⟩;refine gq ⟨_,rfl,pw,prQ fs,rfl,e2,by omega,hN.whl.bits.mono,λH3 s3=>?_⟩;have t3:=t2.trans s3;refine aQ ⟨_,rfl,_,rfl,_,rfl,pw,l,h,fs,f0,s0,l1,l2,h1,h2,rfl,s3 _ _ e2,hl.same t3,hh.same t3,hN,λx q H4 s4 hx hNA hq hqn=>?_⟩;exact k x q H4 (t3.trans s4) (t3.free hx) hNA hq (t3.free hqn)
def NU(kb:Nat)(C CN:Addr)(H:Hp)(x:Addr)(ns:List Int)(l1 l2 h1 h2 ε:Int)(Up:Int->Int->Prop):Prop:=∃q l h,NA CN H x q l h/\H q=some (.lst (ns.map V.int))/\RA C H l l1 l2/\RA C H h h1 h2/\EndsG kb l1 l2 h1 h2/\RootU ns l1 l2 h1 h2 ε Up
theorem NU.same{kb:Nat}{C CN:Addr}{H H':Hp}{x:Addr}{ns:List Int}{l1 l2 h1 h2 ε:Int}{Up:Int->Int->Prop}(n:NU kb C CN H x ns l1 l2 h1 h2 ε Up)(s:Same H H'):NU kb C CN H' x ns l1 l2 h1 h2 ε Up:=let⟨q,l,h,a,e,c,d,en⟩:=n;⟨q,l,h,a.same s,s _ _ e,c.same s,d.same s,en⟩
theorem RootU.sub{ns:List Int}{l1 l2 h1 h2 ε:Int}{Up:Int->Int->Prop}(r:RootU ns l1 l2 h1 h2 ε Up)(l2p:0<l2)(h2p:0<h2){x1 x2 y1 y2:Int}(x2p:0<x2)(y2p:0<y2)(ux:Up x1 x2)(uy:¬Up y1 y2)(lo:l1*x2<=x1*l2)(hi:y1*h2<=h1*y2):RootU ns x1 x2 y1 y2 ε Up:=by
 have gl:∀z1 z2:Int,0<z2->x1*z2<z1*x2->l1*z2<z1*l2:=λz1 z2 hz h=>by
  refine gO x2p ?_;have h3:=Q5 lo (QE hz);have h4:=Rj h l2p;have e1:l1*x2*z2=l1*z2*x2:=by grind
  have e2:x1*l2*z2=x1*z2*l2:=by grind
  have e3:z1*x2*l2=z1*l2*x2:=by grind
  omega
 have gh:∀z1 z2:Int,0<z2->z1*y2<=y1*z2->z1*h2<=h1*z2:=λz1 z2 hz h=>by
  refine gP y2p ?_;have h3:=Q5 hi (QE hz);have h4:=Q5 h (QE h2p);have e1:z1*y2*h2=z1*h2*y2:=by grind
  have e2:y1*z2*h2=y1*h2*z2:=by grind
  have e3:h1*y2*z2=h1*z2*y2:=by grind
  omega
 exact⟨r.e1,λz1 z2 hz h1 h2=>r.r1 z1 z2 hz (gl z1 z2 hz h1) (gh z1 z2 hz h2),λz1 z2 hz h1 h2=>r.r2 z1 z2 hz (gl z1 z2 hz h1) (gh z1 z2 hz h2),λz1 z2 w1 w2 hz hw h1 h2=>r.r3 z1 z2 w1 w2 hz hw (gl z1 z2 hz h1) (gh w1 w2 hw h2),r.sc,ux,uy⟩
structure Nrw(C CN:Addr)(H:Hp)(vs:List V)(x wd:Addr)(ns:List Int)(l1 l2 h1 h2 ε:Int)(Up:Int->Int->Prop)(w1 w2:Int)(kb kw:Nat):Prop where
 vs:vs=[.ref x,.ref wd]
 nu:NU kb C CN H x ns l1 l2 h1 h2 ε Up
 tr:Tr ns
 ne:ns≠[]
 len:ns.length<=12
 bits:AllB 1000 ns
 wd:RA C H wd w1 w2
 w1p:0<w1
 w2p:0<w2
 b1:Bits kw w1
 b2:Bits kw w2
 k1:kb<=1400
 k2:2*kb+kw<=3900
 k3:5*kb+kw<=8900
def wY(C CN:Addr):Sp:=λvs H Q _=>∃(x wd:Addr) (ns:List Int) (l1 l2 h1 h2 ε:Int) (Up:Int->Int->Prop) (w1 w2:Int) (kb kw:Nat),Nrw C CN H vs x wd ns l1 l2 h1 h2 ε Up w1 w2 kb kw /\
 ∀(p y z:Addr) (H':Hp) (n pl:Nat) (x1 x2 y1 y2:Int),Same H H'->H p=none->H' p=some (.tup [.ref y,.ref z])->RA C H' y x1 x2->RA C H' z y1 y2->NarP l1 l2 h1 h2 w1 w2 Up (5*kb+kw+4) n pl x1 x2 y1 y2->Q (.ref p) H'
theorem FQ(F:Fun K "span_of" "span_of" qx f fd)(T:Txt K mg)(R:RCI K mg C)(RN:NCI K mg CN)(mX:Cal P w K mg base 6 "narrowed" ["row","low","high","width"] (ny C) AQ AM):FnOk P w K mg base CX0 7 f fd ["one","width"] (wY C CN):=by
 obtain⟨kE,j8,ka,ko⟩:=mX;refine F.ok DP (λvs H Q E h=>?_) (λcdv A outer s H vs Q E hr h=>?_)
 ·obtain⟨x,wd,ns,l1,l2,h1,h2,ε,Up,w1,w2,kb,kw,hn,_⟩:=h;rw[hn.vs];rfl
 ·obtain⟨x,wd,ns,l1,l2,h1,h2,ε,Up,w1,w2,kb,kw,⟨rfl,⟨q,l,h,⟨dx,hx⟩,hq,hl,hh,en,ru⟩,tr,ne,len,bs,hw,p1,p2,b1,b2,k1,k2,k3⟩,k⟩:=h;refine⟨_,(ak (av (aq kE (hr.mono) rfl j8 ka ko .nil aj (aa (aR (K:=K) rfl (pv 0) rfl) (aa (aR (K:=K) rfl (pv 0) rfl) (aa (aR (K:=K) rfl (pv 0) rfl) (aa (pv 1) ac))))))),?_⟩;exact aQ ⟨_,rfl,x,CN,dx,_,_,rfl,hx,RN.cl,RN.nP,mv _ _ _,_,rfl,x,CN,dx,_,_,rfl,hx,RN.cl,RN.nL,uk _ _ _,_,rfl,x,CN,dx,_,_,rfl,hx,RN.cl,RN.nH,mw _ _ _,_,rfl,q,l,h,wd,ns,l1,l2,h1,h2,w1,w2,kb,kw,ε,Up,rfl,hq,tr,ne,len,bs,hl,hh,hw,en,p1,p2,b1,b2,k1,k2,k3,ru,k⟩
def xn(C CN:Addr):Sp:=λvs H Q _=>∃(x wd:Addr) (ns:List Int) (l1 l2 h1 h2 ε:Int) (Up:Int->Int->Prop) (w1 w2:Int) (kb kw:Nat),Nrw C CN H vs x wd ns l1 l2 h1 h2 ε Up w1 w2 kb kw /\
 ∀(y:Addr) (H':Hp) (n pl:Nat) (x1 x2 y1 y2:Int),Same H H'->H y=none->NU (5*kb+kw+4) C CN H' y ns x1 x2 y1 y2 ε Up->NarP l1 l2 h1 h2 w1 w2 Up (5*kb+kw+4) n pl x1 x2 y1 y2->Q (.ref y) H'
theorem Gm(F:Fun K "narrow" "narrow" qQ f fd)(T:Txt K mg)(R:RCI K mg C)(RN:NCI K mg CN)(NO:Cal P w K mg base 7 "span_of" ["one","width"] (wY C CN) PJ OM)(g7:KCal P w K mg base 1 CN "Number" ["self","row","low","high"] (g9 CN) oU oR oX []):FnOk P w K mg base CX0 8 f fd ["one","width"] (xn C CN):=by
 obtain⟨MW,HQ,Jf,LX⟩:=NO;obtain⟨gY,gU,gE,gT,o6,o0⟩:=g7;refine F.ok sc_narrow (λvs H Q E h=>?_) (λcdv A outer s H vs Q E hr h=>?_)
 ·obtain⟨x,wd,ns,l1,l2,h1,h2,ε,Up,w1,w2,kb,kw,hn,_⟩:=h;rw[hn.vs];rfl
 ·obtain⟨x,wd,ns,l1,l2,h1,h2,ε,Up,w1,w2,kb,kw,hn,k⟩:=h;obtain rfl:=hn.vs
  refine⟨_,(ag (ao (i:=2) sc_narrow.nd rfl (Or.inl rfl) (aq MW (hr.mono) rfl HQ Jf LX .nil aj (aa (pv 0) (aa (pv 1) ac))))
   (ak (av (b5 gU gY (hr.mono) rfl gE gT .nil aj (aa (aR (K:=K) rfl (pv 0) rfl) (aa (aI (aW (K:=K) rfl) (pv 2) ad (λ_ _=>rfl)) (aa (aI (aW (K:=K) rfl) (pv 2) ad (λ_ _=>rfl)) ac))))))),?_⟩
  refine aw ⟨_,rfl,_,rfl,x,wd,ns,l1,l2,h1,h2,ε,Up,w1,w2,kb,kw,hn,λp y z H1 n pl x1 x2 y1 y2 s1 hp e1 hy hz nar=>?_⟩;obtain⟨q,l,h,⟨dx,hx⟩,hq,hl,hh,en,ru⟩:=hn.nu.same s1;refine aQ ⟨_,rfl,x,CN,dx,_,_,rfl,hx,RN.cl,RN.nP,mv _ _ _,_,rfl,p,_,_,_,rfl,rfl,SqT.of e1,rfl,_,rfl,p,_,_,_,rfl,rfl,SqT.of e1,rfl,lY hq λy' q' H2 s2 hy' hN' hq' _=>?_⟩;exact k y' H2 n pl x1 x2 y1 y2 (s1.trans s2) (s1.free hy') ⟨q',y,z,hN',hq',hy.same s2,hz.same s2,nar.ends,ru.sub en.l2p en.h2p nar.ends.l2p nar.ends.h2p nar.ux nar.uy nar.lo nar.hi⟩ nar
theorem Eo{fs pre post:List (List Int)}{s:List Int}{c l1 l2 h1 h2:Int}(hF:∀f∈fs,fk f)(hc:c≠0)(hsp:aL fs=pre++s::post)(l2p:0<l2)(h2p:0<h2)(lt:l1*h2<h1*l2)(hno:∀x∈pre++post,¬(0<al x l1 l2/\al x h1 h2<=0)) :
 ∃ε:Int,(ε=1\/ε = -1)/\∀x1 x2,0<x2->l1*x2<x1*l2->x1*h2<=h1*x2->sg (hv x1 x2 (af [c] (aT [1] (fs.map ah)))) = -ε*al s x1 x2:=by
 have hS:∀x∈aL fs,Spt x:=λx hx=>dq hF hx
 have ho:∀x∈pre++post,Spt x:=λx hx=>hS x (by rw[hsp];simp at hx ⊢;rcases hx with h |h<;>simp[h])
 have hu:=pE (t:=h1) (n:=h2) (ls:=pre++post) λy hy=>(nJ (ho y hy) l2p h2p h2p lt (hno y hy) lt (Q7 _)).2
 have hsg:sg c=1\/sg c = -1:=by
  rcases RY hc with z |z
  ·right;unfold sg;rw[if_pos z]
  ·left;unfold sg;rw[if_neg (by omega),if_pos z]
 refine⟨sg c*spr h1 h2 (pre++post),?_,λx1 x2 x2p a b=>?_⟩
 ·rcases hsg with z |z<;>rcases hu with y |y<;>rw[z,y]<;>decide
 ·rw[lw x2p hF,hsp,jM];show sg c*(spr x1 x2 pre*(-al s x1 x2*spr x1 x2 post))=_;have e:spr x1 x2 (pre++post)=spr h1 h2 (pre++post):=pF λy hy=>(nJ (ho y hy) l2p h2p x2p lt (hno y hy) a b).1
  rw[<- e,jM];grind
structure NSg(kb:Nat)(C CN:Addr)(H:Hp)(x:Addr)(ns:List Int)(l1 l2 h1 h2 ε:Int)(s:List Int):Prop where
 nu:NU kb C CN H x ns l1 l2 h1 h2 ε (λt n=>0<al s t n)
 spt:Spt s
 sgn:∀x1 x2,0<x2->l1*x2<x1*l2->x1*h2<=h1*x2->sg (hv x1 x2 ns) = -ε*al s x1 x2
theorem NSg.same{kb:Nat}{C CN:Addr}{H H':Hp}{x:Addr}{ns:List Int}{l1 l2 h1 h2 ε:Int}{s:List Int}(n:NSg kb C CN H x ns l1 l2 h1 h2 ε s)(sm:Same H H'):NSg kb C CN H' x ns l1 l2 h1 h2 ε s:=⟨n.nu.same sm,n.spt,n.sgn⟩
def xH(C CN:Addr):Sp:=λvs H Q _=>∃(x:Addr) (ns:List Int) (l1 l2 h1 h2 ε τ:Int) (s:List Int),vs=[.ref x,.int (-ε*τ)]/\NSg 2000 C CN H x ns l1 l2 h1 h2 ε s/\ns.length<=20/\AllB 1000 ns/\(τ=0\/τ=1\/τ = -1/\al s h1 h2 = -1)/\∀H',Same H H'->Q (.int τ) H'
theorem GK(F:Fun K "beside" "beside" rC f fd)(T:Txt K mg)(R:RCI K mg C)(RN:NCI K mg CN)(fU:Cal P w K mg base 2 "sign_at" ["row","ratio"] (iQ C) mC mz):FnOk P w K mg base CX0 3 f fd ["one","sign"] (xH C CN):=by
 obtain⟨fS,fI,fK,fO⟩:=fU;refine F.ok D6 (λvs H Q E h=>?_) (λcdv A outer s H vs Q E hr h=>?_)
 ·obtain⟨x,ns,l1,l2,h1,h2,ε,τ,s,rfl,_⟩:=h;rfl
 ·obtain⟨x,ns,l1,l2,h1,h2,ε,τ,sp,rfl,hN,nl,nb,hτ,k⟩:=h;obtain⟨q,l,h,⟨dx,hx⟩,hq,hl,hh,en,ru⟩:=id hN.nu
  refine⟨_,(ag (aO (aG cR (pv 1) ad (aE _))
   (ak (av ad))
   aP)
   (ag (aO (aG cR (pv 1) (aq fS (hr.mono) rfl fI fK fO .nil aj (aa (aR (K:=K) rfl (pv 0) rfl) (aa (aR (K:=K) rfl (pv 0) rfl) ac))) (aE _))
     (ak (av (bH bF ad)))
     aP)
   (ak (av ad)))),?_⟩
  have e1:=ru.e1;have hs:=hN.sgn h1 h2 en.h2p en.lt (Q7 _);have htop:al sp h1 h2<=0:=Rp.mp ru.top;have hc:=dW sp h1 h2;refine bI ⟨_,rfl,_,_,rfl,rfl,_,rfl,aH (λh0=>?_) (λh0=>?_)⟩
  ·have h0' : -ε*τ=0:=h0;have e:τ=0:=by rcases e1 with rfl |rfl<;>omega
   subst e;exact k H (Same.refl _)
  have h0':¬ -ε*τ=0:=h0;refine bI ⟨_,rfl,_,rfl,x,CN,dx,_,_,rfl,hx,RN.cl,RN.nP,mv _ _ _,_,rfl,x,CN,dx,_,_,rfl,hx,RN.cl,RN.nH,mw _ _ _,q,h,ns,h1,h2,⟨rfl,hq,hh,nl,nb.mono,en.bh1.mono,en.bh2.mono⟩,λH1 s1=>⟨_,_,rfl,rfl,_,rfl,aH (λhe=>?_) (λhne=>?_)⟩⟩
  ·have he' : -ε*τ=sg (hv h1 h2 ns):=he;rw[hs]at he'
   have e:τ = -1:=by
    rcases hτ with rfl |rfl |⟨rfl,_⟩
    ·exact absurd (QX _) h0'
    ·rcases e1 with rfl |rfl<;>omega
    ·rfl
   subst e;exact aQ ⟨_,rfl,k H1 s1⟩
  ·have hne':¬ -ε*τ=sg (hv h1 h2 ns):=hne;rw[hs]at hne'
   have e:τ=1:=by
    rcases hτ with rfl |rfl |⟨rfl,z⟩
    ·exact absurd (QX _) h0'
    ·rfl
    ·rw[z]at hne';exact absurd rfl hne'
   subst e;exact aQ (k H1 s1)
def pU(C CN:Addr):Sp:=λvs H Q _=>∃(x r:Addr) (ns:List Int) (l1 l2 h1 h2 ε u d:Int) (s:List Int),vs=[.ref x,.ref r]/\NSg 2000 C CN H x ns l1 l2 h1 h2 ε s/\ns.length<=20/\AllB 1000 ns/\RA C H r u d/\0<d/\Bits 3000 u/\Bits 3000 d/\∀H',Same H H'->Q (.int (al s u d)) H'
theorem GM(F:Fun K "against" "against" rE f fd)(T:Txt K mg)(R:RCI K mg C)(RN:NCI K mg CN)(jH:MCal P w K mg base 2 C "against" ["self","other"] (kT C) uD ut)(Oi:Cal P w K mg base 3 "beside" ["one","sign"] (xH C CN) Qi Pd)(fU:Cal P w K mg base 2 "sign_at" ["row","ratio"] (iQ C) mC mz):FnOk P w K mg base CX0 4 f fd ["one","ratio"] (pU C CN):=by
 obtain⟨gX,gC,gS⟩:=jH;obtain⟨Nr,Iw,JF,Mq⟩:=Oi;obtain⟨fS,fI,fK,fO⟩:=fU;refine F.ok D8 (λvs H Q E h=>?_) (λcdv A outer s H vs Q E hr h=>?_)
 ·obtain⟨x,r,ns,l1,l2,h1,h2,ε,u,d,s,rfl,_⟩:=h;rfl
 ·obtain⟨x,r,ns,l1,l2,h1,h2,ε,u,d,sp,rfl,hN,nl,nb,hR,hd,bu,bd,k⟩:=h;obtain⟨q,l,h,⟨dx,hx⟩,hq,hl,hh,en,ru⟩:=id hN.nu;obtain⟨dr,hr'⟩:=id hR
  refine⟨_,(ag (aO (aG oj (cW (pv 1) R.cl gC gX (hr.mono) gS .nil aj (aa (aR (K:=K) rfl (pv 0) rfl) ac)) ad (aE _))
   (ak (av ad))
   aP)
   (ag (aO (aG cQ (cW (pv 1) R.cl gC gX (hr.mono) gS .nil aj (aa (aR (K:=K) rfl (pv 0) rfl) ac)) ad (aE _))
     (ak (av (bH bF ad)))
     aP)
   (ak (av (aq Nr (hr.mono) rfl Iw JF Mq .nil aj (aa (pv 0) (aa (aq fS (hr.mono) rfl fI fK fO .nil aj (aa (aR (K:=K) rfl (pv 0) rfl) (aa (pv 1) ac))) ac))))))),?_⟩
  have htop:al sp h1 h2<=0:=Rp.mp ru.top;have sgp:∀c:Int,sg c>0↔0<c:=λc=>by unfold sg;split<;>(try split)<;>constructor<;>intro z<;>omega
  refine bI ⟨_,rfl,r,dr,_,rfl,hr',cZ _ _ eU.1 eU.2,_,rfl,x,CN,dx,_,_,rfl,hx,RN.cl,RN.nL,uk _ _ _,r,l,u,d,l1,l2,rfl,hR,hl,bu.mono,bd.mono,en.bl1.mono,en.bl2.mono,_,_,rfl,rfl,_,rfl,aH (λh0=>?_) (λh0=>?_)⟩
  ·have h3:u*l2<=l1*d:=Rp.mp λz=>by have:=(sgp (u*l2-l1*d)).mpr (by omega);have h0':sg (u*l2-l1*d)<=0:=h0;omega
   have h4:=pY hN.spt hd en.l2p h3 ru.low;have e:al sp u d=1:=by rcases dW sp u d with z |z |z<;>omega
   rw[e]at k;exact aQ (k H (Same.refl _))
  have h3:l1*d<u*l2:=RQ.mp λz=>h0 (show sg (u*l2-l1*d)<=0 from Rp.mp λy=>by have:=(sgp (u*l2-l1*d)).mp y;omega)
  refine bI ⟨_,rfl,r,dr,_,rfl,hr',cZ _ _ eU.1 eU.2,_,rfl,x,CN,dx,_,_,rfl,hx,RN.cl,RN.nH,mw _ _ _,r,h,u,d,h1,h2,rfl,hR,hh,bu.mono,bd.mono,en.bh1.mono,en.bh2.mono,_,_,rfl,rfl,_,rfl,aH (λh0'=>?_) (λh0'=>?_)⟩
  ·have h4:=(sgp (u*h2-h1*d)).mp h0';have e:=dU hN.spt en.h2p hd (show h1*d<u*h2 by omega) htop;rw[e]at k;exact aQ ⟨_,rfl,k H (Same.refl _)⟩
  have h4:u*h2<=h1*d:=Rp.mp λz=>h0' ((sgp (u*h2-h1*d)).mpr (by omega))
  have hs:=hN.sgn u d hd h3 h4;refine aQ ⟨_,rfl,_,rfl,x,CN,dx,_,_,rfl,hx,RN.cl,RN.nP,mv _ _ _,_,rfl,q,r,ns,u,d,⟨rfl,hq,hR,nl,nb.mono,bu.mono,bd.mono⟩,λH1 s1=>?_⟩;rw[hs];refine⟨x,ns,l1,l2,h1,h2,ε,al sp u d,sp,rfl,hN.same s1,nl,nb,?_,λH2 s2=>k H2 (s1.trans s2)⟩;rcases dW sp u d with z |z |z
  ·exact .inr (.inl z)
  ·exact .inl z
  ·refine .inr (.inr ⟨z,?_⟩);rcases RT h4 with y |y
   ·exact dU hN.spt hd en.h2p y (by omega)
   ·rw[<- hI sp hd en.h2p y];exact z
theorem NU.mono{j k:Nat}{C CN:Addr}{H:Hp}{x:Addr}{ns:List Int}{l1 l2 h1 h2 ε:Int}{Up:Int->Int->Prop}(n:NU j C CN H x ns l1 l2 h1 h2 ε Up)(h:j<=k:=by decide):NU k C CN H x ns l1 l2 h1 h2 ε Up:=let⟨q,l,hh,a,e,c,d,en,ru⟩:=n;⟨q,l,hh,a,e,c,d,en.mono h,ru⟩
def kA(s:List Int)(D m:Int):Prop:=0<=al s m D/\al s (m+1) D<0
def wT(C CN:Addr):Sp:=λvs H Q _=>∃(x:Addr) (ns:List Int) (l1 l2 h1 h2 ε D:Int) (s:List Int),vs=[.ref x,.int D]/\NSg 40 C CN H x ns l1 l2 h1 h2 ε s/\Tr ns/\ns≠[]/\ns.length<=12/\AllB 1000 ns/\0<D/\Bits 210 D/\∀(m:Int) (H':Hp),Same H H'->kA s D m->Bits 900 m->Q (.int m) H'
theorem FM(F:Fun K "steps" "steps" qt f fd)(T:Txt K mg)(R:RCI K mg C)(RN:NCI K mg CN)(N3:Cal P w K mg base 8 "narrow" ["one","width"] (xn C CN) PZ OY)(cc:KCal P w K mg base 2 C "Ratio" ["self","top","bottom"] (da C) dN dM dO [.int 1])(g6:MCal P w K mg base 4 C "times" ["self","other"] (jN C) oT oQ)(vP:MCal P w K mg base 1 C "floor" ["self"] (pP C) KY KG)(vL:Cal P w K mg base 4 "against" ["one","ratio"] (pU C CN) KS KC):FnOk P w K mg base CX0 9 f fd ["one","bottom"] (wT C CN):=by
 obtain⟨Nb,Ic,Jq,Ma⟩:=N3;obtain⟨bC,bz,bj,b9,cF,cD⟩:=cc;obtain⟨fj,fb,fi⟩:=g6;obtain⟨vB,tf,vf⟩:=vP;obtain⟨vy,tE,tV,vb⟩:=vL;refine F.ok sc_steps (λvs H Q E h=>?_) (λcdv A outer s H vs Q E hr h=>?_)
 ·obtain⟨x,ns,l1,l2,h1,h2,ε,D,s,rfl,_⟩:=h;rfl
 ·obtain⟨x,ns,l1,l2,h1,h2,ε,D,sp,rfl,hN,hT,hne,hl12,hb,hD,bD,k⟩:=h
  refine⟨_,(ag (ao (i:=2) sc_steps.nd rfl (Or.inl rfl) (aq Nb (hr.mono) rfl Ic Jq Ma .nil aj (aa (pv 0) (aa (b5 bz bC (hr.mono) rfl bj b9 .nil aj (aa ad (aa (pv 1) ac))) ac))))
   (ag (ao (i:=3) sc_steps.nd rfl (Or.inl rfl) (yQ (cW (aR (K:=K) rfl (pv 2) rfl) R.cl fb fj (hr.mono) fi .nil aj (aa (b5 bz bC (hr.mono) rfl bj cF cD aj (aa (pv 1) ac)) ac)) R.cl tf vB (hr.mono) vf .nil aj))
   (ag (aO (aG cY (aq vy (hr.mono) rfl tE tV vb .nil aj (aa (pv 2) (aa (b5 bz bC (hr.mono) rfl bj b9 .nil aj (aa (pv 3) (aa (pv 1) ac))) ac))) ad (aE _))
     (ak (av (ai ca (pv 3) ad)))
     aP)
   (ak (av (pv 3)))))),?_⟩
  refine aw ⟨_,rfl,_,rfl,cI (t:=1) (b:=D) (by omega) (bD.mono) λr H1 s1 hr1 hR1=>?_⟩;rw[yj hD,yu hD]at hR1;obtain⟨_,_,_,_,_,_,_,en0,ru0⟩:=id hN.nu;refine⟨x,r,ns,l1,l2,h1,h2,ε,_,1,D,40,210,⟨rfl,hN.nu.same s1,hT,hne,hl12,hb,hR1,by decide,hD,b1k (by decide),bD,by decide,by decide,by decide⟩,λy H2 n pl x1 x2 y1 y2 s2 hy hNU nar=>?_⟩;have t2:=s1.trans s2
  have hN2:NSg 2000 C CN H2 y ns x1 x2 y1 y2 ε sp:=by
   refine⟨hNU.mono,hN.spt,λz1 z2 hz a b=>hN.sgn z1 z2 hz ?_ ?_⟩
   ·refine gO nar.ends.l2p ?_;have q1:=Q5 nar.lo (QE hz);have q2:=Rj a en0.l2p;have e1:l1*z2*x2=l1*x2*z2:=by grind
    have e2:x1*l2*z2=x1*z2*l2:=by grind
    have e3:z1*l2*x2=z1*x2*l2:=by grind
    omega
   ·refine gP nar.ends.h2p ?_;have q1:=Q5 nar.hi (QE hz);have q2:=Q5 b (QE en0.h2p);have e1:z1*h2*y2=z1*y2*h2:=by grind
    have e2:y1*h2*z2=y1*z2*h2:=by grind
    have e3:h1*z2*y2=h1*y2*z2:=by grind
    omega
  obtain⟨q,l,h,⟨dy,hy2⟩,hq,hl,hh,en,ru⟩:=id hNU;obtain⟨dh,hh'⟩:=id hh;refine aw ⟨_,rfl,y,CN,dy,_,_,rfl,hy2,RN.cl,RN.nH,mw _ _ _,h,dh,_,rfl,hh',cZ _ _ dZ.1 dZ.2,_,rfl,cI (t:=D) (b:=1) (by decide) (b1k (by decide)) λr3 H3 s3 hr3 hR3=>?_⟩;rw[ia,ic]at hR3;refine⟨h,r3,y1,y2,D,1,414,1,rfl,hh.same s3,hR3,en.bh1.mono,en.bh2,bD.mono,b1k (by decide),by decide,en.h2p,by decide,λr4 H4 s4 hr4 hR4=>?_⟩;obtain⟨d4,hR4'⟩:=id hR4;have y2p:=en.h2p;have x2p:=en.l2p;have d0:y2*1≠0:=by omega
  refine⟨r4,d4,_,rfl,hR4',cZ _ _ oq.1 oq.2,r4,_,_,rfl,hR4,c7 d0,(dY d0 (by rw[Q1];exact en.bh2)).mono,?_⟩;rw[yx (show 0<y2*1 by omega),Q1];have bm:Bits 700 (y1*D/y2):=Bits.of_le ((en.bh1.mul bD).mono (k:=700) (by decide)) (S7 _ _);have f1:y1*D/y2*y2<=y1*D:=Int.ediv_mul_le _ (by omega);have f2:y1*D<(y1*D/y2+1)*y2:=Int.lt_mul_of_ediv_lt y2p (by omega);generalize y1*D/y2=m at bm f1 f2 ⊢
  have up1:al sp (m+1) D = -1:=dU hN.spt y2p hD f2 (Rp.mp nar.uy);have wide:=nar.wide;rw[QZ]at wide
  have lo1:(m-1)*x2<=x1*D:=by
   refine gP y2p ?_;have q1:=Q5 f1 (QE x2p);have e1:(m-1)*x2*y2=m*y2*x2-x2*y2:=by grind
   have e2:(y1*x2-x1*y2)*D=y1*D*x2-x1*D*y2:=by grind
   omega
  have low1:0<al sp (m-1) D:=pY hN.spt hD x2p lo1 nar.ux;have t4:=s3.trans s4;have D0:D≠0:=by omega
  refine bI ⟨_,rfl,_,rfl,_,rfl,cI (t:=m) (b:=D) (by omega) (bD.mono) λr5 H5 s5 hr5 hR5=>?_⟩;refine⟨y,r5,ns,x1,x2,y1,y2,ε,_,_,sp,rfl,hN2.same (t4.trans s5),by omega,hb,hR5,c7 D0,(ee D0 bm).mono,(dY D0 bD).mono,λH6 s6=>?_⟩;have ec:al sp (rt m D) (rb m D)=al sp m D:=hI sp (c7 D0) hD (ei D0);rw[ec];have t6:=(t2.trans t4).trans (s5.trans s6);refine⟨_,_,rfl,rfl,_,rfl,aH (λh0=>?_) (λh0=>?_)⟩
  ·have h0':al sp m D<0:=h0;refine aQ ⟨_,rfl,_,_,rfl,rfl,k (m-1) H6 t6 ⟨by omega,by rw[Int.sub_add_cancel];exact h0'⟩ ?_⟩;have b1:Bits 700 (1:Int):=b1k (by decide);exact(bm.sub b1).mono
  ·have h0':¬al sp m D<0:=h0;exact aQ ⟨_,rfl,k m H6 t6 ⟨by omega,by omega⟩ (bm.mono)⟩
theorem GY(F:Fun K "_law_cell_at" "_law_cell_at" rR f fd)(T:Txt K mg):FnOk P w K mg base CX0 1 f fd ["_law_script","_law_k"] (jP K):=by
 refine F.ok Ea (λvs H Q E h=>?_) (λcdv A outer s H vs Q E hr h=>?_)
 ·obtain⟨a,ns,k,rfl,_⟩:=h;rfl
 ·obtain⟨a,ns,n,rfl,hS,k⟩:=h
  refine⟨_,(ag (aO (aG cY (pv 1) (bX (dz (K:=K) rfl) (by rfl) T.len_ PySem.boot_len (aa (pv 0) ac)) (aE _))
   (ak (av (aI (cC (K:=K) rfl) (pv 0) (pv 1) (λ_ _=>rfl))))
   aP)
   (ak (av ad))),?_⟩
  refine⟨_,rfl,_,rfl,a,_,rfl,.inl hS,_,_,rfl,rfl,_,rfl,?_⟩;refine aH (λh1=>?_) (λh1=>?_)
  ·rw[QB]at h1;have h2:n<ns.length:=by omega
   refine⟨_,rfl,_,rfl,a,_,_,_,rfl,rfl,hS,ku (v:=.int (ns.getD n 0)) ?_,k⟩;rw[List.getElem?_map,List.getElem?_eq_getElem h2];simp[List.getD,h2]
  ·rw[QB]at h1;have h2:ns.length<=n:=by omega
   have e:ns.getD n 0=0:=by simp[List.getD,List.getElem?_eq_none_iff.mpr h2]
   rw[e]at k;exact k
def WT(H:Hp)(p:Addr)(u v w d:Int):Prop:=H p=some (.tup [.int u,.int v,.int w,.int d])
structure WOk(u v w d:Int):Prop where
 bu:Bits 21 u
 bv:Bits 21 v
 w1:0<w
 w12:w<=12
 d2:2<=d
 d13:d<=13
 ns:NSq d
theorem WOk.bw{u v w d:Int}(h:WOk u v w d):Bits 4 w:=by show w.natAbs<2^4;have:=h.w1;have:=h.w12;omega
theorem WOk.bd{u v w d:Int}(h:WOk u v w d):Bits 4 d:=by show d.natAbs<2^4;have:=h.d2;have:=h.d13;omega
def wZ:Sp:=λvs H Q _=>∃u v d:Int,vs=[.int u,.int v,.int d]/\Bits 100000 u/\Bits 100000 v/\Bits 10 d/\Q (.int (sgq u v d)) H
theorem GS(F:Fun K "_law_sign" "_law_sign" rL f fd)(T:Txt K mg):FnOk P w K mg base CX0 1 f fd ["_law_u","_law_v","_law_d"] wZ:=by
 refine F.ok D9 (λvs H Q E h=>?_) (λcdv A outer s H vs Q E hr h=>?_)
 ·obtain⟨u,v,d,rfl,_⟩:=h;rfl
 ·obtain⟨u,v,d,rfl,bu,bv,bd,k⟩:=h
  refine⟨_,(ag (aO (PW.pt (f6 (aG jY (pv 0) ad (aE _)) (fZ (aG jY (pv 1) ad (aE _)))))
   (ak (av (eT mM (by rfl) T.int_ PyProof.Rows.boot_int (aa (Fj (dH cQ (pv 0) ad (aE _)) (oi (dH cQ (pv 1) ad (aE _)))) ac))))
   aP)
   (ag (aO (PW.pt (f6 (aG oj (pv 0) ad (aE _)) (fZ (aG oj (pv 1) ad (aE _)))))
     (ak (av (bH bF ad)))
     aP)
   (ag (aO (aG cQ (pv 0) ad (aE _))
     (ak (av (ai ca ad (ai aJ ad (eT mM (by rfl) T.int_ PyProof.Rows.boot_int (aa (dH cY (ai aJ (pv 0) (pv 0)) (ai aJ (ai aJ (pv 2) (pv 1)) (pv 1)) (aE _)) ac))))))
     aP)
   (ak (av (ai ca ad (ai aJ ad (eT mM (by rfl) T.int_ PyProof.Rows.boot_int (aa (dH cQ (ai aJ (pv 0) (pv 0)) (ai aJ (ai aJ (pv 2) (pv 1)) (pv 1)) (aE _)) ac))))))))),?_⟩
  have bdv:Bits 100010 (d*v):=(bd.mul bv).mono;by_cases h1:0<=u/\0<=v
  ·refine bI (dG ⟨_,rfl,_,_,rfl,rfl,_,rfl,aH (λ_=>?_) (λz=>absurd (show u≥0 from h1.1) z)⟩);refine⟨_,rfl,_,_,rfl,rfl,_,rfl,aH (λ_=>?_) (λz=>absurd (show v≥0 from h1.2) z)⟩;refine aQ (Ew ⟨_,rfl,_,_,rfl,rfl,_,rfl,?_⟩);unfold sgq at k
   rw[if_pos h1]at k;by_cases h2:0<u
   ·rw[decide_eq_true (show u>0 from h2)];refine li (.inr ⟨_,rfl,?_⟩);rw[if_pos (.inl h2)]at k;exact k
   ·rw[decide_eq_false (show ¬u>0 from h2)];refine dX ⟨_,rfl,_,_,rfl,rfl,.inr ⟨_,rfl,?_⟩⟩;by_cases h3:0<v
    ·rw[if_pos (.inr h3)]at k;rw[decide_eq_true (show v>0 from h3)];exact k
    ·rw[if_neg (by omega)]at k;rw[decide_eq_false (show ¬v>0 from h3)];exact k
  unfold sgq at k
  rw[if_neg h1]at k
  have go:∀{A B:Prop},B->(if(decide (u≥0))=true then(if(decide (v≥0))=true then A else B)else B):=λ{A B} b=>by
   by_cases a1:u≥0
   ·rw[if_pos (decide_eq_true a1),if_neg (by rw[decide_eq_false (λz=>h1 ⟨a1,z⟩)];decide)];exact b
   ·rw[if_neg (by rw[decide_eq_false a1];decide)];exact b
  refine bI (dG ⟨_,rfl,_,_,rfl,rfl,_,rfl,aH (λa1=>?_) (λa1=>?_)⟩)
  ·refine⟨_,rfl,_,_,rfl,rfl,_,rfl,aH (λa2=>absurd ⟨a1,a2⟩ h1) (λ_=>?_)⟩;by_cases h2:u<=0/\v<=0
   ·rw[if_pos h2]at k;refine bI (dG ⟨_,rfl,_,_,rfl,rfl,_,rfl,aH (λ_=>?_) (λz=>absurd h2.1 z)⟩);refine⟨_,rfl,_,_,rfl,rfl,_,rfl,aH (λ_=>?_) (λz=>absurd h2.2 z)⟩;exact aQ ⟨_,rfl,k⟩
   rw[if_neg h2]at k;have a1':0<=u:=a1;have up:0<u:=by omega
   rw[if_pos up]at k;refine bI (dG ⟨_,rfl,_,_,rfl,rfl,_,rfl,aH (λz=>absurd (show u<=0 from z) (by omega)) (λ_=>dX ?_)⟩);refine bI ⟨_,rfl,_,_,rfl,rfl,_,rfl,aH (λ_=>?_) (λz=>absurd (show u>0 from up) z)⟩;refine aQ ⟨_,rfl,_,rfl,_,_,rfl,rfl,⟨bu.mono,bu.mono⟩,_,rfl,_,rfl,_,_,rfl,rfl,⟨bd.mono,bv.mono⟩,_,rfl,_,_,rfl,rfl,⟨bdv.mono,bv.mono⟩,_,_,rfl,rfl,.inr ⟨_,rfl,?_⟩⟩;by_cases h3:u*u<d*v*v
   ·rw[if_pos h3]at k;rw[decide_eq_true h3];exact⟨_,_,rfl,rfl,⟨d9,sN⟩,_,_,rfl,rfl,k⟩
   ·rw[if_neg h3]at k;rw[decide_eq_false h3];exact⟨_,_,rfl,rfl,⟨d9,Bits.zero⟩,_,_,rfl,rfl,k⟩
  ·have a1':¬0<=u:=a1;refine dX ?_;by_cases h2:u<=0/\v<=0
   ·rw[if_pos h2]at k;refine bI (dG ⟨_,rfl,_,_,rfl,rfl,_,rfl,aH (λ_=>?_) (λz=>absurd h2.1 z)⟩);refine⟨_,rfl,_,_,rfl,rfl,_,rfl,aH (λ_=>?_) (λz=>absurd h2.2 z)⟩;exact aQ ⟨_,rfl,k⟩
   rw[if_neg h2,if_neg (by omega)]at k;refine bI (dG ⟨_,rfl,_,_,rfl,rfl,_,rfl,aH (λ_=>?_) (λz=>absurd (show u<=0 by omega) z)⟩);refine⟨_,rfl,_,_,rfl,rfl,_,rfl,aH (λz=>absurd (show v<=0 from z) (by omega)) (λ_=>?_)⟩;refine bI ⟨_,rfl,_,_,rfl,rfl,_,rfl,aH (λz=>absurd (show u>0 from z) (by omega)) (λ_=>?_)⟩;refine aQ ⟨_,rfl,_,rfl,_,_,rfl,rfl,⟨bu.mono,bu.mono⟩,_,rfl,_,rfl,_,_,rfl,rfl,⟨bd.mono,bv.mono⟩,_,rfl,_,_,rfl,rfl,⟨bdv.mono,bv.mono⟩,_,_,rfl,rfl,.inr ⟨_,rfl,?_⟩⟩;by_cases h3:u*u>d*v*v
   ·rw[if_pos h3]at k;rw[decide_eq_true h3];exact⟨_,_,rfl,rfl,⟨d9,sN⟩,_,_,rfl,rfl,k⟩
   ·rw[if_neg h3]at k;rw[decide_eq_false h3];exact⟨_,_,rfl,rfl,⟨d9,Bits.zero⟩,_,_,rfl,rfl,k⟩
def xD:Sp:=λvs H Q _=>∃x y:Int,vs=[.int x,.int y]/\0<=x/\0<=y/\Q (.int (Nat.gcd x.natAbs y.natAbs:Nat)) H
theorem GX(F:Fun K "_law_divisor" "_law_divisor" rQ f fd)(T:Txt K mg):FnOk P w K mg base CX0 1 f fd ["_law_one","_law_other"] xD:=by
 refine F.ok sc__law_divisor (λvs H Q E h=>?_) (λcdv A outer s H vs Q E hr h=>?_)
 ·obtain⟨a,b,rfl,_⟩:=h;rfl
 ·obtain⟨a,b,rfl,ha,h0,k⟩:=h
  refine⟨_,(ag (f7 PassesOwn.never (aG jX (pv 1) ad (aE _))
   (ag (ao (i:=2) sc__law_divisor.nd rfl (Or.inl rfl) (ai cX (pv 0) (pv 1)))
     (ag (ao (i:=0) sc__law_divisor.nd rfl (Or.inl rfl) (pv 1))
     (ak (ao (i:=1) sc__law_divisor.nd rfl (Or.inl rfl) (pv 2))))))
   (ak (av (pv 0)))),?_⟩
  refine⟨λm σ' H'=>∃(x y:Int) (z:Option V),σ'=[some (.int x),some (.int y),z]/\H=H'/\0<=x/\0<=y/\y.natAbs=m/\Nat.gcd x.natAbs y.natAbs=Nat.gcd a.natAbs b.natAbs,⟨_,_,_,none,rfl,rfl,ha,h0,rfl,rfl⟩,?_⟩;rintro m σ' H' ⟨x,y,z,rfl,rfl,hx,hy,rfl,hg⟩;refine⟨_,rfl,_,_,rfl,rfl,_,rfl,?_⟩;refine dB (λhn=>?_) (λh0=>?_)
  ·have hp:0<y:=by have:y≠0:=hn;omega
   refine⟨λσ'' H''=>∃m',m'<y.natAbs/\∃(x' y':Int) (z:Option V),σ''=[some (.int x'),some (.int y'),z]/\H=H''/\0<=x'/\0<=y'/\y'.natAbs=m'/\Nat.gcd x'.natAbs y'.natAbs=Nat.gcd a.natAbs b.natAbs,λ_ _ h=>h,?_⟩;refine⟨_,rfl,_,rfl,_,_,rfl,rfl,hp,?_⟩;refine⟨_,rfl,?_⟩;refine⟨_,rfl,?_⟩;have h1:=Int.emod_nonneg x (Rf hp);have h2:=S6 x hp;exact⟨(x%y).natAbs,by omega,y,x%y,_,rfl,rfl,hy,h1,rfl,by rw[Ay hx hp];exact hg⟩
  ·have e:(y:Int)=0:=h0;subst e;refine⟨_,rfl,?_⟩
   have e2:(x:Int)=((Nat.gcd a.natAbs b.natAbs:Nat):Int):=by rw[<- hg];show x=((Nat.gcd x.natAbs 0:Nat):Int);rw[Nat.gcd_zero_right];omega
   rw[e2];exact k
def xg:Sp:=λvs H Q _=>∃(a:Addr) (ns:List Int),vs=[.ref a]/\H a=some (.lst (ns.map V.int))/\Tr ns/\ns≠[]/\0<ap ns/\ns.length<=100/\AllB 8000 ns/\mkL H Q (aA ns)
theorem lE{ns:List Int}(hT:Tr ns)(hne:ns≠[])(hp:0<ap ns):0<(aB ns:Int)/\aA ns=ar ns:=by
 have hs:=shr_scale (l:=ns)
 have hlast:ap ns=(aB ns:Int)*ap (ar ns):=by have h5:cf (scL (aB ns:Int) (ar ns)) (ns.length-1)=(aB ns:Int)*cf (ar ns) (ns.length-1):=bU _ _ _;rw[hs]at h5;have h6:(ar ns).length=ns.length:=QB _;unfold ap;rw[h6];exact h5
 have g0:(0:Int)<=(aB ns:Int):=by omega
 have gp:0<(aB ns:Int):=by
  refine Classical.byContradiction λz=>?_
  have:(aB ns:Int)=0:=by omega
  rw[this,Q3]at hlast;omega
 refine⟨gp,?_⟩;unfold aA cz;rw[if_neg (λz=>?_)];have:=SU gp z;omega
theorem GU(F:Fun K "_law_plain" "_law_plain" rN f fd)(T:Txt K mg)(Ov:Cal P w K mg base 1 "_law_divisor" ["_law_one","_law_other"] xD Qt Pq):FnOk P w K mg base CX0 2 f fd ["_law_row"] xg:=by
 obtain⟨Nz,ID,JM,Mx⟩:=Ov;refine F.ok sc__law_plain (λvs H Q E h=>?_) (λcdv A outer s H vs Q E hr h=>?_)
 ·obtain⟨a,ns,rfl,_⟩:=h;rfl
 ·obtain⟨a,ns,rfl,hA,hT,hne,hp,hl,hb,k⟩:=h;have big:=sizeLine_eq;have hS:=SqL.of (K:=K) hA
  refine⟨_,(ag (ao (i:=1) sc__law_plain.nd rfl (Or.inr rfl) ad)
   (ag (c8 PassesOwn.never rfl (fz (K:=K) rfl (pv 0)) (aU (i:=2) sc__law_plain.nd rfl (Or.inl rfl))
     (ak (ao (i:=1) sc__law_plain.nd rfl (Or.inr rfl) (aq Nz (hr.mono) rfl ID JM Mx .nil aj (aa (pv 1) (aa (bX gf (by rfl) T.abs_ PyProof.Rows.boot_abs (aa (pv 2) ac)) ac))))))
   (ag (aO (aG cY (aI (cC (K:=K) rfl) (pv 0) (bH bF ad) (λ_ _=>rfl)) ad (aE _))
     (ak (ao (i:=1) sc__law_plain.nd rfl (Or.inr rfl) (bH bF (pv 1))))
     aP)
   (ak (av (fE (own:=["_law_one"]) (fr:=["_law_by"]) (js:=[1]) (by walk_at "comp_ok") rfl (fz (K:=K) rfl (pv 0)) (λ_ _ _ _=>(aU (i:=0) (show List.Nodup (["_law_one","_law_by"]:List Str)from by decide +kernel) rfl (Or.inl rfl))) (λ_ _ _ _=>(ai de (pv 0) (pv 1))))))))),?_⟩
  refine aw ?_;refine⟨_,rfl,a,rfl,⟨_,hS⟩,oO (K:=K) (a:=a) (xs:=ns.map V.int) (λi σ' H'=>∃z:Option V,σ'=[some (.ref a),some (.int (aB (ns.take i):Nat)),z]/\H=H') ⟨none,rfl,rfl⟩ (λi σ' H' _ ⟨z,_,e⟩=>by rw[<- e];exact hS) ?_ ?_⟩
  ·rintro i y σ' H' hi ⟨z,rfl,rfl⟩;obtain⟨n,en,rfl,_,_⟩:=gK hi;refine cG ⟨_,rfl,_,rfl,_,rfl,_,_,rfl,by omega,by split<;>omega,?_⟩;have e3:ns.take (i+1)=ns.take i++[n]:=by rw[RE,en];rfl
   refine⟨some (.int n),?_,rfl⟩;have e4:(if n<0 then -n else n).natAbs=n.natAbs:=by split<;>omega
   rw[e3,Az,Q2,e4];rfl
  ·rintro σ' H' ⟨z,rfl,rfl⟩;rw[QB,RF];dsimp only
   obtain⟨gp,ep⟩:=lE hT hne hp;refine bI ⟨_,rfl,_,rfl,a,_,_,_,rfl,rfl,hS,mh hne,_,_,rfl,rfl,_,rfl,aH (λz=>absurd (show ap ns<0 from z) (by omega)) (λ_=>?_)⟩
   have bg:Bits 9000 (aB ns:Int):=by
    obtain⟨x,hx,hx0⟩:∃x∈ns,x≠0:=by obtain⟨r,x,e⟩:=(db ns).resolve_left hne;refine⟨x,by rw[e];simp,λz=>?_⟩;rw[e,dJ,z]at hp;exact absurd hp (by decide)
    have hd:=ji hx;exact((hb x hx).mono (show 8000<=9000 by decide)).of_le (Nat.le_of_dvd (by omega) (ST.mpr hd))
   refine aQ ⟨_,rfl,a,rfl,⟨_,hS⟩,jq (K:=K) (a:=a) (xs:=ns.map V.int) (λi ys σ' H'=>∃z0:Option V,σ'=[z0,some (.int (aB ns:Nat))]/\ys=((ns.take i).map λx=>x/(aB ns:Int)).map V.int/\H=H') (by rw[QB];omega) ⟨none,rfl,rfl,rfl⟩ ?_ ?_ ?_⟩
   ·rintro i ys σ' H' _ ⟨z0,rfl,rfl,rfl⟩;exact⟨hS,by rw[QB,QB,Rn];exact SK _ _⟩
   ·rintro i x ys σ' H' hi ⟨z0,rfl,rfl,rfl⟩;obtain⟨c,ec,rfl,hc,_⟩:=gK hi;refine⟨_,rfl,_,rfl,_,_,rfl,rfl,⟨gp,bg⟩,?_⟩;refine⟨_,rfl,?_,rfl⟩;rw[RE,ec];simp only[Option.toList_some,QY,Ri,List.map_nil]
   ·rintro ys σ' H' q ⟨z0,rfl,rfl,rfl⟩ hq;refine k q _ (Same.upd_new hq) hq ?_;rw[au,QB,RF,ep];rfl
theorem pi{a b c:Int}(h:c≠0):Tr [a,b,c]:=(tr_snoc (r:=[a,b])).mpr h
theorem kJ{a b:Int}(h:b≠0):Tr [a,b]:=(tr_snoc (r:=[a])).mpr h
noncomputable def cO(u v w d:Int):List Int:=if v=0 then aA [-u,w]else aA [u*u-d*v*v,-2*u*w,w*w]
noncomputable def UpW(u v w d:Int):Int->Int->Prop:=λx1 x2=>0<sgq (u*x2-x1*w) (v*x2) d
noncomputable def cJ(u v d m:Int):Int:=if 0<v then u else if v<0 then u+v*d-m else u-1-m
noncomputable def cS(u v d m:Int):Int:=if 0<v then u+v*d+m else if v<0 then u else u+m/3
structure SpE(u v w d m l1 l2 h1 h2:Int):Prop where
 l2p:0<l2
 h2p:0<h2
 bl1:Bits 40 l1
 bl2:Bits 40 l2
 bh1:Bits 40 h1
 bh2:Bits 40 h2
 gl:Nat.gcd l1.natAbs l2.natAbs=1
 gh:Nat.gcd h1.natAbs h2.natAbs=1
 el:l1*w=cJ u v d m*l2
 eh:h1*w=cS u v d m*h2
theorem wF{v d m:Int}(hv:0<v)(hd:2<=d)(hm:0<=m):d*v*v<(v*d+m)*(v*d+m):=by
 have h1:0<v*v:=QC hv hv
 have h2:d*(v*v)<d*(d*(v*v)):=by have:1*(d*(v*v))<d*(d*(v*v)):=Rj (by omega) (QC (by omega) h1);omega
 have h3:0<=v*d:=Q8 (by omega) (by omega)
 have h4:v*d*(v*d)<=(v*d+m)*(v*d+m):=by
  have:=Q8 h3 hm;have:=Q8 hm hm;have e:(v*d+m)*(v*d+m)=v*d*(v*d)+(v*d*m)+(v*d*m)+m*m:=by grind
  omega
 have e1:d*v*v=d*(v*v):=by grind
 have e2:v*d*(v*d)=d*(d*(v*v)):=by grind
 omega
theorem vQ{u v w d m l1 l2 h1 h2:Int}(hW:WOk u v w d)(hm0:0<=m)(hm:m<60)(hE:SpE u v w d m l1 l2 h1 h2):EndsG 40 l1 l2 h1 h2/\(0<v->u*l2<=l1*w)/\(v<0->h1*w<=u*h2)/\UpW u v w d l1 l2/\¬UpW u v w d h1 h2:=by
 have hw:=hW.w1;have hd2:=hW.d2;obtain⟨l2p,h2p,bl1,bl2,bh1,bh2,gl,gh,el,eh⟩:=hE;have Al:u*l2-l1*w=(u-cJ u v d m)*l2:=by rw[el];grind
 have Ah:u*h2-h1*w=(u-cS u v d m)*h2:=by rw[eh];grind
 have lo_sg:sgq (u*l2-l1*w) (v*l2) d=sgq (u-cJ u v d m) v d:=by rw[Al,QT _ l2,QT v l2,x8 l2p]
 have hi_sg:sgq (u*h2-h1*w) (v*h2) d=sgq (u-cS u v d m) v d:=by rw[Ah,QT _ h2,QT v h2,x8 h2p]
 have lt_N:cJ u v d m<cS u v d m:=by
  unfold cJ cS;rcases SW v 0 with z |z |z
  ·rw[if_neg (show ¬0<v by omega),if_pos z,if_neg (show ¬0<v by omega),if_pos z];have:v*d<0:=Sx z (by omega);omega
  ·subst z;rw[if_neg (by decide),if_neg (by decide),if_neg (by decide),if_neg (by decide)];omega
  ·rw[if_pos z,if_pos z];have:0<v*d:=QC z (by omega);omega
 have lt:l1*h2<h1*l2:=by
  refine gO hw ?_;have e1:l1*h2*w=cJ u v d m*(l2*h2):=by rw[show l1*h2*w=l1*w*h2 by grind,el];grind
  have e2:h1*l2*w=cS u v d m*(l2*h2):=by rw[show h1*l2*w=h1*w*l2 by grind,eh];grind
  rw[e1,e2];exact Rj lt_N (QC l2p h2p)
 have en:EndsG 40 l1 l2 h1 h2:=⟨l2p,h2p,bl1,bl2,bh1,bh2,lt,gl,gh⟩;refine⟨en,λhv=>?_,λhv=>?_,?_⟩
 ·have:cJ u v d m=u:=by unfold cJ;rw[if_pos hv]
  rw[el,this];exact Q7 _
 ·have:cS u v d m=u:=by unfold cS;rw[if_neg (by omega),if_pos hv]
  rw[eh,this];exact Q7 _
 rcases SW v 0 with vn |vn |vn
 ·have eL:cJ u v d m=u+v*d-m:=by unfold cJ;rw[if_neg (by omega),if_pos vn]
  have eH:cS u v d m=u:=by unfold cS;rw[if_neg (by omega),if_pos vn]
  have nv:0 < -v:=by omega
  have vd:v*d<0:=Sx vn (by omega);have sqm:=wF nv hd2 hm0
  have lo1:sgq (u-cJ u v d m) v d=1:=by
   rw[eL,nM (by omega) vn];have q1:(u-(u+v*d-m))*(u-(u+v*d-m))=(-v*d+m)*(-v*d+m):=by grind
   have q2:d * -v * -v=d*v*v:=by grind
   rw[q2]at sqm;rw[q1,if_neg (by omega)]
  have hi1:sgq (u-cS u v d m) v d = -1:=by rw[eH,Int.sub_self];exact iU (Q7 _) (by omega) (.inr vn)
  exact⟨by show 0<sgq _ _ _;rw[lo_sg,lo1];decide,by show ¬0<sgq _ _ _;rw[hi_sg,hi1];decide⟩
 ·subst vn;have eL:cJ u 0 d m=u-1-m:=by unfold cJ;rw[if_neg (by decide),if_neg (by decide)]
  have eH:cS u 0 d m=u+m/3:=by unfold cS;rw[if_neg (by decide),if_neg (by decide)]
  refine⟨?_,?_⟩
  ·show 0<sgq _ _ _;rw[lo_sg,eL,hJ (by omega) (Q7 _) (.inl (by omega))];decide
  ·show ¬0<sgq _ _ _;rw[hi_sg,eH];rcases RT (show u-(u+m/3)<=0 by omega)with z |z
   ·rw[iU (by omega) (Q7 _) (.inl z)];decide
   ·rw[z,nQ];decide
 ·have eL:cJ u v d m=u:=by unfold cJ;rw[if_pos vn]
  have eH:cS u v d m=u+v*d+m:=by unfold cS;rw[if_pos vn]
  have vd:0<v*d:=QC vn (by omega);have sqm:=wF vn hd2 hm0;have lo1:sgq (u-cJ u v d m) v d=1:=by rw[eL,Int.sub_self];exact hJ (Q7 _) (by omega) (.inr vn)
  have hi1:sgq (u-cS u v d m) v d = -1:=by
   rw[eH,nN (by omega) vn];have q1:(u-(u+v*d+m))*(u-(u+v*d+m))=(v*d+m)*(v*d+m):=by grind
   rw[q1,if_pos (by omega)]
  exact⟨by show 0<sgq _ _ _;rw[lo_sg,lo1];decide,by show ¬0<sgq _ _ _;rw[hi_sg,hi1];decide⟩
def pO:Sp:=λvs H Q _=>∃(p:Addr) (u v w d:Int),vs=[.ref p]/\WT H p u v w d/\WOk u v w d/\mkL H Q (cO u v w d)
theorem GW(F:Fun K "_law_least" "_law_least" rP f fd)(T:Txt K mg)(Ot:Cal P w K mg base 2 "_law_plain" ["_law_row"] xg Qr Pn):FnOk P w K mg base CX0 3 f fd ["_law_worth_here"] pO:=by
 obtain⟨Ca,zI,zZ,BU⟩:=Ot;refine F.ok sc__law_least (λvs H Q E h=>?_) (λcdv A outer s H vs Q E hr h=>?_)
 ·obtain⟨p,u,v,w,d,rfl,_⟩:=h;rfl
 ·obtain⟨p,u,v,w,d,rfl,hp,hW,k⟩:=h;have hw:=hW.w1
  refine⟨_,(ag (gv (pv 0) (ik rfl (cH (aU (i:=1) sc__law_least.nd rfl (Or.inl rfl)) (cH (aU (i:=2) sc__law_least.nd rfl (Or.inl rfl)) (cH (aU (i:=3) sc__law_least.nd rfl (Or.inl rfl)) (cH (aU (i:=4) sc__law_least.nd rfl (Or.inl rfl)) ij))))))
   (ag (aO (aG cR (pv 2) ad (aE _))
     (ak (av (aq Ca (hr.mono) rfl zI zZ BU .nil aj (aa (bK (aa (bH bF (pv 1)) (aa (pv 3) ac))) ac))))
     aP)
   (ak (av (aq Ca (hr.mono) rfl zI zZ BU .nil aj (aa (bK (aa (ai ca (ai aJ (pv 1) (pv 1)) (ai aJ (ai aJ (pv 4) (pv 2)) (pv 2))) (aa (ai aJ (ai aJ (bH bF ad) (pv 1)) (pv 3)) (aa (ai aJ (pv 3) (pv 3)) ac)))) ac)))))),?_⟩
  refine⟨_,rfl,p,_,rfl,SqT.of hp,rfl,_,_,rfl,_,_,rfl,_,_,rfl,_,_,rfl,rfl,?_⟩;dsimp only
  refine dD (λσ' H'=>σ'=[some (.ref p),some (.int u),some (.int v),some (.int w),some (.int d)]/\H=H') ⟨rfl,rfl⟩ ?_;rintro σ' H' ⟨rfl,rfl⟩;refine bI ⟨_,rfl,_,_,rfl,rfl,_,rfl,aH (λh0=>?_) (λh0=>?_)⟩
  ·have h0':v=0:=h0;refine aQ ⟨_,rfl,_,rfl,_,rfl,by show 2<=sizeLine;decide,λq hq=>?_⟩;have s1:Same H (upd H q (.lst [V.int (-u),V.int w])):=Same.upd_new hq;refine⟨q,[-u,w],rfl,au,kJ (by omega),by simp,hw,by show 2<=100;decide,λx hx=>?_,λy H' s' hy e=>?_⟩
   ·simp only[QK,SZ,or_false]at hx;rcases hx with rfl |rfl
    ·exact hW.bu.neg.mono
    ·exact hW.bw.mono
   ·refine k y H' (s1.trans s') (s1.free hy) ?_;unfold cO;rw[if_pos h0'];exact e
  ·have h0':¬v=0:=h0;have b2:Bits 1000000 (-2:Int):=Bits.mono (j:=2) (by show(-2:Int).natAbs<2^2;decide) (by decide);have bdv:Bits 30 (d*v):=(hW.bd.mul hW.bv).mono
   have b2u:Bits 30 (-2*u):=by
    have:Bits 2 (-2:Int):=by show(-2:Int).natAbs<2^2;decide
    exact(this.mul hW.bu).mono
   have ww:0<w*w:=QC hw hw;refine aQ ⟨_,rfl,_,rfl,_,_,rfl,rfl,⟨hW.bu.mono,hW.bu.mono⟩,_,rfl,_,rfl,_,_,rfl,rfl,⟨hW.bd.mono,hW.bv.mono⟩,_,rfl,_,_,rfl,rfl,⟨bdv.mono,hW.bv.mono⟩,_,_,rfl,rfl,?_⟩;refine⟨_,rfl,_,rfl,_,_,rfl,rfl,⟨b2,hW.bu.mono⟩,_,rfl,_,_,rfl,rfl,⟨b2u.mono,hW.bw.mono⟩,?_⟩;refine⟨_,rfl,_,rfl,_,_,rfl,rfl,⟨hW.bw.mono,hW.bw.mono⟩,by show 3<=sizeLine;decide,λq hq=>?_⟩;have s1:Same H (upd H q (.lst [V.int (u*u-d*v*v),V.int (-2*u*w),V.int (w*w)])):=Same.upd_new hq;refine⟨q,[u*u-d*v*v,-2*u*w,w*w],rfl,au,pi (by omega),by simp,ww,by show 3<=100;decide,λx hx=>?_,λy H' s' hy e=>?_⟩
   ·simp only[QK,SZ,or_false]at hx;rcases hx with rfl |rfl |rfl
    ·exact Bits.mono (Bits.sub (k:=60) ((hW.bu.mul hW.bu).mono) ((bdv.mul hW.bv).mono)) (by decide)
    ·exact(b2u.mul hW.bw).mono
    ·exact(hW.bw.mul hW.bw).mono
   ·refine k y H' (s1.trans s') (s1.free hy) ?_;unfold cO;rw[if_neg h0'];exact e
theorem i7{x m:Int}(h:0<m):0<=x%m/\x%m<m:=⟨Int.emod_nonneg _ (Rf h),S6 _ h⟩
theorem fu{k:Int}(h0:0<=k)(h:k<2^12):Bits 9000 k:=Bits.mono (j:=12) (by show k.natAbs<2^12;omega) (by decide)
def xI:Sp:=λvs H Q _=>∃c:Int,vs=[.int c]/\∀z:Int,Bits 21 z->Q (.int z) H
theorem GZ(F:Fun K "_law_amount" "_law_amount" rS f fd)(T:Txt K mg):FnOk P w K mg base CX0 1 f fd ["_law_cell"] xI:=by
 refine F.ok Eb (λvs H Q E h=>?_) (λcdv A outer s H vs Q E hr h=>?_)
 ·obtain⟨c,rfl,_⟩:=h;rfl
 ·obtain⟨c,rfl,k⟩:=h
  refine⟨_,(ag (aO (aG cR (ai cX (pv 0) ad) ad (aE _))
   (ak (av (ai ca (ai cX (ai de (pv 0) ad) (ai bQ (ai aJ ad (ai lI ad ad)) ad)) (ai lI ad ad))))
   aP)
   (ak (av (ai ca (ai cX (ai de (pv 0) ad) ad) ad)))),?_⟩
  refine bI ⟨_,rfl,_,_,rfl,rfl,(by show(0:Int)<4;decide),_,_,rfl,rfl,_,rfl,aH (λ_=>?_) (λ_=>?_)⟩
  ·have b6:Bits 1000000 ((10:Int)^6):=Bits.mono (j:=21) (by show((10:Int)^6).natAbs<2^21;decide) (by decide);refine aQ ⟨_,rfl,_,_,rfl,rfl,⟨by show(0:Int)<4;decide,fu (by decide) (by decide)⟩,_,_,rfl,rfl,⟨by decide,by decide,by decide⟩,_,_,rfl,rfl,⟨d9,b6⟩,_,_,rfl,rfl,_,_,rfl,rfl,(by show(0:Int)<2*10^6+1;decide),_,_,rfl,rfl,⟨by decide,by decide,by decide⟩,_,_,rfl,rfl,k _ ?_⟩;obtain⟨m0,m1⟩:=i7 (x:=c/4) (m:=2*10^6+1) (by decide);show(c/4%(2*10^6+1)-10^6).natAbs<2^21;omega
  ·refine aQ ⟨_,rfl,_,_,rfl,rfl,⟨by show(0:Int)<4;decide,fu (by decide) (by decide)⟩,_,_,rfl,rfl,(by show(0:Int)<21;decide),_,_,rfl,rfl,k _ ?_⟩;obtain⟨m0,m1⟩:=i7 (x:=c/4) (m:=21) (by decide);show(c/4%21-10).natAbs<2^21;omega
def wO(K:PySem.W.Frag):Sp:=λvs H Q _=>∃(a:Addr) (ns:List Int),vs=[.ref a,.int 0]/\SqL K H a (ns.map V.int)/\∀(p:Addr) (H':Hp) (u v w d:Int),Same H H'->H p=none->WT H' p u v w d->WOk u v w d->Q (.ref p) H'
theorem Er{v:V}(h:v∈[V.int 2,V.int 3,V.int 5,V.int 6,V.int 7,V.int 10,V.int 11,V.int 13]):∃d:Int,v=.int d/\2<=d/\d<=13/\NSq d:=by
 simp only[QK,SZ,or_false]at h;rcases h with rfl |rfl |rfl |rfl |rfl |rfl |rfl |rfl
 ·exact⟨_,rfl,by decide,by decide,ip (n:=1) (d:=2) (by decide) (by decide)⟩
 ·exact⟨_,rfl,by decide,by decide,ip (n:=1) (d:=3) (by decide) (by decide)⟩
 ·exact⟨_,rfl,by decide,by decide,ip (n:=2) (d:=5) (by decide) (by decide)⟩
 ·exact⟨_,rfl,by decide,by decide,ip (n:=2) (d:=6) (by decide) (by decide)⟩
 ·exact⟨_,rfl,by decide,by decide,ip (n:=2) (d:=7) (by decide) (by decide)⟩
 ·exact⟨_,rfl,by decide,by decide,ip (n:=3) (d:=10) (by decide) (by decide)⟩
 ·exact⟨_,rfl,by decide,by decide,ip (n:=3) (d:=11) (by decide) (by decide)⟩
 ·exact⟨_,rfl,by decide,by decide,ip (n:=3) (d:=13) (by decide) (by decide)⟩
theorem GO(F:Fun K "_law_worth" "_law_worth" rG f fd)(T:Txt K mg)(Ow:Cal P w K mg base 1 "_law_amount" ["_law_cell"] xI Qu Ps)(vN:Cal P w K mg base 1 "_law_cell_at" ["_law_script","_law_k"] (jP K) KU KE):FnOk P w K mg base CX0 2 f fd ["_law_script","_law_k"] (wO K):=by
 obtain⟨Cb,zJ,Aa,BV⟩:=Ow;obtain⟨gW,gD,gJ,gR⟩:=vN;refine F.ok sc__law_worth (λvs H Q E h=>?_) (λcdv A outer s H vs Q E hr h=>?_)
 ·obtain⟨a,ns,rfl,_⟩:=h;rfl
 ·obtain⟨a,ns,rfl,hS,k⟩:=h
  refine⟨_,(ag (ao (i:=2) sc__law_worth.nd rfl (Or.inl rfl) (ai aJ (aq Cb (hr.mono) rfl zJ Aa BV .nil aj (aa (aq gW (hr.mono) rfl gD gJ gR .nil aj (aa (pv 0) (aa (ai bQ (pv 1) ad) ac))) ac)) (eT mM (by rfl) T.int_ PyProof.Rows.boot_int (aa (dH cQ (ai cX (aq gW (hr.mono) rfl gD gJ gR .nil aj (aa (pv 0) (aa (ai bQ (pv 1) ad) ac))) ad) ad (aE _)) ac))))
   (ag (ao (i:=3) sc__law_worth.nd rfl (Or.inl rfl) (aq gW (hr.mono) rfl gD gJ gR .nil aj (aa (pv 0) (aa (ai bQ (pv 1) ad) ac))))
   (ak (av (du (aa (aq Cb (hr.mono) rfl zJ Aa BV .nil aj (aa (aq gW (hr.mono) rfl gD gJ gR .nil aj (aa (pv 0) (aa (pv 1) ac))) ac)) (aa (pv 2) (aa (ai bQ ad (ai cX (ai de (pv 3) ad) ad)) (aa (aI (cC (K:=K) rfl) (bK (aa ad (aa ad (aa ad (aa ad (aa ad (aa ad (aa ad (aa ad ac))))))))) (ai cX (pv 3) ad) (λ_ _=>rfl)) ac))))))))),?_⟩
  refine aw ⟨_,rfl,_,rfl,_,_,rfl,rfl,a,ns,1,rfl,hS,_,rfl,λz hz=>?_⟩;have b1:Bits 1000000 (if decide (ns.getD 1 0%5>0)=true then(1:Int)else 0):=by split;exact sN;exact Bits.zero
  refine⟨_,rfl,_,rfl,_,_,rfl,rfl,a,ns,1,rfl,hS,_,_,rfl,rfl,(by show(0:Int)<5;decide),_,_,rfl,rfl,.inr ⟨_,rfl,_,_,rfl,rfl,⟨hz.mono,b1⟩,?_⟩⟩
  have bv:Bits 21 (z*(if decide (ns.getD 1 0%5>0)=true then(1:Int)else 0)):=by
   split
   ·rw[Q1];exact hz
   ·rw[QX];exact Bits.zero
  show cM _ _ _ _ _;generalize z*(if decide (ns.getD 1 0%5>0)=true then(1:Int)else 0)=v at bv
  refine dD (λσ' H'=>∃v:Int,σ'=[some (.ref a),some (.int 0),some (.int v),none]/\H=H'/\Bits 21 v) ⟨_,rfl,rfl,?_⟩ ?_
  ·split
   ·rw[Q1];exact hz
   ·rw[QX];exact Bits.zero
  rintro σ' H' ⟨v,rfl,rfl,bv⟩;refine aw ⟨_,rfl,_,rfl,_,_,rfl,rfl,a,ns,2,rfl,hS,?_⟩;refine aQ ⟨_,rfl,_,rfl,a,ns,0,rfl,hS,_,rfl,λu bu=>?_⟩;refine⟨_,rfl,_,rfl,_,_,rfl,rfl,⟨by show(0:Int)<8;decide,fu (by decide) (by decide)⟩,_,_,rfl,rfl,(by show(0:Int)<12;decide),_,_,rfl,rfl,by show 8<=sizeLine;decide,λp hp=>?_⟩;obtain⟨x,hx,ex⟩:=BY (xs:=[V.int 2,V.int 3,V.int 5,V.int 6,V.int 7,V.int 10,V.int 11,V.int 13]) (n:=8) rfl (by decide) (ns.getD 2 0);obtain⟨d,rfl,hd2,hd13,hns⟩:=Er hx;have s1:Same H (upd H p (.lst [V.int 2,V.int 3,V.int 5,V.int 6,V.int 7,V.int 10,V.int 11,V.int 13])):=Same.upd_new hp;refine⟨_,rfl,_,_,rfl,rfl,(by show(0:Int)<8;decide),p,_,_,_,rfl,rfl,SqL.of au,ex,by show 4<=sizeLine;decide,λq hq=>?_⟩;obtain⟨m0,m1⟩:=i7 (x:=ns.getD 2 0/8) (m:=12) (by decide);exact k q _ u v _ d (s1.then_new hq) (s1.free hq) au ⟨bu,bv,by omega,by omega,hd2,hd13,hns⟩
def wX(C:Addr):Sp:=λvs H Q _=>∃(p:Addr) (u v w d m:Int),vs=[.ref p,.int m]/\WT H p u v w d/\WOk u v w d/\0<=m/\m<60/\∀(t l h:Addr) (H':Hp) (l1 l2 h1 h2:Int),Same H H'->H t=none->H' t=some (.tup [.ref l,.ref h])->RA C H' l l1 l2->RA C H' h h1 h2->SpE u v w d m l1 l2 h1 h2->Q (.ref t) H'
theorem GR(F:Fun K "_law_span" "_law_span" rK f fd)(T:Txt K mg)(R:RCI K mg C)(cc:KCal P w K mg base 2 C "Ratio" ["self","top","bottom"] (da C) dN dM dO [.int 1]):FnOk P w K mg base CX0 4 f fd ["_law_worth_here","_law_more"] (wX C):=by
 obtain⟨bC,bz,bj,b9,cF,cD⟩:=cc;refine F.ok sc__law_span (λvs H Q E h=>?_) (λcdv A outer s H vs Q E hr h=>?_)
 ·obtain⟨p,u,v,w,d,m,rfl,_⟩:=h;rfl
 ·obtain⟨p,u,v,w,d,m,rfl,hp,hW,hm0,hm,k⟩:=h;have hw:=hW.w1;have w0:w≠0:=by omega
  refine⟨_,(ag (gv (pv 0) (ik rfl (cH (aU (i:=2) sc__law_span.nd rfl (Or.inl rfl)) (cH (aU (i:=3) sc__law_span.nd rfl (Or.inl rfl)) (cH (aU (i:=4) sc__law_span.nd rfl (Or.inl rfl)) (cH (aU (i:=5) sc__law_span.nd rfl (Or.inl rfl)) ij))))))
   (ag (aO (aG cQ (pv 3) ad (aE _))
     (ak (av (du (aa (b5 bz bC (hr.mono) rfl bj b9 .nil aj (aa (pv 2) (aa (pv 4) ac))) (aa (b5 bz bC (hr.mono) rfl bj b9 .nil aj (aa (ai bQ (ai bQ (pv 2) (ai aJ (pv 3) (pv 5))) (pv 1)) (aa (pv 4) ac))) ac)))))
     aP)
   (ag (aO (aG cY (pv 3) ad (aE _))
     (ak (av (du (aa (b5 bz bC (hr.mono) rfl bj b9 .nil aj (aa (ai ca (ai bQ (pv 2) (ai aJ (pv 3) (pv 5))) (pv 1)) (aa (pv 4) ac))) (aa (b5 bz bC (hr.mono) rfl bj b9 .nil aj (aa (pv 2) (aa (pv 4) ac))) ac)))))
     aP)
   (ak (av (du (aa (b5 bz bC (hr.mono) rfl bj b9 .nil aj (aa (ai ca (ai ca (pv 2) ad) (pv 1)) (aa (pv 4) ac))) (aa (b5 bz bC (hr.mono) rfl bj b9 .nil aj (aa (ai bQ (pv 2) (ai de (pv 1) ad)) (aa (pv 4) ac))) ac)))))))),?_⟩
  refine⟨_,rfl,p,_,rfl,SqT.of hp,rfl,_,_,rfl,_,_,rfl,_,_,rfl,_,_,rfl,rfl,?_⟩;dsimp only
  refine dD (λσ' H'=>σ'=[some (.ref p),some (.int m),some (.int u),some (.int v),some (.int w),some (.int d)]/\H=H') ⟨rfl,rfl⟩ ?_;rintro σ' H' ⟨rfl,rfl⟩;have bw9:Bits 9000 w:=hW.bw.mono;have bvd:Bits 30 (v*d):=(hW.bv.mul hW.bd).mono;have bN:∀x:Int,Bits 35 x->Bits 40 (rt x w)/\Bits 40 (rb x w):=λx hx=>⟨(ee w0 hx).mono,(dY w0 hW.bw).mono⟩
  have fin:∀(x y:Int),x=cJ u v d m->y=cS u v d m->Bits 35 x->Bits 35 y->SpE u v w d m (rt x w) (rb x w) (rt y w) (rb y w):=λx y ex ey bx by'=>⟨c7 w0,c7 w0,(bN x bx).1,(bN x bx).2,(bN y by').1,(bN y by').2,ie w0,ie w0,by rw[<- ex];exact ei w0,by rw[<- ey];exact ei w0⟩
  have b60:Bits 30 m:=by show m.natAbs<2^30;omega
  have bu30:Bits 30 u:=hW.bu.mono;have bs1:Bits 35 (u+v*d+m):=Bits.mono (Bits.add (k:=31) (Bits.add bu30 bvd) (b60.mono)) (by decide);have bs2:Bits 35 (u+v*d-m):=Bits.mono (Bits.sub (k:=31) (Bits.add bu30 bvd) (b60.mono)) (by decide);have bs3:Bits 35 (u-1-m):=Bits.mono (Bits.sub (k:=31) (Bits.sub bu30 (b1k (by decide))) (b60.mono)) (by decide);have b3:Bits 30 (m/3):=by show(m/3).natAbs<2^30;omega
  have bs4:Bits 35 (u+m/3):=Bits.mono (Bits.add bu30 b3) (by decide);have bu35:Bits 35 u:=hW.bu.mono;refine bI ⟨_,rfl,_,_,rfl,rfl,_,rfl,aH (λh0=>?_) (λh0=>?_)⟩
  ·have h0':0<v:=h0;refine aQ ⟨_,rfl,_,rfl,cI (t:=u) w0 bw9 λl H1 s1 hl hRl=>?_⟩;refine⟨_,rfl,_,rfl,_,rfl,_,_,rfl,rfl,⟨hW.bv.mono,hW.bd.mono⟩,_,_,rfl,rfl,_,rfl,_,_,rfl,rfl,_,rfl,cI (t:=u+v*d+m) w0 bw9 λh H2 s2 hh hRh=>?_⟩;refine⟨by show 2<=sizeLine;decide,λq hq=>?_⟩;have sq:=Same.upd_new (o:=.tup [V.ref l,V.ref h]) hq;have t2:=s1.trans s2;exact k q l h _ _ _ _ _ (t2.then_new hq) (t2.free hq) au ((hRl.same s2).same sq) (hRh.same sq) (fin _ _ (by unfold cJ;rw[if_pos h0']) (by unfold cS;rw[if_pos h0']) bu35 bs1)
  have h0':¬0<v:=h0;refine bI ⟨_,rfl,_,_,rfl,rfl,_,rfl,aH (λh1=>?_) (λh1=>?_)⟩
  ·have h1':v<0:=h1;refine aQ ⟨_,rfl,_,rfl,_,rfl,_,_,rfl,rfl,⟨hW.bv.mono,hW.bd.mono⟩,_,_,rfl,rfl,_,rfl,_,_,rfl,rfl,_,rfl,cI (t:=u+v*d-m) w0 bw9 λl H1 s1 hl hRl=>?_⟩;refine⟨_,rfl,_,rfl,cI (t:=u) w0 bw9 λh H2 s2 hh hRh=>?_⟩;refine⟨by show 2<=sizeLine;decide,λq hq=>?_⟩;have sq:=Same.upd_new (o:=.tup [V.ref l,V.ref h]) hq;have t2:=s1.trans s2;exact k q l h _ _ _ _ _ (t2.then_new hq) (t2.free hq) au ((hRl.same s2).same sq) (hRh.same sq) (fin _ _ (by unfold cJ;rw[if_neg h0',if_pos h1']) (by unfold cS;rw[if_neg h0',if_pos h1']) bs2 bu35)
  have h1':¬v<0:=h1;refine aQ ⟨_,rfl,_,_,rfl,rfl,_,rfl,_,_,rfl,rfl,_,rfl,cI (t:=u-1-m) w0 bw9 λl H1 s1 hl hRl=>?_⟩;refine⟨_,rfl,_,rfl,_,_,rfl,rfl,⟨by show(0:Int)<3;decide,fu (by decide) (by decide)⟩,_,_,rfl,rfl,_,rfl,cI (t:=u+m/3) w0 bw9 λh H2 s2 hh hRh=>?_⟩;refine⟨by show 2<=sizeLine;decide,λq hq=>?_⟩;have sq:=Same.upd_new (o:=.tup [V.ref l,V.ref h]) hq;have t2:=s1.trans s2;exact k q l h _ _ _ _ _ (t2.then_new hq) (t2.free hq) au ((hRl.same s2).same sq) (hRh.same sq) (fin _ _ (by unfold cJ;rw[if_neg h0',if_neg h1']) (by unfold cS;rw[if_neg h0',if_neg h1']) bs3 bs4)
def wR:Sp:=λvs H Q _=>∃(a b:Addr) (xs ys:List Int),vs=[.ref a,.ref b]/\H a=some (.lst (xs.map V.int))/\H b=some (.lst (ys.map V.int))/\xs≠[]/\ys≠[]/\xs.length<=1000/\ys.length<=1000/\AllB 1000000 xs/\AllB 1000000 ys/\mkL H Q (af xs ys)
theorem GQ(F:Fun K "_law_times" "_law_times" rJ f fd)(T:Txt K mg):FnOk P w K mg base CX0 1 f fd ["_law_one","_law_other"] wR:=by
 refine F.ok sc__law_times (λvs H Q E h=>?_) (λcdv A outer s H vs Q E hr h=>?_)
 ·obtain⟨a,b,xs,ys,rfl,_⟩:=h;rfl
 ·obtain⟨a,b,xs,ys,rfl,hA,hB,hx0,hy0,hx,hy,bx,by',k⟩:=h;have big:=sizeLine_eq
  refine⟨_,(ag (ao (i:=2) sc__law_times.nd rfl (Or.inl rfl) (ai sL (bK (aa ad ac)) (ai ca (ai bQ (bX (dz (K:=K) rfl) (by rfl) T.len_ PySem.boot_len (aa (pv 0) ac)) (bX (dz (K:=K) rfl) (by rfl) T.len_ PySem.boot_len (aa (pv 1) ac))) ad)))
   (ag (c8 PassesOwn.never rfl (ii rfl T.range_ (aa (bX (dz (K:=K) rfl) (by rfl) T.len_ PySem.boot_len (aa (pv 0) ac)) ac)) (aU (i:=3) sc__law_times.nd rfl (Or.inl rfl))
     (ak (c8 PassesOwn.never rfl (ii rfl T.range_ (aa (bX (dz (K:=K) rfl) (by rfl) T.len_ PySem.boot_len (aa (pv 1) ac)) ac)) (aU (i:=4) sc__law_times.nd rfl (Or.inl rfl))
       (ak (gv (ai bQ (aI (cC (K:=K) rfl) (pv 2) (ai bQ (pv 3) (pv 4)) (λ_ _=>rfl)) (ai aJ (aI (cC (K:=K) rfl) (pv 0) (pv 3) (λ_ _=>rfl)) (aI (cC (K:=K) rfl) (pv 1) (pv 4) (λ_ _=>rfl)))) (lG (pv 2) (ai bQ (pv 3) (pv 4)) ld))))))
   (ak (av (pv 2))))),?_⟩
  have hlx:(xs.map V.int).length=xs.length:=QB _;have hly:(ys.map V.int).length=ys.length:=QB _;obtain⟨la,ea⟩:∃la,xs.length=la+1:=⟨xs.length-1,by have:=QG.mpr hx0;omega⟩;obtain⟨lb,eb⟩:∃lb,ys.length=lb+1:=⟨ys.length-1,by have:=QG.mpr hy0;omega⟩;have en:((xs.map V.int).length:Int)+((ys.map V.int).length:Int)-1=((la+lb+1:Nat):Int):=by rw[hlx,hly];omega
  refine aw ⟨by show 1<=sizeLine;omega,λp2 hp2=>?_⟩;have s0:=Same.upd_new (o:=.lst [V.int 0]) hp2;refine⟨_,rfl,a,_,rfl,.inl (SqL.of (s0 _ _ hA)),_,rfl,b,_,rfl,.inl (SqL.of (s0 _ _ hB)),_,_,rfl,rfl,_,_,rfl,rfl,?_⟩;dsimp only
  rw[en];refine⟨p2,_,_,rfl,rfl,au,by omega,by omega,by show 1*_<=_;omega,λp hp=>?_⟩;rw[show((la+lb+1:Nat):Int).toNat=la+lb+1 from rfl,se];have s4:=s0.then_new (o:=.lst ((List.replicate (la+lb+1) (0:Int)).map V.int)) hp;have hp0:=s0.free hp;have npa:a≠p:=aY hA hp0;have npb:b≠p:=aY hB hp0;have hp4:upd (upd H p2 (.lst [V.int 0])) p (.lst ((List.replicate (la+lb+1) (0:Int)).map V.int)) p=some (.lst ((List.replicate (la+lb+1) (0:Int)).map V.int)):=au;generalize upd (upd H p2 (.lst [V.int 0])) p (.lst ((List.replicate (la+lb+1) (0:Int)).map V.int))=H4 at s4 hp4 ⊢
  refine⟨_,rfl,a,_,rfl,.inl (SqL.of (s4 _ _ hA)),_,rfl,by rw[hlx];omega,by rw[hlx];omega,?_⟩;rw[hlx]
  refine kg (lo:=0) (n:=xs.length) (λj σ' H'=>∃(acc:List Int) (z3 z4:Option V),σ'=[some (.ref a),some (.ref b),some (.ref p),z3,z4]/\SameB p H4 H'/\H' p=some (.lst (acc.map V.int))/\acc.length=la+lb+1/\∀n,n<acc.length->cf acc n=sm xs ys n j)
   ⟨List.replicate (la+lb+1) 0,none,none,rfl,SameB.refl _ _,hp4,by simp,λn _=>by rw[mK];rfl⟩ ?_ ?_
  ·rintro j σ' H' hjl ⟨acc,z3,z4,rfl,sb,hpa,hal,hac⟩;have hA':=sb _ _ npa (s4 _ _ hA);have hB':=sb _ _ npb (s4 _ _ hB);refine⟨_,rfl,b,_,rfl,.inl (SqL.of hB'),_,rfl,by rw[hly];omega,by rw[hly];omega,?_⟩;rw[hly]
   refine kg (lo:=0) (n:=ys.length) (λi σ' H'=>∃(acc:List Int) (z4:Option V),σ'=[some (.ref a),some (.ref b),some (.ref p),some (.int (0+(j:Int))),z4]/\SameB p H4 H'/\H' p=some (.lst (acc.map V.int))/\acc.length=la+lb+1/\∀n,n<acc.length->cf acc n=sm xs ys n j+(if j<=n/\n-j<i then tm xs ys n j else 0))
    ⟨acc,z4,rfl,sb,hpa,hal,zr hac⟩ ?_ ?_
   ·rintro i σ' H' hil ⟨acc,z4,rfl,sb,hpa,hal,hac⟩;have hA':=sb _ _ npa (s4 _ _ hA);have hB':=sb _ _ npb (s4 _ _ hB);have hji:j+i<acc.length:=by omega
    have eji:(0+((j:Nat):Int))+(0+((i:Nat):Int))=((j+i:Nat):Int):=by omega
    have e0:∀x:Nat,(0:Int)+((x:Nat):Int)=((x:Nat):Int):=λx=>by omega
    refine⟨_,rfl,_,rfl,_,rfl,_,_,rfl,rfl,p,_,_,_,rfl,rfl,SqL.of hpa,kt eji hji,_,rfl,_,rfl,a,_,_,_,rfl,rfl,SqL.of hA',kt (e0 j) hjl,_,rfl,_,rfl,b,_,_,_,rfl,rfl,SqL.of hB',kt (e0 i) hil,_,_,rfl,rfl,⟨bx.cf j,by'.cf i⟩,_,_,rfl,rfl,_,rfl,_,rfl,_,rfl,_,_,rfl,rfl,p,_,_,j+i,rfl,rfl,hpa,mq eji (by rw[QB];exact hji),?_⟩;exact⟨acc.set (j+i) (cf acc (j+i)+cf xs j*cf ys i),_,rfl,sb.then_upd,by rw[au,oz],by rw[Sk];exact hal,zq hjl hil hji hac⟩
   ·rintro σ' H' ⟨acc,z4,rfl,sb,hpa,hal,hac⟩;exact⟨acc,_,_,rfl,sb,hpa,hal,zt hac⟩
  ·rintro σ' H' ⟨acc,z3,z4,rfl,sb,hpa,hal,hac⟩;refine⟨_,rfl,k p H' (λb' o e=>sb b' o (aY e hp0) (s4 b' o e)) hp0 ?_⟩;rw[hpa]
   have e:acc=af xs ys:=by
    apply d8
    ·rw[hal];unfold af;rw[if_neg (by intro z;exact z.elim hx0 hy0),QB,RO];omega
    ·intro n _;rw[aN,zu (by omega) hac]
   rw[e]
theorem oC{u v w d:Int}(hd:0<d):cO u v w d=ah [u,d*v*v,w]:=by
 unfold cO;show _=aA (aM u (d*v*v) w);unfold aM;by_cases hv:v=0
 ·subst hv;rw[if_pos rfl,if_pos (by omega)]
 ·have he:d*v*v≠0:=QU (QU (by omega) hv) hv;rw[if_neg hv,if_neg he];have : -2*u*w = -2*w*u:=by grind
  rw[this]
theorem lx(a:List (List Int)):∀b:List (List Int),prd (b++a)=af (prd b) (prd a)
 | []=>by show prd a=af [1] (prd a);rw[lT]
 |s::b=>by show af s (prd (b++a))=af (af s (prd b)) (prd a);rw[lx a b,iu]
noncomputable def usP(s:List Int)(m:Nat)(rs:List (List Int)):List (List Int×Nat):=(s,m)::rs.map λf=>(ah f,1)
theorem mZ(g:Nat->Nat)(hg:g 1=1):∀rs:List (List Int),fP g (rs.map λf=>(ah f,1))=prd (rs.map ah)
 | []=>rfl
 |f::rs=>by show af (pw (ah f) (g 1)) (fP g (rs.map λf=>(ah f,1)))=af (ah f) (prd (rs.map ah));rw[mZ g hg rs,hg,gu]
theorem v4:∀rs:List (List Int),fP (·-1) (rs.map λf=>(ah f,1))=[1]
 | []=>rfl
 |f::rs=>by show af (pw (ah f) 0) (fP (·-1) (rs.map λf=>(ah f,1)))=[1];rw[v4 rs];show af [1] [1]=[1];rfl
structure Pad(u v w d l1 l2:Int)(m:Nat)(A B D:List (List Int))(c:Int):Prop where
 m:m=1\/m=2
 a:A=[]\/A=[[l1,0,l2]]
 b:B=[]\/∃far:Int,(u.natAbs:Int)+(v.natAbs:Int)*d+100<=far/\far<=100000000/\(B=[[-far,0,1]]\/B=[[far,0,1]])
 d:D=[]\/∃k:Int,1<=k/\k<=7/\D=[[0,-k,1]]
 c0:c≠0
 bc:Bits 10 c
theorem oB{t b:Int}(hb:0<b)(hg:Nat.gcd t.natAbs b.natAbs=1):ah [t,0,b]=[-t,b]:=by
 have hr:aM t 0 b=[-t,b]:=by unfold aM;rw[if_pos rfl]
 show aA (aM t 0 b)=_;rw[hr];refine Pln.plain ⟨kJ (by omega),by simp,?_,hb⟩;show aB [-t,b]=1;unfold aB;rw[iz,iz,oN,Sy,R5];exact hg
theorem j2(t:Int):ah [t,0,1]=[-t,1]:=oB (by decide) (SY _)
theorem sS{k:Int}(hk:1<=k):ah [0,-k,1]=[k,0,1]:=by
 have hr:aM 0 (-k) 1=[k,0,1]:=by unfold aM;rw[if_neg (by omega)];simp
 show aA (aM 0 (-k) 1)=_;rw[hr];refine Pln.plain ⟨pi (by decide),by simp,?_,(by decide:(0:Int)<1)⟩;show aB [k,0,1]=1;unfold aB;rw[iz,iz,iz,oN];exact SY _
theorem zP{u b u' b':Int}(hb:1<=b)(hb':1<=b')(h:u*b'≠u'*b):ah [u,0,b]≠ah [u',0,b']:=λz=>by
 obtain⟨g,A0,A1,hg,eS,e0,e1,_,_⟩:=nK (u:=u) hb;obtain⟨g',A0',A1',hg',eS',e0',e1',_,_⟩:=nK (u:=u') hb';rw[eS,eS']at z;simp at z
 obtain⟨rfl,rfl⟩:=z;apply h;have q:u=g * -A0:=by grind
 have q':u'=g' * -A0:=by grind
 rw[q,q',e1,e1'];grind
theorem uw{t b:Int}(h1:t.natAbs<=1000000000)(h2:1<=b)(h3:b<=1000):FacG [t,0,b]:=⟨t,0,b,rfl,by omega,by omega,by decide,by decide,h2,h3,.inl (Q7 _)⟩
theorem KJ{k:Int}(h1:1<=k)(h2:k<=7):FacG [0,-k,1]:=⟨0,-k,1,rfl,by decide,by decide,by omega,by omega,by decide,by decide,.inl (by omega)⟩
theorem kz{k:Nat}{x:Int}(h:Bits k x):x.natAbs<2^k:=h
theorem kh{u v w d:Int}(hW:WOk u v w d):FacG [u,d*v*v,w]:=by
 have h1:=kz hW.bu;have h2:=kz hW.bv;have e1:(2:Nat)^21=2097152:=rfl;have hvv:(v*v).natAbs<=2097152*2097152:=by rw[QR];exact RD (by omega) (by omega)
 have hd:(d*(v*v)).natAbs<=13*(2097152*2097152):=by rw[QR];exact RD (by have:=hW.d2;have:=hW.d13;omega) hvv
 have e2:d*v*v=d*(v*v):=Rc _ _ _;have hn:=za hW.ns v;rw[e2]at hn ⊢;exact⟨u,d*(v*v),w,rfl,by omega,by omega,by omega,by omega,by have:=hW.w1;omega,by have:=hW.w12;omega,hn⟩
theorem IF{u v w d m l1 l2 h1 h2:Int}(hW:WOk u v w d)(hm0:0<=m)(hm:m<60)(hE:SpE u v w d m l1 l2 h1 h2):l2<=12/\(l1.natAbs:Int)<=(u.natAbs:Int)+(v.natAbs:Int)*d+61/\(h1.natAbs:Int)<=((u.natAbs:Int)+(v.natAbs:Int)*d+61)/\(u.natAbs:Int)+(v.natAbs:Int)*d<=90000000:=by
 have hw:=hW.w1;have hw12:=hW.w12;have h1':=kz hW.bu;have h2':=kz hW.bv;have e1:(2:Nat)^21=2097152:=rfl;have hvd:(v.natAbs:Int)*d<=2097152*13:=SF (by omega) hW.d13 (by have:=hW.d2;omega) (by decide);have nvd:0<=(v.natAbs:Int)*d:=Q8 (by omega) (by have:=hW.d2;omega)
 have red:∀{t b N:Int},0<b->Nat.gcd t.natAbs b.natAbs=1->t*w=N*b->b<=w/\t.natAbs<=N.natAbs:=λ{t b N} hb hg e=>by
  have e':t.natAbs*w.natAbs=N.natAbs*b.natAbs:=by
   have:=congrArg Int.natAbs e
   rwa [QR,QR]at this
  have hd:b.natAbs∣w.natAbs:=Nat.Coprime.dvd_of_dvd_mul_left (k:=b.natAbs) (m:=t.natAbs) (by rw[Nat.Coprime,SA];exact hg) ⟨N.natAbs,by rw[e',RJ]⟩;have hle:=Nat.le_of_dvd (by omega) hd;refine⟨by omega,?_⟩;have:t.natAbs*w.natAbs<=N.natAbs*w.natAbs:=by rw[e'];exact RP _ hle
  exact Ta this (by omega)
 obtain⟨a1,a2⟩:=red hE.l2p hE.gl hE.el;obtain⟨b1,b2⟩:=red hE.h2p hE.gh hE.eh;have vd:(v*d).natAbs=v.natAbs*d.natAbs:=QR _ _;have vd2:((v.natAbs*d.natAbs:Nat):Int)=(v.natAbs:Int)*d:=by rw[Rx];have:=hW.d2;congr 1;omega
 have ab:∀y k:Int,0<=k->k<=61->(y=v*d\/y=0)->((u+y-k).natAbs:Int)<=(u.natAbs:Int)+(v.natAbs:Int)*d+61/\((u+y+k).natAbs:Int)<=(u.natAbs:Int)+(v.natAbs:Int)*d+61:=λy k k0 k1 hy=>by
  have hy':(y.natAbs:Int)<=(v.natAbs:Int)*d:=by
   rcases hy with rfl |rfl
   ·rw[vd,vd2];exact Q7 _
   ·exact nvd
  have t1:=So (u+y) k;have t2:=SS u y;have t3:=SS (u+y) k;have t4:k.natAbs<=61:=by clear t1 t2 t3 hy' nvd hvd h1' h2' hW hE vd vd2 red a1 a2 b1 b2;omega
  clear vd vd2 red a1 a2 b1 b2 hvd h1' h2' hW hE hy k0 k1 nvd hw hw12 e1 hm hm0;generalize (v.natAbs:Int)*d=z at *
  generalize (u+y-k).natAbs=p1 at *
  generalize (u+y+k).natAbs=p2 at *
  generalize (u+y).natAbs=p3 at *
  generalize y.natAbs=p4 at *
  generalize u.natAbs=p5 at *
  generalize k.natAbs=p6 at *
  omega
 have c1:((cJ u v d m).natAbs:Int)<=(u.natAbs:Int)+(v.natAbs:Int)*d+61:=by
  unfold cJ;split
  ·have:=(ab 0 0 (by decide) (by decide) (.inr rfl)).1;rwa [Rk,Int.sub_zero]at this
  ·split
   ·exact(ab _ m hm0 (by omega) (.inl rfl)).1
   ·have:=(ab 0 (1+m) (by omega) (by omega) (.inr rfl)).1;rwa [Rk,show u-(1+m)=u-1-m by omega]at this
 have c2:((cS u v d m).natAbs:Int)<=(u.natAbs:Int)+(v.natAbs:Int)*d+61:=by
  unfold cS;split
  ·exact(ab _ m hm0 (by omega) (.inl rfl)).2
  ·split
   ·have:=(ab 0 0 (by decide) (by decide) (.inr rfl)).1;rwa [Rk,Int.sub_zero]at this
   ·have:=(ab 0 (m/3) (by omega) (by omega) (.inr rfl)).2;rwa [Rk]at this
 exact⟨Int.le_trans a1 hw12,Int.le_trans (Int.ofNat_le.mpr a2) c1,Int.le_trans (Int.ofNat_le.mpr b2) c2,by omega⟩
theorem sK{L:List (List Int)}{k n:Nat}(hk:1<=k)(hn:1<=n)(h:L=[]\/∃f,L=[f]/\AllB k (ah f)/\(ah f).length<=n/\ah f≠[]):AllB k (prd (L.map ah))/\(prd (L.map ah)).length<=n/\prd (L.map ah)≠[]:=by
 rcases h with rfl |⟨f,rfl,b,l,ne⟩
 ·exact⟨λx hx=>by rw[QF.mp hx];exact b1k hk,hn,by show([1]:List Int)≠[];simp⟩
 ·have:prd ([f].map ah)=ah f:=c9 _;rw[this];exact⟨b,l,ne⟩
theorem gQ{k n:Nat}{x:Int}(h:x.natAbs<n)(hn:n<=2^k):Bits k x:=Q9 h hn
theorem kx{k:Nat}{x y:Int}(h1:Bits k x)(h2:Bits k y):AllB k [x,y]:=λz hz=>by
 rcases QK.mp hz with rfl |hz
 ·exact h1
 ·rw[QF.mp hz];exact h2
theorem Ft{u v w d m l1 l2 h1 h2 c:Int}{mm:Nat}{A B D:List (List Int)}(hW:WOk u v w d)(hm0:0<=m)(hm:m<60)(hE:SpE u v w d m l1 l2 h1 h2)(hP:Pad u v w d l1 l2 mm A B D c) :
 Made (whl c (usP (ah [u,d*v*v,w]) mm (A++(B++D)))) c (usP (ah [u,d*v*v,w]) mm (A++(B++D)))/\flt (usP (ah [u,d*v*v,w]) mm (A++(B++D)))=prQ ([u,d*v*v,w]::(A++(B++D)))/\OneW ([u,d*v*v,w]::(A++(B++D))) [u,d*v*v,w] [u,d*v*v,w,ck v] l1 l2 h1 h2:=by
 obtain⟨s1,s2,s3,s4⟩:=IF hW hm0 hm hE;obtain⟨en,ol,oh,lU,hU⟩:=vQ hW hm0 hm hE;have hw:=hW.w1;have hw12:=hW.w12;have l2p:=hE.l2p;have h2p:=hE.h2p;have nvd:0<=(v.natAbs:Int)*d:=Q8 (by omega) (by have:=hW.d2;omega)
 have fA:∀f∈A,FacG f/\ah f=[-l1,l2]/\f=[l1,0,l2]:=λf hf=>by
  rcases hP.a with rfl |rfl
  ·cases hf
  ·rw[QF.mp hf];exact⟨uw (by omega) (by omega) (by omega),oB l2p hE.gl,rfl⟩
 have fB:∀f∈B,FacG f/\∃t:Int,f=[t,0,1]/\ah f=[-t,1]/\(u.natAbs:Int)+(v.natAbs:Int)*d+100<=(t.natAbs:Int)/\(t.natAbs:Int)<=100000000:=λf hf=>by
  rcases hP.b with rfl |⟨far,g1,g2,rfl |rfl⟩
  ·cases hf
  ·rw[QF.mp hf];exact⟨uw (by omega) (by decide) (by decide),-far,rfl,j2 _,by omega,by omega⟩
  ·rw[QF.mp hf];exact⟨uw (by omega) (by decide) (by decide),far,rfl,j2 _,by omega,by omega⟩
 have fD:∀f∈D,FacG f/\∃k:Int,1<=k/\k<=7/\f=[0,-k,1]/\ah f=[k,0,1]:=λf hf=>by
  rcases hP.d with rfl |⟨k,g1,g2,rfl⟩
  ·cases hf
  ·rw[QF.mp hf];exact⟨KJ g1 g2,k,g1,g2,rfl,sS g1⟩
 have f0:=kh hW
 have fR:∀f∈A++(B++D),FacG f:=λf hf=>by
  rcases QS.mp hf with z |z
  ·exact(fA f z).1
  rcases QS.mp z with z |z
  ·exact(fB f z).1
  ·exact(fD f z).1
 have nA:(A.map ah).Nodup:=by rcases hP.a with rfl |rfl<;>simp
 have nB:(B.map ah).Nodup:=by rcases hP.b with rfl |⟨far,_,_,rfl |rfl⟩<;>simp
 have nD:(D.map ah).Nodup:=by rcases hP.d with rfl |⟨k,_,_,rfl⟩<;>simp
 have dAB:∀f∈A,∀g∈B,ah f≠ah g:=λf hf g hg z=>by
  obtain⟨t,_,e2,e3,_⟩:=(fB g hg).2;rw[(fA f hf).2.1,e2]at z;simp at z
  omega
 have dAD:∀f∈A,∀g∈D,ah f≠ah g:=λf hf g hg z=>by obtain⟨k,_,_,_,e2⟩:=(fD g hg).2;rw[(fA f hf).2.1,e2]at z;simp at z
 have dBD:∀f∈B,∀g∈D,ah f≠ah g:=λf hf g hg z=>by obtain⟨t,_,e2,_⟩:=(fB f hf).2;obtain⟨k,_,_,_,e3⟩:=(fD g hg).2;rw[e2,e3]at z;simp at z
 have d0:∀f∈A++(B++D),ah [u,d*v*v,w]≠ah f:=λf hf=>by
  by_cases hv:v=0
  ·subst hv;have e0:d*0*0=0:=by omega
   rw[e0];have eL:cJ u 0 d m=u-1-m:=by unfold cJ;rw[if_neg (by decide),if_neg (by decide)]
   rcases QS.mp hf with z |z
   ·rw[(fA f z).2.2];refine zP (by omega) (by omega) λy=>?_
    have:=hE.el;rw[eL]at this;have q:(u-1-m)*l2=u*l2-(1+m)*l2:=by grind
    have:=QC (show 0<1+m by omega) l2p;omega
   rcases QS.mp z with z |z
   ·obtain⟨t,e1,_,e3,_⟩:=(fB f z).2;rw[e1];refine zP (by omega) (by decide) λy=>?_
    rw[Q1]at y;have y2:u.natAbs=t.natAbs*w.natAbs:=by rw[y,QR]
    have y3:t.natAbs*1<=t.natAbs*w.natAbs:=RP _ (by omega);omega
   ·obtain⟨k,_,_,_,e2⟩:=(fD f z).2;rw[e2];intro y;have:=nK (u:=u) (b:=w) (by omega);obtain⟨_,A0,A1,_,eS,_⟩:=this;rw[eS]at y;simp at y
  ·have he:0<d*v*v:=by
    rw[Rc];refine QC (by have:=hW.d2;omega) ?_;rcases RY hv with z |z
    ·exact Sq z z
    ·exact QC z z
   obtain⟨g,A0,A1,A2,hg,eS,e0,e1,e2,hA⟩:=qb (u:=u) (b:=w) (by omega) (show d*v*v≠0 by omega);rw[eS];rcases QS.mp hf with z |z
   ·rw[(fA f z).2.1];intro y;simp at y
   rcases QS.mp z with z |z
   ·obtain⟨t,_,e3,_⟩:=(fB f z).2;rw[e3];intro y;simp at y
   ·obtain⟨k,k1,_,_,e3⟩:=(fD f z).2;rw[e3];intro y;simp at y
    obtain⟨rfl,rfl,rfl⟩:=y
    have u0:u=0:=by
     have:w*u=0:=by have q : -2*w*u = -2*(w*u):=Rc _ _ _;omega
     rcases RX.mp this with y |y
     ·omega
     ·exact y
    subst u0;have:=QC hg (show 0<A0 by omega);omega
 have nR:((A++(B++D)).map ah).Nodup:=by
  rw[QY,QY];refine List.nodup_append.mpr ⟨nA,List.nodup_append.mpr ⟨nB,nD,?_⟩,?_⟩
  ·intro x hx y hy;obtain⟨f,hf,rfl⟩:=QQ.mp hx;obtain⟨g,hg,rfl⟩:=QQ.mp hy;exact dBD f hf g hg
  ·intro x hx y hy;obtain⟨f,hf,rfl⟩:=QQ.mp hx;rcases QS.mp hy with z |z
   ·obtain⟨g,hg,rfl⟩:=QQ.mp z;exact dAB f hf g hg
   ·obtain⟨g,hg,rfl⟩:=QQ.mp z;exact dAD f hf g hg
 have hF:Fam ([u,d*v*v,w]::(A++(B++D))):=by
  refine⟨λf hf=>?_,?_⟩
  ·rcases QK.mp hf with z |z
   ·rw[z];exact f0
   ·exact fR f z
  ·rw[Ri];refine R9.mpr ⟨λz=>?_,nR⟩;obtain⟨f,hf,e⟩:=QQ.mp z;exact d0 f hf e.symm
 have hno:∀x∈aL (A++(B++D)),¬(0<al x l1 l2/\al x h1 h2<=0):=λx hx=>by
  obtain⟨f,hf,hsf⟩:=R0.mp hx;rcases QS.mp hf with z |z
  ·rw[(fA f z).2.2,kN]at hsf;rw[QF.mp hsf];rintro⟨y,_⟩;have:=side_line.mp y;have e:l2*l1=l1*l2:=QT _ _;omega
  rcases QS.mp z with z |z
  ·obtain⟨t,e1,_,e3,_⟩:=(fB f z).2;rw[e1,kN]at hsf;rw[QF.mp hsf];rintro⟨y1,y2⟩;have z1:=side_line.mp y1;have z2:¬1*h1<t*h2:=λy=>by have:=side_line.mpr y;omega
   rcases RZ 0 t with w1 |w1
   ·have:=Sg (show 1<=h2 by omega) (QE w1);omega
   ·have:=Sg (show 1<=l2 by omega) (show 0 <= -t by omega);have e : -t*l2 = -(t*l2):=RH _ _;omega
  ·obtain⟨k,k1,_,e2,_⟩:=(fD f z).2;rw[e2]at hsf
   have:spF [0,-k,1]=[]:=by show(if 0 <= -k then _ else[])++(if 0 < -k then _ else[])=[];rw[if_neg (by omega),if_neg (by omega)];rfl
   rw[this]at hsf;cases hsf
 obtain⟨hO,hcn⟩:=yZ hW.ns hF l2p h2p en.lt lU hU ol oh hno;obtain⟨bS,lS⟩:=iT f0;have pS:=fM f0;have lS2:=pS.two
 obtain⟨bA,lA,neA⟩:=sK (L:=A) (k:=31) (n:=2) (by decide) (by decide) (by
  rcases hP.a with z |z
  ·exact .inl z
  ·refine .inr ⟨_,z,?_⟩;rw[oB l2p hE.gl]
   exact⟨kx (gQ (n:=100000000) (by omega) (by decide)) (gQ (n:=13) (by omega) (by decide)),QD _,by simp⟩)
 obtain⟨bB,lB,neB⟩:=sK (L:=B) (k:=28) (n:=2) (by decide) (by decide) (by
  rcases hP.b with z |⟨far,g1,g2,z |z⟩
  ·exact .inl z
  ·refine .inr ⟨_,z,?_⟩;rw[j2];exact⟨kx (gQ (n:=100000001) (by omega) (by decide)) (b1k (by decide)),QD _,by simp⟩
  ·refine .inr ⟨_,z,?_⟩;rw[j2]
   exact⟨kx (gQ (n:=100000001) (by omega) (by decide)) (b1k (by decide)),QD _,by simp⟩)
 obtain⟨bD,lD,neD⟩:=sK (L:=D) (k:=4) (n:=3) (by decide) (by decide) (by
  rcases hP.d with z |⟨k,g1,g2,z⟩
  ·exact .inl z
  ·refine .inr ⟨_,z,?_⟩;rw[sS g1];refine⟨λx hx=>?_,QD _,by simp⟩;rcases QK.mp hx with rfl |hx
   ·exact gQ (n:=8) (by omega) (by decide)
   rcases QK.mp hx with rfl |hx
   ·exact Bits.zero
   ·rw[QF.mp hx];exact b1k (by decide))
 have eR:prd ((A++(B++D)).map ah)=af (prd (A.map ah)) (af (prd (B.map ah)) (prd (D.map ah))):=by rw[QY,QY,lx,lx]
 have bBD:=i6 bB bD (QD _);have lBD:=bZ neB neD;have neBD:=j7 neB neD;have bR:=i6 bA bBD (QD _);have lR:=bZ neA neBD;have neR:=j7 neA neBD;rw[<- eR]at bR lR neR;have bR':AllB 67 (prd ((A++(B++D)).map ah)):=bR.mono (by omega);have lR':(prd ((A++(B++D)).map ah)).length<=5:=by omega
 have nR1:=QG.mpr neR;have eW:prQ ([u,d*v*v,w]::(A++(B++D)))=af (ah [u,d*v*v,w]) (prd ((A++(B++D)).map ah)):=by rw[hF.prd];rfl
 have eP:fP id (usP (ah [u,d*v*v,w]) mm (A++(B++D)))=af (pw (ah [u,d*v*v,w]) mm) (prd ((A++(B++D)).map ah)):=by show af (pw (ah [u,d*v*v,w]) mm) (fP id _)=_;rw[mZ id rfl]
 have eM:mor (usP (ah [u,d*v*v,w]) mm (A++(B++D))) 1=pw (ah [u,d*v*v,w]) (mm-1):=by show af (pw (ah [u,d*v*v,w]) (mm-1)) (fP (·-1) _)=_;rw[v4,c9]
 have eF:flt (usP (ah [u,d*v*v,w]) mm (A++(B++D)))=prQ ([u,d*v*v,w]::(A++(B++D))):=by rw[eW];show af (pw (ah [u,d*v*v,w]) 1) (fP sO _)=_;rw[mZ sO rfl,gu]
 have use:Use (usP (ah [u,d*v*v,w]) mm (A++(B++D))):=by
  refine⟨λp hp=>?_,λp hp=>?_,?_⟩
  ·rcases QK.mp hp with z |z
   ·rw[z];exact pS
   ·obtain⟨f,hf,rfl⟩:=QQ.mp z;exact fM (fR f hf)
  ·rcases QK.mp hp with z |z
   ·rw[z];show 1<=mm;rcases hP.m with y |y<;>omega
   ·obtain⟨f,hf,rfl⟩:=QQ.mp z;exact QD _
  ·have:=hF.nd
   have e:(usP (ah [u,d*v*v,w]) mm (A++(B++D))).map (·.1)=([u,d*v*v,w]::(A++(B++D))).map ah:=by show ah [u,d*v*v,w]::((A++(B++D)).map λf=>(ah f,1)).map (·.1)=ah [u,d*v*v,w]::(A++(B++D)).map ah;rw[Rw];rfl
   rw[e];exact this
 have pwb:∀n,n<=2->AllB 127 (pw (ah [u,d*v*v,w]) n)/\(pw (ah [u,d*v*v,w]) n).length=1+n*((ah [u,d*v*v,w]).length-1)/\pw (ah [u,d*v*v,w]) n≠[]:=λn hn=>by
  refine⟨?_,(nZ pS.pln.ne n).1,(nZ pS.pln.ne n).2⟩
  match n,hn with
  |0,_=>exactλx hx=>by rw[QF.mp hx];exact b1k (by decide)
  |1,_=>rw[gu];exact bS.mono
  |2,_ =>show AllB 127 (af (ah [u,d*v*v,w]) (af (ah [u,d*v*v,w]) [1]));rw[c9];exact i6 bS bS (by omega)
 have hmm:1<=mm/\mm<=2:=by rcases hP.m with y |y<;>omega
 obtain⟨q1,q2,q3⟩:=pwb mm hmm.2;have q4:mm*((ah [u,d*v*v,w]).length-1)<=2*2:=RD hmm.2 (by omega);have q5:1*1<=mm*((ah [u,d*v*v,w]).length-1):=RD hmm.1 (by omega);have lP:=bZ q3 neR;rw[<- eP]at lP;have kl:(whl c (usP (ah [u,d*v*v,w]) mm (A++(B++D)))).length=(fP id (usP (ah [u,d*v*v,w]) mm (A++(B++D)))).length:=by rw[fW,cv]
 have dg:=(oV id (usP (ah [u,d*v*v,w]) mm (A++(B++D))) λp hp=>(use.pri p hp).pln.ne).1;have lW:=bZ pS.pln.ne neR;rw[<- eW]at lW;refine⟨⟨rfl,hP.c0,hP.bc,use,by omega,by omega,?_,?_⟩,eF,⟨⟨hF,by omega,by omega,?_⟩,hO,hcn,en.mono⟩⟩
 ·rw[eP];exact i6 q1 bR' (by omega)
 ·rw[eM];exact(pwb (mm-1) (by omega)).1.mono
 ·rw[eW];exact i6 bS bR' (by omega)
def xi(C:Addr):Sp:=λvs H Q _=>∃(p t l h:Addr) (u v w d l1 l2 cell:Int),vs=[.ref p,.ref t,.int cell]/\WT H p u v w d/\WOk u v w d/\H t=some (.tup [.ref l,.ref h])/\RA C H l l1 l2/\0<l2/\Bits 40 l1/\Bits 40 l2/\Nat.gcd l1.natAbs l2.natAbs=1/\∀(mm:Nat) (A B D:List (List Int)) (c:Int),Pad u v w d l1 l2 mm A B D c->mkL H Q (whl c (usP (ah [u,d*v*v,w]) mm (A++(B++D))))
theorem Dl{k:Int}(h0:0<=k)(h:k<2^20):Bits 9000 k:=Bits.mono (j:=20) (by show k.natAbs<2^20;omega) (by decide)
structure Got(X:List Int):Prop where
 ne:X≠[]
 len:X.length<=20
 bits:AllB 600 X
theorem Got.mul{X Y:List Int}{k n:Nat}(h:Got X)(ne:Y≠[])(l:Y.length<=3)(b:AllB 64 Y)(hk:AllB k X)(hn:X.length<=n)(h1:k+n+64<=600)(h2:n+3<=20):Got (af X Y)/\AllB (k+n+64) (af X Y)/\(af X Y).length<=n+2:=by have hl:=bZ h.ne ne;have hb:=i6 (k:=k+n+64) hk b (by omega);have:=QG.mpr ne;exact⟨⟨j7 h.ne ne,by omega,hb.mono h1⟩,hb,by omega⟩
theorem GV(F:Fun K "_law_padded" "_law_padded" rO f fd)(T:Txt K mg)(R:RCI K mg C)(vM:Cal P w K mg base 3 "_law_least" ["_law_worth_here"] pO KT KD)(Oo:Cal P w K mg base 1 "_law_times" ["_law_one","_law_other"] wR Qn Pj):FnOk P w K mg base CX0 4 f fd ["_law_worth_here","_law_span_here","_law_cell"] (xi C):=by
 obtain⟨vz,tF,tX,vc⟩:=vM;obtain⟨mV,me,mn,mQ⟩:=Oo;refine F.ok sc__law_padded (λvs H Q E h=>?_) (λcdv A outer s H vs Q E hr h=>?_)
 ·obtain⟨p,t,l,h,u,v,w,d,l1,l2,cell,rfl,_⟩:=h;rfl
 ·obtain⟨p,t,l,h,u,v,w,d,l1,l2,cell,rfl,hp,hW,ht,hl,l2p,bl1,bl2,gl,k⟩:=h;have big:=sizeLine_eq
  refine⟨_,(ag (gv (pv 0) (ik rfl (cH (aU (i:=3) sc__law_padded.nd rfl (Or.inl rfl)) (cH (aU (i:=4) sc__law_padded.nd rfl (Or.inl rfl)) (cH (aU (i:=5) sc__law_padded.nd rfl (Or.inl rfl)) (cH (aU (i:=6) sc__law_padded.nd rfl (Or.inl rfl)) ij))))))
   (ag (ao (i:=7) sc__law_padded.nd rfl (Or.inl rfl) (aq vz (hr.mono) rfl tF tX vc .nil aj (aa (pv 0) ac)))
   (ag (aO (aG cR (ai cX (pv 2) ad) ad (aE _))
     (ak (ao (i:=7) sc__law_padded.nd rfl (Or.inl rfl) (aq mV (hr.mono) rfl me mn mQ .nil aj (aa (pv 7) (aa (pv 7) ac)))))
     aP)
   (ag (aO (aG cR (ai cX (ai de (pv 2) ad) ad) ad (aE _))
     (ak (ao (i:=7) sc__law_padded.nd rfl (Or.inl rfl) (aq mV (hr.mono) rfl me mn mQ .nil aj (aa (pv 7) (aa (bK (aa (bH bF (aR (K:=K) rfl (aI (aW (K:=K) rfl) (pv 1) ad (λ_ _=>rfl)) rfl)) (aa (aR (K:=K) rfl (aI (aW (K:=K) rfl) (pv 1) ad (λ_ _=>rfl)) rfl) ac))) ac)))))
     aP)
   (ag (ao (i:=8) sc__law_padded.nd rfl (Or.inl rfl) (ai bQ (ai bQ (ai bQ (bX gf (by rfl) T.abs_ PyProof.Rows.boot_abs (aa (pv 3) ac)) (ai aJ (bX gf (by rfl) T.abs_ PyProof.Rows.boot_abs (aa (pv 4) ac)) (pv 6))) ad) (ai cX (ai de (pv 2) ad) ad)))
   (ag (aO (aG cR (ai cX (ai de (pv 2) ad) ad) ad (aE _))
     (ak (ao (i:=7) sc__law_padded.nd rfl (Or.inl rfl) (aq mV (hr.mono) rfl me mn mQ .nil aj (aa (pv 7) (aa (bK (aa (pv 8) (aa ad ac))) ac)))))
     aP)
   (ag (aO (aG cR (ai cX (ai de (pv 2) ad) ad) ad (aE _))
     (ak (ao (i:=7) sc__law_padded.nd rfl (Or.inl rfl) (aq mV (hr.mono) rfl me mn mQ .nil aj (aa (pv 7) (aa (bK (aa (bH bF (pv 8)) (aa ad ac))) ac)))))
     aP)
   (ag (aO (aG cR (ai cX (ai de (pv 2) ad) ad) ad (aE _))
     (ak (ao (i:=7) sc__law_padded.nd rfl (Or.inl rfl) (aq mV (hr.mono) rfl me mn mQ .nil aj (aa (pv 7) (aa (bK (aa (ai bQ ad (ai cX (ai de (pv 2) ad) ad)) (aa ad (aa ad ac)))) ac)))))
     aP)
   (ak (av (fE (own:=["_law_one"]) (fr:=["_law_cell"]) (js:=[2]) (by walk_at "comp_ok") rfl (fz (K:=K) rfl (pv 7)) (λ_ _ _ _=>(aU (i:=0) (show List.Nodup (["_law_one","_law_cell"]:List Str)from by decide +kernel) rfl (Or.inl rfl))) (λ_ _ _ _=>(ai aJ (pv 0) (aI (cC (K:=K) rfl) (bK (aa ad (aa (bH bF ad) (aa ad (aa (bH bF ad) ac))))) (ai cX (ai de (pv 1) ad) ad) (λ_ _=>rfl))))))))))))))),?_⟩
  refine⟨_,rfl,p,_,rfl,SqT.of hp,rfl,_,_,rfl,_,_,rfl,_,_,rfl,_,_,rfl,rfl,?_⟩;dsimp only
  refine dD (λσ' H'=>σ'=[some (.ref p),some (.ref t),some (.int cell),some (.int u),some (.int v),some (.int w),some (.int d),none,none]/\H=H') ⟨rfl,rfl⟩ ?_;rintro σ' H' ⟨rfl,rfl⟩;refine aw ⟨_,rfl,p,u,v,w,d,rfl,hp,hW,λq0 H1 s1 hq0 e1=>?_⟩;rw[oC (by have:=hW.d2;omega)]at e1;obtain⟨bS,lS⟩:=iT (kh hW);have pS:=(fM (kh hW)).pln;have g0:Got (ah [u,d*v*v,w]):=⟨pS.ne,by omega,bS.mono⟩;generalize hs:ah [u,d*v*v,w]=S at e1 bS lS g0 pS k
  show cM _ _ _ _ _;refine dF (λσ' H'=>∃(q:Addr) (mm:Nat),σ'=[some (.ref p),some (.ref t),some (.int cell),some (.int u),some (.int v),some (.int w),some (.int d),some (.ref q),none]/\Same H H'/\H q=none/\H' q=some (.lst ((pw S mm).map V.int))/\(mm=1\/mm=2)/\Got (pw S mm)/\AllB 130 (pw S mm)/\(pw S mm).length<=5) ?_ ?_
  case refine_2 =>
   intro rest;refine⟨_,rfl,_,_,rfl,rfl,(by show(0:Int)<3;decide),_,_,rfl,rfl,_,rfl,aH (λ_=>?_) (λ_=>?_)⟩
   ·refine cG ⟨_,rfl,_,rfl,q0,q0,S,S,rfl,e1,e1,pS.ne,pS.ne,by omega,by omega,bS.mono,bS.mono,λq' H2 s2 hq' e2=>?_⟩;have e:af S S=pw S 2:=by show _=af S (af S [1]);rw[c9]
    obtain⟨m1,m2,m3⟩:=g0.mul pS.ne lS (bS.mono) bS lS (by decide) (by decide);rw[e]at e2 m1 m2 m3;exact rest _ _ ⟨q',2,rfl,s1.trans s2,s1.free hq',e2,.inr rfl,m1,m2.mono,by omega⟩
   ·refine rest _ _ ⟨q0,1,rfl,s1,hq0,by rw[gu];exact e1,.inl rfl,by rw[gu];exact g0,by rw[gu];exact bS.mono,by rw[gu];omega⟩
  clear e1 hq0 s1 q0;rintro σ' H2 ⟨q,mm,rfl,s2,hq,e2,hmm,g2,b2,n2⟩;refine dF (λσ' H'=>∃(q:Addr) (A:List (List Int)),σ'=[some (.ref p),some (.ref t),some (.int cell),some (.int u),some (.int v),some (.int w),some (.int d),some (.ref q),none]/\Same H H'/\H q=none/\H' q=some (.lst ((af (pw S mm) (prd (A.map ah))).map V.int))/\(A=[]\/A=[[l1,0,l2]])/\Got (af (pw S mm) (prd (A.map ah)))/\AllB 200 (af (pw S mm) (prd (A.map ah)))/\(af (pw S mm) (prd (A.map ah))).length<=7) ?_ ?_
  case refine_2 =>
   intro rest;refine⟨_,rfl,_,_,rfl,rfl,⟨by show(0:Int)<3;decide,fu (by decide) (by decide)⟩,_,_,rfl,rfl,(by show(0:Int)<3;decide),_,_,rfl,rfl,_,rfl,aH (λ_=>?_) (λ_=>?_)⟩
   ·have ht2:=s2 _ _ ht;obtain⟨dl,hl2⟩:=hl.same s2;refine cG ⟨_,rfl,_,rfl,t,_,_,_,rfl,rfl,SqT.of ht2,rfl,l,C,dl,_,_,rfl,hl2,R.cl,R.nT,df _ _,_,rfl,_,rfl,t,_,_,_,rfl,rfl,SqT.of ht2,rfl,l,C,dl,_,_,rfl,hl2,R.cl,R.nB,cs _ _,by show 2<=sizeLine;omega,λql hql=>?_⟩;have s3:Same H2 (upd H2 ql (.lst [V.int (-l1),V.int l2])):=Same.upd_new hql;have bY:AllB 64 [-l1,l2]:=kx (bl1.neg.mono) (bl2.mono);refine⟨q,ql,pw S mm,[-l1,l2],rfl,s3 _ _ e2,au,g2.ne,by simp,by omega,by show 2<=1000;decide,g2.bits.mono,bY.mono,λq' H4 s4 hq' e4=>?_⟩
    have e:[-l1,l2]=prd (([[l1,0,l2]]:List (List Int)).map ah):=by show _=af (ah [l1,0,l2]) [1];rw[c9,oB l2p gl]
    obtain⟨m1,m2,m3⟩:=g2.mul (Y:=[-l1,l2]) (by simp) (by show 2<=3;decide) bY b2 n2 (by decide) (by decide);rw[e]at e4 m1 m2 m3;exact rest _ _ ⟨q',[[l1,0,l2]],rfl,(s2.trans s3).trans s4,(s2.trans s3).free hq',e4,.inr rfl,m1,m2.mono,m3⟩
   ·have e:af (pw S mm) (prd (([]:List (List Int)).map ah))=pw S mm:=c9 _;exact rest _ _ ⟨q,[],rfl,s2,hq,by rw[e];exact e2,.inl rfl,by rw[e];exact g2,by rw[e];exact b2.mono,by rw[e];omega⟩
  clear e2 hq s2 q g2 b2 n2;rintro σ' H2 ⟨q,A1,rfl,s2,hq,e2,hA1,g2,b2,n2⟩;generalize hX:af (pw S mm) (prd (A1.map ah))=X at e2 g2 b2 n2
  have h1':=kz hW.bu;have h2':=kz hW.bv;have bau:Bits 1000 ((u.natAbs:Nat):Int):=gQ (n:=2^21) (by rw[Q2];exact h1') (SR (by decide) (by decide));have bav:Bits 1000 ((v.natAbs:Nat):Int):=gQ (n:=2^21) (by rw[Q2];exact h2') (SR (by decide) (by decide));refine aw ⟨_,rfl,_,rfl,_,rfl,_,rfl,_,rfl,_,_,rfl,rfl,⟨by rw[mR];exact bav.mono,hW.bd.mono⟩,_,_,rfl,rfl,_,_,rfl,rfl,_,rfl,_,_,rfl,rfl,⟨by show(0:Int)<9;decide,fu (by decide) (by decide)⟩,_,_,rfl,rfl,(by show(0:Int)<50;decide),_,_,rfl,rfl,?_⟩;show cM _ _ _ _ _;refine dD (λσ' H'=>∃far:Int,σ'=[some (.ref p),some (.ref t),some (.int cell),some (.int u),some (.int v),some (.int w),some (.int d),some (.ref q),some (.int far)]/\H2=H'/\(u.natAbs:Int)+(v.natAbs:Int)*d+100<=far/\far<=100000000) ⟨_,rfl,rfl,?_⟩ ?_
  ·rw[mR,mR];obtain⟨m0,m1⟩:=i7 (x:=cell/9) (m:=50) (by decide);have e21:(2:Nat)^21=2097152:=rfl;have hvd:(v.natAbs:Int)*d<=2097152*13:=SF (by omega) hW.d13 (by have:=hW.d2;omega) (by decide);omega
  rintro σ' H3 ⟨far,rfl,rfl,f1,f2⟩;have nvd:0<=(v.natAbs:Int)*d:=Q8 (by omega) (by have:=hW.d2;omega);have bfar:Bits 64 far:=gQ (n:=100000001) (by omega) (by decide);have b1':Bits 64 (1:Int):=b1k (by decide);refine dF (λσ' H'=>∃(q:Addr) (B:List (List Int)),σ'=[some (.ref p),some (.ref t),some (.int cell),some (.int u),some (.int v),some (.int w),some (.int d),some (.ref q),some (.int far)]/\Same H H'/\H q=none/\H' q=some (.lst ((af X (prd (B.map ah))).map V.int))/\(B=[]\/(B=[[-far,0,1]]/\cell/450%3=1))/\Got (af X (prd (B.map ah)))/\AllB 280 (af X (prd (B.map ah)))/\(af X (prd (B.map ah))).length<=9) ?_ ?_
  case refine_2 =>
   intro rest;refine⟨_,rfl,_,_,rfl,rfl,⟨by show(0:Int)<450;decide,fu (by decide) (by decide)⟩,_,_,rfl,rfl,(by show(0:Int)<3;decide),_,_,rfl,rfl,_,rfl,aH (λh0=>?_) (λ_=>?_)⟩
   ·refine cG ⟨_,rfl,_,rfl,by show 2<=sizeLine;omega,λql hql=>?_⟩;have s3:Same H2 (upd H2 ql (.lst [V.int far,V.int 1])):=Same.upd_new hql;have bY:AllB 64 [far,1]:=kx bfar b1';refine⟨q,ql,X,[far,1],rfl,s3 _ _ e2,au,g2.ne,by simp,by omega,by show 2<=1000;decide,g2.bits.mono,bY.mono,λq' H4 s4 hq' e4=>?_⟩
    have e:[far,1]=prd (([[-far,0,1]]:List (List Int)).map ah):=by show _=af (ah [-far,0,1]) [1];rw[c9,j2,Int.neg_neg]
    obtain⟨m1,m2,m3⟩:=g2.mul (Y:=[far,1]) (by simp) (by show 2<=3;decide) bY b2 n2 (by decide) (by decide);rw[e]at e4 m1 m2 m3;exact rest _ _ ⟨q',[[-far,0,1]],rfl,(s2.trans s3).trans s4,(s2.trans s3).free hq',e4,.inr ⟨rfl,h0⟩,m1,m2.mono,m3⟩
   ·have e:af X (prd (([]:List (List Int)).map ah))=X:=c9 _;exact rest _ _ ⟨q,[],rfl,s2,hq,by rw[e];exact e2,.inl rfl,by rw[e];exact g2,by rw[e];exact b2.mono,by rw[e];omega⟩
  clear e2 hq s2 q;rintro σ' H2 ⟨q,B1,rfl,s2,hq,e2,hB1,g3,b3,n3⟩;refine dF (λσ' H'=>∃(q:Addr) (B:List (List Int)),σ'=[some (.ref p),some (.ref t),some (.int cell),some (.int u),some (.int v),some (.int w),some (.int d),some (.ref q),some (.int far)]/\Same H H'/\H q=none/\H' q=some (.lst ((af X (prd (B.map ah))).map V.int))/\(B=[]\/(B=[[-far,0,1]]\/B=[[far,0,1]]))/\Got (af X (prd (B.map ah)))/\AllB 280 (af X (prd (B.map ah)))/\(af X (prd (B.map ah))).length<=9) ?_ ?_
  case refine_2 =>
   intro rest;refine⟨_,rfl,_,_,rfl,rfl,⟨by show(0:Int)<450;decide,fu (by decide) (by decide)⟩,_,_,rfl,rfl,(by show(0:Int)<3;decide),_,_,rfl,rfl,_,rfl,aH (λh0=>?_) (λ_=>?_)⟩
   ·have h0':cell/450%3=2:=h0
    have eB:B1=[]:=by
     rcases hB1 with z |⟨_,z⟩
     ·exact z
     ·omega
    subst eB;have eX:af X (prd (([]:List (List Int)).map ah))=X:=c9 _;rw[eX]at e2;refine cG ⟨_,rfl,_,rfl,_,rfl,by show 2<=sizeLine;omega,λql hql=>?_⟩;have s3:Same H2 (upd H2 ql (.lst [V.int (-far),V.int 1])):=Same.upd_new hql;have bY:AllB 64 [-far,1]:=kx bfar.neg b1';refine⟨q,ql,X,[-far,1],rfl,s3 _ _ e2,au,g2.ne,by simp,by omega,by show 2<=1000;decide,g2.bits.mono,bY.mono,λq' H4 s4 hq' e4=>?_⟩
    have e:[-far,1]=prd (([[far,0,1]]:List (List Int)).map ah):=by show _=af (ah [far,0,1]) [1];rw[c9,j2]
    obtain⟨m1,m2,m3⟩:=g2.mul (Y:=[-far,1]) (by simp) (by show 2<=3;decide) bY b2 n2 (by decide) (by decide);rw[e]at e4 m1 m2 m3;exact rest _ _ ⟨q',[[far,0,1]],rfl,(s2.trans s3).trans s4,(s2.trans s3).free hq',e4,.inr (.inr rfl),m1,m2.mono,m3⟩
   ·exact rest _ _ ⟨q,B1,rfl,s2,hq,e2,by rcases hB1 with z |⟨z,_⟩;exact .inl z;exact .inr (.inl z),g3,b3,n3⟩
  clear e2 hq s2 q g3 b3 n3 hB1 g2 b2 n2;rintro σ' H2 ⟨q,B1',rfl,s2,hq,e2,hB,g2,b2,n2⟩;generalize hY:af X (prd (B1'.map ah))=Y at e2 g2 b2 n2
  refine dF (λσ' H'=>∃(q:Addr) (D:List (List Int)),σ'=[some (.ref p),some (.ref t),some (.int cell),some (.int u),some (.int v),some (.int w),some (.int d),some (.ref q),some (.int far)]/\Same H H'/\H q=none/\H' q=some (.lst ((af Y (prd (D.map ah))).map V.int))/\(D=[]\/∃k:Int,1<=k/\k<=7/\D=[[0,-k,1]])/\Got (af Y (prd (D.map ah)))) ?_ ?_
  case refine_2 =>
   intro rest;refine⟨_,rfl,_,_,rfl,rfl,⟨by show(0:Int)<1350;decide,fu (by decide) (by decide)⟩,_,_,rfl,rfl,(by show(0:Int)<2;decide),_,_,rfl,rfl,_,rfl,aH (λh0=>?_) (λ_=>?_)⟩
   ·obtain⟨m0,m1⟩:=i7 (x:=cell/2700) (m:=7) (by decide);refine cG ⟨_,rfl,_,rfl,_,_,rfl,rfl,⟨by show(0:Int)<2700;decide,fu (by decide) (by decide)⟩,_,_,rfl,rfl,(by show(0:Int)<7;decide),_,_,rfl,rfl,by show 3<=sizeLine;omega,λql hql=>?_⟩;have s3:Same H2 (upd H2 ql (.lst [V.int (1+cell/2700%7),V.int 0,V.int 1])):=Same.upd_new hql
    have bY:AllB 64 [1+cell/2700%7,0,1]:=λx hx=>by
     rcases QK.mp hx with rfl |hx
     ·exact gQ (n:=9) (by omega) (by decide)
     rcases QK.mp hx with rfl |hx
     ·exact Bits.zero
     ·rw[QF.mp hx];exact b1'
    refine⟨q,ql,Y,[1+cell/2700%7,0,1],rfl,s3 _ _ e2,au,g2.ne,by simp,by omega,by show 3<=1000;decide,g2.bits.mono,bY.mono,λq' H4 s4 hq' e4=>?_⟩
    have e:[1+cell/2700%7,0,1]=prd (([[0,-(1+cell/2700%7),1]]:List (List Int)).map ah):=by show _=af (ah [0,-(1+cell/2700%7),1]) [1];rw[c9,sS (by omega)]
    obtain⟨m1',_,_⟩:=g2.mul (Y:=[1+cell/2700%7,0,1]) (by simp) (by show 3<=3;decide) bY b2 n2 (by decide) (by decide);rw[e]at e4 m1';exact rest _ _ ⟨q',_,rfl,(s2.trans s3).trans s4,(s2.trans s3).free hq',e4,.inr ⟨_,by omega,by omega,rfl⟩,m1'⟩
   ·have e:af Y (prd (([]:List (List Int)).map ah))=Y:=c9 _;exact rest _ _ ⟨q,[],rfl,s2,hq,by rw[e];exact e2,.inl rfl,by rw[e];exact g2⟩
  clear e2 hq s2 q g2 b2 n2;rintro σ' H2 ⟨q,D1,rfl,s2,hq,e2,hD,g2⟩;generalize hZ:af Y (prd (D1.map ah))=Z at e2 g2
  have g2l:=g2.len;obtain⟨x,hx,ex⟩:=BY (xs:=[V.int 1,V.int (-1),V.int 6,V.int (-35)]) (n:=4) rfl (by decide) (cell/18900)
  obtain⟨c,rfl,hc0,hcb⟩:∃c:Int,x=.int c/\c≠0/\Bits 10 c:=by
   simp only[QK,SZ,or_false]at hx;rcases hx with rfl |rfl |rfl |rfl
   ·exact⟨_,rfl,by decide,by show(1:Int).natAbs<2^10;decide⟩
   ·exact⟨_,rfl,by decide,by show(-1:Int).natAbs<2^10;decide⟩
   ·exact⟨_,rfl,by decide,by show(6:Int).natAbs<2^10;decide⟩
   ·exact⟨_,rfl,by decide,by show(-35:Int).natAbs<2^10;decide⟩
  refine aQ ⟨_,rfl,q,rfl,⟨_,SqL.of e2⟩,jq (K:=K) (a:=q) (xs:=Z.map V.int) (λi ys σ' H'=>∃(z0:Option V),σ'=[z0,some (.int cell)]/\ys=(scL c (Z.take i)).map V.int/\Same H2 H') (by rw[QB];omega) ⟨none,rfl,rfl,Same.refl _⟩ ?_ ?_ ?_⟩
  ·rintro i ys σ' H' _ ⟨z0,rfl,rfl,sm⟩;exact⟨SqL.of (sm _ _ e2),by rw[QB,cv,Rn];exact SK _ _⟩
  ·rintro i x ys σ' H' hi ⟨z0,rfl,rfl,sm⟩;obtain⟨y,_,rfl,hm,et⟩:=gK hi;refine⟨_,rfl,_,rfl,_,rfl,by show 4<=sizeLine;omega,λql hql=>?_⟩;refine⟨_,rfl,_,_,rfl,rfl,⟨by show(0:Int)<18900;decide,Dl (by decide) (by decide)⟩,_,_,rfl,rfl,(by show(0:Int)<4;decide),ql,_,_,_,rfl,rfl,SqL.of au,ex,_,_,rfl,rfl,⟨(g2.bits y hm).mono,hcb.mono⟩,_,rfl,?_,sm.then_new hql⟩;rw[et];simp[scL,QT]
  ·rintro ys σ' H' pz ⟨z0,rfl,rfl,sm⟩ hpz;refine k mm A1 B1' D1 c ⟨hmm,hA1,?_,hD,hc0,hcb⟩ pz _ (s2.trans (sm.then_new hpz)) ((s2.trans sm).free hpz) ?_
   ·rcases hB with z |z
    ·exact .inl z
    ·exact .inr ⟨far,f1,f2,z⟩
   ·rw[au,QB,RF]
    have e:whl c (usP S mm (A1++(B1'++D1)))=scL c Z:=by
     rw[fW]
     have:fP id (usP S mm (A1++(B1'++D1)))=Z:=by show af (pw S mm) (fP id _)=_;rw[mZ id rfl,QY,QY,lx,lx,<- hZ,<- hY,<- hX,iu,iu]
     rw[this]
    rw[e]
theorem zz(i:Nat):((i:Int)%2=0)↔i%2=0:=by omega
theorem FH(F:Fun K "turned" "turned" qm f fd)(T:Txt K mg):FnOk P w K mg base CX0 1 f fd ["row"] (sp1 turnL):=by
 refine F.ok DN (λvs H Q E h=>?_) (λcdv A outer s H vs Q E hr h=>?_)
 ·obtain⟨a,ns,rfl,_⟩:=h;rfl
 ·obtain⟨a,ns,rfl,hA,hn,hb,k⟩:=h;have big:=sizeLine_eq;refine⟨_,(ak (av (fE (own:=["k","value"]) (fr:=[]) (js:=[]) (by walk_at "comp_ok") rfl (og rfl T.enumerate_ (aa (pv 0) ac)) (λ_ _ _ _=>(Fh (K:=K) (n:=2) rfl rfl (cH (aU (i:=0) (show List.Nodup (["k","value"]:List Str)from by decide +kernel) rfl (Or.inl rfl) (Or.inr rfl)) (cH (aU (i:=1) (show List.Nodup (["k","value"]:List Str)from by decide +kernel) rfl (Or.inl rfl) (Or.inr rfl)) ij rfl) rfl) rfl rfl)) (λ_ _ _ _=>(iZ (aG cR (ai cX (pv 0) ad) ad (aE _)) (pv 1) (bH bF (pv 1))))))),?_⟩;have hl:(ns.map V.int).length=ns.length:=QB _;refine aQ ⟨_,rfl,a,rfl,⟨_,SqL.of hA⟩,Lr (K:=K) (a:=a) (xs:=ns.map V.int) (λi ys σ' H'=>∃z y:Option V,σ'=[z,y]/\ys=((List.range i).map λ(j:Nat)=>V.int (if j%2=0 then cf ns j else -cf ns j))/\Same H H') (by rw[hl];omega) ⟨none,none,rfl,rfl,Same.refl _⟩ ?_ ?_ ?_⟩
  ·rintro i ys σ' H' _ ⟨z,y,rfl,rfl,sm⟩;exact⟨SqL.of (sm _ _ hA),by simp⟩
  ·rintro i x ys σ' H' q hi ⟨z,y,rfl,rfl,sm⟩ hq;obtain⟨c,ec,rfl,_,_⟩:=gK hi;have hc:cf ns i=c:=uR ec;refine⟨q,_,rfl,SqT.of au,rfl,_,_,rfl,_,_,rfl,rfl,?_⟩;refine⟨_,rfl,_,_,rfl,rfl,(by show(0:Int)<2;decide),_,_,rfl,rfl,_,rfl,?_⟩;refine aH (λh=>?_) (λh=>?_)
   ·refine⟨_,rfl,_,_,rfl,?_,sm.then_new hq⟩;rw[<- sr,if_pos ((zz i).mp h),hc]
   ·refine⟨_,rfl,_,rfl,_,_,rfl,?_,sm.then_new hq⟩;rw[<- sr,if_neg (λz=>h ((zz i).mpr z)),hc]
  ·rintro ys σ' H' p ⟨z,y,rfl,rfl,sm⟩ hp;refine k p _ (sm.then_new hp) (sm.free hp) ?_;rw[au,hl];unfold RM.turnL;rw[Rw];rfl
theorem Cf{u v w d l1 l2 h1 h2:Int}{kb:Nat}(hW:WOk u v w d)(en:EndsG kb l1 l2 h1 h2)(ol:0<v->u*l2<=l1*w)(oh:v<0->h1*w<=u*h2)(lU:UpW u v w d l1 l2)(hU:¬UpW u v w d h1 h2):∃ε:Int,Spt [u,d*v*v,w,ck v]/\RootU (cO u v w d) l1 l2 h1 h2 ε (λt n=>0<al [u,d*v*v,w,ck v] t n)/\∀x1 x2,0<x2->l1*x2<x1*l2->x1*h2<=h1*x2->sg (hv x1 x2 (cO u v w d)) = -ε*al [u,d*v*v,w,ck v] x1 x2:=by
 have hF:Fam [[u,d*v*v,w]]:=⟨λf hf=>by rw[QF.mp hf];exact kh hW,by simp⟩;obtain⟨hO,hc⟩:=yZ hW.ns hF en.l2p en.h2p en.lt lU hU ol oh (λx hx=>nomatch hx);obtain⟨pre,s,post,e,hin,hno⟩:=mH hc;have es:=hO.only s (by rw[e];simp) hin.1 hin.2;have hsp:Spt s:=dq hF.q (by rw[e];simp);obtain⟨ε,e1,hs⟩:=Eo (c:=1) hF.q (by decide) e en.l2p en.h2p en.lt hno;rw[show af [1] (aT [1] ([[u,d*v*v,w]].map ah))=cO u v w d from hF.one.trans ((n6 hF).trans (oC (by have:=hW.d2;omega)).symm)]at hs;rw[<- es];refine⟨ε,hsp,⟨e1,λx1 x2 p a b up=>?_,λx1 x2 p a b up=>?_,λx1 x2 y1 y2 p q a b up lt=>?_,λx1 x2 y1 y2 p q eq up=>?_,hin.1,λz=>?_⟩,hs⟩
 ·have up':0<al s x1 x2:=up;have:al s x1 x2=1:=by rcases dW s x1 x2 with z |z |z<;>omega
  rw[hs x1 x2 p a b,this];omega
 ·have up':¬0<al s x1 x2:=up;rw[hs x1 x2 p a b];rcases dW s x1 x2 with z |z |z
  ·omega
  ·right;rw[z];omega
  ·left;rw[z];omega
 ·have up':¬0<al s x1 x2:=up
  have ha:l1*y2<y1*l2:=by
   refine gO p ?_;have q1:=Rj a q;have q2:=Rj lt en.l2p;have e1:l1*y2*x2=l1*x2*y2:=by grind
   have e2:x1*l2*y2=x1*y2*l2:=by grind
   have e3:y1*l2*x2=y1*x2*l2:=by grind
   omega
  rw[hs y1 y2 q ha b,dU hsp p q lt (Rp.mp up')];omega
 ·show 0<al s y1 y2;rw[<- hI s p q eq];exact up
 ·have z':0<al s h1 h2:=z;have:=hin.2;omega
structure WN(C CN:Addr)(H:Hp)(x:Addr)(u v w d l1 l2 h1 h2:Int):Prop where
 nu:∃q l h,NA CN H x q l h/\H q=some (.lst ((cO u v w d).map V.int))/\RA C H l l1 l2/\RA C H h h1 h2
 en:EndsG 40 l1 l2 h1 h2
 ol:0<v->u*l2<=l1*w
 oh:v<0->h1*w<=u*h2
 lU:UpW u v w d l1 l2
 hU:¬UpW u v w d h1 h2
 ok:WOk u v w d
theorem WN.same{C CN:Addr}{H H':Hp}{x:Addr}{u v w d l1 l2 h1 h2:Int}(n:WN C CN H x u v w d l1 l2 h1 h2)(s:Same H H'):WN C CN H' x u v w d l1 l2 h1 h2:=by obtain⟨q,l,h,a,e,c,d⟩:=n.nu;exact⟨⟨q,l,h,a.same s,s _ _ e,c.same s,d.same s⟩,n.en,n.ol,n.oh,n.lU,n.hU,n.ok⟩
theorem WN.sg{C CN:Addr}{H:Hp}{x:Addr}{u v w d l1 l2 h1 h2:Int}(n:WN C CN H x u v w d l1 l2 h1 h2):∃ε,NSg 40 C CN H x (cO u v w d) l1 l2 h1 h2 ε [u,d*v*v,w,ck v]:=by obtain⟨ε,hsp,hru,hsg⟩:=Cf n.ok n.en n.ol n.oh n.lU n.hU;obtain⟨q,l,h,a,e,c,d⟩:=n.nu;exact⟨ε,⟨q,l,h,a,e,c,d,n.en,hru⟩,hsp,hsg⟩
theorem NSg.mono{j k:Nat}{C CN:Addr}{H:Hp}{x:Addr}{ns:List Int}{l1 l2 h1 h2 ε:Int}{s:List Int}(n:NSg j C CN H x ns l1 l2 h1 h2 ε s)(h:j<=k:=by decide):NSg k C CN H x ns l1 l2 h1 h2 ε s:=⟨n.nu.mono h,n.spt,n.sgn⟩
theorem tJ{u v w d:Int}(hW:WOk u v w d):Tr (cO u v w d)/\cO u v w d≠[]/\(cO u v w d).length<=12/\AllB 1000 (cO u v w d):=by obtain⟨bS,lS⟩:=iT (kh hW);have pS:=(fM (kh hW)).pln;rw[oC (by have:=hW.d2;omega)];exact⟨pS.tr,pS.ne,by omega,bS.mono⟩
theorem WOk.neg{u v w d:Int}(h:WOk u v w d):WOk (-u) (-v) w d:=⟨h.bu.neg,h.bv.neg,h.w1,h.w12,h.d2,h.d13,h.ns⟩
def w5(C CN:Addr):Sp:=λvs H Q _=>∃(x:Addr) (u v w d l1 l2 h1 h2:Int),vs=[.ref x]/\WN C CN H x u v w d l1 l2 h1 h2/\∀H',Same H H'->Q (.int (sgq u v d)) H'
theorem FS(F:Fun K "sign_of" "sign_of" qz f fd)(T:Txt K mg)(R:RCI K mg C)(RN:NCI K mg CN)(vL:Cal P w K mg base 4 "against" ["one","ratio"] (pU C CN) KS KC)(cc:KCal P w K mg base 2 C "Ratio" ["self","top","bottom"] (da C) dN dM dO [.int 1]):FnOk P w K mg base CX0 5 f fd ["one"] (w5 C CN):=by
 obtain⟨vy,tE,tV,vb⟩:=vL;obtain⟨bC,bz,bj,b9,cF,cD⟩:=cc;refine F.ok DR (λvs H Q E h=>?_) (λcdv A outer s H vs Q E hr h=>?_)
 ·obtain⟨x,u,v,w,d,l1,l2,h1,h2,rfl,_⟩:=h;rfl
 ·obtain⟨x,u,v,w,d,l1,l2,h1,h2,rfl,hN,k⟩:=h;obtain⟨g1,g2,g3,g4⟩:=tJ hN.ok;obtain⟨ε,hS⟩:=hN.sg;refine⟨_,(ak (av (aq vy (hr.mono) rfl tE tV vb .nil aj (aa (pv 0) (aa (b5 bz bC (hr.mono) rfl bj cF cD aj (aa ad ac)) ac))))),?_⟩;refine aQ ⟨_,rfl,cI (t:=0) (b:=1) (by decide) (b1k (by decide)) λr H1 s1 hr1 hR1=>?_⟩;rw[ia,ic]at hR1;refine⟨x,r,_,l1,l2,h1,h2,ε,0,1,_,rfl,(hS.same s1).mono,by omega,g4,hR1,by decide,Bits.zero,b1k (by decide),λH2 s2=>?_⟩;rw[kZ hN.ok.ns (by decide),Q1,Q1,Q3,Int.sub_zero];exact k H2 (s1.trans s2)
theorem II{u w:Int}(hw:0<w):aA [-u,w]=[-rt u w,rb u w]:=by
 have h0:w≠0:=by omega
 have e1:=ib (t:=u) h0;have e2:=gt (t:=u) h0;have h1:=c7 (t:=u) h0
 have e:[-u,w]=scL (dv u w) [-rt u w,rb u w]:=by show _=[dv u w * -rt u w,dv u w*rb u w];rw[e2,Int.mul_neg,e1]
 rw[e,ig (mF h0) (kJ (by omega))];unfold aA
 rw[x5 (.inr (by
  show Nat.gcd (Nat.gcd 0 (-rt u w).natAbs) (rb u w).natAbs=1
  rw[Sy,R5];exact ie h0))]
 unfold cz;have e3:ap [-rt u w,rb u w]=rb u w:=rfl;rw[e3,if_neg (by omega)]
theorem r9{t b:Int}(hb:0<b)(h:Nat.gcd t.natAbs b.natAbs=1):rt t b=t/\rb t b=b:=by
 have h0:b≠0:=by omega
 have e:dv t b=1:=by unfold dv;rw[if_neg (by omega),h];rfl
 have e1:=ib (t:=t) h0;have e2:=gt (t:=t) h0;rw[e,QZ]at e1 e2;exact⟨e1,e2⟩
def xk(C CN:Addr):Sp:=λvs H Q _=>∃(a:Addr) (t b:Int),vs=[.ref a]/\H a=some (.lst ([-t,b].map V.int))/\0<b/\Nat.gcd t.natAbs b.natAbs=1/\Bits 30 t/\Bits 30 b/\∀(y q l h:Addr) (H':Hp) (x1 x2:Int),Same H H'->H y=none->NA CN H' y q l h->H' q=some (.lst ([-t,b].map V.int))->RA C H' l x1 x2->RA C H' h t b->EndsG 40 x1 x2 t b->x1*b=(t-b)*x2->Q (.ref y) H'
theorem Gg(F:Fun K "only_root" "only_root" qM f fd)(T:Txt K mg)(R:RCI K mg C)(RN:NCI K mg CN)(cc:KCal P w K mg base 2 C "Ratio" ["self","top","bottom"] (da C) dN dM dO [.int 1])(jG:MCal P w K mg base 4 C "minus" ["self","other"] (kR C) uC ur)(g7:KCal P w K mg base 1 CN "Number" ["self","row","low","high"] (g9 CN) oU oR oX []):FnOk P w K mg base CX0 5 f fd ["row"] (xk C CN):=by
 obtain⟨bC,bz,bj,b9,cF,cD⟩:=cc;obtain⟨iL,ix,iI⟩:=jG;obtain⟨gY,gU,gE,gT,o6,o0⟩:=g7;refine F.ok sc_only_root (λvs H Q E h=>?_) (λcdv A outer s H vs Q E hr h=>?_)
 ·obtain⟨a,t,b,rfl,_⟩:=h;rfl
 ·obtain⟨a,t,b,rfl,hA,hb,hg,bt,bb,k⟩:=h
  refine⟨_,(ag (ao (i:=1) sc_only_root.nd rfl (Or.inl rfl) (b5 bz bC (hr.mono) rfl bj b9 .nil aj (aa (bH bF (aI (cC (K:=K) rfl) (pv 0) ad (λ_ _=>rfl))) (aa (aI (cC (K:=K) rfl) (pv 0) ad (λ_ _=>rfl)) ac))))
   (ak (av (b5 gU gY (hr.mono) rfl gE gT .nil aj (aa (pv 0) (aa (cW (pv 1) R.cl ix iL (hr.mono) iI .nil aj (aa (b5 bz bC (hr.mono) rfl bj cF cD aj (aa ad ac)) ac)) (aa (pv 1) ac))))))),?_⟩
  obtain⟨q1,q2⟩:=r9 hb hg;refine aw ⟨_,rfl,a,_,_,_,rfl,rfl,SqL.of hA,rfl,_,rfl,_,rfl,a,_,_,_,rfl,rfl,SqL.of hA,rfl,cI (t := - -t) (b:=b) (by omega) (bb.mono) λr H1 s1 hr1 hR1=>?_⟩;rw[Int.neg_neg,q1,q2]at hR1;obtain⟨dr,hr'⟩:=id hR1;have hA1:=s1 _ _ hA;refine aQ ⟨_,rfl,_,rfl,r,dr,_,rfl,hr',cZ _ _ iq.1 iq.2,cI (t:=1) (b:=1) (by decide) (b1k (by decide)) λr1 H2 s2 hr2 hR2=>?_⟩;rw[ia,ic]at hR2;refine⟨r,r1,t,b,1,1,30,1,rfl,hR1.same s2,hR2,bt.mono,bb,b1k (by decide),b1k (by decide),by decide,hb,by decide,λr3 H3 s3 hr3 hR3=>?_⟩;have d0:b*1≠0:=by omega
  have er:=ei (t:=t*1-1*b) d0;have r2p:0<rb (t*1-1*b) (b*1):=c7 d0;have rg:=ie (t:=t*1-1*b) d0;have br1:Bits 40 (rt (t*1-1*b) (b*1)):=ee d0 (by rw[Q1,QZ];exact(Bits.sub bt bb).mono);have br2:Bits 40 (rb (t*1-1*b) (b*1)):=dY d0 (by rw[Q1];exact bb.mono);generalize rt (t*1-1*b) (b*1)=x1 at *
  generalize rb (t*1-1*b) (b*1)=x2 at *
  have hR3':=hR1.same (s2.trans s3)
  have e1:x1*b=(t-b)*x2:=by have:x1*(b*1)=(t*1-1*b)*x2:=er;rw[Q1,Q1,QZ]at this;exact this
  refine⟨_,rfl,lY ((s2.trans s3) _ _ hA1) λy q H4 s4 hy hN hq hqn=>?_⟩;have t4:=(s1.trans (s2.trans s3));refine k y q r3 r H4 x1 x2 (t4.trans s4) (t4.free hy) hN hq (hR3.same s4) (hR3'.same s4) ⟨r2p,hb,br1,br2,bt.mono,bb.mono,?_,rg,hg⟩ e1;have e2:(t-b)*x2=t*x2-b*x2:=by grind
  have:=QC hb r2p;omega
theorem Cr(a b c:Int):turnL [a,b,c]=[a,-b,c]:=by
 apply d8
 ·rfl
 ·intro k hk;rw[BC];rcases k with _ |_ |_ |k
  ·rfl
  ·rfl
  ·rfl
  ·exact absurd hk (by rw[pe];simp)
theorem IL{u v w d:Int}(hw:0<w):aA (turnL (cO u v w d))=cO (-u) (-v) w d:=by
 unfold cO;by_cases hv:v=0
 ·rw[if_pos hv,if_pos (by omega),wb (kJ (by omega)) hw]
  have e:turnL [-u,w]=scL (-1) [- -u,w]:=by show[-u,-w]=[-1 * - -u,-1*w];rw[Int.neg_neg,Int.neg_one_mul,Int.neg_one_mul]
  rw[e,ig (by decide) (kJ (by omega))]
 ·have hww:0<w*w:=QC hw hw;rw[if_neg hv,if_neg (by omega),wb (pi (by omega)) hww]
  have e:turnL [u*u-d*v*v,-2*u*w,w*w]=[-u * -u-d * -v * -v,-2 * -u*w,w*w]:=by rw[Cr,show -u * -u-d * -v * -v=u*u-d*v*v by grind,show -2 * -u*w = -(-2*u*w) by grind]
  rw[e]
theorem tK{u v w d:Int}(hw:0<w):(v=0->cO u v w d=[-rt u w,rb u w])/\(v≠0->(cO u v w d).length=3):=by
 unfold cO;refine⟨λh=>by rw[if_pos h];exact II hw,λh=>?_⟩;rw[if_neg h];unfold aA cz;split
 ·rw[QB];exact QB _
 ·exact QB _
def xj(C CN:Addr):Sp:=λvs H Q _=>∃(x:Addr) (u v w d l1 l2 h1 h2:Int),vs=[.ref x]/\WN C CN H x u v w d l1 l2 h1 h2/\∀(y:Addr) (H':Hp) (a1 a2 b1 b2:Int),Same H H'->H y=none->WN C CN H' y (-u) (-v) w d a1 a2 b1 b2->Q (.ref y) H'
theorem Gf(F:Fun K "opposite" "opposite" qL f fd)(T:Txt K mg)(R:RCI K mg C)(RN:NCI K mg CN)(gZ:Cal P w K mg base 34 "plain" ["row"] jO oS oP)(NF:Cal P w K mg base 1 "turned" ["row"] (sp1 turnL) Px OE)(fV:Cal P w K mg base 1 "degree" ["row"] iR mD mB)(NY:Cal P w K mg base 5 "only_root" ["row"] (xk C CN) PU OU)(g7:KCal P w K mg base 1 CN "Number" ["self","row","low","high"] (g9 CN) oU oR oX [])(cc:KCal P w K mg base 2 C "Ratio" ["self","top","bottom"] (da C) dN dM dO [.int 1])(jG:MCal P w K mg base 4 C "minus" ["self","other"] (kR C) uC ur):FnOk P w K mg base CX0 35 f fd ["one"] (xj C CN):=by
 obtain⟨fT,fJ,fL,fQ⟩:=gZ;obtain⟨MO,HH,IZ,LP⟩:=NF;obtain⟨dS,dI,dL,dR⟩:=fV;obtain⟨M7,HY,Jm,L6⟩:=NY;obtain⟨gY,gU,gE,gT,o6,o0⟩:=g7;obtain⟨bC,bz,bj,b9,cF,cD⟩:=cc;obtain⟨iL,ix,iI⟩:=jG;refine F.ok sc_opposite (λvs H Q E h=>?_) (λcdv A outer s H vs Q E hr h=>?_)
 ·obtain⟨x,u,v,w,d,l1,l2,h1,h2,rfl,_⟩:=h;rfl
 ·obtain⟨x,u,v,w,d,l1,l2,h1,h2,rfl,hN,k⟩:=h;obtain⟨q,l,h,⟨dx,hx⟩,hq,hl,hh⟩:=id hN.nu;have hW:=hN.ok;have hw:=hW.w1;have en:=hN.en;obtain⟨g1,g2,g3,g4⟩:=tJ hW
  refine⟨_,(ag (ao (i:=1) sc_opposite.nd rfl (Or.inl rfl) (aq fT (hr.mono) rfl fJ fL fQ .nil aj (aa (aq MO (hr.mono) rfl HH IZ LP .nil aj (aa (aR (K:=K) rfl (pv 0) rfl) ac)) ac)))
   (ag (aO (aG cR (aq dS (hr.mono) rfl dI dL dR .nil aj (aa (pv 1) ac)) ad (aE _))
     (ak (av (aq M7 (hr.mono) rfl HY Jm L6 .nil aj (aa (pv 1) ac))))
     aP)
   (ak (av (b5 gU gY (hr.mono) rfl gE gT .nil aj (aa (pv 1) (aa (cW (b5 bz bC (hr.mono) rfl bj cF cD aj (aa ad ac)) R.cl ix iL (hr.mono) iI .nil aj (aa (aR (K:=K) rfl (pv 0) rfl) ac)) (aa (cW (b5 bz bC (hr.mono) rfl bj cF cD aj (aa ad ac)) R.cl ix iL (hr.mono) iI .nil aj (aa (aR (K:=K) rfl (pv 0) rfl) ac)) ac)))))))),?_⟩
  refine aw ⟨_,rfl,x,CN,dx,_,_,rfl,hx,RN.cl,RN.nP,mv _ _ _,q,_,rfl,hq,by omega,g4.mono,λp H1 s1 hp e1=>?_⟩;refine⟨p,_,rfl,e1,wa g1,by rw[pe];omega,λp2 H2 s2 hp2 e2=>?_⟩;rw[IL hw]at e2;have t2:=s1.trans s2;refine bI ⟨_,rfl,p2,_,rfl,e2,_,_,rfl,rfl,_,rfl,aH (λh0=>?_) (λh0=>?_)⟩
  ·have hv:v=0:=Classical.byContradiction λz=>by have h3:=(tK (u := -u) (v := -v) (d:=d) hw).2 (by omega);have h0':(((cO (-u) (-v) w d).map V.int).length:Int)-1=1:=h0;rw[QB,h3]at h0';exact absurd h0' (by decide)
   subst hv;have eL:=(tK (u := -u) (v := -0) (d:=d) hw).1 rfl;have w0:w≠0:=by omega
   have bt:Bits 30 (rt (-u) w):=(ee w0 hW.bu.neg).mono;have bb:Bits 30 (rb (-u) w):=(dY w0 hW.bw).mono;have rc:=ei (t := -u) w0;have rp:=c7 (t := -u) w0;rw[eL]at e2;refine aQ ⟨_,rfl,p2,_,_,rfl,e2,rp,ie w0,bt,bb,λy q' l' h' H3 x1 x2 s3 hy hNA hq' hl' hh' en' ex=>?_⟩;refine k y H3 x1 x2 _ _ (t2.trans s3) (t2.free hy) ⟨⟨q',l',h',hNA,by rw[eL];exact hq',hl',hh'⟩,en',λz=>by omega,λz=>by omega,?_,?_,hW.neg⟩
   ·show 0<sgq (-u*x2-x1*w) (-0*x2) d;have hp2':=en'.l2p
    have e3:(-u*x2-x1*w)*rb (-u) w=(w*x2)*rb (-u) w:=by
     have q1:(-u*x2-x1*w)*rb (-u) w=(-u*rb (-u) w)*x2-(x1*rb (-u) w)*w:=by grind
     have q2:rt (-u) w*w = -u*rb (-u) w:=rc;rw[q1,ex,<- q2];grind
    have e4 : -u*x2-x1*w=w*x2:=SD (by omega) e3;rw[e4,show -0*x2=0 by omega,hJ (QE (QC hw hp2')) (Q7 _) (.inl (QC hw hp2'))];decide
   ·show ¬0<sgq (-u*rb (-u) w-rt (-u) w*w) (-0*rb (-u) w) d;have q2:rt (-u) w*w = -u*rb (-u) w:=rc;rw[q2,Int.sub_self,show -0*rb (-u) w=0 by omega,nQ];decide
  have hv:v≠0:=λz=>by subst z;have e3:=(tK (u := -u) (v := -0) (d:=d) hw).1 rfl;rw[e3]at h0;exact h0 rfl
  refine aQ ⟨_,rfl,cI (t:=0) (b:=1) (by decide) (b1k (by decide)) λr3 H3 s3 hr3 hR3=>?_⟩;rw[ia,ic]at hR3;obtain⟨d3,hR3'⟩:=id hR3;have t3:=t2.trans s3;refine⟨r3,d3,_,rfl,hR3',cZ _ _ iq.1 iq.2,_,rfl,x,CN,dx,_,_,rfl,t3 _ _ hx,RN.cl,RN.nH,mw _ _ _,r3,h,0,1,h1,h2,1,40,rfl,hR3,hh.same t3,Bits.zero,b1k (by decide),en.bh1.mono,en.bh2,by decide,by decide,en.h2p,λr4 H4 s4 hr4 hR4=>?_⟩;have eh:=r9 (t := -h1) en.h2p (by rw[R5];exact en.gh);rw[show(0:Int)*h2-h1*1 = -h1 by omega,QZ,eh.1,eh.2]at hR4;have t4:=t3.trans s4;refine cI (t:=0) (b:=1) (by decide) (b1k (by decide)) λr5 H5 s5 hr5 hR5=>?_
  rw[ia,ic]at hR5;obtain⟨d5,hR5'⟩:=id hR5;have t5:=t4.trans s5;refine⟨r5,d5,_,rfl,hR5',cZ _ _ iq.1 iq.2,_,rfl,x,CN,dx,_,_,rfl,t5 _ _ hx,RN.cl,RN.nL,uk _ _ _,r5,l,0,1,l1,l2,1,40,rfl,hR5,hl.same t5,Bits.zero,b1k (by decide),en.bl1.mono,en.bl2,by decide,by decide,en.l2p,λr6 H6 s6 hr6 hR6=>?_⟩;have el:=r9 (t := -l1) en.l2p (by rw[R5];exact en.gl);rw[show(0:Int)*l2-l1*1 = -l1 by omega,QZ,el.1,el.2]at hR6;have t6:=t5.trans s6;have s26:Same H2 H6:=(s3.trans s4).trans (s5.trans s6);refine lY (s26 _ _ e2) λy q' H7 s7 hy hNA hq' hqn=>?_
  have lU:=hN.lU;have hU:=hN.hU;refine k y H7 (-h1) h2 (-l1) l2 (t6.trans s7) (t6.free hy) ⟨⟨q',r4,r6,hNA,hq',hR4.same ((s5.trans s6).trans s7),hR6.same s7⟩,⟨en.h2p,en.l2p,en.bh1.neg,en.bh2,en.bl1.neg,en.bl2,?_,by rw[R5];exact en.gh,by rw[R5];exact en.gl⟩,λz=>?_,λz=>?_,?_,?_,hW.neg⟩
  ·have:=en.lt;rw[RH,RH];omega
  ·have:=hN.oh (by omega);rw[RH,RH];omega
  ·have:=hN.ol (by omega);rw[RH,RH];omega
  ·show 0<sgq (-u*h2 - -h1*w) (-v*h2) d;have hU':¬0<sgq (u*h2-h1*w) (v*h2) d:=hU;rw[show -u*h2 - -h1*w = -(u*h2-h1*w) by grind,RH,nO hW.ns];have h5:sgq (u*h2-h1*w) (v*h2) d≠0:=λz=>QU hv (by have:=en.h2p;omega) (DA z).2
   omega
  ·show ¬0<sgq (-u*l2 - -l1*w) (-v*l2) d;have lU':0<sgq (u*l2-l1*w) (v*l2) d:=lU;rw[show -u*l2 - -l1*w = -(u*l2-l1*w) by grind,RH,nO hW.ns];omega
noncomputable def txt(v:Int):Str:=Str.ofString (toString v)
theorem v9(n:Nat):txt (n:Int)=stL (aK n):=tY n
theorem Cm{v:Int}(h:v<0):txt v=stL (45::aK v.natAbs):=by
 cases v with
 |ofNat n=>exact absurd h (by simp)
 |negSucc n=>exact JV n
theorem sP{n k:Nat}(h:n<10^(k+1)):(aK n).length<=k+1:=(sJ k n h).1
theorem zK{n k:Nat}(h:n<2^k)(hk:0<k):n.log2<k:=by
 by_cases h0:n=0
 ·subst h0;simpa using hk
 ·exact(Nat.log2_lt h0).mpr h
theorem AG:∀(ls:List (List Nat)) (n:Nat),(ls.map stL).foldl (λn z=>n+z.length+(Str.ofString "").length) n=n+ls.flatten.length
 | [],n=>by simp
 |l::ls,n=>by
  rw[Ri,List.foldl_cons,AG ls];have e1:(stL l).length=l.length:=by unfold stL Str.length;simp
  have e2:(Str.ofString "").length=0:=by decide
  rw[e1,e2,R4,QO];omega
def wM:Sp:=λvs H Q _=>∃v:Int,vs=[.int v]/\Bits 1000 v/\∀H',Same H H'->Q (.str (txt v)) H'
theorem Kq{zs:List (List Nat)}(h:∀l∈zs,l.length<=400):zs.flatten.length<=400*zs.length:=by
 induction zs with
 |nil=>exact QH _
 |cons l zs ih =>
  rw[R4,QO,Rb];have h1:=h l (QN ..);have h2:=ih λx hx=>h x (QJ _ hx)
  omega
theorem FE(F:Fun K "whole_text" "whole_text" qi f fd)(T:Txt K mg):FnOk P w K mg base CX0 1 f fd ["value"] wM:=by
 refine F.ok sc_whole_text (λvs H Q E h=>?_) (λcdv A outer s H vs Q E hr h=>?_)
 ·obtain⟨v,rfl,_⟩:=h;rfl
 ·obtain⟨v,rfl,bv,k⟩:=h;have big:=sizeLine_eq
  refine⟨_,(ag (ao (i:=1) sc_whole_text.nd rfl (Or.inl rfl) (ai lI ad ad))
   (ag (ao (i:=2) sc_whole_text.nd rfl (Or.inl rfl) (bX gf (by rfl) T.abs_ PyProof.Rows.boot_abs (aa (pv 0) ac)))
   (ag (ao (i:=3) sc_whole_text.nd rfl (Or.inl rfl) (bK ac))
   (ag (f7 PassesOwn.never (aG jY (pv 2) (pv 1) (aE _))
     (ag (eO (fF PySem.F.plainAttrs_list PySem.F.slot_list_append PySem.F.type_list_append iw (pv 3) (aa (fF PySem.F.plainAttrs_str PySem.F.slot_str_zfill PySem.F.type_str_zfill zv (eT BH (by rfl) T.str_ PyProof.Rows.boot_str (aa (ai cX (pv 2) (pv 1)) ac)) (aa ad ac)) ac)))
       (ak (ao (i:=2) sc_whole_text.nd rfl (Or.inl rfl) (ai de (pv 2) (pv 1))))))
   (ag (eO (fF PySem.F.plainAttrs_list PySem.F.slot_list_append PySem.F.type_list_append iw (pv 3) (aa (eT BH (by rfl) T.str_ PyProof.Rows.boot_str (aa (pv 2) ac)) ac)))
   (ag (aO (aG cY (pv 0) ad (aE _))
     (ak (eO (fF PySem.F.plainAttrs_list PySem.F.slot_list_append PySem.F.type_list_append iw (pv 3) (aa gw ac))))
     aP)
   (ag (eO (sF PySem.F.plainAttrs_list PySem.F.slot_list_reverse PySem.F.type_list_reverse zw (pv 3)))
   (ak (av (fF PySem.F.plainAttrs_str PySem.F.slot_str_join PySem.F.type_str_join (Ho (K:=K) rfl) gw (aa (pv 3) ac))))))))))),?_⟩
  refine aw ⟨_,_,rfl,rfl,⟨by decide,by decide,by decide⟩,?_⟩;show cM _ _ _ _ _;refine dD (λσ' H'=>∃c:Nat,σ'=[some (.int v),some (.int (c:Int)),none,none]/\H=H'/\c=10^64) ⟨10^64,rfl,rfl,rfl⟩ ?_;rintro σ' H' ⟨c,rfl,rfl,hc⟩;have c0:2<=c:=by rw[hc];decide +kernel
  have bc:Bits 300 (c:Int):=by rw[hc];show(((10^64:Nat):Int)).natAbs<2^300;decide +kernel
  refine aw ⟨_,rfl,_,rfl,?_⟩;rw[ky];refine aw ⟨QH _,λpl hpl=>?_⟩;have s1:=Same.upd_new (o:=.lst []) hpl;have h1:upd H pl (.lst []) pl=some (.lst ((([]:List (List Nat)).map stL).map V.str)):=au;generalize upd H pl (.lst [])=H1 at s1 h1 ⊢
  refine⟨λm σ' H'=>∃zs:List (List Nat),σ'=[some (.int v),some (.int (c:Int)),some (.int (m:Int)),some (.ref pl)]/\Same H H'/\H' pl=some (.lst ((zs.map stL).map V.str))/\aK v.natAbs=aK m++zs.reverse.flatten/\m*2^zs.length<=v.natAbs/\(0<m\/zs=[])/\∀l∈zs,l.length<=400,
   ⟨v.natAbs,[],rfl,s1,h1,by simp,by simp,.inr rfl,λl hl=>nomatch hl⟩,?_⟩
  rintro m σ' H2 ⟨zs,rfl,s2,h2,hnum,hle,hm0,hzl⟩
  have bm:m<2^1000:=by have:=Nat.le_mul_of_pos_right m (RC (n:=zs.length) (show 0<2 by decide));exact RB (QL this hle) bv
  have fit:0<m->zs.length<1000:=λhm=>by have h3:=Sw (2^zs.length) hm;have h4:2^zs.length<2^1000:=RB (QL h3 hle) bv;exact(SM (by decide)).mp h4
  refine⟨_,rfl,_,rfl,_,_,rfl,rfl,_,rfl,aH (λhge=>?_) (λhlt=>?_)⟩
  ·have hge':c<=m:=by have:((c:Nat):Int)<=(m:Int):=hge;omega
   refine⟨λσ'' H''=>∃m',m'<m/\∃zs:List (List Nat),σ''=[some (.int v),some (.int (c:Int)),some (.int (m':Int)),some (.ref pl)]/\Same H H''/\H'' pl=some (.lst ((zs.map stL).map V.str))/\aK v.natAbs=aK m'++zs.reverse.flatten/\m'*2^zs.length<=v.natAbs/\(0<m'\/zs=[])/\∀l∈zs,l.length<=400,λ_ _ h=>h,?_⟩;have hzs:=fit (by omega);have hmod:m%c<c:=Nat.mod_lt _ (by omega);have emod:((m:Nat):Int)%((c:Nat):Int)=((m%c:Nat):Int):=rfl;have ediv:((m:Nat):Int)/((c:Nat):Int)=((m/c:Nat):Int):=rfl;have hm64:m%c<10^64:=by rw[<- hc];exact hmod
   refine gq ⟨_,rfl,.inl ⟨rfl,_,SqL.of h2⟩,_,rfl,_,rfl,_,_,rfl,rfl,(by show(0:Int)<(c:Int);omega),_,rfl,?_,rfl,_,_,rfl,rfl,(by decide +kernel),pl,_,_,rfl,rfl,h2,by rw[QB,QB];omega,?_⟩
   ·rw[emod,Q2];exact Nat.lt_trans (zK (k:=1000) (RB (Nat.mod_le _ _) bm) (by decide)) (by decide)
   rw[emod,Cd hm64];have e5:(zs.map stL).map V.str++[V.str ⟨(pad 64 (m%c)).toArray⟩]=((zs++[pad 64 (m%c)]).map stL).map V.str:=by rw[QY,QY];rfl
   rw[e5];refine cG ⟨_,rfl,_,rfl,_,_,rfl,rfl,⟨by show(0:Int)<(c:Int);omega,bc.mono⟩,?_⟩;have hdlt:m/c<m:=Nat.div_lt_self (by omega) (by omega);have hd1:1<=m/c:=(Nat.one_le_div_iff (by omega)).mpr hge';refine⟨m/c,hdlt,zs++[pad 64 (m%c)],rfl,eu s2 hpl,au,?_,?_,.inl hd1,?_⟩
   ·rw[hnum,Sv];show aK m++_=aK (m/c)++(pad 64 (m%c)++zs.reverse.flatten);rw[<- RW,<- y7 (by omega) 64 (m%c) hm64,<- hc];have e6:m/c*c+m%c=m:=by rw[RJ];exact Nat.div_add_mod m c
    rw[e6]
   ·rw[QO];show m/c*2^(zs.length+1)<=v.natAbs;refine QL ?_ hle
    have h7:m/c*2<=m:=by have:=Nat.div_mul_le_self m c;have h8:=RP (m/c) c0;omega
    rw[Rz]
    calc m/c*(2^zs.length*2)=m/c*2*2^zs.length:=by grind
     _<=m*2^zs.length:=Ro _ h7
   ·intro l hl;rcases QS.mp hl with h |h
    ·exact hzl l h
    ·rw[QF.mp h,yU];decide
  ·have hzs:zs.length<1000:=by
    rcases hm0 with h |h
    ·exact fit h
    ·rw[h];decide
   have hlt':m<10^64:=by have:¬((c:Nat):Int)<=(m:Int):=hlt;rw[<- hc];omega
   dsimp only
   refine gq ⟨_,rfl,.inl ⟨rfl,_,SqL.of h2⟩,_,rfl,_,rfl,?_,pl,_,_,rfl,rfl,h2,by rw[QB,QB];omega,?_⟩
   ·rw[Q2];exact Nat.lt_trans (zK (k:=1000) bm (by decide)) (by decide)
   have e5:(zs.map stL).map V.str++[V.str (Str.ofString (toString (m:Int)))]=((zs++[aK m]).map stL).map V.str:=by rw[QY,QY,tY];rfl
   rw[e5];have s3:Same H (upd H2 pl (.lst (((zs++[aK m]).map stL).map V.str))):=eu s2 hpl;have h3:upd H2 pl (.lst (((zs++[aK m]).map stL).map V.str)) pl=some (.lst (((zs++[aK m]).map stL).map V.str)):=au;generalize upd H2 pl (.lst (((zs++[aK m]).map stL).map V.str))=H3 at s3 h3 ⊢
   have hml:(aK m).length<=64:=sP (k:=63) hlt';refine dF (λσ' H'=>∃ys:List (List Nat),σ'=[some (.int v),some (.int (c:Int)),some (.int (m:Int)),some (.ref pl)]/\Same H H'/\H' pl=some (.lst ((ys.map stL).map V.str))/\stL ys.reverse.flatten=txt v/\ys.length<=1002/\∀l∈ys,l.length<=400) ?_ ?_
   case refine_2 =>
    intro rest;refine⟨_,rfl,_,_,rfl,rfl,_,rfl,aH (λhn=>?_) (λhn=>?_)⟩
    ·refine sj ⟨_,rfl,.inl ⟨rfl,_,SqL.of h3⟩,pl,_,_,rfl,rfl,h3,by rw[QB,QB,QO];show zs.length+1<_;omega,?_⟩
     have e6:((zs++[aK m]).map stL).map V.str++[V.str (Str.ofString "-")]=((zs++[aK m]++[[45]]).map stL).map V.str:=by
      have e7:Str.ofString "-"=stL [45]:=by rw[ofS];rfl
      rw[e7];simp only[QY,Ri,List.map_nil]
     refine rest _ _ ⟨zs++[aK m]++[[45]],rfl,eu s3 hpl,by rw[au,e6],?_,by rw[QO,QO];show zs.length+1+1<=_;omega,?_⟩
     ·rw[Sv,Sv];show stL ([45]++(aK m++zs.reverse.flatten))=_;rw[<- hnum,Cm hn];rfl
     ·intro l hl;rcases QS.mp hl with h |h
      ·rcases QS.mp h with h |h
       ·exact hzl l h
       ·rw[QF.mp h];omega
      ·rw[QF.mp h];decide
    ·refine rest _ _ ⟨zs++[aK m],rfl,s3,h3,?_,by rw[QO];show zs.length+1<=_;omega,?_⟩
     ·rw[Sv];show stL (aK m++zs.reverse.flatten)=_;rw[<- hnum,<- v9];have:((v.natAbs:Nat):Int)=v:=by have:¬v<0:=hn;omega
      rw[this]
     ·intro l hl;rcases QS.mp hl with h |h
      ·exact hzl l h
      ·rw[QF.mp h];omega
   rintro σ' H4 ⟨ys,rfl,s4,h4,htx,hyl,hyz⟩;refine gq ⟨_,rfl,.inl ⟨rfl,_,SqL.of h4⟩,pl,_,rfl,rfl,h4,?_⟩;rw[<- List.map_reverse,<- List.map_reverse];have s5:Same H (upd H4 pl (.lst ((ys.reverse.map stL).map V.str))):=eu s4 hpl;have hfl:ys.reverse.flatten.length<=400*1002:=QL (Kq (λl hl=>hyz l (List.mem_reverse.mp hl))) (by rw[List.length_reverse];omega);refine aQ ⟨rfl,_,rfl,Str.ofString "",pl,ys.reverse.map stL,rfl,rfl,SqL.of au,?_,?_,?_⟩
   ·rw[AG];omega
   ·have e:Builtin.Str.glued (Str.ofString "") (ys.reverse.map stL)=stL ys.reverse.flatten:=Av _;rw[e];have:(stL ys.reverse.flatten).length=ys.reverse.flatten.length:=by unfold stL Str.length;simp
    omega
   ·have e:Builtin.Str.glued (Str.ofString "") (ys.reverse.map stL)=stL ys.reverse.flatten:=Av _;rw[e,htx];exact k _ s5
theorem Co:Bits 9000 2:=Bits.mono (j:=2) (by show(2:Int).natAbs<2^2;decide) (by decide)
def xl(C CN:Addr):Sp:=λvs H Q _=>∃(x:Addr) (u v w d l1 l2 h1 h2 S:Int),vs=[.ref x,.int S]/\WN C CN H x u v w d l1 l2 h1 h2/\0<S/\Bits 200 S/\∀(m:Int) (H':Hp),Same H H'->kA [u,d*v*v,w,ck v] (2*S) m->Bits 900 m->Q (.int ((m+1)/2)) H'
theorem Gj(F:Fun K "nearest" "nearest" qO f fd)(T:Txt K mg)(R:RCI K mg C)(RN:NCI K mg CN)(NJ:Cal P w K mg base 9 "steps" ["one","bottom"] (wT C CN) PC OI):FnOk P w K mg base CX0 10 f fd ["one","scale"] (xl C CN):=by
 obtain⟨MS,HL,Jb,LT⟩:=NJ;refine F.ok DW (λvs H Q E h=>?_) (λcdv A outer s H vs Q E hr h=>?_)
 ·obtain⟨x,u,v,w,d,l1,l2,h1,h2,S,rfl,_⟩:=h;rfl
 ·obtain⟨x,u,v,w,d,l1,l2,h1,h2,S,rfl,hN,hS,bS,k⟩:=h;obtain⟨ε,hG⟩:=hN.sg;obtain⟨g1,g2,g3,g4⟩:=tJ hN.ok;refine⟨_,(ak (av (ai de (ai bQ (aq MS (hr.mono) rfl HL Jb LT .nil aj (aa (pv 0) (aa (ai aJ ad (pv 1)) ac))) ad) ad))),?_⟩;have b2:Bits 2 (2:Int):=by show(2:Int).natAbs<2^2;decide
  exact aQ ⟨_,rfl,_,rfl,_,_,rfl,rfl,⟨d9,bS.mono⟩,x,_,l1,l2,h1,h2,ε,2*S,_,rfl,hG,g1,g2,g3,g4,by omega,(b2.mul bS).mono,λm H1 s1 st bm=>⟨_,_,rfl,rfl,_,_,rfl,rfl,⟨by show(0:Int)<2;decide,Co⟩,k m H1 s1 st bm⟩⟩
def nq:Sp:=λvs H Q _=>∃n:Nat,vs=[.int (n:Int)]/\n<=50/\Q (.int (10^n)) H
theorem jJ{n:Nat}(h:n<=50):Bits 200 ((10:Int)^n):=by
 have h1:(10:Nat)^n<=10^50:=SR (by decide) h;have h2:(10:Nat)^50<2^200:=by decide +kernel
 show((10:Int)^n).natAbs<2^200;have e:((10:Int)^n).natAbs=10^n:=by rw[SE];rfl
 rw[e];omega
theorem wf:Bits 1000000 (10:Int):=Bits.mono (j:=4) (by show(10:Int).natAbs<2^4;decide) (by decide)
theorem FJ(F:Fun K "ten_to" "ten_to" qp f fd)(T:Txt K mg):FnOk P w K mg base CX0 1 f fd ["places"] nq:=by
 refine F.ok sc_ten_to (λvs H Q E h=>?_) (λcdv A outer s H vs Q E hr h=>?_)
 ·obtain⟨n,rfl,_⟩:=h;rfl
 ·obtain⟨n,rfl,hn,k⟩:=h
  refine⟨_,(ag (ao (i:=1) sc_ten_to.nd rfl (Or.inl rfl) ad)
   (ag (c8 PassesOwn.never rfl (ii rfl T.range_ (aa (pv 0) ac)) (aU (i:=2) sc_ten_to.nd rfl (Or.inl rfl))
     (ak (ao (i:=1) sc_ten_to.nd rfl (Or.inl rfl) (ai aJ ad (pv 1)))))
   (ak (av (pv 1))))),?_⟩
  refine aw ?_;refine⟨_,rfl,n,rfl,by omega,by omega,kg (lo:=0) (n:=n) (λi σ' H'=>∃z:Option V,σ'=[some (.int n),some (.int (10^i)),z]/\H=H') ⟨none,rfl,rfl⟩ ?_ ?_⟩
  ·rintro i σ' H' hi ⟨z,rfl,rfl⟩;refine cG ⟨_,rfl,_,_,rfl,rfl,⟨wf,(jJ (by omega)).mono⟩,?_⟩;refine⟨some (.int (0+(i:Int))),?_,rfl⟩;rw[Q4,QT];rfl
  ·rintro σ' H' ⟨z,rfl,rfl⟩;exact⟨_,rfl,k⟩
theorem GT(F:Fun K "_law_power" "_law_power" rM f fd)(T:Txt K mg):FnOk P w K mg base CX0 1 f fd ["_law_places"] nq:=by
 refine F.ok sc__law_power (λvs H Q E h=>?_) (λcdv A outer s H vs Q E hr h=>?_)
 ·obtain⟨n,rfl,_⟩:=h;rfl
 ·obtain⟨n,rfl,hn,k⟩:=h
  refine⟨_,(ag (ao (i:=1) sc__law_power.nd rfl (Or.inl rfl) ad)
   (ag (c8 PassesOwn.never rfl (ii rfl T.range_ (aa (pv 0) ac)) (aU (i:=2) sc__law_power.nd rfl (Or.inl rfl))
     (ak (ao (i:=1) sc__law_power.nd rfl (Or.inl rfl) (ai aJ (pv 1) ad))))
   (ak (av (pv 1))))),?_⟩
  refine aw ?_;refine⟨_,rfl,n,rfl,by omega,by omega,kg (lo:=0) (n:=n) (λi σ' H'=>∃z:Option V,σ'=[some (.int n),some (.int (10^i)),z]/\H=H') ⟨none,rfl,rfl⟩ ?_ ?_⟩
  ·rintro i σ' H' hi ⟨z,rfl,rfl⟩;refine cG ⟨_,rfl,_,_,rfl,rfl,⟨(jJ (by omega)).mono,wf⟩,?_⟩;refine⟨some (.int (0+(i:Int))),?_,rfl⟩;rw[Q4];rfl
  ·rintro σ' H' ⟨z,rfl,rfl⟩;exact⟨_,rfl,k⟩
theorem Fv:∀k:Fin 60,PadOk ((k.val:Nat):Int)=true:=by decide +kernel
theorem zM:(Str.ofString "":Str)=stL []:=by decide +kernel
theorem IH:(Str.ofString "0":Str)=stL [48]:=by decide +kernel
theorem zN:(Str.ofString "-":Str)=stL [45]:=by decide +kernel
theorem zO:(Str.ofString ".":Str)=stL [46]:=by decide +kernel
theorem Hb{n:Nat}(h:n<2^1000):(aK n).length<=1000:=sP (k:=999) (Q9 h (by decide +kernel))
def Fig(u v w d:Int)(n m:Nat):Prop:=∃k:Int,(m:Int)=(k+1)/2/\0<=k/\if sgq u v d<0 then kA [-u,d * -v * -v,w,ck (-v)] (2*10^n) k else kA [u,d*v*v,w,ck v] (2*10^n) k
def pQ(C CN:Addr):Sp:=λvs H Q _=>∃(x:Addr) (u v w d l1 l2 h1 h2:Int) (n:Nat),vs=[.ref x,.int (n:Int)]/\WN C CN H x u v w d l1 l2 h1 h2/\n<=40/\∀(m:Nat) (H':Hp),Same H H'->Fig u v w d n m->m<2^900->Q (.str (stL (iB (decide (sgq u v d<0)) m n))) H'
theorem Gz(F:FunD K "figures" "figures" jR dV f fd)(T:Txt K mg)(R:RCI K mg C)(RN:NCI K mg CN)(NP:Cal P w K mg base 5 "sign_of" ["one"] (w5 C CN) PK ON)(N2:Cal P w K mg base 10 "nearest" ["one","scale"] (xl C CN) PY OX)(NX:Cal P w K mg base 35 "opposite" ["one"] (xj C CN) PR OT)(NG:Cal P w K mg base 1 "ten_to" ["places"] nq Py OF)(ND:Cal P w K mg base 1 "whole_text" ["value"] wM Pu OC):FnOk P w K mg base CX0 36 f fd ["one","places"] (pQ C CN):=by
 obtain⟨MX,HR,Jg,LY⟩:=NP;obtain⟨Na,Ib,Jp,L9⟩:=N2;obtain⟨M6,HX,Jl,L5⟩:=NX;obtain⟨MP,HI,I0,LQ⟩:=NG;obtain⟨MM,HF,IX,LN⟩:=ND;refine F.ok sc_figures (λvs H Q E h=>?_) (λcdv A outer s H vs Q E hr h=>?_)
 ·obtain⟨x,u,v,w,d,l1,l2,h1,h2,n,rfl,_⟩:=h;rfl
 ·obtain⟨x,u,v,w,d,l1,l2,h1,h2,n,rfl,hN,hn,k⟩:=h;have big:=sizeLine_eq;have p10:(0:Int)<10^n:=Rl (by decide);have hW:=hN.ok
  have kp:∀u v k:Int,0<=sgq u v d->kA [u,d*v*v,w,ck v] (2*10^n) k->Spt [u,d*v*v,w,ck v]->0<=k:=λu v k hs st sp=>Rp.mp λz=>by
   have h2:=st.2;have e:al [u,d*v*v,w,ck v] 0 1=sgq u v d:=by rw[kZ hW.ns (by decide),Q1,Q1,Q3,Int.sub_zero]
   rcases RT (show k+1<=0 by omega)with y |y
   ·have:=dU sp (t:=k+1) (n:=2*10^n) (t':=0) (n':=1) (by omega) (by decide) (by omega) (by omega);omega
   ·rw[hI _ (show(0:Int)<2*10^n by omega) (show(0:Int)<1 by decide) (show(k+1)*1=0*(2*10^n) by omega)]at h2;omega
  refine⟨_,(ag (ao (i:=2) sc_figures.nd rfl (Or.inl rfl) (dH cY (aq MX (hr.mono) rfl HR Jg LY .nil aj (aa (pv 0) ac)) ad (aE _)))
   (ag (ao (i:=3) sc_figures.nd rfl (Or.inl rfl) (aq Na (hr.mono) rfl Ib Jp L9 .nil aj (aa (iZ (jT (pv 2)) (aq M6 (hr.mono) rfl HX Jl L5 .nil aj (aa (pv 0) ac)) (pv 0)) (aa (aq MP (hr.mono) rfl HI I0 LQ .nil aj (aa (pv 1) ac)) ac))))
   (ag (ao (i:=4) sc_figures.nd rfl (Or.inl rfl) (fF PySem.F.plainAttrs_str PySem.F.slot_str_zfill PySem.F.type_str_zfill zv (aq MM (hr.mono) rfl HF IX LN .nil aj (aa (pv 3) ac)) (aa (ai bQ (pv 1) ad) ac)))
   (ag (ao (i:=5) sc_figures.nd rfl (Or.inl rfl) (iZ (PW.pt (f6 (jT (pv 2)) (fZ (aG cQ (pv 3) ad (aE _))))) gw gw))
   (ag (aO (aG cR (pv 1) ad (aE _))
     (ak (av (ai lK (pv 5) (pv 4))))
     aP)
   (ak (av (ai lK (ai lK (ai lK (pv 5) (fC iS (pv 4) f8 (eQ (bH bF (pv 1))))) gw) (fC iS (pv 4) (eQ (bH bF (pv 1))) f8))))))))),?_⟩
  refine aw ⟨_,rfl,x,u,v,w,d,l1,l2,h1,h2,rfl,hN,λH1 s1=>⟨_,_,rfl,rfl,?_⟩⟩;show cM _ _ _ _ _;refine dD (λσ' H'=>σ'=[some (.ref x),some (.int (n:Int)),some (.bl (decide (sgq u v d<0))),none,none,none]/\H1=H') ⟨rfl,rfl⟩ ?_;rintro σ' H' ⟨rfl,rfl⟩;refine nX (λσ' H'=>∃m:Nat,Fig u v w d n m/\m<2^900/\σ'=[some (.ref x),some (.int (n:Int)),some (.bl (decide (sgq u v d<0))),some (.int (m:Int)),none,none]/\Same H H') ?_ ?_
  case refine_2 =>
   intro rest
   have fin:∀k:Int,0<=k->Bits 900 k->∃m:Nat,(m:Int)=(k+1)/2/\m<2^900:=λk h0 bk=>by
    have h1:k.natAbs<2^900:=bk;generalize (2:Nat)^900=N at h1 ⊢
    exact⟨((k+1)/2).toNat,by omega,by omega⟩
   refine cG ⟨_,rfl,_,rfl,aH (λhneg=>?_) (λhpos=>?_)⟩
   ·refine⟨_,rfl,x,u,v,w,d,l1,l2,h1,h2,rfl,hN.same s1,λy H2 a1 a2 c1 c2 s2 hy hN2=>⟨_,rfl,n,rfl,by omega,?_⟩⟩;refine⟨y,-u,-v,w,d,a1,a2,c1,c2,10^n,rfl,hN2,p10,jJ (by omega),λk H3 s3 st bk=>?_⟩;obtain⟨ε,hG⟩:=hN2.sg;have k0:=kp _ _ _ (by rw[nO hW.ns];omega) st hG.spt;obtain⟨m,em,hm⟩:=fin _ k0 bk;refine rest _ _ ⟨m,⟨k,em,k0,by rw[if_pos hneg];exact st⟩,hm,?_,(s1.trans s2).trans s3⟩;rw[em];rfl
   ·refine⟨_,rfl,_,rfl,n,rfl,by omega,?_⟩;refine⟨x,u,v,w,d,l1,l2,h1,h2,10^n,rfl,hN.same s1,p10,jJ (by omega),λk H3 s3 st bk=>?_⟩;obtain⟨ε,hG⟩:=hN.sg;have k0:=kp _ _ _ (by omega) st hG.spt;obtain⟨m,em,hm⟩:=fin _ k0 bk;refine rest _ _ ⟨m,⟨k,em,k0,by rw[if_neg hpos];exact st⟩,hm,?_,s1.trans s3⟩;rw[em];rfl
  rintro σ' H2 ⟨m,hF,ms,rfl,s2⟩;have kk:∀H',Same H H'->∀z,z=stL (iB (decide (sgq u v d<0)) m n)->Q (.str z) H':=λH' sm z e=>by rw[e];exact k m H' sm hF ms
  clear k;have bm:Bits 1000 (m:Int):=by show((m:Int)).natAbs<2^1000;rw[Q2];exact Nat.lt_trans ms (by decide +kernel)
  have nl:(aK m).length<=1000:=Hb (Nat.lt_trans ms (by decide +kernel));have pl:(aZ (n+1) m).length<=1000:=by rw[lH];omega
  have pl1:n+1<=(aZ (n+1) m).length:=by rw[lH];omega
  refine aw ⟨_,rfl,m,rfl,bm,λH3 s3=>⟨rfl,_,rfl,_,_,rfl,rfl,_,_,rfl,rfl,Fv ⟨n+1,by omega⟩,?_⟩⟩
  have ez:PySem.Txt.zfill (txt (m:Int)) ((n:Int)+1)=stL (aZ (n+1) m):=by rw[v9];exact Ce (n+1) m
  have t3:=s2.trans s3;show cM _ _ _ _ _;refine dD (λσ' H'=>σ'=[some (.ref x),some (.int (n:Int)),some (.bl (decide (sgq u v d<0))),some (.int (m:Int)),some (.str (stL (aZ (n+1) m))),none]/\H3=H') ⟨by rw[<- ez];rfl,rfl⟩ ?_;rintro σ' H' ⟨rfl,rfl⟩;refine nX (λσ' H'=>σ'=[some (.ref x),some (.int (n:Int)),some (.bl (decide (sgq u v d<0))),some (.int (m:Int)),some (.str (stL (aZ (n+1) m))),some (.str (stL (if decide (sgq u v d<0)=true/\0<m then[45]else[])))]/\Same H H') ?_ ?_
  case refine_2 =>
   intro rest;refine cG (yt (dG ⟨_,rfl,_,rfl,aH (λhneg=>?_) (λhpos=>?_)⟩))
   ·refine⟨_,rfl,_,_,rfl,rfl,_,rfl,aH (λh0=>?_) (λh0=>?_)⟩
    ·refine rest _ _ ⟨?_,t3⟩;have h0':0<m:=by have:(m:Int)>0:=h0;omega
     rw[if_pos ⟨decide_eq_true hneg,h0'⟩,<- zN];rfl
    ·refine rest _ _ ⟨?_,t3⟩;have h0':¬0<m:=by have:¬(m:Int)>0:=h0;omega
     rw[if_neg (λz=>h0' z.2),<- zM];rfl
   ·refine dX (rest _ _ ⟨?_,t3⟩);rw[if_neg (λz=>hpos (of_decide_eq_true z.1)),<- zM];rfl
  rintro σ' H4 ⟨rfl,s4⟩;unfold iB dP at kk
  have sl1:(if decide (sgq u v d<0)=true/\0<m then[45]else([]:List Nat)).length<=1:=by split<;>decide
  generalize (if decide (sgq u v d<0)=true/\0<m then[45]else([]:List Nat))=sgn at kk sl1 ⊢
  generalize aZ (n+1) m=ds at kk pl pl1 ⊢
  refine bI ⟨_,rfl,_,_,rfl,rfl,_,rfl,aH (λh0=>?_) (λh0=>?_)⟩
  ·have h0':n=0:=by have:(n:Int)=0:=h0;omega
   refine aQ ⟨_,rfl,_,rfl,_,_,rfl,rfl,?_,kk _ s4 _ ?_⟩
   ·rw[cj,cj];omega
   ·rw[kM,if_pos h0']
  ·have h0':¬n=0:=by have:¬(n:Int)=0:=h0;omega
   have e1:Txt.slice (stL ds) none (some (-(n:Int)))=stL (ds.take (ds.length-n)):=xX ds (by omega) (by omega);have e2:Txt.slice (stL ds) (some (-(n:Int))) none=stL (ds.drop (ds.length-n)):=xZ ds (by omega) (by omega);have q1:(ds.take (ds.length-n)).length<=1000:=by rw[Rn];omega
   have q2:(ds.drop (ds.length-n)).length<=1000:=by rw[Rr];omega
   have z0:(stL ds).length<=sizeLine:=by rw[cj];omega
   refine aQ ⟨_,rfl,_,rfl,_,rfl,_,rfl,_,rfl,_,rfl,z0,?_⟩;rw[e1];refine⟨_,_,rfl,rfl,by rw[cj,cj];omega,?_⟩;rw[kM,zO];refine⟨_,_,rfl,rfl,by rw[cj,cj,QO];show _+1<=_;omega,?_⟩;rw[kM];refine⟨_,rfl,_,rfl,_,rfl,_,rfl,_,rfl,z0,?_⟩;rw[e2];refine⟨_,_,rfl,rfl,by rw[cj,cj,QO,QO];show _+1+_<=_;omega,kk _ s4 _ ?_⟩;rw[kM,if_neg h0',RW,RW];rfl
def wP:Sp:=λvs H Q _=>∃(ng:Bool) (m n:Nat),vs=[.str (stL (iB ng m n)),.int (n:Int)]/\n<=40/\m<2^900/\Q (.int (if ng=true then -(m:Int)else m)) H
theorem GP(F:Fun K "_law_whole_of" "_law_whole_of" rH f fd)(T:Txt K mg):FnOk P w K mg base CX0 1 f fd ["_law_text","_law_places"] wP:=by
 refine F.ok sc__law_whole_of (λvs H Q E h=>?_) (λcdv A outer s H vs Q E hr h=>?_)
 ·obtain⟨ng,m,n,rfl,_⟩:=h;rfl
 ·obtain⟨ng,m,n,rfl,hn,hm,k⟩:=h;have big:=sizeLine_eq;have nl:(aK m).length<=271:=sP (k:=270) (Q9 hm (by decide +kernel));have pl:(aZ (n+1) m).length<=271:=by rw[lH];omega
  have pl1:n+1<=(aZ (n+1) m).length:=by rw[lH];omega
  have pD:=yV (n+1) m;have dl:=Lf pl1;obtain⟨c0,r0,ed,hc0⟩:=Lg pl1 pD;have bm:Bits 900 (m:Int):=by show((m:Int)).natAbs<2^900;rw[Q2];exact hm
  have rd:=Fq (n+1) m (by omega);have lng:=λh=>Fu (k:=n+1) (m:=m) h (by omega)
  have prt:=λh=>Le (ds:=aZ (n+1) m) (n:=n) h pl1
  obtain⟨tx,etx,tl,c1,c2⟩:∃tx:List Nat,iB ng m n=tx/\tx.length<=300/\(ng=true/\0<m->tx=45::dP (aZ (n+1) m) n)/\(¬(ng=true/\0<m)->tx=dP (aZ (n+1) m) n):=by
   refine⟨_,rfl,?_,λz=>?_,λz=>?_⟩
   ·unfold iB;rw[QO];split
    ·show 1+_<=300;omega
    ·show 0+_<=300;omega
   ·unfold iB;rw[if_pos z];rfl
   ·unfold iB;rw[if_neg z];rfl
  rw[etx]
  refine⟨_,(ag (aO (PW.pt (sy (EW (jT (bX (LI (K:=K) rfl) (by rfl) T.isinstance_ PyProof.Rows.boot_isinstance (aa (pv 0) (aa (Fn (v:=.ty "str") (by rfl) T.str_ PyProof.Rows.boot_str (by rfl)) ac))))) (sv (aG cQ (bX uU (by rfl) T.len_ PySem.boot_len (aa (pv 0) ac)) ad (aE _)))))
   (ak (av io))
   aP)
   (ag (ao (i:=2) sc__law_whole_of.nd rfl (Or.inl rfl) (dH yX (fC iS (pv 0) f8 (eQ ad)) gw (aE _)))
   (ag (ao (i:=3) sc__law_whole_of.nd rfl (Or.inl rfl) (iZ (jT (pv 2)) (fC iS (pv 0) (eQ ad) f8) (pv 0)))
   (ag (aO (aG cQ (pv 1) ad (aE _))
     (ag (aO (aG Fy (fC iS (pv 3) (eQ (ai ca (bH bF (pv 1)) ad)) (eQ (bH bF (pv 1)))) gw (aE _))
       (ak (av io))
       aP)
       (ak (ao (i:=3) sc__law_whole_of.nd rfl (Or.inl rfl) (ai lK (fC iS (pv 3) f8 (eQ (ai ca (bH bF (pv 1)) ad))) (fC iS (pv 3) (eQ (bH bF (pv 1))) f8)))))
     aP)
   (ag (aO (PW.pt (sy (aG cY (bX uU (by rfl) T.len_ PySem.boot_len (aa (pv 3) ac)) (ai bQ (pv 1) ad) (aE _)) (sv (PW.pt (f6 (aG cQ (bX uU (by rfl) T.len_ PySem.boot_len (aa (pv 3) ac)) (ai bQ (pv 1) ad) (aE _)) (fZ (aG yX (aI JO (pv 3) ad (λ_ _=>rfl)) gw (aE _))))))))
     (ak (av io))
     aP)
   (ag (c8 PassesOwn.never rfl (Fd (pv 3)) (aU (i:=4) sc__law_whole_of.nd rfl (Or.inl rfl))
     (ak (aO (aG Fw (pv 4) gw (by rfl))
       (ak (av io))
       aP)))
   (ag (aO (PW.pt (f6 (jT (pv 2)) (fZ (aG cR (eT BJ (by rfl) T.int_ PyProof.Rows.boot_int (aa (pv 3) ac)) ad (aE _)))))
     (ak (av io))
     aP)
   (ak (av (ai aJ (eT BJ (by rfl) T.int_ PyProof.Rows.boot_int (aa (pv 3) ac)) (ai ca ad (ai aJ ad (eT mM (by rfl) T.int_ PyProof.Rows.boot_int (aa (pv 2) ac)))))))))))))),?_⟩
  refine bI (yr (Ex (Ez (Ey ⟨_,rfl,JR (.str _) (k:=true) (by rfl) ⟨_,rfl,dX ?_⟩⟩))));refine⟨_,rfl,_,rfl,by rw[cj];omega,_,_,rfl,rfl,_,rfl,aH (λh0=>?_) (λ_=>?_)⟩
  ·exfalso;rw[cj]at h0;have:(tx.length:Int)>300:=h0;omega
  refine aw ⟨_,rfl,_,rfl,_,rfl,by rw[cj];omega,rfl,?_⟩
  have eB:decide (V.str (Txt.slice (stL tx) none (some 1))=V.str (Str.ofString "-"))=decide (ng=true/\0<m):=by
   rw[decide_eq_decide,zN,show(1:Int)=((1:Nat):Int)from rfl];by_cases z:ng=true/\0<m
   ·rw[xY tx (by rw[c1 z,Rb];omega),c1 z];exact⟨λ_=>z,λ_=>rfl⟩
   ·rw[xY tx (by rw[c2 z,ed,Rb];omega),c2 z,ed];refine⟨λy=>?_,λy=>absurd y z⟩;have y':stL [c0]=stL [45]:=by injection y
    have:=stL_inj.mp y'
    injection this with q
    rw[q]at hc0;exact absurd hc0 (by decide)
  show cM _ _ _ _ _;refine dD (λσ' H'=>σ'=[some (.str (stL tx)),some (.int (n:Int)),some (.bl (decide (ng=true/\0<m))),none,none]/\H=H') ⟨by rw[<- eB];rfl,rfl⟩ ?_;rintro σ' H' ⟨rfl,rfl⟩;refine nX (λσ' H'=>σ'=[some (.str (stL tx)),some (.int (n:Int)),some (.bl (decide (ng=true/\0<m))),some (.str (stL (dP (aZ (n+1) m) n))),none]/\H=H') ?_ ?_
  case refine_2 =>
   intro rest;refine cG ⟨_,rfl,_,rfl,aH (λz=>?_) (λz=>?_)⟩
   ·refine⟨_,rfl,_,rfl,_,rfl,by rw[cj];omega,rest _ _ ⟨?_,rfl⟩⟩;rw[show(1:Int)=((1:Nat):Int)from rfl,Do tx (by rw[c1 z,Rb];omega),c1 z];rfl
   ·exact⟨_,rfl,rest _ _ ⟨by rw[c2 z];rfl,rfl⟩⟩
  clear eB c1 c2;rintro σ' H' ⟨rfl,rfl⟩;refine dF (λσ' H'=>σ'=[some (.str (stL tx)),some (.int (n:Int)),some (.bl (decide (ng=true/\0<m))),some (.str (stL (aZ (n+1) m))),none]/\H=H') ?_ ?_
  case refine_2 =>
   intro rest;refine⟨_,rfl,_,_,rfl,rfl,_,rfl,aH (λh0=>?_) (λh0=>?_)⟩
   ·have h0':0<n:=by have:(n:Int)>0:=h0;omega
    obtain⟨p1,p2,p3⟩:=prt h0';have en : -(n:Int)-1 = -((n+1:Nat):Int):=by omega
    have z0:(stL (dP (aZ (n+1) m) n)).length<=sizeLine:=by rw[cj];omega
    refine bI ⟨_,rfl,_,rfl,_,rfl,_,_,rfl,rfl,_,rfl,_,rfl,_,rfl,_,rfl,_,rfl,z0,rfl,_,rfl,dB (λh=>absurd ?_ h) (λ_=>?_)⟩
    ·rw[en,p1,zO]
    refine cG ⟨_,rfl,_,rfl,_,rfl,_,_,rfl,rfl,_,rfl,_,rfl,z0,?_⟩;rw[en,p2];refine⟨_,rfl,_,rfl,_,rfl,_,rfl,_,rfl,z0,?_⟩;rw[p3];refine⟨_,_,rfl,rfl,by rw[cj,cj,Rn,Rr];omega,rest _ _ ⟨?_,rfl⟩⟩;rw[kM,List.take_append_drop];rfl
   ·have h0':n=0:=by have:¬(n:Int)>0:=h0;omega
    refine rest _ _ ⟨?_,rfl⟩;unfold dP;rw[if_pos h0']
  rintro σ' H' ⟨rfl,rfl⟩;have z0:(stL (aZ (n+1) m)).length<=sizeLine:=by rw[cj];omega
  refine dF (λσ' H'=>σ'=[some (.str (stL tx)),some (.int (n:Int)),some (.bl (decide (ng=true/\0<m))),some (.str (stL (aZ (n+1) m))),none]/\H=H') ?_ ?_
  case refine_2 =>
   intro rest;refine yr ⟨_,rfl,_,rfl,z0,_,rfl,_,_,rfl,rfl,_,_,rfl,rfl,_,rfl,aH (λh0=>?_) (λ_=>?_)⟩
   ·exfalso;rw[cj]at h0;have:((aZ (n+1) m).length:Int)<(n:Int)+1:=h0;omega
   refine dG ⟨_,rfl,_,rfl,z0,_,rfl,_,_,rfl,rfl,_,_,rfl,rfl,_,rfl,aH (λh0=>?_) (λ_=>dX (rest _ _ ⟨rfl,rfl⟩))⟩;rw[cj]at h0;obtain⟨c,r,er,hc⟩:=lng (by have:((aZ (n+1) m).length:Int)>(n:Int)+1:=h0;omega);refine⟨_,rfl,_,_,c,rfl,rfl,z0,by rw[kL,er];simp[atI,ixN],rfl,_,rfl,aH (λh=>?_) (λ_=>rest _ _ ⟨rfl,rfl⟩)⟩;rw[IH]at h;have h':stL [c]=stL [48]:=by injection h
   have:=stL_inj.mp h'
   injection this with q
   exact absurd q hc
  rintro σ' H' ⟨rfl,rfl⟩
  have asc:(stL (aZ (n+1) m)).cps.all (·<128)=true:=by
   rw[<- Array.all_toList,kL,List.all_eq_true];intro c hc;have:=pD c hc;unfold isD at this
   simp only[SQ,decide_eq_true_eq]at this;exact decide_eq_true (by omega)
  refine⟨_,rfl,_,rfl,asc,Kp (λi σ' H'=>∃z:Option V,σ'=[some (.str (stL tx)),some (.int (n:Int)),some (.bl (decide (ng=true/\0<m))),some (.str (stL (aZ (n+1) m))),z]/\H=H') ⟨none,rfl,rfl⟩ ?_ ?_⟩
  ·rintro i c σ' H' hc ⟨z,rfl,rfl⟩
   have hD:isD c=true:=pD c (by
    have:(aZ (n+1) m)[i]?=some c:=by simpa[stL]using hc
    exact List.mem_of_getElem? this)
   refine⟨_,rfl,_,_,rfl,rfl,?_⟩;rw[Ks hD];exact⟨_,rfl,dX ⟨_,rfl,rfl⟩⟩
  rintro σ' H' ⟨z,rfl,rfl⟩;dsimp only
  have z6:(stL (aZ (n+1) m)).length<=640:=by rw[cj];omega
  refine dF (λσ' H'=>σ'=[some (.str (stL tx)),some (.int (n:Int)),some (.bl (decide (ng=true/\0<m))),some (.str (stL (aZ (n+1) m))),z]/\H=H') ?_ ?_
  case refine_2 =>intro rest;refine dG ⟨_,rfl,_,rfl,aH (λy=>?_) (λ_=>dX (rest _ _ ⟨rfl,rfl⟩))⟩;refine⟨_,rfl,_,_,rfl,z6,rd,_,_,rfl,rfl,_,rfl,aH (λh=>?_) (λ_=>rest _ _ ⟨rfl,rfl⟩)⟩;have h':(m:Int)=0:=h;have:=y.2;omega
  rintro σ' H' ⟨rfl,rfl⟩;have b2:Bits 10 (2:Int):=by show(2:Int).natAbs<2^10;decide
  have bb:Bits 10 (if decide (ng=true/\0<m)=true then(1:Int)else 0):=by split<;>(show Int.natAbs _<2^10;decide)
  have bd:Bits 100 (1-2*(if decide (ng=true/\0<m)=true then(1:Int)else 0)):=by split<;>(show Int.natAbs _<2^100;decide)
  refine aQ ⟨_,rfl,_,_,rfl,z6,rd,_,rfl,.inr ⟨_,rfl,_,_,rfl,rfl,⟨b2.mono,bb.mono⟩,_,_,rfl,rfl,_,_,rfl,rfl,⟨bm.mono,bd.mono⟩,?_⟩⟩
  have e:(m:Int)*(1-2*(if decide (ng=true/\0<m)=true then(1:Int)else 0))=if ng=true then -(m:Int)else m:=by
   by_cases h1:ng=true
   ·rw[if_pos h1];rcases S3 m with h2 |h2
    ·subst h2;simp
    ·rw[if_pos (decide_eq_true ⟨h1,h2⟩)];omega
   ·rw[if_neg h1,if_neg (λy=>h1 (of_decide_eq_true y).1)];omega
  rw[<- e]at k;exact k
theorem Kr{u v w d M:Int}{n m:Nat}(hW:WOk u v w d)(sp:Spt [u,d*v*v,w,ck v])(sp':Spt [-u,d * -v * -v,w,ck (-v)])(hF:Fig u v w d n m)(hM:M=if sgq u v d<0 then -(m:Int)else m) :
 (0<M->0<=sgq (u*(2*10^n)-(2*M-1)*w) (v*(2*10^n)) d/\sgq (u*(2*10^n)-(2*M+1)*w) (v*(2*10^n)) d<0)/\(M<0->0<sgq (u*(2*10^n)-(2*M-1)*w) (v*(2*10^n)) d/\sgq (u*(2*10^n)-(2*M+1)*w) (v*(2*10^n)) d<=0)/\(M=0->0<sgq (u*(2*10^n)-(2*M-1)*w) (v*(2*10^n)) d/\sgq (u*(2*10^n)-(2*M+1)*w) (v*(2*10^n)) d<0):=by
 obtain⟨k,em,k0,st⟩:=hF;have pB:(0:Int)<2*10^n:=by have:(0:Int)<10^n:=Rl (by decide);omega
 generalize (2:Int)*10^n=B at *
 have key:∀s:List Int,Spt s->kA s B k->(∀j,j<=k->0<=al s j B)/\(∀j,j<k->0<al s j B)/\(∀j,k+1<=j->al s j B<0):=λs hs hst=>by
  have up:∀j,j<k->0<al s j B:=λj hj=>RQ.mp λz=>by have:=dU hs pB pB (Rj hj pB) z;have:=hst.1;omega
  refine⟨λj hj=>?_,up,λj hj=>?_⟩
  ·rcases RT hj with y |y
   ·exact QE (up j y)
   ·rw[y];exact hst.1
  ·have h2:=hst.2;rcases RT hj with y |y
   ·have:=dU hs pB pB (Rj y pB) (QE h2);omega
   ·rw[<- y];exact h2
 by_cases hneg:sgq u v d<0
 ·rw[if_pos hneg]at st hM;obtain⟨q1,q2,q3⟩:=key _ sp' st
  have f:∀j:Int,sgq (u*B - -j*w) (v*B) d = -al [-u,d * -v * -v,w,ck (-v)] j B:=λj=>by
   rw[kZ hW.ns pB,<- nO hW.ns]
   congr 1<;>grind
  have e1:2*M-1 = -(2*(m:Int)+1):=by omega
  have e2:2*M+1 = -(2*(m:Int)-1):=by omega
  rw[e1,e2,f,f];have g1:=q3 (2*(m:Int)+1) (by omega);have g2:=q1 (2*(m:Int)-1) (by omega);refine⟨λz=>by omega,λz=>by omega,λz=>?_⟩;have g3:=q2 (2*(m:Int)-1) (by omega);omega
 ·rw[if_neg hneg]at st hM;obtain⟨q1,q2,q3⟩:=key _ sp st;rw[<- kZ hW.ns pB,<- kZ hW.ns pB];have g1:=q3 (2*M+1) (by omega);have g2:=q1 (2*M-1) (by omega);refine⟨λz=>by omega,λz=>by omega,λz=>?_⟩;have g3:=q2 (2*M-1) (by omega);omega
theorem Gv(F:Fun K "law" "law" qY f fd)(T:Txt K mg)(R:RCI K mg C)(RN:NCI K mg CN)(Om:Cal P w K mg base 2 "_law_worth" ["_law_script","_law_k"] (wO K) Ql Ph)(Op:Cal P w K mg base 4 "_law_span" ["_law_worth_here","_law_more"] (wX C) Qo Pk)(vN:Cal P w K mg base 1 "_law_cell_at" ["_law_script","_law_k"] (jP K) KU KE)(vM:Cal P w K mg base 3 "_law_least" ["_law_worth_here"] pO KT KD)(g7:KCal P w K mg base 1 CN "Number" ["self","row","low","high"] (g9 CN) oU oR oX [])(N0:CalE P w K mg base 39 "number" ["row","low","high"] (pN C CN) PX OW Qv [.non,.non])(Ou:Cal P w K mg base 4 "_law_padded" ["_law_worth_here","_law_span_here","_law_cell"] (xi C) Qs Pp)(Oe:CalE P w K mg base 36 "figures" ["one","places"] (pQ C CN) Qe O9 Qw [.int 6])(On:Cal P w K mg base 1 "_law_whole_of" ["_law_text","_law_places"] wP Qm Pi)(Os:Cal P w K mg base 1 "_law_power" ["_law_places"] nq Qq Pm)(Oq:Cal P w K mg base 1 "_law_sign" ["_law_u","_law_v","_law_d"] wZ Qp Pl):FnOk P w K mg base CX0 40 f fd ["_law_script"] (nC K):=by
 obtain⟨Nu,Iy,JH,Ms⟩:=Om;obtain⟨Nw,IA,JJ,Mu⟩:=Op;obtain⟨gW,gD,gJ,gR⟩:=vN;obtain⟨vz,tF,tX,vc⟩:=vM;obtain⟨gY,gU,gE,gT,o6,o0⟩:=g7;obtain⟨M9,Ia,Jo,L8,Qz,Qx⟩:=N0;obtain⟨Ny,IC,JL,Mw⟩:=Ou;obtain⟨Nn,Iq,JB,Mm,QA,Qy⟩:=Oe;obtain⟨Nv,Iz,JI,Mt⟩:=On;obtain⟨Nx,IB,JK,Mv⟩:=Os;obtain⟨B9,zH,zY,BT⟩:=Oq;refine F.ok sc_law (λvs H Q E h=>?_) (λcdv A outer s H vs Q E hr h=>?_)
 ·obtain⟨a,ns,rfl,_⟩:=h;rfl
 ·obtain⟨a,ns,rfl,hS,hlen,k⟩:=h;have big:=sizeLine_eq
  refine⟨_,(ag (ao (i:=1) sc_law.nd rfl (Or.inl rfl) (aq Nu (hr.mono) rfl Iy JH Ms .nil aj (aa (pv 0) (aa ad ac))))
   (ag (ao (i:=2) sc_law.nd rfl (Or.inl rfl) (aq Nw (hr.mono) rfl IA JJ Mu .nil aj (aa (pv 1) (aa (ai cX (aq gW (hr.mono) rfl gD gJ gR .nil aj (aa (pv 0) (aa ad ac))) ad) ac))))
   (ag (ao (i:=3) sc_law.nd rfl (Or.inl rfl) (b5 gU gY (hr.mono) rfl gE gT .nil aj (aa (aq vz (hr.mono) rfl tF tX vc .nil aj (aa (pv 1) ac)) (aa (aI (aW (K:=K) rfl) (pv 2) ad (λ_ _=>rfl)) (aa (aI (aW (K:=K) rfl) (pv 2) ad (λ_ _=>rfl)) ac)))))
   (ag (aO (aG cR (ai cX (aq gW (hr.mono) rfl gD gJ gR .nil aj (aa (pv 0) (aa ad ac))) ad) ad (aE _))
     (ak (ao (i:=3) sc_law.nd rfl (Or.inl rfl) (aq M9 (hr.mono) rfl Ia Jo L8 .nil aj (aa (aq Ny (hr.mono) rfl IC JL Mw .nil aj (aa (pv 1) (aa (pv 2) (aa (ai de (aq gW (hr.mono) rfl gD gJ gR .nil aj (aa (pv 0) (aa ad ac))) ad) ac)))) (aa (aI (aW (K:=K) rfl) (pv 2) ad (λ_ _=>rfl)) (aa (aI (aW (K:=K) rfl) (pv 2) ad (λ_ _=>rfl)) ac))))))
     aP)
   (ag (ao (i:=4) sc_law.nd rfl (Or.inl rfl) (ai cX (aq gW (hr.mono) rfl gD gJ gR .nil aj (aa (pv 0) (aa ad ac))) ad))
   (ag (ao (i:=5) sc_law.nd rfl (Or.inl rfl) (aq Nv (hr.mono) rfl Iz JI Mt .nil aj (aa (aq Nn (hr.mono) rfl Iq JB Mm .nil aj (aa (pv 3) (aa (pv 4) ac))) (aa (pv 4) ac))))
   (ag (aO (aG sM (pv 5) io (aE _))
     (ak (av Fo))
     aP)
   (ag (gv (pv 1) (ik rfl (cH (aU (i:=6) sc_law.nd rfl (Or.inl rfl)) (cH (aU (i:=7) sc_law.nd rfl (Or.inl rfl)) (cH (aU (i:=8) sc_law.nd rfl (Or.inl rfl)) (cH (aU (i:=9) sc_law.nd rfl (Or.inl rfl)) ij))))))
   (ag (ao (i:=10) sc_law.nd rfl (Or.inl rfl) (ai aJ ad (aq Nx (hr.mono) rfl IB JK Mv .nil aj (aa (pv 4) ac))))
   (ag (ao (i:=11) sc_law.nd rfl (Or.inl rfl) (aq B9 (hr.mono) rfl zH zY BT .nil aj (aa (ai ca (ai aJ (pv 6) (pv 10)) (ai aJ (ai ca (ai aJ ad (pv 5)) ad) (pv 8))) (aa (ai aJ (pv 7) (pv 10)) (aa (pv 9) ac)))))
   (ag (ao (i:=12) sc_law.nd rfl (Or.inl rfl) (aq B9 (hr.mono) rfl zH zY BT .nil aj (aa (ai ca (ai aJ (pv 6) (pv 10)) (ai aJ (ai bQ (ai aJ ad (pv 5)) ad) (pv 8))) (aa (ai aJ (pv 7) (pv 10)) (aa (pv 9) ac)))))
   (ag (aO (aG cQ (pv 5) ad (aE _))
     (ak (av (sG (dH jY (pv 11) ad (aE _)) (oi (dH cY (pv 12) ad (aE _))))))
     aP)
   (ag (aO (aG cY (pv 5) ad (aE _))
     (ak (av (sG (dH cQ (pv 11) ad (aE _)) (oi (dH oj (pv 12) ad (aE _))))))
     aP)
   (ak (av (sG (dH cQ (pv 11) ad (aE _)) (oi (dH cY (pv 12) ad (aE _))))))))))))))))))),?_⟩
  refine aw ⟨_,rfl,a,ns,rfl,hS,λp H1 u v w d s1 hp1 hp hW=>?_⟩;obtain⟨m0,m1⟩:=i7 (x:=ns.getD 3 0) (m:=60) (by decide);refine aw ⟨_,rfl,_,rfl,a,ns,3,rfl,s1.seq hS,_,_,rfl,rfl,(by show(0:Int)<60;decide),p,u,v,w,d,_,rfl,hp,hW,m0,m1,λt l h H2 l1 l2 h1 h2 s2 ht et hl hh hE=>?_⟩;have t2:=s1.trans s2;have hp2:=s2 _ _ hp;obtain⟨en,ol,oh,lU,hU⟩:=vQ hW m0 m1 hE;have eLs:cO u v w d=ah [u,d*v*v,w]:=oC (by have:=hW.d2;omega);have mk:∀{H':Hp} {x q:Addr},Same H2 H'->NA CN H' x q l h->H' q=some (.lst ((cO u v w d).map V.int))->WN C CN H' x u v w d l1 l2 h1 h2:=λsm na e=>⟨⟨_,_,_,na,e,hl.same sm,hh.same sm⟩,en,ol,oh,lU,hU,hW⟩
  refine aw ⟨_,rfl,p,u,v,w,d,rfl,hp2,hW,λb H3 s3 hb eb=>?_⟩;have et3:=s3 _ _ et;refine⟨_,rfl,t,_,_,_,rfl,rfl,SqT.of et3,rfl,_,rfl,t,_,_,_,rfl,rfl,SqT.of et3,rfl,lY eb λx q H4 s4 hx hNA hq hqn=>?_⟩;have u4:=s3.trans s4;have t4:=t2.trans u4;show cM _ _ _ _ _;refine dF (λσ' H'=>∃x:Addr,σ'=[some (.ref a),some (.ref p),some (.ref t),some (.ref x),none,none,none,none,none,none,none,none,none]/\Same H2 H'/\WN C CN H' x u v w d l1 l2 h1 h2) ?_ ?_
  case refine_2 =>
   intro rest;refine⟨_,rfl,a,ns,4,rfl,t4.seq hS,_,_,rfl,rfl,(by show(0:Int)<2;decide),_,_,rfl,rfl,_,rfl,aH (λ_=>?_) (λ_=>?_)⟩
   ·have et4:=u4 _ _ et;refine cG ⟨_,rfl,_,rfl,_,rfl,a,ns,4,rfl,t4.seq hS,_,_,rfl,rfl,⟨by show(0:Int)<2;decide,fu (by decide) (by decide)⟩,p,t,l,h,u,v,w,d,l1,l2,_,rfl,u4 _ _ hp2,hW,et4,hl.same u4,hE.l2p,hE.bl1,hE.bl2,hE.gl,λmm A1 B1 D1 c hPad pk H5 s5 hpk ek=>?_⟩;obtain⟨hM,hfl,hOW⟩:=Ft hW m0 m1 hE hPad;generalize whl c (usP (ah [u,d*v*v,w]) mm (A1++(B1++D1)))=kp at ek hM
    have u5:=u4.trans s5;have et5:=u5 _ _ et;refine⟨_,rfl,t,_,_,_,rfl,rfl,SqT.of et5,rfl,_,rfl,t,_,_,_,rfl,rfl,SqT.of et5,rfl,pk,l,h,kp,c,_,_,_,_,l1,l2,h1,h2,rfl,ek,hl.same u5,hh.same u5,hM,hfl,hOW,λx q H6 s6 hx hNA hq hqn=>?_⟩;rw[<- eLs]at hq;exact rest _ _ ⟨x,rfl,u5.trans s6,mk (u5.trans s6) hNA hq⟩
   ·exact rest _ _ ⟨x,rfl,u4,mk u4 hNA hq⟩
  clear hq hNA hqn hx t4 u4 s4 et3 s3 eb hb;rintro σ' H5 ⟨x,rfl,u5,hN⟩;have t5:=t2.trans u5;have hp5:=u5 _ _ hp2;obtain⟨ε,hG⟩:=hN.sg;have hGs:=hG.spt
  have hGs':Spt [-u,d * -v * -v,w,ck (-v)]:=by
   obtain⟨u',e',b',s',e,h1,h2,h3⟩:=hGs.is;have e1:e'=d*v*v:=by injection e with _ q;injection q with q _;exact q.symm
   have e2:b'=w:=by injection e with _ q;injection q with _ q;injection q with q _;exact q.symm
   refine⟨_,_,_,_,rfl,?_,by omega,by unfold ck;split<;>simp⟩;rw[show d * -v * -v=d*v*v by grind];omega
  obtain⟨n0,n1⟩:=i7 (x:=ns.getD 5 0) (m:=41) (by decide);obtain⟨n,en'⟩:∃n:Nat,ns.getD 5 0%41=(n:Int):=⟨(ns.getD 5 0%41).toNat,by omega⟩;have hn:n<=40:=by omega
  refine aw ⟨_,rfl,a,ns,5,rfl,t5.seq hS,_,_,rfl,rfl,(by show(0:Int)<41;decide),?_⟩;show cM _ _ _ _ _;refine dD (λσ' H'=>σ'=[some (.ref a),some (.ref p),some (.ref t),some (.ref x),some (.int (n:Int)),none,none,none,none,none,none,none,none]/\H5=H') ⟨by rw[<- en'];rfl,rfl⟩ ?_;rintro σ' H' ⟨rfl,rfl⟩;refine aw ⟨_,rfl,_,rfl,x,u,v,w,d,l1,l2,h1,h2,n,rfl,hN,hn,λm H6 s6 hF hm=>⟨_,rfl,_,m,n,rfl,hn,hm,?_⟩⟩;have hM:(if decide (sgq u v d<0)=true then -(m:Int)else(m:Int))=if sgq u v d<0 then -(m:Int)else m:=by simp
  generalize (if decide (sgq u v d<0)=true then -(m:Int)else(m:Int))=M at hM ⊢
  have bM:Bits 900 M:=by
   show M.natAbs<2^900;have:M.natAbs=m:=by rw[hM];split<;>simp
   rw[this];exact hm
  obtain⟨f1,f2,f3⟩:=Kr hW hGs hGs' hF hM;have hp6:=s6 _ _ hp5;refine bI ⟨_,rfl,rfl,_,rfl,aH (λz=>nomatch z) (λ_=>?_)⟩;refine⟨_,rfl,p,_,rfl,SqT.of hp6,rfl,_,_,rfl,_,_,rfl,_,_,rfl,_,_,rfl,rfl,?_⟩;dsimp only
  refine dD (λσ' H'=>σ'=[some (.ref a),some (.ref p),some (.ref t),some (.ref x),some (.int (n:Int)),some (.int M),some (.int u),some (.int v),some (.int w),some (.int d),none,none,none]/\H6=H') ⟨rfl,rfl⟩ ?_;rintro σ' H' ⟨rfl,rfl⟩;have b2:Bits 2 (2:Int):=by show(2:Int).natAbs<2^2;decide
  refine aw ⟨_,rfl,n,rfl,by omega,_,_,rfl,rfl,⟨d9,(jJ (n:=n) (by omega)).mono⟩,?_⟩;have bB:Bits 210 ((2:Int)*10^n):=(b2.mul (jJ (n:=n) (by omega))).mono;show cM _ _ _ _ _;refine dD (λσ' H'=>σ'=[some (.ref a),some (.ref p),some (.ref t),some (.ref x),some (.int (n:Int)),some (.int M),some (.int u),some (.int v),some (.int w),some (.int d),some (.int (2*10^n)),none,none]/\H6=H') ⟨rfl,rfl⟩ ?_;rintro σ' H' ⟨rfl,rfl⟩;generalize (2:Int)*10^n=B at *
  have buB:Bits 300 (u*B):=(hW.bu.mul bB).mono;have bvB:Bits 300 (v*B):=(hW.bv.mul bB).mono;have b2M:Bits 905 (2*M):=(b2.mul bM).mono;have b1:Bits 905 (1:Int):=b1k (by decide);have bl:Bits 910 (2*M-1):=(b2M.sub b1).mono;have bh:Bits 910 (2*M+1):=(b2M.add b1).mono;have blw:Bits 950 ((2*M-1)*w):=(bl.mul hW.bw).mono;have bhw:Bits 950 ((2*M+1)*w):=(bh.mul hW.bw).mono;have q1:Bits 951 (u*B-(2*M-1)*w):=(buB.mono).sub blw;have q2:Bits 951 (u*B-(2*M+1)*w):=(buB.mono).sub bhw;refine aw ⟨_,rfl,_,rfl,_,_,rfl,rfl,⟨hW.bu.mono,bB.mono⟩,_,rfl,_,_,rfl,rfl,⟨d9,bM.mono⟩,_,_,rfl,rfl,_,rfl,_,_,rfl,rfl,⟨bl.mono,hW.bw.mono⟩,_,_,rfl,rfl,_,rfl,_,rfl,_,_,rfl,rfl,⟨hW.bv.mono,bB.mono⟩,_,rfl,_,_,_,rfl,q1.mono,bvB.mono,hW.bd.mono,?_⟩;refine aw ⟨_,rfl,_,rfl,_,_,rfl,rfl,⟨hW.bu.mono,bB.mono⟩,_,rfl,_,_,rfl,rfl,⟨d9,bM.mono⟩,_,_,rfl,rfl,_,rfl,_,_,rfl,rfl,⟨bh.mono,hW.bw.mono⟩,_,_,rfl,rfl,_,rfl,_,rfl,_,_,rfl,rfl,⟨hW.bv.mono,bB.mono⟩,_,rfl,_,_,_,rfl,q2.mono,bvB.mono,hW.bd.mono,?_⟩;show cM _ _ _ _ _;refine dD (λσ' H'=>σ'=[some (.ref a),some (.ref p),some (.ref t),some (.ref x),some (.int (n:Int)),some (.int M),some (.int u),some (.int v),some (.int w),some (.int d),some (.int B),some (.int (sgq (u*B-(2*M-1)*w) (v*B) d)),some (.int (sgq (u*B-(2*M+1)*w) (v*B) d))]/\H6=H') ⟨rfl,rfl⟩ ?_;rintro σ' H' ⟨rfl,rfl⟩;generalize sgq (u*B-(2*M-1)*w) (v*B) d=Ab at *
  generalize sgq (u*B-(2*M+1)*w) (v*B) d=Un at *
  have tt:∀b:Bool,b=true->Q (.bl b) H6:=λb e=>by rw[e];exact k H6
  refine bI ⟨_,rfl,_,_,rfl,rfl,_,rfl,aH (λz=>?_) (λz1=>?_)⟩
  ·obtain⟨g1,g2⟩:=f1 z;exact aQ (sk ⟨_,rfl,_,_,rfl,rfl,_,rfl,by rw[decide_eq_true (show(0:Int)<=Ab from g1)];exact li ⟨_,rfl,_,_,rfl,rfl,tt _ (decide_eq_true g2)⟩⟩)
  refine bI ⟨_,rfl,_,_,rfl,rfl,_,rfl,aH (λz=>?_) (λz2=>?_)⟩
  ·obtain⟨g1,g2⟩:=f2 z;exact aQ (sk ⟨_,rfl,_,_,rfl,rfl,_,rfl,by rw[decide_eq_true (show(0:Int)<Ab from g1)];exact li ⟨_,rfl,_,_,rfl,rfl,tt _ (decide_eq_true g2)⟩⟩)
  have z1':¬0<M:=z1;have z2':¬M<0:=z2;obtain⟨g1,g2⟩:=f3 (by omega);exact aQ (sk ⟨_,rfl,_,_,rfl,rfl,_,rfl,by rw[decide_eq_true (show(0:Int)<Ab from g1)];exact li ⟨_,rfl,_,_,rfl,rfl,tt _ (decide_eq_true g2)⟩⟩)
end
def FnL(K:PySem.W.Frag)(n:Str)(st:Stmt):Prop:=∃f fd,PySem.W.nsIn K mainGlobals n=some (some (.ref f))/\Fun K n n st f fd
def MtL(K:PySem.W.Frag)(C:Addr)(n q:Str)(st:Stmt):Prop:=∃f fd,PySem.W.findIn K (.ref C) n=some (some (.ref f))/\PySem.W.isFn K (.ref f)=true/\Fun K n q st f fd
structure ClL(K:PySem.W.Frag)(n:Str)(C:Addr):Prop where
 a:PySem.W.nsIn K mainGlobals n=some (some (.ref C))
 pg:PySem.W.plainGet K C Str.empty=true
 hd:PySem.W.hasDictIn K C=true
 po:PySem.W.plainOver K C=true
 sa:PySem.W.findIn K (.ref C) "__setattr__"=some (some (.builtin "object.__setattr__"))
 mkr:PySem.W.makesIn K C=true
 kc:PySem.W.keepIn K (.ref C)=true
 ha:PySem.W.findIn K (.ref C) "__class__"=some (some (.builtin "object.__class__"))
 hn:PySem.W.specialIn K (.builtin "object.__class__") "__get__"=some (some (.builtin "getset_descriptor.__get__"))
 ht:PySem.W.takesIn K (.builtin "object.__class__")=some true
 hm:PySem.W.mroIn K C (.type "object")=some true
section
variable {P:Program}{w:World}{K:PySem.W.Frag}{mg:Str->Option Value}{h base:Heap}{n q:Str}{st:Stmt}{f C:Addr}{oc kV dc pm cd ct:Value}{od an:Option Addr}{sl:Array (Option Value)}{fd:FuncData}{k:Nat}{ps:List Str}{sp:Sp}
theorem fnL(a:PySem.W.nsIn K mainGlobals n=some (some (.ref f)))(l:K.lookup f=some ⟨oc,od,.func (PySem.W.fnOf n n (dQ st) (dk st) (aD st) .none kV dc pm an cd ct),sl⟩)(c:PySem.W.codeIn K cd n=true)(k:PySem.W.keepIn K (.ref f)=true):FnL K n st:=⟨_,_,a,AC l c k⟩
theorem mtL(a:PySem.W.findIn K (.ref C) n=some (some (.ref f)))(i:PySem.W.isFn K (.ref f)=true)(l:K.lookup f=some ⟨oc,od,.func (PySem.W.fnOf n q (dQ st) (dk st) (aD st) .none kV dc pm an cd ct),sl⟩)(c:PySem.W.codeIn K cd q=true)(k:PySem.W.keepIn K (.ref f)=true):MtL K C n q st:=⟨_,_,a,i,AC l c k⟩
def Bx(P:Program)(w:World)(base:Heap):Prop:=P=P/\w=w/\base=base
def BdR(n q:Str)(st:Stmt)(ps:List Str):Prop:=∀(kV doc pm:Value) (an:Option Addr) (cdv ct:Value) (us:List Value),us.length=ps.length->bindArgs (PySem.W.fnOf n q (dQ st) (dk st) (aD st) .none kV doc pm an cdv ct) ⟨us,[]⟩=pure (ps.zip us)
theorem cal(_:Bx P w base)(X:K.In h)(G:h.Ns mainGlobals mg)(a:PySem.W.nsIn K mainGlobals n=some (some (.ref f)))(F:Fun K n n st f fd)(o:FnOk P w K mg base CX0 k f fd ps sp)(b:BdR n n st ps):Cal P w K mg base k n ps sp f fd:=⟨o,PySem.W.mg_of X G a,F.kp,F.binds b⟩
theorem lX(_:Bx P w base)(a:PySem.W.findIn K (.ref C) n=some (some (.ref f)))(i:PySem.W.isFn K (.ref f)=true)(F:Fun K n q st f fd)(o:FnOk P w K mg base CX0 k f fd ps sp)(b:BdR n q st ps):MCal P w K mg base k C n ps sp f fd:=⟨o,⟨a,i,F.kp⟩,F.binds b⟩
theorem us1{A:List Value->Prop}(h:∀a,A [a]):∀us:List Value,us.length=1->A us
 | [a],_=>h a
theorem us2{A:List Value->Prop}(h:∀a b,A [a,b]):∀us:List Value,us.length=2->A us
 | [a,b],_=>h a b
theorem us3{A:List Value->Prop}(h:∀a b c,A [a,b,c]):∀us:List Value,us.length=3->A us
 | [a,b,c],_=>h a b c
theorem us4{A:List Value->Prop}(h:∀a b c d,A [a,b,c,d]):∀us:List Value,us.length=4->A us
 | [a,b,c,d],_=>h a b c d
end
theorem all_mk{l:PySem.W.OpenLaw}{w:World}{K:PySem.W.Frag}{h:Heap}{mg:Str->Option Value}{fa CC1 CC2 f4 dt4 f53 dt53 f66 dt66:Addr}(X:K.In h)(G:h.Ns mainGlobals mg)(hfa:mg "law"=some (.ref fa))
 {od4 an4 odt4 od53 an53 odt53 od66 an66 odt66:Option Addr} {sl4 slt4 sl53 slt53 sl66 slt66:Array (Option Value)} {oc4 kV4 dc4 pm4 cd4 ct4 oct4 oc53 kV53 dc53 pm53 cd53 ct53 oct53 oc66 kV66 dc66 pm66 cd66 ct66 oct66:Value} {nt4:Nat} {tk4_0:Tok} {nt53:Nat} {nt66:Nat} {tk66_0:Tok} {tk_HIGHEST:Tok}
 (cc1:ClL K "Ratio" CC1)
 (n1_top:PySem.W.findIn K (.ref CC1) "top"=some none)
 (n1_bottom:PySem.W.findIn K (.ref CC1) "bottom"=some none)
 (cc2:ClL K "Number" CC2)
 (n2_poly:PySem.W.findIn K (.ref CC2) "poly"=some none)
 (n2_low:PySem.W.findIn K (.ref CC2) "low"=some none)
 (n2_high:PySem.W.findIn K (.ref CC2) "high"=some none)
 (a4:PySem.W.findIn K (.ref CC1) "__init__"=some (some (.ref f4))) (i4:PySem.W.isFn K (.ref f4)=true)
 (l4:K.lookup f4=some ⟨oc4,od4,.func (PySem.W.fnOf "__init__" "Ratio.__init__" (dQ jS) (dk jS) (aD jS) (.ref dt4) kV4 dc4 pm4 an4 cd4 ct4),sl4⟩) (c4:PySem.W.codeIn K cd4 "Ratio.__init__"=true) (k4:PySem.W.keepIn K (.ref f4)=true)
 (t4:K.lookup dt4=some ⟨oct4,odt4,.seq #[.int 1 tk4_0] nt4,slt4⟩)
 (a53:PySem.W.nsIn K mainGlobals "number"=some (some (.ref f53)))
 (l53:K.lookup f53=some ⟨oc53,od53,.func (PySem.W.fnOf "number" "number" (dQ jQ) (dk jQ) (aD jQ) (.ref dt53) kV53 dc53 pm53 an53 cd53 ct53),sl53⟩) (c53:PySem.W.codeIn K cd53 "number"=true) (k53:PySem.W.keepIn K (.ref f53)=true)
 (t53:K.lookup dt53=some ⟨oct53,odt53,.seq #[.none,.none] nt53,slt53⟩)
 (a66:PySem.W.nsIn K mainGlobals "figures"=some (some (.ref f66)))
 (l66:K.lookup f66=some ⟨oc66,od66,.func (PySem.W.fnOf "figures" "figures" (dQ jR) (dk jR) (aD jR) (.ref dt66) kV66 dc66 pm66 an66 cd66 ct66),sl66⟩) (c66:PySem.W.codeIn K cd66 "figures"=true) (k66:PySem.W.keepIn K (.ref f66)=true)
 (t66:K.lookup dt66=some ⟨oct66,odt66,.seq #[.int 6 tk66_0] nt66,slt66⟩)
 (aI_HIGHEST:PySem.W.nsIn K mainGlobals "HIGHEST"=some (some (.int 8 tk_HIGHEST)))
 (z0:PySem.W.nsIn K mainGlobals "abs"=some none)
 (z1:PySem.W.nsIn K mainGlobals "str"=some none)
 (z2:PySem.W.nsIn K mainGlobals "len"=some none)
 (z3:PySem.W.nsIn K mainGlobals "max"=some none)
 (z4:PySem.W.nsIn K mainGlobals "range"=some none)
 (z5:PySem.W.nsIn K mainGlobals "enumerate"=some none)
 (z6:PySem.W.nsIn K mainGlobals "reversed"=some none)
 (z7:PySem.W.nsIn K mainGlobals "list"=some none)
 (z8:PySem.W.nsIn K mainGlobals "sum"=some none)
 (z9:PySem.W.nsIn K mainGlobals "any"=some none)
 (z10:PySem.W.nsIn K mainGlobals "int"=some none)
 (z11:PySem.W.nsIn K mainGlobals "isinstance"=some none)
 (l1:FnL K "shared_by_two" qB)
 (l2:FnL K "shared" qC)
 (l3:FnL K "whole_sign" qj)
 (l5:MtL K CC1 "against" "Ratio.against" rY)
 (l6:FnL K "poly" qI)
 (l7:FnL K "degree" rj)
 (l8:FnL K "coefficient" rq)
 (l9:FnL K "taken" qq)
 (l10:FnL K "slope" qy)
 (l11:FnL K "shrunk" nU)
 (l12:FnL K "plain" qJ)
 (l13:FnL K "scaled" qD)
 (l14:FnL K "lowered" qV)
 (l15:FnL K "divided" rh)
 (l16:FnL K "value_parts" qk)
 (l17:FnL K "sign_at" qA)
 (l18:FnL K "row_from" qF)
 (l19:FnL K "row_of" qE)
 (l20:FnL K "changes" rz)
 (l21:FnL K "count" rk)
 (l22:FnL K "bound" rB)
 (l23:FnL K "common" rm)
 (l24:FnL K "part" qK)
 (l25:FnL K "refuse_high" qG)
 (l26:FnL K "without_squares" qh)
 (l27:MtL K CC2 "__init__" "Number.__init__" rZ)
 (l28:FnL K "fine_width" re)
 (l29:MtL K CC1 "floor" "Ratio.floor" rX)
 (l30:FnL K "middle" qT)
 (l31:FnL K "cells" rA)
 (l32:FnL K "divides" rf)
 (l33:FnL K "added" rF)
 (l34:FnL K "multiplied" qR)
 (l35:MtL K CC1 "plus" "Ratio.plus" rV)
 (l36:MtL K CC1 "minus" "Ratio.minus" rW)
 (l37:MtL K CC1 "times" "Ratio.times" rT)
 (l38:FnL K "times_floor" qo)
 (l39:FnL K "span_product" qw)
 (l40:FnL K "square_of" qu)
 (l41:FnL K "line_of" qW)
 (l42:FnL K "halvings" qZ)
 (l43:FnL K "stretched" qr)
 (l44:FnL K "spread" qv)
 (l45:FnL K "moved" qS)
 (l46:FnL K "halved" q8)
 (l47:FnL K "along" rD)
 (l48:FnL K "narrowed" qP)
 (l49:FnL K "many_within" qU)
 (l50:FnL K "refuse_great" qH)
 (l51:FnL K "least" qX)
 (l52:FnL K "number_in" qN)
 (l54:FnL K "span_of" qx)
 (l55:FnL K "narrow" qQ)
 (l56:FnL K "beside" rC)
 (l57:FnL K "against" rE)
 (l58:FnL K "sign_of" qz)
 (l59:FnL K "turned" qm)
 (l60:FnL K "only_root" qM)
 (l61:FnL K "opposite" qL)
 (l62:FnL K "whole_text" qi)
 (l63:FnL K "steps" qt)
 (l64:FnL K "nearest" qO)
 (l65:FnL K "ten_to" qp)
 (l67:FnL K "_law_cell_at" rR)
 (l68:FnL K "_law_divisor" rQ)
 (l69:FnL K "_law_sign" rL)
 (l70:FnL K "_law_plain" rN)
 (l71:FnL K "_law_least" rP)
 (l72:FnL K "_law_amount" rS)
 (l73:FnL K "_law_worth" rG)
 (l74:FnL K "_law_span" rK)
 (l75:FnL K "_law_times" rJ)
 (l76:FnL K "_law_padded" rO)
 (l77:FnL K "_law_power" rM)
 (l78:FnL K "_law_whole_of" rH)
 (l79:FnL K "law" qY)
 (hTr:l.prog.given.tree=none)
 : ∃fd:FuncData,(∀(s:Shared) (v:Value),BindsTo s fd ⟨[v],[]⟩ [("_law_script",v)])/\∀base:Heap,K.In base->base.Ns mainGlobals mg->base.NoSeer->FnOk l.prog w K mg base CX0 40 fa fd ["_law_script"] (nC K):=by
 obtain⟨_,_,a1,F1⟩:=l1;obtain⟨_,_,a2,F2⟩:=l2;obtain⟨_,_,a3,F3⟩:=l3;obtain⟨_,_,a5,i5,F5⟩:=l5;obtain⟨_,_,a6,F6⟩:=l6;obtain⟨_,_,a7,F7⟩:=l7;obtain⟨_,_,a8,F8⟩:=l8;obtain⟨_,_,a9,F9⟩:=l9;obtain⟨_,_,a10,F10⟩:=l10;obtain⟨_,_,a11,F11⟩:=l11;obtain⟨_,_,a12,F12⟩:=l12;obtain⟨_,_,a13,F13⟩:=l13;obtain⟨_,_,a14,F14⟩:=l14;obtain⟨_,_,a15,F15⟩:=l15;obtain⟨_,_,a16,F16⟩:=l16;obtain⟨_,_,a17,F17⟩:=l17;obtain⟨_,_,a18,F18⟩:=l18;obtain⟨_,_,a19,F19⟩:=l19;obtain⟨_,_,a20,F20⟩:=l20;obtain⟨_,_,a21,F21⟩:=l21;obtain⟨_,_,a22,F22⟩:=l22;obtain⟨_,_,a23,F23⟩:=l23;obtain⟨_,_,a24,F24⟩:=l24;obtain⟨_,_,a25,F25⟩:=l25;obtain⟨_,_,a26,F26⟩:=l26;obtain⟨_,_,a27,i27,F27⟩:=l27;obtain⟨_,_,a28,F28⟩:=l28;obtain⟨_,_,a29,i29,F29⟩:=l29;obtain⟨_,_,a30,F30⟩:=l30;obtain⟨_,_,a31,F31⟩:=l31;obtain⟨_,_,a32,F32⟩:=l32;obtain⟨_,_,a33,F33⟩:=l33;obtain⟨_,_,a34,F34⟩:=l34;obtain⟨_,_,a35,i35,F35⟩:=l35;obtain⟨_,_,a36,i36,F36⟩:=l36;obtain⟨_,_,a37,i37,F37⟩:=l37;obtain⟨_,_,a38,F38⟩:=l38;obtain⟨_,_,a39,F39⟩:=l39;obtain⟨_,_,a40,F40⟩:=l40;obtain⟨_,_,a41,F41⟩:=l41;obtain⟨_,_,a42,F42⟩:=l42;obtain⟨_,_,a43,F43⟩:=l43;obtain⟨_,_,a44,F44⟩:=l44;obtain⟨_,_,a45,F45⟩:=l45;obtain⟨_,_,a46,F46⟩:=l46;obtain⟨_,_,a47,F47⟩:=l47;obtain⟨_,_,a48,F48⟩:=l48;obtain⟨_,_,a49,F49⟩:=l49;obtain⟨_,_,a50,F50⟩:=l50;obtain⟨_,_,a51,F51⟩:=l51;obtain⟨_,_,a52,F52⟩:=l52;obtain⟨_,_,a54,F54⟩:=l54;obtain⟨_,_,a55,F55⟩:=l55;obtain⟨_,_,a56,F56⟩:=l56;obtain⟨_,_,a57,F57⟩:=l57;obtain⟨_,_,a58,F58⟩:=l58;obtain⟨_,_,a59,F59⟩:=l59;obtain⟨_,_,a60,F60⟩:=l60;obtain⟨_,_,a61,F61⟩:=l61;obtain⟨_,_,a62,F62⟩:=l62;obtain⟨_,_,a63,F63⟩:=l63;obtain⟨_,_,a64,F64⟩:=l64;obtain⟨_,_,a65,F65⟩:=l65;obtain⟨_,_,a67,F67⟩:=l67;obtain⟨_,_,a68,F68⟩:=l68;obtain⟨_,_,a69,F69⟩:=l69;obtain⟨_,_,a70,F70⟩:=l70;obtain⟨_,_,a71,F71⟩:=l71;obtain⟨_,_,a72,F72⟩:=l72;obtain⟨_,_,a73,F73⟩:=l73;obtain⟨_,_,a74,F74⟩:=l74;obtain⟨_,_,a75,F75⟩:=l75;obtain⟨_,_,a76,F76⟩:=l76;obtain⟨_,_,a77,F77⟩:=l77;obtain⟨_,_,a78,F78⟩:=l78;obtain⟨_,fdL,a79,F79⟩:=l79;cases hfa.symm.trans (PySem.W.mg_of X G a79);have T:Txt K mg:=⟨PySem.W.mg_none_of X G z0,PySem.W.mg_none_of X G z1,PySem.W.mg_none_of X G z2,PySem.W.mg_none_of X G z3,PySem.W.mg_none_of X G z4,PySem.W.mg_none_of X G z5,PySem.W.mg_none_of X G z6,PySem.W.mg_none_of X G z7,PySem.W.mg_none_of X G z8,PySem.W.mg_none_of X G z9,PySem.W.mg_none_of X G z10,PySem.W.mg_none_of X G z11,⟨_,PySem.W.mg_of X G aI_HIGHEST⟩⟩;have R1:RCI K mg CC1:=⟨⟨cc1.pg,cc1.hd,cc1.po,cc1.sa⟩,n1_top,n1_bottom,PySem.W.mg_of X G cc1.a,cc1.ha,cc1.hn,cc1.ht,cc1.hm⟩;have R2:NCI K mg CC2:=⟨⟨cc2.pg,cc2.hd,cc2.po,cc2.sa⟩,n2_poly,n2_low,n2_high,PySem.W.mg_of X G cc2.a,cc2.ha,cc2.hn,cc2.ht,cc2.hm⟩;have F4:=uf (st:=jS) l4 c4 k4;have b4:=FunD.bindsD (ps:=["self","top","bottom"]) (ds:=[]) (tup:=[.int 1 tk4_0]) 3 F4 t4 rfl rfl λ_ _ _ _ _ _=>us3 λ_ _ _=>⟨_,rfl,rfl⟩
 have bD4:=FunD.bindsD (ps:=["self","top","bottom"]) (ds:=[.int 1 tk4_0]) (tup:=[.int 1 tk4_0]) 2 F4 t4 rfl rfl λ_ _ _ _ _ _=>us2 λ_ _=>⟨_,rfl,rfl⟩
 have F53:=uf (st:=jQ) l53 c53 k53;have b53:=FunD.bindsD (ps:=["row","low","high"]) (ds:=[]) (tup:=[.none,.none]) 3 F53 t53 rfl rfl λ_ _ _ _ _ _=>us3 λ_ _ _=>⟨_,rfl,rfl⟩
 have bD53:=FunD.bindsD (ps:=["row","low","high"]) (ds:=[.none,.none]) (tup:=[.none,.none]) 1 F53 t53 rfl rfl λ_ _ _ _ _ _=>us1 λ_=>⟨_,rfl,rfl⟩
 have F66:=uf (st:=jR) l66 c66 k66;have b66:=FunD.bindsD (ps:=["one","places"]) (ds:=[]) (tup:=[.int 6 tk66_0]) 2 F66 t66 rfl rfl λ_ _ _ _ _ _=>us2 λ_ _=>⟨_,rfl,rfl⟩
 have bD66:=FunD.bindsD (ps:=["one","places"]) (ds:=[.int 6 tk66_0]) (tup:=[.int 6 tk66_0]) 1 F66 t66 rfl rfl λ_ _ _ _ _ _=>us1 λ_=>⟨_,rfl,rfl⟩
 obtain⟨_,_,_,_,_,_,_,_,_,e,_,_⟩:=F79.ex;refine⟨fdL,λs v=>.of_eq (by rw[e];rfl),λbase KB GB hNS=>?_⟩;have Z:Bx l.prog w base:=⟨rfl,rfl,rfl⟩;have C1:=cal Z X G a1 F1 (FV F1 T) λ_ _ _ _ _ _=>us2 λ_ _=>rfl
 have C2:=cal Z X G a2 F2 (FW F2 T C1) λ_ _ _ _ _ _=>us1 λ_=>rfl
 have C3:=cal Z X G a3 F3 (FF F3 T) λ_ _ _ _ _ _=>us1 λ_=>rfl
 have K1:KCal l.prog w K mg base 2 CC1 "Ratio" ["self","top","bottom"] (da CC1) _ _ _ [.int 1]:=⟨G5 F4 T R1 C1,⟨cc1.mkr,a4,i4,cc1.kc⟩,PySem.W.mg_of X G cc1.a,b4,bD4,.cons ⟨_,rfl⟩ .nil⟩;have C5:=lX Z a5 i5 F5 (G4 F5 T R1 C3) λ_ _ _ _ _ _=>us2 λ_ _=>rfl
 have C6:=cal Z X G a6 F6 (Gc F6 T) λ_ _ _ _ _ _=>us1 λ_=>rfl
 have C7:=cal Z X G a7 F7 (GD F7 T) λ_ _ _ _ _ _=>us1 λ_=>rfl
 have C8:=cal Z X G a8 F8 (GG F8 T) λ_ _ _ _ _ _=>us2 λ_ _=>rfl
 have C9:=cal Z X G a9 F9 (FK F9 T C6 C8) λ_ _ _ _ _ _=>us2 λ_ _=>rfl
 have C10:=cal Z X G a10 F10 (FR F10 T) λ_ _ _ _ _ _=>us1 λ_=>rfl
 have C11:=cal Z X G a11 F11 (FU F11 T hNS hTr C2) λ_ _ _ _ _ _=>us1 λ_=>rfl
 have C12:=cal Z X G a12 F12 (Gd F12 T C11) λ_ _ _ _ _ _=>us1 λ_=>rfl
 have C13:=cal Z X G a13 F13 (FX F13 T) λ_ _ _ _ _ _=>us2 λ_ _=>rfl
 have C14:=cal Z X G a14 F14 (Gr F14 T) λ_ _ _ _ _ _=>us4 λ_ _ _ _=>rfl
 have C15:=cal Z X G a15 F15 (GC F15 T C3 C7 C13 C14 C6) λ_ _ _ _ _ _=>us2 λ_ _=>rfl
 have C16:=cal Z X G a16 F16 (FG F16 T) λ_ _ _ _ _ _=>us3 λ_ _ _=>rfl
 have C17:=cal Z X G a17 F17 (FT F17 T R1 C16 C3) λ_ _ _ _ _ _=>us2 λ_ _=>rfl
 have C18:=cal Z X G a18 F18 (FZ F18 T C11 C15 C9) λ_ _ _ _ _ _=>us2 λ_ _=>rfl
 have C19:=cal Z X G a19 F19 (FY F19 T C18 C10) λ_ _ _ _ _ _=>us1 λ_=>rfl
 have C20:=cal Z X G a20 F20 (GH F20 T R1 C17) λ_ _ _ _ _ _=>us2 λ_ _=>rfl
 have C21:=cal Z X G a21 F21 (GE F21 T R1 C20) λ_ _ _ _ _ _=>us3 λ_ _ _=>rfl
 have C22:=cal Z X G a22 F22 (GJ F22 T) λ_ _ _ _ _ _=>us1 λ_=>rfl
 have C23:=cal Z X G a23 F23 (GF F23 T C12 C15) λ_ _ _ _ _ _=>us2 λ_ _=>rfl
 have C24:=cal Z X G a24 F24 (Ge F24 T C15 C12) λ_ _ _ _ _ _=>us2 λ_ _=>rfl
 have C25:=cal Z X G a25 F25 (Ga F25 T) λ_ _ _ _ _ _=>us1 λ_=>rfl
 have C26:=cal Z X G a26 F26 (FD F26 T C24 C23 C10) λ_ _ _ _ _ _=>us1 λ_=>rfl
 have b27:Binds K _ ["self","row","low","high"] []:=F27.binds (λ_ _ _ _ _ _=>us4 λ_ _ _ _=>rfl);have K2:KCal l.prog w K mg base 1 CC2 "Number" ["self","row","low","high"] (g9 CC2) _ _ _ []:=⟨G6 F27 T R2,⟨cc2.mkr,a27,i27,cc2.kc⟩,PySem.W.mg_of X G cc2.a,b27,b27,.nil⟩;have C28:=cal Z X G a28 F28 (Gy F28 T R1 K1 C22) λ_ _ _ _ _ _=>us1 λ_=>rfl
 have C29:=lX Z a29 i29 F29 (G3 F29 T R1) λ_ _ _ _ _ _=>us1 λ_=>rfl
 have C30:=cal Z X G a30 F30 (Gp F30 T R1 K1) λ_ _ _ _ _ _=>us2 λ_ _=>rfl
 have C31:=cal Z X G a31 F31 (GI F31 T R1 C7 C19 K1 C22 C20 C30) λ_ _ _ _ _ _=>us1 λ_=>rfl
 have C32:=cal Z X G a32 F32 (GA F32 T C15) λ_ _ _ _ _ _=>us2 λ_ _=>rfl
 have C33:=cal Z X G a33 F33 (GN F33 T C6 C8) λ_ _ _ _ _ _=>us2 λ_ _=>rfl
 have C34:=cal Z X G a34 F34 (Gn F34 T) λ_ _ _ _ _ _=>us2 λ_ _=>rfl
 have C35:=lX Z a35 i35 F35 (G1 F35 T R1 K1) λ_ _ _ _ _ _=>us2 λ_ _=>rfl
 have C36:=lX Z a36 i36 F36 (G2 F36 T R1 K1) λ_ _ _ _ _ _=>us2 λ_ _=>rfl
 have C37:=lX Z a37 i37 F37 (G0 F37 T R1 K1) λ_ _ _ _ _ _=>us2 λ_ _=>rfl
 have C38:=cal Z X G a38 F38 (FI F38 T R1 K1 C37 C29) λ_ _ _ _ _ _=>us2 λ_ _=>rfl
 have C39:=cal Z X G a39 F39 (FP F39 T R1 C37 C5) λ_ _ _ _ _ _=>us2 λ_ _=>rfl
 have C40:=cal Z X G a40 F40 (FN F40 T R1 C38 C35 C39 C12) λ_ _ _ _ _ _=>us3 λ_ _ _=>rfl
 have C41:=cal Z X G a41 F41 (Gs F41 T R1 K1 C38 C5 C17) λ_ _ _ _ _ _=>us2 λ_ _=>rfl
 have C42:=cal Z X G a42 F42 (Gw F42 T R1) λ_ _ _ _ _ _=>us2 λ_ _=>rfl
 have C43:=cal Z X G a43 F43 (FL F43 T R1 C2 C33 C34 C6) λ_ _ _ _ _ _=>us3 λ_ _ _=>rfl
 have C44:=cal Z X G a44 F44 (FO F44 T) λ_ _ _ _ _ _=>us1 λ_=>rfl
 have C45:=cal Z X G a45 F45 (Go F45 T C7) λ_ _ _ _ _ _=>us1 λ_=>rfl
 have C46:=cal Z X G a46 F46 (Gx F46 T C44 C3 C45) λ_ _ _ _ _ _=>us3 λ_ _ _=>rfl
 have C47:=cal Z X G a47 F47 (GL F47 T R1 C35 C37 K1) λ_ _ _ _ _ _=>us4 λ_ _ _ _=>rfl
 have C48:=cal Z X G a48 F48 (Gk F48 T R1 C36 C42 C46 C43 C17 C47) λ_ _ _ _ _ _=>us4 λ_ _ _ _=>rfl
 have C49:=cal Z X G a49 F49 (Gq F49 T R1 C5 C21 C19) λ_ _ _ _ _ _=>us3 λ_ _ _=>rfl
 have C50:=cal Z X G a50 F50 (Gb F50 T) λ_ _ _ _ _ _=>us1 λ_=>rfl
 have C51:=cal Z X G a51 F51 (Gu F51 T C12 C7 C28 C48 C41 C31 C40 C32 C21 C19) λ_ _ _ _ _ _=>us3 λ_ _ _=>rfl
 have C52:=cal Z X G a52 F52 (Gh F52 T R1 C51 C17 C48 C36 C37 K1 K2) λ_ _ _ _ _ _=>us3 λ_ _ _=>rfl
 have C53:CalE l.prog w K mg base 39 "number" ["row","low","high"] (pN CC1 CC2) _ _ _ [.non,.non]:=⟨Gi F53 T R1 C25 C7 K1 C22 C26 C49 C50 C52,PySem.W.mg_of X G a53,k53,b53,bD53,.cons rfl (.cons rfl (.nil))⟩;have C54:=cal Z X G a54 F54 (FQ F54 T R1 R2 C48) λ_ _ _ _ _ _=>us2 λ_ _=>rfl
 have C55:=cal Z X G a55 F55 (Gm F55 T R1 R2 C54 K2) λ_ _ _ _ _ _=>us2 λ_ _=>rfl
 have C56:=cal Z X G a56 F56 (GK F56 T R1 R2 C17) λ_ _ _ _ _ _=>us2 λ_ _=>rfl
 have C57:=cal Z X G a57 F57 (GM F57 T R1 R2 C5 C56 C17) λ_ _ _ _ _ _=>us2 λ_ _=>rfl
 have C58:=cal Z X G a58 F58 (FS F58 T R1 R2 C57 K1) λ_ _ _ _ _ _=>us1 λ_=>rfl
 have C59:=cal Z X G a59 F59 (FH F59 T) λ_ _ _ _ _ _=>us1 λ_=>rfl
 have C60:=cal Z X G a60 F60 (Gg F60 T R1 R2 K1 C36 K2) λ_ _ _ _ _ _=>us1 λ_=>rfl
 have C61:=cal Z X G a61 F61 (Gf F61 T R1 R2 C12 C59 C7 C60 K2 K1 C36) λ_ _ _ _ _ _=>us1 λ_=>rfl
 have C62:=cal Z X G a62 F62 (FE F62 T) λ_ _ _ _ _ _=>us1 λ_=>rfl
 have C63:=cal Z X G a63 F63 (FM F63 T R1 R2 C55 K1 C37 C29 C57) λ_ _ _ _ _ _=>us2 λ_ _=>rfl
 have C64:=cal Z X G a64 F64 (Gj F64 T R1 R2 C63) λ_ _ _ _ _ _=>us2 λ_ _=>rfl
 have C65:=cal Z X G a65 F65 (FJ F65 T) λ_ _ _ _ _ _=>us1 λ_=>rfl
 have C66:CalE l.prog w K mg base 36 "figures" ["one","places"] (pQ CC1 CC2) _ _ _ [.int 6]:=⟨Gz F66 T R1 R2 C58 C64 C61 C65 C62,PySem.W.mg_of X G a66,k66,b66,bD66,.cons ⟨_,rfl⟩ (.nil)⟩;have C67:=cal Z X G a67 F67 (GY F67 T) λ_ _ _ _ _ _=>us2 λ_ _=>rfl
 have C68:=cal Z X G a68 F68 (GX F68 T) λ_ _ _ _ _ _=>us2 λ_ _=>rfl
 have C69:=cal Z X G a69 F69 (GS F69 T) λ_ _ _ _ _ _=>us3 λ_ _ _=>rfl
 have C70:=cal Z X G a70 F70 (GU F70 T C68) λ_ _ _ _ _ _=>us1 λ_=>rfl
 have C71:=cal Z X G a71 F71 (GW F71 T C70) λ_ _ _ _ _ _=>us1 λ_=>rfl
 have C72:=cal Z X G a72 F72 (GZ F72 T) λ_ _ _ _ _ _=>us1 λ_=>rfl
 have C73:=cal Z X G a73 F73 (GO F73 T C72 C67) λ_ _ _ _ _ _=>us2 λ_ _=>rfl
 have C74:=cal Z X G a74 F74 (GR F74 T R1 K1) λ_ _ _ _ _ _=>us2 λ_ _=>rfl
 have C75:=cal Z X G a75 F75 (GQ F75 T) λ_ _ _ _ _ _=>us2 λ_ _=>rfl
 have C76:=cal Z X G a76 F76 (GV F76 T R1 C71 C75) λ_ _ _ _ _ _=>us3 λ_ _ _=>rfl
 have C77:=cal Z X G a77 F77 (GT F77 T) λ_ _ _ _ _ _=>us1 λ_=>rfl
 have C78:=cal Z X G a78 F78 (GP F78 T) λ_ _ _ _ _ _=>us2 λ_ _=>rfl
 exact Gv F79 T R1 R2 C73 C74 C67 C71 K2 C53 C76 C66 C78 C77 C69
theorem walk{l:PySem.W.OpenLaw}{q:Program}{loose:List Str}{XP:(Str->Option Value)->Heap->Prop}{YP:World->Heap->Prop}{d:DefRec}{K:Params->PySem.W.Frag}(hi:PyProof.Rows.importsNone q=true)(hn:l.most=some 63)(hdf:d.params.defaults=[])
 (hY:∀(w:World) (h:Heap),YP w h->(K w.params).In h)
 (F:∀(w:World) (mg:Str->Option Value) (fa:Addr) (h:Heap),(K w.params).In h->h.Ns mainGlobals mg->mg d.name=some (.ref fa) ->
   ∃fd:FuncData,(∀(s:Shared) (u:Value),BindsTo s fd ⟨[u],[]⟩ [("_law_script",u)])/\∀base:Heap,(K w.params).In base->base.Ns mainGlobals mg->base.NoSeer->FnOk l.prog w (K w.params) mg base CX0 40 fa fd ["_law_script"] (nC (K w.params))) :
 PySem.W.WalkO q loose XP YP l.row.toRowW d [] (λf vs=>PySem.call f vs) :=
 L2.walk_ofS (n:=63) (k:=40) (x:="_law_script") (CX:=λ_=>CX0) (sp:=λw=>nC (K w.params)) hi hn (by decide) hdf ⟨rfl,by decide,by decide⟩ hY F (λ_ _ a ns hl _ hS=>⟨a,ns,rfl,hS,hl,λ_=>rfl⟩) λ_ _ _ _ _ z=>z
section
end
end R73
open PySem PySem.W PyProof.Rows
set_option maxRecDepth 100000 in
set_option maxHeartbeats 0 in
theorem PySem.Challenge.cw_rootspan_k73_figures_holds : PySem.Challenge.rw_rootspan_k73_figures.Holds := by
 w_on;o_law;k_head;(case hw=>w_witness2)
 k_fill
 refine R73.walk (l:=PySem.Challenge.rw_rootspan_k73_figures) (by decide +kernel) rfl rfl (λw h Y=>PySem.W.kIn_of Y) ?F
 case F =>
  intro w mg fa h KX G hmg
  refine' R73.all_mk KX G hmg ?cc1 ?n1_top ?n1_bottom ?cc2 ?n2_poly ?n2_low ?n2_high ?a4 ?i4 ?l4 ?c4 ?k4 ?t4 ?a53 ?l53 ?c53 ?k53 ?t53 ?a66 ?l66 ?c66 ?k66 ?t66 ?aI_HIGHEST ?_ ?_ ?_ ?_ ?_ ?_ ?_ ?_ ?_ ?_ ?_ ?_ ?_ ?_ ?_ ?_ ?_ ?_ ?_ ?_ ?_ ?_ ?_ ?_ ?_ ?_ ?_ ?_ ?_ ?_ ?_ ?_ ?_ ?_ ?_ ?_ ?_ ?_ ?_ ?_ ?_ ?_ ?_ ?_ ?_ ?_ ?_ ?_ ?_ ?_ ?_ ?_ ?_ ?_ ?_ ?_ ?_ ?_ ?_ ?_ ?_ ?_ ?_ ?_ ?_ ?_ ?_ ?_ ?_ ?_ ?_ ?_ ?_ ?_ ?_ ?_ ?_ ?_ ?_ ?_ ?_ ?_ ?_ ?_ ?_ ?_ ?_ ?_ rfl
  (case cc1=>apply R73.ClL.mk<;>k_is)
  (case n1_top=>k_is)
  (case n1_bottom=>k_is)
  (case cc2=>apply R73.ClL.mk<;>k_is)
  (case n2_poly=>k_is)
  (case n2_low=>k_is)
  (case n2_high=>k_is)
  (case a4=>k_is)
  (case i4=>k_is)
  (case l4=>k_is)
  (case c4=>k_is)
  (case k4=>k_is)
  (case t4=>k_is)
  (case a53=>k_is)
  (case l53=>k_is)
  (case c53=>k_is)
  (case k53=>k_is)
  (case t53=>k_is)
  (case a66=>k_is)
  (case l66=>k_is)
  (case c66=>k_is)
  (case k66=>k_is)
  (case t66=>k_is)
  (case aI_HIGHEST=>k_is)
  all_goals first | (apply R73.fnL<;>k_is) | (apply R73.mtL<;>k_is) |k_is
