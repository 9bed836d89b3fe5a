import PyProof.Rows.All
import Wide.All
import OpenK.AllK
import Wide.FinOn
import Lean
import PyProof.EqAt
import PyProof.EqKinds
import PyProof.TupleCall
import PySem.Challenge.RW_rootspan_k44_too_great
set_option Elab.async false
set_option linter.all false
set_option maxRecDepth 100000
local macro_rules | `(tactic|omega)=>`(tactic|first |lia |omega (splitDisjunctions:=true))
noncomputable section
namespace Al
def MY:=@List.length_map
def MZ:=@Nat.le_refl
def M0:=@List.mem_cons_of_mem
def M5:=@List.length_pos_iff
def M6:=@List.mem_cons_self
def M7:=@Int.le_of_lt
def M8:=@Int.mul_pos
def M9:=@Nat.zero_le
def Na:=@List.mem_cons
def Nb:=@List.mem_singleton
def Nc:=@List.mem_map
def Nd:=@Nat.le_trans
def Nf:=@Int.natAbs_mul
def Ng:=@Nat.ne_of_lt
def Nh:=@Int.one_mul
def Ni:=@Int.mul_comm
def Nj:=@Rat.le_of_lt
def Nk:=@List.length_append
def Nl:=@List.size_toArray
def Nm:=@Int.pow_succ
def Nn:=@Nat.lt_of_lt_of_le
def No:=@Int.mul_ne_zero
def Np:=@Int.natAbs_natCast
def Nq:=@List.length_cons
def Nr:=@Int.ne_of_gt
def Nt:=@Rat.div_mul_cancel
def Nu:=@List.map_append
def Nv:=@Rat.mul_nonneg
def Nw:=@Int.mul_one
def Nx:=@Int.mul_zero
def Ny:=@Int.mul_le_mul_of_nonneg_right
def Nz:=@Rat.intCast_lt_intCast
def NB:=@Int.zero_mul
def NC:=@Nat.mul_le_mul_right
def ND:=@Nat.lt_irrefl
def NE:=@List.mem_append_right
def NF:=@Int.add_zero
def NG:=@Int.mul_assoc
def NH:=@Int.mul_nonneg
def NI:=@Int.pow_pos
def NJ:=@Rat.intCast_mul
def NK:=@Rat.mul_le_mul_of_nonneg_right
def NM:=@List.mem_append
def NO:=@Int.zero_add
def NP:=@Int.natAbs_pos
def NQ:=@List.map_cons
def NR:=@Int.le_refl
def NT:=@Int.pow_zero
def NU:=@Int.mul_lt_mul_of_pos_right
def NV:=@List.length_take
def NW:=@Nat.mul_comm
def NX:=@List.take_add_one
def NY:=@Rat.mul_pos
def NZ:=@Bool.false_ne_true
def N0:=@Nat.lt_succ_self
def N2:=@Nat.le_of_not_lt
def N3:=@Nat.pow_pos
def N4:=@List.length_range
def N5:=@Nat.gcd_dvd_left
def N6:=@Nat.sub_zero
def N7:=@List.map_map
def N8:=@Nat.mul_le_mul_left
def N9:=@Rat.le_total
def Oa:=@Rat.le_refl
def Ob:=@List.pairwise_cons
def Oc:=@Nat.lt_of_le_of_lt
def Od:=@List.getElem_mem
def Oe:=@List.take_length
def Of:=@List.length_eq_zero_iff
def Og:=@Int.ofNat_dvd_left
def Oh:=@Nat.le_of_eq
def Oi:=@List.length_drop
def Oj:=@List.replicate_succ
def Ol:=@List.lookup_cons
def Om:=@Nat.pow_succ
def On:=@Nat.sub_self
def Oo:=@Nat.gcd_dvd_right
def Op:=@List.eq_nil_of_length_eq_zero
def Oq:=@Int.lt_of_mul_lt_mul_right
def Os:=@List.mem_flatMap
def Ot:=@Int.lt_or_le
def Ou:=@Int.not_lt
def Ov:=@List.mem_append_left
def Ow:=@List.length_set
def Ox:=@Nat.gcd_comm
def Oy:=@Int.eq_of_mul_eq_mul_right
def Oz:=@Int.mul_le_mul_of_nonneg_left
def OA:=@Rat.mul_le_mul_of_nonneg_left
def OB:=@Nat.gcd_one_right
def OC:=@Int.emod_nonneg
def OD:=@Int.emod_lt_of_pos
def OE:=@List.drop_zero
def OF:=@Nat.le_of_lt
def OG:=@List.append_nil
def OH:=@List.nodup_cons
def OI:=@List.map_congr_left
def OJ:=@Int.natCast_mul
def OK:=@Nat.dvd_trans
def OL:=@Rat.intCast_le_intCast
def OM:=@Nat.not_lt_zero
def ON:=@Int.ofNat_lt
def OO:=@Option.isSome_iff_exists
def OP:=@List.flatten_cons
def OQ:=@List.append_assoc
def OR:=@Nat.pow_le_pow_right
def OS:=@List.reverse_append
def OT:=@Nat.le_add_right
def OU:=@Nat.le_mul_of_pos_left
def OV:=@Nat.gcd_zero_left
def OW:=@Int.eq_ofNat_of_zero_le
def OX:=@Int.natAbs_pow
def OY:=@List.length_nil
def OZ:=@Rat.intCast_inj
def O0:=@List.pairwise_append
def O1:=@Int.natCast_pow
def O2:=@List.mem_of_mem_take
def O3:=@Nat.min_le_left
def O4:=@Nat.pow_lt_pow_iff_right
def O5:=@List.filterMap_cons
def O6:=@List.length_replicate
def O7:=@Int.natAbs_dvd_natAbs
def O8:=@Int.mul_nonneg_of_nonpos_of_nonpos
def O9:=@List.length_eq_one_iff
def Pa:=@Int.mul_ediv_cancel_left
def Pb:=@Int.natCast_nonneg
def Pc:=@Int.lt_or_gt_of_ne
def Pd:=@List.append_of_mem
def Pe:=@List.mem_of_mem_drop
def Pf:=@Nat.eq_of_mul_eq_mul_left
def Pg:=@Int.mul_neg_of_neg_of_pos
def Ph:=@List.drop_eq_getElem_cons
def Pi:=@Int.lt_of_mul_lt_mul_left
def Pj:=@Int.eq_of_mul_eq_mul_left
def Pk:=@Nat.le_of_mul_le_mul_left
def Pl:=@Int.mul_lt_mul_of_pos_left
end Al
open Al
namespace PySem.W.Fast
def tw14805254015046529115:=()
def tw18207586469945959982:=()
def tw9079353744782985208:=()
def tw13563166298953519103:=()
def tw8112528574542831671:=()
def tw69781567003942550:=()
def tw9499085424009716947:=()
def tw12311255382492994183:=()
def tw15740134290256659164:=()
def tw14376977027744491741:=()
def tw12072422043651854137:=()
def tw15016581618702958935:=()
def tw7230074712362469433:=()
def tw11168083950822478563:=()
def tw3876532810260521233:=()
def tw12879340388757404523:=()
def tw2234706277433129982:=()
def tw938826540846827026:=()
def tw11629659087377934845:=()
def tw8412074214009324462:=()
def tw13326623261469836396:=()
def tw10818837419463067467:=()
def tw16444625628286443781:=()
def tw12443883550170285022:=()
def tw7569645527052194439:=()
def tw18223329517495141954:=()
def tw17053017038753619102:=()
def tw13311492444273922404:=()
def tw3855726154018738181:=()
def tw16714922031433713761:=()
def tw10674290285626124039:=()
def tw12357366378153193809:=()
def tw11201496056094050515:=()
def tw14726133949866869557:=()
def tw12324581614123242681:=()
def tw1722133135117647562:=()
def tw16526667609520412943:=()
def tw12977026095070841568:=()
def tw9625672861622313324:=()
def tw11190089869584965009:=()
def tw16174543284516952960:=()
def tw4405507224891165300:=()
def tw16776702983407752646:=()
def tw7223209242393601230:=()
def tw3825871975722986002:=()
def tw12937990692612918370:=()
def tw6412610261746536247:=()
def tw10447017949400907674:=()
def tw3026759122405520795:=()
def tw3188127098963122178:=()
def tw7040431917945733541:=()
def tw9739181505764823514:=()
def tw9081973092038465974:=()
def tw14162363365465134507:=()
def tw2894102043482771308:=()
def tw11881153080867867081:=()
def tw9630827504368130824:=()
def tw13520287587148890311:=()
def tw15587915800634474162:=()
def tw4942918054601191273:=()
def tw15268401036552787837:=()
def tw12920572779060557492:=()
def tw12017809213197078972:=()
def tw5633426402290167087:=()
def tw9059744252385669579:=()
def tw13102430921708999447:=()
def tw5338600544036235373:=()
def tw4780116895247841888:=()
def tw16013861177193001834:=()
def tw12615245125183987997:=()
def tw8807116044422260195:=()
def tw9174779848619483281:=()
def tw8964566396281318176:=()
def tw17159774416530191487:=()
def tw17768043591689197416:=()
def tw14327250094020152929:=()
def tw12473300657789921997:=()
def tw2247122357647865460:=()
def tw12978741864607503026:=()
def tw3367800816321575990:=()
def tw706290331294564008:=()
def tw8927193360682600081:=()
def tw11608925390311263941:=()
def tw648313234675340686:=()
def tw6561578366088440255:=()
def tw18125800575548165656:=()
def tw14630359647166010951:=()
def tw18269609409479037507:=()
def tw5542144585039600766:=()
def tw11094152562086989353:=()
def tw17408986319277302970:=()
def tw11293305429322287226:=()
def tw4936095943173170471:=()
def tw1567362402492087834:=()
def tw15020056962876473256:=()
def tw7808561340382623142:=()
def tw13023646954937546320:=()
def tw14285490020339689611:=()
def tw16191832057220630088:=()
def tw8749132401817860623:=()
def tw10364838571030135941:=()
def tw1700853182090099090:=()
def tw9777101842012186307:=()
def tw17866211155349970735:=()
def tw3828054431695153122:=()
def tw11275535889213092531:=()
def tw8903637176706691742:=()
def tw13473037383988250999:=()
def tw17668128051088398949:=()
def tw9901129656617861898:=()
def tw3855793055898385995:=()
def tw13245817821585678036:=()
def tw1500626393399747251:=()
def tw255491361533110410:=()
def tw15050006532901968069:=()
def tw4946647824158375215:=()
def tw14200460538331283445:=()
def tw1768760649698436026:=()
def tw489208507714283543:=()
def tw1737260317069528122:=()
def tw12074705151277785769:=()
def tw10823544554293426297:=()
def tw16845012758642833019:=()
def tw17038034800319040508:=()
def tw16557583498204229188:=()
def tw16385128372020188893:=()
def tw10978148289186100196:=()
def tw5179365346687300233:=()
def tw1522514174277784607:=()
def tw10208751645046225800:=()
def tw16060691159665210292:=()
def tw13651684539345174288:=()
def tw9090492054463173869:=()
def tw17127247761598443386:=()
def tw14235319518533395601:=()
def tw9183496346582432462:=()
def tw941682977155515091:=()
def tw16147754716511639914:=()
def tw10630742394112524362:=()
def tw1780120716112109644:=()
def tw9395895753987127023:=()
def tw13808669544158399218:=()
def tw13804672906450671644:=()
def tw8526913575143617446:=()
def tw4825744780111318580:=()
def tw1371191237483259672:=()
def tw13286532480344325972:=()
def tw8888049829302181840:=()
def tw14169697339744733588:=()
def tw11105987520025253953:=()
def tw14891302377472365611:=()
def tw4732046835423934023:=()
def tw9102262015012393647:=()
def tw6201178676172981693:=()
def tw13313588326190389739:=()
def tw16054765011857022859:=()
def tw3185397338069752542:=()
def tw18319348859226028780:=()
def tw5195177205050332623:=()
def tw11416930659805049893:=()
def tw16650955636179666618:=()
def tw8224393319959837963:=()
def tw12179256802538405734:=()
def tw8668255118382964498:=()
def tw4309640932042112687:=()
def tw9051711310160927286:=()
def tw10226533229613097372:=()
def tw13505302222212114108:=()
def tw2119165784233036451:=()
def tw4416884881784546497:=()
def tw7612235375880428401:=()
def tw3806438131058116601:=()
def tw2596349573584117216:=()
def tw10413282727556200038:=()
def tw15126297092054054115:=()
def tw8433933534336859910:=()
def tw13176772132359867482:=()
def tw4765749219929802241:=()
def tw16896290782934133192:=()
def tw11830774977626829902:=()
def tw4453857876787832279:=()
def tw8654941028062248665:=()
def tw6563956569584589108:=()
def tw3236185466670395689:=()
def tw13113032788351178863:=()
def tw8823522066716026038:=()
def tw17058840898143487603:=()
def tw13928147660168879810:=()
def tw2357372290393257438:=()
def tw3765195957193681159:=()
def tw5425830014385271301:=()
def tw12820527017659500323:=()
def tw16770971711246968840:=()
def tw15055289412744937759:=()
def tw12731433907102803142:=()
def tw8449528952666443717:=()
def tw15766828634488109406:=()
def tw9189870727899363453:=()
def tw1689259421145515084:=()
def tw16520539941641075011:=()
def tw5985988917406199741:=()
def tw1922067095019337691:=()
def tw5772890062830993573:=()
def tw11609316410655954475:=()
def tw4279926474573332525:=()
def tw11618128318261567626:=()
def tw5679165407462319881:=()
def tw15056297115870542239:=()
def tw10974071844341846701:=()
def tw8906126794083505456:=()
end PySem.W.Fast
namespace L2
open PySem PySem.Spec PyProof.Rows
abbrev Key:=Sum Int Str
noncomputable def zd:Key->Value->Bool
 |.inl k,v=>Value.isInt k v
 |.inr x,v=>Value.isStrOf x v
noncomputable def Hl(w:World):Key->Int
 |.inl k=>hashInt k
 |.inr x=>hashStr w x
theorem fm:∀{k:Key} {v:Value},zd k v=true->(∃i t,k=Sum.inl i/\v=Value.int i t)\/(∃x t,k=Sum.inr x/\v=Value.str x t)
 |.inl i,v,h=>by obtain⟨t,e⟩:=Value.isInt_shape (k:=i) (v:=v) h;exact .inl ⟨i,t,rfl,e⟩
 |.inr x,v,h=>by obtain⟨t,e⟩:=Value.isStrOf_shape (x:=x) (v:=v) h;exact .inr ⟨x,t,rfl,e⟩
theorem Hk(a b:Int):decide ((Sum.inl a:Key)=Sum.inl b)=(a == b):=by
 by_cases e:a=b
 ·subst e;simp
 ·have h:¬(Sum.inl a:Key)=Sum.inl b:=λq=>e (Sum.inl.inj q)
  rw[decide_eq_false h];exact(beq_eq_false_iff_ne.mpr e).symm
theorem Hh(a b:Str):decide ((Sum.inr a:Key)=Sum.inr b)=decide (a=b):=by
 by_cases e:a=b
 ·subst e;simp
 ·have h:¬(Sum.inr a:Key)=Sum.inr b:=λq=>e (Sum.inr.inj q)
  rw[decide_eq_false h,decide_eq_false e]
theorem Hj(a:Int)(b:Str):decide ((Sum.inl a:Key)=Sum.inr b)=false:=decide_eq_false (λq=>nomatch q)
theorem Hi(a:Str)(b:Int):decide ((Sum.inr a:Key)=Sum.inl b)=false:=decide_eq_false (λq=>nomatch q)
noncomputable def r9(prog:Program)(w:World):PySem.KeyKind prog w Key where
 is:=zd
 hash:=Hl w
 inj:=λv a b ha hb=>by
  rcases fm ha with⟨i,t,rfl,rfl⟩ |⟨x,t,rfl,rfl⟩
  ·rcases fm hb with⟨j,u,rfl,e⟩ |⟨y,u,rfl,e⟩
   ·injection e with e1 _;rw[e1]
   ·exact nomatch e
  ·rcases fm hb with⟨j,u,rfl,e⟩ |⟨y,u,rfl,e⟩
   ·exact nomatch e
   ·injection e with e1 _;rw[e1]
 byValue:=λk v h=>by rcases fm h with⟨i,t,rfl,rfl⟩ |⟨x,t,rfl,rfl⟩<;>rfl
 pyHash:=λhv h=>by
  rcases fm hv with⟨i,t,rfl,rfl⟩ |⟨x,t,rfl,rfl⟩
  ·exact wpAny_pyHash_int h
  ·exact wpAny_pyHash_str h
 eqBool:=λhu hv h=>by
  rcases fm hu with⟨i,t,rfl,rfl⟩ |⟨x,t,rfl,rfl⟩
  ·rcases fm hv with⟨j,u,rfl,rfl⟩ |⟨y,u,rfl,rfl⟩
   ·rw[Hk]at h;exact wpAny_eqBool_int h
   ·rw[Hj]at h;exact SeqAt.EqAt.int_str i t y u _ _ _ _ h
  ·rcases fm hv with⟨j,u,rfl,rfl⟩ |⟨y,u,rfl,rfl⟩
   ·rw[Hi]at h;exact SeqAt.EqAt.str_int x t j u _ _ _ _ h
   ·rw[Hh]at h;exact wpAny_eqBool_str h
 «strs»:=λk x t v h=>by
  rcases fm h with⟨i,u,rfl,e⟩ |⟨y,u,rfl,e⟩
  ·exact nomatch e
  ·injection e with e1 _
   subst e1;cases v<;>rfl
inductive V where
 |non |bl (b:Bool) |int (i:Int) |str (x:Str) |byt (b:Array UInt8) |flt (b:UInt64) |ref (a:Addr) |ty (n:String)
 deriving DecidableEq
noncomputable def RelV:V->Value->Prop
 |.non,u=>u=Value.none
 |.bl b,u=>u=Value.bool b
 |.int i,u=>∃t,u=Value.int i t
 |.str x,u=>∃t,u=Value.str x t
 |.byt b,u=>∃t,u=Value.bytes b t
 |.flt b,u=>∃t,u=Value.float b t
 |.ref a,u=>u=Value.ref a
 |.ty n,u=>u=Value.type n
abbrev Vals:List V->List Value->Prop:=Paired RelV
theorem Vals.length{xs:List V}{us:List Value}(r:Vals xs us):xs.length=us.length:=Paired.length r
theorem Vals.get:∀{xs:List V} {us:List Value} {i:Nat} {x:V},Vals xs us->xs[i]?=some x->∃u,us[i]?=some u/\RelV x u
 |_,_,_,_,.nil,e=>by simp at e
 |_,_,0,_,.cons r _,e=>by simp at e;subst e;exact⟨_,rfl,r⟩
 |_,_,i+1,x,.cons _ t,e=>by obtain⟨u,h1,h2⟩:=Vals.get (i:=i) (x:=x) t (by simpa using e);exact⟨u,by simpa using h1,h2⟩
theorem Vals.set{x:V}{u:Value}(r:RelV x u):∀{xs:List V} {us:List Value} (i:Nat),Vals xs us->Vals (xs.set i x) (us.set i u)
 |_,_,_,.nil=>.nil
 |_,_,0,.cons _ t=>.cons r t
 |_,_,i+1,.cons q t=>.cons q (Vals.set r i t)
theorem Vals.append:∀{xs ys:List V} {us ws:List Value},Vals xs us->Vals ys ws->Vals (xs++ys) (us++ws)
 |_,_,_,_,.nil,s=>s
 |_,_,_,_,.cons r t,s=>.cons r (Vals.append t s)
theorem Vals.take:∀{xs:List V} {us:List Value} (n:Nat),Vals xs us->Vals (xs.take n) (us.take n)
 |_,_,0,_=>.nil
 |_,_,_+1,.nil=>.nil
 |_,_,n+1,.cons r t=>.cons r (Vals.take n t)
theorem Vals.drop:∀{xs:List V} {us:List Value} (n:Nat),Vals xs us->Vals (xs.drop n) (us.drop n)
 |_,_,0,r=>r
 |_,_,_+1,.nil=>.nil
 |_,_,n+1,.cons _ t=>Vals.drop n t
theorem Vals.none_of:∀{xs:List V} {us:List Value} {i:Nat},Vals xs us->xs[i]?=none->us[i]?=none:=λ{xs us i} r e=>by have h1:=r.length;have h2:xs.length<=i:=List.getElem?_eq_none_iff.mp e;exact List.getElem?_eq_none_iff.mpr (by omega)
noncomputable def RelO:Option V->Option Value->Prop
 |some v,some u=>RelV v u
 |none,none=>True
 |_,_=>False
noncomputable def KV{κ:Type}:List (κ×V)->List (κ×Value)->Prop:=Paired λ(p:κ×V) (q:κ×Value)=>p.1=q.1/\RelV p.2 q.2
noncomputable def kV:Key->V
 |.inl i=>.int i
 |.inr x=>.str x
inductive HO where
 |lst (xs:List V)
 |tup (xs:List V)
 |dK (kvs:List (Key×V)) |dT (kvs:List (List Key×V))
 |set (S:Int->Bool) (n:Nat)
 |ins (C dx:Addr) (fs:List (Str×V))
 |own (x:Addr)
 |xd (fs:List (Str×V))
 |met (f x:Addr)
 |rng (lo hi:Int)
 |frz (o:Obj) (u:HO)
 |tbl (ps:Array Value)
 |ext (φ:Heap->Prop)
abbrev Hp:=Addr->Option HO
noncomputable def upd(H:Hp)(a:Addr)(o:HO):Hp:=λb=>if b=a then some o else H b
theorem ao{H:Hp}{a:Addr}{o:HO}:upd H a o a=some o:=by unfold upd;rw[if_pos rfl]
theorem upd_ne{H:Hp}{a b:Addr}{o:HO}(h:b≠a):upd H a o b=H b:=by unfold upd;rw[if_neg h]
theorem nZ{H:Hp}{a:Addr}{o u:HO}:upd (upd H a o) a u=upd H a u:=by funext b;unfold upd;split<;>rfl
theorem aQ{H:Hp}{a b:Addr}{o:HO}(h:H a=some o)(h':H b=none):a≠b:=by intro e;subst e;rw[h]at h';cases h'
section
variable (P:Program)(w:World)
noncomputable def ObjOk(H:Hp)(h:Heap)(a:Addr):HO->Prop
 |.lst xs=>xs.length<=sizeLine/\∃(its:List Value) (n:Nat),Vals xs its/\h.get? a=some { cls:=.type "list",data:=.seq its.toArray n }
 |.tup xs=>xs.length<=sizeLine/\∃its:List Value,Vals xs its/\IsTup h a its.toArray
 |.dK kvs=>kvs.length<=sizeLine/\(a == sysModules)=false/\∃vs,KV kvs vs/\h.DictOf (r9 P w) a vs
 |.dT kvs=>kvs.length<=sizeLine/\(a == sysModules)=false/\∃xs:List (List Key×Addr×Value),
  Paired (λ(p:List Key×V) (q:List Key×Addr×Value)=>p.1=q.1/\H q.2.1=some (.tup (p.1.map kV))/\RelV p.2 q.2.2) kvs xs /\
  ∃o es ep,h.get? a=some o/\o.ExactDict/\o.data=.dict es ep/\es.toList=xs.map (entryOfKey (tupleKind (r9 P w)))/\(xs.map (·.1)).Nodup
 |.set S n=>h.SetOf (intKind P w) a S n
 |.ins C dx fs=>H dx=some (.own a)/\fs.length<=1000/\dx≠a/\h.get? a=some (PySem.W.instObj C dx) /\
  ∃mA,h.Ns1 dx mA/\(∀f,RelO (fs.lookup f) (mA f))/\PySem.Within mA (fs.map (·.1))
 |.own _=>∃o,h.get? a=some o
 |.xd fs=>∃mA,h.Ns1 a mA/\∀f,RelO (fs.lookup f) (mA f)
 |.rng lo hi=>∃t u v,h.get? a=some { cls:=.type "range",data:=.fields #[.int lo t,.int hi u,.int 1 v] }
 |.frz o u=>h.get? a=some o/\ObjOk H h a u
 |.tbl ps=>h.get? a=some { cls:=.none,data:=.fields ps }
 |.met f x=>h.get? a=some (PySem.W.methodObj (.ref f) (.ref x))
 |.ext φ=>φ h/\(∃o,h.get? a=some o)/\∀h1 h2:Heap,φ h1->(∀o,h1.get? a=some o->h2.get? a=some o)->φ h2
def HOk(H:Hp)(h:Heap):Prop:=∀a o,H a=some o->ObjOk P w H h a o
end
section
variable {P:Program}{w:World}{H H':Hp}{h h':Heap}{a:Addr}{o:HO}
theorem ObjOk.lt(x:ObjOk P w H h a o):a<h.objs.size:=by
 cases o with
 |lst xs=>obtain⟨_,_,_,_,e⟩:=x;exact Heap.lt_size e
 |tup xs=>obtain⟨_,_,_,p⟩:=x;exact p.lt
 |dK kvs=>obtain⟨_,_,_,_,o,_,_,e,_⟩:=x;exact Heap.lt_size e
 |dT kvs=>obtain⟨_,_,_,_,o,_,_,e,_⟩:=x;exact Heap.lt_size e
 |set S n=>obtain⟨o,_,_,_,e,_⟩:=x;exact Heap.lt_size e
 |ins C dx fs=>obtain⟨_,_,_,e,_⟩:=x;exact Heap.lt_size e
 |own y=>obtain⟨_,e⟩:=x;exact Heap.lt_size e
 |xd fs=>obtain⟨_,⟨_,_,_,e,_⟩,_⟩:=x;exact Heap.lt_size e
 |rng lo hi=>obtain⟨_,_,_,e⟩:=x;exact Heap.lt_size e
 |frz ob u=>obtain⟨e,_⟩:=x;exact Heap.lt_size e
 |tbl ps=>exact Heap.lt_size (show h.get? a=some _ from x)
 |met f y=>exact Heap.lt_size (show h.get? a=some _ from x)
 |ext φ=>obtain⟨_,⟨_,e⟩,_⟩:=x;exact Heap.lt_size e
theorem Paired.mapP{α β:Type}{F G:α->β->Prop}:∀{l₁:List α} {l₂:List β},Paired F l₁ l₂->(∀a b,F a b->G a b)->Paired G l₁ l₂
 |_,_,.nil,_=>.nil
 |_,_,.cons r t,f=>.cons (f _ _ r) (Paired.mapP t f)
theorem ObjOk.stay(x:ObjOk P w H h a o)(k:∀b u,(b=a\/H b=some (.own a))->h.get? b=some u->h'.get? b=some u)
 (ho:∀b,H b=some (.own a)->H' b=some (.own a)) (ht:∀b xs,H b=some (.tup xs)->H' b=some (.tup xs)):ObjOk P w H' h' a o:=by
 induction o with
 |lst xs=>obtain⟨z,its,n,r,e⟩:=x;exact⟨z,its,n,r,k _ _ (.inl rfl) e⟩
 |tup xs=>obtain⟨z,its,r,ob,e,c⟩:=x;exact⟨z,its,r,ob,k _ _ (.inl rfl) e,c⟩
 |dK kvs=>obtain⟨z,y,vs,r,ob,es,ep,e,c⟩:=x;exact⟨z,y,vs,r,ob,es,ep,k _ _ (.inl rfl) e,c⟩
 |dT kvs =>obtain⟨z,y,xs,r,ob,es,ep,e,c⟩:=x;exact⟨z,y,xs,Paired.mapP r λp q z=>⟨z.1,ht _ _ z.2.1,z.2.2⟩,ob,es,ep,k _ _ (.inl rfl) e,c⟩
 |set S n=>obtain⟨ob,es,ep,t,e,c⟩:=x;exact⟨ob,es,ep,t,k _ _ (.inl rfl) e,c⟩
 |ins C dx fs =>obtain⟨d,z,ne,e,mA,⟨od,es,ep,e2,c⟩,r⟩:=x;exact⟨ho _ d,z,ne,k _ _ (.inl rfl) e,mA,⟨od,es,ep,k _ _ (.inr d) e2,c⟩,r⟩
 |own y=>obtain⟨ob,e⟩:=x;exact⟨ob,k _ _ (.inl rfl) e⟩
 |xd fs=>obtain⟨mA,⟨od,es,ep,e,c⟩,r⟩:=x;exact⟨mA,⟨od,es,ep,k _ _ (.inl rfl) e,c⟩,r⟩
 |rng lo hi=>obtain⟨t,u,v,e⟩:=x;exact⟨t,u,v,k _ _ (.inl rfl) e⟩
 |frz ob u ih=>obtain⟨e,q⟩:=x;exact⟨k _ _ (.inl rfl) e,ih q⟩
 |tbl ps =>have e:h.get? a=some { cls:=.none,data:=.fields ps }:=x;show h'.get? a=some { cls:=.none,data:=.fields ps };exact k a _ (.inl rfl) e
 |met f y =>have e:h.get? a=some (PySem.W.methodObj (.ref f) (.ref y)):=x;show h'.get? a=some (PySem.W.methodObj (.ref f) (.ref y));exact k a _ (.inl rfl) e
 |ext φ=>obtain⟨p,⟨o,e⟩,st⟩:=x;exact⟨st _ _ p λo q=>k _ _ (.inl rfl) q,⟨o,k _ _ (.inl rfl) e⟩,st⟩
theorem HOk.lt(x:HOk P w H h)(e:H a=some o):a<h.objs.size:=(x a o e).lt
theorem HOk.fresh(x:HOk P w H h)(e:h.objs.size<=a):H a=none:=by
 cases q:H a with
 |none=>rfl
 |some u=>exact absurd (Nn (x.lt q) e) (ND _)
theorem HOk.kept(x:HOk P w H h)(k:∀b u,h.get? b=some u->h'.get? b=some u):HOk P w H h':=λa o e =>(x a o e).stay (λb u _ q=>k b u q) (λ_ q=>q) λ_ _ q=>q
theorem HOk.laid(x:HOk P w H h)(k:∀b u,h.get? b=some u->h'.get? b=some u)(hp:h.objs.size<=a)(new:ObjOk P w (upd H a o) h' a o):HOk P w (upd H a o) h':=λb u e=>by
 have hn:=x.fresh hp;by_cases hb:b=a
 ·subst hb;rw[ao]at e;cases e;exact new
 ·rw[upd_ne hb]at e;exact(x b u e).stay (λc v _ q=>k c v q) (λc q=>by rw[upd_ne (aQ q hn)];exact q) λc xs q=>by rw[upd_ne (aQ q hn)];exact q
end
def Rd(H:Hp)(a:Addr)(u:HO):Prop:=H a=some u\/∃o,H a=some (.frz o u)
theorem Rd.of{H:Hp}{a:Addr}{u:HO}(h:H a=some u):Rd H a u:=.inl h
theorem Rd.ok{P:Program}{w:World}{H:Hp}{h:Heap}{a:Addr}{u:HO}(r:Rd H a u)(x:HOk P w H h):ObjOk P w H h a u:=by
 rcases r with r |⟨o,r⟩
 ·exact x a u r
 ·obtain⟨_,q⟩:=x a _ r;exact q
noncomputable def Mut:Option HO->Prop
 |some (.lst _)=>True
 |some (.dK _)=>True
 |some (.dT _)=>True
 |some (.set _ _)=>True
 |some (.ins _ _ _)=>True
 |some (.ext _)=>True
 |_=>False
section
variable {P:Program}{w:World}{H:Hp}{h h':Heap}{x e:Addr}{o':HO}
theorem HOk.write(ok:HOk P w H h)(mu:Mut (H x))(he:e=x\/H e=some (.own x))(k:∀b u,b≠e->h.get? b=some u->h'.get? b=some u)(heo:∃u,h'.get? e=some u)
 (new:ObjOk P w (upd H x o') h' x o'):HOk P w (upd H x o') h':=λb u q=>by
 have nown:∀c y,H c=some (.own y)->c≠x:=λc y r z=>by subst z;rw[r]at mu;exact mu
 have ntup:∀c xs,H c=some (.tup xs)->c≠x:=λc xs r z=>by subst z;rw[r]at mu;exact mu
 by_cases hb:b=x
 ·subst hb;rw[ao]at q;cases q;exact new
 ·rw[upd_ne hb]at q;by_cases hbe:b=e
  ·have q':H b=some (.own x):=by
    rcases he with z |z
    ·exact absurd (hbe.trans z) hb
    ·rw[hbe];exact z
   rw[q]at q';cases q';obtain⟨v,hv⟩:=heo;exact⟨v,by rw[hbe];exact hv⟩
  ·refine(ok b u q).stay (λc v hc r=>k c v ?_ r) (λc r=>by rw[upd_ne (nown c b r)];exact r) λc xs r=>by rw[upd_ne (ntup c xs r)];exact r
   rcases hc with rfl |hc
   ·exact hbe
   ·rintro rfl;rcases he with z |z
    ·exact nown c b hc z
    ·rw[hc]at z;cases z;exact hb rfl
end
structure Un(fs ex:List Addr)(H H':Hp)(h h':Heap):Prop where
 keep:∀b o,h.get? b=some o->H b=none->b∉fs->b∉ex->h'.get? b=some o
 slot:∀b o,h.get? b=some o->H b=none->b∈fs->b∉ex->∃sl,h'.get? b=some { o with slots:=sl }
 free:∀b o,h.get? b=some o->H b=none->b∉ex->H' b=none
 there:∀b o,h.get? b=some o->b∉ex->∃o',h'.get? b=some o'
 tups:∀b xs,H b=some (.tup xs)->H' b=some (.tup xs)
 frzs:∀b o u,H b=some (.frz o u)->H' b=some (.frz o u)
 tbls:∀b ps,H b=some (.tbl ps)->∃more,H' b=some (.tbl (ps++more))
section
variable {fs fs' ex ex':List Addr}{H H1 H2:Hp}{h h1 h2 h':Heap}{a x e:Addr}{o:HO}
theorem Un.any(u:Un fs ex H H1 h h1){b:Addr}{ob:Obj}(q:h.get? b=some ob)(n:H b=none)(hx:b∉ex):∃sl,h1.get? b=some { ob with slots:=sl }:=by
 by_cases hb:b∈fs
 ·exact u.slot b ob q n hb hx
 ·exact⟨ob.slots,u.keep b ob q n hb hx⟩
theorem Un.trans(a:Un fs ex H H1 h h1)(b:Un fs ex H1 H2 h1 h2):Un fs ex H H2 h h2 where
 keep:=λc ob q n hc hx=>b.keep c ob (a.keep c ob q n hc hx) (a.free c ob q n hx) hc hx
 slot:=λc ob q n hc hx=>by obtain⟨sl,e1⟩:=a.slot c ob q n hc hx;obtain⟨sl',e2⟩:=b.slot c _ e1 (a.free c ob q n hx) hc hx;exact⟨sl',e2⟩
 free:=λc ob q n hx=>by obtain⟨o',e1⟩:=a.there c ob q hx;exact b.free c o' e1 (a.free c ob q n hx) hx
 there:=λc ob q hx=>by obtain⟨o',e1⟩:=a.there c ob q hx;exact b.there c o' e1 hx
 tups:=λc xs q=>b.tups c xs (a.tups c xs q)
 frzs:=λc ob xs q=>b.frzs c ob xs (a.frzs c ob xs q)
 tbls:=λc ps q=>by obtain⟨m1,e1⟩:=a.tbls c ps q;obtain⟨m2,e2⟩:=b.tbls c _ e1;exact⟨m1++m2,by rw[e2,Array.append_assoc]⟩
theorem Un.kept(k:∀b u,h.get? b=some u->h'.get? b=some u):Un fs ex H H h h' :=
 ⟨λb ob q _ _ _=>k b ob q,λb ob q _ _ _=>⟨ob.slots,k b ob q⟩,λ_ _ _ n _=>n,λb ob q _=>⟨ob,k b ob q⟩,λ_ _ q=>q,λ_ _ _ q=>q,λ_ ps q=>⟨#[],by rw[q];simp⟩⟩
theorem Un.refl:Un fs ex H H h h:=Un.kept λ_ _ q=>q
theorem Un.laid(k:∀b u,h.get? b=some u->h'.get? b=some u)(hp:h.objs.size<=a)(hn:H a=none):Un fs ex H (upd H a o) h h' where
 keep:=λb u q _ _ _=>k b u q
 slot:=λb u q _ _ _=>⟨u.slots,k b u q⟩
 free:=λb u q n _=>by rw[upd_ne (Ng (Nn (Heap.lt_size q) hp))];exact n
 there:=λb u q _=>⟨u,k b u q⟩
 tups:=λb xs q=>by rw[upd_ne (aQ q hn)];exact q
 frzs:=λb u xs q=>by rw[upd_ne (aQ q hn)];exact q
 tbls:=λb ps q=>⟨#[],by rw[upd_ne (aQ q hn),q];simp⟩
theorem Un.write(mu:Mut (H x))(he:e=x\/H e=some (.own x))(k:∀b u,b≠e->h.get? b=some u->h'.get? b=some u)(heo:∃u,h'.get? e=some u):Un fs ex H (upd H x o) h h':=by
 have hx:∀b,H b=none->b≠x:=λb n z=>by subst z;rw[n]at mu;exact mu
 have hb:∀b,H b=none->b≠e:=λb n z=>by
  subst z;rcases he with r |r
  ·exact hx b n r
  ·rw[n]at r;cases r
 have hm:∀b u,H b=some u->¬Mut (some u)->b≠x:=λb u q nm z=>by subst z;rw[q]at mu;exact nm mu
 refine⟨λb u q n _ _=>k b u (hb b n) q,λb u q n _ _=>⟨u.slots,k b u (hb b n) q⟩,λb u q n _=>by rw[upd_ne (hx b n)];exact n,λb u q _=>?_,
  λb xs q=>by rw[upd_ne (hm b _ q λz=>z)];exact q,λb u xs q=>by rw[upd_ne (hm b _ q λz=>z)];exact q,λb ps q=>⟨#[],by rw[upd_ne (hm b _ q λz=>z),q];simp⟩⟩
 by_cases hbe:b=e
 ·subst hbe;exact heo
 ·exact⟨u,k b u hbe q⟩
theorem Un.mono(u:Un fs ex H H1 h h1)(hs:∀b∈fs,b∈fs')(hx:∀b∈ex,b∈ex'):Un fs' ex' H H1 h h1 :=
 ⟨λb ob q n hb he=>u.keep b ob q n (λz=>hb (hs b z)) λz=>he (hx b z),λ_ _ q n _ he=>u.any q n λz=>he (hx _ z),λb ob q n he=>u.free b ob q n λz=>he (hx b z),λb ob q he=>u.there b ob q λz=>he (hx b z),u.tups,u.frzs,u.tbls⟩
end
noncomputable def trk(h:Heap)(H:Hp):List Addr:=(List.range h.objs.size).filter λa=>(H a).isSome
noncomputable def eu(h:Heap)(H:Hp):Heap:=PySem.W.hideAll h (trk h H)
theorem Io(h:Heap)(H:Hp):(eu h H).objs.size=h.objs.size:=PySem.W.hideAll_size _ _
theorem Iq{h:Heap}{H:Hp}{b:Addr}{o:Obj}(e:h.get? b=some o)(n:H b=none):(eu h H).get? b=some o :=
 PySem.W.hideAll_get _ e λhm=>by have q:(H b).isSome=true:=(List.mem_filter.mp hm).2;rw[n]at q;simp at q
theorem FS{h:Heap}{H:Hp}{b:Addr}{o:Obj}(e:(eu h H).get? b=some o):h.get? b=some o/\H b=none:=by
 have e':h.get? b=some o:=PySem.W.of_hideAll (trk h H) e;refine⟨e',?_⟩;cases q:H b with
 |none=>rfl
 |some x =>have hm:b∈trk h H:=List.mem_filter.mpr ⟨List.mem_range.mpr (Heap.lt_size e'),by simp[q]⟩;have z:(eu h H).get? b=none:=PySem.W.hideAll_none (trk h H) hm;rw[z]at e;cases e
noncomputable def Lx(g h:Heap)(L:Addr):List (Addr×Obj):=(List.range h.objs.size).filterMap λa=>if a=L\/(g.get? a).isSome=true then none else(h.get? a).map λo=>(a,o)
noncomputable def rest(g h:Heap)(L d:Addr):List (Addr×Obj):=(Lx g h L).filter λp=>decide (p.1≠d)
structure Mod(K:PySem.W.Frag)(mg:Str->Option Value)(base:Heap):Prop where
 kin:K.In base
 glob:base.Ns mainGlobals mg
 blt:∃mb,base.Ns builtinsNs mb/\∀x:Str,x≠"__name__"->mb x=bootBuiltins x
 nolimit:base.NoLimit
structure Cx where
 prog:Program
 w:World
 K:PySem.W.Frag
 mg:Str->Option Value
 base:Heap
 A:Around
 N:List Str
 s₀:Shared
 H₀:Hp
 env:Env
 outer:List Env
 stack:List Env
 ex:List Addr
 fn:Str->Bool
 calm:Bool
 pn:List (Addr×Obj)
 xe:Value->Shared->Prop
noncomputable def frs(l:List Env):List Addr:=l.filterMap (·.frame)
abbrev Cx.fs(X:Cx):List Addr:=frs X.outer
def Vis(sc:Scope)(x:Str):Prop:=sc.names.lookup x=some .local\/sc.names.lookup x=some .cell\/sc.names.lookup x=some .free
def Loc(sc:Scope)(x:Str):Prop:=sc.names.lookup x=some .local\/sc.names.lookup x=some .cell
noncomputable def LD(env:Env)(h:Heap)(m:Str->Option Value)(x:Str)(u:Value):Prop :=
 (env.kindOf x=some .local/\m x=some u)\/((env.kindOf x=some .cell\/env.kindOf x=some .free)/\∃c,env.cells.lookup x=some c/\h.IsCell c (some u))
structure Cx.Ok(X:Cx):Prop where
 mod:Mod X.K X.mg X.base
 kind:X.env.scope.kind=.function
 glob:X.env.globals=mainGlobals
 blt:X.env.builtins=builtinsNs
 above:X.s₀.heap.objs.size<=X.env.locals
 inj:∀x y c,X.env.cells.lookup x=some c->X.env.cells.lookup y=some c->x=y
 has:∀x,(X.env.kindOf x=some .cell\/X.env.kindOf x=some .free)->∃c,X.env.cells.lookup x=some c
 cab:∀x c,X.fn x=true->X.env.cells.lookup x=some c->X.s₀.heap.objs.size<=c
 hd:X.calm=true->X.A.handled=none
 frames:X.A.frames=some X.stack
 stk:X.stack=X.outer\/(X.stack=X.env::X.outer/\X.env.frame=some X.env.locals)
 exf:∀b∈X.ex,b≠X.env.locals/\∀x c,X.env.cells.lookup x=some c->c≠b
 bs:∀b o,X.base.get? b=some o->X.s₀.heap.get? b=some o/\X.H₀ b=none
 bsz:X.base.objs.size<=X.s₀.heap.objs.size
 noex:∀b o,X.base.get? b=some o->b∉X.ex
 exfs:∀b∈X.ex,b∉X.fs
 funs:X.s₀.heap.FunFrames X.base X.outer
 frf:∀b∈X.fs,X.H₀ b=none
structure Inv(X:Cx)(pins:List (Addr×Obj))(σ:List (Option V))(H:Hp)(s:Shared):Prop where
 ok:X.Ok
 os:s.os=X.s₀.os
 bare:AllBare s.gens
 base:Un X.fs X.ex X.H₀ H X.s₀.heap s.heap
 loc:∃m,s.heap.Ns X.env.locals m/\∀(i:Nat) (x:Str) (v:V),X.N[i]?=some x->σ[i]?=some (some v)->Vis X.env.scope x->∃u,RelV v u/\LD X.env s.heap m x u
 cell:∀x c,X.env.cells.lookup x=some c->∃v,s.heap.IsCell c v
 free:H X.env.locals=none
 freeC:∀x c,X.env.cells.lookup x=some c->H c=none
 pin:∀p∈X.pn++pins,s.heap.get? p.1=some p.2/\H p.1=none/\p.1≠X.env.locals/\p.1∉X.fs/\∀v,p.2.data≠.cell v
 hok:HOk X.prog X.w H s.heap
 len:σ.length=X.N.length
section
variable {X:Cx}{pins:List (Addr×Obj)}{σ:List (Option V)}{H H':Hp}{s:Shared}{h':Heap}
theorem Cx.Ok.nofr(ok:X.Ok){b:Addr}{o:Obj}(e:X.base.get? b=some o):b∉X.fs:=λhb=>by have:=(ok.funs.mem hb).1;rw[e]at this;cases this
theorem Inv.bs(I:Inv X pins σ H s):∀b o,X.base.get? b=some o->s.heap.get? b=some o/\H b=none:=λb o e =>⟨I.base.keep b o (I.ok.bs b o e).1 (I.ok.bs b o e).2 (I.ok.nofr e) (I.ok.noex b o e),I.base.free b o (I.ok.bs b o e).1 (I.ok.bs b o e).2 (I.ok.noex b o e)⟩
theorem Inv.bk(I:Inv X pins σ H s):∀b o,X.base.get? b=some o->s.heap.get? b=some o:=λb o e=>(I.bs b o e).1
theorem Inv.mod(I:Inv X pins σ H s):Mod X.K X.mg X.base:=I.ok.mod
theorem Inv.kIn(I:Inv X pins σ H s):X.K.In s.heap:=I.ok.mod.kin.keeps I.bk
theorem Inv.nolimit(I:Inv X pins σ H s):s.heap.NoLimit:=I.ok.mod.nolimit.keeps I.bk
theorem Inv.fr(I:Inv X pins σ H s):∃m,Fr X.base X.env.locals s.heap m :=
 let⟨m,hn,_⟩:=I.loc
 ⟨m,hn,I.bk,Nd I.ok.bsz I.ok.above⟩
theorem Inv.lt(I:Inv X pins σ H s):X.env.locals<s.heap.objs.size:=let⟨_,hn,_⟩:=I.loc;hn.lt
theorem Inv.sz(I:Inv X pins σ H s):X.s₀.heap.objs.size<=s.heap.objs.size:=Nd I.ok.above (OF I.lt)
theorem Inv.nofs(I:Inv X pins σ H s){a:Addr}(h:s.heap.objs.size<=a):a∉X.fs:=λhb=>by obtain⟨_,o,ho,_⟩:=I.ok.funs.mem hb;exact absurd (Nn (Heap.lt_size ho) (Nd I.sz h)) (ND _)
theorem Inv.cne(I:Inv X pins σ H s):∀x c,X.env.cells.lookup x=some c->c≠X.env.locals:=λx c e z=>by obtain⟨v,o,ho,hd⟩:=I.cell x c e;obtain⟨m,⟨o',es,ep,ho',hd',_⟩,_⟩:=I.loc;rw[z,ho']at ho;cases ho;rw[hd']at hd;cases hd
theorem Inv.funs(I:Inv X pins σ H s):s.heap.FunFrames X.base X.outer:=by
 have all:∀(l:List Env),(∀b∈frs l,b∈X.fs)->X.s₀.heap.FunFrames X.base l->s.heap.FunFrames X.base l:=by
  intro l
  induction l with
  |nil=>intro _ _;trivial
  |cons env r ih =>
   intro hs hl;obtain⟨hk,⟨L,o,hf,hn,ho,hd⟩,hr⟩:=hl;have hL:L∈X.fs:=hs L (by unfold frs;rw[O5,hf];exact M6);obtain⟨sl,e⟩:=I.base.slot L o ho (I.ok.frf L hL) hL λz=>I.ok.exfs L z hL
   exact⟨hk,⟨L,_,hf,hn,e,hd⟩,ih (λb hb=>hs b (by unfold frs;rw[O5,hf];exact M0 _ hb)) hr⟩
 exact all X.outer (λ_ hb=>hb) I.ok.funs
theorem Inv.stack(I:Inv X pins σ H s):s.heap.FunFrames X.base X.stack:=by
 rcases I.ok.stk with e |⟨e,hf⟩
 ·rw[e];exact I.funs
 ·rw[e];obtain⟨m,hn,_⟩:=I.loc;refine .cons (by rw[I.ok.kind];decide) hf hn ?_ I.funs;exact Heap.get?_none_of_le (Nd I.ok.bsz I.ok.above)
theorem Inv.stkSub(I:Inv X pins σ H s):∀b∈frs X.stack,b∈X.env.locals::X.fs:=λb hb=>by
 rcases I.ok.stk with e |⟨e,hf⟩
 ·rw[e]at hb;exact M0 _ hb
 ·rw[e]at hb;unfold frs at hb
  rw[O5,hf]at hb;exact hb
theorem Inv.stkFree(I:Inv X pins σ H s):∀b∈frs X.stack,H b=none:=λb hb=>by
 rcases Na.mp (I.stkSub b hb)with e |hb
 ·rw[e];exact I.free
 ·obtain⟨_,o,ho,_⟩:=I.ok.funs.mem hb;exact I.base.free b o ho (I.ok.frf b hb) λz=>I.ok.exfs b z hb
theorem Inv.step{g':Array GenState}{t':Nat}{d':Drawn}{ch:List Addr}(I:Inv X pins σ H s)
 (hch:∀b∈ch,(b∈X.ex\/X.s₀.heap.objs.size<=b)/\b≠X.env.locals/\(∀x c,X.env.cells.lookup x=some c->c≠b)/\∀p∈X.pn++pins,p.1≠b)
 (keep:∀b o,b≠X.env.locals->b∉X.fs->b∉ch->s.heap.get? b=some o->H b=none->h'.get? b=some o)
 (slot:∀b o,b≠X.env.locals->b∈X.fs->b∉ch->s.heap.get? b=some o->H b=none->∃sl,h'.get? b=some { o with slots:=sl }) (free:∀b o,b∉ch->s.heap.get? b=some o->H b=none->H' b=none)
 (there:∀b o,b∉ch->s.heap.get? b=some o->∃o',h'.get? b=some o')
 (tups:∀b xs,H b=some (.tup xs)->H' b=some (.tup xs)) (frzs:∀b o u,H b=some (.frz o u)->H' b=some (.frz o u)) (tbls:∀b ps,H b=some (.tbl ps)->∃more,H' b=some (.tbl (ps++more)))
 (ns:∀m,s.heap.Ns X.env.locals m->h'.Ns X.env.locals m) (hok:HOk X.prog X.w H' h') (hg:AllBare g') :
 Inv X pins σ H' { s with heap:=h',gens:=g',drawn:=d',toks:=t' }:=by
 have neL:∀b o,X.s₀.heap.get? b=some o->b≠X.env.locals:=λb o e=>Ng (Nn (Heap.lt_size e) I.ok.above)
 have neC:∀b o,X.s₀.heap.get? b=some o->b∉X.ex->b∉ch:=λb o e hx hb=>by
  rcases(hch b hb).1 with z |z
  ·exact hx z
  ·exact absurd (Nn (Heap.lt_size e) z) (ND _)
 have cellK:∀x c,X.env.cells.lookup x=some c->∀v,s.heap.IsCell c v->h'.IsCell c v:=λx c e v ⟨o,ho,hd⟩=>by
  have nch:c∉ch:=λz=>(hch c z).2.2.1 x c e rfl
  by_cases hc:c∈X.fs
  ·obtain⟨sl,q⟩:=slot c o (I.cne x c e) hc nch ho (I.freeC x c e);exact⟨_,q,hd⟩
  ·exact⟨o,keep c o (I.cne x c e) hc nch ho (I.freeC x c e),hd⟩
 refine⟨I.ok,I.os,hg,⟨λb o e n hb hx=>?_,λb o e n hb hx=>?_,λb o e n hx=>?_,λb o e hx=>?_,λb xs e=>tups b xs (I.base.tups b xs e),λb o xs e=>frzs b o xs (I.base.frzs b o xs e),λb ps e=>?_⟩,?_,λx c e=>?_,?_,λx c e=>?_,λp hp=>?_,hok,I.len⟩
 ·exact keep b o (neL b o e) hb (neC b o e hx) (I.base.keep b o e n hb hx) (I.base.free b o e n hx)
 ·obtain⟨sl,e1⟩:=I.base.slot b o e n hb hx;obtain⟨sl',e2⟩:=slot b _ (neL b o e) hb (neC b o e hx) e1 (I.base.free b o e n hx);exact⟨sl',e2⟩
 ·obtain⟨o',e1⟩:=I.base.there b o e hx;exact free b o' (neC b o e hx) e1 (I.base.free b o e n hx)
 ·obtain⟨o',e1⟩:=I.base.there b o e hx;exact there b o' (neC b o e hx) e1
 ·obtain⟨m1,e1⟩:=I.base.tbls b ps e;obtain⟨m2,e2⟩:=tbls b _ e1;exact⟨m1++m2,by rw[e2,Array.append_assoc]⟩
 ·obtain⟨m,hn,hl⟩:=I.loc;refine⟨m,ns m hn,λi x v e1 e2 e3=>?_⟩;obtain⟨u,r,l⟩:=hl i x v e1 e2 e3;refine⟨u,r,?_⟩;rcases l with l |⟨k,c,e,z⟩
  ·exact .inl l
  ·exact .inr ⟨k,c,e,cellK x c e _ z⟩
 ·obtain⟨v,z⟩:=I.cell x c e;exact⟨v,cellK x c e v z⟩
 ·obtain⟨m,⟨o,_,_,ho,_⟩,_⟩:=I.loc;exact free _ o (λz=>(hch _ z).2.1 rfl) ho I.free
 ·obtain⟨v,o,ho,hd⟩:=I.cell x c e;exact free c o (λz=>(hch c z).2.2.1 x c e rfl) ho (I.freeC x c e)
 ·obtain⟨e,n,ne,nf,d⟩:=I.pin p hp;have nch:p.1∉ch:=λz=>(hch p.1 z).2.2.2 p hp rfl
  exact⟨keep p.1 p.2 ne nf nch e n,free p.1 p.2 nch e n,ne,nf,d⟩
theorem Inv.un{t':Nat}(I:Inv X pins σ H s)(u:Un X.fs [] H H' s.heap h')(hok:HOk X.prog X.w H' h'):Inv X pins σ H' { s with heap:=h',toks:=t' }:=by
 obtain⟨m,⟨o,es,ep,ho,r⟩,_⟩:=id I.loc;obtain⟨sl,hL⟩:=u.any ho I.free (by simp)
 exact I.step (g':=s.gens) (d':=s.drawn) (ch:=[]) (λ_ z=>nomatch z) (λb o _ hb _ e n=>u.keep b o e n hb (by simp)) (λb o _ hb _ e n=>u.slot b o e n hb (by simp)) (λb o _ e n=>u.free b o e n (by simp)) (λb o _ e=>u.there b o e (by simp)) u.tups u.frzs u.tbls (λm' hm=>by
  obtain⟨o',es',ep',ho',r'⟩:=hm;rw[ho]at ho';cases ho'
  exact⟨_,es',ep',hL,r'⟩) hok I.bare
theorem Inv.call{g':Array GenState}{t':Nat}{d':Drawn}{ch:List Addr}(I:Inv X pins σ H s)(u:Un (frs X.stack) ch H H' s.heap h')(hok:HOk X.prog X.w H' h')(hg:AllBare g')
 (hch:∀b∈ch,(b∈X.ex\/X.s₀.heap.objs.size<=b)/\b≠X.env.locals/\(∀x c,X.env.cells.lookup x=some c->c≠b)/\∀p∈X.pn++pins,p.1≠b) :
 Inv X pins σ H' { s with heap:=h',gens:=g',drawn:=d',toks:=t' }:=by
 obtain⟨m,⟨o,es,ep,ho,r⟩,_⟩:=id I.loc;obtain⟨sl,hL⟩:=u.any ho I.free λz=>(hch _ z).2.1 rfl
 exact I.step (ch:=ch) hch (λb o hL hb hc e n=>u.keep b o e n (λz=>(Na.mp (I.stkSub b z)).elim hL hb) hc) (λb o _ _ hc e n=>u.any e n hc) (λb o hc e n=>u.free b o e n hc) (λb o hc e=>u.there b o e hc) u.tups u.frzs u.tbls (λm' hm=>by
  obtain⟨o',es',ep',ho',r'⟩:=hm;rw[ho]at ho';cases ho'
  exact⟨_,es',ep',hL,r'⟩) hok hg
theorem Inv.turned{t':Nat}{it:Addr}(I:Inv X pins σ H s)(k:∀b o,b≠it->s.heap.get? b=some o->h'.get? b=some o)(hn:H it=none)(hL:it≠X.env.locals)
 (h1:it∈X.ex\/X.s₀.heap.objs.size<=it) (h2:∀x c,X.env.cells.lookup x=some c->c≠it) (h3:∀p∈X.pn++pins,p.1≠it):Inv X pins σ H { s with heap:=h',toks:=t' }:=by
 have nit:∀b u,H b=some u->b≠it:=λb u e z=>by rw[z,hn]at e;cases e
 refine I.step (g':=s.gens) (d':=s.drawn) (ch:=[it]) (λb hb=>?_) (λb o _ _ hc e _=>k b o (λz=>hc (by simp[z])) e) (λb o _ _ hc e _=>⟨o.slots,k b o (λz=>hc (by simp[z])) e⟩) (λ_ _ _ _ n=>n)
  (λb o hc e=>⟨o,k b o (λz=>hc (by simp[z])) e⟩) (λ_ _ e=>e) (λ_ _ _ e=>e) (λb ps e=>⟨#[],by rw[e];simp⟩) (λm hm=>?_) (λb u e=>?_) I.bare
 ·have e:b=it:=by simpa using hb
  subst e;exact⟨h1,hL,h2,h3⟩
 ·obtain⟨o,es,ep,ho,r⟩:=hm;exact⟨o,es,ep,k _ o (Ne.symm hL) ho,r⟩
 ·refine(I.hok b u e).stay (λc v hc q=>k c v ?_ q) (λ_ q=>q) λ_ _ q=>q
  rcases hc with z |z
  ·rw[z];exact nit b u e
  ·exact nit c _ z
theorem Inv.tok(I:Inv X pins σ H s)(t:Nat):Inv X pins σ H { s with toks:=t }:=I.un (h':=s.heap) (t':=t) Un.refl I.hok
theorem Inv.kept{t':Nat}(I:Inv X pins σ H s)(k:∀b u,s.heap.get? b=some u->h'.get? b=some u):Inv X pins σ H { s with heap:=h',toks:=t' }:=I.un (Un.kept k) (I.hok.kept k)
theorem Inv.laid{a:Addr}{o:HO}{t':Nat}(I:Inv X pins σ H s)(k:∀b u,s.heap.get? b=some u->h'.get? b=some u)(hp:s.heap.objs.size<=a)(new:ObjOk X.prog X.w (upd H a o) h' a o) :
 Inv X pins σ (upd H a o) { s with heap:=h',toks:=t' }:=I.un (Un.laid k hp (I.hok.fresh hp)) (I.hok.laid k hp new)
theorem Inv.write{x e:Addr}{o:HO}{t':Nat}(I:Inv X pins σ H s)(mu:Mut (H x))(he:e=x\/H e=some (.own x))(k:∀b u,b≠e->s.heap.get? b=some u->h'.get? b=some u)(heo:∃u,h'.get? e=some u)
 (new:ObjOk X.prog X.w (upd H x o) h' x o):Inv X pins σ (upd H x o) { s with heap:=h',toks:=t' }:=I.un (Un.write mu he k heo) (I.hok.write mu he k heo new)
theorem Inv.pins_of{pins':List (Addr×Obj)}(I:Inv X pins σ H s)(h:∀p∈pins',s.heap.get? p.1=some p.2/\H p.1=none/\p.1≠X.env.locals/\p.1∉X.fs/\∀v,p.2.data≠.cell v):Inv X pins' σ H s :=
 ⟨I.ok,I.os,I.bare,I.base,I.loc,I.cell,I.free,I.freeC,λp hp=>(NM.mp hp).elim (λz=>I.pin p (Ov _ z)) (h p),I.hok,I.len⟩
theorem rP{N:List Str}(hN:N.Nodup){i j:Nat}{x:Str}(a:N[i]?=some x)(b:N[j]?=some x):i=j:=by obtain⟨h1,e1⟩:=List.getElem?_eq_some_iff.mp a;obtain⟨h2,e2⟩:=List.getElem?_eq_some_iff.mp b;exact(List.getElem_inj hN).mp (e1.trans e2.symm)
theorem wZ{M:Model}{A:Around}{E:Value->Shared->Prop}{i:Nat}{x:Str}{v:V}{u:Value}{Q:Unit->Shared->Prop}(I:Inv X pins σ H s)(hN:X.N.Nodup)(hi:X.N[i]?=some x)(hx:Loc X.env.scope x)(r:RelV v u)
 (h:∀s',Inv X pins (σ.set i (some v)) H s'->(∃a,Heap.SameBut a s.heap s'.heap/\(a=X.env.locals\/X.env.cells.lookup x=some a))->Q () s') (hf:X.fn x=true\/X.env.scope.names.lookup x=some .local:=by first |exact .inl rfl |exact .inr rfl |assumption):wpAny M A (storeName X.env x u) Q E s:=by
 obtain⟨m,hn,hl⟩:=id I.loc;have hcls:(X.env.scope.kind == .class || (X.env.scope.kind == .module&&X.env.locals != X.env.globals))=false:=by rw[I.ok.kind];rfl
 have hiσ:i<σ.length:=by rw[I.len];exact(List.getElem?_eq_some_iff.mp hi).1
 have cne:=I.cne
 have tracked:∀{a:Addr} {h':Heap},(∃o,s.heap.get? a=some o/\H a=none)->Heap.SameBut a s.heap h'->HOk X.prog X.w H h':=λ{a h'} ha hs b ob e=>by
  obtain⟨_,_,hfree⟩:=ha;refine(I.hok b ob e).stay (λc w' hc q=>(hs.2 c ?_).trans q) (λ_ q=>q) λ_ _ q=>q
  rintro rfl;rcases hc with rfl |hc
  ·rw[hfree]at e;cases e
  ·rw[hfree]at hc;cases hc
 rcases hx with hk |hk
 ·refine wpAny_storeName_local hk hn (λh' hn' hs=>?_) hcls;obtain⟨oL,_,_,hoL,_⟩:=id hn;refine h _ ⟨I.ok,I.os,I.bare,⟨λb o e n hb hx=>?_,λb o e n hb hx=>?_,I.base.free,λb o e hx=>?_,I.base.tups,I.base.frzs,I.base.tbls⟩,⟨_,hn',λj y v' e1 e2 e3=>?_⟩,λy c e=>?_,I.free,I.freeC,λp hp=>?_,tracked ⟨oL,hoL,I.free⟩ hs,by simpa using I.len⟩ ⟨_,hs,.inl rfl⟩
  ·exact(hs.2 b (Ng (Nn (Heap.lt_size e) I.ok.above))).trans (I.base.keep b o e n hb hx)
  ·obtain⟨sl,e1⟩:=I.base.slot b o e n hb hx;exact⟨sl,(hs.2 b (Ng (Nn (Heap.lt_size e) I.ok.above))).trans e1⟩
  ·obtain⟨o',e1⟩:=I.base.there b o e hx;exact⟨o',(hs.2 b (Ng (Nn (Heap.lt_size e) I.ok.above))).trans e1⟩
  ·by_cases hj:j=i
   ·subst hj;rw[hi]at e1;cases e1;rw[List.getElem?_set_self hiσ]at e2;cases e2;exact⟨u,r,.inl ⟨hk,by simp⟩⟩
   ·rw[List.getElem?_set_ne (Ne.symm hj)]at e2;obtain⟨u',r',q⟩:=hl j y v' e1 e2 e3;refine⟨u',r',?_⟩;rcases q with⟨k,e⟩ |⟨k,c,e,z⟩
    ·refine .inl ⟨k,?_⟩;have:y≠x:=λe=>hj (rP hN e1 (e ▸ hi))
     simp[this,e]
    ·exact .inr ⟨k,c,e,z.sameBut hs (cne y c e)⟩
  ·obtain⟨w',z⟩:=I.cell y c e;exact⟨w',z.sameBut hs (cne y c e)⟩
  ·obtain⟨e,n,ne,nf,d⟩:=I.pin p hp;exact⟨(hs.2 p.1 ne).trans e,n,ne,nf,d⟩
 ·have hfn:X.fn x=true:=by
   rcases hf with z |z
   ·exact z
   ·rw[z]at hk;cases hk
  obtain⟨c,hc⟩:=I.ok.has x (.inl hk);obtain⟨w',z⟩:=I.cell x c hc;refine wpAny_storeName_cell I.ok.kind hk hc z (λh' hc' hs=>?_);obtain⟨oc,hoc,hocd⟩:=id z;refine h { s with heap:=h' } ⟨I.ok,I.os,I.bare,⟨λb o e n hb hx=>?_,λb o e n hb hx=>?_,I.base.free,λb o e hx=>?_,I.base.tups,I.base.frzs,I.base.tbls⟩,⟨m,hn.sameBut hs (Ne.symm (cne x c hc)),λj y v' e1 e2 e3=>?_⟩,λy c' e=>?_,I.free,I.freeC,λp hp=>?_,tracked ⟨oc,hoc,I.freeC x c hc⟩ hs,by simpa using I.len⟩ ⟨c,hs,.inr hc⟩
  ·exact(hs.2 b (Ng (Nn (Heap.lt_size e) (I.ok.cab x c hfn hc)))).trans (I.base.keep b o e n hb hx)
  ·obtain⟨sl,e1⟩:=I.base.slot b o e n hb hx;exact⟨sl,(hs.2 b (Ng (Nn (Heap.lt_size e) (I.ok.cab x c hfn hc)))).trans e1⟩
  ·obtain⟨o',e1⟩:=I.base.there b o e hx;exact⟨o',(hs.2 b (Ng (Nn (Heap.lt_size e) (I.ok.cab x c hfn hc)))).trans e1⟩
  ·by_cases hj:j=i
   ·subst hj;rw[hi]at e1;cases e1;rw[List.getElem?_set_self hiσ]at e2;cases e2;exact⟨u,r,.inr ⟨.inl hk,c,hc,hc'⟩⟩
   ·rw[List.getElem?_set_ne (Ne.symm hj)]at e2;obtain⟨u',r',q⟩:=hl j y v' e1 e2 e3;refine⟨u',r',?_⟩;rcases q with q |⟨k,c',e,z'⟩
    ·exact .inl q
    ·refine .inr ⟨k,c',e,z'.sameBut hs ?_⟩;rintro rfl;exact hj (rP hN e1 (I.ok.inj _ _ _ e hc ▸ hi))
  ·by_cases hcc:c'=c
   ·subst hcc;exact⟨_,hc'⟩
   ·obtain⟨w2,z2⟩:=I.cell y c' e;exact⟨w2,z2.sameBut hs hcc⟩
  ·obtain⟨e,n,ne,nf,d⟩:=I.pin p hp;refine⟨(hs.2 p.1 ?_).trans e,n,ne,nf,d⟩;intro q;rw[q,hoc]at e;have q':oc=p.2:=Option.some.inj e;exact d w' (by rw[<- q'];exact hocd)
theorem lf{M:Model}{A:Around}{E:Value->Shared->Prop}{i:Nat}{x:Str}{v:V}{u:Value}{Q:Unit->Shared->Prop}(I:Inv X pins σ H s)(hN:X.N.Nodup)(hi:X.N[i]?=some x)(hx:Loc X.env.scope x)(r:RelV v u)
 (h:∀s',Inv X pins (σ.set i (some v)) H s'->Q () s') (hf:X.fn x=true\/X.env.scope.names.lookup x=some .local:=by first |exact .inl rfl |exact .inr rfl |assumption):wpAny M A (storeName X.env x u) Q E s :=
 wZ I hN hi hx r (λs' I' _=>h s' I') hf
theorem Inv.call'{s':Shared}{ch:List Addr}(I:Inv X pins σ H s)(ho:s'.os=s.os)(u:Un (frs X.stack) ch H H' s.heap s'.heap)(hok:HOk X.prog X.w H' s'.heap)(hg:AllBare s'.gens)
 (hch:∀b∈ch,(b∈X.ex\/X.s₀.heap.objs.size<=b)/\b≠X.env.locals/\(∀x c,X.env.cells.lookup x=some c->c≠b)/\∀p∈X.pn++pins,p.1≠b):Inv X pins σ H' s':=by
 obtain⟨h',g',d',t',o'⟩:=s';have e:o'=s.os:=ho;subst e;exact I.call (g':=g') (t':=t') (d':=d') u hok hg hch
end
abbrev XK:=Value->Option Addr->Hp->Prop
abbrev St:=List (Option V)
abbrev VK:=V->Hp->Prop
abbrev TE:=St->Hp->VK->Prop
abbrev TT:=St->Hp->(Bool->Hp->Prop)->Prop
abbrev TA:=St->Hp->(List V->Hp->Prop)->Prop
structure Ends where
 nx:St->Hp->Prop
 rt:VK
 bk:St->Hp->Prop:=λ_ _=>False
 ct:St->Hp->Prop:=λ_ _=>False
abbrev TS:=Ends->St->Hp->Prop
def EP(X:Cx)(pins:List (Addr×Obj))(σ:St)(Q:VK)(u:Value)(s':Shared):Prop:=∃v H',Inv X pins σ H' s'/\RelV v u/\Q v H'
def TP(X:Cx)(pins:List (Addr×Obj))(σ:St)(Q:Bool->Hp->Prop)(b:Bool)(s':Shared):Prop:=∃H',Inv X pins σ H' s'/\Q b H'
def AP(X:Cx)(pins:List (Addr×Obj))(σ:St)(Q:List V->Hp->Prop)(us:List Value)(s':Shared):Prop:=∃vs H',Inv X pins σ H' s'/\Vals vs us/\Q vs H'
noncomputable def SP(X:Cx)(pins:List (Addr×Obj))(D:Ends)(f:Flow)(s':Shared):Prop :=
 match f with
 |.next=>∃σ' H',Inv X pins σ' H' s'/\D.nx σ' H'
 |.brk=>∃σ' H',Inv X pins σ' H' s'/\D.bk σ' H'
 |.cont=>∃σ' H',Inv X pins σ' H' s'/\D.ct σ' H'
 |.ret u=>∃v σ' H',Inv X pins σ' H' s'/\RelV v u/\D.rt v H'
noncomputable def PE(X:Cx)(e:Expr)(t:TE):Prop :=
 ∀(pins:List (Addr×Obj)) (s:Shared) (σ:St) (H:Hp) (Q:VK),Inv X pins σ H s->t σ H Q->wpAny (model X.prog X.w) X.A (eval e X.env) (EP X pins σ Q) X.xe s
noncomputable def PT(X:Cx)(e:Expr)(t:TT):Prop :=
 ∀(pins:List (Addr×Obj)) (s:Shared) (σ:St) (H:Hp) (Q:Bool->Hp->Prop),Inv X pins σ H s->t σ H Q->wpAny (model X.prog X.w) X.A (isTrue e X.env (eval e X.env)) (TP X pins σ Q) X.xe s
noncomputable def PW(X:Cx)(e:Expr)(t:TT):Prop :=
 ∀(whole:Sem Value) (pins:List (Addr×Obj)) (s:Shared) (σ:St) (H:Hp) (Q:Bool->Hp->Prop),Inv X pins σ H s->t σ H Q->wpAny (model X.prog X.w) X.A (isTrue e X.env whole) (TP X pins σ Q) X.xe s
theorem PW.pt{X:Cx}{e:Expr}{t:TT}(h:PW X e t):PT X e t:=h _
noncomputable def PA(X:Cx)(es:List Expr)(t:TA):Prop :=
 ∀(pos:Pos) (pins:List (Addr×Obj)) (s:Shared) (σ:St) (H:Hp) (Q:List V->Hp->Prop),Inv X pins σ H s->t σ H Q->wpAny (model X.prog X.w) X.A (spliced (backTo pos (starEach es X.env))) (AP X pins σ Q) X.xe s
noncomputable def PS(X:Cx)(st:Stmt)(t:TS):Prop :=
 ∀(pins:List (Addr×Obj)) (s:Shared) (σ:St) (H:Hp) (D:Ends),Inv X pins σ H s->t D σ H->wpAny (model X.prog X.w) X.A (exec st X.env) (SP X pins D) X.xe s
noncomputable def PSs(X:Cx)(st:List Stmt)(t:TS):Prop :=
 ∀(pins:List (Addr×Obj)) (s:Shared) (σ:St) (H:Hp) (D:Ends),Inv X pins σ H s->t D σ H->wpAny (model X.prog X.w) X.A (execs st X.env) (SP X pins D) X.xe s
theorem thn{α:Type}{t:Sem α}{Q Q':α->Shared->Prop}{M:Model}{A:Around}{E:Value->Shared->Prop}{s:Shared}(h:wpAny M A t Q E s)(hQ:∀a s,Q a s->Q' a s):wpAny M A t Q' E s:=wpAny_mono h hQ λ_ _ x=>x
section
variable {X:Cx}
def wD(i:Nat):TE:=λσ H Q=>∃v,σ[i]?=some (some v)/\Q v H
def tC(v:V):TE:=λ_ H Q=>Q v H
theorem Ej{i:Nat}{x:Str}{pos:Pos}(hN:X.N[i]?=some x)(hv:Vis X.env.scope x)(hd:(x == ("__debug__":Str))=false:=by decide)(hcd:(x == ("__classdict__":Str))=false:=by decide):PE X (.Name x pos) (wD i):=by
 intro pins s σ H Q I h;obtain⟨v,e,h⟩:=h;obtain⟨m,hn,hl⟩:=I.loc;obtain⟨u,r,l⟩:=hl i x v hN e hv;have fin:EP X pins σ Q u s:=⟨v,H,I,r,h⟩;rcases l with⟨hk,hm⟩ |⟨hk,c,hc,hcell⟩
 ·exact wpAny_Name (wpAny_loadName_local I.ok.kind hk hn hm fin) hd
 ·rcases hk with hk |hk
  ·exact wpAny_Name (wpAny_loadName_cell I.ok.kind hk hc hcell fin) hd
  ·exact wpAny_Name (wpAny_loadName_free I.ok.kind hk hc hcell fin hcd) hd
theorem ad{i j pos}:PE X (.Constant (.int i) j pos) (tC (.int i)):=λ_ _ _ H _ I h=>wpAny_Constant_int ⟨.int i,H,I.tok _,⟨_,rfl⟩,h⟩
theorem cW{b j pos}:PE X (.Constant (.bool b) j pos) (tC (.bl b)):=λ_ _ _ H _ I h=>Constant_bool ⟨.bl b,H,I,rfl,h⟩
theorem ky{j pos}:PE X (.Constant .none j pos) (tC .non):=λ_ _ _ H _ I h=>Constant_none ⟨.non,H,I,rfl,h⟩
def Gl(X:Cx)(x:Str):Prop:=X.env.kindOf x=some .globalImplicit
theorem dR{E:Value->Shared->Prop}{pins:List (Addr×Obj)}{s:Shared}{σ:St}{H:Hp}{x:Str}{u:Value}{pos:Pos}{Q:Value->Shared->Prop}(I:Inv X pins σ H s)(hg:Gl X x)(hm:X.mg x=some u)(h:Q u s)
 (hd:(x == ("__debug__":Str))=false:=by decide):wpAny (model X.prog X.w) X.A (eval (.Name x pos) X.env) Q E s :=
 Calls.Name_function_global I.ok.kind hg (Calls.loadGlobal_global (by rw[I.ok.glob];exact I.mod.glob.keeps I.bk) hm h) hd
theorem fk{E:Value->Shared->Prop}{pins:List (Addr×Obj)}{s:Shared}{σ:St}{H:Hp}{x:Str}{u:Value}{pos:Pos}{Q:Value->Shared->Prop}(I:Inv X pins σ H s)(hg:Gl X x)(hm:X.mg x=none)(hv:bootBuiltins x=some u)(h:Q u s)
 (hn:x≠"__name__":=by decide) (hd:(x == ("__debug__":Str))=false:=by decide):wpAny (model X.prog X.w) X.A (eval (.Name x pos) X.env) Q E s:=by
 obtain⟨mb,h1,h2⟩:=I.mod.blt;exact Calls.Name_function_global I.ok.kind hg (Calls.loadGlobal_builtin (by rw[I.ok.glob];exact I.mod.glob.keeps I.bk) hm (by rw[I.ok.blt];exact h1.keeps I.bk) ((h2 x hn).trans hv) h) hd
theorem pi{x:Str}{v:V}{u:Value}{pos:Pos}(hg:Gl X x)(hm:X.mg x=some u)(r:RelV v u)(hd:(x == ("__debug__":Str))=false:=by decide):PE X (.Name x pos) (tC v) :=
 λ_ _ _ H _ I h=>dR I hg hm ⟨v,H,I,r,h⟩ hd
theorem gG{x:Str}{v:V}{u:Value}{pos:Pos}(hg:Gl X x)(hm:X.mg x=none)(hv:bootBuiltins x=some u)(r:RelV v u)(hn:x≠"__name__":=by decide)(hd:(x == ("__debug__":Str))=false:=by decide):PE X (.Name x pos) (tC v) :=
 λ_ _ _ H _ I h=>fk I hg hm hv ⟨v,H,I,r,h⟩ hn hd
variable {a b:Expr}{ta tb:TE}{pos:Pos}
def tB(t:TE):TT:=λσ H Q=>t σ H λx H1=>∃c,x=.bl c/\Q c H1
theorem eV{e:Expr}{t:TE}(h:PE X e t)(he:∀whole,isTrue e X.env whole=(do let v <- whole;standAt e.pos;holding [v] (truthy v)):=by intro _;rfl):PT X e (tB t):=by intro pins s σ H Q I hw;refine isTrue_plain (thn (h pins s σ H _ I hw) λv s1 ⟨x,H1,I1,r1,q1⟩=>?_) (he _);obtain⟨d,rfl,q⟩:=q1;cases r1;exact wpAny_truthy_bool ⟨H1,I1,q⟩
variable {tA tB':TT}{rest:List Expr}
def wP(t u:TT):TT:=λσ H Q=>t σ H λc H1=>if c=true then u σ H1 Q else Q false H1
def tOr(t u:TT):TT:=λσ H Q=>t σ H λc H1=>if c=true then Q true H1 else u σ H1 Q
def wH(t:TT):TT:=λσ H Q=>t σ H λc H1=>Q (!c) H1
theorem km(ha:PT X a tA):PW X (.BoolOp .And [a] pos) tA:=by
 intro wh pins s σ H Q I h;refine isTrue_and (thn (ha pins s σ H Q I h) λc s1 e=>?_);cases c with
 |true=>exact isTrue_and_nil e
 |false=>exact e
theorem rm(ha:PT X a tA):PW X (.BoolOp .Or [a] pos) tA:=by
 intro wh pins s σ H Q I h;refine isTrue_or (thn (ha pins s σ H Q I h) λc s1 e=>?_);cases c with
 |false=>exact isTrue_or_nil e
 |true=>exact e
theorem fK(ha:PT X a tA)(hb:PW X (.BoolOp .And (b::rest) pos) tB'):PW X (.BoolOp .And (a::b::rest) pos) (wP tA tB'):=by
 intro wh pins s σ H Q I h;refine isTrue_and (thn (ha pins s σ H _ I h) λc s1 ⟨H1,I1,q1⟩=>?_);cases c with
 |true=>exact hb wh pins s1 σ H1 Q I1 q1
 |false=>exact⟨H1,I1,q1⟩
theorem lP(ha:PT X a tA)(hb:PW X (.BoolOp .Or (b::rest) pos) tB'):PW X (.BoolOp .Or (a::b::rest) pos) (tOr tA tB'):=by
 intro wh pins s σ H Q I h;refine isTrue_or (thn (ha pins s σ H _ I h) λc s1 ⟨H1,I1,q1⟩=>?_);cases c with
 |true=>exact⟨H1,I1,q1⟩
 |false=>exact hb wh pins s1 σ H1 Q I1 q1
theorem kn(ha:PT X a tA):PT X (.UnaryOp .Not a pos) (wH tA):=by intro pins s σ H Q I h;exact isTrue_not (ha pins s σ H (λc H1=>Q (!c) H1) I h)
def wO(ta tb:TE):TE:=λσ H Q=>ta σ H λx H1=>∃c,x=.bl c/\if c=true then tb σ H1 Q else Q (.bl false) H1
def wF(ta tb:TE):TE:=λσ H Q=>ta σ H λx H1=>∃c,x=.bl c/\if c=true then Q (.bl true) H1 else tb σ H1 Q
def wG(ta:TE):TE:=λσ H Q=>ta σ H λx H1=>∃c,x=.bl c/\Q (.bl (!c)) H1
theorem lY{op}{t:TE}(h:PE X a t):PE X (.BoolOp op [a] pos) t:=λpins s σ H Q I hw=>BoolOp_one (h pins s σ H Q I hw)
theorem gH(ha:PE X a ta)(hb:PE X (.BoolOp .And (b::rest) pos) tb):PE X (.BoolOp .And (a::b::rest) pos) (wO ta tb):=by
 intro pins s σ H Q I h;refine BoolOp_and (thn (ha pins s σ H _ I h) λv s1 ⟨x,H1,I1,r1,q1⟩=>?_);obtain⟨c,rfl,q1⟩:=q1;cases r1;refine wpAny_truthy_bool ?_;cases c with
 |true=>exact hb pins s1 σ H1 Q I1 q1
 |false=>exact⟨.bl false,H1,I1,rfl,q1⟩
theorem Ek(ha:PE X a ta)(hb:PE X (.BoolOp .Or (b::rest) pos) tb):PE X (.BoolOp .Or (a::b::rest) pos) (wF ta tb):=by
 intro pins s σ H Q I h;refine BoolOp_or (thn (ha pins s σ H _ I h) λv s1 ⟨x,H1,I1,r1,q1⟩=>?_);obtain⟨c,rfl,q1⟩:=q1;cases r1;refine wpAny_truthy_bool ?_;cases c with
 |false=>exact hb pins s1 σ H1 Q I1 q1
 |true=>exact⟨.bl true,H1,I1,rfl,q1⟩
theorem rH(ha:PE X a ta):PE X (.UnaryOp .Not a pos) (wG ta):=by intro pins s σ H Q I h;refine UnaryOp_ (thn (ha pins s σ H _ I h) λv s1 ⟨x,H1,I1,r1,q1⟩=>?_);obtain⟨c,rfl,q1⟩:=q1;cases r1;exact not_of (wpAny_truthy_bool ⟨.bl (!c),H1,I1,rfl,q1⟩)
def tIf(t:TT)(ta tb:TE):TE:=λσ H Q=>t σ H λc H1=>if c=true then ta σ H1 Q else tb σ H1 Q
theorem rJ{c:Expr}(hc:PT X c tA)(ha:PE X a ta)(hb:PE X b tb):PE X (.IfExp c a b pos) (tIf tA ta tb):=by
 intro pins s σ H Q I h;refine wpAny_IfExp (thn (hc pins s σ H _ I h) λd s1 ⟨H1,I1,q1⟩=>?_);cases d with
 |true=>exact ha pins s1 σ H1 Q I1 q1
 |false=>exact hb pins s1 σ H1 Q I1 q1
end
noncomputable def SqL(K:PySem.W.Frag)(H:Hp)(a:Addr)(xs:List V):Prop :=
 Rd H a (.lst xs) \/
  ∃(o:Obj) (its:Array Value) (n:Nat),K.lookup a=some o/\o.cls=.type "list"/\o.dict=none/\o.data=.seq its n/\its.size<=sizeLine/\Vals xs its.toList
noncomputable def SqT(K:PySem.W.Frag)(H:Hp)(a:Addr)(xs:List V):Prop :=
 Rd H a (.tup xs) \/
  ∃(o:Obj) (its:Array Value) (n:Nat),K.lookup a=some o/\o.cls=.type "tuple"/\o.data=.seq its n/\its.size<=sizeLine/\Vals xs its.toList
noncomputable def Lz:Value->Option V
 |.none=>some .non
 |.bool b=>some (.bl b)
 |.int i _=>some (.int i)
 |.str x _=>some (.str x)
 |.bytes b _=>some (.byt b)
 |.float b _=>some (.flt b)
 |.ref a=>some (.ref a)
 |.type n=>some (.ty n)
 |_=>none
theorem RelV.abs{x:V}{u:Value}(r:RelV x u):Lz u=some x:=by
 cases x with
 |non=>cases r;rfl
 |bl _=>cases r;rfl
 |int _=>obtain⟨t,rfl⟩:=r;rfl
 |str _=>obtain⟨t,rfl⟩:=r;rfl
 |byt _=>obtain⟨t,rfl⟩:=r;rfl
 |flt _=>obtain⟨t,rfl⟩:=r;rfl
 |ref _=>cases r;rfl
 |ty _=>cases r;rfl
theorem RelV.inj{x y:V}{u:Value}(r:RelV x u)(q:RelV y u):x=y:=Option.some.inj (r.abs.symm.trans q.abs)
theorem Vals.inj:∀{xs ys:List V} {us:List Value},Vals xs us->Vals ys us->xs=ys
 |_,_,_,.nil,.nil=>rfl
 |_,_,_,.cons r t,.cons r' t'=>by rw[r.inj r',Vals.inj t t']
section
variable {X:Cx}{pins:List (Addr×Obj)}{σ:St}{H:Hp}{s:Shared}{a:Addr}{xs ys:List V}
theorem SqL.of{K:PySem.W.Frag}(h:H a=some (.lst xs)):SqL K H a xs:=.inl (.inl h)
theorem SqT.of{K:PySem.W.Frag}(h:H a=some (.tup xs)):SqT K H a xs:=.inl (.inl h)
theorem Inv.list(I:Inv X pins σ H s)(h:SqL X.K H a xs):∃its:List Value,Vals xs its/\PlainL s.heap a its.toArray/\xs.length<=sizeLine:=by
 rcases h with h |⟨o,its,n,hk,hc,hd,hs,hz,r⟩
 ·obtain⟨z,its,n,r,e⟩:=h.ok I.hok;exact⟨its,r,⟨_,n,e,rfl,rfl,rfl⟩,z⟩
 ·refine⟨its.toList,r,⟨o,n,I.kIn a o hk,hc,hd,by simpa using hs⟩,?_⟩;have e:=r.length;simp only[Array.length_toList]at e;omega
theorem Inv.tuple(I:Inv X pins σ H s)(h:SqT X.K H a xs):∃its:List Value,Vals xs its/\IsTup s.heap a its.toArray/\xs.length<=sizeLine:=by
 rcases h with h |⟨o,its,n,hk,hc,hs,hz,r⟩
 ·obtain⟨z,its,r,p⟩:=h.ok I.hok;exact⟨its,r,p,z⟩
 ·refine⟨its.toList,r,⟨o,I.kIn a o hk,hc,n,by simpa using hs⟩,?_⟩;have e:=r.length;simp only[Array.length_toList]at e;omega
theorem Inv.list_inj(I:Inv X pins σ H s)(h:SqL X.K H a xs)(h':SqL X.K H a ys):xs=ys:=by
 obtain⟨its,r,⟨o,n,e,_,_,d⟩,_⟩:=I.list h;obtain⟨its',r',⟨o',n',e',_,_,d'⟩,_⟩:=I.list h';rw[e]at e';cases e';rw[d]at d'
 injection d' with d1 _
 have:its=its':=by simpa using congrArg Array.toList d1
 subst this;exact r.inj r'
end
abbrev Cx.wish(X:Cx)(E:Value->Shared->Prop):Cx:={ X with xe:=E }
abbrev Cx.nox(X:Cx):Cx:=X.wish λ_ _=>False
theorem Cx.Ok.wish{X:Cx}(ok:X.Ok)(E:Value->Shared->Prop):(X.wish E).Ok :=
 ⟨ok.mod,ok.kind,ok.glob,ok.blt,ok.above,ok.inj,ok.has,ok.cab,ok.hd,ok.frames,ok.stk,ok.exf,ok.bs,ok.bsz,ok.noex,ok.exfs,ok.funs,ok.frf⟩
theorem Cx.Ok.unwish{X:Cx}{E:Value->Shared->Prop}(ok:(X.wish E).Ok):X.Ok :=
 ⟨ok.mod,ok.kind,ok.glob,ok.blt,ok.above,ok.inj,ok.has,ok.cab,ok.hd,ok.frames,ok.stk,ok.exf,ok.bs,ok.bsz,ok.noex,ok.exfs,ok.funs,ok.frf⟩
section
variable {X:Cx}{pins:List (Addr×Obj)}{σ:St}{H:Hp}{s:Shared}{E:Value->Shared->Prop}
theorem Inv.wish(I:Inv X pins σ H s)(E:Value->Shared->Prop):Inv (X.wish E) pins σ H s:=⟨I.ok.wish E,I.os,I.bare,I.base,I.loc,I.cell,I.free,I.freeC,I.pin,I.hok,I.len⟩
theorem Inv.unwish(I:Inv (X.wish E) pins σ H s):Inv X pins σ H s:=⟨I.ok.unwish,I.os,I.bare,I.base,I.loc,I.cell,I.free,I.freeC,I.pin,I.hok,I.len⟩
theorem SP.unwish{D:Ends}{f:Flow}{s':Shared}(h:SP (X.wish E) pins D f s'):SP X pins D f s':=by
 cases f with
 |next=>obtain⟨σ',H',I,q⟩:=h;exact⟨σ',H',I.unwish,q⟩
 |brk=>obtain⟨σ',H',I,q⟩:=h;exact⟨σ',H',I.unwish,q⟩
 |cont=>obtain⟨σ',H',I,q⟩:=h;exact⟨σ',H',I.unwish,q⟩
 |ret u=>obtain⟨v,σ',H',I,r,q⟩:=h;exact⟨v,σ',H',I.unwish,r,q⟩
theorem PE.nox{e:Expr}{t:TE}(h:PE X.nox e t):PE X e t:=λpins s σ H Q I hw =>wpAny_mono (h pins s σ H Q (I.wish _) hw) (λ_ _ ⟨v,H',I',r,q⟩=>⟨v,H',I'.unwish,r,q⟩) λ_ _ z=>False.elim z
theorem PT.nox{e:Expr}{t:TT}(h:PT X.nox e t):PT X e t:=λpins s σ H Q I hw =>wpAny_mono (h pins s σ H Q (I.wish _) hw) (λ_ _ ⟨H',I',q⟩=>⟨H',I'.unwish,q⟩) λ_ _ z=>False.elim z
theorem PSs.nox{st:List Stmt}{t:TS}(h:PSs X.nox st t):PSs X st t:=λpins s σ H D I hw =>wpAny_mono (h pins s σ H D (I.wish _) hw) (λ_ _ q=>q.unwish) λ_ _ z=>False.elim z
end
section
variable {X:Cx}{st:Stmt}{rest:List Stmt}{t u:TS}{e:Expr}{te:TE}{pos:Pos}
def wI:TS:=λD σ H=>D.nx σ H
def cg(t u:TS):TS:=λD σ H=>t { D with nx:=u D } σ H
theorem aU:PSs X [] wI:=λ_ _ σ H _ I h=>wpAny_execs_nil ⟨σ,H,I,h⟩
theorem af(h1:PS X st t)(h2:PSs X rest u):PSs X (st::rest) (cg t u):=by
 intro pins s σ H D I h;refine wpAny_execs_cons (thn (h1 pins s σ H { D with nx:=u D } I h) λf s1 q=>?_);cases f with
 |next =>obtain⟨σ',H',I',q⟩:=q;exact h2 pins s1 σ' H' D I' q
 |ret v=>exact q
 |brk=>exact q
 |cont=>exact q
theorem ai(h1:PS X st t):PSs X [st] t:=by
 intro pins s σ H D I h;refine wpAny_execs_cons (thn (h1 pins s σ H D I h) λf s1 q=>?_);cases f with
 |next=>exact wpAny_execs_nil q
 |ret v=>exact q
 |brk=>exact q
 |cont=>exact q
theorem Inv.quiet{pins:List (Addr×Obj)}{σ:St}{H:Hp}{s:Shared}(I:Inv X pins σ H s):interactive X.env=false:=by simp[interactive,I.ok.kind]
def oi(te:TE):TS:=λD σ H=>te σ H λ_ H1=>D.nx σ H1
theorem d8(he:PE X e te)(hs:swapsWith e none pos.line X.env=pure false:=by rfl):PS X (.Expr e pos) (oi te):=by intro pins s σ H D I h;exact wpAny_Expr_any (thn (he pins s σ H _ I h) λv s1 ⟨x,H1,I1,r1,q1⟩=>⟨σ,H1,I1,q1⟩) I.quiet hs
def wE(te:TE):TS:=λD σ H=>te σ H D.rt
theorem ay(he:PE X e te):PS X (.Return (some e) pos) (wE te):=by intro pins s σ H D I h;exact wpAny_Return_some (thn (he pins s σ H _ I h) λv s1 ⟨x,H1,I1,r1,q1⟩=>⟨x,σ,H1,I1,r1,q1⟩)
def iQ(c:TT)(t u:TS):TS:=λD σ H=>c σ H λb H1=>if b=true then t D σ H1 else u D σ H1
theorem aS{c:Expr}{a b:List Stmt}{tc:TT}(hc:PT X c tc)(ha:PSs X a t)(hb:PSs X b u):PS X (.If c a b pos) (iQ tc t u):=by
 intro pins s σ H D I h;refine wpAny_If (thn (hc pins s σ H _ I h) λd s1 ⟨H1,I1,q1⟩=>?_);cases d with
 |true=>exact ha pins s1 σ H1 D I1 q1
 |false=>exact hb pins s1 σ H1 D I1 q1
def BS:TS:=λ_ _ _=>False
theorem rB:PS X st BS:=λ_ _ _ _ _ _ h=>h.elim
end
abbrev TG:=V->St->Hp->(St->Hp->Prop)->Prop
abbrev TGs:=List V->St->Hp->(St->Hp->Prop)->Prop
noncomputable def PG(X:Cx)(target:Expr)(t:TG):Prop :=
 ∀(pins:List (Addr×Obj)) (s:Shared) (σ:St) (H:Hp) (v:V) (u:Value) (Q:St->Hp->Prop),Inv X pins σ H s->RelV v u->t v σ H Q ->
  wpAny (model X.prog X.w) X.A (assign target X.env u) (λ_ s'=>∃σ' H',Inv X pins σ' H' s'/\Q σ' H') X.xe s
noncomputable def PGs(X:Cx)(ts:List Expr)(t:TGs):Prop :=
 ∀(pins:List (Addr×Obj)) (s:Shared) (σ:St) (H:Hp) (vs:List V) (us:List Value) (Q:St->Hp->Prop),Inv X pins σ H s->Vals vs us->t vs σ H Q ->
  wpAny (model X.prog X.w) X.A (assignInOrder ((assignEach ts X.env).map (·.2)) us) (λ_ s'=>∃σ' H',Inv X pins σ' H' s'/\Q σ' H') X.xe s
abbrev vz:=V->V->V->Hp->(Hp->Prop)->Prop
noncomputable def AZ(X:Cx)(t:vz):Prop :=
 ∀(pins:List (Addr×Obj)) (s:Shared) (σ:St) (H:Hp) (o i v:V) (ov iv u:Value) (Q:Hp->Prop),Inv X pins σ H s->RelV o ov->RelV i iv->RelV v u->t o i v H Q ->
  wpAny (model X.prog X.w) X.A (setItem ov iv u) (λ_ s'=>∃H',Inv X pins σ H' s'/\Q H') X.xe s
section
variable {X:Cx}{pos:Pos}
def eE(i:Nat):TG:=λv σ H Q=>Q (σ.set i (some v)) H
theorem bw{i:Nat}{x:Str}(hN:X.N.Nodup)(hi:X.N[i]?=some x)(hx:Loc X.env.scope x)(hf:X.fn x=true\/X.env.scope.names.lookup x=some .local:=by first |exact .inl rfl |exact .inr rfl |assumption):PG X (.Name x pos) (eE i):=by intro pins s σ H v u Q I r h;exact wpAny_assign_Name (lf I hN hi hx r (λs' I'=>⟨_,H,I',h⟩) hf)
noncomputable def IK:TGs:=λvs σ H Q=>vs=[]/\Q σ H
noncomputable def IL(t:TG)(u:TGs):TGs:=λvs σ H Q=>∃v r,vs=v::r/\t v σ H λσ' H'=>u r σ' H' Q
theorem rF:PGs X [] IK:=by intro pins s σ H vs us Q I r h;obtain⟨e,h⟩:=h;subst e;cases r;exact assignInOrder_nil ⟨σ,H,I,h⟩
theorem kx{e:Expr}{es:List Expr}{t:TG}{u:TGs}(h1:PG X e t)(h2:PGs X es u)
 (hs:(assignEach (e::es) X.env).map (·.2)=assign e X.env::(assignEach es X.env).map (·.2):=by rfl):PGs X (e::es) (IL t u):=by
 intro pins s σ H vs us Q I r h;obtain⟨v,vr,e1,h⟩:=h;subst e1;cases r with
 |cons r rr =>rw[hs];refine assignInOrder_cons (thn (h1 pins s σ H _ _ _ I r h) λ_ s1 ⟨σ1,H1,I1,q1⟩=>?_);exact h2 pins s1 σ1 H1 _ _ Q I1 rr q1
def II(K:PySem.W.Frag)(n:Nat)(t:TGs):TG:=λv σ H Q=>∃a xs,v=.ref a/\SqT K H a xs/\xs.length=n/\t xs σ H Q
theorem rG{es:List Expr}{k:Nat}{t:TGs}{n:Nat}(hc:X.calm=true)(h:PGs X es t)
 (hn:(assignEach es X.env).length=n:=by rfl) (hst:(assignEach es X.env).findIdx? (·.1)=none:=by rfl):PG X (.Tuple es k pos) (II X.K n t):=by
 intro pins s σ H v u Q I r hw;obtain⟨a,xs,e1,hq,hl,hw⟩:=hw;subst e1;cases r;obtain⟨its,rv,ht,hz⟩:=I.tuple hq;refine assign_Tuple_tuple (I.ok.hd hc) ht (by simp[hn,<- hl,rv.length]) hst λh' hx=>?_
 have I1:Inv X pins σ H { s with heap:=h' }:=I.kept (t':=s.toks) λb o e=>hx b o (Ng (Heap.lt_size e)) e
 exact h pins _ σ H xs _ Q I1 (by simpa using rv) hw
def IJ(to ti:TE)(t:vz):TG:=λv σ H Q=>to σ H λo H1=>ti σ H1 λi H2=>t o i v H2 λH3=>Q σ H3
theorem lX{o i:Expr}{to ti:TE}{t:vz}(ho:PE X o to)(hi:PE X i ti)(hs:AZ X t)
 (ha:∀v,assign (.Subscript o i pos) X.env v=(do
   let ov <- holding [v] (eval o X.env)
   let iv <- holding [v,ov] (eval i X.env)
   standAt pos
   holding [v,ov,iv] (setItem ov iv v)
   release [v,ov,iv] []):=by intro _;rfl):PG X (.Subscript o i pos) (IJ to ti t):=by
 intro pins s σ H v u Q I r h;rw[ha];refine wpAny_bind (wpAny_holding (thn (ho pins s σ H _ I h) λov s1 ⟨x,H1,I1,r1,q1⟩=>?_));refine wpAny_bind (wpAny_holding (thn (hi pins s1 σ H1 _ I1 q1) λiv s2 ⟨y,H2,I2,r2,q2⟩=>?_));refine wpAny_bind (wpAny_standAt (wpAny_bind (wpAny_holding (thn (hs pins s2 σ H2 x y v ov iv u _ I2 r1 r2 r q2) λ_ s3 ⟨H3,I3,q3⟩=>?_))));exact wpAny_release ⟨σ,H3,I3,q3⟩
def eP(te:TE)(g:TG):TS:=λD σ H=>te σ H λx H1=>g x σ H1 D.nx
theorem lT{tg e:Expr}{te:TE}{g:TG}(he:PE X e te)(hg:PG X tg g)(hs:swapsWithSole [tg] e pos.line X.env=pure false:=by rfl)(hw:swappedStores [tg] e X.env=pure none:=by rfl)
 (h1:(assignEach [tg] X.env).map (·.2)=[assign tg X.env]:=by rfl):PS X (.Assign [tg] e pos) (eP te g):=by
 intro pins s σ H D I h;refine wpAny_Assign_stores (thn (he pins s σ H _ I h) λv s1 ⟨x,H1,I1,r1,q1⟩=>?_) hs hw;rw[h1];exact thn (hg pins s1 σ H1 x v _ I1 r1 q1) λ_ s2 q=>q
theorem ak{i:Nat}{x:Str}{e:Expr}{te:TE}{pos':Pos}(hN:X.N.Nodup)(hi:X.N[i]?=some x)(hx:Loc X.env.scope x)(he:PE X e te)(hs:swapsWith e (some (.Name x pos')) pos.line X.env=pure false:=by rfl)(hf:X.fn x=true\/X.env.scope.names.lookup x=some .local:=by first |exact .inl rfl |exact .inr rfl |assumption) :
 PS X (.Assign [.Name x pos'] e pos) (eP te (eE i)):=by
 intro pins s σ H D I h;refine wpAny_Assign_Name (thn (he pins s σ H _ I h) λv s1 ⟨y,H1,I1,r1,q1⟩=>?_) hs;exact lf I1 hN hi hx r1 (λs2 I2=>⟨_,H1,I2,q1⟩) hf
end
section
variable {X:Cx}{pos:Pos}
def BI(c:TT)(tb:TS):TS:=λD σ H=>∃W:Nat->St->Hp->Prop,(∃m,W m σ H)/\∀m σ H,W m σ H ->
 c σ H λb H1=>if b=true then ∃N:St->Hp->Prop,(∀σ' H',N σ' H'->∃m',m'<m/\W m' σ' H')/\tb { D with nx:=N,ct:=N,bk:=D.nx } σ H1 else D.nx σ H1
theorem eX{c:Expr}{body:List Stmt}{tc:TT}{tb:TS}(hp:PassesOwn (model X.prog X.w) X.A X.env X.xe)(hc:PT X c tc)(hb:PSs X body tb):PS X (.While c body [] pos) (BI tc tb):=by
 intro pins s σ H D I h;obtain⟨W,⟨m0,w0⟩,turn⟩:=h;refine wpAny_While (codeAny_whileLoop (λn s'=>∃σ' H',Inv X pins σ' H' s'/\W n σ' H') ?_ m0 ⟨σ,H,I,w0⟩);rintro n s1 ⟨σ1,H1,I1,w1⟩;refine wpAny_passesOwn hp (thn (hc pins s1 σ1 H1 _ I1 (turn n σ1 H1 w1)) λb s2 ⟨H2,I2,q2⟩=>?_);cases b with
 |true =>
  obtain⟨N,hN,q2⟩:=q2;rw[if_pos rfl];refine wpAny_passesOwn hp (thn (hb pins s2 σ1 H2 _ I2 q2) λf s3 q3=>?_);cases f with
  |next =>obtain⟨σ3,H3,I3,n3⟩:=q3;obtain⟨m',hm,w3⟩:=hN σ3 H3 n3;exact⟨m',hm,σ3,H3,I3,w3⟩
  |cont =>obtain⟨σ3,H3,I3,n3⟩:=q3;obtain⟨m',hm,w3⟩:=hN σ3 H3 n3;exact⟨m',hm,σ3,H3,I3,w3⟩
  |brk=>exact q3
  |ret v=>exact q3
 |false =>rw[if_neg NZ];exact wpAny_execs_nil ⟨σ1,H2,I2,q2⟩
end
structure It where
 go:Nat->Hp->Prop
 yld:Nat->Hp->V->Hp->Prop
 stop:Nat->Hp->Prop
noncomputable def eK(X:Cx)(pins:List (Addr×Obj))(H:Hp)(b:Addr):Prop :=
 H b=none/\b≠X.env.locals/\b∉X.fs/\(b∈X.ex\/X.s₀.heap.objs.size<=b)/\(∀x c,X.env.cells.lookup x=some c->c≠b)/\∀p∈X.pn++pins,p.1≠b
theorem Inv.fpOk{X:Cx}{pins:List (Addr×Obj)}{σ:St}{H H':Hp}{s:Shared}{b:Addr}(I:Inv X pins σ H s)(hb:s.heap.objs.size<=b)(hn:H' b=none):eK X pins H' b:=by
 refine⟨hn,Nat.ne_of_gt (Nn I.lt hb),I.nofs hb,.inr (Nd I.sz hb),λx c e z=>?_,λp hp z=>?_⟩
 ·obtain⟨v,q⟩:=I.cell x c e;exact absurd (Nn q.lt (by rw[z];exact hb)) (ND _)
 ·exact absurd (Nn (Heap.lt_size (I.pin p hp).1) (by rw[z];exact hb)) (ND _)
structure Turn(P:Program)(w:World)(K:PySem.W.Frag)(tg:Expr)(J:It)(fp:List Addr)(it:Addr)(tn:Nat->Heap->Prop):Prop where
 mem:it∈fp
 obj:∀i h,tn i h->∀b∈fp,∃o,h.get? b=some o/\∀v,o.data≠.cell v
 keep:∀i h h',tn i h->(∀b∈fp,∀o,h.get? b=some o->h'.get? b=some o)->tn i h'
 item:∀(X:Cx),X.prog=P->X.w=w->X.K=K->X.calm=true->∀(i:Nat) (pins:List (Addr×Obj)) (s:Shared) (σ:St) (H:Hp) (E:Value->Shared->Prop),Inv X pins σ H s->(∀b∈fp,eK X pins H b)->tn i s.heap->J.go i H ->
  wpAny (model P w) X.A (pyNext (.ref it)) (λr s1=>∃u,r=some u /\
   wpAny (model P w) X.A (letOwnedTupleGo tg (.ref it) u) (λ_ s2=>∃x H',Inv X pins σ H' s2/\RelV x u/\J.yld i H x H'/\tn (i+1) s2.heap/\∀b∈fp,H' b=none) E s1) E s
 done:∀(X:Cx),X.prog=P->X.w=w->X.K=K->X.calm=true->∀(i:Nat) (pins:List (Addr×Obj)) (s:Shared) (σ:St) (H:Hp) (E:Value->Shared->Prop),Inv X pins σ H s->(∀b∈fp,eK X pins H b)->tn i s.heap->J.stop i H ->
  wpAny (model P w) X.A (pyNext (.ref it)) (λr s1=>r=none/\Inv X pins σ H s1) E s
 self:∀(A:Around) (i:Nat) (s:Shared) (Q:Value->Shared->Prop) (E:Value->Shared->Prop),tn i s.heap->Q (.ref it) s->wpAny (model P w) A (pyIter (.ref it)) Q E s
abbrev TI:=St->Hp->(It->Hp->Prop)->Prop
noncomputable def PIE(X:Cx)(pins:List (Addr×Obj))(σ:St)(tg:Expr)(R:It->Hp->Prop)(itv:Value)(s2:Shared):Prop :=
 ∃(it:Addr) (fp:List Addr) (tn:Nat->Heap->Prop) (J:It) (H':Hp),itv=.ref it/\Inv X pins σ H' s2/\Turn X.prog X.w X.K tg J fp it tn/\tn 0 s2.heap/\(∀b∈fp,eK X pins H' b)/\R J H'
noncomputable def PI(X:Cx)(tg iter:Expr)(wi:TI):Prop :=
 ∀(pins:List (Addr×Obj)) (s:Shared) (σ:St) (H:Hp) (R:It->Hp->Prop),Inv X pins σ H s->wi σ H R ->
  wpAny (model X.prog X.w) X.A (eval iter X.env) (λv s1=>wpAny (model X.prog X.w) X.A (pyIter v) (PIE X pins σ tg R) X.xe s1) X.xe s
theorem pU{M:Model}{A:Around}{E:Value->Shared->Prop}{s:Shared}{tg:Expr}{it:Addr}{u:Value}{o:Obj}{n:String}{vs:Array Value}{Q:Unit->Shared->Prop}(ho:s.heap.get? it=some o)(hc:o.cls=.type n)(hd:o.data=.fields vs)
 (hn:["enumerate","zip","dict_itemiterator","dict_reverseitemiterator","odict_iterator","itertools.zip_longest","itertools.pairwise"].contains n=false) (hQ:Q () s):wpAny M A (letOwnedTupleGo tg (.ref it) u) Q E s:=by
 unfold letOwnedTupleGo
 cases tg<;>first
  |exact wpAny_pure hQ
  | (cases u<;>first
      |exact wpAny_pure hQ
      | (refine wpAny_bind (wpAny_load ho ?_)
         rw[hc,hd];show wpAny M A (if(["enumerate","zip","dict_itemiterator","dict_reverseitemiterator","odict_iterator","itertools.zip_longest","itertools.pairwise"].contains n&&vs[0]? == some (rawInt _))=true then _ else _) Q E s;rw[if_neg (by intro h;rw[hn,Bool.false_and]at h;cases h)]
         exact wpAny_pure hQ))
noncomputable def Itl(K:PySem.W.Frag)(a:Addr):It :=
 ⟨λi H=>∃xs x,SqL K H a xs/\xs[i]?=some x,λi H x H'=>H'=H/\∀xs,SqL K H a xs->xs[i]?=some x,λi H=>∃xs,SqL K H a xs/\xs.length<=i⟩
noncomputable def Itr(lo:Int)(n:Nat):It:=⟨λi _=>i<n,λi H x H'=>H'=H/\x=.int (lo+i),λi _=>n<=i⟩
theorem Br{P:Program}{w:World}{K:PySem.W.Frag}{tg:Expr}(a it:Addr):Turn P w K tg (Itl K a) [it] it (λi h=>h.IsListIter it a i) where
 mem:=by simp
 obj:=λi h st b hb=>by
  have e:b=it:=by simpa using hb
  subst e;obtain⟨o,e,c,d⟩:=st;exact⟨o,e,λv z=>by rw[d]at z;cases z⟩
 keep:=λi h h' st k=>st.at λo e=>k it (by simp) o e
 item:=by
  intro X hP hw hK hc i pins s σ H E I hf st hg;subst hP hw hK;obtain⟨xs,x,hq,hx⟩:=hg;obtain⟨its,rv,p,hz⟩:=I.list hq;obtain⟨u,hu,ru⟩:=rv.get hx;obtain⟨f0,f1,f2,f3,f4,f5⟩:=hf it (by simp);refine wpAny_pyNext_list_item st p.isList (x:=u) (by simpa using hu) λh' st' sb=>?_
  have I1:Inv X pins σ H { s with heap:=h' }:=I.turned (t':=s.toks) (λb o hb e=>(sb.2 b hb).trans e) f0 f1 f3 f4 f5;obtain⟨o,e,c,d⟩:=id st';exact⟨u,rfl,pU (s:={ s with heap:=h' }) e c d (by decide) ⟨x,H,I1,ru,⟨rfl,λys hy=>by rw[I.list_inj hy hq];exact hx⟩,st',λb hb=>(hf b hb).1⟩⟩
 done:=by intro X hP hw hK hc i pins s σ H E I hf st hg;subst hP hw hK;obtain⟨xs,hq,hx⟩:=hg;obtain⟨its,rv,p,hz⟩:=I.list hq;obtain⟨f0,f1,f2,f3,f4,f5⟩:=hf it (by simp);have hl:=rv.length;exact wpAny_pyNext_list_end (I.ok.hd hc) st p.isList (by simp;omega) λh' eb=>⟨rfl,I.turned (t':=s.toks) (λb o hb e=>eb b o hb e) f0 f1 f3 f4 f5⟩
 self:=λ_ _ _ _ _ st h=>wpAny_pyIter_listiter st h
theorem Bq{P:Program}{w:World}{K:PySem.W.Frag}{tg:Expr}(it:Addr)(lo:Int)(n:Nat):Turn P w K tg (Itr lo n) [it] it (λi h=>IsRangeIter h it (lo+(i:Nat)*1) ((n:Int)-(i:Nat)) 1) where
 mem:=by simp
 obj:=λi h st b hb=>by
  have e:b=it:=by simpa using hb
  subst e
  exact⟨_,st,λv z=>by
   have z':Data.fields _=Data.cell v:=z
   cases z'⟩
 keep:=λi h h' st k=>k it (by simp) _ st
 item:=by
  intro X hP hw hK hc i pins s σ H E I hf st hg;subst hP hw hK;obtain⟨f0,f1,f2,f3,f4,f5⟩:=hf it (by simp);have W:=Walks.range (prog:=X.prog) (w:=X.w) (I.ok.hd hc) it lo 1 n;refine W.item i s _ _ hg st λv h' tk hv st' kk=>?_
  obtain⟨t,rfl⟩:=hv;have I1:Inv X pins σ H { s with heap:=h',toks:=tk }:=I.turned (λb o hb e=>kk b o (by simpa using hb) e) f0 f1 f3 f4 f5;refine⟨_,rfl,pU (s:={ s with heap:=h',toks:=tk }) (n:="range_iterator") st' rfl rfl (by decide) ⟨.int (lo+i),H,I1,⟨t,?_⟩,⟨rfl,rfl⟩,st',λb hb=>(hf b hb).1⟩⟩;rw[Nw]
 done:=by intro X hP hw hK hc i pins s σ H E I hf st hg;subst hP hw hK;obtain⟨f0,f1,f2,f3,f4,f5⟩:=hf it (by simp);exact wpAny_pyNext_range_end (I.ok.hd hc) st (by have:n<=i:=hg;omega) λh' eb=>⟨rfl,I.turned (t':=s.toks) (λb o hb e=>eb b o hb e) f0 f1 f3 f4 f5⟩
 self:=λ_ _ _ _ _ st h=>wpAny_pyIter_rangeiter st h
section
variable {X:Cx}{tg:Expr}
def zp(K:PySem.W.Frag)(tl:TE):TI:=λσ H R=>tl σ H λx H1=>∃a,x=.ref a/\(∃xs,SqL K H1 a xs)/\R (Itl K a) H1
theorem Eg{l:Expr}{tl:TE}(hl:PE X l tl):PI X tg l (zp X.K tl):=by
 intro pins s σ H R I h;refine thn (hl pins s σ H _ I h) λv s1 ⟨x,H1,I1,r1,q1⟩=>?_
 obtain⟨a,e,⟨xs,hq⟩,q⟩:=q1;subst e;cases r1;obtain⟨its,rv,p,hz⟩:=I1.list hq;refine wpAny_pyIter_list p.isList ?_;refine⟨s1.heap.objs.size,[s1.heap.objs.size],_,_,H1,rfl,I1.kept (t':=s1.toks) λb o e=>Heap.get?_push_of_some _ e,Br a _,⟨_,Heap.get?_push_size _ rfl,rfl,rfl⟩,λb hb=>?_,q⟩;have e:b=s1.heap.objs.size:=by simpa using hb
 subst e;exact I1.fpOk (MZ _) (I1.hok.fresh (MZ _))
theorem xQ{pins:List (Addr×Obj)}{σ:St}{H:Hp}{s:Shared}{R:It->Hp->Prop}{E:Value->Shared->Prop}{lo hi:Int}{t u v:Tok}{tk:Nat}(I:Inv X pins σ H s)(h1 : -(2^62)<=lo)(h2:lo<2^62)(h3 : -(2^62)<=hi)(h4:hi<2^62)
 (q:R (Itr lo (hi-lo).toNat) H):wpAny (model X.prog X.w) X.A (pyIter (.ref s.heap.objs.size)) (PIE X pins σ tg R) E { s with heap:=s.heap.push { cls:=.type "range",data:=.fields #[.int lo t,.int hi u,.int 1 v] },toks:=tk }:=by
 refine wpAny_pyIter_range (IsRange.new ..) (small_one h1 h2 h3 h4) ?_;have I1:Inv X pins σ H { s with heap:=s.heap.push { cls:=.type "range",data:=.fields #[.int lo t,.int hi u,.int 1 v] },toks:=tk }:=I.kept λb o e=>Heap.get?_push_of_some _ e
 refine⟨(s.heap.push { cls:=.type "range",data:=.fields #[.int lo t,.int hi u,.int 1 v] }).objs.size,[(s.heap.push { cls:=.type "range",data:=.fields #[.int lo t,.int hi u,.int 1 v] }).objs.size],_,_,H,rfl,
  I1.kept (t':=tk) λb o e=>Heap.get?_push_of_some _ e,Bq _ lo (hi-lo).toNat,?_,λb hb=>?_,q⟩
 ·have e1:lo+((0:Nat):Int)*1=lo:=by simp
  have e2:(((hi-lo).toNat:Nat):Int)-((0:Nat):Int)=Builtin.Range.rangeSize lo hi 1:=by rw[rangeSize_one];split<;>omega
  show IsRangeIter _ _ (lo+((0:Nat):Int)*1) ((((hi-lo).toNat:Nat):Int)-((0:Nat):Int)) 1;rw[e1,e2];exact Heap.get?_push_size _ rfl
 ·have e:b=(s.heap.push { cls:=.type "range",data:=.fields #[.int lo t,.int hi u,.int 1 v] }).objs.size:=by simpa using hb
  subst e;exact I1.fpOk (MZ _) (I1.hok.fresh (MZ _))
def Ii(ta:TA):TI:=λσ H R=>ta σ H λvs H1=>∃j:Int,vs=[.int j] /\ -(2^62)<=j/\j<2^62/\R (Itr 0 j.toNat) H1
def Ih(ta:TA):TI:=λσ H R=>ta σ H λvs H1=>∃i j:Int,vs=[.int i,.int j]/\(-(2^62)<=i/\i<2^62 /\ -(2^62)<=j/\j<2^62)/\R (Itr i (j-i).toNat) H1
theorem ku{a:Expr}{ta:TA}{p pos:Pos}(hg:Gl X "range")(hm:X.mg "range"=none)(ha:PA X [a] ta)(hs:starEach [a] X.env=[(false,eval a X.env)]:=by rfl):PI X tg (.Call (.Name "range" p) [a] [] pos) (Ii ta):=by
 intro pins s σ H R I h;refine Call_ (fk I hg hm boot_range (PyProof.Rows.callWith_type1 (thn (ha pos pins s σ H _ I h) λus s1 ⟨vs,H1,I1,r1,q1⟩=>?_) hs rfl));obtain⟨j,e,q1,q2,q⟩:=q1;subst e;cases r1 with
 |cons r rr =>cases rr;obtain⟨t,rfl⟩:=r;exact call_range_1 (xQ I1 (by omega) (by omega) q1 q2 (by simpa using q))
theorem Ef{a b:Expr}{ta:TA}{p pos:Pos}(hg:Gl X "range")(hm:X.mg "range"=none)(ha:PA X [a,b] ta)(hs:starEach [a,b] X.env=[(false,eval a X.env),(false,eval b X.env)]:=by rfl)(hs2:starEach [b] X.env=[(false,eval b X.env)]:=by rfl) :
 PI X tg (.Call (.Name "range" p) [a,b] [] pos) (Ih ta):=by
 intro pins s σ H R I h;refine Call_ (fk I hg hm boot_range (PyProof.Rows.callWith_type1 (thn (ha pos pins s σ H _ I h) λus s1 ⟨vs,H1,I1,r1,q1⟩=>?_) (by rw[hs,hs2]) (by rw[hs2];rfl)));obtain⟨i,j,e,⟨q1,q2,q3,q4⟩,q⟩:=q1;subst e;cases r1 with
 |cons r rr =>
  cases rr with
  |cons r' rr =>cases rr;obtain⟨t,rfl⟩:=r;obtain⟨t',rfl⟩:=r';exact call_range_2 (xQ I1 q1 q2 q3 q4 q)
def BV(wi:TI)(g:TG)(tb:TS):TS:=λD σ H=>wi σ H λJ H1=>∃W:Nat->Nat->St->Hp->Prop,(∃m,W 0 m σ H1)/\∀i m σ H,W i m σ H ->
 (J.stop i H/\D.nx σ H)\/(J.go i H/\∃N:St->Hp->Prop,(∀σ' H',N σ' H'->∃m',m'<m/\W (i+1) m' σ' H')/\∀x H',J.yld i H x H'->g x σ H' λσ2 H2=>tb { D with nx:=N,ct:=N,bk:=D.nx } σ2 H2)
noncomputable def o8(fp:List Addr)(h:Heap):List (Addr×Obj):=fp.filterMap λb=>(h.get? b).map λo=>(b,o)
theorem pG{fp:List Addr}{h:Heap}{b:Addr}{o:Obj}(hb:b∈fp)(e:h.get? b=some o):(b,o)∈o8 fp h:=List.mem_filterMap.mpr ⟨b,hb,by rw[e];rfl⟩
theorem FR{fp:List Addr}{h:Heap}{p:Addr×Obj}(hp:p∈o8 fp h):p.1∈fp/\h.get? p.1=some p.2:=by
 obtain⟨b,hb,e⟩:=List.mem_filterMap.mp hp;cases q:h.get? b with
 |none=>rw[q]at e;cases e
 |some o =>rw[q]at e;have e':(b,o)=p:=Option.some.inj e;subst e';exact⟨hb,q⟩
theorem Inv.pinned{pins:List (Addr×Obj)}{σ:St}{H:Hp}{s:Shared}{fp:List Addr}(I:Inv X pins σ H s)(hf:∀b∈fp,eK X pins H b)(ho:∀b∈fp,∃o,s.heap.get? b=some o/\∀v,o.data≠.cell v):Inv X (pins++o8 fp s.heap) σ H s :=
 I.pins_of λp hp=>(NM.mp hp).elim (λz=>I.pin p (NE _ z)) λz=>by obtain⟨hb,e⟩:=FR z;obtain⟨f0,f1,f2,_⟩:=hf p.1 hb;obtain⟨o,e',d⟩:=ho p.1 hb;rw[e]at e';cases e';exact⟨e,f0,f1,f2,d⟩
theorem Inv.unpinned{pins pl:List (Addr×Obj)}{σ:St}{H:Hp}{s:Shared}(I:Inv X (pins++pl) σ H s):Inv X pins σ H s:=I.pins_of λp hp=>I.pin p (NE _ (Ov _ hp))
theorem cL{iter:Expr}{body:List Stmt}{wi:TI}{g:TG}{tb:TS}{pos:Pos}(hp:PassesOwn (model X.prog X.w) X.A X.env X.xe)(hc:X.calm=true)(hi:PI X tg iter wi)(hg:PG X tg g)(hb:PSs X body tb)
 (hs:∀x,foldedSetIterable iter X.env x=pure x:=by intro _;rfl):PS X (.For tg iter body [] pos) (BV wi g tb):=by
 intro pins s σ H D I h;refine wpAny_For (thn (hi pins s σ H _ I h) λv s1 h1=>thn h1 λitv s2 h2=>?_) hs;obtain⟨it,fp,tn,J,H2,e,I2,T,st2,f2,W,⟨m0,w0⟩,turn⟩:=h2;subst e;have stat:∀{H':Hp},(∀b∈fp,H' b=none)->∀b∈fp,eK X pins H' b:=λhn b hb=>⟨hn b hb,(f2 b hb).2⟩
 refine codeAny_forLoop_any (λn s'=>∃i σ' H',Inv X pins σ' H' s'/\tn i s'.heap/\(∀b∈fp,H' b=none)/\W i n σ' H') ?_ m0 ⟨0,σ,H2,I2,st2,λb hb=>(f2 b hb).1,w0⟩;rintro n s3 ⟨i,σ3,H3,I3,st3,fr3,w3⟩;rcases turn i n σ3 H3 w3 with⟨stop,qn⟩ |⟨go,N,hN,step⟩
 ·refine wpAny_passesOwn hp (thn (T.done X rfl rfl rfl hc i pins s3 σ3 H3 X.xe I3 (stat fr3) st3 stop) λr s4 ⟨hr,I4⟩=>?_);subst hr;exact wpAny_execs_nil ⟨σ3,H3,I4,qn⟩
 ·refine wpAny_passesOwn hp (thn (T.item X rfl rfl rfl hc i pins s3 σ3 H3 X.xe I3 (stat fr3) st3 go) λr s4 ⟨u,hr,h4⟩=>?_);subst hr;refine wpAny_passesOwn hp (thn h4 λ_ s5 ⟨x,H5,I5,r5,y5,st5,fr5⟩=>?_);have I5':=I5.pinned (stat fr5) (T.obj _ _ st5);refine wpAny_passesOwn hp (thn (hg _ s5 σ3 H5 x u _ I5' r5 (step x H5 y5)) λ_ s6 ⟨σ6,H6,I6,q6⟩=>?_);refine wpAny_passesOwn hp (thn (hb _ s6 σ6 H6 _ I6 q6) λf s7 q7=>?_)
  have again:∀{σ7:St} {H7:Hp},Inv X (pins++o8 fp s5.heap) σ7 H7 s7->N σ7 H7->∃m,m<n/\∃i σ' H',Inv X pins σ' H' s7/\tn i s7.heap/\(∀b∈fp,H' b=none)/\W i m σ' H':=λ{σ7 H7} I7 n7=>by obtain⟨m',hm,w7⟩:=hN σ7 H7 n7;refine⟨m',hm,i+1,σ7,H7,I7.unpinned,T.keep _ _ _ st5 λb hb o e=>(I7.pin (b,o) (NE _ (NE _ (pG hb e)))).1,λb hb=>?_,w7⟩;obtain⟨o,e,d⟩:=T.obj _ _ st5 b hb;exact(I7.pin (b,o) (NE _ (NE _ (pG hb e)))).2.1
  cases f with
  |next=>obtain⟨σ7,H7,I7,n7⟩:=q7;exact again I7 n7
  |cont=>obtain⟨σ7,H7,I7,n7⟩:=q7;exact again I7 n7
  |brk=>obtain⟨σ7,H7,I7,q7⟩:=q7;exact⟨σ7,H7,I7.unpinned,q7⟩
  |ret v=>obtain⟨x7,σ7,H7,I7,r7,q7⟩:=q7;exact⟨x7,σ7,H7,I7.unpinned,r7,q7⟩
end
theorem tI{K:PySem.W.Frag}{a:Addr}{xs:List V}{g:TG}{tb:TS}{D:Ends}{σ:St}{H:Hp}(Pv:Nat->St->Hp->Prop)(h0:Pv 0 σ H)(hl:∀i σ H,i<=xs.length->Pv i σ H->SqL K H a xs)
 (hs:∀i x σ H,xs[i]?=some x->Pv i σ H->g x σ H λσ2 H2=>tb { D with nx:=Pv (i+1),ct:=Pv (i+1),bk:=D.nx } σ2 H2) (hd:∀σ H,Pv xs.length σ H->D.nx σ H) :
 ∃W:Nat->Nat->St->Hp->Prop,(∃m,W 0 m σ H)/\∀i m σ H,W i m σ H ->
  ((Itl K a).stop i H/\D.nx σ H)\/((Itl K a).go i H/\∃N:St->Hp->Prop,(∀σ' H',N σ' H'->∃m',m'<m/\W (i+1) m' σ' H')/\∀x H',(Itl K a).yld i H x H'->g x σ H' λσ2 H2=>tb { D with nx:=N,ct:=N,bk:=D.nx } σ2 H2):=by
 refine⟨λi m σ H=>m=xs.length-i/\i<=xs.length/\Pv i σ H,⟨xs.length,by simp,M9 _,h0⟩,?_⟩;rintro i m σ H ⟨rfl,hi,p⟩;have q:=hl i σ H hi p;by_cases hlt:i<xs.length
 ·refine .inr ⟨⟨xs,xs[i],q,by simp[hlt]⟩,Pv (i+1),λσ' H' p'=>⟨xs.length-(i+1),by omega,rfl,hlt,p'⟩,λx H' y=>?_⟩;obtain⟨e,y⟩:=y;subst e;exact hs i x σ _ (y xs q) p
 ·have e:i=xs.length:=by omega
  subst e;exact .inl ⟨⟨xs,q,MZ _⟩,hd σ H p⟩
theorem pY{lo:Int}{n:Nat}{g:TG}{tb:TS}{D:Ends}{σ:St}{H:Hp}(Pv:Nat->St->Hp->Prop)(h0:Pv 0 σ H)
 (hs:∀i σ H,i<n->Pv i σ H->g (.int (lo+i)) σ H λσ2 H2=>tb { D with nx:=Pv (i+1),ct:=Pv (i+1),bk:=D.nx } σ2 H2) (hd:∀σ H,Pv n σ H->D.nx σ H) :
 ∃W:Nat->Nat->St->Hp->Prop,(∃m,W 0 m σ H)/\∀i m σ H,W i m σ H ->
  ((Itr lo n).stop i H/\D.nx σ H)\/((Itr lo n).go i H/\∃N:St->Hp->Prop,(∀σ' H',N σ' H'->∃m',m'<m/\W (i+1) m' σ' H')/\∀x H',(Itr lo n).yld i H x H'->g x σ H' λσ2 H2=>tb { D with nx:=N,ct:=N,bk:=D.nx } σ2 H2):=by
 refine⟨λi m σ H=>m=n-i/\i<=n/\Pv i σ H,⟨n,by simp,M9 _,h0⟩,?_⟩;rintro i m σ H ⟨rfl,hi,p⟩;by_cases hlt:i<n
 ·refine .inr ⟨hlt,Pv (i+1),λσ' H' p'=>⟨n-(i+1),by omega,rfl,hlt,p'⟩,λx H' y=>?_⟩;obtain⟨e,y⟩:=y;subst e y;exact hs i σ _ hlt p
 ·have e:i=n:=by omega
  subst e;exact .inl ⟨MZ _,hd σ H p⟩
abbrev R2:=V->V->Hp->VK->Prop
noncomputable def OpR(X:Cx)(f:Value->Value->Sem Value)(r:R2):Prop :=
 ∀(pins:List (Addr×Obj)) (s:Shared) (σ:St) (H:Hp) (x y:V) (v u:Value) (Q:VK),Inv X pins σ H s->RelV x v->RelV y u->r x y H Q ->
  wpAny (model X.prog X.w) X.A (f v u) (EP X pins σ Q) X.xe s
noncomputable def UnR(X:Cx)(f:Value->Sem Value)(r:V->Hp->VK->Prop):Prop :=
 ∀(pins:List (Addr×Obj)) (s:Shared) (σ:St) (H:Hp) (x:V) (v:Value) (Q:VK),Inv X pins σ H s->RelV x v->r x H Q ->
  wpAny (model X.prog X.w) X.A (f v) (EP X pins σ Q) X.xe s
noncomputable def CallR(X:Cx)(f:Value)(r:List V->Hp->VK->Prop):Prop :=
 ∀(pins:List (Addr×Obj)) (s:Shared) (σ:St) (H:Hp) (xs:List V) (us:List Value) (Q:VK),Inv X pins σ H s->Vals xs us->r xs H Q ->
  wpAny (model X.prog X.w) X.A (call f us) (EP X pins σ Q) X.xe s
noncomputable def LA(X:Cx)(r:V->Hp->(Bool->Hp->Prop)->Prop):Prop :=
 ∀(pins:List (Addr×Obj)) (s:Shared) (σ:St) (H:Hp) (x:V) (v:Value) (Q:Bool->Hp->Prop),Inv X pins σ H s->RelV x v->r x H Q ->
  wpAny (model X.prog X.w) X.A (truthy v) (TP X pins σ Q) X.xe s
def tOp(r:R2)(ta tb:TE):TE:=λσ H Q=>ta σ H λx H1=>tb σ H1 λy H2=>r x y H2 Q
def tUn(r:V->Hp->VK->Prop)(ta:TE):TE:=λσ H Q=>ta σ H λx H1=>r x H1 Q
def rI(C:Int->Int->Prop)(g:Int->Int->V):R2:=λx y H Q=>∃i j,x=.int i/\y=.int j/\C i j/\Q (g i j) H
def rI0(g:Int->Int->V):R2:=λx y H Q=>∃i j,x=.int i/\y=.int j/\Q (g i j) H
noncomputable def rU(g:Int->V):V->Hp->VK->Prop:=λx H Q=>∃i,x=.int i/\Q (g i) H
section
variable {X:Cx}{a b c:Expr}{ta tb tc:TE}{pos:Pos}
theorem u9(ha:PE X a ta)(hb:PE X b tb){pins:List (Addr×Obj)}{s:Shared}{σ:St}{H:Hp}{R:V->V->Hp->Prop}(I:Inv X pins σ H s)
 (h:ta σ H λx H1=>tb σ H1 λy H2=>R x y H2) {Q:Value->Shared->Prop} {f:Value->Value->Sem Value}
 (hf:∀v u s2 x y H2,Inv X pins σ H2 s2->RelV x v->RelV y u->R x y H2->wpAny (model X.prog X.w) X.A (f v u) Q X.xe s2) :
 wpAny (model X.prog X.w) X.A (eval a X.env) (λv s₁=>wpAny (model X.prog X.w) X.A (eval b X.env) (λu s₂=>wpAny (model X.prog X.w) X.A (f v u) Q X.xe s₂) X.xe s₁) X.xe s:=by
 refine thn (ha pins s σ H _ I h) λv s1 ⟨x,H1,I1,r1,q1⟩=>?_
 refine thn (hb pins s1 σ H1 _ I1 q1) λu s2 ⟨y,H2,I2,r2,q2⟩=>?_
 exact hf v u s2 x y H2 I2 r1 r2 q2
theorem aj{op:Operator}{r:R2}(ho:OpR X (binaryOp op) r)(ha:PE X a ta)(hb:PE X b tb):PE X (.BinOp a op b pos) (tOp r ta tb):=by intro pins s σ H Q I h;exact wpAny_BinOp (u9 ha hb I h λv u s2 x y H2 I2 rx ry q=>ho pins s2 σ H2 x y v u Q I2 rx ry q)
theorem bJ{op:UnaryOp}{r:V->Hp->VK->Prop}(ho:UnR X (unaryOp op) r)(ha:PE X a ta):PE X (.UnaryOp op a pos) (tUn r ta):=by intro pins s σ H Q I h;exact UnaryOp_ (thn (ha pins s σ H _ I h) λv s1 ⟨x,H1,I1,r1,q1⟩=>ho pins s1 σ H1 x v Q I1 r1 q1)
theorem opI{f:Value->Value->Sem Value}{C:Int->Int->Prop}{g:Int->Int->Int}
 (rule:∀(i j:Int) (t u:Tok) (s:Shared) (Q:Value->Shared->Prop) (E:Value->Shared->Prop),C i j->Q (.int (g i j) s.toks) { s with toks:=s.toks+1 }->wpAny (model X.prog X.w) X.A (f (.int i t) (.int j u)) Q E s) :
 OpR X f (rI C λi j=>.int (g i j)):=by
 intro pins s σ H x y v u Q I rx ry h;obtain⟨i,j,rfl,rfl,hc,q⟩:=h;obtain⟨t,rfl⟩:=rx;obtain⟨t',rfl⟩:=ry;exact rule i j t t' s _ _ hc ⟨.int (g i j),H,I.tok _,⟨_,rfl⟩,q⟩
theorem yq{f:Value->Value->Sem Value}{g:Int->Int->Int}
 (rule:∀(i j:Int) (t u:Tok) (s:Shared) (Q:Value->Shared->Prop) (E:Value->Shared->Prop),Q (.int (g i j) s.toks) { s with toks:=s.toks+1 }->wpAny (model X.prog X.w) X.A (f (.int i t) (.int j u)) Q E s) :
 OpR X f (rI0 λi j=>.int (g i j)):=by
 intro pins s σ H x y v u Q I rx ry h;obtain⟨i,j,rfl,rfl,q⟩:=h;obtain⟨t,rfl⟩:=rx;obtain⟨t',rfl⟩:=ry;exact rule i j t t' s _ _ ⟨.int (g i j),H,I.tok _,⟨_,rfl⟩,q⟩
theorem me{f:Value->Value->Sem Value}{g:Int->Int->Bool}
 (rule:∀(i j:Int) (t u:Tok) (s:Shared) (Q:Value->Shared->Prop) (E:Value->Shared->Prop),Q (.bool (g i j)) s->wpAny (model X.prog X.w) X.A (f (.int i t) (.int j u)) Q E s) :
 OpR X f (rI0 λi j=>.bl (g i j)):=by
 intro pins s σ H x y v u Q I rx ry h;obtain⟨i,j,rfl,rfl,q⟩:=h;obtain⟨t,rfl⟩:=rx;obtain⟨t',rfl⟩:=ry;exact rule i j t t' s _ _ ⟨.bl (g i j),H,I,rfl,q⟩
def MS(i j:Int):Prop:=0<=j/\j<=1000000/\i.natAbs<2^64
def CMul(i j:Int):Prop:=(-(2^64)<i/\i<2^64)\/(-(2^64)<j/\j<2^64)
theorem CMul.ok{i j:Int}(h:CMul i j):IntMulOk i j:=by
 rcases h with⟨h1,h2⟩ |⟨h1,h2⟩
 ·exact .of_left (intBits_le_64 h1 h2)
 ·exact .of_right (intBits_le_64 h1 h2)
theorem bQ:OpR X (binaryOp .Add) (rI0 λi j=>.int (i+j)):=yq λ_ _ _ _ _ _ _ q=>add_int q
theorem cw:OpR X (binaryOp .Sub) (rI0 λi j=>.int (i-j)):=yq λ_ _ _ _ _ _ _ q=>sub_int q
theorem Ev:OpR X (binaryOp .Mod) (rI (λ_ j=>0<j) λi j=>.int (i%j)):=opI λi j _ _ _ _ _ hc q=>by have h1:(0:Int)<j:=hc;exact mod_int' (by omega) (by rw[Int.fmod_eq_emod_of_nonneg i (by omega)];exact q)
theorem cQ:OpR X (binaryOp .Pow) (rI MS λi j=>.int (i^j.toNat)):=opI λ_ _ _ _ _ _ _ hc q=>pow_int_small hc.1 hc.2.1 hc.2.2 q
theorem unI{f:Value->Sem Value}{g:Int->Int}
 (rule:∀(i:Int) (t:Tok) (s:Shared) (Q:Value->Shared->Prop) (E:Value->Shared->Prop),Q (.int (g i) s.toks) { s with toks:=s.toks+1 }->wpAny (model X.prog X.w) X.A (f (.int i t)) Q E s) :
 UnR X f (rU λi=>.int (g i)):=by
 intro pins s σ H x v Q I rx h;obtain⟨i,rfl,q⟩:=h;obtain⟨t,rfl⟩:=rx;exact rule i t s _ _ ⟨.int (g i),H,I.tok _,⟨_,rfl⟩,q⟩
theorem bG:UnR X (unaryOp .USub) (rU λi=>.int (-i)):=unI λ_ _ _ _ _ q=>neg_int q
end
section
variable {X:Cx}{a b c:Expr}{ta tb tc:TE}{pos:Pos}
theorem IN{pins:List (Addr×Obj)}{σ:St}{H:Hp}{s:Shared}{Q:VK}{k k':Bool}(I:Inv X pins σ H s)(q:Q (.bl k) H)(e:k=k'):EP X pins σ Q (.bool k') s:=by subst e;exact⟨.bl k,H,I,rfl,q⟩
theorem dc:OpR X (compareOp .Lt) (rI0 λi j=>.bl (decide (i<j))):=me λ_ _ _ _ _ _ _ q=>lt_int q
theorem gI:OpR X (compareOp .Gt) (rI0 λi j=>.bl (decide (j<i))):=me λ_ _ _ _ _ _ _ q=>gt_int q
theorem md:OpR X (compareOp .GtE) (rI0 λi j=>.bl (decide (j<=i))):=me λ_ _ _ _ _ _ _ q=>ge_int q
theorem yn:OpR X (compareOp .Is) (λx y H Q=>y=.non/\Q (.bl (decide (x=.non))) H):=by
 intro pins s σ H x y v u Q I rx ry h;obtain⟨rfl,q⟩:=h;cases ry;refine is_none_gen (IN I q ?_)
 cases x<;>first
  | (cases rx;rfl)
  | (obtain⟨t,rfl⟩:=rx;rfl)
theorem OpR.or{f:Value->Value->Sem Value}{r r':R2}(h:OpR X f r)(h':OpR X f r'):OpR X f (λx y H Q=>r x y H Q\/r' x y H Q):=by
 intro pins s σ H x y v u Q I rx ry q;rcases q with q |q
 ·exact h pins s σ H x y v u Q I rx ry q
 ·exact h' pins s σ H x y v u Q I rx ry q
theorem aG(b:Expr){op:CmpOp}(h:op≠.In:=by decide)(h2:op≠.NotIn:=by decide):behindInMarks op b=false:=by
 have e1:(op == CmpOp.In)=false:=by cases op<;>first |rfl |exact absurd rfl h
 have e2:(op == CmpOp.NotIn)=false:=by cases op<;>first |rfl |exact absurd rfl h2
 cases b<;>simp[behindInMarks,e1,e2]
theorem gF{op:CmpOp}{r:R2}(ho:OpR X (compareOp op) r)(ha:PE X a ta)(hb:PE X b tb)(hm:behindInMarks op b=false):PE X (.Compare a [op] [b] pos) (tOp r ta tb):=by intro pins s σ H Q I h;exact wpAny_Compare1 (u9 ha hb I h λv u s2 x y H2 I2 rx ry q=>ho pins s2 σ H2 x y v u Q I2 rx ry q) hm
def BN(t:TE):TT:=λσ H Q=>t σ H λx H'=>∃k,x=.bl k/\Q k H'
theorem aJ{op:CmpOp}{r:R2}(ho:OpR X (compareOp op) r)(ha:PE X a ta)(hb:PE X b tb)(hm:behindInMarks op b=false):PT X (.Compare a [op] [b] pos) (BN (tOp r ta tb)):=by
 intro pins s σ H Q I h
 refine wpAny_isTrue_Compare1 (thn (ha pins s σ H _ I h) λv s1 ⟨x,H1,I1,r1,q1⟩=>thn (hb pins s1 σ H1 _ I1 q1) λu s2 ⟨y,H2,I2,r2,q2⟩ =>thn (ho pins s2 σ H2 x y v u _ I2 r1 r2 q2) λc s3 ⟨z,H3,I3,r3,k,e,q3⟩=>?_) hm
 subst e;cases r3;exact wpAny_truthy_bool ⟨H3,I3,q3⟩
noncomputable def AY(K:PySem.W.Frag)(x:V)(H:Hp)(k:Bool):Prop :=
 match x with
 |.non=>k=false
 |.bl b=>k=b
 |.int i=>k=(i != 0)
 |.str y=>y.length<=sizeLine/\k=((y.length:Int) != 0)
 |.byt y=>y.size<=sizeLine/\k=((y.size:Int) != 0)
 |.ref p=>(∃xs,SqL K H p xs/\k=!xs.isEmpty)\/(∃xs,SqT K H p xs/\k=!xs.isEmpty)\/∃kvs,H p=some (.dK kvs)/\k=!kvs.isEmpty
 |_=>False
theorem Ia{κ:Type}{kvs:List (κ×V)}{vs:List (κ×Value)}(r:KV kvs vs):(!vs.isEmpty)=!kvs.isEmpty:=by cases r<;>rfl
theorem zj{xs:List V}{its:List Value}(r:Vals xs its):(!its.toArray.isEmpty)=!xs.isEmpty:=by cases r<;>simp
theorem mD:(sizeLine:Nat)<2^63:=by rw[sizeLine_eq];decide
theorem Bt:LA X (λx H Q=>∃k,AY X.K x H k/\Q k H):=by
 intro pins s σ H x v Q I rx h;obtain⟨k,e,q⟩:=h;have hl:=mD;have hs:sizeLine=16777216:=sizeLine_eq;cases x with
 |non =>cases rx;have e':k=false:=e;subst e';exact truthy_none ⟨H,I,q⟩
 |bl b =>cases rx;have e':k=b:=e;subst e';exact wpAny_truthy_bool ⟨H,I,q⟩
 |int i =>obtain⟨t,rfl⟩:=rx;have e':k=(i != 0):=e;subst e';exact PySem.P.truthy_int ⟨H,I,q⟩
 |str y =>obtain⟨t,rfl⟩:=rx;obtain⟨hy,e'⟩:y.length<=sizeLine/\k=((y.length:Int) != 0):=e;subst e';exact PySem.P.truthy_str (by omega) ⟨H,I.tok _,q⟩
 |byt y =>obtain⟨t,rfl⟩:=rx;obtain⟨hy,e'⟩:y.size<=sizeLine/\k=((y.size:Int) != 0):=e;subst e';exact PySem.W.truthy_bytes (by omega) ⟨H,I.tok _,q⟩
 |ref p =>
  cases rx;have e':(∃xs,SqL X.K H p xs/\k=!xs.isEmpty)\/(∃xs,SqT X.K H p xs/\k=!xs.isEmpty)\/∃kvs,H p=some (.dK kvs)/\k=!kvs.isEmpty:=e;rcases e' with⟨xs,hx,e'⟩ |⟨xs,hx,e'⟩ |⟨kvs,hx,e'⟩
  ·subst e';obtain⟨its,r,pl,hz⟩:=I.list hx;have hlen:=r.length;exact wpAny_truthy_list pl.isList (by simp only[Nl];omega) ⟨H,I.tok _,by rw[zj r];exact q⟩
  ·subst e';obtain⟨its,r,pl,hz⟩:=I.tuple hx;have hlen:=r.length;exact truthy_tuple pl (by simp only[Nl];omega) ⟨H,I.tok _,by rw[zj r];exact q⟩
  ·subst e';obtain⟨hz,hS,vs,r,m⟩:kvs.length<=sizeLine/\(p == sysModules)=false/\∃vs,KV kvs vs/\s.heap.DictOf (r9 X.prog X.w) p vs:=I.hok p _ hx;have hlen:kvs.length=vs.length:=Paired.length r;exact wpAny_truthy_dict hS m (by omega) ⟨H,I.tok _,by rw[Ia r];exact q⟩
 |_=>exact(show False from e).elim
theorem D0(ha:PE X a ta)(he:∀whole,isTrue a X.env whole=(do let v <- whole;standAt a.pos;holding [v] (truthy v))) :
 PT X a (λσ H Q=>ta σ H λx H'=>∃k,AY X.K x H' k/\Q k H'):=by
 intro pins s σ H Q I h;exact isTrue_plain (thn (ha pins s σ H _ I h) λv s1 ⟨x,H1,I1,r1,q1⟩=>Bt pins s1 σ H1 x v Q I1 r1 q1) (he _)
theorem iN{x:V}{us:List Value}(r:Vals [x] us):∃u,us=[u]/\RelV x u:=by
 cases r with
 |cons r1 r2=>cases r2;exact⟨_,rfl,r1⟩
theorem Bi{x y:V}{us:List Value}(r:Vals [x,y] us):∃u w',us=[u,w']/\RelV x u/\RelV y w':=by
 cases r with
 |cons r1 r2 =>
  cases r2 with
  |cons r3 r4=>cases r4;exact⟨_,_,rfl,r1,r3⟩
theorem fz:CallR X (.builtin "abs") (λxs H Q=>∃i,xs=[.int i]/\Q (.int (if i<0 then -i else i)) H):=by intro pins s σ H xs us Q I r h;obtain⟨i,rfl,q⟩:=h;obtain⟨u,rfl,t,rfl⟩:=iN r;exact call_abs_int λu tk=>⟨.int (if i<0 then -i else i),H,I.tok _,⟨_,rfl⟩,q⟩
theorem uX(hc:X.calm=true):CallR X (.builtin "max") (λxs H Q=>∃i j,xs=[.int i,.int j]/\Q (.int (if j>i then j else i)) H):=by
 intro pins s σ H xs us Q I r h;obtain⟨i,j,rfl,q⟩:=h;obtain⟨u,w',rfl,⟨t,rfl⟩,⟨t',rfl⟩⟩:=Bi r;refine max_two_ints (I.ok.hd hc) λh' tk k=>⟨_,H,I.kept k,?_,q⟩
 by_cases hj:j>i
 ·rw[if_pos hj,if_pos hj];exact⟨_,rfl⟩
 ·rw[if_neg hj,if_neg hj];exact⟨_,rfl⟩
end
structure ObjM(h:Heap)(x dx C:Addr)(mA:Str->Option Value):Prop where
 obj:h.get? x=some (PySem.W.instObj C dx)
 ns:h.Ns1 dx mA
 ne:dx≠x
theorem y7{h:Heap}{dx:Addr}{mA:Str->Option Value}(n:h.Ns1 dx mA):∃od,h.get? dx=some od/\∀name,PySem.W.lookIn name od=some (mA name):=by
 obtain⟨o,es,ep,ho,hd,hk,_,hm⟩:=n;refine⟨o,ho,λname=>?_⟩;have e:=hm name;unfold nsFind findBy at e
 rw[<- Array.find?_toList]at e;unfold PySem.W.lookIn;rw[hd];dsimp only
 split
 ·rename_i y q
  rw[q]at e;exact congrArg some e
 ·rename_i q
  rw[q]at e
  have a:es.toList.any (·.refKey)=false:=by rw[List.any_eq_false];intro y hy;obtain⟨z,t,hkey⟩:=hk y (Array.mem_toList_iff.mp hy);simp[DictEntry.refKey,hkey]
  have a':¬es.toList.any (·.refKey)=true:=by rw[a];exact NZ
  rw[if_neg a'];exact congrArg some e
theorem ObjM.look{h:Heap}{x dx C:Addr}{mA:Str->Option Value}(I:ObjM h x dx C mA):∃od,PySem.W.InstAt h x (PySem.W.instObj C dx) C (some od)/\∀name,PySem.W.lookIn name od=some (mA name) :=
 let⟨od,ho,hl⟩:=y7 I.ns
 ⟨od,⟨I.obj,rfl,rfl,ho⟩,hl⟩
section
variable {prog:Program}{w:World}{A:Around}{E:Value->Shared->Prop}{s:Shared}{K:PySem.W.Frag}{x dx C f:Addr}{mA:Str->Option Value}{name:Str}{v:Value}
theorem IC{expr:Bool}{Q:Value->Shared->Prop}(X:K.In s.heap)(I:ObjM s.heap x dx C mA)(hg:PySem.W.plainGet K C name=true)(hh:PySem.W.hasDictIn K C=true)
 (ha:PySem.W.findIn K (.ref C) name=some none) (hv:mA name=some v) (hv':PySem.W.handedIn v=true) (h:Q v { s with toks:=s.toks+1 }) :
 wpAny (model prog w) A (getAttr (.ref x) name expr) Q E s:=by
 obtain⟨od,J,hl⟩:=I.look;exact PySem.W.get_value X J (PySem.W.plainGet_of hg).1 (PySem.W.findObj_own hh ha rfl (by rw[hl,hv])) hv' h
theorem IB{pl:Sem Bool}{Q:Value×List Value->Shared->Prop}(X:K.In s.heap)(I:ObjM s.heap x dx C mA)(hg:PySem.W.plainGet K C name=true)
 (hf:PySem.W.findIn K (.ref C) name=some (some (.ref f))) (ht:PySem.W.isFn K (.ref f)=true) (hv:mA name=none) (h:Q (.ref f,[.ref x]) s) :
 wpAny (model prog w) A (getMethod (.ref x) name pl) Q E s:=by
 obtain⟨od,J,hl⟩:=I.look;exact PySem.W.method_fn X J (PySem.W.plainGet_of hg).1 (PySem.W.plainGet_of hg).2 hf (beq_iff_eq.mp ht) (by show(PySem.W.lookIn name od).map (·.isSome)=some false;rw[hl,hv];rfl) h
theorem ra{ns:List Str}{Q:Unit->Shared->Prop}(X:K.In s.heap)(I:ObjM s.heap x dx C mA)
 (hs:PySem.W.findIn K (.ref C) "__setattr__"=some (some (.builtin "object.__setattr__"))) (hp:PySem.W.plainOver K C=true) (ht:PySem.W.takerIn K C name=some none) (hh:PySem.W.hasDictIn K C=true)
 (hw:PySem.Within mA ns) (hsz:ns.length<=sizeLine)
 (h:∀h',ObjM h' x dx C (λy=>if y=name then some v else mA y)->Heap.SameBut dx s.heap h'->Q () { s with heap:=h',toks:=s.toks+2 }) :
 wpAny (model prog w) A (setAttr (.ref x) name v) Q E s:=by
 obtain⟨od,J,hl⟩:=I.look;refine PySem.W.set_plain X J hs (PySem.W.osa_open (s:={ s with toks:=s.toks+1 }) (r:=none) X J hp ht λb=>?_);obtain⟨cd,hc,hd'⟩:=PySem.W.any_some hh;have hx:s.heap.get? x=some ⟨.ref C,some dx,.plain,#[]⟩:=I.obj;refine wpAny_bind (wpAny_pure (wpAny_bind (wpAny_bind (wpAny_loadPart hx (wpAny_bind (PySem.W.Looks.here (s:={ s with toks:=s.toks+1 }) (PySem.W.looks_clsIn X hc) ?_))))));rw[hd'];refine wpAny_pure (a:=some dx) (wpAny_bind (wpAny_pure (wpAny_bind ?_)));refine wpAny_nsSet1 (s:={ s with toks:=s.toks+1 }) I.ns λh' hn2 hs2=>?_
 obtain⟨oD,esD,epD,hoD,hdD,hcD⟩:=hn2.count (PySem.Within.cons name v hw);refine wpAny_bind (wpAny_lookBehind hoD (by rw[hdD];exact pastItsLine_dict (Nd hcD (by rw[Nq];omega))) ?_);exact wpAny_pure (h _ ⟨(hs2.2 _ (Ne.symm I.ne)).trans I.obj,hn2,I.ne⟩ hs2)
theorem Gy{R:Result->Shared->Prop}{vs:List Value}{kw:List (Str×Value)}(X:K.In s.heap)(hm:PySem.W.makesIn K C=true)
 (hi:PySem.W.findIn K (.ref C) "__init__"=some (some (.ref f))) (hf:PySem.W.typeIn K (.ref f)=some (.type "function"))
 (h:codeAny (model prog w) (A.under (.builtin "type.__call__" ⟨.ref C::vs,kw⟩)) (.call (.ref f) ⟨.ref (s.heap.objs.size+1)::vs,kw⟩) (PySem.W.InitBack (s.heap.objs.size+1) R)
   { s with heap:=(s.heap.push PySem.W.emptyDict).push (PySem.W.instObj C s.heap.objs.size) }) :
 codeAny (model prog w) A (.call (.ref C) ⟨vs,kw⟩) R s:=by
 obtain⟨hh,g,d,t,os⟩:=s;exact PySem.W.make_core (PySem.W.makes_of X hm) (PySem.W.looks_findIn X hi) (λself=>PySem.W.bind_fn X self hf) (.inl rfl) h
end
noncomputable def cq(f:Str)(v:V):List (Str×V)->List (Str×V)
 | []=>[(f,v)]
 | (g,x)::r=>if g=f then(g,v)::r else(g,x)::cq f v r
theorem eh(f g:Str)(v:V):∀fs:List (Str×V),(cq f v fs).lookup g=if g=f then some v else fs.lookup g
 | []=>by
  show List.lookup g [(f,v)]=_;by_cases h:g=f
  ·have hb:(g == f)=true:=beq_iff_eq.mpr h;simp only[List.lookup,hb,if_pos h]
  ·have hb:(g == f)=false:=beq_eq_false_iff_ne.mpr h;simp only[List.lookup,hb,if_neg h]
 | (k,x)::r=>by
  have ih:=eh f g v r;rw[show cq f v ((k,x)::r)=(if k=f then(k,v)::r else(k,x)::cq f v r)from rfl];by_cases hk:k=f
  ·rw[if_pos hk];by_cases h:g=k
   ·have hb:(g == k)=true:=beq_iff_eq.mpr h;simp only[List.lookup,hb,if_pos (h.trans hk)]
   ·have hb:(g == k)=false:=beq_eq_false_iff_ne.mpr h;simp only[List.lookup,hb,if_neg (λe:g=f=>h (e.trans hk.symm))]
  ·rw[if_neg hk];by_cases h:g=k
   ·have hb:(g == k)=true:=beq_iff_eq.mpr h;simp only[List.lookup,hb,if_neg (λe:g=f=>hk (h.symm.trans e))]
   ·have hb:(g == k)=false:=beq_eq_false_iff_ne.mpr h;simp only[List.lookup,hb];exact ih
theorem sN(f:Str)(v:V):∀fs:List (Str×V),f∈(cq f v fs).map (·.1)/\∀g,g∈fs.map (·.1)->g∈(cq f v fs).map (·.1)
 | []=>⟨by simp[cq],λg h=>by simp at h⟩
 | (k,x)::r=>by
  obtain⟨i1,i2⟩:=sN f v r;rw[show cq f v ((k,x)::r)=(if k=f then(k,v)::r else(k,x)::cq f v r)from rfl];by_cases hk:k=f
  ·rw[if_pos hk];subst hk;exact⟨by simp,λg h=>by simpa using h⟩
  ·rw[if_neg hk];refine⟨?_,λg h=>?_⟩
   ·rw[NQ];exact M0 _ i1
   ·rw[NQ]at h ⊢;rcases Na.mp h with e |e
    ·exact Na.mpr (.inl e)
    ·exact M0 _ (i2 g e)
theorem za(f:Str)(v:V):∀fs:List (Str×V),(cq f v fs).length<=fs.length+1
 | []=>by simp[cq]
 | (k,x)::r=>by
  have ih:=za f v r;rw[show cq f v ((k,x)::r)=(if k=f then(k,v)::r else(k,x)::cq f v r)from rfl];by_cases hk:k=f
  ·rw[if_pos hk,Nq,Nq];omega
  ·rw[if_neg hk,Nq,Nq];omega
theorem RelO.some_of{v:V}{o:Option Value}(r:RelO (some v) o):∃u,o=some u/\RelV v u:=by
 cases o with
 |none=>exact(show False from r).elim
 |some u=>exact⟨u,rfl,r⟩
theorem RelO.none_of{o:Option Value}(r:RelO none o):o=none:=by
 cases o with
 |none=>rfl
 |some u=>exact(show False from r).elim
theorem zx{v:V}{u:Value}(r:RelV v u):PySem.W.handedIn u=true:=by
 cases v with
 |non=>cases(show u=Value.none from r);rfl
 |bl b=>cases(show u=Value.bool b from r);rfl
 |int i=>obtain⟨t,e⟩:=(show ∃t,u=Value.int i t from r);cases e;rfl
 |str x=>obtain⟨t,e⟩:=(show ∃t,u=Value.str x t from r);cases e;rfl
 |byt b=>obtain⟨t,e⟩:=(show ∃t,u=Value.bytes b t from r);cases e;rfl
 |flt b=>obtain⟨t,e⟩:=(show ∃t,u=Value.float b t from r);cases e;rfl
 |ref a=>cases(show u=Value.ref a from r);rfl
 |ty n=>cases(show u=Value.type n from r);rfl
section
variable {P:Program}{w:World}{H H':Hp}{h h':Heap}{a C dx:Addr}{fs fs':List (Str×V)}
theorem pQ(hok:HOk P w H h)(e:H a=some (.ins C dx fs)):∃mA,ObjM h a dx C mA/\(∀f,RelO (fs.lookup f) (mA f))/\PySem.Within mA (fs.map (·.1))/\fs.length<=1000/\H dx=some (.own a):=by obtain⟨d,z,ne,ob,mA,n,r,q⟩:=(show ObjOk P w H h a (.ins C dx fs)from hok a _ e);exact⟨mA,⟨ob,n,ne⟩,r,q,z,d⟩
end
structure Cls(K:PySem.W.Frag)(C:Addr):Prop where
 pg:PySem.W.plainGet K C Str.empty=true
 hd:PySem.W.hasDictIn K C=true
 po:PySem.W.plainOver K C=true
 sa:PySem.W.findIn K (.ref C) "__setattr__"=some (some (.builtin "object.__setattr__"))
theorem Cls.get{K:PySem.W.Frag}{C:Addr}(c:Cls K C)(f:Str):PySem.W.plainGet K C f=true:=c.pg
def NoAttr(K:PySem.W.Frag)(C:Addr)(f:Str):Prop:=PySem.W.findIn K (.ref C) f=some none
theorem NoAttr.taker{K:PySem.W.Frag}{C:Addr}{f:Str}(n:NoAttr K C f):PySem.W.takerIn K C f=some none:=by unfold PySem.W.takerIn;rw[show PySem.W.findIn K (.ref C) f=some none from n];rfl
structure Meth(K:PySem.W.Frag)(C:Addr)(m:Str)(f:Addr):Prop where
 at_:PySem.W.findIn K (.ref C) m=some (some (.ref f))
 fn:PySem.W.isFn K (.ref f)=true
 kp:PySem.W.keepIn K (.ref f)=true
section
variable {X:Cx}{pins:List (Addr×Obj)}{σ:St}{H:Hp}{s:Shared}{a C dx:Addr}{fs:List (Str×V)}{f:Str}{v:V}{A:Around}{E:Value->Shared->Prop}
theorem IA{b:Bool}{Q:Value->Shared->Prop}(I:Inv X pins σ H s)(e:H a=some (.ins C dx fs))(c:Cls X.K C)(n:NoAttr X.K C f)(l:fs.lookup f=some v)
 (h:∀u s',Inv X pins σ H s'->RelV v u->Q u s'):wpAny (model X.prog X.w) A (getAttr (.ref a) f b) Q E s:=by
 obtain⟨mA,O,r,_,_,_⟩:=pQ I.hok e;obtain⟨u,hu,ru⟩:=RelO.some_of (v:=v) (o:=mA f) (by rw[<- l];exact r f);exact IC I.kIn O (c.get f) c.hd n hu (zx ru) (h u _ (I.tok _) ru)
theorem zA{m:Str}{g:Addr}{pl:Sem Bool}{Q:Value×List Value->Shared->Prop}(I:Inv X pins σ H s)(e:H a=some (.ins C dx fs))(c:Cls X.K C)(k:Meth X.K C m g)(l:fs.lookup m=none)
 (h:Q (.ref g,[.ref a]) s):wpAny (model X.prog X.w) A (getMethod (.ref a) m pl) Q E s:=by
 obtain⟨mA,O,r,_,_,_⟩:=pQ I.hok e;have hn:mA m=none:=RelO.none_of (by rw[<- l];exact r m);exact IB I.kIn O (c.get m) k.at_ k.fn hn h
theorem Cz{y:V}{u:Value}{Q:Unit->Shared->Prop}(I:Inv X pins σ H s)(e:H a=some (.ins C dx fs))(c:Cls X.K C)(n:NoAttr X.K C f)(hl:fs.length<1000)(ry:RelV y u)
 (h:∀s',Inv X pins σ (upd H a (.ins C dx (cq f y fs))) s'->Q () s'):wpAny (model X.prog X.w) A (setAttr (.ref a) f u) Q E s:=by
 obtain⟨mA,O,r,wi,_,ho⟩:=pQ I.hok e;have hz:(fs.map (·.1)).length<=sizeLine:=by rw[MY,sizeLine_eq];omega
 refine ra I.kIn O c.sa c.po n.taker c.hd wi hz λh' O' sb=>h _ ?_
 have hd:∃o,h'.get? dx=some o:=let⟨o,_,_,e',_⟩:=O'.ns;⟨o,e'⟩;refine I.write (x:=a) (e:=dx) (by rw[e];exact True.intro) (.inr ho) (λb q hb z=>(sb.2 b hb).trans z) hd ?_;refine⟨by rw[upd_ne O.ne];exact ho,?_,O.ne,O'.obj,_,O'.ns,λg=>?_,λg hg=>?_⟩
 ·have:=za f y fs;omega
 ·show RelO ((cq f y fs).lookup g) (if g=f then some u else mA g);rw[eh];by_cases q:g=f
  ·rw[if_pos q,if_pos q];exact ry
  ·rw[if_neg q,if_neg q];exact r g
 ·by_cases q:g=f
  ·rw[q];exact(sN f y fs).1
  ·refine(sN f y fs).2 g (wi g λz=>hg ?_);show(if g=f then some u else mA g)=none;rw[if_neg q];exact z
theorem Inv.made(I:Inv X pins σ H s):Inv X pins σ (upd (upd H s.heap.objs.size (.own (s.heap.objs.size+1))) (s.heap.objs.size+1) (.ins C s.heap.objs.size []))
 { s with heap:=(s.heap.push PySem.W.emptyDict).push (PySem.W.instObj C s.heap.objs.size) }:=by
 have e1:(s.heap.push PySem.W.emptyDict).get? s.heap.objs.size=some PySem.W.emptyDict:=Heap.get?_push_size s.heap rfl
 have e2:((s.heap.push PySem.W.emptyDict).push (PySem.W.instObj C s.heap.objs.size)).get? (s.heap.objs.size+1)=some (PySem.W.instObj C s.heap.objs.size):=by
  have:=Heap.get?_push_size (s.heap.push PySem.W.emptyDict) (o:=PySem.W.instObj C s.heap.objs.size) rfl
  rwa [Heap.size_push]at this
 have e3:(s.heap.push PySem.W.emptyDict).Ns s.heap.objs.size (λ_=>none):=⟨PySem.W.emptyDict,#[],_,e1,rfl,(λe he=>absurd he (by simp)),λ_=>rfl⟩;have I1:=I.laid (a:=s.heap.objs.size) (o:=.own (s.heap.objs.size+1)) (h':=s.heap.push PySem.W.emptyDict) (t':=s.toks) (λb u q=>Heap.get?_push_of_some _ q) (MZ _) ⟨_,e1⟩;refine I1.laid (a:=s.heap.objs.size+1) (o:=.ins C s.heap.objs.size []) (t':=s.toks) (λb u q=>Heap.get?_push_of_some _ q) (Oh (Heap.size_push _ _)) ?_;have ne:s.heap.objs.size≠s.heap.objs.size+1:=Ng (N0 _);refine⟨by rw[upd_ne ne,ao],M9 _,ne,e2,λ_=>none,(Heap.Ns1.of_empty e3).at λo q=>Heap.get?_push_of_some _ q,λ_=>True.intro,λy hy=>absurd rfl hy⟩
theorem AO{prog:Program}{w:World}{env:Env}{e:Expr}{f:Str}{pos:Pos}{s:Shared}{Q:Value->Shared->Prop}(hb:attributeBase e f env (eval e env)=eval e env)
 (h:wpAny (model prog w) A (eval e env) (λo s₁=>wpAny (model prog w) A (getAttr o f true) Q E s₁) E s):wpAny (model prog w) A (eval (.Attribute e f pos) env) Q E s :=
 Attribute_any_ h (by rw[arm_eval_Attribute,hb])
end
def wL(K:PySem.W.Frag)(ta:TE)(f:Str):TE:=λσ H Q=>ta σ H λx H1=>∃a C dx fs v,x=.ref a/\H1 a=some (.ins C dx fs)/\Cls K C/\NoAttr K C f/\fs.lookup f=some v/\Q v H1
def Di(K:PySem.W.Frag)(ta tv:TE)(f:Str):TS:=λD σ H=>tv σ H λy H1=>ta σ H1 λx H2=>∃a C dx fs,x=.ref a/\H2 a=some (.ins C dx fs)/\Cls K C/\NoAttr K C f/\fs.length<1000 /\
 D.nx σ (upd H2 a (.ins C dx (cq f y fs)))
section
variable {X:Cx}{o e value:Expr}{f:Str}{pos pos' tpos:Pos}{ta tv:TE}
theorem En(he:PE X e ta)(hb:attributeBase e f X.env (eval e X.env)=eval e X.env):PE X (.Attribute e f pos) (wL X.K ta f):=by intro pins s σ H Q I h;refine AO hb (thn (he pins s σ H _ I h) λu s1 ⟨x,H1,I1,rx,a,C,dx,fs,v,ex,ea,c,n,l,q⟩=>?_);subst ex;obtain rfl:u=Value.ref a:=rx;exact IA I1 ea c n l λu' s2 I2 ru=>⟨v,H1,I2,ru,q⟩
theorem lR(ha:PE X o ta)(hv:PE X value tv)(hs:swapsWith value (some (.Attribute o f pos')) pos.line X.env=pure false):PS X (.Assign [.Attribute o f pos'] value pos) (Di X.K ta tv f):=by intro pins s σ H D I h;refine plainObj_wpAny_Assign_Attribute (thn (hv pins s σ H _ I h) λu s1 ⟨y,H1,I1,ry,q⟩=>thn (ha pins s1 σ H1 _ I1 q) λov s2 ⟨x,H2,I2,rx,a,C,dx,fs,ex,ea,c,n,l,q2⟩=>?_) hs;subst ex;obtain rfl:ov=Value.ref a:=rx;exact Cz I2 ea c n l ry λs3 I3=>⟨σ,_,I3,q2⟩
end
section
variable {X:Cx}{pins:List (Addr×Obj)}{σ:St}{H:Hp}{s:Shared}{A:Around}{E:Value->Shared->Prop}{Q:Value->Shared->Prop}{c:Value}{b:Bool}
inductive TyOf(K:PySem.W.Frag)(H:Hp):V->Value->Prop where
 |non:TyOf K H .non (.type "NoneType")
 |bl (x:Bool):TyOf K H (.bl x) (.type "bool")
 |int (i:Int):TyOf K H (.int i) (.type "int")
 |str (x:Str):TyOf K H (.str x) (.type "str")
 |flt (x:UInt64):TyOf K H (.flt x) (.type "float")
 |lst {a:Addr} {xs:List V} (e:H a=some (.lst xs)):TyOf K H (.ref a) (.type "list")
 |frz {a:Addr} {o:Obj} {xs:List V} (e:H a=some (.frz o (.lst xs))):TyOf K H (.ref a) (.type "list")
 |tup {a:Addr} {xs:List V} (e:H a=some (.tup xs)):TyOf K H (.ref a) (.type "tuple")
 |dK {a:Addr} {kvs:List (Key×V)} (e:H a=some (.dK kvs)):TyOf K H (.ref a) (.type "dict")
 |dT {a:Addr} {kvs:List (List Key×V)} (e:H a=some (.dT kvs)):TyOf K H (.ref a) (.type "dict")
 |ins {a C dx:Addr} {fs:List (Str×V)} (e:H a=some (.ins C dx fs)) (cl:Cls K C) (ha:PySem.W.findIn K (.ref C) "__class__"=some (some (.builtin "object.__class__")))
  (hn:PySem.W.specialIn K (.builtin "object.__class__") "__get__"=some (some (.builtin "getset_descriptor.__get__"))) (htk:PySem.W.takesIn K (.builtin "object.__class__")=some true)
  (hm:PySem.W.mroIn K C (.type "object")=some true):TyOf K H (.ref a) (.ref C)
theorem HX{x:V}{u t:Value}(I:Inv X pins σ H s)(rx:RelV x u)(ty:TyOf X.K H x t)(e:PySem.W.kitOne X.K t c=some b)(h:∀tk,Q (.bool b) { s with toks:=tk }) :
 wpAny (model X.prog X.w) A (call (.builtin "isinstance") [u,c]) Q E s:=by
 cases ty with
 |non=>cases(show u=Value.none from rx);exact PySem.W.kia_one PySem.W.kitx_none I.kIn True.intro e (λz=>nomatch z) h
 |bl y=>cases(show u=Value.bool y from rx);exact PySem.W.kia_one PySem.W.kitx_bool I.kIn True.intro e (λz=>nomatch z) h
 |int i=>obtain⟨t,q⟩:=(show ∃t,u=Value.int i t from rx);cases q;exact PySem.W.kia_one PySem.W.kitx_int I.kIn True.intro e (λz=>nomatch z) h
 |str y=>obtain⟨t,q⟩:=(show ∃t,u=Value.str y t from rx);cases q;exact PySem.W.kia_one PySem.W.kitx_str I.kIn True.intro e (λz=>nomatch z) h
 |flt y=>obtain⟨t,q⟩:=(show ∃t,u=Value.float y t from rx);cases q;exact PySem.W.kia_one PySem.W.kitx_float I.kIn True.intro e (λz=>nomatch z) h
 | @lst a xs ea =>cases(show u=Value.ref a from rx);obtain⟨_,_,n,_,h1⟩:=(show ObjOk X.prog X.w H s.heap a (.lst xs)from I.hok a _ ea);exact PySem.W.kia_one PySem.W.kitx_list I.kIn ⟨_,h1,rfl⟩ e (λz=>nomatch z) h
 | @frz a ob xs ea =>cases(show u=Value.ref a from rx);obtain⟨_,_,_,n,_,h1⟩:=(show ObjOk X.prog X.w H s.heap a (.frz ob (.lst xs))from I.hok a _ ea);exact PySem.W.kia_one PySem.W.kitx_list I.kIn ⟨_,h1,rfl⟩ e (λz=>nomatch z) h
 | @tup a xs ea =>cases(show u=Value.ref a from rx);obtain⟨_,_,_,p⟩:=(show ObjOk X.prog X.w H s.heap a (.tup xs)from I.hok a _ ea);obtain⟨o,h1,h2,_⟩:=p;exact PySem.W.kia_one PySem.W.kitx_tuple I.kIn ⟨o,h1,h2⟩ e (λz=>nomatch z) h
 | @dK a kvs ea =>cases(show u=Value.ref a from rx);obtain⟨_,_,vs,_,p⟩:=(show ObjOk X.prog X.w H s.heap a (.dK kvs)from I.hok a _ ea);obtain⟨o,es,ep,h1,h2,_⟩:=p;exact PySem.W.kia_one PySem.W.kitx_dict I.kIn ⟨o,h1,h2.1⟩ e (λz=>nomatch z) h
 | @dT a kvs ea =>cases(show u=Value.ref a from rx);obtain⟨_,_,xs,_,o,es,ep,h1,h2,_⟩:=(show ObjOk X.prog X.w H s.heap a (.dT kvs)from I.hok a _ ea);exact PySem.W.kia_one PySem.W.kitx_dict I.kIn ⟨o,h1,h2.1⟩ e (λz=>nomatch z) h
 | @ins a C dx fs ea cl ha hn htk hm =>cases(show u=Value.ref a from rx);obtain⟨mA,O,_⟩:=pQ I.hok ea;obtain⟨od,J,_⟩:=O.look;exact PySem.W.kia_one (PySem.W.kitx_own (cl.get _) cl.hd ha hn htk hm) I.kIn J e (λz=>nomatch z) h
end
structure Room(k:Nat)(A:Around):Prop where
 hd:A.handled=none
 dp:A.depth+3*k+5<recursionLimit
 un:A.units+16*k+200<cLine
theorem Room.mono{j k:Nat}{A:Around}(r:Room k A)(h:j<=k:=by decide):Room j A:=⟨r.hd,by have:=r.dp;omega,by have:=r.un;omega⟩
theorem Room.deeper{k:Nat}{A:Around}(r:Room (k+1) A)(env:Env):Room k (A.deeper env) :=
 ⟨r.hd,by have:=r.dp;show A.depth+1+3*k+5<_;omega,by have:=r.un;show A.units+3+16*k+200<_;omega⟩
theorem Room.in1{k:Nat}{A:Around}(r:Room (k+1) A):Room k A.in1 :=
 ⟨r.hd,by have:=r.dp;show A.depth+3*k+5<_;omega,by have:=r.un;show A.units+1+16*k+200<_;omega⟩
theorem Gz{A:Around}{C:Addr}{us:List Value}{kw:List (Str×Value)}:(A.under (.builtin "type.__call__" ⟨.ref C::us,kw⟩)).depth=A.depth+1:=by first |rfl |simp[Around.under,Code.weight,Code.isCreation,Code.isGuard,Code.isCaller,Code.frames,Code.isFrame,guardIds]
theorem Gx{A:Around}{C:Addr}{us:List Value}{kw:List (Str×Value)}:(A.under (.builtin "type.__call__" ⟨.ref C::us,kw⟩)).units=A.units+1:=by first |rfl |simp[Around.under,Code.cUnits,Code.frames,Code.isFrame]
theorem Room.make{k:Nat}{A:Around}(r:Room (k+1) A)(C:Addr)(us:List Value)(kw:List (Str×Value)):Room k (A.under (.builtin "type.__call__" ⟨.ref C::us,kw⟩)) :=
 ⟨r.hd,by have:=r.dp;rw[Gz];omega,by have:=r.un;rw[Gx];omega⟩
theorem Room.depth{k:Nat}{A:Around}(r:Room k A):A.depth<recursionLimit:=by have:=r.dp;omega
theorem Room.units{k:Nat}{A:Around}(r:Room k A):A.units+64<cLine:=by have:=r.un;omega
def lc:TA:=λ_ H Q=>Q [] H
def iR(ta:TE)(tr:TA):TA:=λσ H Q=>ta σ H λx H1=>tr σ H1 λxs H2=>Q (x::xs) H2
section
variable {X:Cx}{e:Expr}{es:List Expr}{te:TE}{t:TA}{pos:Pos}
theorem ac:PA X [] lc:=λ_ _ _ _ H Q I h=>Calls.spliced_nil ⟨[],H,I,.nil,h⟩
theorem aa(ha:PE X e te)(hr:PA X es t)(hs:starEach (e::es) X.env=(false,eval e X.env)::starEach es X.env:=by rfl):PA X (e::es) (iR te t):=by intro pos pins s σ H Q I h;rw[hs];show wpAny _ _ (spliced ((false,eval e X.env)::backTo pos (starEach es X.env))) _ _ s;refine Calls.spliced_cons (thn (ha pins s σ H _ I h) λu s1 ⟨x,H1,I1,r1,q1⟩=>?_);exact thn (hr pos pins s1 σ H1 _ I1 q1) λus s2 ⟨xs,H2,I2,r2,q2⟩=>⟨x::xs,H2,I2,.cons r1 r2,q2⟩
def BJ(t:TA):TE:=λσ H Q=>t σ H λxs H1=>xs.length<=sizeLine/\∀p,H1 p=none->Q (.ref p) (upd H1 p (.tup xs))
def wK(t:TA):TE:=λσ H Q=>t σ H λxs H1=>xs.length<=sizeLine/\∀p,H1 p=none->Q (.ref p) (upd H1 p (.lst xs))
theorem dM{x1}(h:PA X es t):PE X (.Tuple es x1 pos) (BJ t):=by intro pins s σ H Q I hq;refine wpAny_Tuple_spliced (thn (h pos pins s σ H _ I hq) λus s1 ⟨xs,H1,I1,r,z,q⟩=>⟨by rw[<- r.length];exact z,?_⟩);have hf:H1 s1.heap.objs.size=none:=I1.hok.fresh (MZ _);refine⟨.ref s1.heap.objs.size,upd H1 s1.heap.objs.size (.tup xs),I1.laid (t':=s1.toks) (λb u e=>Heap.get?_push_of_some _ e) (MZ _) ?_,rfl,q _ hf⟩;exact⟨z,us,r,⟨_,Heap.get?_push_size _ rfl,rfl,_,rfl⟩⟩
theorem aV(h:PA X es t):PE X (.List es pos) (wK t):=by intro pins s σ H Q I hq;refine wpAny_List_spliced (thn (h pos pins s σ H _ I hq) λus s1 ⟨xs,H1,I1,r,z,q⟩=>⟨by rw[<- r.length];exact z,?_⟩);have hf:H1 s1.heap.objs.size=none:=I1.hok.fresh (MZ _);refine⟨.ref s1.heap.objs.size,upd H1 s1.heap.objs.size (.lst xs),I1.laid (t':=s1.toks) (λb u e=>Heap.get?_push_of_some _ e) (MZ _) ?_,rfl,q _ hf⟩;exact⟨z,us,0,r,Heap.get?_push_size _ rfl⟩
end
abbrev Sp:=List V->Hp->VK->XK->Prop
abbrev CXT:=List Env->Hp->Shared->XK->Value->Shared->Prop
structure Env0(P:Program)(w:World)(K:PySem.W.Frag)(mg:Str->Option Value)(base:Heap)(A:Around)(outer:List Env)(s:Shared)(H:Hp):Prop where
 frames:A.frames=some outer
 mod:Mod K mg base
 bs:∀b o,base.get? b=some o->s.heap.get? b=some o/\H b=none
 bsz:base.objs.size<=s.heap.objs.size
 funs:s.heap.FunFrames base outer
 frf:∀b∈frs outer,H b=none
 hok:HOk P w H s.heap
 bare:AllBare s.gens
noncomputable def CE(outer:List Env)(P:Program)(w:World)(H:Hp)(s:Shared)(Q:VK)(u:Value)(s':Shared):Prop :=
 ∃v H',s'.os=s.os/\AllBare s'.gens/\Un (frs outer) [] H H' s.heap s'.heap/\HOk P w H' s'.heap/\RelV v u/\Q v H'
noncomputable def CR(CX:CXT)(outer:List Env)(P:Program)(w:World)(H:Hp)(s:Shared)(Q:VK)(E:XK)(r:Result)(s':Shared):Prop :=
 match r with
 |.ok (.ret u)=>CE outer P w H s Q u s'
 |.ok _=>False
 |.error e=>CX outer H s E e s'
structure FnOk(P:Program)(w:World)(K:PySem.W.Frag)(mg:Str->Option Value)(base:Heap)(CX:CXT)(k:Nat)(f:Addr)(fd:FuncData)(ps:List Str)(sp:Sp):Prop where
 len:∀vs H Q E,sp vs H Q E->vs.length=ps.length
 run:∀(A:Around) (outer:List Env) (s:Shared) (H:Hp) (args:Args) (us:List Value) (vs:List V) (Q:VK) (E:XK),Room k A->Env0 P w K mg base A outer s H->BindsTo s fd args (ps.zip us)->Vals vs us->sp vs H Q E ->
  codeAny (model P w) A (.call (.ref f) args) (CR CX outer P w H s Q E) s
theorem FnOk.mono{P:Program}{w:World}{K:PySem.W.Frag}{mg:Str->Option Value}{base:Heap}{CX:CXT}{j k:Nat}{f:Addr}{fd:FuncData}{ps:List Str}{sp:Sp}(F:FnOk P w K mg base CX j f fd ps sp)(h:j<=k:=by decide) :
 FnOk P w K mg base CX k f fd ps sp:=⟨F.len,λA outer s H args us vs Q E hr=>F.run A outer s H args us vs Q E (hr.mono h)⟩
theorem Env0.make{P:Program}{w:World}{K:PySem.W.Frag}{mg:Str->Option Value}{base:Heap}{A:Around}{outer:List Env}{s:Shared}{H:Hp}(e:Env0 P w K mg base A outer s H)(C:Addr)(us:List Value)(kw:List (Str×Value)) :
 Env0 P w K mg base (A.under (.builtin "type.__call__" ⟨.ref C::us,kw⟩)) outer s H:=⟨by first |exact e.frames | (simpa[Around.under,Code.envs,Code.isFrame,pushEnvs]using e.frames),e.mod,e.bs,e.bsz,e.funs,e.frf,e.hok,e.bare⟩
section
variable {X:Cx}{pins:List (Addr×Obj)}{σ:St}{H:Hp}{s s':Shared}
theorem Inv.env0(I:Inv X pins σ H s):Env0 X.prog X.w X.K X.mg X.base X.A X.stack s H :=
 ⟨I.ok.frames,I.ok.mod,I.bs,Nd I.ok.bsz I.sz,I.stack,I.stkFree,I.hok,I.bare⟩
theorem Inv.after{Q:VK}{u:Value}(I:Inv X pins σ H s)(h:CE X.stack X.prog X.w H s Q u s'):EP X pins σ Q u s':=by obtain⟨v,H',os,bare,un,hok,r,q⟩:=h;obtain⟨hh,g,d,t,os'⟩:=s';obtain rfl:os'=s.os:=os;exact⟨v,H',I.call (h':=hh) (g':=g) (d':=d) (t':=t) (ch:=[]) un hok bare (λb z=>absurd z (by simp)),r,q⟩
end
def wN(sp:Sp)(dvs:List V)(E:XK)(t:TA):TE:=λσ H Q=>t σ H λvs H1=>sp (vs++dvs) H1 Q E
def wJ(C:Addr)(m:Str)(sp:Sp)(dvs:List V)(E:XK)(ta:TE)(t:TA):TE:=λσ H Q=>ta σ H λx H1=>∃a dx fs,x=.ref a/\H1 a=some (.ins C dx fs)/\fs.lookup m=none /\
 t σ H1 λvs H2=>sp (x::(vs++dvs)) H2 Q E
def BT(C:Addr)(sp:Sp)(dvs:List V)(E:XK)(t:TA):TE:=λσ H Q=>t σ H λvs H1=>∀x dx,H1 x=none->H1 dx=none->dx≠x ->
 sp (.ref x::(vs++dvs)) (upd (upd H1 dx (.own x)) x (.ins C dx [])) (λv H2=>v=.non/\Q (.ref x) H2) E
noncomputable def Binds(K:PySem.W.Frag)(fd:FuncData)(ps:List Str)(ds:List Value):Prop :=
 ∀(s:Shared) (us:List Value),K.In s.heap->(us++ds).length=ps.length->BindsTo s fd ⟨us,[]⟩ (ps.zip (us++ds))
theorem Binds.all{K:PySem.W.Frag}{fd:FuncData}{ps:List Str}(h:∀us:List Value,us.length=ps.length->bindArgs fd ⟨us,[]⟩=pure (ps.zip us)):Binds K fd ps []:=λs us _ hl=>by rw[OG]at hl ⊢;exact .of_eq (h us hl)
def fB(CX:CXT)(X:Cx)(E:XK):Prop:=∀(pins:List (Addr×Obj)) (σ:St) (H:Hp) (s:Shared) (e:Value) (s':Shared),Inv X pins σ H s->CX X.stack H s E e s'->X.xe e s'
section
variable {X:Cx}{CX:CXT}{k:Nat}{f C:Addr}{fd:FuncData}{ps:List Str}{sp:Sp}{dvs:List V}{ds:List Value}{E:XK}{x m:Str}{p pos apos:Pos}{e o:Expr}{es:List Expr}{ta:TE}{t:TA}
theorem rc{pins:List (Addr×Obj)}{σ:St}{H:Hp}{s:Shared}{Q:VK}{us:List Value}{vs:List V}(F:FnOk X.prog X.w X.K X.mg X.base CX k f fd ps sp)(hr:Room k X.A)(hb:Binds X.K fd ps ds)(hd:Vals dvs ds)(hx:fB CX X E)
 (I:Inv X pins σ H s) (r:Vals vs us) (h:sp (vs++dvs) H Q E):wpAny (model X.prog X.w) X.A (call (.ref f) us) (EP X pins σ Q) X.xe s:=by
 have r2:Vals (vs++dvs) (us++ds):=r.append hd;have hl:(us++ds).length=ps.length:=by rw[<- r2.length];exact F.len _ _ _ _ h
 refine wpAny_call (codeAny_mono (F.run X.A X.stack s H ⟨us,[]⟩ (us++ds) (vs++dvs) Q E hr I.env0 (hb s us I.kIn hl) r2 h) λr s' hq=>?_);cases r with
 |error e=>exact hx pins σ H s e s' I hq
 |ok fl =>
  cases fl with
  |ret u=>exact I.after hq
  |next=>exact False.elim hq
  |brk=>exact False.elim hq
  |cont=>exact False.elim hq
theorem al(F:FnOk X.prog X.w X.K X.mg X.base CX k f fd ps sp)(hr:Room k X.A)(hg:Gl X x)(hm:X.mg x=some (.ref f))(hk:PySem.W.keepIn X.K (.ref f)=true)(hb:Binds X.K fd ps ds)(hd:Vals dvs ds)(hx:fB CX X E)
 (ha:PA X (e::es) t) (hdb:(x == ("__debug__":Str))=false:=by decide) (he:starEach (e::es) X.env=(false,eval e X.env)::starEach es X.env:=by rfl) (hpl:(backTo pos (starEach es X.env)).any (·.1)=false:=by rfl) :
 PE X (.Call (.Name x p) (e::es) [] pos) (wN sp dvs E t):=by
 intro pins s σ H Q I h;refine wpAny_Call_Name_kw (dR I hg hm ?_ hdb);refine PySem.W.callWith_K (h₀:=X.base) I.ok.mod.kin hk (thn (ha pos pins s σ H _ I h) λus s1 ⟨vs,H1,I1,r,q⟩=>⟨I1.kIn,?_⟩) he hpl;exact rc F hr hb hd hx I1 r q
theorem eY{pl:Sem Bool}(he:PE X o ta)(c:Cls X.K C)(hm:Meth X.K C m f)(F:FnOk X.prog X.w X.K X.mg X.base CX k f fd ps sp)(hr:Room k X.A)(hb:Binds X.K fd ps ds)(hd:Vals dvs ds)(hx:fB CX X E)(ha:PA X (e::es) t)
 (hst:starEach (e::es) X.env=(false,eval e X.env)::starEach es X.env:=by rfl) (hpl:(backTo pos (starEach es X.env)).any (·.1)=false:=by rfl)
 (ht:eval (.Call (.Attribute o m apos) (e::es) [] pos) X.env=(do
   let ov <- eval o X.env
   standAt apos.atName
   let(f,first) <- holding [ov] (getMethod ov m pl)
   callWith pos f first (backTo pos (starEach (e::es) X.env)) (backToKw pos (keywordEach [] X.env))):=by rfl) :
 PE X (.Call (.Attribute o m apos) (e::es) [] pos) (wJ C m sp dvs E ta t):=by
 intro pins s σ H Q I h;refine PySem.W.methodCall_KW (pl:=pl) (thn (he pins s σ H _ I h) λu s1 ⟨x,H1,I1,rx,a,dx,fs,ex,ea,l,q⟩=>?_) ht;subst ex;obtain rfl:u=Value.ref a:=rx;refine zA I1 ea c hm l ?_;refine PySem.W.callWith_K (first:=[.ref a]) (h₀:=X.base) I.ok.mod.kin hm.kp (thn (ha pos pins s1 σ H1 _ I1 q) λus s2 ⟨vs,H2,I2,r,q2⟩=>⟨I2.kIn,?_⟩) hst hpl;exact rc (us:=.ref a::us) (vs:=.ref a::vs) F hr hb hd hx I2 (.cons rfl r) q2
theorem El{pl:Sem Bool}(he:PE X o ta)(c:Cls X.K C)(hm:Meth X.K C m f)(F:FnOk X.prog X.w X.K X.mg X.base CX k f fd ps sp)(hr:Room k X.A)(hb:Binds X.K fd ps ds)(hd:Vals dvs ds)(hx:fB CX X E)
 (ht:eval (.Call (.Attribute o m apos) [] [] pos) X.env=(do
   let ov <- eval o X.env
   standAt apos.atName
   let(f,first) <- holding [ov] (getMethod ov m pl)
   callWith pos f first (backTo pos (starEach [] X.env)) (backToKw pos (keywordEach [] X.env))):=by rfl) :
 PE X (.Call (.Attribute o m apos) [] [] pos) (wJ C m sp dvs E ta lc):=by
 intro pins s σ H Q I h;refine PySem.W.methodCall_KW (pl:=pl) (thn (he pins s σ H _ I h) λu s1 ⟨x,H1,I1,rx,a,dx,fs,ex,ea,l,q⟩=>?_) ht;subst ex;obtain rfl:u=Value.ref a:=rx;refine zA I1 ea c hm l ?_;exact PySem.W.callWith_K0 (first:=[.ref a]) I1.kIn hm.kp (rc (us:=[.ref a]) (vs:=[.ref a]) F hr hb hd hx I1 (.cons rfl .nil) q)
structure Mk(K:PySem.W.Frag)(C f:Addr):Prop where
 makes:PySem.W.makesIn K C=true
 init:PySem.W.findIn K (.ref C) "__init__"=some (some (.ref f))
 fn:PySem.W.isFn K (.ref f)=true
 kp:PySem.W.keepIn K (.ref C)=true
theorem Dk{pins:List (Addr×Obj)}{σ:St}{H:Hp}{s:Shared}{Q:VK}{us:List Value}{vs:List V}(M:Mk X.K C f)(F:FnOk X.prog X.w X.K X.mg X.base CX k f fd ps sp)(hr:Room (k+1) X.A)(hb:Binds X.K fd ps ds)(hd:Vals dvs ds)
 (hx:fB CX X E) (I:Inv X pins σ H s) (r:Vals vs us)
 (h:∀x dx,H x=none->H dx=none->dx≠x->sp (.ref x::(vs++dvs)) (upd (upd H dx (.own x)) x (.ins C dx [])) (λv H2=>v=.non/\Q (.ref x) H2) E) :
 wpAny (model X.prog X.w) X.A (call (.ref C) us) (EP X pins σ Q) X.xe s:=by
 have hq:=h (s.heap.objs.size+1) s.heap.objs.size (I.hok.fresh (Nat.le_succ _)) (I.hok.fresh (MZ _)) (Ng (N0 _));have I2:=Inv.made (C:=C) I;have r2:Vals (V.ref (s.heap.objs.size+1)::(vs++dvs)) (Value.ref (s.heap.objs.size+1)::(us++ds)):=.cons rfl (r.append hd)
 have hl:(Value.ref (s.heap.objs.size+1)::us++ds).length=ps.length:=by have e:=r2.length;rw[F.len _ _ _ _ hq]at e;exact e.symm
 refine wpAny_call (Gy (f:=f) I.kIn M.makes M.init (beq_iff_eq.mp M.fn) (codeAny_mono (F.run _ X.stack _ _ ⟨Value.ref (s.heap.objs.size+1)::us,[]⟩ (Value.ref (s.heap.objs.size+1)::(us++ds)) _ _ E (hr.make C us [])
  (I2.env0.make C us []) (hb _ (Value.ref (s.heap.objs.size+1)::us) I2.kIn hl) r2 hq) λr s' hq'=>?_))
 cases r with
 |error e=>exact hx pins σ _ _ e s' I2 hq'
 |ok fl =>
  cases fl with
  |ret u =>obtain⟨v,H',I3,rv,ev,q3⟩:=I2.after hq';subst ev;exact⟨rv,⟨V.ref (s.heap.objs.size+1),H',I3,rfl,q3⟩⟩
  |next=>exact False.elim hq'
  |brk=>exact False.elim hq'
  |cont=>exact False.elim hq'
theorem cv(M:Mk X.K C f)(F:FnOk X.prog X.w X.K X.mg X.base CX k f fd ps sp)(hr:Room (k+1) X.A)(hg:Gl X x)(hm:X.mg x=some (.ref C))(hb:Binds X.K fd ps ds)(hd:Vals dvs ds)(hx:fB CX X E)
 (ha:PA X (e::es) t) (hdb:(x == ("__debug__":Str))=false:=by decide) (he:starEach (e::es) X.env=(false,eval e X.env)::starEach es X.env:=by rfl) (hpl:(backTo pos (starEach es X.env)).any (·.1)=false:=by rfl) :
 PE X (.Call (.Name x p) (e::es) [] pos) (BT C sp dvs E t):=by
 intro pins s σ H Q I h;refine wpAny_Call_Name_kw (dR I hg hm ?_ hdb);refine PySem.W.callWith_K (h₀:=X.base) I.ok.mod.kin M.kp (thn (ha pos pins s σ H _ I h) λus s1 ⟨vs,H1,I1,r,q⟩=>⟨I1.kIn,?_⟩) he hpl;exact Dk M F hr hb hd hx I1 r q
end
section
variable {X:Cx}{CX:CXT}{k:Nat}{f C:Addr}{fd:FuncData}{ps ks:List Str}{sp:Sp}{E:XK}{x m:Str}{p pos apos kpos:Pos}{e o:Expr}{es:List Expr}{kws:List Keyword}{te ta:TE}{t tk:TA}{nm:Option Str}
variable {g:List Value->List Value->List Value}{gV:List V->List V->List V}
end
structure FnScope(N P:List Str)(sc:Scope):Prop where
 kind:sc.kind=.function
 co:sc.isCoroutine=false
 gen:sc.isGenerator=false
 nd:N.Nodup
 pre:N.take P.length=P
 par:∀x∈P,sc.names.lookup x=some .local\/sc.names.lookup x=some .cell
 nofree:∀y∈sc.names,y.2≠.free
theorem AH{kindOf:Str->Option NameKind}{x:Str}:∀{binds:List (Str×Value)} {m:Str->Option Value},(∀v,(x,v)∉binds)->bindL kindOf binds m x=m x
 | [],_,_=>rfl
 | (n,v)::r,m,h=>by
  unfold bindL;rw[AH λw hw=>h w (M0 _ hw)];split
  ·have:x≠n:=by rintro rfl;exact h v M6
   simp[this]
  ·rfl
theorem AJ{kindOf:Str->Option NameKind}{x:Str}:∀{binds:List (Str×Value)} {m:Str->Option Value},(∀v,(x,v)∉binds)->bindC kindOf binds m x=m x
 | [],_,_=>rfl
 | (n,v)::r,m,h=>by
  unfold bindC;rw[AJ λw hw=>h w (M0 _ hw)];split
  ·rfl
  ·have:x≠n:=by rintro rfl;exact h v M6
   simp[this]
theorem AI{kindOf:Str->Option NameKind}{x:Str}{v:Value}:∀{P:List Str} {vs:List Value} {i:Nat} {m:Str->Option Value},P.Nodup->P[i]?=some x->vs[i]?=some v->kindOf x=some .local ->
 bindL kindOf (P.zip vs) m x=some v
 | [],_,_,_,_,h,_,_=>by simp at h
 |_::_,[],_,_,_,_,h,_=>by simp at h
 |p::P,w::vs,0,m,nd,h1,h2,hk=>by
  simp at h1 h2;subst h1;subst h2
  show bindL kindOf ((p,w)::P.zip vs) m p=_;unfold bindL;rw[AH λv hv=>(OH.mp nd).1 (List.of_mem_zip hv).1,if_pos hk];simp
 |p::P,w::vs,i+1,m,nd,h1,h2,hk=>by show bindL kindOf ((p,w)::P.zip vs) m x=_;unfold bindL;exact AI (i:=i) (OH.mp nd).2 (by simpa using h1) (by simpa using h2) hk
theorem AK{kindOf:Str->Option NameKind}{x:Str}{v:Value}:∀{P:List Str} {vs:List Value} {i:Nat} {m:Str->Option Value},P.Nodup->P[i]?=some x->vs[i]?=some v->kindOf x≠some .local ->
 bindC kindOf (P.zip vs) m x=some v
 | [],_,_,_,_,h,_,_=>by simp at h
 |_::_,[],_,_,_,_,h,_=>by simp at h
 |p::P,w::vs,0,m,nd,h1,h2,hk=>by
  simp at h1 h2;subst h1;subst h2
  show bindC kindOf ((p,w)::P.zip vs) m p=_;unfold bindC;rw[AJ λv hv=>(OH.mp nd).1 (List.of_mem_zip hv).1,if_neg hk];simp
 |p::P,w::vs,i+1,m,nd,h1,h2,hk=>by show bindC kindOf ((p,w)::P.zip vs) m x=_;unfold bindC;exact AK (i:=i) (OH.mp nd).2 (by simpa using h1) (by simpa using h2) hk
noncomputable def start(N:List Str)(vs:List V):St:=vs.map some++List.replicate (N.length-vs.length) none
noncomputable def bv(CX:CXT)(P:Program)(w:World)(K:PySem.W.Frag)(mg:Str->Option Value)(base:Heap)(N:List Str)(qual:Str)(scope:Scope)(f:Addr)(cd:Value)(A:Around)(outer:List Env)(s:Shared)(H:Hp)(E:XK):Cx where
 prog:=P
 w:=w
 K:=K
 mg:=mg
 base:=base
 A:=A.deeper (envOfC qual scope s.heap.objs.size f cd)
 N:=N
 s₀:=s
 H₀:=H
 env:=envOfC qual scope s.heap.objs.size f cd
 outer:=outer
 stack:=envOfC qual scope s.heap.objs.size f cd::outer
 ex:=[]
 calm:=true
 fn:=λ_=>true
 pn:=[]
 xe:=λe s'=>wpAny (model P w) (A.deeper (envOfC qual scope s.heap.objs.size f cd)) (leaving (envOfC qual scope s.heap.objs.size f cd) e) (λ_ s''=>CX outer H s E e s'') (λe' s''=>CX outer H s E e' s'') s'
theorem AC{sc:Scope}{n:Nat}{x:Str}(h:sc.names.lookup x=some .cell):∃c,(cellsFrom n sc.names []).lookup x=some c:=by have q:=PySem.W.cellsFrom_some sc.names n [] (.inl h);exact OO.mp q
theorem Ic{CX:CXT}{P:Program}{w:World}{K:PySem.W.Frag}{mg:Str->Option Value}{base:Heap}{N ps:List Str}{qual:Str}{scope:Scope}{f:Addr}{cd:Value}{A:Around}{outer:List Env}{s s1:Shared}{H:Hp}{E:XK}{us:List Value}{vs:List V}
 (S:FnScope N ps scope) (hd:A.handled=none) (e0:Env0 P w K mg base A outer s H) (hl:vs.length=ps.length) (r:Vals vs us)
 (x:InCallC s s.heap.objs.size (bindL (envOfC qual scope s.heap.objs.size f cd).kindOf (ps.zip us) λ_=>none) (cellsFrom (s.heap.objs.size+1) scope.names []) (bindC (envOfC qual scope s.heap.objs.size f cd).kindOf (ps.zip us) λ_=>none) s1) :
 Inv (bv CX P w K mg base N qual scope f cd A outer s H E) [] (start N vs) H s1:=by
 have hpl:ps.length<=N.length:=by have:=congrArg List.length S.pre;rw[NV]at this;omega
 obtain⟨h1,tk,rfl,hk⟩:=x.done;have noA:∀b:Addr,b∉(bv CX P w K mg base N qual scope f cd A outer s H E).ex:=λb z=>absurd (show b∈([]:List Addr)from z) (by simp)
 refine⟨⟨e0.mod,S.kind,rfl,rfl,MZ _,λy z c h1 h2=>?_,λy hy=>?_,λy c _ h=>?_,λ_=>hd,Around.frames_deeper e0.frames,.inr ⟨rfl,rfl⟩,λb z=>absurd z (noA b),e0.bs,e0.bsz,λb _ _=>noA b,λb z=>absurd z (noA b),e0.funs,e0.frf⟩,
  rfl,e0.bare,Un.kept hk,⟨_,x.toInCall.ns,λi y v h1 h2 h3=>?_⟩,λy c h=>⟨_,x.cell y c h⟩,e0.hok.fresh (MZ _),λy c h=>?_,λp hp=>absurd (show p∈([]:List (Addr×Obj))from hp) (by simp),e0.hok.kept hk,?_⟩
 ·exact name_of_addr x.apart (PySem.mem_of_lookup h1) (PySem.mem_of_lookup h2)
 ·have hy:scope.names.lookup y=some .cell\/scope.names.lookup y=some .free:=hy;rcases hy with hy |hy
  ·exact AC hy
  ·exact absurd rfl (S.nofree _ (PySem.mem_of_lookup hy))
 ·exact OF (x.above y c (PySem.mem_of_lookup h))
 ·have hi:i<vs.length:=by
   unfold start at h2
   by_cases hi:i<vs.length
   ·exact hi
   ·rw[List.getElem?_append_right (by simpa using hi)]at h2;rw[List.getElem?_replicate]at h2;split at h2<;>cases h2
  have ha:vs[i]?=some v:=by
   unfold start at h2
   rw[List.getElem?_append_left (by simpa using hi),List.getElem?_map]at h2;cases e:vs[i]? with
   |none=>rw[e]at h2;cases h2
   |some a=>rw[e]at h2;cases h2;rfl
  obtain⟨u,hu,rv⟩:=r.get ha
  have hp:ps[i]?=some y:=by rw[<- S.pre,List.getElem?_take_of_lt (by omega)];exact h1
  have ndP:ps.Nodup:=by rw[<- S.pre];exact S.nd.sublist (List.take_sublist _ _)
  refine⟨u,rv,?_⟩;rcases S.par y (List.mem_of_getElem? hp)with k |k
  ·exact .inl ⟨k,AI ndP hp hu k⟩
  ·obtain⟨c,e⟩:=AC (n:=s.heap.objs.size+1) k;refine .inr ⟨.inl k,c,e,?_⟩;have q:=x.cell y c e;rw[AK ndP hp hu (by show scope.names.lookup y≠_;rw[k];decide)]at q;exact q
 ·exact e0.hok.fresh (OF (x.above y c (PySem.mem_of_lookup h)))
 ·unfold start;show _=N.length;rw[Nk,MY,O6];omega
theorem pZ{CX:CXT}{P:Program}{w:World}{K:PySem.W.Frag}{mg:Str->Option Value}{base:Heap}{k:Nat}{f:Addr}{name qual:Str}{params:Arguments}{body:List Stmt}{scope:Scope}{dV kV doc pm cdv ct oc:Value}{an od:Option Addr}
 {osl:Array (Option Value)} {N ps:List Str} {sp:Sp} (lk:K.lookup f=some ⟨oc,od,.func (PySem.W.fnOf name qual params body scope dV kV doc pm an cdv ct),osl⟩) (hcd:PySem.W.codeIn K cdv qual=true) (S:FnScope N ps scope)
 (len:∀vs H Q E,sp vs H Q E->vs.length=ps.length)
 (hbody:∀(A:Around) (outer:List Env) (s:Shared) (H:Hp) (vs:List V) (Q:VK) (E:XK),Room k (A.deeper (envOfC qual scope s.heap.objs.size f cdv))->sp vs H Q E ->
   ∃t,PSs (bv CX P w K mg base N qual scope f cdv A outer s H E) body t/\t { nx:=λ_ H'=>Q .non H',rt:=Q } (start N vs) H) :
 FnOk P w K mg base CX (k+1) f (PySem.W.fnOf name qual params body scope dV kV doc pm an cdv ct) ps sp:=by
 refine⟨len,λA outer s H args us vs Q E hr e0 hb r hsp=>?_⟩;have hl:=len _ _ _ _ hsp;have KX:K.In s.heap:=e0.mod.kin.keeps λb o e=>(e0.bs b o e).1
 have lim:s.heap.NoLimit:=e0.mod.nolimit.keeps λb o e=>(e0.bs b o e).1
 have hkind:∀y∈ps.zip us,scope.names.lookup y.1=some .local\/(scope.names.lookup y.1=some .cell/\((cellsFrom (s.heap.objs.size+1) scope.names []).lookup y.1).isSome=true):=λ⟨n,v⟩ hy=>by
  rcases S.par n (List.of_mem_zip hy).1 with q |q
  ·exact .inl q
  ·exact .inr ⟨q,PySem.W.cellsFrom_some _ _ _ (.inl q)⟩
 refine codeAny_call_function hr.depth (KX _ _ lk) rfl S.co S.gen rfl (PySem.W.codeRec_of KX hcd) (hb _ _ _ _ ?_);refine wpAny_newFunctionEnv_cells S.kind hkind λenv he s1 x=>?_
 subst he;refine⟨lim.keeps x.toInCall.keep,codeAny_func ?_⟩;obtain⟨t,ht,hq⟩:=hbody A outer s H vs Q E (hr.deeper _) hsp;have I:Inv (bv CX P w K mg base N qual scope f cdv A outer s H E) [] (start N vs) H s1:=Ic S hr.hd e0 hl r x;refine wpAny_mono (ht [] s1 (start N vs) H _ I hq) (λfl s' hs=>?_) λe s' hs=>hs
 have fin:∀{σ':St} {H':Hp} {v:V} {u:Value},Inv (bv CX P w K mg base N qual scope f cdv A outer s H E) [] σ' H' s'->RelV v u->Q v H'->CE outer P w H s Q u s' :=
  λ{σ' H' v u} J rv q=>⟨v,H',J.os,J.bare,J.base,J.hok,rv,q⟩
 cases fl with
 |ret u =>obtain⟨v,σ',H',J,rv,q⟩:=hs;exact fin J rv q
 |next =>obtain⟨σ',H',J,q⟩:=hs;exact fin (v:=V.non) (u:=Value.none) J rfl q
 |brk =>obtain⟨_,_,_,q⟩:=hs;exact False.elim q
 |cont =>obtain⟨_,_,_,q⟩:=hs;exact False.elim q
section
variable {X:Cx}{x:Str}{p pos:Pos}{e:Expr}{es:List Expr}{t:TA}{id T:String}{r:List V->Hp->VK->Prop}
def tCB(r:List V->Hp->VK->Prop)(t:TA):TE:=λσ H Q=>t σ H λvs H1=>r vs H1 Q
theorem aT(hc:CallR X (.builtin id) r)(hg:Gl X x)(hm:X.mg x=none)(hv:bootBuiltins x=some (.builtin id))(ha:PA X (e::es) t)(hn:x≠"__name__":=by decide)(hdb:(x == ("__debug__":Str))=false:=by decide)
 (he:starEach (e::es) X.env=(false,eval e X.env)::starEach es X.env:=by rfl) (hpl:(backTo pos (starEach es X.env)).any (·.1)=false:=by rfl):PE X (.Call (.Name x p) (e::es) [] pos) (tCB r t):=by
 intro pins s σ H Q I h;refine wpAny_Call_Name_kw (fk I hg hm hv ?_ hn hdb);exact PyProof.Rows.callWith_builtin1 (thn (ha pos pins s σ H _ I h) λus s1 ⟨vs,H1,I1,r1,q1⟩=>hc pins s1 σ H1 vs us Q I1 r1 q1) he hpl
theorem pj(hc:CallR X (.type T) r)(hg:Gl X x)(hm:X.mg x=none)(hv:bootBuiltins x=some (.type T))(ha:PA X (e::es) t)(hn:x≠"__name__":=by decide)(hdb:(x == ("__debug__":Str))=false:=by decide)
 (he:starEach (e::es) X.env=(false,eval e X.env)::starEach es X.env:=by rfl) (hpl:(backTo pos (starEach es X.env)).any (·.1)=false:=by rfl):PE X (.Call (.Name x p) (e::es) [] pos) (tCB r t):=by
 intro pins s σ H Q I h;refine wpAny_Call_Name_kw (fk I hg hm hv ?_ hn hdb);exact PyProof.Rows.callWith_type1 (thn (ha pos pins s σ H _ I h) λus s1 ⟨vs,H1,I1,r1,q1⟩=>hc pins s1 σ H1 vs us Q I1 r1 q1) he hpl
end
end L2
namespace HT
open PySem PyProof.Rows
section
open PySem.SeqAt
open PySem.AutoSeq1 (wpAny_loadPart')
open PySem.MeetsSeq PySem.MeetsSeq2 PySem.MeetsSeq3
end
section
variable {prog:Program}{w:World}{A:Around}{E:Value->Shared->Prop}{s:Shared}
noncomputable def sIx(n d:Nat):Option Int->Nat
 |none=>d
 |some v=>if v<0 then(v+(n:Int)).toNat else min v.toNat n
theorem sIx_none(n d:Nat):sIx n d none=d:=rfl
theorem sIx_nat(n d k:Nat):sIx n d (some (k:Int))=min k n:=by show(if(k:Int)<0 then((k:Int)+(n:Int)).toNat else min (k:Int).toNat n)=min k n;rw[if_neg (by omega),Int.toNat_natCast]
end
end HT
namespace L2
open PySem PySem.Spec PyProof.Rows
abbrev TO:=St->Hp->(Option Int->Hp->Prop)->Prop
noncomputable def PO(X:Cx)(e:Option Expr)(t:TO):Prop :=
 ∀(pins:List (Addr×Obj)) (s:Shared) (σ:St) (H:Hp) (Q:Option Int->Hp->Prop),Inv X pins σ H s->t σ H Q ->
  wpAny (model X.prog X.w) X.A (evalPart e X.env) (λu s'=>∃o H',Inv X pins σ H' s'/\IsPart u o/\Q o H') X.xe s
noncomputable def BR:TO:=λ_ H Q=>Q none H
noncomputable def BQ(t:TE):TO:=λσ H Q=>t σ H λx H1=>∃i,x=.int i/\Q (some i) H1
theorem pP{ns:List Int}:∀{us:List Value},Vals (ns.map V.int) us->IntsAre us ns:=by
 induction ns with
 |nil=>intro us r;rw[List.map_nil]at r;cases r;exact .nil
 |cons n ns ih =>
  intro us r;rw[NQ]at r;cases r with
  |cons r1 r2 =>obtain⟨t,e⟩:=r1;subst e;exact .cons n t (ih r2)
section
variable {X:Cx}{e:Expr}{te:TE}{lo hi:Option Expr}{tl th:TO}{pos p2:Pos}
theorem o0:PO X none BR:=by intro pins s σ H Q I h;rw[evalPart_none];exact wpAny_pure ⟨none,H,I,.none,h⟩
theorem oZ(h:PE X e te):PO X (some e) (BQ te):=by
 intro pins s σ H Q I hw;rw[evalPart_some];refine thn (h pins s σ H _ I hw) λu s1 ⟨x,H1,I1,r1,q1⟩=>?_
 obtain⟨i,rfl,q⟩:=q1;obtain⟨t,rfl⟩:=r1;exact⟨some i,H1,I1,.int i t,q⟩
noncomputable def SlR(X:Cx)(r:V->Option Int->Option Int->Hp->VK->Prop):Prop :=
 ∀(pins:List (Addr×Obj)) (s:Shared) (σ:St) (H:Hp) (x:V) (v vl vu:Value) (lo hi:Option Int) (sl:Addr) (Q:VK),Inv X pins σ H s->RelV x v->s.heap.IsSliceOf sl vl vu .none->IsPart vl lo->IsPart vu hi->r x lo hi H Q ->
  ∃T id,typeLookup (.type T) "__getitem__"=pure (some (.builtin id))/\s.TypeIs v T/\wpAny (model X.prog X.w) X.A (getItem v (.ref sl)) (EP X pins σ Q) X.xe s
theorem SlR.or{r r':V->Option Int->Option Int->Hp->VK->Prop}(h:SlR X r)(h':SlR X r'):SlR X (λx lo hi H Q=>r x lo hi H Q\/r' x lo hi H Q):=by
 intro pins s σ H x v vl vu lo hi sl Q I rx hs pl pu q;rcases q with q |q
 ·exact h pins s σ H x v vl vu lo hi sl Q I rx hs pl pu q
 ·exact h' pins s σ H x v vl vu lo hi sl Q I rx hs pl pu q
def tSl(r:V->Option Int->Option Int->Hp->VK->Prop)(te:TE)(tl th:TO):TE:=λσ H Q=>te σ H λx H1=>tl σ H1 λl H2=>th σ H2 λu H3=>r x l u H3 Q
theorem o9{r:V->Option Int->Option Int->Hp->VK->Prop}(hr:SlR X r)(he:PE X e te)(hl:PO X lo tl)(hu:PO X hi th):PE X (.Subscript e (.Slice lo hi none p2) pos) (tSl r te tl th):=by
 intro pins s σ H Q I h;refine Subscript_ (thn (he pins s σ H _ I h) λv s1 ⟨x,H1,I1,r1,q1⟩=>?_);refine wpAny_Slice (thn (hl pins s1 σ H1 _ I1 q1) λvl s2 ⟨l,H2,I2,pl,q2⟩=>thn (hu pins s2 σ H2 _ I2 q2) λvu s3 ⟨u,H3,I3,pu,q3⟩=>?_);rw[evalPart_none];refine wpAny_pure ?_;have I4:Inv X pins σ H3 { s3 with heap:=s3.heap.push { cls:=.type "slice",data:=.fields #[vl,vu,.none] } }:=I3.kept (t':=s3.toks) λb ob q=>Heap.get?_push_of_some _ q
 obtain⟨T,id,hT,ht,hg⟩:=hr pins { s3 with heap:=s3.heap.push { cls:=.type "slice",data:=.fields #[vl,vu,.none] } } σ H3 x v vl vu l u s3.heap.objs.size Q I4 r1 (Heap.IsSliceOf.new ..) pl pu q3;show wpAny (model X.prog X.w) X.A (subscriptTail e (.Slice lo hi none p2) v (.ref s3.heap.objs.size)) (EP X pins σ Q) X.xe { s3 with heap:=s3.heap.push { cls:=.type "slice",data:=.fields #[vl,vu,.none] } };exact tail_any (ops:=[.ref s3.heap.objs.size,v]) ht hT hg (by with_unfolding_all rfl)
noncomputable def fW(xs:List V)(lo hi:Option Int):List V:=(xs.drop (HT.sIx xs.length 0 lo)).take (HT.sIx xs.length xs.length hi-HT.sIx xs.length 0 lo)
theorem Kp(xs:List V)(lo hi:Option Int):(fW xs lo hi).length<=xs.length:=by unfold fW;rw[NV,Oi];omega
end
noncomputable def ixN(n:Nat)(i:Int):Option Nat:=if 0<=i then(if i<n then some i.toNat else none)else if -(n:Int)<=i then some (i+n).toNat else none
noncomputable def atI{α:Type}(xs:List α)(i:Int):Option α:=(ixN xs.length i).bind λj=>xs[j]?
theorem zh{n:Nat}{i:Int}{j:Nat}(h:ixN n i=some j):seqIndex? i n=some j/\j<n /\ -(n:Int)<=i/\i<n:=by
 unfold ixN at h
 by_cases h0:0<=i
 ·rw[if_pos h0]at h;by_cases h1:i<n
  ·rw[if_pos h1]at h;have e:i.toNat=j:=Option.some.inj h;exact⟨by rw[seqIndex_of h0 h1,e],by omega,by omega,h1⟩
  ·rw[if_neg h1]at h;cases h
 ·rw[if_neg h0]at h;by_cases h1 : -(n:Int)<=i
  ·rw[if_pos h1]at h;have e:(i+n).toNat=j:=Option.some.inj h;exact⟨by rw[seqIndex_neg (by omega) h1,e],by omega,h1,by omega⟩
  ·rw[if_neg h1]at h;cases h
theorem AT{α:Type}{xs:List α}{i:Int}{v:α}(h:atI xs i=some v):∃j,seqIndex? i xs.length=some j/\xs[j]?=some v/\j<xs.length /\ -(xs.length:Int)<=i/\i<xs.length:=by
 unfold atI at h
 cases e:ixN xs.length i with
 |none=>rw[e]at h;cases h
 |some j =>rw[e]at h;obtain⟨h1,h2,h3,h4⟩:=zh e;exact⟨j,h1,h,h2,h3,h4⟩
theorem gd{α:Type}{xs:List α}{j:Nat}{v:α}(h:xs[j]?=some v):atI xs (j:Int)=some v:=by
 have hj:j<xs.length:=(List.getElem?_eq_some_iff.mp h).1
 have e:ixN xs.length (j:Int)=some j:=by unfold ixN;rw[if_pos (by omega),if_pos (by omega)];simp
 unfold atI;rw[e];exact h
theorem vw{α:Type}(xs:List α)(v:α):atI (xs++[v]) (-1)=some v:=by
 have hl:(xs++[v]).length=xs.length+1:=by simp
 have e:ixN (xs++[v]).length (-1)=some xs.length:=by
  unfold ixN;rw[hl,if_neg (by decide),if_pos (by omega)]
  congr 1
  omega
 unfold atI;rw[e];show(xs++[v])[xs.length]?=some v;simp
def LB(b:Expr):Prop:=∀o i,subscripted b false o i=operate [o,i] (getItem o i)
noncomputable def IxR(X:Cx)(r:R2):Prop :=
 ∀(value slice:Expr) (pins:List (Addr×Obj)) (s:Shared) (σ:St) (H:Hp) (x y:V) (v u:Value) (Q:VK),Inv X pins σ H s->RelV x v->RelV y u->r x y H Q ->
  subscripted slice false v u=operate [v,u] (getItem v u)->wpAny (model X.prog X.w) X.A (subscriptTail value slice v u) (EP X pins σ Q) X.xe s
noncomputable def MtR(X:Cx)(id:String)(r:V->List V->Hp->VK->Prop):Prop :=
 ∀(pins:List (Addr×Obj)) (s:Shared) (σ:St) (H:Hp) (x:V) (xs:List V) (v:Value) (us:List Value) (Q:VK),Inv X pins σ H s->RelV x v->Vals xs us->r x xs H Q ->
  wpAny (model X.prog X.w) X.A (call (.builtin id) (v::us)) (EP X pins σ Q) X.xe s
section
variable {X:Cx}{a b:Expr}{ta tb:TE}{pos:Pos}
theorem IxR.or{r r':R2}(h:IxR X r)(h':IxR X r'):IxR X (λx y H Q=>r x y H Q\/r' x y H Q):=by
 intro value slice pins s σ H x y v u Q I rx ry q hs;rcases q with q |q
 ·exact h value slice pins s σ H x y v u Q I rx ry q hs
 ·exact h' value slice pins s σ H x y v u Q I rx ry q hs
theorem MtR.or{id:String}{r r':V->List V->Hp->VK->Prop}(h:MtR X id r)(h':MtR X id r'):MtR X id (λx xs H Q=>r x xs H Q\/r' x xs H Q):=by
 intro pins s σ H x xs v us Q I rx rs q;rcases q with q |q
 ·exact h pins s σ H x xs v us Q I rx rs q
 ·exact h' pins s σ H x xs v us Q I rx rs q
theorem aH{r:R2}(hr:IxR X r)(ha:PE X a ta)(hb:PE X b tb)(hs:LB b):PE X (.Subscript a b pos) (tOp r ta tb):=by intro pins s σ H Q I h;exact Subscript_ (u9 ha hb I h λv u s2 x y H2 I2 rx ry q=>hr a b pins s2 σ H2 x y v u Q I2 rx ry q (hs _ _))
def xV(K:PySem.W.Frag):R2:=λx y H Q=>∃p xs i v,x=.ref p/\y=.int i/\SqL K H p xs/\atI xs i=some v/\Q v H
def xU(K:PySem.W.Frag):R2:=λx y H Q=>∃p xs i v,x=.ref p/\y=.int i/\SqT K H p xs/\atI xs i=some v/\Q v H
theorem HW:IxR X (xV X.K):=by
 intro value slice pins s σ H x y v u Q I rx ry h hs;obtain⟨p,xs,i,z,rfl,rfl,hq,he,q⟩:=h;cases rx;obtain⟨t,rfl⟩:=ry;obtain⟨its,r,pl,hz⟩:=I.list hq;obtain⟨j,h1,h2,h3,h4,h5⟩:=AT he;obtain⟨w,ew,rw'⟩:=r.get h2;have hl:=r.length;have hn:=mD;have fin:EP X pins σ Q w s:=⟨z,H,I,rw',q⟩;by_cases h0:0<=i
 ·have hj:i.toNat=j:=by rw[seqIndex_of h0 h5]at h1;exact Option.some.inj h1
  exact item_listR pl.isList h0 (by omega) (by rw[hj];simpa using ew) fin hs
 ·have hj:(i+(its.toArray.size:Int)).toNat=j:=by rw[seqIndex_neg (by omega) h4]at h1;rw[Nl,<- hl];exact Option.some.inj h1
  exact subscriptTail_builtinR (x:=w) pl.isList.typeIs slot_list_getitem.lookup
   (wpAny_getItem_list_neg (Q:=λr s'=>r=w/\EP X pins σ Q r s') pl.isList (by omega) (by rw[Nl]<;>omega) (by omega) (by rw[hj];simpa using ew) ⟨rfl,fin⟩) hs
theorem HV:IxR X (xU X.K):=by
 intro value slice pins s σ H x y v u Q I rx ry h hs;obtain⟨p,xs,i,z,rfl,rfl,hq,he,q⟩:=h;cases rx;obtain⟨t,rfl⟩:=ry;obtain⟨its,r,pl,hz⟩:=I.tuple hq;obtain⟨j,h1,h2,h3,h4,h5⟩:=AT he;obtain⟨w,ew,rw'⟩:=r.get h2;have hl:=r.length;have hn:=mD;have fin:EP X pins σ Q w s:=⟨z,H,I,rw',q⟩
 exact subscriptTail_builtinR (x:=w) pl.typeIs slot_tuple_getitem.lookup
  (getItem_tuple (j:=j) (Q:=λr s'=>r=w/\EP X pins σ Q r s') pl (by omega) (by omega) (by rw[Nl,<- hl];exact h1) (by simpa using ew) ⟨rfl,fin⟩) hs
theorem Gw(its:List Value)(n j:Nat)(u:Value):Obj.mapSeq (·.setIfInBounds j u) { cls:=.type "list",data:=.seq its.toArray n }={ cls:=.type "list",data:=.seq (its.set j u).toArray n }:=by simp[Obj.mapSeq]
theorem Inv.lst{pins:List (Addr×Obj)}{σ:St}{H:Hp}{s:Shared}{p:Addr}{xs:List V}(I:Inv X pins σ H s)(h:H p=some (.lst xs)) :
 ∃(its:List Value) (n:Nat),Vals xs its/\s.heap.get? p=some { cls:=.type "list",data:=.seq its.toArray n }/\xs.length<=sizeLine:=by
 obtain⟨z,its,n,r,e⟩:=I.hok p _ h;exact⟨its,n,r,e,z⟩
theorem Inv.lstUpd{pins:List (Addr×Obj)}{σ:St}{H:Hp}{s:Shared}{p:Addr}{xs ys:List V}{its its':List Value}{n n':Nat}{f:Obj->Obj}(I:Inv X pins σ H s)(h:H p=some (.lst xs))
 (ho:s.heap.get? p=some { cls:=.type "list",data:=.seq its.toArray n }) (hf:f { cls:=.type "list",data:=.seq its.toArray n }={ cls:=.type "list",data:=.seq its'.toArray n' }) (r:Vals ys its') (hz:ys.length<=sizeLine) (t:Nat) :
 Inv X pins σ (upd H p (.lst ys)) { s with heap:=s.heap.update p f,toks:=t }:=by
 have e:(s.heap.update p f).get? p=some { cls:=.type "list",data:=.seq its'.toArray n' }:=by rw[Heap.get?_update_self f ho (by rw[hf]<;>rfl),hf]
 refine I.write (x:=p) (e:=p) (by rw[h];trivial) (.inl rfl) (λb u hb q=>(Heap.get?_update_other _ _ (Ne.symm hb)).trans q) ⟨_,e⟩ ?_;exact⟨hz,its',n',r,e⟩
noncomputable def DP:V->V->V->Hp->(Hp->Prop)->Prop:=λo i v H Q=>∃p xs k j,o=.ref p/\i=.int k/\H p=some (.lst xs)/\ixN xs.length k=some j/\Q (upd H p (.lst (xs.set j v)))
theorem lD:AZ X DP:=by
 intro pins s σ H o i v ov iv u Q I ro ri rv h;obtain⟨p,xs,k,j,rfl,rfl,hp,hj,q⟩:=h;cases ro;obtain⟨t,rfl⟩:=ri;obtain⟨its,n,r,ho,hz⟩:=I.lst hp;obtain⟨h1,h2,h3,h4⟩:=zh hj;have hl:=r.length;have hn:=mD
 have I':Inv X pins σ (upd H p (.lst (xs.set j v))) { s with heap:=s.heap.update p (Obj.mapSeq (·.setIfInBounds j u)) } :=
  I.lstUpd hp ho (Gw its n j u) (r.set rv j) (by rw[Ow];exact hz) s.toks
 by_cases h0:0<=k
 ·have hk:k.toNat=j:=by rw[seqIndex_of h0 h4]at h1;exact Option.some.inj h1
  exact PySem.W.ki_setAt ho h0 (by omega) (by rw[Nl,<- hl];exact h4) (by rw[hk];exact⟨_,I',q⟩)
 ·have hk:(k+(its.toArray.size:Int)).toNat=j:=by rw[seqIndex_neg (by omega) h3]at h1;rw[Nl,<- hl];exact Option.some.inj h1
  exact PySem.W.ki_setBack ho (by omega) (by rw[Nl,<- hl];exact h3) (by omega) (by rw[hk];exact⟨_,I',q⟩)
theorem Ce(lo hi:Option Int)(n:Nat):(sliceBounds lo hi none n).1=((HT.sIx n 0 lo:Nat):Int)/\(sliceBounds lo hi none n).2.1=((HT.sIx n n hi:Nat):Int)/\(sliceBounds lo hi none n).2.2=1:=by
 refine⟨?_,?_,rfl⟩
 ·cases lo with
  |none=>simp[sliceBounds,HT.sIx]
  |some i =>
   simp only[sliceBounds,HT.sIx,Option.getD_none,show(1:Int)>0 by decide,if_true];by_cases h:i<0
   ·simp only[h,if_true]<;>omega
   ·simp only[h,if_false]<;>omega
 ·cases hi with
  |none=>simp[sliceBounds,HT.sIx]
  |some i =>
   simp only[sliceBounds,HT.sIx,Option.getD_none,show(1:Int)>0 by decide,if_true];by_cases h:i<0
   ·simp only[h,if_true]<;>omega
   ·simp only[h,if_false]<;>omega
theorem Cf(its:List Value)(lo hi:Option Int):slicePick its.toArray lo hi none=((its.drop (HT.sIx its.length 0 lo)).take (HT.sIx its.length its.length hi-HT.sIx its.length 0 lo)).toArray:=by obtain⟨h1,h2,h3⟩:=Ce lo hi its.toArray.size;unfold slicePick;rw[h1,h2,h3];simp only[sliceRange_one,pick_run,Nl]<;>rfl
noncomputable def rk(K:PySem.W.Frag):V->Option Int->Option Int->Hp->VK->Prop:=λx lo hi H Q=>∃a xs,x=.ref a/\SqL K H a xs/\∀p,H p=none->Q (.ref p) (upd H p (.lst (fW xs lo hi)))
theorem Cg:SlR X (rk X.K):=by intro pins s σ H x v vl vu lo hi sl Q I rx hs pl pu h;obtain⟨a,xs,rfl,hx,q⟩:=h;cases rx;obtain⟨its,r,ht,hz⟩:=I.list hx;have hlen:=r.length;refine⟨"list",_,slot_list_getitem.lookup,ht.isList.typeIs,?_⟩;refine wpAny_getItem_list_slice ht.isList hs pl pu .none (by simp) ?_ (by rw[Nl]<;>omega);rw[Cf,<- hlen];refine⟨.ref s.heap.objs.size,_,I.laid (t':=s.toks) (o:=.lst (fW xs lo hi)) (λb ob q=>Heap.get?_push_of_some _ q) (MZ _) ?_,rfl,q _ (I.hok.fresh (MZ _))⟩;exact⟨Nd (Kp xs lo hi) hz,_,0,(r.drop (HT.sIx xs.length 0 lo)).take (HT.sIx xs.length xs.length hi-HT.sIx xs.length 0 lo),Heap.get?_push_size _ rfl⟩
theorem KH:CallR X (.builtin "len") (λxs H Q=>∃p ys,xs=[.ref p]/\(SqL X.K H p ys\/SqT X.K H p ys)/\Q (.int ys.length) H):=by
 intro pins s σ H xs us Q I r h;obtain⟨p,ys,rfl,hq,q⟩:=h;obtain⟨u,rfl,rx⟩:=iN r;cases rx;have hn:=mD;rcases hq with hq |hq
 ·obtain⟨its,r',pl,hz⟩:=I.list hq;have hlen:=r'.length;exact Calls.call_len_list pl.isList (by simp only[Nl]<;>omega) ⟨.int ys.length,H,I.tok _,⟨s.toks+1,by rw[Nl,hlen]⟩,q⟩
 ·obtain⟨its,r',pl,hz⟩:=I.tuple hq;have hlen:=r'.length;exact len_tuple pl (by simp only[Nl]<;>omega) ⟨.int ys.length,H,I.tok _,⟨s.toks+1,by rw[Nl,hlen]⟩,q⟩
theorem CallR.or{f:Value}{r r':List V->Hp->VK->Prop}(h:CallR X f r)(h':CallR X f r'):CallR X f (λxs H Q=>r xs H Q\/r' xs H Q):=by
 intro pins s σ H xs us Q I rs q;rcases q with q |q
 ·exact h pins s σ H xs us Q I rs q
 ·exact h' pins s σ H xs us Q I rs q
theorem KG:CallR X (.type "list") (λxs H Q=>∃p ys,xs=[.ref p]/\(SqL X.K H p ys\/SqT X.K H p ys)/\∀l,H l=none->Q (.ref l) (upd H l (.lst ys))):=by
 intro pins s σ H xs us Q I r h;obtain⟨p,ys,rfl,hq,q⟩:=h;obtain⟨u,rfl,rx⟩:=iN r;cases rx
 have fin:∀(its:List Value),Vals ys its->ys.length<=sizeLine->∀(h':Heap) (c':Nat),(∀b o',s.heap.get? b=some o'->h'.get? b=some o') ->
  h'.get? s.heap.objs.size=some { cls:=.type "list",dict:=none,data:=.seq its.toArray c',slots:=#[] }->EP X pins σ Q (.ref s.heap.objs.size) { s with heap:=h' }:=λits r' hz h' c' kp e =>
  ⟨.ref s.heap.objs.size,_,I.laid (t':=s.toks) kp (MZ _) (show ObjOk X.prog X.w _ h' _ (.lst ys)from⟨hz,its,c',r',e⟩),rfl,q _ (I.hok.fresh (MZ _))⟩
 rcases hq with hq |hq
 ·obtain⟨its,r',pl,hz⟩:=I.list hq;have hlen:=r'.length;obtain⟨o,ho,hc,n,hd⟩:=pl.isList;exact call_list_seq p (.inl rfl) ho hc hd (λh' c' kp e=>fin its r' hz h' c' kp e) (by simp only[Nl]<;>omega)
 ·obtain⟨its,r',pl,hz⟩:=I.tuple hq;have hlen:=r'.length;obtain⟨o,ho,hc,n,hd⟩:=pl;exact call_list_seq p (.inr rfl) ho hc hd (λh' c' kp e=>fin its r' hz h' c' kp e) (by simp only[Nl]<;>omega)
def tyV(K:PySem.W.Frag)(T:String)(x:V)(H:Hp):Prop:=match x with
 |.str _=>T="str"
 |.int _=>T="int"
 |.ref p=>(T="list"/\∃xs,SqL K H p xs)\/(T="tuple"/\∃o,K.lookup p=some o/\o.cls=.type "tuple"/\o.dict=none) \/
  (T="dict"/\((∃kvs,H p=some (.dK kvs))\/∃kvs,H p=some (.dT kvs)))\/(T="set"/\∃S n,H p=some (.set S n))
 |_=>False
theorem wy{pins:List (Addr×Obj)}{σ:St}{H:Hp}{s:Shared}{T:String}{x:V}{v:Value}(I:Inv X pins σ H s)(r:RelV x v)(ty:tyV X.K T x H) :
 s.TypeIs v T/\∀a,v=.ref a->∃ob,s.heap.get? a=some ob/\ob.dict=none:=by
 cases x with
 |str z =>obtain⟨t,rfl⟩:=r;cases(show T="str" from ty);exact⟨typeIs_str s z t,λ_ e=>nomatch e⟩
 |int i =>obtain⟨t,rfl⟩:=r;cases(show T="int" from ty);exact⟨typeIs_int s i t,λ_ e=>nomatch e⟩
 |ref p =>
  cases r;rcases ty with⟨rfl,xs,hq⟩ |⟨rfl,o,hk,hc,hd⟩ |⟨rfl,hk⟩ |⟨rfl,S,n,hk⟩
  ·obtain⟨its,_,pl,_⟩:=I.list hq;refine⟨pl.isList.typeIs,λa e=>?_⟩;cases e;obtain⟨o,n,e,c,hd,_⟩:=pl;exact⟨o,e,hd⟩
  ·refine⟨⟨o,I.kIn p o hk,hc⟩,λa e=>?_⟩;cases e;exact⟨o,I.kIn _ o hk,hd⟩
  ·have z:∃o,s.heap.get? p=some o/\o.ExactDict:=by
    rcases hk with⟨kvs,hk⟩ |⟨kvs,hk⟩
    ·obtain⟨_,_,_,_,o,_,_,e,ex,_⟩:=I.hok p _ hk;exact⟨o,e,ex⟩
    ·obtain⟨_,_,_,_,o,_,_,e,ex,_⟩:=I.hok p _ hk;exact⟨o,e,ex⟩
   obtain⟨o,e,ex⟩:=z;refine⟨⟨o,e,ex.1⟩,λa e2=>?_⟩;cases e2;exact⟨o,e,ex.2.1⟩
  ·obtain⟨o,_,_,_,e,ex,_⟩:=I.hok p _ hk;refine⟨⟨o,e,ex.1⟩,λa e2=>?_⟩;cases e2;exact⟨o,e,ex.2.1⟩
 |_=>exact False.elim ty
def BW(K:PySem.W.Frag)(T:String)(r:V->List V->Hp->VK->Prop)(to:TE):TE:=λσ H Q=>to σ H λx H1=>tyV K T x H1/\r x [] H1 Q
def tBM(K:PySem.W.Frag)(T:String)(r:V->List V->Hp->VK->Prop)(to:TE)(t:TA):TE:=λσ H Q=>to σ H λx H1=>tyV K T x H1/\t σ H1 λxs H2=>r x xs H2 Q
variable {o e:Expr}{es:List Expr}{to:TE}{t:TA}{name:Str}{apos cpos:Pos}{T id:String}{r:V->List V->Hp->VK->Prop}
theorem yj(pa:PlainAttrs T)(slot:Slot T name id)(hty:typeOf (.builtin id)=pure (.type "method_descriptor"))(hm:MtR X id r)(ho:PE X o to)
 (hbase:attributeBase o name X.env (eval o X.env)=eval o X.env:=by rfl) (hline:(apos.endLine == cpos.line)=true:=by rfl):PE X (.Call (.Attribute o name apos) [] [] cpos) (BW X.K T r to):=by
 intro pins s σ H Q I h;refine wpAny_Call_method0_late hbase hline (thn (ho pins s σ H _ I h) λv s1 ⟨x,H1,I1,r1,ty,q1⟩=>?_);obtain⟨h1,h2⟩:=wy I1 r1 ty;exact⟨T,id,pa,slot,hty,h1,h2,Calls.callWith_builtin rfl (PySem.evalArgs_none (hm pins s1 σ H1 x [] v [] Q I1 r1 .nil q1))⟩
theorem lZ(pa:PlainAttrs T)(slot:Slot T name id)(hty:typeOf (.builtin id)=pure (.type "method_descriptor"))(hm:MtR X id r)(ho:PE X o to)(ha:PA X (e::es) t)
 (hbase:attributeBase o name X.env (eval o X.env)=eval o X.env:=by rfl)
 (hfew:((backTo cpos (starEach (e::es) X.env)).all (λx=>!x.1)&&(backToKw cpos (keywordEach [] X.env)).all (λx=>x.1.isSome)
   && decide ((e::es).length+([]:List Keyword).length+(if([]:List Keyword).isEmpty then 0 else 1)<30))=true:=by rfl)
 (hline:(apos.endLine == cpos.line)=true:=by rfl) (hs:starEach (e::es) X.env=(false,eval e X.env)::starEach es X.env:=by rfl) (hplain:(backTo cpos (starEach es X.env)).any (·.1)=false:=by rfl) :
 PE X (.Call (.Attribute o name apos) (e::es) [] cpos) (tBM X.K T r to t):=by
 intro pins s σ H Q I h;refine wpAny_Call_method_late hbase hfew hline rfl (thn (ho pins s σ H _ I h) λv s1 ⟨x,H1,I1,r1,ty,q1⟩=>?_);obtain⟨h1,h2⟩:=wy I1 r1 ty;refine⟨T,id,pa,slot,hty,h1,h2,?_⟩;have hA:=ha cpos pins s1 σ H1 _ I1 q1;rw[hs]at hA ⊢;refine Calls.callWith_builtin (by show(false || (backTo cpos (starEach es X.env)).any (·.1))=false;rw[hplain]<;>rfl) (Calls.evalArgs_plain ?_);exact thn hA λus s2 ⟨vs,H2,I2,r2,q2⟩=>hm pins s2 σ H2 x vs v us Q I2 r1 r2 q2
end
noncomputable def MtM(X:Cx)(id:String)(r:V->List V->Hp->VK->Prop):Prop :=
 ∀(pins:List (Addr×Obj)) (s:Shared) (σ:St) (H:Hp) (x:V) (xs:List V) (v:Value) (us:List Value) (Q:VK),Inv X pins σ H s->RelV x v->Vals xs us->r x xs H Q ->
  wpAny (model X.prog X.w) X.A (call (.builtin id) (v::us)) (EP X pins σ Q) X.xe s
theorem Vals.one:∀{x:V} {us:List Value},Vals [x] us->∃u,us=[u]/\RelV x u
 |_,_,.cons r .nil=>⟨_,rfl,r⟩
theorem Vals.two:∀{x y:V} {us:List Value},Vals [x,y] us->∃u v,us=[u,v]/\RelV x u/\RelV y v
 |_,_,_,.cons r (.cons q .nil)=>⟨_,_,rfl,r,q⟩
theorem Vals.zero:∀{us:List Value},Vals [] us->us=[]
 |_,.nil=>rfl
theorem Vals.dropLast{xs:List V}{us:List Value}(h:Vals xs us):Vals xs.dropLast us.dropLast:=by
 induction h with
 |nil=>exact .nil
 |cons r t ih =>
  cases t with
  |nil=>exact .nil
  |cons q t'=>exact .cons r ih
theorem Vals.eraseIdx:∀{xs:List V} {us:List Value} (i:Nat),Vals xs us->Vals (xs.eraseIdx i) (us.eraseIdx i)
 |_,_,_,.nil=>.nil
 |_,_,0,.cons _ t=>t
 |_,_,i+1,.cons r t=>.cons r (Vals.eraseIdx i t)
theorem Vals.reverse{xs:List V}{us:List Value}(h:Vals xs us):Vals xs.reverse us.reverse:=by
 induction h with
 |nil=>exact .nil
 |cons r t ih=>rw[List.reverse_cons,List.reverse_cons];exact Vals.append ih (.cons r .nil)
theorem Vals.rep{xs:List V}{us:List Value}(h:Vals xs us):∀k:Nat,Vals (List.replicate k xs).flatten (List.replicate k us).flatten
 |0=>.nil
 |k+1=>by rw[Oj,Oj,OP,OP];exact Vals.append h (Vals.rep h k)
theorem Kc{α:Type}(l:List α):l.eraseIdx (l.length-1)=l.dropLast:=by
 induction l with
 |nil=>rfl
 |cons a r ih =>
  cases r with
  |nil=>rfl
  |cons b r =>
   have e:(a::b::r).length-1=((b::r).length-1)+1:=by have h1:(a::b::r).length=r.length+2:=rfl;have h2:(b::r).length=r.length+1:=rfl;omega
   rw[e,List.eraseIdx_cons_succ,ih]
   all_goals rfl
theorem zG(its:List Value):∀(k:Nat) (acc:List Value),
 List.foldl (λx1 x2=>x1++x2) acc.toArray (List.replicate k its.toArray)=(acc++(List.replicate k its).flatten).toArray
 |0,acc=>by simp
 |k+1,acc=>by
  have e:acc.toArray++its.toArray=(acc++its).toArray:=by simp
  have e2:(acc++its)++(List.replicate k its).flatten=acc++(List.replicate (k+1) its).flatten:=by rw[Oj,OP,OQ]
  rw[<- e2,<- zG its k (acc++its),<- e,Oj,List.foldl_cons]
section
variable {X:Cx}{pins:List (Addr×Obj)}{σ:St}{H:Hp}{s:Shared}{l b:Addr}{xs ys zs:List V}
theorem Inv.lset{its its':List Value}{n:Nat}{f:Array Value->Array Value}{t':Nat}(I:Inv X pins σ H s)(hH:H l=some (.lst xs))
 (e:s.heap.get? l=some { cls:=.type "list",data:=.seq its.toArray n }) (hf:f its.toArray=its'.toArray) (hv:Vals ys its') (hz:ys.length<=sizeLine) :
 Inv X pins σ (upd H l (.lst ys)) { s with heap:=s.heap.update l (Obj.mapSeq f),toks:=t' }:=by
 have q:=PySem.IsL.update e f;rw[hf]at q;refine I.write (x:=l) (e:=l) (by rw[hH];exact trivial) (.inl rfl) (λb' u hb hu=>(Heap.get?_update_other s.heap (Obj.mapSeq f) (Ne.symm hb)).trans hu) ⟨_,q⟩ ?_;exact⟨hz,its',_,hv,q⟩
theorem Inv.lnew{its:List Value}{t':Nat}(I:Inv X pins σ H s)(hv:Vals ys its)(hz:ys.length<=sizeLine) :
 Inv X pins σ (upd H s.heap.objs.size (.lst ys)) { s with heap:=s.heap.push { cls:=.type "list",data:=.seq its.toArray },toks:=t' } :=
 I.laid (λ_ _ q=>Heap.get?_push_of_some _ q) (MZ _) ⟨hz,its,0,hv,Heap.get?_push_size _ rfl⟩
theorem Inv.fresh(I:Inv X pins σ H s):H s.heap.objs.size=none:=I.hok.fresh (MZ _)
theorem Inv.lstM(I:Inv X pins σ H s)(hH:H l=some (.lst xs)):xs.length<=sizeLine/\∃(its:List Value) (n:Nat),Vals xs its/\xs.length=its.length/\s.heap.get? l=some { cls:=.type "list",data:=.seq its.toArray n }:=by obtain⟨z,its,n,r,e⟩:=I.hok l _ hH;exact⟨z,its,n,r,r.length,e⟩
theorem FW{n:Nat}(h:n<=sizeLine):Builtin.List.listTooLong n=false:=by unfold Builtin.List.listTooLong;exact decide_eq_false (by omega)
end
section
variable {X:Cx}
noncomputable def DW:V->List V->Hp->VK->Prop:=λx vs H Q=>∃l xs y,x=.ref l/\vs=[y]/\H l=some (.lst xs)/\xs.length<sizeLine/\Q .non (upd H l (.lst (xs++[y])))
theorem mj:MtM X "list.append" DW:=by intro pins s σ H x vs v us Q I rx rv h;obtain⟨l,xs,y,rfl,rfl,hH,hz,q⟩:=h;cases rx;obtain⟨u,rfl,ru⟩:=rv.one;obtain⟨z,its,n,r,hl,e⟩:=I.lstM hH;refine call_meets F.slot_list_append ⟨_,e,rfl⟩ F.entry_list_append (F.args_list_append_2 _ _) (PySem.list_append l its.toArray n u (by rw[Nl];omega)) ⟨e,?_⟩;refine⟨.non,_,I.lset (its':=its++[u]) hH e (by simp) (r.append (.cons ru .nil)) ?_,rfl,q⟩;rw[Nk,List.length_singleton];omega
noncomputable def DS:V->List V->Hp->VK->Prop:=λx vs H Q=>∃l xs y,x=.ref l/\vs=[]/\H l=some (.lst xs)/\xs[xs.length-1]?=some y/\Q y (upd H l (.lst xs.dropLast))
theorem Ge:MtM X "list.pop" DS:=by
 intro pins s σ H x vs v us Q I rx rv h;obtain⟨l,xs,y,rfl,rfl,hH,hy,q⟩:=h;cases rx;have hus:=rv.zero;subst hus;obtain⟨z,its,n,r,hl,e⟩:=I.lstM hH;obtain⟨u,hu,ru⟩:=r.get hy
 have hy':its.toArray[its.toArray.size-1]?=some u:=by show its.toArray[its.length-1]?=some u;rw[<- Array.getElem?_toList,<- hl];exact hu
 refine call_meets F.slot_list_pop ⟨_,e,rfl⟩ F.entry_list_pop (F.args_list_pop_1 _) (MeetsSeq.list_pop_last l its.toArray n u hy' (by rw[Nl];omega)) ⟨e,?_⟩;refine⟨y,_,I.lset (its':=its.dropLast) hH e ?_ r.dropLast ?_,ru,q⟩
 ·show its.toArray.eraseIdxIfInBounds (its.toArray.size-1)=its.dropLast.toArray;rw[Nl,List.eraseIdxIfInBounds_toArray,Kc]
 ·rw[List.length_dropLast];omega
noncomputable def DQ:V->List V->Hp->VK->Prop:=λx vs H Q=>∃l xs,x=.ref l/\vs=[]/\H l=some (.lst xs)/\Q .non (upd H l (.lst xs.reverse))
theorem Gd:MtM X "list.reverse" DQ:=by intro pins s σ H x vs v us Q I rx rv h;obtain⟨l,xs,rfl,rfl,hH,q⟩:=h;cases rx;have hus:=rv.zero;subst hus;obtain⟨z,its,n,r,hl,e⟩:=I.lstM hH;refine call_meets F.slot_list_reverse ⟨_,e,rfl⟩ F.entry_list_reverse (F.args_list_reverse_1 _) (AutoSeq1.list_reverse_list_0 l its.toArray n (by rw[Nl];omega)) ⟨e,?_⟩;refine⟨.non,_,I.lset (its':=its.reverse) hH e (by simp) r.reverse ?_,rfl,q⟩;rw[List.length_reverse];omega
def DR:R2:=λx y H Q=>∃l k xs,x=.ref l/\y=.int k/\H l=some (.lst xs) /\ -(2^63)<=k/\k<2^63/\xs.length*k.toNat<=sizeLine /\
 ∀p,H p=none->Q (.ref p) (upd H p (.lst (List.replicate k.toNat xs).flatten))
theorem Hb{α:Type}(xs:List α)(k:Nat):(List.replicate k xs).flatten.length=k*xs.length:=by
 induction k with
 |zero=>simp
 |succ k ih=>rw[Oj,OP,Nk,ih,Nat.succ_mul,Nat.add_comm]
theorem rN:OpR X (binaryOp .Mult) DR:=by
 intro pins s σ H x y v u Q I rx ry h;obtain⟨l,k,xs,rfl,rfl,hH,h1,h2,hz,q⟩:=h;cases rx;obtain⟨t,rfl⟩:=ry;obtain⟨z,its,n,r,hl,e⟩:=I.lstM hH;have hlen:its.toArray.size*k.toNat<=sizeLine:=by rw[Nl,<- hl];exact hz
 have hcap:¬its.toArray.size*k.toNat>(2^63-1)/8:=by
  have:(sizeLine:Nat)<=(2^63-1)/8:=by decide
  omega
 have hfit:¬(!Builtin.List.listFitsIndex k)=true:=by rw[fitsIndex_both h1 h2];exact NZ
 have hlong:¬Builtin.List.listTooLong (its.toArray.size*k.toNat)=true:=by rw[FW hlen];exact NZ
 have hnew:List.foldl (λx1 x2=>x1++x2) #[] (List.replicate (if its.toArray.isEmpty=true then 0 else k.toNat) its.toArray)=(List.replicate k.toNat its).flatten.toArray:=by
  have f0:∀m:Nat,List.foldl (λx1 x2=>x1++x2) #[] (List.replicate m its.toArray)=(List.replicate m its).flatten.toArray:=λm=>by have:=zG its m [];rw[List.nil_append]at this;exact this
  rw[f0];cases its with
  |nil=>simp
  |cons a r'=>rw[if_neg (by simp)]
 refine wpAny_binaryOp_repeat_ref (T:="list") (U:="int") (by decide) ⟨_,e,rfl⟩ (λs'=>typeIs_int s' k t) noFill_list_mul F.fills_int_mul F.slot_int_rmul repeat_list F.slot_int_index.lookup
  (call_meets F.slot_int_rmul (typeIs_int s k t) F.entry_int_rmul (F.args_int_rmul_2 _ _) (int___rmul___int_list k t l its.toArray n)
    ⟨e,rfl,⟨_,e,rfl⟩,call_meets F.slot_list_mul ⟨_,e,rfl⟩ F.entry_list_mul (F.args_list_mul_2 _ _) (AutoListH.list___mul___list_int_3 l its.toArray n k t hfit hcap hlong) ⟨e,?_⟩⟩)
 rw[hnew];exact⟨.ref _,_,I.lnew (t':=s.toks) (r.rep k.toNat) (by rw[Hb,NW];exact hz),rfl,q _ I.fresh⟩
end
section
variable {prog:Program}{w:World}{A:Around}{E:Value->Shared->Prop}{s:Shared}
end
section
variable {X:Cx}
end
end L2
namespace Att
open PySem PySem.W PySem.Calls PyProof.Rows
theorem Ie{P:Params}{h:Heap}:∀(ns:List Int) (vs:List Value),WellAll P h vs (ns.map WData.int)->IntsAre vs ns:=by
 intro ns
 induction ns with
 |nil =>intro vs w;rw[List.map_nil]at w;cases w;exact .nil
 |cons n ns ih =>
  intro vs w;rw[NQ]at w;cases w with
  |cons a b =>cases a;exact .cons _ _ (ih _ b)
theorem CA{l:OpenLaw}{n:Nat}(hn:l.most=some n){P:Params}{h:Heap}{args:List WData}{vals:List Value}
 (hpre:l.row.toRowW.claim.pre args=true) (hwl:WellAll P h vals args) :
 ∃a vs ns,vals=[Value.ref a]/\args=[WData.list (ns.map WData.int)]/\h.get? a=some { cls:=.type "list",data:=.seq vs.toArray }/\IntsAre vs ns/\ns.length<=n:=by
 have hsh:WShape.hasAll [] args [.list .int]=true:=(pre_splitW hpre).1;have hc:l.pre.holds [] { args:=args }=true:=(pre_splitW hpre).2;obtain⟨d,r,rfl,h1,h2⟩:=hasAllW_cons hsh;obtain rfl:=hasAllW_nil h2;obtain⟨xs,rfl,h3⟩:=hasW_list h1;obtain⟨ns,rfl⟩:=items_int h3
 have hlen:ns.length<=n:=by
  unfold OpenLaw.pre at hc
  have h4:(WTm.not (.lt (.lit (.int (n:Int))) (.len (.arg 0)))).holds [] { args:=[.list (ns.map .int)] }=true:=by have h4:=(holds_andW hc).1;rw[hn]at h4;exact h4
  have h5:=condW_of h4 (w_not (w_lt w_lit (w_len_list (w_arg rfl))));rw[MY]at h5;refine N2 λq=>?_
  have q':(n:Int)<((ns.length:Nat):Int):=by omega
  first
   | (rw[decide_eq_true q']at h5;exact absurd h5 (by decide))
   | (simp at h5;omega)
 cases hwl with
 |cons w1 w2 =>
  cases w2;cases w1 with
  |list ho hall=>exact⟨_,_,ns,rfl,rfl,ho,Ie ns _ hall,hlen⟩
theorem Ea(l:OpenLaw)(args:List WData):l.row.toRowW.claim.post args (.bool true) args=true :=
 postW_of (r:=l.row.toRowW) (X:=(true == true))
  (show WShape.has [] (.bool true) .bool=true by first |rfl |decide |simp[WShape.has,WShape.arms,WShape.armsAll])
  (show(WTm.eq .res (.lit (.bool true))).value [] { args:=args,res:=some (.bool true),after:=args }=some (.bool (true == true))from w_eq_bool (w_res rfl) w_lit) rfl
theorem attach_call{l:OpenLaw}{n:Nat}{q:Program}{loose:List Str}{XP:(Str->Option Value)->Heap->Prop}{YP:World->Heap->Prop}{d:DefRec}
 (hn:l.most=some n) (hdf:d.params.defaults=[])
 (call:∀(w:World) (s₀ s₁:Shared) (mg mb:Str->Option Value) (fa:Addr) (o:Obj) (pm cd doc:Value) (a:Addr) (vs:List Value) (ns:List Int),
   Ground q loose [] XP w s₀ mg mb s₁.heap->YP w s₁.heap ->
   s₁.heap.get? fa=some o->o.data=.func (docDef d.name d.params d.body d.scope pm cd doc)->s₁.heap.CodeRec cd d.name->mg d.name=some (.ref fa) ->
   s₁.heap.get? a=some { cls:=.type "list",data:=.seq vs.toArray }->IntsAre vs ns->ns.length<=n->s₁.gens=#[] ->
   codeAny (model l.prog w) callerA (.call (.ref fa) ⟨[.ref a],[]⟩) (λr s'=>r=.ok (.ret (.bool true))/\OldK s₁.heap s'.heap/\s'.os=s₁.os/\AllBare s'.gens) s₁) :
 WalkO q loose XP YP l.row.toRowW d [] (λf vs=>PySem.call f vs):=by
 intro w s₀ s₁ mg mb G Y fa o pm cd doc dV kV ho hd hcd hD hmg hg args vals as hpre hlay hrd hwl hlo;obtain rfl:dV=.none:=Dflts.none hD hdf;obtain rfl:kV=.none:=Dflts.noKw hD;obtain⟨a,vs,ns,rfl,rfl,hobj,hints,hlen⟩:=CA hn hpre hwl;refine enter_call (codeAny_mono (call w s₀ s₁ mg mb fa o pm cd doc a vs ns G Y ho (fd_plain hd) hcd hmg hobj hints hlen hg) λr s' hq=>?_);obtain⟨rfl,h2,h3,h4⟩:=hq;exact⟨.inl ⟨.bool true,.bool true,[],rfl,λ_=>rfl,.bool true,Ea l _,λ_=>⟨List.Pairwise.nil,λ_ hm=>(nomatch hm)⟩⟩,h2,h3,h4⟩
section
variable {prog:Program}{w:World}{A:Around}{E:Value->Shared->Prop}{s:Shared}{K:Frag}
end
end Att
namespace L2
open PySem PySem.Spec PyProof.Rows
theorem wv:∀{vs:List Value} {ns:List Int},IntsAre vs ns->Vals (ns.map V.int) vs
 |_,_,.nil=>.nil
 |_,_,.cons n t h=>.cons ⟨t,rfl⟩ (wv h)
def vC(H:Hp):Prop:=∀b,H b=none\/∃o xs,H b=some (.frz o (.lst xs))
noncomputable def fu(s:Stmt)(j:Nat):Stmt:=match s with
 |.ClassDef _ _ _ body _ _ _ _ _ _ _=>body.getD j (.Pass ⟨0,0,0,0⟩)
 |_=>.Pass ⟨0,0,0,0⟩
noncomputable def aB(s:Stmt):Arguments:=match s with
 |.FunctionDef _ a _ _ _ _ _ _ _ _=>a
 |_=>{ posonlyargs:=[],args:=[],vararg:=none,kwonlyargs:=[],kw_defaults:=[],kwarg:=none,defaults:=[] }
noncomputable def aA(s:Stmt):List Stmt:=match s with
 |.FunctionDef _ _ b _ _ _ _ _ _ _=>b
 |_=>[]
noncomputable def ag(s:Stmt):Scope:=match s with
 |.FunctionDef _ _ _ _ _ _ sc _ _ _=>sc
 |_=>{ kind:=.function,names:=[],isGenerator:=false,isCoroutine:=false }
abbrev CX0:CXT:=λ_ _ _ _ _ _=>False
abbrev E0:XK:=λ_ _ _=>False
theorem ah{X:Cx}:fB CX0 X E0:=λ_ _ _ _ _ _ _ h=>h.elim
structure Fun(K:PySem.W.Frag)(x qual:Str)(st:Stmt)(f:Addr)(fd:FuncData):Prop where
 ex:∃(oc:Value) (od:Option Addr) (kV doc pm:Value) (an:Option Addr) (cdv ct:Value) (osl:Array (Option Value)),
  fd=PySem.W.fnOf x qual (aB st) (aA st) (ag st) .none kV doc pm an cdv ct/\K.lookup f=some ⟨oc,od,.func fd,osl⟩/\PySem.W.codeIn K cdv qual=true
 kp:PySem.W.keepIn K (.ref f)=true
section
variable {P:Program}{w:World}{K:PySem.W.Frag}{mg:Str->Option Value}{base:Heap}
theorem Fun.ok{x qual:Str}{st:Stmt}{f:Addr}{fd:FuncData}{N ps:List Str}{k:Nat}{sp:Sp}(F:Fun K x qual st f fd)(S:FnScope N ps (ag st))(len:∀vs H Q E,sp vs H Q E->vs.length=ps.length)
 (hbody:∀(cdv:Value) (A:Around) (outer:List Env) (s:Shared) (H:Hp) (vs:List V) (Q:VK) (E:XK),Room k (A.deeper (envOfC qual (ag st) s.heap.objs.size f cdv))->sp vs H Q E ->
   ∃t,PSs (bv CX0 P w K mg base N qual (ag st) f cdv A outer s H E).nox (aA st) t/\t { nx:=λ_ H'=>Q .non H',rt:=Q } (start N vs) H):FnOk P w K mg base CX0 (k+1) f fd ps sp:=by
 obtain⟨oc,od,kV,doc,pm,an,cdv,ct,osl,rfl,lk,hcd⟩:=F.ex;refine pZ lk hcd S len λA outer s H vs Q E hr hsp=>?_
 obtain⟨t,h,q⟩:=hbody cdv A outer s H vs Q E hr hsp;exact⟨t,h.nox,q⟩
theorem Fun.binds{x qual:Str}{st:Stmt}{f:Addr}{fd:FuncData}{ps:List Str}(F:Fun K x qual st f fd)
 (h:∀(kV doc pm:Value) (an:Option Addr) (cdv ct:Value) (us:List Value),us.length=ps.length->bindArgs (PySem.W.fnOf x qual (aB st) (aA st) (ag st) .none kV doc pm an cdv ct) ⟨us,[]⟩=pure (ps.zip us)):Binds K fd ps []:=by
 obtain⟨oc,od,kV,doc,pm,an,cdv,ct,osl,rfl,lk,hcd⟩:=F.ex;exact .all (h kV doc pm an cdv ct)
theorem aE{x qual:Str}{st:Stmt}{f:Addr}{oc:Value}{od an:Option Addr}{osl:Array (Option Value)}{kV doc pm cdv ct:Value}(l:K.lookup f=some ⟨oc,od,.func (PySem.W.fnOf x qual (aB st) (aA st) (ag st) .none kV doc pm an cdv ct),osl⟩)
 (c:PySem.W.codeIn K cdv qual=true) (k:PySem.W.keepIn K (.ref f)=true):Fun K x qual st f (PySem.W.fnOf x qual (aB st) (aA st) (ag st) .none kV doc pm an cdv ct):=⟨⟨oc,od,kV,doc,pm,an,cdv,ct,osl,rfl,l,c⟩,k⟩
end
section
variable {X:Cx}
theorem pv(i:Nat){x:Str}{pos:Pos}(hN:X.N[i]?=some x:=by rfl)(hv:Vis X.env.scope x:=by first |exact Or.inl rfl |exact Or.inr (Or.inl rfl) |exact Or.inr (Or.inr rfl))(hd:(x == ("__debug__":Str))=false:=by decide)
 (hcd:(x == ("__classdict__":Str))=false:=by decide):PE X (.Name x pos) (wD i):=Ej hN hv hd hcd
end
def Same(H H':Hp):Prop:=∀b o,H b=some o->H' b=some o
theorem Same.refl(H:Hp):Same H H:=λ_ _ h=>h
theorem Same.trans{H H1 H2:Hp}(a:Same H H1)(b:Same H1 H2):Same H H2:=λc o h=>b c o (a c o h)
theorem Same.free{H H':Hp}(e:Same H H'){l:Addr}(h:H' l=Option.none):H l=Option.none:=by
 cases q:H l with
 |none=>rfl
 |some o =>rw[e l o q]at h;cases h
theorem Same.seq{K:PySem.W.Frag}{H H':Hp}{a:Addr}{xs:List V}(e:Same H H')(h:SqL K H a xs):SqL K H' a xs:=by
 rcases h with(h |⟨o,h⟩) |h
 ·exact .inl (.inl (e _ _ h))
 ·exact .inl (.inr ⟨o,e _ _ h⟩)
 ·exact .inr h
end L2
set_option maxHeartbeats 4000000
namespace L2
open PySem PySem.Spec PyProof.Rows
noncomputable def eJ(X:Cx)(N:List Str)(scope:Scope)(cl:List (Str×Addr))(C:Addr)(s₀:Shared)(H₀:Hp)(ex:List Addr):Cx where
 prog:=X.prog
 w:=X.w
 K:=X.K
 mg:=X.mg
 base:=X.base
 A:=X.A
 N:=N
 s₀:=s₀
 H₀:=H₀
 env:=compEnvC scope cl C X.env
 outer:=X.stack
 stack:=X.stack
 ex:=ex
 fn:=λ_=>false
 calm:=X.calm
 pn:=[]
 xe:=λ_ _=>False
structure CompOk(X:Cx)(fr:List Str)(js:List Nat)(scope:Scope)(cl:List (Str×Addr)):Prop where
 clos:closureFor scope X.env=pure cl
 cell:∀y∈scope.names,y.2≠.cell
 kind:scope.kind=.function
 names:∀y∈scope.names,y.2=.local->scope.names.lookup y.1=some .local
 clin:∀p∈cl,X.env.cells.lookup p.1=some p.2
 has:scope.names.all (λp=>p.2 != .free || (cl.lookup p.1).isSome)=true
 fre:Paired (λ(x:Str) (j:Nat)=>X.N[j]?=some x/\(X.env.scope.names.lookup x=some .cell\/X.env.scope.names.lookup x=some .free)/\scope.names.lookup x=some .free) fr js
theorem re{env:Env}{x:Str}{k':NameKind}:∀{names:List (Str×NameKind)},
 (names.map λ(n,k)=>if(k == NameKind.free&&env.scope.kind == .function&&env.kindOf n == some .cell)then(n,NameKind.cell)else(n,k)).lookup x=some k' ->
 ∃k,names.lookup x=some k/\(k'=k\/(k=.free/\k'=.cell))
 | [],h=>by simp at h
 | (n,k)::r,h=>by
  have ih:=@re env x k' r;change List.lookup x ((if(k == NameKind.free&&env.scope.kind == .function&&env.kindOf n == some .cell)=true then(n,NameKind.cell)else(n,k))::_)=_ at h
  by_cases hc:(k == NameKind.free&&env.scope.kind == .function&&env.kindOf n == some .cell)=true
  ·rw[if_pos hc]at h;cases hx:x == n with
   |true =>simp only[Ol,hx]at h ⊢;cases h;refine⟨k,rfl,.inr ⟨?_,rfl⟩⟩;simp only[Bool.and_eq_true,beq_iff_eq]at hc;exact hc.1.1
   |false =>simp only[Ol,hx]at h ⊢;exact ih h
  ·rw[if_neg hc]at h;cases hx:x == n with
   |true =>simp only[Ol,hx]at h ⊢;cases h;exact⟨_,rfl,.inl rfl⟩
   |false =>simp only[Ol,hx]at h ⊢;exact ih h
theorem xN{env:Env}{x:Str}:∀{names:List (Str×NameKind)},names.lookup x=some .free ->
 (names.map λ(n,k)=>if(k == NameKind.free&&env.scope.kind == .function&&env.kindOf n == some .cell)then(n,NameKind.cell)else(n,k)).lookup x=some .cell \/
 (names.map λ(n,k)=>if(k == NameKind.free&&env.scope.kind == .function&&env.kindOf n == some .cell)then(n,NameKind.cell)else(n,k)).lookup x=some .free
 | [],h=>by simp at h
 | (n,k)::r,h=>by
  have ih:=@xN env x r;show List.lookup x ((if(k == NameKind.free&&env.scope.kind == .function&&env.kindOf n == some .cell)=true then(n,NameKind.cell)else(n,k))::_)=_\/List.lookup x ((if(k == NameKind.free&&env.scope.kind == .function&&env.kindOf n == some .cell)=true then(n,NameKind.cell)else(n,k))::_)=_;by_cases hc:(k == NameKind.free&&env.scope.kind == .function&&env.kindOf n == some .cell)=true
  ·rw[if_pos hc];cases hx:x == n with
   |true=>simp only[Ol,hx];exact .inl trivial
   |false=>simp only[Ol,hx]at h ⊢;exact ih h
  ·rw[if_neg hc];cases hx:x == n with
   |true =>simp only[Ol,hx]at h ⊢;cases h;exact .inr rfl
   |false=>simp only[Ol,hx]at h ⊢;exact ih h
noncomputable def gZ(n:Nat)(js:List Nat)(σ:St):St:=List.replicate n none++js.map λj=>(σ[j]?).join
def vV(n:Nat)(js:List Nat)(g:TG)(te:TE)(σ:St)(Q:VK)(J:It)(H1:Hp):Prop:=∃W:Nat->Nat->List V->St->Hp->Prop,(∃m,W 0 m [] (gZ n js σ) H1) /\
 ∀i m ys σ' H',W i m ys σ' H' ->
  (J.stop i H'/\∀p,H' p=none->Q (.ref p) (upd H' p (.lst ys))) \/
  (J.go i H'/\ys.length<sizeLine/\∃N:V->St->Hp->Prop,(∀y σ'' H'',N y σ'' H''->∃m',m'<m/\W (i+1) m' (ys++[y]) σ'' H'')/\∀x H2,J.yld i H' x H2->g x σ' H2 λσ3 H3=>te σ3 H3 λy H4=>N y σ3 H4)
def wM(n:Nat)(js:List Nat)(wi:TI)(g:TG)(te:TE):TE:=λσ H Q=>wi σ H λJ H1=>vV n js g te σ Q J H1
noncomputable def Mh(X:Cx)(pins:List (Addr×Obj))(σ:St)(Q:VK)(D C:Addr)(s':Shared):Prop :=
 ∃H2,Inv X pins σ H2 s'/\Q (.ref D) H2/\H2 C=none/\C≠X.env.locals/\X.s₀.heap.objs.size<=C/\(∀x c,X.env.cells.lookup x=some c->c≠C)/\(∀p∈X.pn++pins,p.1≠C)/\∃m,s'.heap.Ns C m
section
variable {X:Cx}{own fr:List Str}{js:List Nat}{scope:Scope}{cl:List (Str×Addr)}{elt target iter:Expr}{pos:Pos}{wi:TI}{g:TG}{te:TE}
theorem fZ(O:CompOk X fr js scope cl){x:Str}{c:Addr}(e:cl.lookup x=some c):X.env.cells.lookup x=some c:=O.clin (x,c) (PySem.mem_of_lookup e)
theorem Ae{pins:List (Addr×Obj)}{σ:St}{H:Hp}{s:Shared}{fp:List Addr}{C:Addr}(O:CompOk X fr js scope cl)(I:Inv X pins σ H s)(hC:s.heap.objs.size<=C)(hf:∀b∈fp,eK X pins H b)(ho:∀b∈fp,b<s.heap.objs.size) :
 (eJ X (own++fr) scope cl C s H fp).Ok:=by
 refine⟨I.ok.mod,O.kind,I.ok.glob,I.ok.blt,hC,λx y c h1 h2=>I.ok.inj x y c (fZ O h1) (fZ O h2),λx hx=>?_,λx c h=>(by cases h),I.ok.hd,I.ok.frames,.inl rfl,λb hb=>?_,I.bs,?_,λb o e hb=>?_,λb hb hb'=>?_,I.stack,I.stkFree⟩
 ·have key:scope.names.lookup x=some .free:=by
   have hx':(scope.names.map λ(n,k)=>if(k == NameKind.free&&X.env.scope.kind == .function&&X.env.kindOf n == some .cell)then(n,NameKind.cell)else(n,k)).lookup x=some .cell \/
    (scope.names.map λ(n,k)=>if(k == NameKind.free&&X.env.scope.kind == .function&&X.env.kindOf n == some .cell)then(n,NameKind.cell)else(n,k)).lookup x=some .free:=hx
   rcases hx' with h |h
   ·obtain⟨k,e,z⟩:=re h;rcases z with z |⟨z,_⟩
    ·subst z;exact absurd rfl (O.cell _ (PySem.mem_of_lookup e))
    ·subst z;exact e
   ·obtain⟨k,e,z⟩:=re h;rcases z with z |⟨_,z⟩
    ·subst z;exact e
    ·cases z
  have hm:=List.all_eq_true.mp O.has _ (PySem.mem_of_lookup key);have hs:(cl.lookup x).isSome=true:=by simpa using hm
  exact OO.mp hs
 ·obtain⟨f0,f1,f2,f3,f4,f5⟩:=hf b hb;exact⟨Ng (Nn (ho b hb) hC),λx c e=>f4 x c (fZ O e)⟩
 ·exact Nd I.ok.bsz I.sz
 ·obtain⟨f0,f1,f2,f3,f4,f5⟩:=hf b hb;rcases f3 with z |z
  ·exact I.ok.noex b o e z
  ·exact absurd (Nn (Heap.lt_size e) (Nd I.ok.bsz z)) (ND _)
 ·obtain⟨f0,f1,f2,f3,f4,f5⟩:=hf b hb;rcases Na.mp (I.stkSub b hb')with z |z
  ·exact f1 z
  ·exact f2 z
theorem Paired.idx{α β:Type}{F:α->β->Prop}:∀{l₁:List α} {l₂:List β},Paired F l₁ l₂->∀(i:Nat) (a:α) (b:β),l₁[i]?=some a->l₂[i]?=some b->F a b
 |_,_,.nil,_,_,_,h,_=>by simp at h
 |_,_,.cons r _,0,a,b,h1,h2=>by simp at h1 h2;subst h1;subst h2;exact r
 |_,_,.cons _ t,i+1,a,b,h1,h2=>Paired.idx t i a b (by simpa using h1) (by simpa using h2)
theorem Ko{pins:List (Addr×Obj)}{σ:St}{H:Hp}{s s':Shared}{fp:List Addr}{C:Addr}{m:Str->Option Value}(O:CompOk X fr js scope cl)(hl:fr.length=js.length)(I:Inv X pins σ H s)(hC:s.heap.objs.size<=C)(hf:∀b∈fp,eK X pins H b)
 (ho:∀b∈fp,b<s.heap.objs.size) (os:s'.os=s.os) (hg:s'.gens=s.gens) (old:∀b o,s.heap.get? b=some o->s'.heap.get? b=some o) (hn:s'.heap.Ns C m) :
 Inv (eJ X (own++fr) scope cl C s H fp) [] (gZ own.length js σ) H s':=by
 refine⟨Ae O I hC hf ho,os,by rw[hg];exact I.bare,Un.kept old,⟨m,hn,λi x v e1 e2 e3=>?_⟩,λx c e=>?_,I.hok.fresh hC,λx c e=>I.freeC x c (fZ O e),λp hp=>absurd (show p∈([]:List (Addr×Obj))from hp) (by simp),I.hok.kept old,?_⟩
 ·unfold gZ at e2
  have e1':(own++fr)[i]?=some x:=e1;by_cases hi:i<own.length
  ·rw[List.getElem?_append_left (by simpa using hi),List.getElem?_replicate]at e2;split at e2<;>cases e2
  ·have hi':own.length<=i:=N2 hi;rw[List.getElem?_append_right (by simpa using hi'),O6,List.getElem?_map]at e2;rw[List.getElem?_append_right hi']at e1';cases ej:js[i-own.length]? with
   |none=>rw[ej]at e2;cases e2
   |some j =>
    rw[ej]at e2;have e2':(σ[j]?).join=some v:=Option.some.inj e2
    have eσ:σ[j]?=some (some v):=by
     cases q:σ[j]? with
     |none=>rw[q]at e2';cases e2'
     |some o=>rw[q]at e2';simp at e2';rw[e2']
    obtain⟨hN,hk,hs⟩:=Paired.idx O.fre _ x j e1' ej;obtain⟨mo,hmo,hlo⟩:=I.loc;have vis:Vis X.env.scope x:=hk.elim (λz=>.inr (.inl z)) λz=>.inr (.inr z)
    obtain⟨u,r,l⟩:=hlo j x v hN eσ vis;refine⟨u,r,.inr ⟨xN hs,?_⟩⟩;have hm:=List.all_eq_true.mp O.has _ (PySem.mem_of_lookup hs);have hs':(cl.lookup x).isSome=true:=by simpa using hm
    obtain⟨c,ec⟩:=OO.mp hs';refine⟨c,ec,?_⟩;rcases l with⟨k,_⟩ |⟨_,c',e',z⟩
    ·have k':X.env.scope.names.lookup x=some .local:=k;rcases hk with q |q<;>(rw[q]at k';cases k')
    ·have:=fZ O ec;rw[e']at this;cases this;obtain⟨oc,hoc,hd⟩:=z;exact⟨oc,old _ _ hoc,hd⟩
 ·obtain⟨v,oc,hoc,hd⟩:=I.cell x c (fZ O e);exact⟨v,oc,old _ _ hoc,hd⟩
 ·unfold gZ;show _=(own++fr).length;rw[Nk,Nk,O6,MY,hl]
theorem Un.adopt{fs ex:List Addr}{H H1:Hp}{h h1:Heap}{a:Addr}{o:HO}(u:Un fs ex H H1 h h1)(ha:h.objs.size<=a)(hn:H a=none):Un fs ex H (upd H1 a o) h h1 where
 keep:=u.keep
 slot:=u.slot
 free:=λb ob q n hx=>by rw[upd_ne (Ng (Nn (Heap.lt_size q) ha))];exact u.free b ob q n hx
 there:=u.there
 tups:=λb xs q=>by rw[upd_ne (aQ q hn)];exact u.tups b xs q
 frzs:=λb ob xs q=>by rw[upd_ne (aQ q hn)];exact u.frzs b ob xs q
 tbls:=λb ps q=>by rw[upd_ne (aQ q hn)];exact u.tbls b ps q
theorem HOk.adopt{P:Program}{w:World}{H:Hp}{h:Heap}{a:Addr}{o:HO}(x:HOk P w H h)(hn:H a=none)(new:ObjOk P w (upd H a o) h a o):HOk P w (upd H a o) h:=λb u e=>by
 by_cases hb:b=a
 ·subst hb;rw[ao]at e;cases e;exact new
 ·rw[upd_ne hb]at e;exact(x b u e).stay (λc v _ q=>q) (λc q=>by rw[upd_ne (aQ q hn)];exact q) λc xs q=>by rw[upd_ne (aQ q hn)];exact q
theorem Ai{pins:List (Addr×Obj)}{σ:St}{H:Hp}{s:Shared}{fp:List Addr}{it:Addr}{tn:Nat->Heap->Prop}{J:It}{E:Value->Shared->Prop}{Q:VK}{RR:Value->Addr->Result->Shared->Prop}(O:CompOk X fr js scope cl)(hl:fr.length=js.length)(hcm:X.calm=true)
 (I:Inv X pins σ H s) (T:Turn X.prog X.w X.K target J fp it tn) (st:tn 0 s.heap) (hf:∀b∈fp,eK X pins H b)
 (hg:∀C s₀ H₀ ex,PG (eJ X (own++fr) scope cl C s₀ H₀ ex) target g) (he:∀C s₀ H₀ ex,PE (eJ X (own++fr) scope cl C s₀ H₀ ex) elt te)
 (W:Nat->Nat->List V->St->Hp->Prop) {m0:Nat} (w0:W 0 m0 [] (gZ own.length js σ) H)
 (turn:∀i m ys σ' H',W i m ys σ' H' ->
   (J.stop i H'/\∀p,H' p=none->Q (.ref p) (upd H' p (.lst ys))) \/
   (J.go i H'/\ys.length<sizeLine/\∃N:V->St->Hp->Prop,(∀y σ'' H'',N y σ'' H''->∃m',m'<m/\W (i+1) m' (ys++[y]) σ'' H'')/\∀x H2,J.yld i H' x H2->g x σ' H2 λσ3 H3=>te σ3 H3 λy H4=>N y σ3 H4))
 (hRR:∀D C s',Mh X pins σ Q D C s'->RR (.ref D) C (.ok .next) s') :
 wpAny (model X.prog X.w) X.A (newList []) (λacc s₃=>wpAny (model X.prog X.w) X.A (newFunctionEnv scope X.env.globals cl [] X.env.qual none .none (some X.env)) (λcenv s₄ =>
  codeAny (model X.prog X.w) X.A (.compStart (.ListComp elt [⟨target,iter,[],0⟩] scope pos) 0 (.ref it) acc { cenv with scope:=relabel scope X.env }) (RR acc cenv.locals) s₄) E s₃) E s:=by
 refine wpAny_newObj_type (wpAny_newFunctionEnv O.cell (by intro y hy;simp at hy) (λh₁ hns₁ hsb₁=>?_) O.kind);dsimp only at hns₁ hsb₁ ⊢
 generalize hH2:s.heap.push { cls:=.type "list",dict:=none,data:=.seq ([]:List Value).toArray }=H2 at hns₁ hsb₁ ⊢
 have hCs:H2.objs.size=s.heap.objs.size+1:=by rw[<- hH2,Heap.size_push]
 have hDC:s.heap.objs.size≠H2.objs.size:=by rw[hCs];exact Ng (N0 _)
 have hCge:s.heap.objs.size<=H2.objs.size:=by rw[hCs];exact Nat.le_succ _
 have below:∀b,b<s.heap.objs.size->b≠H2.objs.size/\b≠s.heap.objs.size:=λb hb=>⟨by rw[hCs];exact Ng (Nat.lt_succ_of_lt hb),Ng hb⟩
 have old:∀b o,s.heap.get? b=some o->h₁.get? b=some o:=λb o e=>hsb₁.extBut b o (below b (Heap.lt_size e)).1 (Heap.get?_push_of_some _ (hH2 ▸ Heap.get?_push_of_some _ e))
 have hacc:h₁.get? s.heap.objs.size=some { cls:=.type "list",data:=.seq ([]:List Value).toArray 0 }:=hsb₁.extBut _ _ hDC (Heap.get?_push_of_some _ (hH2 ▸ Heap.get?_push_size _ rfl));have ho:∀b∈fp,b<s.heap.objs.size:=λb hb=>by obtain⟨o,e,_⟩:=T.obj 0 _ st b hb;exact Heap.lt_size e
 generalize hDe:s.heap.objs.size=D at *
 generalize hCe:H2.objs.size=C at *
 let X':Cx:=eJ X (own++fr) scope cl C s H fp
 have ok':X'.Ok:=Ae O I (by rw[hDe];exact hCge) hf (by rw[hDe];exact ho)
 have hDfs:D∉X'.fs:=by
  intro z;rcases Na.mp (I.stkSub D z)with q |q
  ·exact absurd I.lt (by rw[<- q,hDe];exact ND _)
  ·exact I.nofs (Oh hDe) q
 have hDfp:∀b∈fp,D≠b:=λb hb z=>absurd (ho b hb) (by rw[z];exact ND _)
 have hDcell:∀x c,cl.lookup x=some c->c≠D:=λx c e z=>by obtain⟨v,q⟩:=I.cell x c (fZ O e);exact absurd q.lt (by rw[z,hDe];exact ND _)
 have fpok:∀{H':Hp} {pins':List (Addr×Obj)},(∀p∈pins',p.1=D)->(∀b∈fp,H' b=none)->∀b∈fp,eK X' pins' H' b:=λ{H' pins'} hp hn b hb=>by
  obtain⟨f0,f1,f2,f3,f4,f5⟩:=hf b hb;refine⟨hn b hb,(below b (ho b hb)).1,λz=>?_,.inl hb,λx c e=>f4 x c (fZ O e),λp hp'=>?_⟩
  ·rcases Na.mp (I.stkSub b z)with q |q
   ·exact f1 q
   ·exact f2 q
  ·have hp'':p∈pins':=by simpa[X',eJ]using hp'
   rw[hp p hp''];exact hDfp b hb
 have loop:∀s₃:Shared,s₃={ s with heap:=h₁,toks:=s.toks+([]:List (Str×Value)).length } ->
  codeAny (model X.prog X.w) X.A (.compLoop (.ListComp elt [⟨target,iter,[],0⟩] scope pos) 0 (.ref it) (.ref D) (compEnvC scope cl C X.env)) (RR (.ref D) C) s₃:=by
  rintro s₃ rfl
  refine PySem.W.kcp_loop (λk s'=>∃i σ' H' ys its nn,Inv X' [] σ' H' s'/\tn i s'.heap/\(∀b∈fp,H' b=none)/\H' D=none/\s'.heap.get? D=some { cls:=.type "list",data:=.seq (its:List Value).toArray nn }/\Vals ys its/\ys.length<=sizeLine/\W i k ys σ' H') ?_ m0
   ⟨0,_,H,[],[],0,Ko O hl I (by rw[hDe];exact hCge) hf (by rw[hDe];exact ho) rfl rfl (by intro b o e;exact old b o e) hns₁,T.keep _ _ _ st λb _ o e=>old b o e,λb hb=>(hf b hb).1,I.hok.fresh (Oh hDe),hacc,.nil,M9 _,w0⟩
  rintro k s' ⟨i,σ',H',ys,its,nn,I',st',hfn,hDn,hDo,rv,hz,w⟩;have hlen:=rv.length;have hpD:∀p∈[(D,({ cls:=.type "list",data:=.seq its.toArray nn }:Obj))],p.1=D:=λp hp=>by rw[Nb.mp hp]
  have Ip:Inv X' [(D,({ cls:=.type "list",data:=.seq its.toArray nn }:Obj))] σ' H' s':=I'.pins_of λp hp=>by rw[Nb.mp hp];exact⟨hDo,hDn,hDC,hDfs,λv z=>by cases z⟩
  rcases turn i k ys σ' H' w with⟨stop,fin⟩ |⟨go,hlt,N,hN,step⟩
  ·refine wpAny_mono (T.done X' rfl rfl rfl hcm i _ s' σ' H' (λ_ _=>False) Ip (fpok hpD hfn) st' stop) (λr s4 ⟨hr,I4⟩=>?_) λ_ _ z=>False.elim z
   subst hr;refine hRR D C s4 ?_;have hD4:s4.heap.get? D=some { cls:=.type "list",data:=.seq its.toArray nn }:=(I4.pin _ (NE _ (Nb.mpr rfl))).1;have un:Un (frs X.stack) fp H (upd H' D (.lst ys)) s.heap s4.heap:=Un.adopt I4.base (Oh hDe) (I.hok.fresh (Oh hDe));have hok:HOk X.prog X.w (upd H' D (.lst ys)) s4.heap:=HOk.adopt I4.hok hDn ⟨hz,its,nn,rv,hD4⟩;refine⟨upd H' D (.lst ys),I.call' I4.os un hok I4.bare λb hb=>?_,fin D hDn,?_,?_,?_,λx c e z=>?_,λp hp z=>?_,?_⟩
   ·obtain⟨f0,f1,f2,f3,f4,f5⟩:=hf b hb;exact⟨f3,f1,f4,f5⟩
   ·rw[upd_ne (Ne.symm hDC)];exact I4.free
   ·exact Nat.ne_of_gt (Nn I.lt (by rw[hDe];exact hCge))
   ·exact Nd I.sz (by rw[hDe];exact hCge)
   ·obtain⟨v,q⟩:=I.cell x c e;exact absurd (Nn q.lt (by rw[hDe,z];exact hCge)) (ND _)
   ·exact absurd (Nn (Heap.lt_size (I.pin p hp).1) (by rw[hDe,z];exact hCge)) (ND _)
   ·obtain⟨m',hn',_⟩:=I4.loc;exact⟨m',hn'⟩
  ·refine wpAny_mono (T.item X' rfl rfl rfl hcm i _ s' σ' H' (λ_ _=>False) Ip (fpok hpD hfn) st' go) (λr s4 ⟨u,hr,h4⟩=>?_) λ_ _ z=>False.elim z
   subst hr;refine wpAny_mono h4 (λ_ s5 ⟨x,H5,I5,r5,y5,st5,fr5⟩=>?_) λ_ _ z=>False.elim z
   have I5':=I5.pinned (fpok hpD fr5) (T.obj _ _ st5);refine wpAny_mono (hg C s H fp _ s5 σ' H5 x u _ I5' r5 (step x H5 y5)) (λ_ s6 ⟨σ6,H6,I6,q6⟩=>?_) λ_ _ z=>False.elim z
   refine wpAny_mono (he C s H fp _ s6 σ6 H6 _ I6 q6) (λv s7 ⟨y,H7,I7,r7,n7⟩=>?_) λ_ _ z=>False.elim z
   obtain⟨m',hm',w7⟩:=hN y σ6 H7 n7;have hD7:=I7.pin (D,{ cls:=.type "list",data:=.seq its.toArray nn }) (NE _ (Ov _ (Nb.mpr rfl)));refine append_at hD7.1 (λh8 sb hD8=>?_) (by rw[Nl,<- hlen];exact hz);have I7':Inv X' [] σ6 H7 s7:=I7.pins_of λp hp=>absurd hp (by simp)
   have I8:Inv X' [] σ6 H7 { s7 with heap:=h8 }:=I7'.turned (t':=s7.toks) (it:=D) (λb o hb e=>(sb.2 b hb).trans e) hD7.2.1 hDC (.inr (Oh hDe)) hDcell (λp hp=>absurd (show p∈([]:List (Addr×Obj))from hp) (by simp));refine⟨m',hm',i+1,σ6,H7,ys++[y],its++[v],nn+1,I8,T.keep _ _ _ st5 λb hb o e=>?_,λb hb=>?_,hD7.2.1,?_,rv.append (.cons r7 .nil),?_,w7⟩
   ·exact(sb.2 b (λz=>hDfp b hb z.symm)).trans (I7.pin (b,o) (NE _ (NE _ (pG hb e)))).1
   ·obtain⟨o,e,d⟩:=T.obj _ _ st5 b hb;exact(I7.pin (b,o) (NE _ (NE _ (pG hb e)))).2.1
   ·rw[hD8,List.push_toArray]
   ·rw[Nk,List.length_singleton];exact hlt
 exact codeAny_compStart_list (loop _ rfl) (T.self _ 0 _ _ _ (T.keep _ _ _ st λb _ o e=>old b o e) (loop _ rfl))
theorem fb(O:CompOk X fr js scope cl)(hcm:X.calm=true)(hi:PI X target iter wi)(hg:∀C s₀ H₀ ex,PG (eJ X (own++fr) scope cl C s₀ H₀ ex) target g)(he:∀C s₀ H₀ ex,PE (eJ X (own++fr) scope cl C s₀ H₀ ex) elt te)
 (hs:∀x,foldedSetIterable iter X.env x=pure x:=by intro _;rfl):PE X (.ListComp elt [⟨target,iter,[],0⟩] scope pos) (wM own.length js wi g te):=by
 intro pins s σ H Q I h;rw[eval_ListComp];refine wpAny_comprehension_free (use:=none) rfl hs O.clos O.kind O.names (thn (hi pins s σ H _ I h) λx s1 h1=>thn h1 λitv s2 h2=>?_);obtain⟨it,fp,tn,J,H2,rfl,I2,T,st,hf,W,⟨m0,w0⟩,turn⟩:=h2;refine Ai (RR:=λacc C=>compPost (model X.prog X.w) X.A X.xe none (EP X pins σ Q) acc C) O (Paired.length O.fre) hcm I2 T st hf hg he W w0 turn ?_;rintro D C s' ⟨H3,I3,q,c1,c2,c3,c4,c5,m,hn⟩;exact⟨m,hn,λh' sb=>⟨.ref D,H3,I3.turned (t':=s'.toks) (it:=C) (λb o hb e=>(sb.2 b hb).trans e) c1 c2 (.inr c3) c4 c5,rfl,q⟩⟩
theorem D3{i:Nat}{y:Str}{py spos:Pos}(hN:X.N.Nodup)(hy:X.N[i]?=some y)(hly:Loc X.env.scope y)(O:CompOk X fr js scope cl)(hcm:X.calm=true)(hi:PI X target iter wi)(hg:∀C s₀ H₀ ex,PG (eJ X (own++fr) scope cl C s₀ H₀ ex) target g)
 (he:∀C s₀ H₀ ex,PE (eJ X (own++fr) scope cl C s₀ H₀ ex) elt te) (hsw:swapsWith (.ListComp elt [⟨target,iter,[],0⟩] scope pos) (some (.Name y py)) spos.line X.env=pure true)
 (hf:X.fn y=true\/X.env.scope.names.lookup y=some .local:=by first |exact .inl rfl |exact .inr rfl |assumption) (hs:∀x,foldedSetIterable iter X.env x=pure x:=by intro _;rfl) :
 PS X (.Assign [.Name y py] (.ListComp elt [⟨target,iter,[],0⟩] scope pos) spos) (eP (wM own.length js wi g te) (eE i)):=by
 intro pins s σ H D I h;rw[exec_Assign_Name_used _ _ _ _ hsw];refine wpAny_bind (wpAny_standAt (wpAny_bind ?_));show wpAny _ X.A (do let _ <- comprehension (.ListComp elt [⟨target,iter,[],0⟩] scope pos) scope X.env _ (newList []) false (eval iter X.env) (some (assign (.Name y py) X.env))) _ _ s
 refine wpAny_bind (wpAny_mono (wpAny_comprehension_free (use:=some (assign (.Name y py) X.env)) (Q:=λ_ s'=>SP X pins D .next s') rfl hs O.clos O.kind O.names
  (thn (hi pins s σ H _ I h) λx s1 h1=>thn h1 λitv s2 h2=>?_)) (λ_ s' hq=>wpAny_pure (wpAny_pure hq)) λ_ _ e=>e)
 obtain⟨it,fp,tn,J,H2,rfl,I2,T,st,hfp,W,⟨m0,w0⟩,turn⟩:=h2;refine Ai (Q:=λx H1=>eE i x σ H1 D.nx) (RR:=λacc C=>compPost (model X.prog X.w) X.A X.xe (some (assign (.Name y py) X.env)) (λ_ s'=>SP X pins D .next s') acc C) O (Paired.length O.fre) hcm I2 T st hfp hg he W w0 turn ?_;rintro DD C s' ⟨H3,I3,q,c1,c2,c3,c4,c5,m,hn⟩;show wpAny _ _ (assign (.Name y py) X.env (.ref DD)) _ _ s';refine wpAny_assign_Name (wZ I3 hN hy hly (v:=.ref DD) rfl (λs4 I4 ⟨a,sb,ha⟩=>?_) hf)
 have hCa:C≠a:=by
  rcases ha with rfl |ha
  ·exact c2
  ·exactλz=>c4 y a ha z.symm
 refine⟨m,hn.sameBut sb hCa,λh' sb'=>⟨_,H3,I4.turned (t':=s4.toks) (it:=C) (λb o hb e=>(sb'.2 b hb).trans e) c1 c2 (.inr c3) c4 c5,q⟩⟩
end
theorem ik{n:Nat}{js:List Nat}{K:PySem.W.Frag}{a:Addr}{xs:List V}{g:TG}{te:TE}{σ0:St}{H:Hp}{Q:VK}(Pv:Nat->List V->St->Hp->Prop)(hz:xs.length<=sizeLine)(h0:Pv 0 [] (gZ n js σ0) H)(hl:∀i ys σ H,i<=xs.length->Pv i ys σ H->SqL K H a xs/\ys.length<=i)
 (hs:∀i x ys σ H,xs[i]?=some x->Pv i ys σ H->g x σ H λσ2 H2=>te σ2 H2 λy H3=>Pv (i+1) (ys++[y]) σ2 H3) (hd:∀ys σ H p,Pv xs.length ys σ H->H p=none->Q (.ref p) (upd H p (.lst ys))) :
 vV n js g te σ0 Q (Itl K a) H:=by
 refine⟨λi m ys σ H=>m=xs.length-i/\i<=xs.length/\Pv i ys σ H,⟨xs.length,by simp,M9 _,h0⟩,?_⟩;rintro i m ys σ H ⟨rfl,hi,p⟩;obtain⟨q,hy⟩:=hl i ys σ H hi p;by_cases hlt:i<xs.length
 ·refine .inr ⟨⟨xs,xs[i],q,by simp[hlt]⟩,by omega,λy σ'' H''=>Pv (i+1) (ys++[y]) σ'' H'',λy σ' H' p'=>⟨xs.length-(i+1),by omega,rfl,hlt,p'⟩,λx H' y=>?_⟩;obtain⟨e,y⟩:=y;subst e;exact hs i x ys σ _ (y xs q) p
 ·have e:i=xs.length:=by omega
  subst e;exact .inl ⟨⟨xs,q,MZ _⟩,λr hr=>hd ys σ H r p hr⟩
theorem uP{k:Nat}{js:List Nat}{lo:Int}{n:Nat}{g:TG}{te:TE}{σ0:St}{H:Hp}{Q:VK}(Pv:Nat->List V->St->Hp->Prop)(hz:n<=sizeLine)(h0:Pv 0 [] (gZ k js σ0) H)(hl:∀i ys σ H,i<=n->Pv i ys σ H->ys.length<=i)
 (hs:∀i ys σ H,i<n->Pv i ys σ H->g (.int (lo+i)) σ H λσ2 H2=>te σ2 H2 λy H3=>Pv (i+1) (ys++[y]) σ2 H3) (hd:∀ys σ H p,Pv n ys σ H->H p=none->Q (.ref p) (upd H p (.lst ys))) :
 vV k js g te σ0 Q (Itr lo n) H:=by
 refine⟨λi m ys σ H=>m=n-i/\i<=n/\Pv i ys σ H,⟨n,by simp,M9 _,h0⟩,?_⟩;rintro i m ys σ H ⟨rfl,hi,p⟩;have hy:=hl i ys σ H hi p;by_cases hlt:i<n
 ·refine .inr ⟨hlt,by omega,λy σ'' H''=>Pv (i+1) (ys++[y]) σ'' H'',λy σ' H' p'=>⟨n-(i+1),by omega,rfl,hlt,p'⟩,λx H' y=>?_⟩;obtain⟨e,y⟩:=y;subst e y;exact hs i ys σ _ hlt p
 ·have e:i=n:=by omega
  subst e;exact .inl ⟨MZ _,λr hr=>hd ys σ H r p hr⟩
def Bits(k:Nat)(i:Int):Prop:=i.natAbs<2^k
theorem Bits.mono{j k:Nat}{i:Int}(h:Bits j i)(hk:j<=k:=by decide):Bits k i:=Nn h (OR (by decide) hk)
theorem Bits.mul{j k:Nat}{a b:Int}(ha:Bits j a)(hb:Bits k b):Bits (j+k) (a*b):=by
 unfold Bits at *
 rw[Nf,Nat.pow_add];exact Nat.mul_lt_mul_of_lt_of_lt ha hb
theorem Bits.add{k:Nat}{a b:Int}(ha:Bits k a)(hb:Bits k b):Bits (k+1) (a+b):=by
 unfold Bits at *
 have:=Int.natAbs_add_le a b;rw[Om];omega
theorem Bits.neg{k:Nat}{a:Int}(ha:Bits k a):Bits k (-a):=by unfold Bits at *;rwa [Int.natAbs_neg]
theorem Bits.sub{k:Nat}{a b:Int}(ha:Bits k a)(hb:Bits k b):Bits (k+1) (a-b):=by rw[Int.sub_eq_add_neg];exact ha.add hb.neg
theorem Bits.of_le{k:Nat}{a b:Int}(hb:Bits k b)(h:a.natAbs<=b.natAbs):Bits k a:=Oc h hb
theorem Bits.zero{k:Nat}:Bits k 0:=N3 (by decide)
theorem Bits.log{k:Nat}{i:Int}(h:Bits k i)(hk:0<k):i.natAbs.log2<k:=by
 by_cases h0:i.natAbs=0
 ·rw[h0];simpa using hk
 ·exact(Nat.log2_lt h0).mpr h
theorem Bits.int{k:Nat}{i:Int}(h:Bits k i)(hk:k<=1000000):Builtin.Int.intBits i<=2^20:=by
 have e:(2:Nat)^20=1048576:=by decide
 unfold Builtin.Int.intBits;split
 ·exact M9 _
 ·rename_i hn
  have h0:i.natAbs≠0:=by intro z;have:i=0:=Int.natAbs_eq_zero.mp z;exact hn (by simp[this])
  have:=(Nat.log2_lt h0).mpr h;omega
section
variable {X:Cx}{a b:Expr}{ta tb:TE}{pos:Pos}
def MT(i j:Int):Prop:=Bits 1000000 i/\Bits 1000000 j
theorem aO:OpR X (binaryOp .Mult) (rI MT λi j=>.int (i*j)):=opI λ_ _ _ _ _ _ _ hc q=>mul_int q (.of_bits (hc.1.int (MZ _)) (hc.2.int (MZ _)))
theorem dN:OpR X (binaryOp .Mod) (rI (λ_ j=>0<j) λi j=>.int (i%j)):=Ev
def MU(_ j:Int):Prop:=0<j/\Bits 9000 j
theorem dO:OpR X (binaryOp .FloorDiv) (rI MU λi j=>.int (i/j)):=opI λi j _ _ _ _ _ hc q=>by refine floordiv_int (Nr hc.1) ?_ (.inl (PyProof.noPylong_of_log2 (hc.2.log (by decide))));rw[Int.fdiv_eq_ediv_of_nonneg _ (M7 hc.1)];exact q
def MV(_ j:Int):Prop:=j≠0/\Bits 9000 j
theorem yo:OpR X (binaryOp .FloorDiv) (rI MV λi j=>.int (i.fdiv j)):=opI λ_ _ _ _ _ _ _ hc q=>floordiv_int hc.1 q (.inl (PyProof.noPylong_of_log2 (hc.2.log (by decide))))
theorem cI:OpR X (compareOp .Eq) (rI0 λi j=>.bl (decide (i=j))):=me λ_ _ _ _ _ _ _ q=>eq_int (by rw[Bool.beq_eq_decide_eq];exact q)
theorem fL:OpR X (compareOp .NotEq) (rI0 λi j=>.bl (!decide (i=j))):=me λ_ _ _ _ _ _ _ q=>ne_int (by rw[bne,Bool.beq_eq_decide_eq];exact q)
def xW(K:PySem.W.Frag):R2:=λx y H Q=>∃(a b:Addr) (ns ms:List Int),x=.ref a/\y=.ref b/\SqL K H a (ns.map V.int)/\SqL K H b (ms.map V.int)/\Q (.bl (decide (ns=ms))) H
def xS(K:PySem.W.Frag):R2:=λx y H Q=>∃(a b:Addr) (ns ms:List Int),x=.ref a/\y=.ref b/\SqL K H a (ns.map V.int)/\SqL K H b (ms.map V.int)/\Q (.bl (!decide (ns=ms))) H
theorem Ey(hu:X.A.units+64<cLine):OpR X (compareOp .Eq) (xW X.K):=by intro pins s σ H x y v u Q I rx ry h;obtain⟨a,b,ns,ms,rfl,rfl,ha,hb,q⟩:=h;cases rx;cases ry;obtain⟨i1,r1,p1,_⟩:=I.list ha;obtain⟨i2,r2,p2,_⟩:=I.list hb;exact PySem.W.eq_intsK p1.isList (pP r1) p2.isList (pP r2) hu ⟨.bl _,H,I,rfl,q⟩
theorem Eu(hu:X.A.units+64<cLine):OpR X (compareOp .NotEq) (xS X.K):=by intro pins s σ H x y v u Q I rx ry h;obtain⟨a,b,ns,ms,rfl,rfl,ha,hb,q⟩:=h;cases rx;cases ry;obtain⟨i1,r1,p1,_⟩:=I.list ha;obtain⟨i2,r2,p2,_⟩:=I.list hb;exact PySem.W.ne_intsK p1.isList (pP r1) p2.isList (pP r2) hu ⟨.bl _,H,I,rfl,q⟩
noncomputable def kl(K:PySem.W.Frag):List V->Hp->VK->Prop:=λxs H Q=>∃(x:V) (t c:Value) (n:V) (k:Bool),xs=[x,n]/\RelV n c/\(∀u,RelV n u->u=c)/\TyOf K H x t/\PySem.W.kitOne K t c=some k/\Q (.bl k) H
theorem KI:CallR X (.builtin "isinstance") (kl X.K):=by intro pins s σ H xs us Q I r h;obtain⟨x,t,c,n,k,rfl,rn,hn,ty,e,q⟩:=h;obtain⟨u1,u2,rfl,r1,r2⟩:=r.two;obtain rfl:=hn u2 r2;exact HX I r1 ty e λtk=>⟨.bl k,H,I.tok tk,rfl,q⟩
theorem kF{K:PySem.W.Frag}{H:Hp}{Q:VK}{x:V}{n:String}{t:Value}{k:Bool}(ty:TyOf K H x t)(e:PySem.W.kitOne K t (.type n)=some k)(q:Q (.bl k) H):kl K [x,.ty n] H Q :=
 ⟨x,t,.type n,.ty n,k,rfl,rfl,λ_ h=>h,ty,e,q⟩
theorem HY{K:PySem.W.Frag}{H:Hp}{Q:VK}{x:V}{C:Addr}{t:Value}{k:Bool}(ty:TyOf K H x t)(e:PySem.W.kitOne K t (.ref C)=some k)(q:Q (.bl k) H):kl K [x,.ref C] H Q :=
 ⟨x,t,.ref C,.ref C,k,rfl,rfl,λ_ h=>h,ty,e,q⟩
end
section
variable {D:Ends}{σ:St}{H:Hp}{Q:VK}{t u:TS}{te ta tb:TE}{c:TT}{i:Nat}{v:V}{r:R2}
theorem gz(P:St->Hp->Prop)(h1:∀σ' H',P σ' H'->u D σ' H')(h2:(∀σ' H',P σ' H'->u D σ' H')->t { D with nx:=u D } σ H):cg t u D σ H:=h2 h1
theorem cZ(P:St->Hp->Prop)(h:P σ H)(h1:∀σ' H',P σ' H'->u D σ' H'):u D σ H:=h1 σ H h
theorem av(h:te σ H λx H1=>u D (σ.set i (some x)) H1):cg (eP te (eE i)) u D σ H:=h
theorem fH(h:te σ H λ_ H1=>u D σ H1):cg (oi te) u D σ H:=h
theorem bI{t1:TS}(h:c σ H λb H1=>if b=true then t1 { D with nx:=u D } σ H1 else u D σ H1):cg (iQ c t1 wI) u D σ H:=h
theorem gw{K:PySem.W.Frag}{n:V}(h:ta σ H λx H1=>kl K [x,n] H1 Q):tCB (kl K) (iR ta (iR (tC n) lc)) σ H Q:=h
theorem lJ{t1 t2:TS}(P:St->Hp->Prop)(h1:∀σ' H',P σ' H'->u D σ' H')(h2:(∀σ' H',P σ' H'->u D σ' H')->c σ H λb H1=>if b=true then t1 { D with nx:=u D } σ H1 else t2 { D with nx:=u D } σ H1):cg (iQ c t1 t2) u D σ H:=h2 h1
theorem cP(h:te σ H λx H1=>D.nx (σ.set i (some x)) H1):eP te (eE i) D σ H:=h
theorem aX(h:te σ H D.rt):wE te D σ H:=h
theorem xP(h:te σ H λ_ H1=>D.nx σ H1):oi te D σ H:=h
theorem lI(h:c σ H λb H1=>if b=true then t D σ H1 else u D σ H1):iQ c t u D σ H:=h
theorem rj{K:Bool->Hp->Prop}(h:te σ H λx H'=>∃k,x=.bl k/\K k H'):tB te σ H K:=h
theorem lH{K:Bool->Hp->Prop}{tt:TT}(h:tt σ H λk H1=>K (!k) H1):wH tt σ H K:=h
theorem fJ{K:Bool->Hp->Prop}{t1 t2:TT}(h:t1 σ H λk H1=>if k=true then t2 σ H1 K else K false H1):wP t1 t2 σ H K:=h
theorem oV{K:Bool->Hp->Prop}{t1 t2:TT}(h:t1 σ H λk H1=>if k=true then K true H1 else t2 σ H1 K):tOr t1 t2 σ H K:=h
theorem gA(h:ta σ H λx H1=>∃k,x=.bl k/\if k=true then tb σ H1 Q else Q (.bl false) H1):wO ta tb σ H Q:=h
theorem DB(h:ta σ H λx H1=>∃k,x=.bl k/\if k=true then Q (.bl true) H1 else tb σ H1 Q):wF ta tb σ H Q:=h
theorem rf(h:ta σ H λx H1=>∃k,x=.bl k/\Q (.bl (!k)) H1):wG ta σ H Q:=h
theorem DE{tt:TT}(h:tt σ H λk H1=>if k=true then ta σ H1 Q else tb σ H1 Q):tIf tt ta tb σ H Q:=h
theorem kh{K:List V->Hp->Prop}(h:K [] H):lc σ H K:=h
theorem rh{K:List V->Hp->Prop}{t:TA}(h:ta σ H λx H1=>t σ H1 λxs H2=>K (x::xs) H2):iR ta t σ H K:=h
theorem DC{t:TA}(h:t σ H λxs H1=>xs.length<=sizeLine/\∀p,H1 p=none->Q (.ref p) (upd H1 p (.lst xs))):wK t σ H Q:=h
theorem dA{A B:Prop}(h:A):if true=true then A else B:=by rw[if_pos rfl];exact h
theorem da{A B:Prop}(h:B):if false=true then A else B:=by rw[if_neg NZ];exact h
theorem aR{p A B:Prop}[Decidable p](h1:p->A)(h2:¬p->B):if decide p=true then A else B:=by
 by_cases hp:p
 ·rw[if_pos (decide_eq_true hp)];exact h1 hp
 ·rw[if_neg (by rw[decide_eq_false hp];exact NZ)];exact h2 hp
theorem cK{p A B:Prop}[Decidable p](h1:¬p->A)(h2:p->B):if(!decide p)=true then A else B:=by
 by_cases hp:p
 ·rw[if_neg (by rw[decide_eq_true hp];exact NZ)];exact h2 hp
 ·rw[if_pos (by rw[decide_eq_false hp];rfl)];exact h1 hp
end
structure Cal(P:Program)(w:World)(K:PySem.W.Frag)(mg:Str->Option Value)(base:Heap)(k:Nat)(x:Str)(ps:List Str)(sp:Sp)(f:Addr)(fd:FuncData):Prop where
 ok:FnOk P w K mg base CX0 k f fd ps sp
 mg:mg x=some (.ref f)
 kp:PySem.W.keepIn K (.ref f)=true
 bd:Binds K fd ps []
theorem Same.upd_new{H:Hp}{p:Addr}{o:HO}(h:H p=none):Same H (upd H p o):=λb u e=>by rw[upd_ne (aQ e h)];exact e
theorem Same.then_new{H H1:Hp}{p:Addr}{o:HO}(s:Same H H1)(h:H1 p=none):Same H (upd H1 p o):=s.trans (Same.upd_new h)
theorem Same.ne{H H1:Hp}{a p:Addr}{o:HO}(s:Same H H1)(e:H a=some o)(h:H1 p=none):a≠p:=aQ (s a o e) h
section
variable {X:Cx}{K:PySem.W.Frag}
theorem bK(h:X.K=K):IxR X (xV K):=by subst h;exact HW
theorem aY(h:X.K=K):IxR X (xU K):=by subst h;exact HV
theorem oQ(h:X.K=K):SlR X (rk K):=by subst h;exact Cg
noncomputable def DV(K:PySem.W.Frag):List V->Hp->VK->Prop:=λxs H Q=>∃p ys,xs=[.ref p]/\(SqL K H p ys\/SqT K H p ys)/\Q (.int ys.length) H
theorem cH(h:X.K=K):CallR X (.builtin "len") (DV K):=by subst h;exact KH
noncomputable def DU(K:PySem.W.Frag):List V->Hp->VK->Prop:=λxs H Q=>∃p ys,xs=[.ref p]/\(SqL K H p ys\/SqT K H p ys)/\∀l,H l=none->Q (.ref l) (upd H l (.lst ys))
theorem qi(h:X.K=K):CallR X (.type "list") (DU K):=by subst h;exact KG
theorem gJ(h:X.K=K)(hu:X.A.units+64<cLine):OpR X (compareOp .Eq) (xW K):=by subst h;exact Ey hu
theorem ma(h:X.K=K)(hu:X.A.units+64<cLine):OpR X (compareOp .NotEq) (xS K):=by subst h;exact Eu hu
theorem iq(h:X.K=K):CallR X (.builtin "isinstance") (kl K):=by subst h;exact KI
theorem dL{tg l:Expr}{tl:TE}(h:X.K=K)(hl:PE X l tl):PI X tg l (zp K tl):=by subst h;exact Eg hl
theorem aP{e:Expr}{ta:TE}{f:Str}{pos:Pos}(h:X.K=K)(he:PE X e ta)(hb:attributeBase e f X.env (eval e X.env)=eval e X.env):PE X (.Attribute e f pos) (wL K ta f):=by subst h;exact En he hb
end
noncomputable def Ite(K:PySem.W.Frag)(a:Addr):It :=
 ⟨λi H=>∃xs x,SqL K H a xs/\xs[i]?=some x,λi H x H'=>∃v p,x=.ref p/\H p=none/\H'=upd H p (.tup [.int i,v])/\∀xs,SqL K H a xs->xs[i]?=some v,λi H=>∃xs,SqL K H a xs/\xs.length<=i⟩
theorem Bs{P:Program}{w:World}{K:PySem.W.Frag}{es:List Expr}{x1:Nat}{tp:Pos}(a e it:Addr)(hne:e≠it):Turn P w K (.Tuple es x1 tp) (Ite K a) [e,it] e (λi h=>(∃old,IsEnum h e it (i:Int) old)/\h.IsListIter it a i) where
 mem:=by simp
 obj:=λi h st b hb=>by
  obtain⟨⟨old,he⟩,hi⟩:=st;rcases Na.mp hb with rfl |hb
  ·exact⟨_,he,λv z=>by cases z⟩
  ·have q:b=it:=by simpa using hb
   subst q;obtain⟨o,e,c,d⟩:=hi;exact⟨o,e,λv z=>by rw[d]at z;cases z⟩
 keep:=λi h h' st k=>by obtain⟨⟨old,he⟩,hi⟩:=st;exact⟨⟨old,k e (by simp) _ he⟩,hi.at λo q=>k it (by simp) o q⟩
 item:=by
  intro X hP hw hK hc i pins s σ H E I hf st hg;subst hP hw hK;obtain⟨⟨old,he⟩,hi⟩:=st;obtain⟨xs,x,hq,hx⟩:=hg;obtain⟨its,rv,p,hz⟩:=I.list hq;obtain⟨u,hu,ru⟩:=rv.get hx;refine wpAny_pyNext_enum_item he hi p.isList (x:=u) (by simpa using hu) hne λh' out hit' htup hsz kk=>?_
  have hfp:H s.heap.objs.size=none:=I.hok.fresh (MZ _);have nfp:∀b o,H b=some o->b≠e/\b≠it:=λb o q=>⟨λz=>(by rw[z,(hf e (by simp)).1]at q;cases q),λz=>(by rw[z,(hf it (by simp)).1]at q;cases q)⟩
  have I1:Inv X pins σ (upd H s.heap.objs.size (.tup [.int i,x])) { s with heap:=h',toks:=s.toks+1 }:=by
   refine I.step (g':=s.gens) (d':=s.drawn) (ch:=[e,it]) (λb hb=>?_) (λb o _ _ hc q _=>kk b o (λz=>hc (by simp[z])) (λz=>hc (by simp[z])) q)
    (λb o _ _ hc q _=>⟨o.slots,kk b o (λz=>hc (by simp[z])) (λz=>hc (by simp[z])) q⟩) (λb o _ q n=>by rw[upd_ne (Ng (Heap.lt_size q))];exact n)
    (λb o hc q=>⟨o,kk b o (λz=>hc (by simp[z])) (λz=>hc (by simp[z])) q⟩) (λb ys q=>by rw[upd_ne (aQ q hfp)];exact q) (λb o ys q=>by rw[upd_ne (aQ q hfp)];exact q)
    (λb ps q=>⟨#[],by rw[upd_ne (aQ q hfp),q];simp⟩) (λm hm=>?_) (λb o q=>?_) I.bare
   ·obtain⟨f0,f1,f2,f3,f4,f5⟩:=hf b hb;exact⟨f3,f1,f4,f5⟩
   ·obtain⟨o,es',ep',ho,r⟩:=hm;exact⟨o,es',ep',kk _ o (Ne.symm (hf e (by simp)).2.1) (Ne.symm (hf it (by simp)).2.1) ho,r⟩
   ·by_cases hb:b=s.heap.objs.size
    ·subst hb;rw[ao]at q;cases q;exact⟨by show 2<=sizeLine;decide,[.int i s.toks,u],.cons ⟨_,rfl⟩ (.cons ru .nil),⟨_,htup,rfl,_,rfl⟩⟩
    ·rw[upd_ne hb]at q;refine(I.hok b o q).stay (λc v hc z=>?_) (λc z=>by rw[upd_ne (aQ z hfp)];exact z) λc ys z=>by rw[upd_ne (aQ z hfp)];exact z
     rcases hc with rfl |hc
     ·exact kk c v (nfp c o q).1 (nfp c o q).2 z
     ·exact kk c v (nfp c _ hc).1 (nfp c _ hc).2 z
  refine⟨_,rfl,wpAny_letOwnedTupleGo_enum out λh'' he'' sb=>?_⟩;obtain⟨f0,f1,f2,f3,f4,f5⟩:=hf e (by simp)
  have hen:upd H s.heap.objs.size (.tup [.int i,x]) e=none:=by rw[upd_ne (Ng (Heap.lt_size he))];exact f0
  have I2:=I1.turned (h':=h'') (t':=s.toks+1) (it:=e) (λb o hb q=>(sb.2 b hb).trans q) hen f1 f3 f4 f5;refine⟨.ref s.heap.objs.size,_,I2,rfl,⟨x,_,rfl,hfp,rfl,λys hy=>by rw[I.list_inj hy hq];exact hx⟩,⟨⟨u,?_⟩,hit'.at λo q=>(sb.2 it (Ne.symm hne)).trans q⟩,λb hb=>?_⟩
  ·have:((i+1:Nat):Int)=(i:Int)+1:=by omega
   rw[this];exact he''
  ·have hlt:b<s.heap.objs.size:=by
    rcases Na.mp hb with rfl |hb
    ·exact Heap.lt_size he
    ·have q:b=it:=by simpa using hb
     subst q;obtain⟨o,e1,_⟩:=hi;exact Heap.lt_size e1
   rw[upd_ne (Ng hlt)];exact(hf b hb).1
 done:=by intro X hP hw hK hc i pins s σ H E I hf st hg;subst hP hw hK;obtain⟨⟨old,he⟩,hi⟩:=st;obtain⟨xs,hq,hx⟩:=hg;obtain⟨its,rv,p,hz⟩:=I.list hq;obtain⟨f0,f1,f2,f3,f4,f5⟩:=hf it (by simp);have hl:=rv.length;exact wpAny_pyNext_enum_end (I.ok.hd hc) he hi p.isList (by simp;omega) λh' eb=>⟨rfl,I.turned (t':=s.toks) (λb o hb e=>eb b o hb e) f0 f1 f3 f4 f5⟩
 self:=λ_ _ _ _ _ st h=>by obtain⟨⟨old,he⟩,hi⟩:=st;exact wpAny_pyIter_enum he h
section
variable {X:Cx}
def Ik(K:PySem.W.Frag)(ta:TA):TI:=λσ H R=>ta σ H λvs H1=>∃a,vs=[.ref a]/\(∃xs,SqL K H1 a xs)/\R (Ite K a) H1
theorem rE{es:List Expr}{x1:Nat}{tp:Pos}{a:Expr}{ta:TA}{p pos:Pos}(hg:Gl X "enumerate")(hm:X.mg "enumerate"=none)(ha:PA X [a] ta)(hs:starEach [a] X.env=[(false,eval a X.env)]:=by rfl):PI X (.Tuple es x1 tp) (.Call (.Name "enumerate" p) [a] [] pos) (Ik X.K ta):=by
 intro pins s σ H R I h;refine Call_ (fk I hg hm boot_enumerate (PyProof.Rows.callWith_type1 (thn (ha pos pins s σ H _ I h) λus s1 ⟨vs,H1,I1,r1,q1⟩=>?_) hs rfl));obtain⟨a',e,⟨xs,hq⟩,q⟩:=q1;subst e;obtain⟨u,rfl,ru⟩:=r1.one;cases ru;obtain⟨its,rv,pl,hz⟩:=I1.list hq;refine call_enumerate_list pl.isList λh' he hit hsz hk=>?_
 have I2:Inv X pins σ H1 { s1 with heap:=h' }:=I1.kept (t':=s1.toks) hk;refine wpAny_pyIter_enum he ?_;refine⟨s1.heap.objs.size+1,[s1.heap.objs.size+1,s1.heap.objs.size],_,_,H1,rfl,I2,Bs a' _ _ (Nat.succ_ne_self _),⟨⟨_,he⟩,hit⟩,λb hb=>?_,q⟩
 have hb':s1.heap.objs.size<=b:=by
  rcases Na.mp hb with rfl |hb
  ·exact Nat.le_succ _
  ·have q:b=s1.heap.objs.size:=by simpa using hb
   subst q;exact MZ _
 exact I1.fpOk hb' (I1.hok.fresh hb')
end
theorem tJ{K:PySem.W.Frag}{a:Addr}{xs:List V}{g:TG}{tb:TS}{D:Ends}{σ:St}{H:Hp}(Pv:Nat->St->Hp->Prop)(h0:Pv 0 σ H)(hl:∀i σ H,i<=xs.length->Pv i σ H->SqL K H a xs)
 (hs:∀i x σ H p,xs[i]?=some x->Pv i σ H->H p=none->g (.ref p) σ (upd H p (.tup [.int i,x])) λσ2 H2=>tb { D with nx:=Pv (i+1),ct:=Pv (i+1),bk:=D.nx } σ2 H2) (hd:∀σ H,Pv xs.length σ H->D.nx σ H) :
 ∃W:Nat->Nat->St->Hp->Prop,(∃m,W 0 m σ H)/\∀i m σ H,W i m σ H ->
  ((Ite K a).stop i H/\D.nx σ H)\/((Ite K a).go i H/\∃N:St->Hp->Prop,(∀σ' H',N σ' H'->∃m',m'<m/\W (i+1) m' σ' H')/\∀x H',(Ite K a).yld i H x H'->g x σ H' λσ2 H2=>tb { D with nx:=N,ct:=N,bk:=D.nx } σ2 H2):=by
 refine⟨λi m σ H=>m=xs.length-i/\i<=xs.length/\Pv i σ H,⟨xs.length,by simp,M9 _,h0⟩,?_⟩;rintro i m σ H ⟨rfl,hi,p⟩;have q:=hl i σ H hi p;by_cases hlt:i<xs.length
 ·refine .inr ⟨⟨xs,xs[i],q,by simp[hlt]⟩,Pv (i+1),λσ' H' p'=>⟨xs.length-(i+1),by omega,rfl,hlt,p'⟩,λx H' y=>?_⟩;obtain⟨v,r,rfl,hr,rfl,y⟩:=y;exact hs i v σ _ r (y xs q) p hr
 ·have e:i=xs.length:=by omega
  subst e;exact .inl ⟨⟨xs,q,MZ _⟩,hd σ H p⟩
noncomputable def Itv(K:PySem.W.Frag)(a:Addr)(xs:List V):It :=
 ⟨λi H=>SqL K H a xs/\i<xs.length,λi H x H'=>H'=H/\xs[xs.length-1-i]?=some x,λi H=>xs.length<=i⟩
theorem Bo{P:Program}{w:World}{K:PySem.W.Frag}{tg:Expr}(a it:Addr)(xs:List V):Turn P w K tg (Itv K a xs) [it] it (λi h=>i<=xs.length/\h.IsRevIter it a ((xs.length:Int)-1-i)) where
 mem:=by simp
 obj:=λi h st b hb=>by
  have e:b=it:=by simpa using hb
  subst e;obtain⟨_,o,e,c,d⟩:=st;exact⟨o,e,λv z=>by rw[d]at z;cases z⟩
 keep:=λi h h' st k=>⟨st.1,st.2.at λo e=>k it (by simp) o e⟩
 item:=by
  intro X hP hw hK hc i pins s σ H E I hf st hg;subst hP hw hK;obtain⟨hq,hlt⟩:=hg;obtain⟨its,rv,p,hz⟩:=I.list hq;have hl:=rv.length;obtain⟨x,hx⟩:∃x,xs[xs.length-1-i]?=some x:=⟨_,List.getElem?_eq_getElem (by omega)⟩;obtain⟨u,hu,ru⟩:=rv.get hx;obtain⟨f0,f1,f2,f3,f4,f5⟩:=hf it (by simp);have e1:(xs.length:Int)-1-i=((xs.length-1-i:Nat):Int):=by omega
  have hit:=st.2;rw[e1]at hit;refine wpAny_pyNext_rev_item hit p.isList (x:=u) (by simpa using hu) λh' st' sb=>?_
  have I1:Inv X pins σ H { s with heap:=h' }:=I.turned (t':=s.toks) (λb o hb e=>(sb.2 b hb).trans e) f0 f1 f3 f4 f5;obtain⟨o,e,c,d⟩:=id st';refine⟨u,rfl,pU (s:={ s with heap:=h' }) e c d (by decide) ⟨x,H,I1,ru,⟨rfl,hx⟩,⟨hlt,?_⟩,λb hb=>(hf b hb).1⟩⟩;have e2:(xs.length:Int)-1-((i+1:Nat):Int)=((xs.length-1-i:Nat):Int)-1:=by omega
  rw[e2];exact st'
 done:=by
  intro X hP hw hK hc i pins s σ H E I hf st hg;subst hP hw hK;obtain⟨f0,f1,f2,f3,f4,f5⟩:=hf it (by simp);have hle:xs.length<=i:=hg;have e1:(xs.length:Int)-1-i = -1:=by have:=st.1;omega
  have hit:=st.2;rw[e1]at hit;exact wpAny_pyNext_rev_end (I.ok.hd hc) hit λh' eb=>⟨rfl,I.turned (t':=s.toks) (λb o hb e=>eb b o hb e) f0 f1 f3 f4 f5⟩
 self:=λ_ _ _ _ _ st h=>wpAny_pyIter_revIter st.2 h
section
variable {X:Cx}{tg:Expr}
def Ij(K:PySem.W.Frag)(ta:TA):TI:=λσ H R=>ta σ H λvs H1=>∃a xs,vs=[.ref a]/\SqL K H1 a xs/\R (Itv K a xs) H1
theorem rD{a:Expr}{ta:TA}{p pos:Pos}(hg:Gl X "reversed")(hm:X.mg "reversed"=none)(ha:PA X [a] ta)(hs:starEach [a] X.env=[(false,eval a X.env)]:=by rfl):PI X tg (.Call (.Name "reversed" p) [a] [] pos) (Ij X.K ta):=by
 intro pins s σ H R I h;refine Call_ (fk I hg hm boot_reversed (PyProof.Rows.callWith_type1 (thn (ha pos pins s σ H _ I h) λus s1 ⟨vs,H1,I1,r1,q1⟩=>?_) hs rfl));obtain⟨a',xs,e,hq,q⟩:=q1;subst e;obtain⟨u,rfl,ru⟩:=r1.one;cases ru;obtain⟨its,rv,pl,hz⟩:=I1.list hq;have hl:=rv.length;refine call_reversed_list pl.isList ?_
 have hit:(s1.heap.push (revObj a' ((its.toArray.size:Int)-1))).IsRevIter s1.heap.objs.size a' ((xs.length:Int)-1-((0:Nat):Int)):=by
  have e1:(xs.length:Int)-1-((0:Nat):Int)=(its.toArray.size:Int)-1:=by rw[Nl];omega
  rw[e1];exact⟨_,Heap.get?_push_size _ rfl,rfl,rfl⟩
 have I2:Inv X pins σ H1 { s1 with heap:=s1.heap.push (revObj a' ((its.toArray.size:Int)-1)) }:=I1.kept (t':=s1.toks) λb o e=>Heap.get?_push_of_some _ e
 refine wpAny_pyIter_revIter (s:={ s1 with heap:=s1.heap.push (revObj a' ((its.toArray.size:Int)-1)) }) hit ?_;refine⟨s1.heap.objs.size,[s1.heap.objs.size],_,_,H1,rfl,I2,Bo a' _ xs,⟨M9 _,hit⟩,λb hb=>?_,q⟩;have e:b=s1.heap.objs.size:=by simpa using hb
 subst e;exact I1.fpOk (MZ _) (I1.hok.fresh (MZ _))
end
theorem tG{K:PySem.W.Frag}{a:Addr}{xs:List V}{g:TG}{tb:TS}{D:Ends}{σ:St}{H:Hp}(Pv:Nat->St->Hp->Prop)(h0:Pv 0 σ H)(hl:∀i σ H,i<=xs.length->Pv i σ H->SqL K H a xs)
 (hs:∀i x σ H,i<xs.length->xs[xs.length-1-i]?=some x->Pv i σ H->g x σ H λσ2 H2=>tb { D with nx:=Pv (i+1),ct:=Pv (i+1),bk:=D.nx } σ2 H2) (hd:∀σ H,Pv xs.length σ H->D.nx σ H) :
 ∃W:Nat->Nat->St->Hp->Prop,(∃m,W 0 m σ H)/\∀i m σ H,W i m σ H ->
  ((Itv K a xs).stop i H/\D.nx σ H)\/((Itv K a xs).go i H/\∃N:St->Hp->Prop,(∀σ' H',N σ' H'->∃m',m'<m/\W (i+1) m' σ' H')/\∀x H',(Itv K a xs).yld i H x H'->g x σ H' λσ2 H2=>tb { D with nx:=N,ct:=N,bk:=D.nx } σ2 H2):=by
 refine⟨λi m σ H=>m=xs.length-i/\i<=xs.length/\Pv i σ H,⟨xs.length,by simp,M9 _,h0⟩,?_⟩;rintro i m σ H ⟨rfl,hi,p⟩;by_cases hlt:i<xs.length
 ·refine .inr ⟨⟨hl i σ H hi p,hlt⟩,Pv (i+1),λσ' H' p'=>⟨xs.length-(i+1),by omega,rfl,hlt,p'⟩,λx H' y=>?_⟩;obtain⟨e,y⟩:=y;subst e;exact hs i x σ _ hlt y p
 ·have e:i=xs.length:=by omega
  subst e;exact .inl ⟨MZ _,hd σ H p⟩
structure FunD(K:PySem.W.Frag)(x qual:Str)(st:Stmt)(dV:Value)(f:Addr)(fd:FuncData):Prop where
 ex:∃(oc:Value) (od:Option Addr) (kV doc pm:Value) (an:Option Addr) (cdv ct:Value) (osl:Array (Option Value)),
  fd=PySem.W.fnOf x qual (aB st) (aA st) (ag st) dV kV doc pm an cdv ct/\K.lookup f=some ⟨oc,od,.func fd,osl⟩/\PySem.W.codeIn K cdv qual=true
 kp:PySem.W.keepIn K (.ref f)=true
section
variable {P:Program}{w:World}{K:PySem.W.Frag}{mg:Str->Option Value}{base:Heap}
theorem FunD.ok{x qual:Str}{st:Stmt}{dV:Value}{f:Addr}{fd:FuncData}{N ps:List Str}{k:Nat}{sp:Sp}(F:FunD K x qual st dV f fd)(S:FnScope N ps (ag st))(len:∀vs H Q E,sp vs H Q E->vs.length=ps.length)
 (hbody:∀(cdv:Value) (A:Around) (outer:List Env) (s:Shared) (H:Hp) (vs:List V) (Q:VK) (E:XK),Room k (A.deeper (envOfC qual (ag st) s.heap.objs.size f cdv))->sp vs H Q E ->
   ∃t,PSs (bv CX0 P w K mg base N qual (ag st) f cdv A outer s H E).nox (aA st) t/\t { nx:=λ_ H'=>Q .non H',rt:=Q } (start N vs) H):FnOk P w K mg base CX0 (k+1) f fd ps sp:=by
 obtain⟨oc,od,kV,doc,pm,an,cdv,ct,osl,rfl,lk,hcd⟩:=F.ex;refine pZ lk hcd S len λA outer s H vs Q E hr hsp=>?_
 obtain⟨t,h,q⟩:=hbody cdv A outer s H vs Q E hr hsp;exact⟨t,h.nox,q⟩
theorem FunD.binds{x qual:Str}{st:Stmt}{dV:Value}{f:Addr}{fd:FuncData}{ps:List Str}(F:FunD K x qual st dV f fd)
 (h:∀(kV doc pm:Value) (an:Option Addr) (cdv ct:Value) (us:List Value),us.length=ps.length->bindArgs (PySem.W.fnOf x qual (aB st) (aA st) (ag st) dV kV doc pm an cdv ct) ⟨us,[]⟩=pure (ps.zip us)):Binds K fd ps []:=by
 obtain⟨oc,od,kV,doc,pm,an,cdv,ct,osl,rfl,lk,hcd⟩:=F.ex;exact .all (h kV doc pm an cdv ct)
theorem FunD.bindsD{x qual:Str}{st:Stmt}{T:Addr}{f:Addr}{fd:FuncData}{ps:List Str}{ds tup:List Value}{o:Obj}{n:Nat}(m:Nat)(F:FunD K x qual st (.ref T) f fd)(lo:K.lookup T=some o)(hs:o.data=.seq tup.toArray n)(hm:m+ds.length=ps.length)
 (h:∀(kV doc pm:Value) (an:Option Addr) (cdv ct:Value) (us:List Value),us.length=m->∃k:Option (Array Value)->Sem (List (Str×Value)),
   bindArgs (PySem.W.fnOf x qual (aB st) (aA st) (ag st) (.ref T) kV doc pm an cdv ct) ⟨us,[]⟩=seqItems? (.ref T) >>= k/\k (some tup.toArray)=pure (ps.zip (us++ds))):Binds K fd ps ds:=by
 obtain⟨oc,od,kV,doc,pm,an,cdv,ct,osl,rfl,lk,hcd⟩:=F.ex;intro s us KX hl;rw[Nk]at hl;obtain⟨k,h1,h2⟩:=h kV doc pm an cdv ct us (by omega);exact PySem.W.binds_K (k:=k) KX rfl lo hs h1 h2
theorem zD{x qual:Str}{st:Stmt}{f:Addr}{oc:Value}{od an:Option Addr}{osl:Array (Option Value)}{dV kV doc pm cdv ct:Value}(l:K.lookup f=some ⟨oc,od,.func (PySem.W.fnOf x qual (aB st) (aA st) (ag st) dV kV doc pm an cdv ct),osl⟩)
 (c:PySem.W.codeIn K cdv qual=true) (k:PySem.W.keepIn K (.ref f)=true):FunD K x qual st dV f (PySem.W.fnOf x qual (aB st) (aA st) (ag st) dV kV doc pm an cdv ct):=⟨⟨oc,od,kV,doc,pm,an,cdv,ct,osl,rfl,l,c⟩,k⟩
end
structure MCal(P:Program)(w:World)(K:PySem.W.Frag)(mg:Str->Option Value)(base:Heap)(k:Nat)(C:Addr)(m:Str)(ps:List Str)(sp:Sp)(f:Addr)(fd:FuncData):Prop where
 ok:FnOk P w K mg base CX0 k f fd ps sp
 mt:Meth K C m f
 bd:Binds K fd ps []
structure KCal(P:Program)(w:World)(K:PySem.W.Frag)(mg:Str->Option Value)(base:Heap)(k:Nat)(C:Addr)(x:Str)(ps:List Str)(sp:Sp)(f:Addr)(fd:FuncData)(ds:List Value)(dvs:List V):Prop where
 ok:FnOk P w K mg base CX0 k f fd ps sp
 mkr:Mk K C f
 mg:mg x=some (.ref C)
 bd:Binds K fd ps []
 bdD:Binds K fd ps ds
 vd:Vals dvs ds
section
variable {prog:Program}{w:World}{A:Around}{E:Value->Shared->Prop}{s:Shared}
end
section
variable {X:Cx}{K:PySem.W.Frag}
end
noncomputable def CXW(P:Program)(w:World):CXT:=λouter H s E e s'=>∃(ea:Addr) (cls a0:Value) (B:Heap) (H':Hp),e=.ref ea/\s'.os=s.os/\AllBare s'.gens/\Un (frs outer) [] H H' s.heap s'.heap/\HOk P w H' s'.heap /\
 Heap.FlyingW B outer ea cls a0 s'.heap/\(∀b o,s.heap.get? b=some o->b∉frs outer->∃o',s'.heap.get? b=some o'/\B.get? b=some o')/\(∀b x,H' b=some x->∃o',s'.heap.get? b=some o'/\B.get? b=some o')/\H' ea=none/\s.heap.get? ea=none/\E cls none H'
theorem Un.back{fs:List Addr}{H H1:Hp}{h h1 h2:Heap}(u:Un fs [] H H1 h h1)(k:∀b o,h.get? b=some o->b∉fs->∃o',h1.get? b=some o'/\h2.get? b=some o')
 (hf:∀b∈fs,H b=none) (hd:∀b∈fs,∀o,h1.get? b=some o->∀vs,o.data≠.fields vs) (sl:h1.UpToSlots h2):Un fs [] H H1 h h2 where
 keep:=λb o e n hb hx=>by obtain⟨o',e1,e2⟩:=k b o e hb;rw[u.keep b o e n hb hx]at e1;cases e1;exact e2
 slot:=λb o e n hb hx=>by obtain⟨s1,e1⟩:=u.slot b o e n hb hx;obtain⟨s2,e2⟩:=sl b _ e1 (hd b hb _ e1);exact⟨s2,e2⟩
 free:=u.free
 there:=λb o e hx=>by
  by_cases hb:b∈fs
  ·obtain⟨s1,e1⟩:=u.slot b o e (hf b hb) hb hx;obtain⟨s2,e2⟩:=sl b _ e1 (hd b hb _ e1);exact⟨_,e2⟩
  ·obtain⟨o',_,e2⟩:=k b o e hb;exact⟨o',e2⟩
 tups:=u.tups
 frzs:=u.frzs
 tbls:=u.tbls
theorem HOk.back{P:Program}{w:World}{H:Hp}{h h' B:Heap}(x:HOk P w H h)(k:∀b y,H b=some y->∃o',h.get? b=some o'/\B.get? b=some o')(st:B.StaysIn h'):HOk P w H h':=λa o e=>by
 refine(x a o e).stay (λb u hb q=>?_) (λ_ z=>z) λ_ _ z=>z
 have hn:∃y,H b=some y:=by
  rcases hb with rfl |hb
  ·exact⟨_,e⟩
  ·exact⟨_,hb⟩
 obtain⟨y,hy⟩:=hn;obtain⟨o',e1,e2⟩:=k b y hy;rw[q]at e1;cases e1;exact st _ _ e2
theorem yv{P:Program}{w:World}{H:Hp}{h:Heap}{a:Addr}{o:HO}(x:ObjOk P w H h a o):∃u,h.get? a=some u:=by
 induction o with
 |lst xs=>obtain⟨_,_,_,_,e⟩:=x;exact⟨_,e⟩
 |tup xs=>obtain⟨z,its,r,ob,e,c⟩:=x;exact⟨_,e⟩
 |dK kvs=>obtain⟨z,y,vs,r,ob,es,ep,e,c⟩:=x;exact⟨_,e⟩
 |dT kvs=>obtain⟨z,y,xs,r,ob,es,ep,e,c⟩:=x;exact⟨_,e⟩
 |set S n=>obtain⟨ob,es,ep,t,e,c⟩:=x;exact⟨_,e⟩
 |ins C dx fs=>obtain⟨d,z,ne,e,_⟩:=x;exact⟨_,e⟩
 |own y=>obtain⟨ob,e⟩:=x;exact⟨_,e⟩
 |xd fs=>obtain⟨mA,⟨od,es,ep,e,c⟩,r⟩:=x;exact⟨_,e⟩
 |rng lo hi=>obtain⟨t,u,v,e⟩:=x;exact⟨_,e⟩
 |frz ob u ih=>exact⟨_,x.1⟩
 |tbl ps=>exact⟨_,x⟩
 |met f y=>exact⟨_,x⟩
 |ext φ=>obtain⟨p,⟨o,e⟩,st⟩:=x;exact⟨_,e⟩
theorem zE{env:Env}{outer:List Env}{L:Addr}(h:env.frame=some L):frs (env::outer)=L::frs outer:=by unfold frs;rw[O5,h]
section
variable {P:Program}{w:World}{K:PySem.W.Frag}{mg:Str->Option Value}{base:Heap}{N:List Str}{qual:Str}{scope:Scope}{f:Addr}{cd:Value}{A:Around}{outer:List Env}{s:Shared}{H:Hp}{E:XK}{pins:List (Addr×Obj)}{σ:St}{H1:Hp}{s1:Shared}
theorem IM(I:Inv (bv (CXW P w) P w K mg base N qual scope f cd A outer s H E) pins σ H1 s1):∀b∈frs outer,∀o,s1.heap.get? b=some o->∀vs,o.data≠.fields vs:=λb hb o e=>by obtain⟨_,o',e',hd⟩:=I.funs.mem hb;have e'':s1.heap.get? b=some o':=e';rw[e]at e'';cases e'';exact hd
theorem Bc{E':XK}{e:Value}{s2:Shared}(I:Inv (bv (CXW P w) P w K mg base N qual scope f cd A outer s H E) pins σ H1 s1)(h:CXW P w (bv (CXW P w) P w K mg base N qual scope f cd A outer s H E).stack H1 s1 E' e s2)(hE:∀c d H',E' c d H'->E c d H') :
 (bv (CXW P w) P w K mg base N qual scope f cd A outer s H E).xe e s2:=by
 obtain⟨ea,cls,a0,B,H2,rfl,os,bare,un,hok,fl,b1,b2,he,hn,hE'⟩:=h;have J:Inv (bv (CXW P w) P w K mg base N qual scope f cd A outer s H E) pins σ H2 s2:=I.call' os un hok bare (λb hb=>nomatch hb);have hfrm:(envOfC qual scope s.heap.objs.size f cd).frame=some s.heap.objs.size:=rfl;have efr:frs (envOfC qual scope s.heap.objs.size f cd::outer)=s.heap.objs.size::frs outer:=zE hfrm
 have b1':∀b o,s.heap.get? b=some o->b∉frs outer->∃o',s2.heap.get? b=some o'/\B.get? b=some o':=λb o q hb=>by
  obtain⟨o',q'⟩:=I.base.there b o q (λz=>nomatch z);refine b1 b o' q' ?_;show b∉frs (envOfC qual scope s.heap.objs.size f cd::outer);rw[efr];intro z;rcases Na.mp z with z |z
  ·exact absurd (Heap.lt_size q) (by rw[z];exact ND _)
  ·exact hb z
 refine wpAny_leaves_onW (L:=s.heap.objs.size) I.ok.frames hfrm fl λh'' fl' up=>?_
 refine⟨ea,cls,a0,B,H2,rfl,J.os,J.bare,?_,J.hok.back b2 fl'.1,fl',λb o q hb=>?_,λb x q=>?_,he,?_,hE _ _ _ hE'⟩
 ·exact J.base.back (λb o q hb=>let⟨o',q1,q2⟩:=b1' b o q hb;⟨o',q1,fl'.1 _ _ q2⟩) I.ok.frf (IM J) up
 ·obtain⟨o',q1,q2⟩:=b1' b o q hb;exact⟨o',fl'.1 _ _ q2,q2⟩
 ·obtain⟨o',q1,q2⟩:=b2 b x q;exact⟨o',fl'.1 _ _ q2,q2⟩
 ·cases q:s.heap.get? ea with
  |none=>rfl
  |some o=>obtain⟨o',q'⟩:=I.base.there ea o q (λz=>nomatch z);rw[hn]at q';cases q'
def BP(E:XK)(c:Value):TS:=λ_ _ H=>E c none H
end
section
variable {P:Program}{w:World}{K:PySem.W.Frag}{mg:Str->Option Value}{base:Heap}
end
section
variable {X:Cx}{pins:List (Addr×Obj)}{σ:St}{H1 H2:Hp}{s1 s2:Shared}
theorem AD{B h3:Heap}{ea:Addr}{cls a0:Value}(I:Inv X pins σ H1 s1)(os:s2.os=s1.os)(bare:AllBare s2.gens)(un:Un (frs X.stack) [] H1 H2 s1.heap s2.heap)(hok:HOk X.prog X.w H2 s2.heap)(fl:Heap.FlyingW B X.stack ea cls a0 s2.heap)
 (b1:∀b o,s1.heap.get? b=some o->b∉frs X.stack->∃o',s2.heap.get? b=some o'/\B.get? b=some o') (b2:∀b x,H2 b=some x->∃o',s2.heap.get? b=some o'/\B.get? b=some o') (st:B.StaysIn h3) (up:s2.heap.UpToSlots h3) :
 Inv X pins σ H2 { s2 with heap:=h3 }:=by
 refine I.call' (s':={ s2 with heap:=h3 }) (ch:=[]) os (un.back (λb o q hb=>let⟨o',q1,q2⟩:=b1 b o q hb;⟨o',q1,st _ _ q2⟩) I.stkFree (λb hb o e=>?_) up) (hok.back b2 st) bare (λb hb=>nomatch hb);obtain⟨_,o',e',hd⟩:=fl.2.2.1.mem hb;rw[e]at e';cases e';exact hd
end
section
variable {X:Cx}{CX:CXT}{k:Nat}{f C:Addr}{fd:FuncData}{ps:List Str}{sp:Sp}{dvs:List V}{ds:List Value}{E:XK}{x m:Str}{p pos apos:Pos}{e o:Expr}{es:List Expr}{ta:TE}{t:TA}{pins:List (Addr×Obj)}{σ:St}
def vB(CX:CXT)(X:Cx)(pins:List (Addr×Obj))(σ:St)(E:XK):Prop:=∀(H:Hp) (s:Shared) (e:Value) (s':Shared),Inv X pins σ H s->CX X.stack H s E e s'->X.xe e s'
theorem Dl{H:Hp}{s:Shared}{Q:VK}{us:List Value}{vs:List V}(F:FnOk X.prog X.w X.K X.mg X.base CX k f fd ps sp)(hr:Room k X.A)(hb:Binds X.K fd ps ds)(hd:Vals dvs ds)(hx:vB CX X pins σ E)
 (I:Inv X pins σ H s) (r:Vals vs us) (h:sp (vs++dvs) H Q E):wpAny (model X.prog X.w) X.A (call (.ref f) us) (EP X pins σ Q) X.xe s:=by
 have r2:Vals (vs++dvs) (us++ds):=r.append hd;have hl:(us++ds).length=ps.length:=by rw[<- r2.length];exact F.len _ _ _ _ h
 refine wpAny_call (codeAny_mono (F.run X.A X.stack s H ⟨us,[]⟩ (us++ds) (vs++dvs) Q E hr I.env0 (hb s us I.kIn hl) r2 h) λr s' hq=>?_);cases r with
 |error e=>exact hx H s e s' I hq
 |ok fl =>
  cases fl with
  |ret u=>exact I.after hq
  |next=>exact False.elim hq
  |brk=>exact False.elim hq
  |cont=>exact False.elim hq
end
abbrev cxH(X:Cx)(ea:Addr)(oe:Obj):Cx:={ X with A:=X.A.mark (some (.ref ea)),calm:=false,pn:=(ea,oe)::X.pn,xe:=λ_ _=>False }
section
variable {X:Cx}{pins:List (Addr×Obj)}{σ:St}{H:Hp}{s:Shared}{ea:Addr}{oe:Obj}
theorem Inv.held(I:Inv X pins σ H s)(he:s.heap.get? ea=some oe)(hn:H ea=none)(hL:ea≠X.env.locals)(hf:ea∉X.fs)(hd:∀v,oe.data≠.cell v):Inv (cxH X ea oe) pins σ H s:=by
 have ok:=I.ok
 exact⟨⟨ok.mod,ok.kind,ok.glob,ok.blt,ok.above,ok.inj,ok.has,ok.cab,(λz=>nomatch z),ok.frames,ok.stk,ok.exf,ok.bs,ok.bsz,ok.noex,ok.exfs,ok.funs,ok.frf⟩,I.os,I.bare,I.base,I.loc,I.cell,I.free,I.freeC,
  λp hp=>by
   rcases Na.mp hp with rfl |hp
   ·exact⟨he,hn,hL,hf,hd⟩
   ·exact I.pin p hp,I.hok,I.len⟩
theorem Inv.unheld(ok:X.Ok)(I:Inv (cxH X ea oe) pins σ H s):Inv X pins σ H s :=
 ⟨ok,I.os,I.bare,I.base,I.loc,I.cell,I.free,I.freeC,λp hp=>I.pin p (M0 _ hp),I.hok,I.len⟩
theorem zz{M:Model}{A:Around}{E:Value->Shared->Prop}{i:Nat}{x:Str}{pos:Pos}{Q:Unit->Shared->Prop}(I:Inv X pins σ H s)(hN:X.N.Nodup)(hi:X.N[i]?=some x)(hk:X.env.scope.names.lookup x=some .local)
 (h:∀s',Inv X pins (σ.set i none) H s'->Q () s'):wpAny M A (do bindName X.env x .none;unbindBehindTheSuite X.env x pos) Q E s:=by
 obtain⟨m,hn,hl⟩:=id I.loc;have hcls:(X.env.scope.kind == .class || (X.env.scope.kind == .module&&X.env.locals != X.env.globals))=false:=by rw[I.ok.kind];rfl
 have hiσ:i<σ.length:=by rw[I.len];exact(List.getElem?_eq_some_iff.mp hi).1
 have cne:=I.cne
 have tracked:∀{a:Addr} {h':Heap},(∃o,s.heap.get? a=some o/\H a=none)->Heap.SameBut a s.heap h'->HOk X.prog X.w H h':=λ{a h'} ha hs b ob e=>by
  obtain⟨_,_,hfree⟩:=ha;refine(I.hok b ob e).stay (λc w' hc q=>(hs.2 c ?_).trans q) (λ_ q=>q) λ_ _ q=>q
  rintro rfl;rcases hc with rfl |hc
  ·rw[hfree]at e;cases e
  ·rw[hfree]at hc;cases hc
 refine wpAny_nameGoes_keeps hk hn hcls λh' v hn' hs=>?_
 obtain⟨oL,_,_,hoL,_⟩:=id hn;refine h _ ⟨I.ok,I.os,I.bare,⟨λb o e n hb hx=>?_,λb o e n hb hx=>?_,I.base.free,λb o e hx=>?_,I.base.tups,I.base.frzs,I.base.tbls⟩,⟨_,hn',λj y v' e1 e2 e3=>?_⟩,λy c e=>?_,I.free,I.freeC,λp hp=>?_,tracked ⟨oL,hoL,I.free⟩ hs,by simpa using I.len⟩
 ·exact(hs.2 b (Ng (Nn (Heap.lt_size e) I.ok.above))).trans (I.base.keep b o e n hb hx)
 ·obtain⟨sl,e1⟩:=I.base.slot b o e n hb hx;exact⟨sl,(hs.2 b (Ng (Nn (Heap.lt_size e) I.ok.above))).trans e1⟩
 ·obtain⟨o',e1⟩:=I.base.there b o e hx;exact⟨o',(hs.2 b (Ng (Nn (Heap.lt_size e) I.ok.above))).trans e1⟩
 ·by_cases hj:j=i
  ·subst hj;rw[List.getElem?_set_self hiσ]at e2;cases e2
  ·rw[List.getElem?_set_ne (Ne.symm hj)]at e2;obtain⟨u',r',q⟩:=hl j y v' e1 e2 e3;refine⟨u',r',?_⟩;rcases q with⟨k,e⟩ |⟨k,c,e,z⟩
   ·refine .inl ⟨k,?_⟩;have:y≠x:=λe=>hj (rP hN e1 (e ▸ hi))
    simp[this,e]
   ·exact .inr ⟨k,c,e,z.sameBut hs (cne y c e)⟩
 ·obtain⟨w',z⟩:=I.cell y c e;exact⟨w',z.sameBut hs (cne y c e)⟩
 ·obtain⟨e,n,ne,nf,d⟩:=I.pin p hp;exact⟨(hs.2 p.1 ne).trans e,n,ne,nf,d⟩
theorem mO(I:Inv (cxH X ea oe) pins σ H s):s.heap.get? ea=some oe:=(I.pin (ea,oe) (M6 ..)).1
end
section
variable {X:Cx}{k:Nat}{f C R:Addr}{fd:FuncData}{ps:List Str}{sp:Sp}{dvs:List V}{ds:List Value}{m r n:Str}{pos apos cpos epos np hpos:Pos}{e o:Expr}{es:List Expr}{ta:TE}{t:TA}{i:Nat}{b₀:Stmt}{suite:List Stmt}{th:Addr->Obj->TS}
end
open PySem PySem.Spec PyProof.Rows PySem.W PySem.Calls PySem.Builtin PySem.Builtin.ObjectAttr PySem.Builtin.Getset_descriptor
section
variable {prog:Program}{w:World}{A:Around}{E:Value->Shared->Prop}{s:Shared}{K:Frag}{x D:Addr}{M:Model}{h:Heap}
theorem J9{a g:Value}{name:Str}(X:K.In h)(ha:findIn K (.ref D) name=some (some a))(hg:specialIn K a "__get__"=some (some g))(ht:takesIn K a=some true):Looks M h (find (.ref x) (.ref D) name) (.bind g a):=by have L1:=looks_findIn (M:=M) X ha;have L2:Looks M h (getOf (some a)) (some g):=looks_specialIn X hg;have L3:=looks_takesIn (M:=M) X ht;exact L1.andThen (L2.andThen ((show Looks M h (dataDescriptor? (some a) (some g)) (some (g,a))from L3.andThen .now).andThen (Looks.tag .now)))
theorem Ka{R:Result->Shared->Prop}{tp:Value}(X:K.In s.heap)(L0:Looks (model prog w) s.heap (typeOf (.ref x)) (.ref D))(hm:mroIn K D (.type "object")=some true)
 (h:R (.ok (.ret (.ref D))) s):codeAny (model prog w) A (.call (.builtin "getset_descriptor.__get__") ⟨[.builtin "object.__class__",.ref x,tp],[]⟩) R s:=by
 obtain⟨hh,g,dr,t,os⟩:=s;have L1:=looks_mroIn (M:=model prog w) X hm;refine codeAny_call_builtin KF.slot_gs.plain KF.entry_gs (KF.slot_gs.check _ _ _ _ _ _ _ _ KF.type_class (KF.args_gs _ _ _) ?_);unfold Builtin.«getset_descriptor.__get__» descrGet;rw[dga_obj];refine wpAny_bind (wpAny_pure ?_);unfold descrGetter descrCheckInstance descrNameAndClass isInstance;simp only[KF.owner_class]
 repeat lk
 refine⟨Code.quiet_builtin _ (by decide +kernel),codeAny_builtin KF.entry_class ?_⟩;unfold Builtin.«object.__class__» shownTypeOf
 repeat lk
 exact h
theorem zP{nameV:Value}{Q:Unit->Shared->Prop}{g:Array GenState}{d:Drawn}{t:Nat}{os:OsState}(X:K.In h)(LT:Looks M h (typeOf (.ref x)) (.ref D))(hmB:mroIn K D (.type "BaseException")=some true)(hq:Q () ⟨h,g,d,t,os⟩) :
 wpAny M A (checkBuiltinCall "BaseException.__getattribute__" ⟨[.ref x,nameV],[]⟩) Q E ⟨h,g,d,t,os⟩:=by
 have hk:builtinKind "BaseException.__getattribute__"=some .slot:=by decide +kernel
 have hsplit:splitId "BaseException.__getattribute__"=some ("BaseException","__getattribute__"):=by decide +kernel
 have ha:=F.args_bexc_ga (.ref x) nameV;have LI:Looks M h (isInstance (.ref x) (.type "BaseException")) true:=LT.andThen (looks_mroIn X hmB);simp only[checkBuiltinCall,hk,hsplit];refine wpAny_bind (LI.at ?_)
 repeat (first |assumption |wp_step)
theorem Kb{Q:Option Value->Shared->Prop}(hga:findIn K (.ref D) "__getattribute__"=some (some (.builtin "BaseException.__getattribute__")))(hgn:findIn K (.ref D) "__getattr__"=some none)(hmB:mroIn K D (.type "BaseException")=some true)(ha:findIn K (.ref D) "__class__"=some (some (.builtin "object.__class__")))
 (hn:specialIn K (.builtin "object.__class__") "__get__"=some (some (.builtin "getset_descriptor.__get__"))) (htk:takesIn K (.builtin "object.__class__")=some true) (hm:mroIn K D (.type "object")=some true)
 (X:K.In s.heap) (LT:Looks (model prog w) s.heap (typeOf (.ref x)) (.ref D)) (h:Q (some (.ref D)) { s with toks:=s.toks+1 }):wpAny (model prog w) A (getAttr? (.ref x) "__class__") Q E s:=by
 obtain⟨hh,g,d,t,os⟩:=s;have L1:=looks_findIn (M:=model prog w) X hga;have LF:Looks (model prog w) hh (find (.ref x) (.ref D) "__class__") (.bind (.builtin "getset_descriptor.__get__") (.builtin "object.__class__")):=J9 X ha hn htk;have L2:=looks_findIn (M:=model prog w) X hgn;have f3:=F.excAttr_ValueError.ga.bind (.ref x);have hx2:(Value.builtin "BaseException.__getattribute__" == Value.builtin "object.__getattribute__")=false:=by decide +kernel
 have hx1:(onTheHeap (Value.ref D)&&Value.builtin "BaseException.__getattribute__" == Value.builtin "object.__getattribute__")=false:=by rw[hx2];rfl
 unfold getAttr? getAttrBy? getAttrBy;refine wpAny_bind (wpAny_mkText (wpAny_bind (wpAny_attempt (wpAny_holding (wpAny_bind (LT.at (wpAny_bind (L1.at ?_))))))));dsimp only
 rw[if_neg (by rw[hx1];exact NZ)];unfold getAttrByItsOwn
 repeat (any_goals (first |assumption | (with_reducible refine wpAny_bind (L2.at ?_)) | (with_reducible refine L2.at ?_) |wp_step))
 refine codeAny_call_builtin F.excAttr_ValueError.ga.plain F.entry_bexc_ga (zP X LT hmB ?_)
 repeat (any_goals (first |assumption | (with_reducible refine wpAny_bind (LT.at ?_)) | (with_reducible refine LT.at ?_) | (with_reducible refine wpAny_bind (LF.at ?_)) | (with_reducible refine LF.at ?_) |wp_step))
 refine Ka X LT hm ?_
 repeat (any_goals (first |assumption |wp_step))
theorem Hg{oe:Obj}(hc:oe.cls=.ref D)(hcl:(clsIn K D).isSome=true)(hga:findIn K (.ref D) "__getattribute__"=some (some (.builtin "BaseException.__getattribute__")))(hgn:findIn K (.ref D) "__getattr__"=some none)(hmB:mroIn K D (.type "BaseException")=some true)(ha:findIn K (.ref D) "__class__"=some (some (.builtin "object.__class__")))
 (hn:specialIn K (.builtin "object.__class__") "__get__"=some (some (.builtin "getset_descriptor.__get__"))) (htk:takesIn K (.builtin "object.__class__")=some true) (hm:mroIn K D (.type "object")=some true) :
 KitX K (.ref x) (.ref D) (λh=>h.get? x=some oe) where
 ty:=λ_ _ _ I=>hc ▸ (Looks.ld I).andThen .now
 it:=λ_ _ X _=>by
  obtain⟨cdD,hcD⟩:=OO.mp hcl;unfold clsIn at hcD
  split at hcD
  ·rename_i c' d' cd' sl' ho
   intro A' Q' E' s' k q;unfold isType loadHead;exact wpAny_bind (wpAny_loadPart (k _ _ (X _ _ ho)) (wpAny_pure q))
  ·cases hcD
 ne:=λh tp dd its n sl X htp=>by
  obtain⟨cdD,hcD⟩:=OO.mp hcl;refine Bool.eq_false_iff.mpr λq=>?_
  have e:D=tp:=Value.ref.inj (beq_iff_eq.mp q);subst e;unfold clsIn at hcD
  split at hcD
  ·rename_i c' d' cd' sl' ho
   have z:=(X _ _ ho).symm.trans htp;cases z
  ·cases hcD
 ca:=λX I k=>Kb hga hgn hmB ha hn htk hm X (hc ▸ (Looks.ld I).andThen .now) k
end
theorem uT{K:PySem.W.Frag}{C:Addr}{b:Value}{k:Bool}(h:mroIn K C b=some k):(clsIn K C).isSome=true:=by
 unfold mroIn at h
 cases e:clsIn K C with
 |none=>rw[e]at h;cases h
 |some _=>rfl
structure ECls(K:PySem.W.Frag)(D:Addr):Prop where
 cl:(clsIn K D).isSome=true
 ga:findIn K (.ref D) "__getattribute__"=some (some (.builtin "BaseException.__getattribute__"))
 gn:findIn K (.ref D) "__getattr__"=some none
 mB:mroIn K D (.type "BaseException")=some true
 ha:findIn K (.ref D) "__class__"=some (some (.builtin "object.__class__"))
 hn:specialIn K (.builtin "object.__class__") "__get__"=some (some (.builtin "getset_descriptor.__get__"))
 ht:takesIn K (.builtin "object.__class__")=some true
 hm:mroIn K D (.type "object")=some true
theorem Et{K:PySem.W.Frag}{h₀:Heap}{mg:Str->Option Value}{x:Str}{C:Addr}{bmB:List Value}{newId:String}(X:K.In h₀)(G:h₀.Ns mainGlobals mg)(e:nsIn K mainGlobals x=some (some (.ref C)))(q:excIn K C bmB newId=true):OwnCls x C bmB newId mg h₀:=by
 refine⟨mg_of X G e,?_⟩;unfold excIn at q
 split at q
 ·rename_i dd cd sl ho
  split at q
  ·rename_i C' bm k0 k1 k2 k3 n k5 hm hs
   simp only[Bool.and_eq_true,beq_iff_eq,Bool.not_eq_true']at q;obtain⟨⟨⟨⟨⟨rfl,rfl⟩,hdel⟩,ht⟩,hok⟩,hni⟩:=q;obtain⟨nm,bs,mro,ns,qn,hd,sn,sub,ab,col,del⟩:=cd;dsimp only at hm hdel hok hni
   subst hm hdel
   have hsl:sl=#[k0,k1,k2,k3,some (.builtin n),k5]:=by
    obtain⟨l⟩:=sl;simp only at hs
    rw[hs]
   subst hsl;exact⟨bm,ns,nm,qn,bs,hd,sn,sub,ab,col,dd,k0,k1,k2,k3,k5,_,X _ _ ho,.of_isNs (isNs_of_in X hok),nsMap_none_of_in X hok hni,tail_of_in X ht⟩
  ·cases q
 ·cases q
noncomputable def kU(lo:Int)(n:Nat):It:=⟨λi _=>i<n,λi H x H'=>H'=H/\x=.int (lo+i * -1),λi _=>n<=i⟩
theorem Bp{P:Program}{w:World}{K:PySem.W.Frag}{tg:Expr}(it:Addr)(lo:Int)(n:Nat):Turn P w K tg (kU lo n) [it] it (λi h=>IsRangeIter h it (lo+(i:Nat) * -1) ((n:Int)-(i:Nat)) (-1)) where
 mem:=by simp
 obj:=λi h st b hb=>by
  have e:b=it:=by simpa using hb
  subst e
  exact⟨_,st,λv z=>by
   have z':Data.fields _=Data.cell v:=z
   cases z'⟩
 keep:=λi h h' st k=>k it (by simp) _ st
 item:=by
  intro X hP hw hK hc i pins s σ H E I hf st hg;subst hP hw hK;obtain⟨f0,f1,f2,f3,f4,f5⟩:=hf it (by simp);have W:=Walks.range (prog:=X.prog) (w:=X.w) (I.ok.hd hc) it lo (-1) n;refine W.item i s _ _ hg st λv h' tk hv st' kk=>?_
  obtain⟨t,rfl⟩:=hv;have I1:Inv X pins σ H { s with heap:=h',toks:=tk }:=I.turned (λb o hb e=>kk b o (by simpa using hb) e) f0 f1 f3 f4 f5;exact⟨_,rfl,pU (s:={ s with heap:=h',toks:=tk }) (n:="range_iterator") st' rfl rfl (by decide) ⟨.int (lo+i * -1),H,I1,⟨t,rfl⟩,⟨rfl,rfl⟩,st',λb hb=>(hf b hb).1⟩⟩
 done:=by intro X hP hw hK hc i pins s σ H E I hf st hg;subst hP hw hK;obtain⟨f0,f1,f2,f3,f4,f5⟩:=hf it (by simp);exact wpAny_pyNext_range_end (I.ok.hd hc) st (by have:n<=i:=hg;omega) λh' eb=>⟨rfl,I.turned (t':=s.toks) (λb o hb e=>eb b o hb e) f0 f1 f3 f4 f5⟩
 self:=λ_ _ _ _ _ st h=>wpAny_pyIter_rangeiter st h
theorem xR(a b:Int):Builtin.Range.rangeSize a b (-1)=if b<a then a-b else 0:=by unfold Builtin.Range.rangeSize;rw[if_neg (by decide)];show(if a>b then(a-b-1)/1+1 else 0)=_;rw[Int.ediv_one];split<;>omega
theorem Cb{a b:Int}(ha : -(2^61)<=a)(ha':a<2^61)(hb : -(2^61)<=b)(hb':b<2^61):Builtin.Range.small a b (-1)=true:=by unfold Builtin.Range.small;rw[xR];simp only[Builtin.Range.rangeFitsLong,Bool.and_eq_true,Bool.or_eq_true,decide_eq_true_eq,beq_iff_eq,show ¬((-1:Int)>0) by decide,if_false];split<;>omega
section
variable {X:Cx}{tg:Expr}
theorem DM{pins:List (Addr×Obj)}{σ:St}{H:Hp}{s:Shared}{R:It->Hp->Prop}{E:Value->Shared->Prop}{lo hi:Int}{t u v:Tok}{tk:Nat}(I:Inv X pins σ H s)(h1 : -(2^61)<=lo)(h2:lo<2^61)(h3 : -(2^61)<=hi)(h4:hi<2^61)
 (q:R (kU lo (lo-hi).toNat) H):wpAny (model X.prog X.w) X.A (pyIter (.ref s.heap.objs.size)) (PIE X pins σ tg R) E { s with heap:=s.heap.push { cls:=.type "range",data:=.fields #[.int lo t,.int hi u,.int (-1) v] },toks:=tk }:=by
 refine wpAny_pyIter_range (IsRange.new ..) (Cb h1 h2 h3 h4) ?_;have I1:Inv X pins σ H { s with heap:=s.heap.push { cls:=.type "range",data:=.fields #[.int lo t,.int hi u,.int (-1) v] },toks:=tk }:=I.kept λb o e=>Heap.get?_push_of_some _ e
 refine⟨(s.heap.push { cls:=.type "range",data:=.fields #[.int lo t,.int hi u,.int (-1) v] }).objs.size,[(s.heap.push { cls:=.type "range",data:=.fields #[.int lo t,.int hi u,.int (-1) v] }).objs.size],_,_,H,rfl,
  I1.kept (t':=tk) λb o e=>Heap.get?_push_of_some _ e,Bp _ lo (lo-hi).toNat,?_,λb hb=>?_,q⟩
 ·have e1:lo+((0:Nat):Int) * -1=lo:=by simp
  have e2:(((lo-hi).toNat:Nat):Int)-((0:Nat):Int)=Builtin.Range.rangeSize lo hi (-1):=by rw[xR];split<;>omega
  show IsRangeIter _ _ (lo+((0:Nat):Int) * -1) ((((lo-hi).toNat:Nat):Int)-((0:Nat):Int)) (-1);rw[e1,e2];exact Heap.get?_push_size _ rfl
 ·have e:b=(s.heap.push { cls:=.type "range",data:=.fields #[.int lo t,.int hi u,.int (-1) v] }).objs.size:=by simpa using hb
  subst e;exact I1.fpOk (MZ _) (I1.hok.fresh (MZ _))
def Ig(ta:TA):TI:=λσ H R=>ta σ H λvs H1=>∃i j:Int,vs=[.int i,.int j,.int (-1)]/\(-(2^61)<=i/\i<2^61 /\ -(2^61)<=j/\j<2^61)/\R (kU i (i-j).toNat) H1
theorem yi{a b c:Expr}{ta:TA}{p pos:Pos}(hg:Gl X "range")(hm:X.mg "range"=none)(ha:PA X [a,b,c] ta)(hs:starEach [a,b,c] X.env=[(false,eval a X.env),(false,eval b X.env),(false,eval c X.env)]:=by rfl)(hs2:starEach [b,c] X.env=[(false,eval b X.env),(false,eval c X.env)]:=by rfl) :
 PI X tg (.Call (.Name "range" p) [a,b,c] [] pos) (Ig ta):=by
 intro pins s σ H R I h;refine Call_ (fk I hg hm boot_range (PyProof.Rows.callWith_type1 (thn (ha pos pins s σ H _ I h) λus s1 ⟨vs,H1,I1,r1,q1⟩=>?_) (by rw[hs,hs2]) (by rw[hs2];rfl)));obtain⟨i,j,e,⟨q1,q2,q3,q4⟩,q⟩:=q1;subst e;cases r1 with
 |cons r rr =>
  cases rr with
  |cons r' rr =>
   cases rr with
   |cons r'' rr =>cases rr;obtain⟨t,rfl⟩:=r;obtain⟨t',rfl⟩:=r';obtain⟨t'',rfl⟩:=r'';exact call_range_3 (by decide) (DM I1 q1 q2 q3 q4 q) (Or.inl (PyProof.noPylong_small (by decide)))
end
theorem zF{lo:Int}{n:Nat}{g:TG}{tb:TS}{D:Ends}{σ:St}{H:Hp}(Pv:Nat->St->Hp->Prop)(h0:Pv 0 σ H)
 (hs:∀i σ H,i<n->Pv i σ H->g (.int (lo+i * -1)) σ H λσ2 H2=>tb { D with nx:=Pv (i+1),ct:=Pv (i+1),bk:=D.nx } σ2 H2) (hd:∀σ H,Pv n σ H->D.nx σ H) :
 ∃W:Nat->Nat->St->Hp->Prop,(∃m,W 0 m σ H)/\∀i m σ H,W i m σ H ->
  ((kU lo n).stop i H/\D.nx σ H)\/((kU lo n).go i H/\∃N:St->Hp->Prop,(∀σ' H',N σ' H'->∃m',m'<m/\W (i+1) m' σ' H')/\∀x H',(kU lo n).yld i H x H'->g x σ H' λσ2 H2=>tb { D with nx:=N,ct:=N,bk:=D.nx } σ2 H2):=by
 refine⟨λi m σ H=>m=n-i/\i<=n/\Pv i σ H,⟨n,by simp,M9 _,h0⟩,?_⟩;rintro i m σ H ⟨rfl,hi,p⟩;by_cases hlt:i<n
 ·refine .inr ⟨hlt,Pv (i+1),λσ' H' p'=>⟨n-(i+1),by omega,rfl,hlt,p'⟩,λx H' y=>?_⟩;obtain⟨e,y⟩:=y;subst e y;exact hs i σ _ hlt p
 ·have e:i=n:=by omega
  subst e;exact .inl ⟨MZ _,hd σ H p⟩
section
variable {X:Cx}{K:PySem.W.Frag}
end
theorem Hc{P:Program}{w:World}{K:PySem.W.Frag}{mg mb:Str->Option Value}{CX:CXT}{k:Nat}{fa a:Addr}{fd:FuncData}{x:Str}{sp:Sp}{s₁:Shared}{vs:List Value}{ns:List Int}
 (KX:K.In s₁.heap) (hns:s₁.heap.Ns mainGlobals mg) (hb:s₁.heap.Ns builtinsNs mb) (hbb:∀x:Str,x≠"__name__"->mb x=bootBuiltins x) (hlim:s₁.heap.NoLimit) (hse:s₁.heap.NoSeer) (hg:s₁.gens=#[])
 (ha:s₁.heap.get? a=some { cls:=.type "list",data:=.seq vs.toArray }) (hi:IntsAre vs ns) (hl:ns.length<=sizeLine) (hr:Room k callerA)
 (F:∀base:Heap,K.In base->base.Ns mainGlobals mg->base.NoSeer->FnOk P w K mg base CX k fa fd [x] sp) (hbind:∀(s:Shared) (u:Value),BindsTo s fd ⟨[u],[]⟩ [(x,u)])
 (hsp:∀H:Hp,vC H->SqL K H a (ns.map V.int)->sp [.ref a] H (λv _=>v=.bl true) λ_ _ _=>False)
 (hCX:∀H e s',CX [] H s₁ (λ_ _ _=>False) e s'->False) :
 codeAny (model P w) callerA (.call (.ref fa) ⟨[.ref a],[]⟩) (λr s'=>r=.ok (.ret (.bool true))/\OldK s₁.heap s'.heap/\s'.os=s₁.os/\AllBare s'.gens) s₁:=by
 have rv:=wv hi;have lenV:=hi.length
 have core:∀H:Hp,vC H->SqL K H a (ns.map V.int)->HOk P w H s₁.heap->(∀b,H b≠none->b=a)->(H a≠none->K.lookup a=none) ->
  codeAny (model P w) callerA (.call (.ref fa) ⟨[.ref a],[]⟩) (λr s'=>r=.ok (.ret (.bool true))/\OldK s₁.heap s'.heap/\s'.os=s₁.os/\AllBare s'.gens) s₁:=by
  intro H hO hS hok hA hK;have base_of:∀{b:Addr} {o:Obj},s₁.heap.get? b=some o->H b=none->(eu s₁.heap H).get? b=some o:=λe n=>Iq e n
  have noA:∀{b:Addr} {o:Obj} {es:Array DictEntry} {ep:Nat},s₁.heap.get? b=some o->o.data=.dict es ep->H b=none:=λ{b o es ep} e d=>by
   cases q:H b with
   |none=>rfl
   |some u =>have e':b=a:=hA b (by rw[q];simp);subst e';rw[ha]at e;cases e;have d':Data.seq vs.toArray _=Data.dict es ep:=d;cases d'
  have nsK:∀{b:Addr} {m:Str->Option Value},s₁.heap.Ns b m->(eu s₁.heap H).Ns b m:=λ{b m} ⟨o,es,ep,e,d,r⟩=>⟨o,es,ep,base_of e (noA e d),d,r⟩
  have hKb:K.In (eu s₁.heap H):=λb o e=>base_of (KX b o e) (by
   cases q:H b with
   |none=>rfl
   |some u =>
    have e':b=a:=hA b (by rw[q];simp);subst e'
    rw[hK (by rw[q];simp)]at e;cases e)
  have hM:Mod K mg (eu s₁.heap H):=⟨hKb,nsK hns,⟨mb,nsK hb,hbb⟩,let⟨mc,h1,h2⟩:=hlim;⟨mc,nsK h1,h2⟩⟩
  have hSb:(eu s₁.heap H).NoSeer:=by
   obtain⟨⟨mc,c1,c2,c3⟩,⟨mm,m1,m2⟩,⟨mb',b1,b2⟩,⟨mg',bm,ob,g1,g2,g3,g4,g5⟩⟩:=hse;refine⟨⟨mc,nsK c1,c2,c3⟩,⟨mm,nsK m1,m2⟩,⟨mb',nsK b1,b2⟩,⟨mg',bm,ob,nsK g1,g2,base_of g3 ?_,g4,g5⟩⟩;cases q:H bm with
   |none=>rfl
   |some u =>have e':bm=a:=hA bm (by rw[q];simp);rw[e',ha]at g3;cases g3;exact absurd (Value.type.inj g4) (by decide)
  have e0:Env0 P w K mg (eu s₁.heap H) callerA [] s₁ H:=⟨rfl,hM,λb o e=>FS e,Oh (Io _ _),trivial,λb hb=>absurd (show b∈([]:List Addr)from hb) (by simp),hok,.of_eq hg⟩;refine codeAny_mono ((F _ hKb (nsK hns) hSb).run callerA [] s₁ H ⟨[.ref a],[]⟩ [.ref a] [.ref a] _ _ hr e0 (hbind s₁ (.ref a)) (.cons rfl .nil) (hsp H hO hS)) λr s' h=>?_
  cases r with
  |error e=>exact(hCX H e s' h).elim
  |ok fl =>
   cases fl with
   |next=>exact False.elim h
   |brk=>exact False.elim h
   |cont=>exact False.elim h
   |ret u =>
    obtain⟨v,H',os,bare,un,hok',r',q⟩:=h;have q':v=.bl true:=q;subst q';obtain rfl:u=Value.bool true:=r';refine⟨rfl,OldK.of_keep λb o e=>?_,os,bare⟩;cases q:H b with
    |none=>exact un.keep b o e q (by intro z;exact absurd (show b∈([]:List Addr)from z) (by simp)) (by simp)
    |some u =>
     rcases hO b with z |⟨ob,xs,z⟩
     ·rw[q]at z;cases z
     ·have z2:=un.frzs b ob _ z;obtain⟨e1,_⟩:=hok b _ z;obtain⟨e2,_⟩:=hok' b _ z2;rw[e]at e1;cases e1;exact e2
 cases hk:K.lookup a with
 |some o =>have e:=KX a o hk;rw[ha]at e;cases e;refine core (λ_=>none) (λ_=>.inl rfl) (.inr ⟨_,vs.toArray,_,hk,rfl,rfl,rfl,by rw[Nl,lenV];exact hl,by simpa using rv⟩) (λb u z=>by have z':(none:Option HO)=some u:=z;cases z') (λb z=>absurd rfl z) λz=>absurd rfl z
 |none =>
  refine core (λb=>if b=a then some (.frz { cls:=.type "list",data:=.seq vs.toArray } (.lst (ns.map V.int)))else none) (λb=>?_) (.inl (.inr ⟨{ cls:=.type "list",data:=.seq vs.toArray },if_pos rfl⟩)) (λb u z=>?_) (λb z=>?_) λ_=>hk
  ·by_cases hb:b=a
   ·exact .inr ⟨_,_,if_pos hb⟩
   ·exact .inl (if_neg hb)
  ·by_cases hb:b=a
   ·have z':=(if_pos hb).symm.trans z;cases z';subst hb;exact⟨ha,by rw[MY];exact hl,vs,_,rv,ha⟩
   ·have z':=(if_neg hb).symm.trans z;cases z'
  ·by_cases hb:b=a
   ·exact hb
   ·exact absurd (if_neg hb) z
theorem walk_ofS{l:PySem.W.OpenLaw}{n k:Nat}{q:Program}{loose:List Str}{XP:(Str->Option Value)->Heap->Prop}{YP:World->Heap->Prop}{d:DefRec}{K:Params->PySem.W.Frag}{CX:World->CXT}{sp:World->Sp}{x:Str}
 (hi:PyProof.Rows.importsNone q=true) (hn:l.most=some n) (hn2:n<=sizeLine) (hdf:d.params.defaults=[]) (hr:Room k callerA)
 (hY:∀(w:World) (h:Heap),YP w h->(K w.params).In h)
 (F:∀(w:World) (mg:Str->Option Value) (fa:Addr) (h:Heap),(K w.params).In h->h.Ns mainGlobals mg->mg d.name=some (.ref fa) ->
   ∃fd:FuncData,(∀(s:Shared) (u:Value),BindsTo s fd ⟨[u],[]⟩ [(x,u)]) /\
    ∀base:Heap,(K w.params).In base->base.Ns mainGlobals mg->base.NoSeer->FnOk l.prog w (K w.params) mg base (CX w) k fa fd [x] (sp w))
 (hsp:∀(w:World) (H:Hp) (a:Addr) (ns:List Int),ns.length<=n->vC H->SqL (K w.params) H a (ns.map V.int)->sp w [.ref a] H (λv _=>v=.bl true) λ_ _ _=>False)
 (hCX:∀(w:World) (H:Hp) (s:Shared) (e:Value) (s':Shared),CX w [] H s (λ_ _ _=>False) e s'->False) :
 PySem.W.WalkO q loose XP YP l.row.toRowW d [] (λf vs=>PySem.call f vs):=by
 refine Att.attach_call hn hdf λw s₀ s₁ mg mb fa o pm cd doc a vs ns G Y ho hd hcd hmg hobj hints hlen hg=>?_
 have KX:=hY w _ Y;obtain⟨fd,hb,hF⟩:=F w mg fa _ KX G.T.g hmg;exact Hc KX G.T.g G.T.b G.T.builtins G.T.nolimit (G.T.seer hi) hg hobj hints (Nd hlen hn2) hr hF hb (λH hO hS=>hsp w H a ns hlen hO hS) λH e s'=>hCX w H s₁ e s'
section
variable {X:Cx}{e:Env}{l:List Env}
theorem Dt{pins:List (Addr×Obj)}{σ:St}{H:Hp}{s:Shared}(hs:X.base.NoSeer)(ht:X.prog.given.tree=none)(hd:X.A.depth+100<recursionLimit)(hst:X.stack=e::l)(h1:e.scope.isGenerator=false)(h2:e.scope.isCoroutine=false)(h3:e.builtins=builtinsNs)(h4:e.globals=mainGlobals)(I:Inv X pins σ H s):PylongRoom (model X.prog X.w) X.A s :=
 PylongRoom.of (I.ok.mod.nolimit.keeps I.bk) hd (SeerAt.of (hs.keeps I.bk) ht (by rw[I.ok.frames,hst]) h1 h2 h3 h4)
theorem Ew(hs:X.base.NoSeer)(ht:X.prog.given.tree=none)(hd:X.A.depth+100<recursionLimit)(hst:X.stack=e::l)(h1:e.scope.isGenerator=false)(h2:e.scope.isCoroutine=false)(h3:e.builtins=builtinsNs)(h4:e.globals=mainGlobals):OpR X (binaryOp .FloorDiv) (rI (λ_ j=>0<j) λi j=>.int (i/j)):=by intro pins s σ H x y v u Q I rx ry h;obtain⟨i,j,rfl,rfl,hj,q⟩:=h;obtain⟨t,rfl⟩:=rx;obtain⟨t',rfl⟩:=ry;have hj':(0:Int)<j:=hj;refine floordiv_int (Nr hj') ?_ (.inr (Dt hs ht hd hst h1 h2 h3 h4 I));rw[Int.fdiv_eq_ediv_of_nonneg _ (M7 hj')];exact⟨.int (i/j),H,I.tok _,⟨_,rfl⟩,q⟩
end
theorem Lu(a v:Value):argsOk "max" ⟨[a],[(Str.ofString "default",v)]⟩:=by unfold argsOk;kernel_rfl
def Top(val:Nat->Int)(n:Nat)(M:Int):Prop:=(∃i,i<n/\val i=M)/\∀i,i<n->val i<=M
theorem Top.more{val:Nat->Int}{n:Nat}{M:Int}(h:Top val n M)(hn:val n>M):Top val (n+1) (val n) :=
 ⟨⟨n,by omega,rfl⟩,λi hi=>by
   by_cases e:i=n
   ·subst e;exact NR _
   ·have:=h.2 i (by omega);omega⟩
theorem Top.less{val:Nat->Int}{n:Nat}{M:Int}(h:Top val n M)(hn:¬val n>M):Top val (n+1) M :=
 ⟨let⟨i,hi,e⟩:=h.1;⟨i,by omega,e⟩,λi hi=>by
  by_cases e:i=n
  ·subst e;omega
  ·exact h.2 i (by omega)⟩
section
variable {prog:Program}{w:World}{A:Around}{R:Result->Shared->Prop}{I S:Addr}{fp wr:List Addr}{n:Nat}{P:Nat->Value->Prop}{St:Nat->Heap->Prop}{val:Nat->Int}{d:Value}
theorem pI:(toString "max"++toString ".loop":String)="max.loop":=by decide
theorem Gr(W:Walks prog w A.in1 I fp wr n P St)(hval:∀i v,P i v->∃t,v=.int (val i) t)(hSf:S∉fp) :
 ∀(k j:Nat) (s:Shared) (m:Int) (t:Tok) (c:Nat),n-j=k->j<=n->St j s.heap->Top val j m ->
 s.heap.get? S=some { cls:=.type "list",dict:=none,data:=.seq #[.int m t,.int m t] c,slots:=#[] } ->
 (∀M t h' tk,Top val n M->(∀b o,b∉wr->b≠S->s.heap.get? b=some o->h'.get? b=some o)->R (.ok (.ret (.int M t))) { s with heap:=h',toks:=tk }) ->
 codeAny (model prog w) A (.builtin "max.loop" ⟨[.ref I,.none,.ref S],[("default",d)]⟩) R s:=by
 have hSw:S∉wr:=λh=>hSf (W.sub _ h)
 have cm:=CmpOf.ints_gt (prog:=prog) (w:=w) (A:=A.in1) (P:=λi v=>∃t,v=.int (val i) t) val (λ_ _ h=>h);intro k
 induction k with
 |zero =>
  intro j s m t c hk hj hst hT hS hR;have hin:j=n:=by omega
  subst hin;refine codeAny_builtin F.entry_max_loop ?_;rw[Around.under_plainId F.plain_max_loop _];refine wpAny_bind (wpAny_seqItems hS rfl ?_);show wpAny _ A.in1 (tryCatch (pyNext (.ref I)) _ >>= _) _ _ s;refine wpAny_bind (wpAny_tryCatch (W.done s _ _ hst λh' tk hk'=>?_));show wpAny _ A.in1 (updateSeq S (λ_=>#[]) >>= _) _ _ _;refine wpAny_bind (wpAny_updateSeq (hk' S _ hSw hS) rfl (wpAny_bind (wpAny_letGo (wpAny_pure ?_))));exact hR m t _ tk hT λb o hb hbS e=>(Heap.get?_update_other _ _ (Ne.symm hbS)).trans (hk' b o hb e)
 |succ k ih =>
  intro j s m t c hk hj hst hT hS hR;have hlt:j<n:=by omega
  refine codeAny_builtin F.entry_max_loop ?_;rw[Around.under_plainId F.plain_max_loop _];refine wpAny_bind (wpAny_seqItems hS rfl ?_);show wpAny _ A.in1 (tryCatch (pyNext (.ref I)) _ >>= _) _ _ s;refine wpAny_bind (wpAny_tryCatch (W.item j s _ _ hlt hst λv h' tk hP hst' hk'=>?_));have hS':=hk' S _ hSw hS;obtain⟨u,rfl⟩:=hval j v hP;obtain⟨i0,_,e0⟩:=hT.1;show wpAny _ A.in1 (tryCatch (holding [_,_] (richCompare .Gt (.int (val j) u) (.int m t) >>= _)) _ >>= _) _ _ _;refine wpAny_bind (wpAny_tryCatch (wpAny_holding (wpAny_bind (cm j i0 _ _ _ _ _ ⟨u,rfl⟩ ⟨t,by rw[e0]⟩ ?_))));refine wpAny_bind (wpAny_holding (wpAny_truthy_bool ?_));refine wpAny_bind (wpAny_letGo (wpAny_pure ?_));show wpAny _ A.in1 (if decide (val j>val i0)=true then _ else _) _ _ _;rw[e0];by_cases hb:val j>m
  ·rw[decide_eq_true hb];simp only[if_true];refine wpAny_bind ?_;refine wpAny_updateSeq hS' rfl (wpAny_bind (wpAny_letGo ?_));rw[pI];refine wpAny_pure ⟨plainId_quiet F.plain_max_loop _,ih (j+1) _ (val j) u _ (by omega) hlt (W.frame _ _ _ hst' λb hbf o e=>?_) (hT.more hb) (Heap.get?_update_self _ hS' rfl) λM t' h'' tk'' hM hk''=>?_⟩
   ·exact(Heap.get?_update_other _ _ (λh:S=b=>hSf (h ▸ hbf))).trans e
   ·exact hR M t' h'' tk'' hM λb o hbw hbS e=>hk'' b o hbw hbS ((Heap.get?_update_other _ _ (Ne.symm hbS)).trans (hk' b o hbw e))
  ·rw[decide_eq_false hb];simp only[Bool.false_eq_true,if_false];refine wpAny_bind (wpAny_letGo ?_);rw[pI];refine wpAny_pure ⟨plainId_quiet F.plain_max_loop _,ih (j+1) _ m t c (by omega) hlt hst' (hT.less hb) hS' λM t' h'' tk'' hM hk''=>?_⟩;exact hR M t' h'' tk'' hM λb o hbw hbS e=>hk'' b o hbw hbS (hk' b o hbw e)
theorem Gs(W:Walks prog w A.in1 I fp wr n P St)(hval:∀i v,P i v->∃t,v=.int (val i) t)(hSf:S∉fp){s:Shared}{c:Nat}(hst:St 0 s.heap)
 (hS:s.heap.get? S=some { cls:=.type "list",dict:=none,data:=.seq #[] c,slots:=#[] })
 (h0:n=0->∀h' tk,(∀b o,b∉wr->b≠S->s.heap.get? b=some o->h'.get? b=some o)->R (.ok (.ret d)) { s with heap:=h',toks:=tk })
 (hR:∀M t h' tk,Top val n M->(∀b o,b∉wr->b≠S->s.heap.get? b=some o->h'.get? b=some o)->R (.ok (.ret (.int M t))) { s with heap:=h',toks:=tk }) :
 codeAny (model prog w) A (.builtin "max.loop" ⟨[.ref I,.none,.ref S],[("default",d)]⟩) R s:=by
 have hSw:S∉wr:=λh=>hSf (W.sub _ h)
 refine codeAny_builtin F.entry_max_loop ?_;rw[Around.under_plainId F.plain_max_loop _];refine wpAny_bind (wpAny_seqItems hS rfl ?_);show wpAny _ A.in1 (tryCatch (pyNext (.ref I)) _ >>= _) _ _ s;by_cases hn:n=0
 ·subst hn;refine wpAny_bind (wpAny_tryCatch (W.done s _ _ hst λh' tk hk'=>?_));refine wpAny_bind (wpAny_rule (wpAny_pure ?_));exact h0 rfl h' tk λb o hb _ e=>hk' b o hb e
 ·refine wpAny_bind (wpAny_tryCatch (W.item 0 s _ _ (by omega) hst λv h' tk hP hst' hk'=>?_));have hS':=hk' S _ hSw hS;obtain⟨u,rfl⟩:=hval 0 v hP;show wpAny _ A.in1 (updateSeq S (λ_=>#[.int (val 0) u,.int (val 0) u]) >>= _) _ _ _;refine wpAny_bind (wpAny_updateSeq hS' rfl ?_);rw[pI];refine wpAny_pure ⟨plainId_quiet F.plain_max_loop _,Gr W hval hSf _ 1 _ (val 0) u _ rfl (by omega) (W.frame _ _ _ hst' λb hbf o e=>?_) ⟨⟨0,by omega,rfl⟩,λi hi=>?_⟩ (Heap.get?_update_self _ hS' rfl) λM t h'' tk'' hM hk''=>?_⟩
  ·exact(Heap.get?_update_other _ _ (λh:S=b=>hSf (h ▸ hbf))).trans e
  ·have:i=0:=by omega
   subst this;exact NR _
  ·exact hR M t h'' tk'' hM λb o hbw hbS e=>hk'' b o hbw hbS ((Heap.get?_update_other _ _ (Ne.symm hbS)).trans (hk' b o hbw e))
end
section
variable {prog:Program}{w:World}{A:Around}{E:Value->Shared->Prop}{s:Shared}{l:Addr}{xs:Array (Int×Tok)}{d:Value}
theorem KE{Q:Value->Shared->Prop}(hh:A.handled=none)(hl:s.heap.IsList l (intItems xs))
 (h0:xs.size=0->∀h' tk,(∀b o,s.heap.get? b=some o->h'.get? b=some o)->Q d { s with heap:=h',toks:=tk })
 (h:∀M t h' tk,Top (numAt xs) xs.size M->(∀b o,s.heap.get? b=some o->h'.get? b=some o)->Q (.int M t) { s with heap:=h',toks:=tk }) :
 wpAny (model prog w) A (call (.builtin "max") [.ref l] [("default",d)]) Q E s:=by
 refine wpAny_call (codeAny_call_builtin F.plain_max F.entry_max ?_);simp only[checkBuiltinCall,F.kind_max]
 have key:wpAny (model prog w) A.in1 (Builtin.«max» ⟨[.ref l],[("default",d)]⟩) (λfin s'=>match fin with
  |.done f=>(match(Except.ok f:Result)with |.ok (.ret v)=>Q v s' |.ok _=>False |.error e=>E e s')
  |.again c'=>c'.quiet=true/\codeAny (model prog w) A c' (λr s'=>match r with |.ok (.ret v)=>Q v s' |.ok _=>False |.error e=>E e s') s') E s:=by
  show wpAny _ A.in1 (Builtin.Builtins.bindParams "max" ["key","default"] 0 ⟨[],[("default",d)]⟩ >>= _) _ _ s;refine wpAny_bind (wpAny_of_eq (show Builtin.Builtins.bindParams "max" ["key","default"] 0 ⟨[],[("default",d)]⟩=pure [none,some d]from rfl) ?_);refine wpAny_bind (wpAny_pure ?_);refine wpAny_bind (iter_intList hl λs₂ e st hfp hlI=>?_);subst e;refine wpAny_bind (wpAny_newObj_type ?_);rw[pI];have W:=Walks.list (prog:=prog) (w:=w) (A:=A.in1) hh _ l hlI (intItems xs);have sz:(intItems xs).size=xs.size:=by simp[intItems]
  refine wpAny_pure ⟨plainId_quiet F.plain_max_loop _,Gs W (val:=numAt xs) (λi v=>intItems_at) (λhm=>ND _ (hfp _ hm)) (W.frame _ _ _ st λb _ o e=>Heap.get?_push_of_some _ e) (Heap.get?_push_size _ rfl) (λhn h' tk hk=>?_) λM t h' tk hM hk=>?_⟩
  ·exact h0 (sz ▸ hn) h' tk (old_kept λb o hb e=>hk b o hb (Ng (Heap.lt_size e)) (Heap.get?_push_of_some _ e))
  ·exact h M t h' tk (sz ▸ hM) (old_kept λb o hb e=>hk b o hb (Ng (Heap.lt_size e)) (Heap.get?_push_of_some _ e))
 cases hsig:Manifest.signature? "max" with
 |none=>exact wpAny_pure key
 |some sig =>
  have ha':Bind.checkArgs "max" sig ⟨[.ref l],[("default",d)]⟩=pure ():=by simpa only[argsOk,hsig]using Lu (.ref l) d
  simp only[ha'];exact wpAny_pure key
end
def xT(K:PySem.W.Frag):R2:=λx y H Q=>∃(p:Addr) (ns:List Int),x=.ref p/\SqL K H p (ns.map V.int)/\(ns=[]->Q y H)/\∀M,M∈ns->(∀a∈ns,a<=M)->Q (.int M) H
theorem zo:∀{ns:List Int} {us:List Value},Vals (ns.map V.int) us->∃ts:List (Int×Tok),us.toArray=intItems ts.toArray/\ts.map (·.1)=ns
 | [],_,h=>by cases h;exact⟨[],by simp[intItems],rfl⟩
 |n::ns,_,h=>by
  cases h with
  |cons r rr =>obtain⟨t,rfl⟩:=r;obtain⟨ts,e1,e2⟩:=zo rr;refine⟨(n,t)::ts,?_,by rw[NQ,e2]⟩;have e3:=congrArg Array.toList e1;simp only[intItems,List.map_toArray]at e3 ⊢;simpa using e3
theorem BE{ts:List (Int×Tok)}{M:Int}(h:Top (numAt ts.toArray) ts.toArray.size M):M∈ts.map (·.1)/\∀a∈ts.map (·.1),a<=M:=by
 have g:∀(i:Nat) (hi:i<ts.length),numAt ts.toArray i=(ts[i]).1:=λi hi=>by simp[numAt,hi]
 obtain⟨⟨i,hi,e⟩,h2⟩:=h;have hi':i<ts.length:=by simpa using hi
 constructor
 ·rw[<- e,g i hi'];exact Nc.mpr ⟨_,Od hi',rfl⟩
 ·intro a ha;obtain⟨p,hp,rfl⟩:=Nc.mp ha;obtain⟨j,hj,rfl⟩:=List.getElem_of_mem hp;rw[<- g j hj];exact h2 j (by simpa using hj)
section
variable {X:Cx}{K:PySem.W.Frag}{e ed:Expr}{ta td:TE}{p pos kp:Pos}
theorem Em(hK:X.K=K)(hc:X.calm=true)(hg:Gl X "max")(hm:X.mg "max"=none)(ha:PE X e ta)(hd:PE X ed td)
 (he:starEach [e] X.env=(false,eval e X.env)::starEach [] X.env:=by rfl):PE X (.Call (.Name "max" p) [e] [⟨some "default",ed,kp⟩] pos) (tOp (xT K) ta td):=by
 subst hK;intro pins s σ H Q I h;refine wpAny_Call_Name_kw (fk I hg hm boot_max ?_ (by decide) (by decide));refine callWith_kw (thn (aa ha ac he pos pins s σ H (λvs H1=>match vs with | [x]=>td σ H1 λy H2=>xT X.K x y H2 Q |_=>False) I h) λus s1 ⟨vs,H1,I1,r1,q1⟩=>?_) (by rw[he];rfl) (by rw[he];rfl) rfl rfl
 obtain⟨x,rfl⟩:∃x,vs=[x]:=by
  match vs,q1 with
  | [x],_=>exact⟨x,rfl⟩
 obtain⟨u,rfl,ru⟩:=iN r1;refine kws_cons (thn (hd pins s1 σ H1 _ I1 q1) λv s2 ⟨y,H2,I2,ry,q2⟩=>kws_nil ?_);obtain⟨a,ns,rfl,hq,k0,k1⟩:=q2;cases ru;obtain⟨its,r',pl,hz⟩:=I2.list hq;obtain⟨ts,e1,e2⟩:=zo r';have il:=pl.isList;rw[e1]at il;refine KE (I2.ok.hd hc) il (λh0 h' tk k=>⟨y,H2,I2.kept k,ry,k0 ?_⟩) λM t h' tk hM k=>⟨.int M,H2,I2.kept k,⟨t,rfl⟩,?_⟩
 ·have:ts=[]:=by simpa using h0
  rw[<- e2,this];rfl
 ·obtain⟨m1,m2⟩:=BE hM;rw[e2]at m1 m2;exact k1 M m1 m2
end
theorem AF:∀{bs:List Bool} {us:List Value},Vals (bs.map V.bl) us->us=bs.map Value.bool
 | [],_,h=>by cases h;rfl
 |b::bs,_,h=>by
  cases h with
  |cons r rr =>cases r;rw[AF rr];rfl
theorem Lv(bs:List Bool):(List.range bs.length).any (λi=>bs.getD i false)=bs.any id:=by
 rw[Bool.eq_iff_iff,List.any_eq_true,List.any_eq_true];constructor
 ·rintro⟨i,hi,e⟩;have hi':=List.mem_range.mp hi;refine⟨bs[i],Od hi',?_⟩;simpa[List.getD,List.getElem?_eq_getElem hi']using e
 ·rintro⟨b,hb,e⟩;obtain⟨i,hi,rfl⟩:=List.getElem_of_mem hb;refine⟨i,List.mem_range.mpr hi,?_⟩;simpa[List.getD,List.getElem?_eq_getElem hi]using e
theorem KJ{X:Cx}{K:PySem.W.Frag}(hK:X.K=K)(hc:X.calm=true):CallR X (.builtin "any") (λxs H Q=>∃(p:Addr) (bs:List Bool),xs=[.ref p]/\SqL K H p (bs.map V.bl)/\Q (.bl (bs.any id)) H):=by
 subst hK;intro pins s σ H xs us Q I r h;obtain⟨p,bs,rfl,hq,q⟩:=h;obtain⟨u,rfl,rx⟩:=iN r;cases rx;obtain⟨its,r',pl,hz⟩:=I.list hq;have e:=AF r';subst e;have hl:=pl.isList;have hlt:p<s.heap.objs.size:=by obtain⟨_,e,_⟩:=hl;exact Heap.lt_size e
 refine call_any_walk (wpAny_pyIter_list hl ?_);refine⟨_,_,_,_,_,_,λi=>bs.getD i false,rfl,Walks.list (A:=X.A.in1) (I.ok.hd hc) _ p (Ng hlt) _,⟨⟨_,Heap.get?_push_size _ rfl,rfl,rfl⟩,hl.push _⟩,λi v s' Q' E' hP hQ=>?_,λh' tk hk=>?_⟩
 ·have e:v=.bool (bs.getD i false):=by have hP':((bs.map Value.bool).toArray)[i]?=some v:=hP;simp only[List.getElem?_toArray,List.getElem?_map,Option.map_eq_some_iff]at hP';obtain⟨b,hb,rfl⟩:=hP';simp[List.getD,hb]
  subst e;exact wpAny_truthy_bool hQ
 ·refine⟨.bl (bs.any id),H,I.kept (old_kept hk),?_,q⟩;show Value.bool _=Value.bool _;rw[<- Lv bs];simp
section
variable {X:Cx}
end
theorem zn:∀{ns:List Int} {us:List Value},Vals (ns.map V.int) us->∃l:List (Int×Tok),us=l.map (λp=>Value.int p.1 p.2)/\l.map (·.1)=ns
 | [],_,h=>by cases h;exact⟨[],rfl,rfl⟩
 |n::ns,_,h=>by
  cases h with
  |cons r rr =>obtain⟨t,rfl⟩:=r;obtain⟨l,rfl,e⟩:=zn rr;exact⟨(n,t)::l,rfl,by rw[NQ,e]⟩
theorem ya:∀(l:List (Int×Tok)) (n:Nat),n<=l.length->preSum (numAt l.toArray) n=((l.take n).map (·.1)).sum
 |l,0,_=>rfl
 |l,n+1,h=>by rw[preSum,ya l n (by omega),NX,List.getElem?_eq_getElem (by omega)];unfold numAt;rw[List.getElem?_toArray,List.getElem?_eq_getElem (by omega),Option.toList_some,Nu,List.sum_append];show _=_+(l[n].1+0);rw[NF];rfl
theorem KC{X:Cx}{K:PySem.W.Frag}(hK:X.K=K)(hc:X.calm=true):CallR X (.builtin "sum") (λxs H Q=>∃(p:Addr) (ns:List Int),xs=[.ref p]/\SqL K H p (ns.map V.int)/\Q (.int ns.sum) H):=by
 subst hK;intro pins s σ H xs us Q I r h;obtain⟨p,ns,rfl,hq,q⟩:=h;obtain⟨u,rfl,rx⟩:=iN r;cases rx;obtain⟨its,r',pl,hz⟩:=I.list hq;obtain⟨l,rfl,e⟩:=zn r'
 have hl:s.heap.IsList p (intItems l.toArray):=by
  have h1:=pl.isList;have e2:(l.map (λp=>Value.int p.1 p.2)).toArray=intItems l.toArray:=by unfold intItems;simp
  rw[<- e2];exact h1
 refine sum_intListG (I.ok.hd hc) hl λh' tk t' hk=>⟨.int ns.sum,H,I.kept hk,⟨t',?_⟩,q⟩
 have e3:preSum (numAt l.toArray) l.toArray.size=ns.sum:=by rw[Nl,ya l l.length (MZ _),Oe,e]
 rw[e3]
section
variable {X:Cx}{K:PySem.W.Frag}
end
noncomputable def bg:Nat:=67000000
section
variable {X:Cx}{K:PySem.W.Frag}
end
end L2
namespace RM
noncomputable def cf(l:List Int)(k:Nat):Int:=l.getD k 0
theorem cb(k:Nat):cf [] k=0:=by simp[cf]
theorem Ay(x:Int)(l:List Int):cf (x::l) 0=x:=rfl
theorem qf(x:Int)(l:List Int)(k:Nat):cf (x::l) (k+1)=cf l k:=rfl
theorem cc{l:List Int}{k:Nat}(h:l.length<=k):cf l k=0:=by unfold cf;rw[List.getD,List.getElem?_eq_none_iff.mpr h];rfl
theorem dk{l:List Int}{k:Nat}(h:k<l.length):cf l k=l[k]:=by unfold cf;rw[List.getD,List.getElem?_eq_getElem h];rfl
theorem AA{l:List Int}{k:Nat}{x:Int}(h:l[k]?=some x):cf l k=x:=by unfold cf;rw[List.getD,h];rfl
theorem g7{l:List Int}{k:Nat}(h:k<l.length):l[k]?=some (cf l k):=by rw[dk h,List.getElem?_eq_getElem h]
theorem AB{l r:List Int}{k:Nat}(h:k<l.length):cf (l++r) k=cf l k:=by unfold cf;rw[List.getD,List.getD,List.getElem?_append_left h]
theorem nj{l r:List Int}{k:Nat}(h:l.length<=k):cf (l++r) k=cf r (k-l.length):=by unfold cf;rw[List.getD,List.getD,List.getElem?_append_right h]
theorem ng{l:List Int}{j k:Nat}{x:Int}(h:j<l.length):cf (l.set j x) k=if k=j then x else cf l k:=by
 unfold cf;rw[List.getD,List.getD,List.getElem?_set];by_cases e:j=k
 ·subst e;simp[h]
 ·rw[if_neg e,if_neg (λz=>e z.symm)]
theorem nh(n k:Nat):cf (List.replicate n 0) k=0:=by unfold cf;rw[List.getD,List.getElem?_replicate];split<;>rfl
theorem ni(f:Nat->Int)(n k:Nat):cf ((List.range n).map f) k=if k<n then f k else 0:=by
 unfold cf;rw[List.getD,List.getElem?_map];by_cases h:k<n
 ·rw[if_pos h,List.getElem?_range h];rfl
 ·rw[if_neg h,List.getElem?_eq_none_iff.mpr (by simpa using h)];rfl
theorem cN{a b:List Int}(hl:a.length=b.length)(h:∀k,k<a.length->cf a k=cf b k):a=b:=by apply List.ext_getElem hl;intro k h1 h2;rw[<- dk h1,<- dk h2];exact h k h1
noncomputable def trim(l:List Int):List Int:=(l.reverse.dropWhile (· == 0)).reverse
theorem oa(l:List Int):trim (l++[0])=trim l:=by unfold trim;rw[OS];rfl
theorem kY(l:List Int){x:Int}(h:x≠0):trim (l++[x])=l++[x]:=by unfold trim;rw[OS];show((x::l.reverse).dropWhile (· == 0)).reverse=_;rw[List.dropWhile_cons_of_neg (by simpa using h)];simp
def Tr(l:List Int):Prop:=∀n,l.length=n+1->cf l n≠0
theorem cx(l:List Int):l=[]\/∃r x,l=r++[x]:=by
 cases h:l.reverse with
 |nil=>left;simpa using h
 |cons x r=>right;exact⟨r.reverse,x,by rw[<- List.reverse_reverse l,h];simp⟩
theorem kM(r:List Int)(x:Int):cf (r++[x]) r.length=x:=by rw[nj (MZ _),On];rfl
theorem BA:Tr []:=λn h=>by simp at h
theorem tr_snoc{r:List Int}{x:Int}:Tr (r++[x])↔x≠0:=by
 constructor
 ·intro h;have:=h r.length (by simp)
  rwa [kM]at this
 ·intro h n hn;have e:n=r.length:=by simp at hn;omega
  subst e
  rwa [kM]
theorem n8:∀(n:Nat) (l:List Int),l.length=n->Tr (trim l)/\(trim l).length<=l.length/\∀k,cf (trim l) k=cf l k
 |0,l,h=>by have:l=[]:=Of.mp h;subst this;exact⟨BA,MZ _,λ_=>rfl⟩
 |n+1,l,h=>by
  rcases cx l with rfl |⟨r,x,rfl⟩
  ·simp at h
  ·by_cases hx:x=0
   ·subst hx;obtain⟨h1,h2,h3⟩:=n8 n r (by simpa using h);rw[oa];refine⟨h1,by rw[Nk];exact Nd h2 (OT _ _),λk=>?_⟩;rw[h3];by_cases hk:k<r.length
    ·rw[AB hk]
    ·rw[nj (N2 hk),cc (N2 hk)];cases e:k-r.length with
     |zero=>rfl
     |succ j=>rw[qf,cb]
   ·rw[kY r hx];exact⟨tr_snoc.mpr hx,MZ _,λ_=>rfl⟩
theorem dZ(l:List Int):Tr (trim l):=(n8 _ l rfl).1
theorem sI(l:List Int):(trim l).length<=l.length:=(n8 _ l rfl).2.1
theorem fy(l:List Int)(k:Nat):cf (trim l) k=cf l k:=(n8 _ l rfl).2.2 k
theorem Bw{l:List Int}(h:Tr l):trim l=l:=by
 rcases cx l with rfl |⟨r,x,rfl⟩
 ·rfl
 ·exact kY r (tr_snoc.mp h)
theorem m8{a b:List Int}(ha:Tr a)(hb:Tr b)(h:∀k,cf a k=cf b k):a=b:=by
 have le:∀{a b:List Int},Tr a->(∀k,cf a k=cf b k)->a.length<=b.length:=λ{a b} ha h=>by
  cases e:a.length with
  |zero=>exact M9 _
  |succ n =>apply Classical.byContradiction;intro hn;exact ha n e (by rw[h n,cc (by omega)])
 have hl:a.length=b.length:=Nat.le_antisymm (le ha h) (le hb λk=>(h k).symm);exact cN hl λk _=>h k
theorem Bu{l:List Int}{n:Nat}(hn:n<l.length)(h:cf l n=0):trim (l.take (n+1))=trim (l.take n):=by rw[NX,g7 hn,h];exact oa _
theorem Bv{l:List Int}{n:Nat}(hn:n<l.length)(h:cf l n≠0):trim (l.take (n+1))=l.take (n+1):=by rw[NX,g7 hn];exact kY _ h
noncomputable def di(f:Int)(a b:List Int):List Int:=(List.range (max a.length b.length)).map λk=>cf a k+f*cf b k
theorem fY(f:Int)(a b:List Int)(k:Nat):cf (di f a b) k=cf a k+f*cf b k:=by
 unfold di;rw[ni];by_cases h:k<max a.length b.length
 ·rw[if_pos h]
 ·have h1:a.length<=k:=by omega
  have h2:b.length<=k:=by omega
  rw[if_neg h,cc h1,cc h2];simp
noncomputable def fA(a b:List Int):List Int:=trim (di 1 a b)
noncomputable def cj(a b:List Int):List Int:=trim (di (-1) a b)
noncomputable def tm(a b:List Int)(n i:Nat):Int:=if i<=n then cf a i*cf b (n-i)else 0
noncomputable def sm(a b:List Int)(n:Nat):Nat->Int
 |0=>0
 |j+1=>sm a b n j+tm a b n j
noncomputable def au(a b:List Int)(n:Nat):Int:=sm a b n a.length
noncomputable def ae(a b:List Int):List Int:=if a=[]\/b=[]then[]else(List.range (a.length+b.length-1)).map (au a b)
theorem BF{a b:List Int}{n i:Nat}(h:a.length<=i):tm a b n i=0:=by
 unfold tm;split
 ·rw[cc h,NB]
 ·rfl
theorem oh{a b:List Int}{n i:Nat}(h:b.length<=n-i):tm a b n i=0:=by
 unfold tm;split
 ·rw[cc h,Nx]
 ·rfl
theorem lw{a b:List Int}{n:Nat}:∀{j:Nat},(∀i,i<j->tm a b n i=0)->sm a b n j=0
 |0,_=>rfl
 |j+1,h=>by rw[sm,lw λi hi=>h i (Nat.lt_succ_of_lt hi),h j (N0 _)];rfl
theorem yJ{a b:List Int}{n:Nat}(h:a.length+b.length<=n+1):au a b n=0:=by apply lw;intro i hi;exact oh (by omega)
theorem rV{a b:List Int}{la lb:Nat}(ha:a.length=la+1)(hb:b.length=lb+1):au a b (la+lb)=cf a la*cf b lb:=by unfold au;rw[ha,sm,lw λi hi=>oh (by omega)];unfold tm;rw[if_pos (OT _ _),Nat.add_sub_cancel_left,NO]
theorem aI(a b:List Int)(n:Nat):cf (ae a b) n=au a b n:=by
 unfold ae;by_cases h:a=[]\/b=[]
 ·rw[if_pos h,cb]
  symm
  apply lw;intro i hi;rcases h with rfl |rfl
  ·simp at hi
  ·exact oh (M9 _)
 ·rw[if_neg h,ni];by_cases hn:n<a.length+b.length-1
  ·rw[if_pos hn]
  ·rw[if_neg hn,yJ (by omega)]
theorem og{a b:List Int}(ha:Tr a)(hb:Tr b):Tr (ae a b):=by
 intro n hn;rw[aI];by_cases h:a=[]\/b=[]
 ·unfold ae at hn;rw[if_pos h]at hn;simp at hn
 ·have h1:a≠[]:=λz=>h (.inl z)
  have h2:b≠[]:=λz=>h (.inr z)
  obtain⟨la,ea⟩:∃la,a.length=la+1:=⟨a.length-1,by have:=M5.mpr h1;omega⟩;obtain⟨lb,eb⟩:∃lb,b.length=lb+1:=⟨b.length-1,by have:=M5.mpr h2;omega⟩;unfold ae at hn
  rw[if_neg h,MY,N4]at hn;have e:n=la+lb:=by omega
  subst e;rw[rV ea eb];exact No (ha la ea) (hb lb eb)
theorem yK{a b acc:List Int}{j k:Nat}(hj:j<a.length)(hk:k<b.length)(hl:j+k<acc.length)
 (h:∀n,n<acc.length->cf acc n=sm a b n j+(if j<=n/\n-j<k then tm a b n j else 0)) :
 ∀n,n<(acc.set (j+k) (cf acc (j+k)+cf a j*cf b k)).length->cf (acc.set (j+k) (cf acc (j+k)+cf a j*cf b k)) n=sm a b n j+(if j<=n/\n-j<k+1 then tm a b n j else 0):=by
 intro n hn;rw[Ow]at hn;rw[ng hl];by_cases e:n=j+k
 ·subst e;rw[if_pos rfl,h _ hl,if_neg (by omega),if_pos ⟨by omega,by omega⟩];unfold tm;rw[if_pos (by omega),Nat.add_sub_cancel_left,NF]
 ·rw[if_neg e,h n hn]
  congr 1
  by_cases h1:j<=n/\n-j<k
  ·rw[if_pos h1,if_pos ⟨h1.1,by omega⟩]
  ·rw[if_neg h1,if_neg (by omega)]
theorem yM{a b acc:List Int}{j:Nat}(h:∀n,n<acc.length->cf acc n=sm a b n j+(if j<=n/\n-j<b.length then tm a b n j else 0)):∀n,n<acc.length->cf acc n=sm a b n (j+1):=by
 intro n hn;rw[h n hn,sm]
 congr 1
 by_cases h1:j<=n/\n-j<b.length
 ·rw[if_pos h1]
 ·rw[if_neg h1];by_cases h2:j<=n
  ·rw[oh (by omega)]
  ·unfold tm;rw[if_neg h2]
theorem yL{a b acc:List Int}{j:Nat}(h:∀n,n<acc.length->cf acc n=sm a b n j):∀n,n<acc.length->cf acc n=sm a b n j+(if j<=n/\n-j<0 then tm a b n j else 0):=by intro n hn;rw[if_neg (by omega),NF];exact h n hn
theorem yN{a b acc:List Int}(hl:a.length+b.length<=acc.length+1)(h:∀n,n<acc.length->cf acc n=sm a b n a.length)(n:Nat):cf acc n=au a b n:=by
 by_cases hn:n<acc.length
 ·exact h n hn
 ·rw[cc (N2 hn),yJ (by omega)]
theorem Ly(a b:List Int):trim ((List.range (max a.length b.length)).map λk=>cf a k+cf b k)=fA a b:=by
 unfold fA di
 congr 2;funext k;rw[Nh]
theorem BX(a b:List Int):trim ((List.range (max a.length b.length)).map λk=>cf a k-cf b k)=cj a b:=by
 unfold cj di
 congr 2;funext k;omega
noncomputable def dv(t b:Int):Int:=if b<0 then -((Nat.gcd t.natAbs b.natAbs:Nat):Int)else((Nat.gcd t.natAbs b.natAbs:Nat):Int)
noncomputable def rt(t b:Int):Int:=t.fdiv (dv t b)
noncomputable def rb(t b:Int):Int:=b.fdiv (dv t b)
theorem kI{t b:Int}(hb:b≠0):0<Nat.gcd t.natAbs b.natAbs:=Nat.gcd_pos_of_pos_right _ (NP.mpr hb)
theorem qc{t b:Int}(hb:b≠0):dv t b≠0:=by have:=@kI t b hb;unfold dv;split<;>omega
theorem ii(t b:Int):(dv t b).natAbs=Nat.gcd t.natAbs b.natAbs:=by unfold dv;split<;>omega
theorem Ki(t b:Int):dv t b∣t:=O7.mp (by rw[ii];exact N5 _ _)
theorem Kh(t b:Int):dv t b∣b:=O7.mp (by rw[ii];exact Oo _ _)
theorem zK{a d:Int}(hd:d≠0)(h:d∣a):d*a.fdiv d=a:=by obtain⟨c,rfl⟩:=h;rw[Int.mul_fdiv_cancel_left c hd]
theorem kg{t b:Int}(hb:b≠0):dv t b*rt t b=t:=zK (qc hb) (Ki t b)
theorem gB{t b:Int}(hb:b≠0):dv t b*rb t b=b:=zK (qc hb) (Kh t b)
theorem dI{t b:Int}(hb:b≠0):0<rb t b:=by
 have h1:=@gB t b hb;have h2:=@kI t b hb;by_cases hn:b<0
 ·have hd:dv t b<0:=by unfold dv;rw[if_pos hn];omega
  apply Classical.byContradiction;intro h;have:0<=dv t b*rb t b:=O8 (M7 hd) (by omega);omega
 ·have hd:0<dv t b:=by unfold dv;rw[if_neg hn];omega
  apply Classical.byContradiction;intro h;have:dv t b*rb t b<=0:=Int.mul_nonpos_of_nonneg_of_nonpos (M7 hd) (by omega);omega
theorem kj{t b:Int}(hb:b≠0):Nat.gcd (rt t b).natAbs (rb t b).natAbs=1:=by
 have h1:t.natAbs=Nat.gcd t.natAbs b.natAbs*(rt t b).natAbs:=by rw[<- ii,<- Nf,kg hb]
 have h2:b.natAbs=Nat.gcd t.natAbs b.natAbs*(rb t b).natAbs:=by rw[<- ii,<- Nf,gB hb]
 have hp:=@kI t b hb
 have e:Nat.gcd t.natAbs b.natAbs=Nat.gcd t.natAbs b.natAbs*Nat.gcd (rt t b).natAbs (rb t b).natAbs:=by rw[<- Nat.gcd_mul_left,<- h1,<- h2]
 exact(Pf hp (by rw[Nat.mul_one];exact e)).symm
theorem eU{t b:Int}(hb:b≠0):rt t b*b=t*rb t b:=by
 have e1:=@kg t b hb;have e2:=@gB t b hb
 calc rt t b*b=rt t b*(dv t b*rb t b):=by rw[e2]
  _=(dv t b*rt t b)*rb t b:=by rw[<- NG,Ni (rt t b)]
  _=t*rb t b:=by rw[e1]
theorem Dn{t b:Int}(hb:b≠0):(rt t b).natAbs<=t.natAbs:=by
 have h1:t.natAbs=Nat.gcd t.natAbs b.natAbs*(rt t b).natAbs:=by rw[<- ii,<- Nf,kg hb]
 rw[h1];exact OU _ (kI hb)
theorem DG{t b:Int}(hb:b≠0):(rb t b).natAbs<=b.natAbs:=by
 have h1:b.natAbs=Nat.gcd t.natAbs b.natAbs*(rb t b).natAbs:=by rw[<- ii,<- Nf,gB hb]
 rw[h1];exact OU _ (kI hb)
noncomputable def sg(x:Int):Int:=if x<0 then -1 else if 0<x then 1 else 0
theorem Cu(x:Int):sg (-x) = -sg x:=by unfold sg;split<;>split<;>(try split)<;>(try split)<;>omega
theorem q8{x p:Int}(hp:0<p):sg (x*p)=sg x:=by
 unfold sg;by_cases h1:x<0
 ·rw[if_pos h1,if_pos (Pg h1 hp)]
 ·by_cases h2:0<x
  ·have:=M8 h2 hp;rw[if_neg h1,if_pos h2,if_neg (by omega),if_pos this]
  ·obtain rfl:x=0:=by omega
   simp
noncomputable def hv(t b:Int):List Int->Int
 | []=>0
 |v::l=>v*b^(l.length+1)+t*hv t b l
theorem pT(t b:Int):hv t b []=0:=rfl
theorem cX(t b v:Int)(l:List Int):hv t b (v::l)=v*b^(l.length+1)+t*hv t b l:=rfl
noncomputable def mb(a b:Int):Int->List Int->List Int
 |c,[]=>[c]
 |c,x::l=>(-a*x+c)::mb a b (b*x) l
theorem pH(a b:Int):∀(c:Int) (l:List Int),(mb a b c l).length=l.length+1
 |c,[]=>rfl
 |c,x::l=>by show(mb a b (b*x) l).length+1=_;rw[pH];rfl
theorem io(a b:Int):∀(c:Int) (l:List Int) (k:Nat),cf (mb a b c l) k = -a*cf l k+(if k=0 then c else b*cf l (k-1))
 |c,[],0=>by show c=_;rw[cb];simp
 |c,[],k+1=>by show cf [] k=_;rw[cb,cb];simp[cb]
 |c,x::l,0=>rfl
 |c,x::l,k+1=>by
  show cf (mb a b (b*x) l) k=_;rw[io a b (b*x) l k,qf,if_neg (Nat.succ_ne_zero k)];cases k with
  |zero=>rfl
  |succ k=>rw[if_neg (Nat.succ_ne_zero k)];rfl
theorem zv(t u a b:Int):∀(c:Int) (l:List Int),hv t u (mb a b c l)=c*u^(l.length+1)+(b*t-a*u)*hv t u l
 |c,[]=>by show c*u^1+t*0=c*u^1+(b*t-a*u)*0;simp
 |c,x::l=>by show(-a*x+c)*u^((mb a b (b*x) l).length+1)+t*hv t u (mb a b (b*x) l)=c*u^(l.length+1+1)+(b*t-a*u)*(x*u^(l.length+1)+t*hv t u l);rw[zv t u a b (b*x) l,pH];generalize hv t u l=h;rw[Nm u (l.length+1)];generalize u^(l.length+1)=p;grind
theorem KA(x y:Int)(k:Nat):cf [x,y] k=if k=0 then x else if k=1 then y else 0:=by
 rcases k with _ |_ |k
 ·rfl
 ·rfl
 ·rw[if_neg (by omega),if_neg (by omega)];exact cc (by simp)
theorem xj(l:List Int)(x y:Int)(n:Nat):∀j,sm l [x,y] n j=(if n<j then cf l n*x else 0)+(if 1<=n/\n-1<j then cf l (n-1)*y else 0)
 |0=>by rw[if_neg (by omega),if_neg (by omega)];rfl
 |j+1=>by
  show sm l [x,y] n j+tm l [x,y] n j=_;rw[xj l x y n j];unfold tm;rw[KA];by_cases h1:n<j
  ·rw[if_pos h1,if_neg (show ¬j<=n by omega),if_pos (show n<j+1 by omega),NF];by_cases h2:1<=n
   ·rw[if_pos ⟨h2,by omega⟩,if_pos ⟨h2,by omega⟩]
   ·rw[if_neg (λz=>h2 z.1),if_neg (λz=>h2 z.1)]
  ·rw[if_neg h1,if_pos (show j<=n by omega),NO];by_cases h2:n=j
   ·subst h2;rw[On,if_pos rfl,if_pos (N0 _),Int.add_comm];by_cases h3:1<=n
    ·rw[if_pos ⟨h3,by omega⟩,if_pos ⟨h3,by omega⟩]
    ·rw[if_neg (λz=>h3 z.1),if_neg (λz=>h3 z.1)]
   ·rw[if_neg (show ¬n-j=0 by omega),if_neg (show ¬n<j+1 by omega),NO,if_neg (show ¬(1<=n/\n-1<j) by omega),NO];by_cases h3:n-j=1
    ·rw[if_pos h3,if_pos (show 1<=n/\n-1<j+1 by omega),show n-1=j by omega]
    ·rw[if_neg h3,if_neg (show ¬(1<=n/\n-1<j+1) by omega),Nx]
theorem Gb{a b:Int}{l:List Int}(h:l≠[]):ae l [-a,b]=mb a b 0 l:=by
 apply cN
 ·rw[pH];unfold ae;rw[if_neg (by simp[h]),MY,N4];simp
 ·intro k _;rw[aI,io];unfold au;rw[xj]
  have e1:(if k<l.length then cf l k * -a else 0) = -a*cf l k:=by
   by_cases hk:k<l.length
   ·rw[if_pos hk,Ni]
   ·rw[if_neg hk,cc (N2 hk),Nx]
  have e2:(if 1<=k/\k-1<l.length then cf l (k-1)*b else 0)=if k=0 then 0 else b*cf l (k-1):=by
   by_cases h0:k=0
   ·rw[if_neg (by omega),if_pos h0]
   ·rw[if_neg h0];by_cases hk:k-1<l.length
    ·rw[if_pos (by omega),Ni]
    ·rw[if_neg (by omega),cc (N2 hk),Nx]
  rw[e1,e2]
theorem pR(g t b:Int):∀l:List Int,hv (g*t) (g*b) l=g^l.length*hv t b l
 | []=>by simp[pT]
 |v::l=>by rw[cX,cX,pR g t b l,Int.mul_pow];show v*(g^(l.length+1)*b^(l.length+1))+g*t*(g^l.length*hv t b l)=g^(l.length+1)*(v*b^(l.length+1)+t*hv t b l);rw[Nm g l.length];generalize b^(l.length+1)=p;generalize g^l.length=q;generalize hv t b l=h;grind
theorem D9{g:Int}(h:0<g)(n:Nat):0<g^n:=by
 induction n with
 |zero=>simp
 |succ n ih=>rw[Nm];exact M8 ih h
def At(l:List Int)(t b top bot:Int):Prop:=hv t b l*bot=top*b^l.length
theorem At.sign{l:List Int}{t b top bot:Int}(hb:0<b)(hbot:0<bot)(h:At l t b top bot):sg (hv t b l)=sg top:=by
 unfold At at h
 rw[<- q8 (x:=hv t b l) hbot,h,q8 (D9 hb _)]
theorem mL(t u c:Int):hv t u [c]=c*u:=by show c*u^1+t*0=c*u;grind
theorem Kk(t b:Int){l:List Int}{n:Nat}(h:n<l.length):hv t b (l.drop n)=cf l n*b^(l.length-n)+t*hv t b (l.drop (n+1)):=by
 rw[Ph h,cX,Oi,dk h];have e:l.length-(n+1)+1=l.length-n:=by omega
 rw[e]
noncomputable def chF(z:Int×Int)(s:Int):Int×Int:=(if s*z.2<0 then z.1+1 else z.1,if s=0 then z.2 else s)
noncomputable def chS(l:List Int):Int×Int:=l.foldl chF (0,0)
theorem Av(l:List Int)(s:Int):chS (l++[s])=chF (chS l) s:=by unfold chS;rw[List.foldl_append];rfl
theorem q5(x:Int):sg x=0↔x=0:=by unfold sg;split<;>(try split)<;>omega
theorem Aw:∀(n:Nat) (l:List Int),l.length=n->(∀s∈l,s.natAbs<=1)->(chS l).2.natAbs<=1/\0<=(chS l).1/\(chS l).1<=l.length
 |n,l,hn,h=>by
  rcases cx l with rfl |⟨r,s,rfl⟩
  ·decide
  ·have hr:r.length+1=n:=by rw[<- hn,Nk];rfl
   obtain⟨i1,i2,i3⟩:=Aw (n-1) r (by omega) (λx hx=>h x (Ov _ hx));have hs:=h s (by simp);rw[Av];unfold chF;refine⟨?_,?_,?_⟩
   ·dsimp only;split
    ·exact i1
    ·exact hs
   ·dsimp only;split<;>omega
   ·dsimp only;rw[Nk];show _<=((r.length+1:Nat):Int);split<;>omega
termination_by n=>n
theorem Ky(l:List Int)(h:∀s∈l,s.natAbs<=1):(chS l).2.natAbs<=1/\0<=(chS l).1/\(chS l).1<=l.length:=Aw _ l rfl h
theorem xC(x:Int):(sg x).natAbs<=1:=by unfold sg;split<;>(try split)<;>decide
theorem xn{q q' b:List Int}{c l:Int}{p n:Nat}(h:∀k,cf q' k=c*cf q k+(if k=p then l else 0)) :
 ∀j,sm q' b n j=c*sm q b n j+(if p<j/\p<=n then l*cf b (n-p)else 0)
 |0=>by rw[sm,sm,if_neg (by omega)];simp
 |j+1=>by
  rw[sm,sm,xn h j];unfold tm;by_cases hj:j<=n
  ·rw[if_pos hj,if_pos hj,h j];by_cases e:j=p
   ·subst e;rw[if_pos rfl,if_neg (by omega),if_pos ⟨by omega,hj⟩];grind
   ·rw[if_neg e];by_cases h2:p<j/\p<=n
    ·rw[if_pos h2,if_pos ⟨by omega,h2.2⟩];grind
    ·rw[if_neg h2,if_neg (by omega)];grind
  ·rw[if_neg hj,if_neg hj];by_cases h2:p<j/\p<=n
   ·rw[if_pos h2,if_pos ⟨by omega,h2.2⟩];grind
   ·rw[if_neg h2,if_neg (by omega)];grind
theorem Ga{q q' b:List Int}{c l:Int}{p n:Nat}(hl:q'.length=q.length)(hp:p<q.length)(h:∀k,cf q' k=c*cf q k+(if k=p then l else 0)) :
 au q' b n=c*au q b n+(if p<=n then l*cf b (n-p)else 0):=by
 unfold au;rw[hl,xn h];by_cases h2:p<=n
 ·rw[if_pos h2,if_pos ⟨hp,h2⟩]
 ·rw[if_neg h2,if_neg (by omega)]
noncomputable def scL(c:Int)(l:List Int):List Int:=l.map λx=>c*x
theorem bZ(c:Int)(l:List Int):(scL c l).length=l.length:=by unfold scL;rw[MY]
theorem ba(c:Int)(l:List Int)(k:Nat):cf (scL c l) k=c*cf l k:=by
 by_cases h:k<l.length
 ·unfold cf scL;simp[h]
 ·rw[cc (by rw[bZ];omega),cc (by omega)];simp
noncomputable def gQ(r b:List Int)(p:Nat)(l:Int):List Int:=(List.range (r.length-1)).map λk=>cf r k-(if p<=k then l*cf b (k-p)else 0)
theorem zb(r b:List Int)(p:Nat)(l:Int):(gQ r b p l).length=r.length-1:=by unfold gQ;simp
theorem qh(r b:List Int)(p:Nat)(l:Int)(k:Nat):cf (gQ r b p l) k=if k<r.length-1 then cf r k-(if p<=k then l*cf b (k-p)else 0)else 0:=by unfold gQ;rw[ni]
theorem Cr(x:Int):sg x*x=(x.natAbs:Int):=by unfold sg;split<;>(try split)<;>omega
noncomputable def cG(b:List Int)(z:List Int×List Int)(i:Nat):List Int×List Int :=
 let s:Int:=((cf b (b.length-1)).natAbs:Int)
 let l:=sg (cf b (b.length-1))*cf z.2 (z.2.length-1)
 ((scL s z.1).set i l,gQ (scL s z.2) b i l)
noncomputable def aM(a b:List Int):Nat->List Int×List Int
 |0=>(List.replicate (a.length+1-b.length) 0,a)
 |i+1=>cG b (aM a b i) (a.length+1-b.length-1-i)
structure DivInv(a b:List Int)(i:Nat):Prop where
 lq:(aM a b i).1.length=a.length+1-b.length
 lr:(aM a b i).2.length=a.length-i
 low:∀k,k+i<a.length+1-b.length->cf (aM a b i).1 k=0
 eqn:∀n,((cf b (b.length-1)).natAbs:Int)^i*cf a n=au (aM a b i).1 b n+cf (aM a b i).2 n
theorem rT{a b:List Int}{n:Nat}(h:∀k,cf a k=0):au a b n=0:=by apply lw;intro i _;unfold tm;rw[h i];simp
theorem Km{A B i:Nat}(hi:i+1<=A+1-B)(hb:0<B):∃p,A+1-B=p+i+1/\p+i+B=A:=⟨A-B-i,by omega,by omega⟩
theorem Ac(p i:Nat):p<p+i+1:=Nat.lt_succ_of_le (OT _ _)
theorem qd{P A C M R:Int}(en:P*A=M+R):P*C*A=C*M+C*R:=by rw[Int.mul_right_comm,en,Ni,Int.mul_add]
theorem Kn(x y z:Int):x+y=x+z+(y-z):=by omega
theorem ij{a b:List Int}(hb:b≠[]):∀i,i<=a.length+1-b.length->DivInv a b i
 |0,_=>⟨by simp[aM],by simp[aM],λk _=>by show cf (List.replicate _ 0) k=0;rw[nh],λn=>by
  show _=au (List.replicate _ 0) b n+cf a n
  rw[rT λk=>nh _ _];simp⟩
 |i+1,hi=>by
  obtain⟨lq,lr,low,eqn⟩:=ij (a:=a) hb i (Nat.le_of_succ_le hi);have hbl:=M5.mpr hb;have e:aM a b (i+1)=cG b (aM a b i) (a.length+1-b.length-1-i):=rfl;generalize aM a b i=z at e lq lr low eqn
  obtain⟨p,ep,ed⟩:=Km hi hbl;rw[ep,show p+i+1-1-i=p from Nat.add_sub_cancel _ _]at e;rw[ep]at lq low;have lz:z.2.length=p+b.length:=by rw[lr,<- ed,Nat.add_right_comm,Nat.add_sub_cancel]
  have hp:p<(scL ((cf b (b.length-1)).natAbs:Int) z.1).length:=by rw[bZ,lq];exact Ac p i
  have hq:∀k,cf (cG b z p).1 k=((cf b (b.length-1)).natAbs:Int)*cf z.1 k+(if k=p then sg (cf b (b.length-1))*cf z.2 (z.2.length-1)else 0):=by
   intro k;unfold cG;dsimp only
   rw[ng hp,ba];by_cases h:k=p
   ·rw[if_pos h,if_pos h,low k (by rw[h];exact N0 _)];simp
   ·rw[if_neg h,if_neg h];simp
  have hlq:(cG b z p).1.length=p+i+1:=by unfold cG;dsimp only;rw[Ow,bZ,lq]
  refine⟨?_,?_,?_,?_⟩
  ·rw[e,hlq,ep]
  ·rw[e];unfold cG;dsimp only;rw[zb,bZ,lr];rfl
  ·intro k hk;rw[ep]at hk;have hk':k<p:=by clear lq lr low eqn hp hq hlq lz e ep ed;omega
   rw[e,hq,if_neg (Ng hk'),low k (Nat.lt_trans (Nat.add_lt_add_right hk' i) (N0 _))];simp
  ·intro n;rw[e,Ga (by rw[hlq,lq]) (by rw[lq];exact Ac p i) hq,Nm];have en:=eqn n;unfold cG;dsimp only
   rw[qh,bZ,ba,lz];clear lq lr low eqn hp hq hlq e ep ed;by_cases h1:n<p+b.length-1
   ·rw[if_pos h1];by_cases h2:p<=n
    ·rw[if_pos h2,qd en];exact Kn _ _ _
    ·rw[if_neg h2,qd en,NF,Int.sub_zero]
   ·rw[if_neg h1];have h2:p<=n:=by clear en;omega
    by_cases h3:n=p+b.length-1
    ·have h4:n-p=b.length-1:=by clear en;omega
     rw[if_pos h2,h4];have sg:=Cr (cf b (b.length-1));rw[<- h3,qd en,NF,Int.mul_right_comm,sg]
    ·have hc:cf z.2 n=0:=cc (by rw[lz];clear en;omega);rw[if_pos h2,cc (l:=b) (k:=n-p) (by clear en;omega),qd en,hc,Nx,Nx,NF,NF]
theorem Aa{a b:List Int}(hb:b≠[])(ha:Tr a)(hbt:Tr b):∀i,i+1<=a.length+1-b.length->cf (aM a b (i+1)).1 (a.length+1-b.length-1)≠0
 |0,h=>by
  obtain⟨lq,lr,_,_⟩:=ij (a:=a) hb 0 (by omega);have hbl:=M5.mpr hb;show cf (cG b (aM a b 0) _).1 _≠0;unfold cG;dsimp only
  rw[ng (by rw[bZ,lq];omega),if_pos (by omega)];have hb1:=hbt (b.length-1) (by omega);have ha1:=ha (a.length-1) (by omega);refine No ?_ ?_
  ·unfold sg;split<;>(try split)<;>omega
  ·rw[lr];exact ha1
 |i+1,h=>by
  have ih:=Aa hb ha hbt i (by omega);obtain⟨lq,lr,_,_⟩:=ij (a:=a) hb (i+1) (by omega);have hbl:=M5.mpr hb;show cf (cG b (aM a b (i+1)) _).1 _≠0;unfold cG;dsimp only
  have hN:∀n,i+1+1<=n->¬n-1=n-1-(i+1):=λn hn e=>by omega
  rw[ng (by rw[bZ,lq];omega),if_neg (hN _ h),ba];have hb1:=hbt (b.length-1) (by omega);refine No ?_ ih;omega
noncomputable def aW(a b:List Int):Nat:=a.length+1-b.length
noncomputable def bU(a b:List Int):Int:=((cf b (b.length-1)).natAbs:Int)^aW a b
noncomputable def bN(a b:List Int):List Int:=(aM a b (aW a b)).1
noncomputable def aK(a b:List Int):List Int:=trim (aM a b (aW a b)).2
theorem fU{a b:List Int}(hb:b≠[])(n:Nat):bU a b*cf a n=au (bN a b) b n+cf (aK a b) n:=by unfold aK bN bU;rw[fy];exact(ij hb (aW a b) (MZ _)).eqn n
theorem fx{a b:List Int}(hb:b≠[]):(aK a b).length<b.length:=by
 have h:=(ij (a:=a) hb (aW a b) (MZ _)).lr;have h2:=sI (aM a b (aW a b)).2;have hbl:=M5.mpr hb;unfold aK;unfold aW at *
 omega
theorem uL{a b:List Int}(hb:b≠[]):(bN a b).length=aW a b:=(ij (a:=a) hb (aW a b) (MZ _)).lq
theorem uJ{a b:List Int}(hb:b≠[])(ha:Tr a)(hbt:Tr b):Tr (bN a b):=by
 intro n hn;rw[uL hb]at hn;have h:=Aa hb ha hbt n (by unfold aW at hn;omega);unfold bN;rw[hn];have:a.length+1-b.length-1=n:=by unfold aW at hn;rw[hn];rfl
 rwa [this]at h
theorem eG(a b:List Int):Tr (aK a b):=dZ _
theorem xr{a a' b b':List Int}{n:Nat}(h1:∀k,cf a k=cf a' k)(h2:∀k,cf b k=cf b' k):∀j,sm a b n j=sm a' b' n j
 |0=>rfl
 |j+1=>by rw[sm,sm,xr h1 h2 j];unfold tm;rw[h1 j,h2 (n-j)]
theorem xo{a b:List Int}{n:Nat}:∀d,sm a b n (a.length+d)=au a b n
 |0=>rfl
 |d+1=>by rw[<- Nat.add_assoc,sm,xo d,BF (by omega)];omega
theorem ly{a b:List Int}{n N:Nat}(h:a.length<=N):sm a b n N=au a b n:=by obtain⟨d,rfl⟩:=Nat.exists_eq_add_of_le h;exact xo d
theorem pB{a a' b b':List Int}{n:Nat}(h1:∀k,cf a k=cf a' k)(h2:∀k,cf b k=cf b' k):au a b n=au a' b' n:=by rw[<- ly (Nat.le_max_left a.length a'.length),<- ly (Nat.le_max_right a.length a'.length)];exact xr h1 h2 _
theorem xl{a b c q:List Int}{x y:Int}{n:Nat}(h:∀k,cf c k=x*cf a k+y*cf b k):∀j,sm c q n j=x*sm a q n j+y*sm b q n j
 |0=>by simp[sm]
 |j+1=>by
  rw[sm,sm,sm,xl h j];unfold tm;rw[h j];by_cases hj:j<=n
  ·rw[if_pos hj,if_pos hj,if_pos hj];grind
  ·rw[if_neg hj,if_neg hj,if_neg hj];grind
theorem dD{a b c q:List Int}{x y:Int}{n:Nat}(h:∀k,cf c k=x*cf a k+y*cf b k):au c q n=x*au a q n+y*au b q n:=by
 have h1:a.length<=a.length+b.length+c.length:=by omega
 have h2:b.length<=a.length+b.length+c.length:=by omega
 have h3:c.length<=a.length+b.length+c.length:=by omega
 rw[<- ly h1,<- ly h2,<- ly h3];exact xl h _
theorem xk{a b b':List Int}{c:Int}{n:Nat}(h:∀k,cf b' k=c*cf b k):∀j,sm a b' n j=c*sm a b n j
 |0=>by simp[sm]
 |j+1=>by
  rw[sm,sm,xk h j];unfold tm;rw[h (n-j)];by_cases hj:j<=n
  ·rw[if_pos hj,if_pos hj];grind
  ·rw[if_neg hj,if_neg hj];grind
theorem mf{a b b':List Int}{c:Int}{n:Nat}(h:∀k,cf b' k=c*cf b k):au a b' n=c*au a b n:=xk h _
theorem fM(c:Int)(l:List Int)(n:Nat):au [c] l n=c*cf l n:=by unfold au;show sm [c] l n 0+tm [c] l n 0=_;unfold sm tm;rw[if_pos (M9 _),Ay,N6,NO]
theorem rQ{l:List Int}(ht:Tr l)(h:∀k,cf l k=0):l=[]:=by
 refine Classical.byContradiction λhne=>?_
 have hl:=M5.mpr hne;exact ht (l.length-1) (by omega) (h _)
theorem yG{d q:List Int}(hq:q≠[])(hqt:Tr q)(h:∀n,q.length<=n+1->au d q n=0):∀k,cf d k=0:=by
 have e:trim d=[]:=by
  refine Classical.byContradiction λhne=>?_
  have hl:=M5.mpr hne;have hql:=M5.mpr hq;have ht:=dZ d ((trim d).length-1) (by omega);have hb:=hqt (q.length-1) (by omega);have h1:=h ((trim d).length-1+(q.length-1)) (by omega);rw[<- pB (a:=trim d) (b:=q) (λk=>fy d k) (λ_=>rfl),rV (la:=(trim d).length-1) (lb:=q.length-1) (by omega) (by omega)]at h1;exact No ht hb h1
 intro k;rw[<- fy,e,cb]
theorem m9{a b:List Int}(hb:b≠[])(hbt:Tr b):bU a b≠0:=by
 have hbl:=M5.mpr hb;have h:=hbt (b.length-1) (by omega);have h1:((cf b (b.length-1)).natAbs:Int)≠0:=by omega
 unfold bU;generalize aW a b=n
 induction n with
 |zero=>rw[NT];decide
 |succ n ih=>rw[Nm];exact No ih h1
noncomputable def dF(d:Nat)(l:List Int):Nat:=l.foldl (λd v=>Nat.gcd d v.natAbs) d
noncomputable def aw(l:List Int):Nat:=dF 0 l
theorem pX(d:Nat):dF d []=d:=rfl
theorem fR(d:Nat)(v:Int)(l:List Int):dF d (v::l)=dF (Nat.gcd d v.natAbs) l:=rfl
theorem IH(d:Nat)(l:List Int)(v:Int):dF d (l++[v])=Nat.gcd (dF d l) v.natAbs:=by unfold dF;rw[List.foldl_append];rfl
theorem ID(l:List Int)(v:Int):aw (l++[v])=Nat.gcd (aw l) v.natAbs:=IH 0 l v
theorem zT{m:Nat}:∀{l:List Int} {d:Nat},m∣dF d l↔m∣d/\∀v∈l,m∣v.natAbs
 | [],d=>by simp[pX]
 |v::l,d=>by rw[fR,zT,Nat.dvd_gcd_iff];simp only[Na,forall_eq_or_imp];exact⟨λ⟨⟨a,b⟩,c⟩=>⟨a,b,c⟩,λ⟨a,b,c⟩=>⟨⟨a,b⟩,c⟩⟩
theorem dvd_gcdL{m:Nat}{l:List Int}:m∣aw l↔∀v∈l,m∣v.natAbs:=by unfold aw;rw[zT];exact⟨λh=>h.2,λh=>⟨Nat.dvd_zero m,h⟩⟩
theorem pV{l:List Int}{v:Int}(h:v∈l):aw l∣v.natAbs:=dvd_gcdL.mp (Nat.dvd_refl _) v h
theorem IF(v:Int):aw [v]=v.natAbs:=by show Nat.gcd 0 v.natAbs=_;exact OV _
theorem zB{a b:Int}(ha:0<=a)(hb:0<b):Nat.gcd b.natAbs (a%b).natAbs=Nat.gcd a.natAbs b.natAbs:=by
 have e:(a%b).natAbs=a.natAbs%b.natAbs:=by obtain⟨x,rfl⟩:=OW ha;obtain⟨y,rfl⟩:=OW (M7 hb);rfl
 rw[e,Ox,<- Nat.gcd_rec,Ox]
noncomputable def am(l:List Int):List Int:=l.map λx=>x/(aw l:Int)
noncomputable def ar(l:List Int):Int:=cf l (l.length-1)
theorem cM(r:List Int)(x:Int):ar (r++[x])=x:=by unfold ar;rw[Nk];exact kM r x
noncomputable def cr(l:List Int):List Int:=if ar l<0 then l.map λx => -x else l
noncomputable def aC(l:List Int):List Int:=cr (am l)
theorem wB{c:Int->Int}(h0:∀x,c x=0↔x=0):∀(n:Nat) (l:List Int),l.length=n->trim (l.map c)=(trim l).map c
 |0,l,h=>by rw[Of.mp h];rfl
 |n+1,l,h=>by
  rcases cx l with rfl |⟨r,x,rfl⟩
  ·rfl
  ·rw[Nu];show trim (r.map c++[c x])=_;by_cases hx:x=0
   ·subst hx;rw[(h0 0).mpr rfl,oa,oa];exact wB h0 n r (by simpa using h)
   ·rw[kY r hx,kY _ (λz=>hx ((h0 x).mp z)),Nu];rfl
def kT(l:List Int):Prop:=l=[]\/aw l=1
theorem Cm{l:List Int}(h:kT l):am l=l:=by
 rcases h with rfl |h
 ·rfl
 ·unfold am;rw[h]
  conv=>rhs;rw[<- List.map_id l]
  apply OI;intro x _;show x/1=x;exact Int.ediv_one x
theorem IG{l:List Int}{s:Int}(hs:s=1\/s = -1):aw (l.map λx=>x*s)=aw l:=by
 have key:∀m:Nat,m∣aw (l.map λx=>x*s)↔m∣aw l:=by
  intro m;rw[dvd_gcdL,dvd_gcdL]
  have e:∀x:Int,(x*s).natAbs=x.natAbs:=λx=>by
   rcases hs with rfl |rfl
   ·rw[Nw]
   ·rw[Int.mul_neg,Nw,Int.natAbs_neg]
  constructor
  ·intro h v hv;have:=h (v*s) (Nc.mpr ⟨v,hv,rfl⟩)
   rwa [e]at this
  ·intro h v hv;obtain⟨u,hu,rfl⟩:=Nc.mp hv;rw[e];exact h u hu
 exact Nat.dvd_antisymm ((key _).mp (Nat.dvd_refl _)) ((key _).mpr (Nat.dvd_refl _))
theorem D7{l:List Int}(h:kT l):kT (l.map λx => -x):=by
 rcases h with rfl |h
 ·exact .inl rfl
 ·right
  have e:(l.map λx => -x)=l.map λx=>x*(-1):=by apply OI;intro x _;omega
  rw[e,IG (.inr rfl),h]
theorem zc(l:List Int):ar (l.map λx => -x) = -ar l:=by
 rcases cx l with rfl |⟨r,x,rfl⟩
 ·rfl
 ·rw[Nu];show ar (r.map _++[-x])=_;rw[cM,cM]
theorem D6{l:List Int}(h:kT l):kT (cr l):=by
 unfold cr;split
 ·exact D7 h
 ·exact h
theorem BB{c:Int->Int}(h0:∀x,c x=0↔x=0){l:List Int}(h:Tr l):Tr (l.map c):=by rw[<- Bw h,<- wB h0 _ l rfl];exact dZ _
theorem By{l:List Int}(h:Tr l):Tr (cr l):=by
 unfold cr;split
 ·exact BB (λx=>by omega) h
 ·exact h
theorem zC(c:Int):∀(l:List Int) (d:Nat),dF (c.natAbs*d) (scL c l)=c.natAbs*dF d l
 | [],d=>rfl
 |v::l,d=>by show dF (Nat.gcd (c.natAbs*d) (c*v).natAbs) (scL c l)=c.natAbs*dF (Nat.gcd d v.natAbs) l;rw[Nf,Nat.gcd_mul_left,zC c l]
theorem tE(c:Int)(l:List Int):aw (scL c l)=c.natAbs*aw l:=by have h:=zC c l 0;rw[Nat.mul_zero]at h;exact h
theorem kH{l:List Int}{x:Int}(h:x∈l):(aw l:Int)∣x:=Og.mpr (pV h)
theorem Ck{c:Int}(hc:0<c)(l:List Int):am (scL c l)=am l:=by
 unfold am;rw[tE];unfold scL;rw[N7];refine OI λx _=>?_
 show c*x/((c.natAbs*aw l:Nat):Int)=x/(aw l:Int);have e:((c.natAbs*aw l:Nat):Int)=c*(aw l:Int):=by rw[OJ];congr 1;omega
 rw[e,Int.mul_ediv_mul_of_pos _ _ hc]
theorem Cl{c:Int}(hc:c<0)(l:List Int):am (scL c l)=(am l).map λx => -x:=by
 unfold am;rw[tE];unfold scL;rw[N7,N7];refine OI λx hx=>?_
 show c*x/((c.natAbs*aw l:Nat):Int) = -(x/(aw l:Int));have e:((c.natAbs*aw l:Nat):Int)=(-c)*(aw l:Int):=by rw[OJ];congr 1;omega
 have e2:c*x=(-c)*(-x):=by rw[Int.neg_mul_neg]
 rw[e,e2,Int.mul_ediv_mul_of_pos _ _ (by omega:0 < -c),Int.neg_ediv_of_dvd (kH hx)]
theorem Eb{m:List Int}(h:Tr m):cr (m.map λx => -x)=cr m:=by
 rcases cx m with rfl |⟨r,x,rfl⟩
 ·rfl
 have hx:x≠0:=tr_snoc.mp h;have h1:=zc (r++[x]);rw[cM]at h1;unfold cr;rw[h1,cM];by_cases hn:x<0
 ·rw[if_neg (by omega),if_pos hn]
 ·rw[if_pos (by omega),if_neg hn,N7];rw[show((λx:Int => -x) ∘ λx:Int => -x)=id from by funext y;simp];exact List.map_id _
theorem eO{l:List Int}(h:Tr l):Tr (am l):=by
 intro n hn;have hl:l.length=n+1:=by rw[<- hn];unfold am;rw[MY]
 have hx:=h n hl;have hm:cf l n∈l:=by rw[dk (by omega)];exact Od _
 have e:cf (am l) n=cf l n/(aw l:Int):=by
  have h1:n<l.length:=by omega
  unfold am cf;simp[List.getD,h1]
 rw[e];intro z;have d:=kH hm;have:=Int.mul_ediv_cancel' d;rw[z,Nx]at this;exact hx this.symm
theorem o7{c:Int}(hc:c≠0){l:List Int}(h:Tr l):aC (scL c l)=aC l:=by
 unfold aC;by_cases hp:0<c
 ·rw[Ck hp]
 ·rw[Cl (by omega),Eb (eO h)]
theorem kZ{c:Int}(hc:c≠0){l:List Int}(h:Tr l):Tr (scL c l):=by intro n hn;rw[bZ]at hn;rw[ba];exact No hc (h n hn)
theorem Ed{a b:List Int}{x y:Int}(hx:x≠0)(hy:y≠0)(ha:Tr a)(hb:Tr b)(h:∀k,x*cf a k=y*cf b k):aC a=aC b:=by
 have e:scL x a=scL y b:=m8 (kZ hx ha) (kZ hy hb) λk=>by rw[ba,ba,h k]
 rw[<- o7 hx ha,e,o7 hy hb]
noncomputable def slopeL(l:List Int):List Int:=(List.range (l.length-1)).map λ(k:Nat)=>((k:Int)+1)*cf l (k+1)
noncomputable def lp(l:List Int)(m i n:Nat):Int:=if n%m=0/\n/m<i then cf l (n/m)else 0
noncomputable def rst(one other:List Int):List Int:=if other=[]then[]else aK one other
noncomputable def nxt(one other:List Int):List Int:=am (cj [] (rst one other))
noncomputable def aZ:Nat->List Int->List Int->List (List Int)
 |0,_,_=>[]
 |n+1,one,other=>if one=[]then[]else one::aZ n other (nxt one other)
theorem oU(n:Nat)(o:List Int):aZ n [] o=[]:=by cases n with |zero=>rfl |succ n=>show(if([]:List Int)=[]then _ else _)=_;rw[if_pos rfl]
noncomputable def up(f:Nat->Int)(n:Nat):Int:=if n=0 then 0 else f (n-1)
theorem xq(x:Int)(a b:List Int)(n:Nat):∀j,sm (x::a) b n (j+1)=x*cf b n+(if n=0 then 0 else sm a b (n-1) j)
 |0=>by
  show 0+tm (x::a) b n 0=_;unfold tm;rw[if_pos (M9 _)];rw[Ay,N6];by_cases h:n=0
  ·rw[if_pos h];omega
  ·rw[if_neg h];show _=_+0;omega
 |j+1=>by
  show sm (x::a) b n (j+1)+tm (x::a) b n (j+1)=_;rw[xq x a b n j];by_cases h:n=0
  ·rw[if_pos h,if_pos h];unfold tm;rw[if_neg (by omega)];omega
  ·rw[if_neg h,if_neg h];show _=_+(sm a b (n-1) j+tm a b (n-1) j)
   have e:tm (x::a) b n (j+1)=tm a b (n-1) j:=by
    unfold tm;rw[qf];by_cases h2:j+1<=n
    ·rw[if_pos h2,if_pos (by omega)]
     congr 2;omega
    ·rw[if_neg h2,if_neg (by omega)]
   rw[e];omega
theorem df(x:Int)(a b:List Int)(n:Nat):au (x::a) b n=x*cf b n+up (au a b) n:=xq x a b n a.length
theorem dB(b:List Int)(n:Nat):au [] b n=0:=rfl
theorem uU(x:Int)(a:List Int)(n:Nat):cf (x::a) n=(if n=0 then x else 0)+up (cf a) n:=by
 cases n with
 |zero=>show x=x+0;omega
 |succ n=>show cf a n=0+cf a n;omega
theorem rX(y:Int)(b:List Int):∀(a:List Int) (n:Nat),au a (y::b) n=y*cf a n+up (au a b) n
 | [],n=>by
  rw[dB,cb];unfold up;split
  ·simp
  ·rw[dB];simp
 |x::a,n=>by
  rw[df,uU,uU];cases n with
  |zero =>show x*(y+0)+0=y*(x+0)+0;simp only[NF];exact Ni _ _
  |succ n =>show x*(0+cf b n)+au a (y::b) n=y*(0+cf a n)+au (x::a) b n;rw[rX y b a n,df];simp only[NO];omega
theorem rW:∀(a:List Int) (n:Nat),au a [] n=0
 | [],n=>rfl
 |x::a,n=>by
  rw[df,cb];unfold up;split
  ·simp
  ·rw[rW a];simp
theorem fh:∀(a b:List Int) (n:Nat),au a b n=au b a n
 | [],b,n=>by rw[rW];rfl
 |x::a,b,n=>by
  rw[df,rX]
  congr 1
  unfold up;split
  ·rfl
  ·exact fh a b _
theorem yI{a b c q:List Int}{x y:Int}{n:Nat}(h:∀k,cf c k=x*cf a k+y*cf b k):au q c n=x*au q a n+y*au q b n:=by rw[fh q c,dD h,fh q a,fh q b]
theorem qg(a:List Int)(n:Nat):cf (0::a) n=up (cf a) n:=by rw[uU];split<;>omega
theorem yH(a b:List Int)(n:Nat):au (0::a) b n=up (au a b) n:=by rw[df];omega
theorem kA:∀(a b c:List Int) (n:Nat),au (ae a b) c n=au a (ae b c) n
 | [],b,c,n=>by rw[dB,rT λk=>by rw[aI,dB]]
 |x::a,b,c,n=>by
  rw[df,aI]
  have e:∀k,cf (ae (x::a) b) k=x*cf b k+1*cf (0::ae a b) k:=λk=>by
   rw[aI,df,qg,Nh]
   congr 1
   unfold up;split
   ·rfl
   ·rw[aI]
  rw[dD e,yH,Nh]
  congr 1
  unfold up;split
  ·rfl
  ·exact kA a b c _
def Dv(d p:List Int):Prop:=∃(c:Int) (q:List Int),c≠0/\∀n,c*cf p n=au q d n
theorem Dv.refl(d:List Int):Dv d d:=⟨1,[1],by decide,λn=>by rw[fM]⟩
theorem Dv.nil(d:List Int):Dv d []:=⟨1,[],by decide,λn=>by rw[cb,dB];rfl⟩
theorem Dv.trans{d e p:List Int}(h1:Dv d e)(h2:Dv e p):Dv d p:=by obtain⟨c1,q1,hc1,e1⟩:=h1;obtain⟨c2,q2,hc2,e2⟩:=h2;refine⟨c1*c2,ae q2 q1,No hc1 hc2,λn=>?_⟩;rw[kA,NG,e2,<- mf (b':=ae q1 d) (λk=>by rw[aI,e1])]
theorem Dv.up{d a b r q:List Int}{f:Int}(hf:f≠0)(h:∀n,f*cf a n=au q b n+cf r n)(hb:Dv d b)(hr:Dv d r):Dv d a:=by obtain⟨c1,q1,hc1,e1⟩:=hb;obtain⟨c2,q2,hc2,e2⟩:=hr;refine⟨c1*c2*f,di c1 (scL c2 (ae q q1)) q2,No (No hc1 hc2) hf,λn=>?_⟩;rw[dD (a:=ae q q1) (b:=q2) (x:=c2) (y:=c1) (λk=>by rw[fY,ba]),kA,<- e2,mf (b:=b) (b':=ae q1 d) (c:=c1) (λk=>by rw[aI,e1])];have:=h n;grind
theorem Dv.down{d a b r q:List Int}{f:Int}(h:∀n,f*cf a n=au q b n+cf r n)(ha:Dv d a)(hb:Dv d b):Dv d r:=by obtain⟨c1,q1,hc1,e1⟩:=ha;obtain⟨c2,q2,hc2,e2⟩:=hb;refine⟨c1*c2,di (-c1) (scL (f*c2) q1) (ae q q2),No hc1 hc2,λn=>?_⟩;rw[dD (a:=q1) (b:=ae q q2) (x:=f*c2) (y := -c1) (λk=>by rw[fY,ba]),kA,<- e1,mf (b:=b) (b':=ae q2 d) (c:=c2) (λk=>by rw[aI,e2])];have:=h n;grind
theorem Dv.prop_right{d p p':List Int}{x y:Int}(hx:x≠0)(h:∀n,x*cf p' n=y*cf p n)(hd:Dv d p):Dv d p':=by obtain⟨c,q,hc,e⟩:=hd;refine⟨c*x,scL y q,No hc hx,λn=>?_⟩;rw[dD (a:=q) (b:=[]) (x:=y) (y:=0) (λk=>by rw[ba];simp),<- e];have:=h n;grind
theorem Dv.prop_left{d d' p:List Int}{x y:Int}(hx:x≠0)(hy:y≠0)(h:∀n,x*cf d' n=y*cf d n)(hd:Dv d p):Dv d' p :=
 Dv.trans (Dv.prop_right hy (λn=>(h n).symm) (Dv.refl d')) hd
theorem o6{l:List Int}(h:Tr l):∃g:Int,g≠0/\∀n,cf l n=g*cf (aC l) n:=by
 by_cases hl:l=[]
 ·subst hl;exact⟨1,by decide,λn=>by rw[cb];show 0=1*cf [] n;rw[cb];rfl⟩
 have hg:(aw l:Int)≠0:=by obtain⟨r,x,rfl⟩:=(cx l).resolve_left hl;have hx:x≠0:=tr_snoc.mp h;have h1:0<aw (r++[x]):=Nat.pos_of_dvd_of_pos (pV (by simp:x∈r++[x])) (NP.mpr hx);omega
 have e1:∀n,cf l n=(aw l:Int)*cf (am l) n:=λn=>by
  unfold am;by_cases hn:n<l.length
  ·rw[dk hn,dk (by rw[MY];exact hn),List.getElem_map];exact(Int.mul_ediv_cancel' (kH (Od hn))).symm
  ·rw[cc (by omega),cc (by rw[MY];omega),Nx]
 unfold aC cr;split
 ·refine⟨-(aw l:Int),by omega,λn=>?_⟩
  have e2:cf ((am l).map λx => -x) n = -cf (am l) n:=by
   by_cases hn:n<(am l).length
   ·rw[dk hn,dk (by rw[MY];exact hn),List.getElem_map]
   ·rw[cc (l:=am l) (by omega),cc (l:=(am l).map λx => -x) (by rw[MY];omega)];rfl
  rw[e1,e2];grind
 ·exact⟨_,hg,e1⟩
theorem Dv.plain{d p:List Int}(hp:Tr p):Dv d (aC p)↔Dv d p:=by obtain⟨g,hg,e⟩:=o6 hp;exact⟨λh=>Dv.prop_right (x:=1) (y:=g) (by decide) (λn=>by rw[e];omega) h,λh=>Dv.prop_right (x:=g) (y:=1) hg (λn=>by rw[<- e];omega) h⟩
theorem plain_len(l:List Int):(aC l).length=l.length:=by unfold aC cr am;split<;>simp
theorem fC{l:List Int}(h:Tr l):Tr (aC l):=By (eO h)
noncomputable def cp:Nat->List Int->List Int->List Int
 |0,one,_=>one
 |n+1,one,other=>if other=[]then one else cp n other (aC (aK one other))
theorem Am(n:Nat)(one:List Int):cp n one []=one:=by cases n<;>rfl
theorem Kv{n:Nat}{one other:List Int}(h:other≠[]):cp (n+1) one other=cp n other (aC (aK one other)):=by show(if other=[]then one else cp n other (aC (aK one other)))=_;rw[if_neg h]
theorem Ak:∀(n:Nat) (one other:List Int),other.length<=n->Tr one->Tr other->Tr (cp n one other)/\Dv (cp n one other) one/\Dv (cp n one other) other/\(∀d,Dv d one->Dv d other->Dv d (cp n one other))/\(one≠[]\/other≠[]->cp n one other≠[])/\(cp n one other=one\/cp n one other=other\/∃l,Tr l/\cp n one other=aC l)
 |n,one,[],_,t1,_=>by rw[Am];exact⟨t1,Dv.refl _,Dv.nil _,λd h _=>h,λh=>h.resolve_right λz=>z rfl,.inl rfl⟩
 |0,one,x::o,h,_,_=>absurd h (Nat.not_succ_le_zero _)
 |n+1,one,x::o,h,t1,t2=>by
  have hne:x::o≠[]:=λz=>nomatch z
  rw[Kv hne];generalize x::o=other at h t2 hne
  have tr:=eG one other;have hl:=fx (a:=one) hne;obtain⟨c1,c2,c3,c4,c5,c6⟩:=Ak n other (aC (aK one other)) (by rw[plain_len];omega) t2 (fC tr);have eq:=λk=>fU (a:=one) hne k
  refine⟨c1,Dv.up (m9 (a:=one) hne t2) eq c2 ((Dv.plain tr).mp c3),c2,λd h1 h2=>c4 d h2 ((Dv.plain tr).mpr (Dv.down eq h1 h2)),λ_=>c5 (.inl hne),?_⟩;rcases c6 with e |e |e
  ·exact .inr (.inl e)
  ·exact .inr (.inr ⟨_,tr,e⟩)
  ·exact .inr (.inr e)
def Cop(a:List Int)(m:Nat):Prop:=∀k:Nat,k∣m->(∀n,(k:Int)∣cf a n)->k=1
theorem tF:∀(N:Nat) (a b:List Int) (m:Nat),a.length+b.length<=N->Cop a m->Cop b m->(∀n,(m:Int)∣au a b n)->m=1
 |_,[],b,m,_,h1,_,_=>h1 m (Nat.dvd_refl _) λn=>by rw[cb];exact Int.dvd_zero _
 |_,_::_,[],m,_,_,h2,_=>h2 m (Nat.dvd_refl _) λn=>by rw[cb];exact Int.dvd_zero _
 |0,_::_,_::_,_,h,_,_,_=>absurd h (by simp)
 |N+1,x::a,y::b,m,h,h1,h2,h3=>by
  have d1:Nat.gcd m x.natAbs=1:=by
   refine tF N a (y::b) _ (by simp at h ⊢;omega) (λk hk hn=>h1 k (OK hk (N5 _ _)) λn=>?_) (λk hk=>h2 k (OK hk (N5 _ _))) λn=>?_
   ·cases n with
    |zero=>exact Og.mpr (OK hk (Oo _ _))
    |succ n=>exact hn n
   ·have e:=df x a (y::b) (n+1);have g1:((Nat.gcd m x.natAbs:Nat):Int)∣au (x::a) (y::b) (n+1):=Int.dvd_trans (Int.ofNat_dvd.mpr (N5 _ _)) (h3 _);have g2:((Nat.gcd m x.natAbs:Nat):Int)∣x*cf (y::b) (n+1):=Int.dvd_mul_of_dvd_left (Og.mpr (Oo _ _))
    have e2:au a (y::b) n=au (x::a) (y::b) (n+1)-x*cf (y::b) (n+1):=by rw[e];show _=_+au a (y::b) n-_;omega
    rw[e2];exact Int.dvd_sub g1 g2
  have d2:Nat.gcd m y.natAbs=1:=by
   refine tF N (x::a) b _ (by simp at h ⊢;omega) (λk hk=>h1 k (OK hk (N5 _ _))) (λk hk hn=>h2 k (OK hk (N5 _ _)) λn=>?_) λn=>?_
   ·cases n with
    |zero=>exact Og.mpr (OK hk (Oo _ _))
    |succ n=>exact hn n
   ·have e:=rX y b (x::a) (n+1);have g1:((Nat.gcd m y.natAbs:Nat):Int)∣au (x::a) (y::b) (n+1):=Int.dvd_trans (Int.ofNat_dvd.mpr (N5 _ _)) (h3 _);have g2:((Nat.gcd m y.natAbs:Nat):Int)∣y*cf (x::a) (n+1):=Int.dvd_mul_of_dvd_left (Og.mpr (Oo _ _))
    have e2:au (x::a) b n=au (x::a) (y::b) (n+1)-y*cf (x::a) (n+1):=by rw[e];show _=_+au (x::a) b n-_;omega
    rw[e2];exact Int.dvd_sub g1 g2
  have h0:=h3 0;rw[df]at h0
  have h0':m∣x.natAbs*y.natAbs:=by
   rw[<- Nf];refine Og.mp ?_
   have e:x*cf (y::b) 0+up (au a (y::b)) 0=x*y:=by show x*y+0=x*y;omega
   rwa [e]at h0
  have h4:m∣y.natAbs:=Nat.Coprime.dvd_of_dvd_mul_left d1 h0';rw[Nat.gcd_eq_left h4]at d2;exact d2
theorem Gp{l:List Int}{v:Int}(h:v∈l):∃n,n<l.length/\cf l n=v:=by obtain⟨n,hn,e⟩:=List.getElem_of_mem h;exact⟨n,hn,by rw[dk hn,e]⟩
theorem Ah{a:List Int}{m:Nat}(h:aw a=1):Cop a m:=λk _ hn=>by
 have:k∣aw a:=dvd_gcdL.mpr λv hv=>by obtain⟨n,_,rfl⟩:=Gp hv;exact Og.mp (hn n)
 rw[h]at this;exact Nat.dvd_one.mp this
theorem D8{a b:List Int}(ha:aw a=1)(hb:aw b=1):aw (ae a b)=1:=by
 refine tF _ a b _ (MZ _) (Ah ha) (Ah hb) λn=>?_
 rw[<- aI];by_cases hn:n<(ae a b).length
 ·rw[dk hn];exact kH (Od hn)
 ·rw[cc (by omega)];exact Int.dvd_zero _
structure Pln(l:List Int):Prop where
 tr:Tr l
 ne:l≠[]
 prim:aw l=1
 pos:0<ar l
theorem gS{l:List Int}(h:Tr l)(hne:l≠[]):ar l≠0:=by have:=M5.mpr hne;exact h (l.length-1) (by omega)
theorem Pln.plain{l:List Int}(h:Pln l):aC l=l:=by unfold aC;rw[Cm (.inr h.prim)];unfold cr;rw[if_neg (by have:=h.pos;omega)]
theorem qX{l:List Int}:scL (aw l:Int) (am l)=l:=by unfold scL am;rw[N7];refine(OI (g:=id) λx hx=>?_).trans (List.map_id _);exact Int.mul_ediv_cancel' (kH hx)
theorem gE{l:List Int}(h:Tr l)(hne:l≠[]):Pln (aC l):=by
 have hg:0<aw l:=by obtain⟨r,x,rfl⟩:=(cx l).resolve_left hne;have hx:x≠0:=tr_snoc.mp h;exact Nat.pos_of_dvd_of_pos (pV (by simp:x∈r++[x])) (NP.mpr hx)
 have h1:aw (am l)=1:=by have e:=tE (aw l:Int) (am l);rw[qX,Np]at e;exact Pf hg (by rw[<- e,Nat.mul_one])
 have hs:am l≠[]:=λz=>hne (by have:=congrArg List.length z;unfold am at this;simpa using this)
 have hl:=gS (eO h) hs
 have hp:aw (aC l)=1:=by
  rcases D6 (.inr h1:kT (am l))with z |z
  ·exact absurd (congrArg List.length z) (by
    have:=plain_len l;unfold aC at this
    rw[this]
    exactλq=>hne (Of.mp q))
  ·exact z
 refine⟨fC h,λz=>hne (Of.mp (by rw[<- plain_len,z];rfl)),hp,?_⟩;unfold aC cr;split
 ·rw[zc];omega
 ·omega
theorem bR{a b:List Int}(ha:a≠[])(hb:b≠[]):(ae a b).length=a.length+b.length-1:=by unfold ae;rw[if_neg (λz=>z.elim ha hb),MY,N4]
theorem sK{a b:List Int}(ha:a≠[])(hb:b≠[]):ar (ae a b)=ar a*ar b:=by
 have h1:=M5.mpr ha;have h2:=M5.mpr hb;unfold ar;rw[bR ha hb,aI];have e:a.length+b.length-1-1=(a.length-1)+(b.length-1):=by omega
 rw[e,rV (by omega) (by omega)]
theorem Pln.mul{a b:List Int}(ha:Pln a)(hb:Pln b):Pln (ae a b):=by
 refine⟨og ha.tr hb.tr,λz=>?_,D8 ha.prim hb.prim,by rw[sK ha.ne hb.ne];exact M8 ha.pos hb.pos⟩;have h1:=M5.mpr ha.ne;have h2:=M5.mpr hb.ne;have:=bR ha.ne hb.ne;rw[z]at this;simp at this
 omega
theorem yg{p q d:List Int}{c:Int}(hc:c≠0)(hp:Tr p)(hpn:p≠[])(hq:Tr q)(hd:Pln d)(h:∀n,c*cf p n=au q d n):ae (aC q) d=aC p:=by
 have hqn:q≠[]:=λz=>by have h1:=M5.mpr hpn;have h2:=h (p.length-1);rw[z,dB]at h2;exact No hc (hp (p.length-1) (by omega)) h2
 obtain⟨g,hg,e⟩:=o6 hq;have hm:=(gE hq hqn).mul hd;rw[<- hm.plain];refine Ed hg hc hm.tr hp λk=>?_
 rw[h,aI,dD (a:=aC q) (b:=[]) (x:=g) (y:=0) (c:=q) (λk=>by rw[e];simp),dB];simp
theorem Dv.trim{d p:List Int}(h:Dv d p):∃(c:Int) (q:List Int),c≠0/\Tr q/\∀n,c*cf p n=au q d n:=by obtain⟨c,q,hc,e⟩:=h;exact⟨c,RM.trim q,hc,dZ q,λn=>by rw[e];exact(pB (λk=>fy q k) λ_=>rfl).symm⟩
theorem Dv.fellow{d p:List Int}(hd:Pln d)(hp:Tr p)(hpn:p≠[])(h:Dv d p):∃q,Pln q/\ae q d=aC p:=by
 obtain⟨c,q,hc,hq,e⟩:=h.trim
 have hqn:q≠[]:=λz=>by have h1:=M5.mpr hpn;have h2:=e (p.length-1);rw[z,dB]at h2;exact No hc (hp (p.length-1) (by omega)) h2
 exact⟨aC q,gE hq hqn,yg hc hp hpn hq hd e⟩
theorem Pln.const{l:List Int}(h:Pln l)(h1:l.length=1):l=[1]:=by
 obtain⟨x,rfl⟩:∃x,l=[x]:=O9.mp h1;have h2:=h.prim;rw[IF]at h2;have h3:0<x:=h.pos;have:x=1:=by omega
 rw[this]
theorem one_mul(l:List Int)(h:Tr l):ae [1] l=l:=by
 refine m8 (og (tr_snoc (r:=[]).mpr (by decide)) h) h λk=>?_
 rw[aI,fM];omega
theorem yd{a b:List Int}(ha:Pln a)(hb:Pln b)(h1:Dv a b)(h2:Dv b a):a=b:=by obtain⟨q,hq,e⟩:=h1.fellow ha hb.tr hb.ne;obtain⟨r,hr,e'⟩:=h2.fellow hb ha.tr ha.ne;rw[hb.plain]at e;rw[ha.plain]at e';have l1:=bR hq.ne ha.ne;have l2:=bR hr.ne hb.ne;rw[e]at l1;rw[e']at l2;have p1:=M5.mpr hq.ne;have p2:=M5.mpr hr.ne;have p3:=M5.mpr ha.ne;have hq1:=hq.const (by omega);rw[hq1,one_mul a ha.tr]at e;exact e
theorem Dv.short{d r:List Int}(hd:d≠[])(hdt:Tr d)(hr:Tr r)(hl:r.length<d.length)(h:Dv d r):r=[]:=by
 obtain⟨c,q,hc,e⟩:=h;have z:=yG hd hdt (d:=q) λn hn=>by rw[<- e,cc (by omega),Nx]
 refine rQ hr λk=>?_
 have h1:=e k;rw[rT z]at h1;exact(Int.mul_eq_zero.mp h1).resolve_left hc
theorem Dv.rest{d p:List Int}(hd:d≠[])(hdt:Tr d)(h:Dv d p):aK p d=[] :=
 Dv.short hd hdt (eG _ _) (fx hd) (Dv.down (λn=>fU (a:=p) hd n) h (Dv.refl d))
theorem Dv.mul_right(a b:List Int):Dv b (ae a b):=⟨1,a,by decide,λn=>by rw[aI];omega⟩
theorem Dv.mul_left(a b:List Int):Dv a (ae a b):=⟨1,b,by decide,λn=>by rw[aI,fh];omega⟩
theorem Lw{l1 l2 r1 r2 pl pc a1 a2 c1 c2 x1 x2:Int}(ha:0<a2)(hc:0<c2)(e1:a1*pc=pl*a2)(e2:c1*(r2*a2)=r1*a1*c2)(e3:x1*(l2*c2)=(l1*c2+c1*l2)*x2) :
 x1*(l2*r2*pc)=(l1*r2*pc+r1*l2*pl)*x2:=by
 have h0:c2*a2≠0:=Nr (M8 hc ha);refine Oy h0 ?_
 calc x1*(l2*r2*pc)*(c2*a2)=x1*(l2*c2)*(r2*pc*a2):=by grind
  _=(l1*c2+c1*l2)*x2*(r2*pc*a2):=by rw[e3]
  _=x2*(l1*c2*r2*pc*a2+l2*pc*(c1*(r2*a2))):=by grind
  _=x2*(l1*c2*r2*pc*a2+l2*pc*(r1*a1*c2)):=by rw[e2]
  _=x2*c2*(l1*r2*pc*a2+l2*r1*(a1*pc)):=by grind
  _=x2*c2*(l1*r2*pc*a2+l2*r1*(pl*a2)):=by rw[e1]
  _=(l1*r2*pc+r1*l2*pl)*x2*(c2*a2):=by grind
theorem KK{l r:Int}(hl:0<l)(hr:0<r){g:Nat}(hg:g=Nat.gcd l.natAbs r.natAbs):∃l' r':Int,0<l'/\0<r'/\(0:Int)<g/\l=g*l'/\r=g*r'/\l*r/g=l*r'/\l*r'/l=r'/\l*r'/r=l'/\0<l*r':=by
 have g0:0<g:=by rw[hg];exact Nat.gcd_pos_of_pos_left _ (by omega)
 have gi:(0:Int)<g:=by omega
 obtain⟨l',hl'⟩:(g:Int)∣l:=O7.mp (by rw[Np,hg];exact N5 _ _);obtain⟨r',hr'⟩:(g:Int)∣r:=O7.mp (by rw[Np,hg];exact Oo _ _);have l0:0<l':=Pi (a:=(g:Int)) (by rw[Nx,<- hl'];exact hl) (M7 gi);have r0:0<r':=Pi (a:=(g:Int)) (by rw[Nx,<- hr'];exact hr) (M7 gi);refine⟨l',r',l0,r0,gi,hl',hr',?_,?_,?_,M8 hl r0⟩
 ·have e:l*r=(l*r')*g:=by
   calc l*r=l*(g*r'):=by rw[<- hr']
    _=(l*r')*g:=by grind
  rw[e];exact Int.mul_ediv_cancel _ (Nr gi)
 ·exact Pa _ (Nr hl)
 ·have e:l*r'=l'*r:=by
   calc l*r'=(g*l')*r':=by rw[<- hl']
    _=l'*(g*r'):=by grind
    _=l'*r:=by rw[<- hr']
  rw[e];exact Int.mul_ediv_cancel _ (Nr hr)
noncomputable def ck:List Int->List Int
 | []=>[]
 |v::l=>2^l.length*v::ck l
theorem om:∀l,(ck l).length=l.length
 | []=>rfl
 |v::l=>by show(ck l).length+1=_;rw[om l];rfl
theorem zu(p q:Int):∀l,2*hv p q (ck l)=hv p (2*q) l
 | []=>by show 2*0=(0:Int);rfl
 |v::l=>by have ih:=zu p q l;show 2*(2^l.length*v*q^((ck l).length+1)+p*hv p q (ck l))=v*(2*q)^(l.length+1)+p*hv p (2*q) l;rw[om,<- ih,Int.mul_pow,Nm 2];grind
noncomputable def suf:List Int->List Int
 | []=>[]
 |v::l=>(v+(suf l).headD 0)::suf l
theorem iS:∀l,(suf l).length=l.length
 | []=>rfl
 |v::l=>by show(suf l).length+1=_;rw[iS l];rfl
theorem wW(p q:Int):∀l,hv (p+q) q l=(suf l).headD 0*q^l.length+p*hv (p+q) q ((suf l).tail)
 | []=>by show(0:Int)=0*q^0+p*0;omega
 |v::l=>by
  have ih:=wW p q l;show v*q^(l.length+1)+(p+q)*hv (p+q) q l=(v+(suf l).headD 0)*q^(l.length+1)+p*hv (p+q) q (suf l);cases hs:suf l with
  |nil =>
   have hl:l=[]:=by have:=iS l;rw[hs]at this;exact Op this.symm
   subst hl;show v*q^1+(p+q)*0=(v+0)*q^1+p*0;grind
  |cons g r =>
   rw[hs]at ih;have hl:r.length+1=l.length:=by have:=iS l;rw[hs]at this;exact this
   have ih':hv (p+q) q l=g*q^l.length+p*hv (p+q) q r:=ih;show v*q^(l.length+1)+(p+q)*hv (p+q) q l=(v+g)*q^(l.length+1)+p*(g*q^(r.length+1)+(p+q)*hv (p+q) q r);rw[ih',hl,Nm];grind
noncomputable def db:Nat->List Int->List Int
 |0,m=>suf m
 |_+1,[]=>[]
 |i+1,c::m=>c::db i m
theorem rL:∀(i:Nat) (m:List Int),(db i m).length=m.length
 |0,m=>iS m
 |_+1,[]=>rfl
 |i+1,c::m=>by show(db i m).length+1=_;rw[rL i m];rfl
noncomputable def d9(p q:Int):Nat->List Int->Int
 |0,m=>hv (p+q) q m
 |_+1,[]=>0
 |i+1,c::m=>c*q^(m.length+1)+p*d9 p q i m
theorem yR(p q:Int):∀(i:Nat) (m:List Int),d9 p q (i+1) (db i m)=d9 p q i m
 |0,m=>by
  show d9 p q 1 (suf m)=hv (p+q) q m;rw[wW];cases hs:suf m with
  |nil =>show(0:Int)=0*q^m.length+p*hv (p+q) q [];rw[pT];omega
  |cons g r =>
   have hl:r.length+1=m.length:=by have:=iS m;rw[hs]at this;exact this
   show g*q^(r.length+1)+p*hv (p+q) q r=g*q^m.length+p*hv (p+q) q r;rw[hl]
 |i+1,[]=>rfl
 |i+1,c::m=>by show c*q^((db i m).length+1)+p*d9 p q (i+1) (db i m)=c*q^(m.length+1)+p*d9 p q i m;rw[yR p q i m,rL]
theorem yT(p q:Int):∀(i:Nat) (m:List Int),m.length<=i+1->d9 p q i m=hv p q m
 |0,[],_=>rfl
 |0,[c],_=>by show c*q^1+(p+q)*0=c*q^1+p*0;omega
 |0,_::_::_,h=>absurd h (by simp)
 |_+1,[],_=>rfl
 |i+1,c::m,h=>by show c*q^(m.length+1)+p*d9 p q i m=c*q^(m.length+1)+p*hv p q m;rw[yT p q i m (by simpa using h)]
noncomputable def dQ:Nat->List Int->List Int
 |0,l=>l
 |i+1,l=>db i (dQ i l)
theorem pD:∀(i:Nat) (l:List Int),(dQ i l).length=l.length
 |0,_=>rfl
 |i+1,l=>by show(db i (dQ i l)).length=_;rw[rL,pD i l]
theorem yS(p q:Int):∀(i:Nat) (l:List Int),d9 p q i (dQ i l)=hv (p+q) q l
 |0,_=>rfl
 |i+1,l=>by show d9 p q (i+1) (db i (dQ i l))=_;rw[yR,yS p q i l]
noncomputable def mq(l:List Int):List Int:=dQ (l.length-1) l
theorem yP(l:List Int):(mq l).length=l.length:=pD _ _
theorem Im(p q:Int)(l:List Int):hv p q (mq l)=hv (p+q) q l:=by rw[<- yS p q (l.length-1) l];exact(yT p q (l.length-1) _ (by rw[yP];omega)).symm
theorem zr:∀l:List Int,hv 1 1 l=l.sum
 | []=>rfl
 |v::l=>by show v*1^(l.length+1)+1*hv 1 1 l=v+l.sum;rw[zr l,Int.one_pow];omega
noncomputable def bH(m s0 s1:Int):List Int->List Int
 | []=>[]
 |v::l=>mb (-s0) s1 (v*m^l.length) (bH m s0 s1 l)
theorem iT(m s0 s1:Int):∀l,(bH m s0 s1 l).length=l.length
 | []=>rfl
 |v::l=>by show(mb _ _ _ _).length=_;rw[pH,iT m s0 s1 l];rfl
theorem zt(m s0 s1 p q:Int):∀l,m*hv p q (bH m s0 s1 l)=hv (s0*q+s1*p) (m*q) l
 | []=>by show m*0=(0:Int);omega
 |v::l=>by have ih:=zt m s0 s1 p q l;show m*hv p q (mb (-s0) s1 (v*m^l.length) (bH m s0 s1 l))=v*(m*q)^(l.length+1)+(s0*q+s1*p)*hv (s0*q+s1*p) (m*q) l;rw[zv,iT,<- ih,Int.mul_pow,Nm m];grind
theorem wX(m s0 s1:Int):∀l,cf (bH m s0 s1 l) (l.length-1)=cf l (l.length-1)*s1^(l.length-1)
 | []=>by show(0:Int)=0*_;omega
 | [v]=>by show cf (mb (-s0) s1 (v*m^0) []) 0=v*s1^0;rw[io,if_pos rfl,cb,NT,NT];omega
 |v::u::l=>by have ih:=wX m s0 s1 (u::l);show cf (mb (-s0) s1 _ (bH m s0 s1 (u::l))) (l.length+1)=cf (u::l) l.length*s1^(l.length+1);rw[io,if_neg (by omega)];have e1:cf (bH m s0 s1 (u::l)) (l.length+1)=0:=cc (by rw[iT];exact MZ _);have e2:cf (bH m s0 s1 (u::l)) (l.length+1-1)=cf (u::l) l.length*s1^l.length:=ih;rw[e1,e2,Nm];grind
theorem dz{x p:Int}(hp:0<p):sg (p*x)=sg x:=by rw[Ni];exact q8 hp
theorem FZ{t h v:Int}{T X V:Nat}(ht:t.natAbs=T)(hh:X<=h.natAbs)(hv:v.natAbs<=V):T*X<=(v+t*h).natAbs+V:=by subst ht;have e1:t.natAbs*h.natAbs=(t*h).natAbs:=(Nf t h).symm;have e2:t.natAbs*X<=t.natAbs*h.natAbs:=N8 _ hh;have e3:=Int.natAbs_sub_le (v+t*h) v;rw[Int.add_comm v,Int.add_sub_cancel,Int.add_comm _ v]at e3;rw[e1]at e2;exact Nd e2 (Nd e3 (Nat.add_le_add_left hv _))
theorem uW{B n:Nat}{t:Int}(hn:0<n)(hB:1<=B)(ht:B*n<=t.natAbs)(z:Int):∀os:List Int,(∀x∈os,x.natAbs<=(B-1)*z.natAbs)->z.natAbs*n^(os.length+1)<=(hv t n (os++[z])).natAbs
 | [],_=>by show z.natAbs*n^1<=(z*(n:Int)^1+t*0).natAbs;rw[Nx,NF,Nf,OX,Np];exact MZ _
 |v::os,h=>by
  have ih:=uW hn hB ht z os (λx hx=>h x (M0 _ hx));have hvv:=h v (M6 ..);rw[List.cons_append,cX]
  have e1:(v*(n:Int)^((os++[z]).length+1)).natAbs<=(B-1)*z.natAbs*n^(os.length+2):=by
   rw[Nf,OX,Np];have:(os++[z]).length+1=os.length+2:=by simp
   rw[this];exact NC _ hvv
  have e2:=FZ (t:=t) rfl ih e1;have e3:B*n*(z.natAbs*n^(os.length+1))<=t.natAbs*(z.natAbs*n^(os.length+1)):=NC _ ht;have e4:(v::os).length+1=os.length+2:=by simp
  rw[e4];have e5:n^(os.length+2)=n*n^(os.length+1):=by rw[Om,NW]
  rw[e5]at e2 ⊢;generalize n^(os.length+1)=p at *
  generalize (v*(n:Int)^((os++[z]).length+1)+t*hv t n (os++[z])).natAbs=W at *
  obtain⟨C,rfl⟩:∃C,B=C+1:=⟨B-1,by omega⟩
  have e6:(C+1)*n*(z.natAbs*p)=C*z.natAbs*(n*p)+z.natAbs*(n*p):=by grind
  have e7:C+1-1=C:=rfl;rw[e7]at e2;omega
theorem tz{t n x y:Int}:∀(a b c:List Int),a.length=c.length->b.length=c.length->(∀k,cf c k=x*cf a k+y*cf b k)->hv t n c=x*hv t n a+y*hv t n b
 | [],[],[],_,_,_=>by simp[pT]
 |u::a,v::b,w::c,ha,hb,h=>by
  have h0:w=x*u+y*v:=h 0;have ih:=tz (t:=t) (n:=n) (x:=x) (y:=y) a b c (by simpa using ha) (by simpa using hb) (λk=>h (k+1));have la:a.length=c.length:=by simpa using ha
  have lb:b.length=c.length:=by simpa using hb
  rw[cX,cX,cX,ih,h0,la,lb];generalize n^(c.length+1)=p;grind
 | [],_::_,[],_,h,_=>by simp at h
 |_::_,_,[],h,_,_=>by simp at h
 | [],_,_::_,h,_,_=>by simp at h
 |_::_,[],_::_,_,h,_=>by simp at h
theorem tq(t n g:Int)(l:List Int):hv t n (scL g l)=g*hv t n l:=by have:=tz (t:=t) (n:=n) (x:=g) (y:=0) l l (scL g l) (by rw[bZ]) (by rw[bZ]) (λk=>by rw[ba];simp);rw[this];simp
theorem zq(t n:Int):∀(k:Nat) (l:List Int),hv t n (l++List.replicate k 0)=n^k*hv t n l
 |k,[]=>by
  rw[List.nil_append,pT,Nx]
  induction k with
  |zero=>rfl
  |succ k ih=>rw[Oj,cX,ih];simp
 |k,v::l=>by
  rw[List.cons_append,cX,zq t n k l,cX];have:(l++List.replicate k (0:Int)).length+1=l.length+1+k:=by simp;omega
  rw[this,Int.pow_add];generalize n^(l.length+1)=p;generalize n^k=q;grind
theorem Kz(l:List Int)(k j:Nat):cf (l++List.replicate k 0) j=cf l j:=by
 by_cases h:j<l.length
 ·rw[AB h]
 ·rw[nj (by omega),nh,cc (by omega)]
theorem mM(t n:Int){b:List Int}(hb:b≠[]):∀{a:List Int},a≠[]->n*hv t n (ae a b)=hv t n a*hv t n b
 | [x],_=>by
  have e:ae [x] b=scL x b:=by
   apply cN
   ·rw[bR (by simp) hb,bZ];simp
   ·intro k _;rw[aI,fM,ba]
  rw[e,tq,mL];grind
 |x::y::a,_=>by
  have ih:=mM t n hb (a:=y::a) (by simp);have lm:(ae (x::y::a) b).length=(y::a).length+b.length:=by rw[bR (by simp) hb,Nq];omega
  have lm2:(ae (y::a) b).length+1=(y::a).length+b.length:=by rw[bR (by simp) hb];have:=M5.mpr hb;rw[Nq];omega
  have e:=tz (t:=t) (n:=n) (x:=x) (y:=1) (b++List.replicate (y::a).length 0) (0::ae (y::a) b) (ae (x::y::a) b) (by rw[lm,Nk,O6];omega) (by rw[lm,Nq,lm2])
   (λk=>by rw[aI,df,Kz,qg];rw[Nh];congr 1;unfold up;split<;>first |rfl |rw[aI])
  rw[e,zq,cX (v:=0),cX (v:=x)];have:n*(x*(n^(y::a).length*hv t n b)+1*(0*n^((ae (y::a) b).length+1)+t*hv t n (ae (y::a) b)))=x*(n^(y::a).length*n)*hv t n b+t*(n*hv t n (ae (y::a) b)):=by grind
  rw[this,ih,<- Nm];grind
noncomputable def pr(t n:Int):List (List Int)->Int
 | []=>1
 |s::ss=>hv t n s*pr t n ss
noncomputable def sl:List (List Int)->Nat
 | []=>0
 |s::ss=>s.length+sl ss
theorem rY{a b:List Int}(ha:a≠[])(hb:b≠[]):ae a b≠[]:=λz=>by have:=bR ha hb;rw[z]at this;have h1:=M5.mpr ha;have h2:=M5.mpr hb;rw[OY]at this;omega
noncomputable def aL(acc:List Int)(ss:List (List Int)):List Int:=ss.foldl ae acc
theorem ko:∀(ss:List (List Int)) (acc:List Int),acc≠[]->Tr acc->(∀s∈ss,s≠[]/\Tr s)->aL acc ss≠[]/\Tr (aL acc ss)/\(aL acc ss).length+ss.length=acc.length+sl ss
 | [],acc,h1,h2,_=>⟨h1,h2,by simp[aL,sl]⟩
 |s::ss,acc,h1,h2,h3=>by have hs:=h3 s (M6 ..);obtain⟨a,b,c⟩:=ko ss (ae acc s) (rY h1 hs.1) (og h2 hs.2) (λx hx=>h3 x (M0 _ hx));refine⟨a,b,?_⟩;have l:=bR h1 hs.1;have p1:=M5.mpr h1;have p2:=M5.mpr hs.1;show(aL (ae acc s) ss).length+(ss.length+1)=acc.length+(s.length+sl ss);omega
theorem pS(t n:Int):∀(ss:List (List Int)) (acc:List Int),acc≠[]->(∀s∈ss,s≠[])->n^ss.length*hv t n (aL acc ss)=hv t n acc*pr t n ss
 | [],acc,_,_=>by show n^0*hv t n acc=hv t n acc*1;simp
 |s::ss,acc,h1,h3=>by have hs:=h3 s (M6 ..);have ih:=pS t n ss (ae acc s) (rY h1 hs) (λx hx=>h3 x (M0 _ hx));have e:=mM t n hs h1;show n^(ss.length+1)*hv t n (aL (ae acc s) ss)=hv t n acc*(hv t n s*pr t n ss);rw[Nm,Ni _ n,NG,ih,<- NG,e,NG]
theorem Jw{c:Int}{ss:List (List Int)}{B n:Nat}{t:Int}(hc:c≠0)(hs:∀s∈ss,s≠[]/\Tr s)(hB:1<=B)
 (hb:∀x∈(ae [c] (aL [1] ss)).take ((ae [c] (aL [1] ss)).length-1),x.natAbs<=(B-1)*(ar (ae [c] (aL [1] ss))).natAbs) (hn:0<n) (ht:B*n<=t.natAbs):n^sl ss<=(pr t n ss).natAbs:=by
 obtain⟨p1,p2,p3⟩:=ko ss [1] (by simp) (by intro k hk;have:k=0:=by simpa using hk.symm
                                           subst this;decide) hs
 have hm:=pS t n ss [1] (by simp) (λs h=>(hs s h).1);generalize aL [1] ss=Pr at *
 have hne:ae [c] Pr≠[]:=rY (by simp) p1;have hl:=sK (a:=[c]) (b:=Pr) (by simp) p1;have hlen:=bR (a:=[c]) (b:=Pr) (by simp) p1;have hv1:=mM t n p1 (a:=[c]) (by simp);obtain⟨os,z,e⟩:=(cx (ae [c] Pr)).resolve_left hne;rw[e]at hb hl hv1 hlen;rw[cM]at hb hl;have ht2:(os++[z]).take ((os++[z]).length-1)=os:=by simp
 rw[ht2]at hb;have hcau:=uW hn hB ht z os hb;have hlp:ar Pr≠0:=gS p2 p1;have hz:z=c*ar Pr:=hl;rw[mL]at hv1;have hn0:(n:Int)≠0:=by omega
 have e2:hv t n (os++[z])=c*hv t n Pr:=by refine Pj hn0 ?_;rw[hv1];grind
 rw[e2,hz,Nf,Nf,Nat.mul_assoc]at hcau;have hc1:0<c.natAbs:=NP.mpr hc;have h4:=Pk hcau hc1;have h5:1*n^(os.length+1)<=(ar Pr).natAbs*n^(os.length+1):=NC _ (NP.mpr hlp);have h6:os.length+1=Pr.length:=by simp at hlen;omega
 rw[h6]at h4 h5;have h7:n^Pr.length<=(hv t n Pr).natAbs:=by omega
 have h8:(n^ss.length*n^Pr.length)<=n*(pr t n ss).natAbs:=by
  have h9:=N8 (n^ss.length) h7
  have h10:n^ss.length*(hv t n Pr).natAbs=n*(pr t n ss).natAbs:=by have:=congrArg Int.natAbs hm;rw[Nf,OX,Np,mL,Nh,Nf,Np]at this;exact this
  omega
 rw[<- Nat.pow_add]at h8;have h11:ss.length+Pr.length=sl ss+1:=by simp at p3;omega
 rw[h11,Om,NW]at h8;exact Pk h8 hn
theorem oj{r:List Int}(h:Tr r):cj [] r=scL (-1) r:=by
 refine m8 (dZ _) (kZ (by decide) h) λk=>?_
 unfold cj;rw[fy,fY,ba,cb];omega
theorem Kl{a b:List Int}(hb:b≠[])(hbt:Tr b):0<bU a b:=by
 have h:=m9 (a:=a) hb hbt
 have h2:0<=bU a b:=by
  unfold bU;generalize aW a b=n
  induction n with
  |zero=>rw[NT];decide
  |succ n ih=>rw[Nm];exact NH ih (Pb _)
 omega
theorem xL{n:Nat}{one:List Int}(h:one≠[])(hn:0<n):aZ n one []=[one]:=by obtain⟨m,rfl⟩:∃m,n=m+1:=⟨n-1,by omega⟩;show(if one=[]then[]else one::aZ m [] (nxt one []))=_;rw[if_neg h,oU]
noncomputable def Ends:Nat->List Int->List Int->Prop
 |0,one,_=>one=[]
 |n+1,one,other=>one=[]\/Ends n other (nxt one other)
noncomputable def gr(B:Nat):Nat->Nat
 |0=>B
 |1=>2*B
 |k+2=>2*gr B (k+1)+gr B k
theorem Iy(B:Nat):∀k,gr B k<=gr B (k+1)
 |0=>by show B<=2*B;omega
 |k+1=>by show gr B (k+1)<=2*gr B (k+1)+gr B k;omega
theorem eD(B:Nat){j k:Nat}(h:j<=k):gr B j<=gr B k:=by
 induction h with
 |refl=>exact MZ _
 |step _ ih=>exact Nd ih (Iy B _)
theorem tD(B j:Nat):∀d,gr B j+(d+2)*gr B (j+1)<=gr B (j+2+d)
 |0=>by show gr B j+2*gr B (j+1)<=2*gr B (j+1)+gr B j;omega
 |d+1=>by
  have ih:=tD B j d
  have e:gr B (j+2+(d+1))=2*gr B (j+2+d)+gr B (j+1+d):=by
   have:j+2+(d+1)=(j+1+d)+2:=by omega
   rw[this];show 2*gr B (j+1+d+1)+gr B (j+1+d)=_;have e2:j+1+d+1=j+2+d:=by omega
   rw[e2]
  have hm:gr B (j+1)<=gr B (j+1+d):=eD B (by omega);rw[e,Nat.add_mul]at *;have e3:(d+1)*gr B (j+1)=d*gr B (j+1)+gr B (j+1):=by rw[Nat.add_mul,Nat.one_mul]
  omega
theorem fi(a:List Int):ae [] a=[]:=by unfold ae;rw[if_pos (.inl rfl)]
theorem fN(a:List Int):ae a []=[]:=by unfold ae;rw[if_pos (.inr rfl)]
theorem mh(a b:List Int):ae a b=ae b a:=by
 by_cases ha:a=[]
 ·rw[ha,fi,fN]
 by_cases hb:b=[]
 ·rw[hb,fi,fN]
 refine cN ?_ λk _=>?_
 ·rw[bR ha hb,bR hb ha];omega
 ·rw[aI,aI,fh]
theorem kB{a b:List Int}(ha:a≠[])(hb:b≠[]):ae a b≠[]:=λz=>by have:=bR ha hb;rw[z,OY]at this;have:=M5.mpr ha;have:=M5.mpr hb;omega
theorem mi(a b c:List Int):ae (ae a b) c=ae a (ae b c):=by
 by_cases ha:a=[]
 ·rw[ha,fi,fi,fi]
 by_cases hb:b=[]
 ·rw[hb,fi,fN,fi]
 by_cases hc:c=[]
 ·rw[hc,fN,fN,fN]
 have h1:=kB ha hb;have h2:=kB hb hc;refine cN ?_ λk _=>?_
 ·have:=M5.mpr hb;rw[bR h1 hc,bR ha h2,bR ha hb,bR hb hc];obtain⟨y,ey⟩:=Nat.exists_eq_succ_of_ne_zero (Nat.ne_of_gt this);rw[ey,Nat.succ_add,Nat.add_succ,Nat.succ_sub_one,Nat.succ_sub_one,Nat.add_assoc]
 ·rw[aI,aI,kA]
instance:Std.Commutative ae:=⟨mh⟩
instance:Std.Associative ae:=⟨mi⟩
theorem pC(a:List Int):ae [1] a=a:=by
 by_cases ha:a=[]
 ·rw[ha,fN]
 refine cN ?_ λk _=>?_
 ·rw[bR (by simp) ha];simp
 ·rw[aI,fM];omega
theorem cz(a:List Int):ae a [1]=a:=by rw[mh,pC]
theorem pln_one:Pln [1]:=⟨tr_snoc (r:=[]).mpr (by decide),by simp,by decide,by decide⟩
theorem ye{a:List Int}(h:Pln a):1<=a.length:=M5.mpr h.ne
def Sim(a b:List Int):Prop:=∃x y:Int,x≠0/\y≠0/\∀n,x*cf a n=y*cf b n
theorem Sim.refl(a:List Int):Sim a a:=⟨1,1,by decide,by decide,λ_=>rfl⟩
theorem Sim.dv{a b d:List Int}(h:Sim a b)(hd:Dv d b):Dv d a:=by obtain⟨x,y,hx,hy,e⟩:=h;exact Dv.prop_right hx e hd
theorem Sim.symm{a b:List Int}(h:Sim a b):Sim b a:=by obtain⟨x,y,hx,hy,e⟩:=h;exact⟨y,x,hy,hx,λn=>(e n).symm⟩
theorem Dv.cancel{d a b:List Int}(hd:d≠[])(ht:Tr d)(h:Dv (ae d a) (ae d b)):Dv a b:=by
 obtain⟨c,q,hc,e⟩:=h
 have key:∀k,cf (di (-1) (scL c b) (ae q a)) k=0:=by
  refine yG hd ht λn _=>?_
  rw[dD (a:=b) (b:=ae q a) (x:=c) (y := -1) (λk=>by rw[fY,ba])]
  have e1:au (ae q a) d n=au q (ae d a) n:=by
   rw[<- aI,<- aI]
   congr 1
   rw[mi,mh a d]
  have e2:=e n;rw[aI,fh]at e2;rw[e1,<- e2];omega
 refine⟨c,q,hc,λn=>?_⟩;have:=key n;rw[fY,ba,aI]at this;omega
theorem Ec{d a b:List Int}(hd:Pln d)(ha:Pln a)(hb:Pln b)(h:ae d a=ae d b):a=b :=
 yd ha hb (Dv.cancel hd.ne hd.tr (h ▸ Dv.refl _)) (Dv.cancel hd.ne hd.tr (h ▸ Dv.refl _))
noncomputable def prd(ss:List (List Int)):List Int:=ss.foldr ae [1]
theorem zH:∀(ss:List (List Int)) (acc:List Int),ss.foldl ae acc=ae acc (prd ss)
 | [],acc=>(cz acc).symm
 |s::ss,acc=>by show ss.foldl ae (ae acc s)=ae acc (ae s (prd ss));rw[zH ss,mi]
theorem kq:∀(ss:List (List Int)),(∀s∈ss,Pln s)->Pln (prd ss)
 | [],_=>pln_one
 |s::ss,h=>(h s (M6 ..)).mul (kq ss λx hx=>h x (M0 _ hx))
structure Pri(s:List Int):Prop where
 pln:Pln s
 two:2<=s.length
 or:∀a b,Dv s (ae a b)->Dv s a\/Dv s b
theorem Pri.not_one{s:List Int}(h:Pri s):¬Dv s [1]:=λz=>by have:=Dv.short h.pln.ne h.pln.tr pln_one.tr (by have:=h.two;show 1<s.length;omega) z;exact absurd this (by simp)
theorem Pri.prd{s:List Int}(h:Pri s):∀ss:List (List Int),Dv s (prd ss)->∃t∈ss,Dv s t
 | [],hd=>absurd hd h.not_one
 |t::ss,hd=>by
  rcases h.or t (RM.prd ss) hd with z |z
  ·exact⟨t,M6 ..,z⟩
  ·obtain⟨t',ht,z'⟩:=Pri.prd h ss z;exact⟨t',M0 _ ht,z'⟩
theorem Pri.same{s t:List Int}(hs:Pri s)(ht:Pri t)(h:Dv s t):s=t:=by
 obtain⟨q,hq,e⟩:=h.fellow hs.pln ht.pln.tr ht.pln.ne;rw[ht.pln.plain]at e;have l:=bR hq.ne hs.pln.ne;rw[e]at l;have:=hs.two;have:=ye hq;rcases ht.or q s (e ▸ Dv.refl _)with z |z
 ·exact absurd (Dv.short ht.pln.ne ht.pln.tr hq.tr (by omega) z) hq.ne
 ·exact yd hs.pln ht.pln h z
theorem zZ:∀(ps:List (List Int)) {E:List Int},(∀p∈ps,Pri p)->Pln E->Dv E (prd ps)->E=[1]\/∃p∈ps,Dv p E
 | [],E,_,hE,h=>by
  refine .inl (hE.const ?_);have:=ye hE;refine Classical.byContradiction λz=>?_
  have:=Dv.short hE.ne hE.tr pln_one.tr (by show 1<E.length;omega) h;exact absurd this (by simp)
 |p::ps,E,hp,hE,h=>by
  obtain⟨c,q,hc,e⟩:=h;have P:=hp p (M6 ..)
  have d1:Dv p (ae q E):=Dv.prop_right (x:=1) (y:=c) (by decide) (λn=>by
   show 1*cf (ae q E) n=c*cf (RM.prd (p::ps)) n
   rw[e,aI];omega) (Dv.mul_left p (prd ps))
  rcases P.or q E d1 with z |z
  ·obtain⟨c',q',hc',e'⟩:=z
   have d2:Dv (ae p E) (ae p (prd ps)):=by
    refine⟨c*c',q',No hc hc',λn=>?_⟩;have e1:=e n;rw[show ae p (prd ps)=RM.prd (p::ps)from rfl]
    have e2:au (ae q' p) E n=c'*au q E n:=by have:=dD (a:=q) (b:=[]) (x:=c') (y:=0) (c:=ae q' p) (q:=E) (n:=n) (λk=>by rw[aI,<- e'];simp);rw[this];simp
    rw[<- kA,e2,<- e1,Ni c c',NG]
   rcases zZ ps (λx hx=>hp x (M0 _ hx)) hE (Dv.cancel P.pln.ne P.pln.tr d2)with w |⟨t,ht,w⟩
   ·exact .inl w
   ·exact .inr ⟨t,M0 _ ht,w⟩
  ·exact .inr ⟨p,M6 ..,z⟩
theorem Kt{A B C D L M:List Int}{ps:List (List Int)}(hC:Pln C)(cA:Dv C A)(cB:Dv C B)(call:∀d,Dv d A->Dv d B->Dv d C)(hD:Pln D)(sA:Sim A (ae D L))(sB:Sim B (ae D M))(hps:∀p∈ps,Pri p)(hL:L=prd ps)(hM:∀p∈ps,¬Dv p M):C=D:=by
 have dC:Dv D C:=call D (sA.dv (Dv.mul_left _ _)) (sB.dv (Dv.mul_left _ _));obtain⟨E,hE,e⟩:=dC.fellow hD hC.tr hC.ne;rw[hC.plain,mh]at e;have EL:Dv E L:=Dv.cancel hD.ne hD.tr (by rw[e];exact sA.symm.dv cA);have EM:Dv E M:=Dv.cancel hD.ne hD.tr (by rw[e];exact sB.symm.dv cB);rw[hL]at EL;rcases zZ ps hps hE EL with z |⟨p,hp,z⟩
 ·rw[<- e,z,cz]
 ·exact absurd (z.trans EM) (hM p hp)
theorem Es{A D L:List Int}(hA:Tr A)(hAn:A≠[])(hD:Pln D)(hL:Pln L)(e:aC A=ae D L):aK A D=[]/\aC (bN A D)=L:=by
 have dv:Dv D A:=(Dv.plain hA).mp (by rw[e];exact Dv.mul_left _ _);have hr:=dv.rest hD.ne hD.tr;refine⟨hr,?_⟩;have eq:=λn=>fU (a:=A) hD.ne n
 have m:=yg (m9 (a:=A) hD.ne hD.tr) hA hAn (uJ hD.ne hA hD.tr) hD (λn=>by rw[eq n,hr,cb];omega)
 have hq:bN A D≠[]:=λz=>by rw[z]at m;have:aC []=[]:=rfl;rw[this,fi,e]at m;exact kB hD.ne hL.ne m.symm
 have pq:=gE (uJ hD.ne hA hD.tr) hq;refine Ec hD pq hL ?_;rw[mh,m,e]
theorem dH(l:List Int)(n:Nat):cf (slopeL l) n=((n:Int)+1)*cf l (n+1):=by
 unfold slopeL;rw[ni];by_cases h:n<l.length-1
 ·rw[if_pos h]
 ·rw[if_neg h,cc (l:=l) (by omega),Nx]
theorem xv(x:Int)(a:List Int)(n:Nat):cf (slopeL (x::a)) n=1*cf a n+1*cf (0::slopeL a) n:=by
 rw[dH,qf,qg];cases n with
 |zero=>show(((0:Nat):Int)+1)*cf a 0=1*cf a 0+1*0;omega
 |succ n =>
  show(((n+1:Nat):Int)+1)*cf a (n+1)=1*cf a (n+1)+1*cf (slopeL a) n;rw[dH];have:((n+1:Nat):Int)=(n:Int)+1:=by omega
  rw[this,Int.add_mul];omega
theorem qW:∀(a b:List Int) (n:Nat),cf (slopeL (ae a b)) n=au (slopeL a) b n+au a (slopeL b) n
 | [],b,n=>by rw[fi];show cf (slopeL []) n=au (slopeL []) b n+au [] (slopeL b) n;have:slopeL []=[]:=rfl;rw[this,cb,dB,dB];omega
 |x::a,b,n=>by
  rw[dH,aI,df,dD (q:=b) (xv x a),yH,df,dH];show((n:Int)+1)*(x*cf b (n+1)+au a b n)=_;cases n with
  |zero =>show(((0:Nat):Int)+1)*(x*cf b 1+au a b 0)=1*au a b 0+1*0+(x*((((0:Nat):Int)+1)*cf b 1)+0);simp;omega
  |succ n =>
   have ih:=qW a b n;rw[dH,aI]at ih;show(((n+1:Nat):Int)+1)*(x*cf b (n+1+1)+au a b (n+1))=1*au a b (n+1)+1*au (slopeL a) b n+(x*((((n+1:Nat):Int)+1)*cf b (n+1+1))+au a (slopeL b) n);have:((n+1:Nat):Int)=(n:Int)+1:=by omega
   rw[this];generalize au a b (n+1)=z at *
   generalize au (slopeL a) b n=z1 at *
   generalize au a (slopeL b) n=z2 at *
   generalize cf b (n+1+1)=z3 at *
   generalize (n:Int)=m at *
   grind
noncomputable def pw(s:List Int):Nat->List Int
 |0=>[1]
 |n+1=>ae s (pw s n)
theorem dJ(s:List Int):pw s 1=s:=cz s
theorem xZ(s:List Int):∀a b,ae (pw s a) (pw s b)=pw s (a+b)
 |0,b=>by rw[Nat.zero_add];exact pC _
 |a+1,b=>by rw[show a+1+b=a+b+1 by omega];show ae (ae s (pw s a)) (pw s b)=ae s (pw s (a+b));rw[mi,xZ s a b]
theorem xY{s:List Int}(h:Pln s):∀n,Pln (pw s n)
 |0=>pln_one
 |n+1=>h.mul (xY h n)
theorem xt(s:List Int):∀(k n:Nat),cf (slopeL (pw s (k+1))) n=((k:Int)+1)*au (slopeL s) (pw s k) n
 |0,n=>by rw[dJ];show _=(((0:Nat):Int)+1)*au (slopeL s) [1] n;rw[fh,fM];omega
 |k+1,n=>by
  show cf (slopeL (ae s (pw s (k+1)))) n=_;rw[qW];have e:au s (slopeL (pw s (k+1))) n=((k:Int)+1)*au s (ae (slopeL s) (pw s k)) n:=mf λj=>by rw[xt s k j,aI]
  have e2:au s (ae (slopeL s) (pw s k)) n=au (slopeL s) (pw s (k+1)) n:=by
   show _=au (slopeL s) (ae s (pw s k)) n;rw[<- aI,<- aI]
   congr 1
   ac_rfl
  rw[e,e2];have:((k+1:Nat):Int)=(k:Int)+1:=by omega
  rw[this,Int.add_mul ((k:Int)+1) 1];omega
noncomputable def fP(g:Nat->Nat)(us:List (List Int×Nat)):List Int:=us.foldr (λp acc=>ae (pw p.1 (g p.2)) acc) [1]
theorem dW(g:Nat->Nat)(p:List Int×Nat)(us:List (List Int×Nat)):fP g (p::us)=ae (pw p.1 (g p.2)) (fP g us):=rfl
theorem uH(g h:Nat->Nat):∀us,ae (fP g us) (fP h us)=fP (λm=>g m+h m) us
 | []=>pC _
 |p::us=>by
  rw[dW,dW,dW,<- uH g h us,<- xZ]
  ac_rfl
theorem kK{g h:Nat->Nat}:∀us:List (List Int×Nat),(∀p∈us,g p.2=h p.2)->fP g us=fP h us
 | [],_=>rfl
 |p::us,H=>by rw[dW,dW,H p (M6 ..),kK us λx hx=>H x (M0 _ hx)]
theorem zN{g:Nat->Nat}:∀us:List (List Int×Nat),(∀p∈us,Pri p.1)->Pln (fP g us)
 | [],_=>pln_one
 |p::us,h=>(xY (h p (M6 ..)).pln _).mul (zN us λx hx=>h x (M0 _ hx))
theorem zM(c:Nat->Bool):∀us:List (List Int×Nat),fP (λm=>if c m then 1 else 0) us=prd ((us.filter λp=>c p.2).map (·.1))
 | []=>rfl
 |p::us=>by
  rw[dW,zM c us,List.filter_cons];cases h:c p.2 with
  |true =>simp only[if_true,NQ];rw[dJ];rfl
  |false =>simp only[Bool.false_eq_true,if_false];exact pC _
theorem zO{g:Nat->Nat}:∀(us:List (List Int×Nat)) {p:List Int×Nat},p∈us->0<g p.2->Dv p.1 (fP g us)
 |q::us,p,hp,h0=>by
  rw[dW];rcases Na.mp hp with rfl |hp
  ·obtain⟨k,hk⟩:∃k,g p.2=k+1:=⟨g p.2-1,by omega⟩;rw[hk];show Dv p.1 (ae (ae p.1 (pw p.1 k)) _);rw[mi];exact Dv.mul_left _ _
  ·exact(zO us hp h0).trans (Dv.mul_right _ _)
theorem Pri.pw{s t:List Int}(h:Pri s):∀n,Dv s (pw t n)->0<n/\Dv s t
 |0,hd=>absurd hd h.not_one
 |n+1,hd=>by
  refine⟨by omega,?_⟩;rcases h.or t (RM.pw t n) hd with z |z
  ·exact z
  ·exact(Pri.pw h n z).2
theorem Pri.fP{s:List Int}(h:Pri s){g:Nat->Nat}:∀us:List (List Int×Nat),Dv s (fP g us)->∃p∈us,0<g p.2/\Dv s p.1
 | [],hd=>absurd hd h.not_one
 |p::us,hd=>by
  rcases h.or (RM.pw p.1 (g p.2)) (RM.fP g us) hd with z |z
  ·exact⟨p,M6 ..,(h.pw _ z)⟩
  ·obtain⟨q,hq,z'⟩:=Pri.fP h us z;exact⟨q,M0 _ hq,z'⟩
structure Use(us:List (List Int×Nat)):Prop where
 pri:∀p∈us,Pri p.1
 pos:∀p∈us,1<=p.2
 nd:(us.map (·.1)).Nodup
theorem Use.tail{p:List Int×Nat}{us:List (List Int×Nat)}(h:Use (p::us)):Use us :=
 ⟨λx hx=>h.pri x (M0 _ hx),λx hx=>h.pos x (M0 _ hx),(OH.mp h.nd).2⟩
theorem Use.head{p q:List Int×Nat}{us:List (List Int×Nat)}(h:Use (p::us))(hq:q∈us):p.1≠q.1:=λz =>(OH.mp h.nd).1 (Nc.mpr ⟨q,hq,z.symm⟩)
theorem fj(l:List Int):(slopeL l).length=l.length-1:=by unfold slopeL;simp
theorem gk{l:List Int}(h:Tr l):Tr (slopeL l):=λn hn=>by rw[fj]at hn;rw[dH];exact No (by omega) (h (n+1) (by omega))
theorem xu:∀us:List (List Int×Nat),Use us->∃M,(∀n,cf (slopeL (fP id us)) n=au (fP (·-1) us) M n)/\∀q∈us,¬Dv q.1 M
 | [],_=>⟨[],λn=>by
  show cf (slopeL [1]) n=au [1] [] n
  rw[rW];exact cb n,λ_ h=>nomatch h⟩
 |p::us,h=>by
  obtain⟨M',e',h'⟩:=xu us h.tail;obtain⟨s,m⟩:=p;have P:Pri s:=h.pri _ (M6 ..);obtain⟨k,hk⟩:∃k,m=k+1:=⟨m-1,by have:=h.pos _ (M6 ..);simp at this;omega⟩;subst hk
  have eF:fP id us=ae (fP (·-1) us) (fP (λ_=>1) us):=by rw[uH];exact kK us λp hp=>by have:=h.tail.pos p hp;show p.2=p.2-1+1;omega
  have hX:∀n,cf (di 1 (ae (scL ((k:Int)+1) (slopeL s)) (fP (λ_=>1) us)) (ae s M')) n=1*cf (ae (scL ((k:Int)+1) (slopeL s)) (fP (λ_=>1) us)) n+1*cf (ae s M') n:=λn=>by rw[fY];omega
  refine⟨di 1 (ae (scL ((k:Int)+1) (slopeL s)) (fP (λ_=>1) us)) (ae s M'),λn=>?_,λq hq hd=>?_⟩
  ·rw[dW,dW];show cf (slopeL (ae (pw s (k+1)) (fP id us))) n=au (ae (pw s k) (fP (·-1) us)) _ n;rw[qW,yI hX]
   have a1:au (slopeL (pw s (k+1))) (fP id us) n=au (ae (pw s k) (fP (·-1) us)) (ae (scL ((k:Int)+1) (slopeL s)) (fP (λ_=>1) us)) n:=by
    rw[eF]
    have:au (slopeL (pw s (k+1))) (ae (fP (·-1) us) (fP (λ_=>1) us)) n=au (ae (scL ((k:Int)+1) (slopeL s)) (pw s k)) (ae (fP (·-1) us) (fP (λ_=>1) us)) n:=by
     refine pB (λj=>?_) λ_=>rfl
     rw[xt,aI];have:=dD (a:=slopeL s) (b:=[]) (x:=(k:Int)+1) (y:=0) (c:=scL ((k:Int)+1) (slopeL s)) (q:=pw s k) (n:=j) (λi=>by rw[ba];simp);rw[this];simp
    rw[this,<- aI,<- aI]
    congr 1
    ac_rfl
   have a2:au (pw s (k+1)) (slopeL (fP id us)) n=au (ae (pw s k) (fP (·-1) us)) (ae s M') n:=by
    rw[pB (a':=pw s (k+1)) (b':=ae (fP (·-1) us) M') (λ_=>rfl) (λj=>by rw[e',aI])];show au (ae s (pw s k)) _ n=_;rw[<- aI,<- aI]
    congr 1
    ac_rfl
   rw[a1,a2];omega
  ·have hX':∀n,1*cf (di 1 (ae (scL ((k:Int)+1) (slopeL s)) (fP (λ_=>1) us)) (ae s M')) n=au M' s n+cf (ae (scL ((k:Int)+1) (slopeL s)) (fP (λ_=>1) us)) n:=λn=>by rw[hX,aI s,fh s];omega
   rcases Na.mp hq with rfl |hq
   ·have d1:=Dv.down hX' hd (Dv.refl _);rcases P.or _ _ d1 with z |z
    ·have t:Tr (scL ((k:Int)+1) (slopeL s)):=kZ (by omega) (gk P.pln.tr);have l:(scL ((k:Int)+1) (slopeL s)).length=s.length-1:=by rw[bZ,fj]
     have:=P.two;have n:=Dv.short P.pln.ne P.pln.tr t (by omega) z;rw[n]at l;simp at l
     omega
    ·obtain⟨q',hq',_,w⟩:=P.fP us z;exact h.head hq' (P.same (h.tail.pri q' hq') w)
   ·have Q:=h.tail.pri q hq;have d0:Dv q.1 (ae (scL ((k:Int)+1) (slopeL s)) (fP (λ_=>1) us)):=(zO us hq (g:=λ_=>1) (by decide)).trans (Dv.mul_right _ _);have d1:Dv q.1 (ae s M'):=Dv.down (f:=1) (q:=[1]) (λn=>by rw[hX,fM];omega) hd d0;rcases Q.or _ _ d1 with z |z
    ·exact h.head hq (Q.same P z).symm
    ·exact h' q hq z
theorem Dy{s a b:List Int}(hs:s≠[])(h:Dv s (ae a b)):Dv s (ae (aK a s) (aK b s)):=by
 have e1:=λn=>fU (a:=a) hs n
 have e2:=λn=>fU (a:=b) hs n
 have d1:Dv s (ae (aK a s) b):=by
  refine Dv.down (f:=bU a s) (q:=ae (bN a s) b) (b:=s) (λn=>?_) h (Dv.refl _);rw[aI,aI];have l:=dD (a:=ae (bN a s) s) (b:=aK a s) (x:=1) (y:=1) (c:=scL (bU a s) a) (q:=b) (n:=n) (λk=>by rw[ba,e1,aI];omega);have l2:=dD (a:=a) (b:=[]) (x:=bU a s) (y:=0) (c:=scL (bU a s) a) (q:=b) (n:=n) (λk=>by rw[ba];simp)
  have l3:au (ae (bN a s) s) b n=au (ae (bN a s) b) s n:=by
   rw[<- aI,<- aI]
   congr 1
   ac_rfl
  rw[l2,l3]at l;rw[dB]at l;omega
 refine Dv.down (f:=bU b s) (q:=ae (aK a s) (bN b s)) (b:=s) (λn=>?_) d1 (Dv.refl _);rw[aI,aI];have l:=yI (a:=ae (bN b s) s) (b:=aK b s) (x:=1) (y:=1) (c:=scL (bU b s) b) (q:=aK a s) (n:=n) (λk=>by rw[ba,e2,aI];omega);have l2:=mf (a:=aK a s) (b:=b) (b':=scL (bU b s) b) (c:=bU b s) (n:=n) (λk=>by rw[ba])
 have l3:au (aK a s) (ae (bN b s) s) n=au (ae (aK a s) (bN b s)) s n:=by
  rw[<- aI,<- aI]
  congr 1
  ac_rfl
 rw[l2,l3]at l;omega
theorem zW{s a:List Int}(hs:s≠[])(ht:Tr s)(h:aK a s=[]):Dv s a :=
 ⟨bU a s,bN a s,m9 hs ht,λn=>by rw[fU hs,h,cb];omega⟩
noncomputable def aN(u e b:Int):List Int:=if e=0 then[-u,b]else[u*u-e,-2*b*u,b*b]
theorem iP{u e b:Int}(hb:1<=b):Tr (aN u e b)/\2<=(aN u e b).length:=by
 unfold aN;split
 ·exact⟨(tr_snoc (r:=[-u])).mpr (by omega),by show 2<=2;decide⟩
 ·exact⟨(tr_snoc (r:=[u*u-e,-2*b*u])).mpr (No (by omega) (by omega)),by show 2<=3;decide⟩
theorem yz{n e:Int}(hn:0<=n)(h1:n*n<e)(h2:e<(n+1)*(n+1)):∀(k:Nat) (x y:Int),x.toNat<=k->0<x->0<=y->e*(x*x)=y*y->False
 |0,x,y,hk,hx,_,_=>by omega
 |k+1,x,y,hk,hx,hy,h=>by
  have hxx:0<x*x:=M8 hx hx
  have a1:n*x<y:=by
   refine Int.not_le.mp λz=>?_
   have:=Int.mul_le_mul z z hy (Int.le_trans hy z);have:=NU h1 hxx;have e1:n*x*(n*x)=n*n*(x*x):=by grind
   omega
  have a2:y<(n+1)*x:=by
   refine Int.not_le.mp λz=>?_
   have z0:0<=(n+1)*x:=NH (by omega) (by omega);have:=Int.mul_le_mul z z z0 hy;have:=NU h2 hxx;have e1:(n+1)*x*((n+1)*x)=(n+1)*(n+1)*(x*x):=by grind
   omega
  have a3:(n+1)*x=n*x+x:=by rw[Int.add_mul];omega
  refine yz hn h1 h2 k (y-n*x) ((e*x-n*y).natAbs:Int) (by omega) (by omega) (by omega) ?_;rw[Int.natAbs_mul_self' (e*x-n*y)];grind
def NS(e:Int):Prop:=e<=0\/∃n:Int,0<=n/\n*n<e/\e<(n+1)*(n+1)
theorem NS.no{e x y:Int}(h:NS e)(he:e≠0)(hx:x≠0)(eq:x*x*e=y*y):False:=by
 rcases h with h |⟨n,hn,h1,h2⟩
 ·have hxx:0<x*x:=by
   rcases Pc hx with z |z
   ·exact Int.mul_pos_of_neg_of_neg z z
   ·exact M8 z z
  have:x*x*e<0:=Int.mul_neg_of_pos_of_neg hxx (by omega)
  have:0<=y*y:=by
   rcases Int.le_total 0 y with z |z
   ·exact NH z z
   ·exact O8 z z
  omega
 ·refine yz hn h1 h2 _ (x.natAbs:Int) (y.natAbs:Int) (MZ _) (by omega) (by omega) ?_;rw[Int.natAbs_mul_self' x,Int.natAbs_mul_self' y,<- eq,Ni]
theorem DJ{u e b:Int}(hb:1<=b)(he:NS e){p q:List Int}(h:Dv (aN u e b) (ae p q)):Dv (aN u e b) p\/Dv (aN u e b) q:=by
 obtain⟨tr,l2⟩:=iP (u:=u) (e:=e) hb;have hne:aN u e b≠[]:=λz=>by rw[z]at l2;simp at l2
 by_cases hp:aK p (aN u e b)=[]
 ·exact .inl (zW hne tr hp)
 by_cases hq:aK q (aN u e b)=[]
 ·exact .inr (zW hne tr hq)
 exfalso;have d:=Dy hne h;have t1:=eG p (aN u e b);have t2:=eG q (aN u e b);have n1:=fx (a:=p) hne;have n2:=fx (a:=q) hne;generalize aK p (aN u e b)=r1 at *
 generalize aK q (aN u e b)=r2 at *
 have lm:=bR hp hq;have p1:=M5.mpr hp;have p2:=M5.mpr hq;by_cases hs:(ae r1 r2).length<(aN u e b).length
 ·exact kB hp hq (Dv.short hne tr (og t1 t2) hs d)
 by_cases h0:e=0
 ·have:(aN u e b).length=2:=by unfold aN;rw[if_pos h0];rfl
  omega
 have er:aN u e b=[u*u-e,-2*b*u,b*b]:=by unfold aN;rw[if_neg h0]
 rw[er]at hs n1 n2 d hne tr;simp only[Nq,OY]at hs n1 n2
 obtain⟨α,β,rfl⟩:∃α β,r1=[α,β]:=by
  match r1,(show r1.length=2 by omega)with
  | [α,β],_=>exact⟨α,β,rfl⟩
 obtain⟨γ,δ,rfl⟩:∃γ δ,r2=[γ,δ]:=by
  match r2,(show r2.length=2 by omega)with
  | [γ,δ],_=>exact⟨γ,δ,rfl⟩
 have hβ:β≠0:=(tr_snoc (r:=[α])).mp t1;have hδ:δ≠0:=(tr_snoc (r:=[γ])).mp t2
 have em:ae [α,β] [γ,δ]=[α*γ,α*δ+β*γ,β*δ]:=by
  refine cN (by rw[lm];rfl) λk hk=>?_
  rw[lm]at hk;rw[aI];have hk':k<3:=hk;have:k=0\/k=1\/k=2:=by omega
  rcases this with rfl |rfl |rfl
  ·show(0+(α*γ))+0=α*γ;omega
  ·show(0+(α*δ))+(β*γ)=α*δ+β*γ;omega
  ·show(0+α*cf [γ,δ] 2)+(β*δ)=β*δ;have:cf [γ,δ] 2=0:=rfl;rw[this];simp
 rw[em]at d;have hr:=d.rest hne tr;have eqn:=λn=>fU (a:=[α*γ,α*δ+β*γ,β*δ]) hne n
 have hf:=m9 (a:=[α*γ,α*δ+β*γ,β*δ]) hne tr;have lq:=uL (a:=[α*γ,α*δ+β*γ,β*δ]) hne;generalize bU [α*γ,α*δ+β*γ,β*δ] [u*u-e,-2*b*u,b*b]=f at *
 generalize bN [α*γ,α*δ+β*γ,β*δ] [u*u-e,-2*b*u,b*b]=Q at *
 rw[hr]at eqn;have lq':Q.length=1:=lq;obtain⟨κ,rfl⟩:∃κ,Q=[κ]:=O9.mp lq';have g0:=eqn 0;have g1:=eqn 1;have g2:=eqn 2;rw[fM,cb]at g0 g1 g2
 replace g0:f*(α*γ)=κ*(u*u-e)+0:=g0
 replace g1:f*(α*δ+β*γ)=κ*(-2*b*u)+0:=g1
 replace g2:f*(β*δ)=κ*(b*b)+0:=g2
 have hκ:κ≠0:=λz=>by rw[z,NB]at g2;exact No hf (No hβ hδ) (by omega)
 refine he.no h0 (x:=2*κ*b) (y:=f*(α*δ-β*γ)) (No (No (by decide) hκ) (by omega)) ?_;have k1:f*(α*δ-β*γ)*(f*(α*δ-β*γ))=f*(α*δ+β*γ)*(f*(α*δ+β*γ))-4*((f*(α*γ))*(f*(β*δ))):=by grind
 rw[k1,g0,g1,g2];grind
theorem DI{u e b:Int}(hb:1<=b)(he:NS e):Pri (aC (aN u e b)):=by
 obtain⟨tr,l2⟩:=iP (u:=u) (e:=e) hb;have hne:aN u e b≠[]:=λz=>by rw[z]at l2;simp at l2
 obtain⟨g,hg,eg⟩:=o6 tr;have to:∀p,Dv (aC (aN u e b)) p->Dv (aN u e b) p:=λp h=>Dv.prop_left (x:=1) (y:=g) (by decide) hg (λn=>by rw[eg];omega) h
 have fr:∀p,Dv (aN u e b) p->Dv (aC (aN u e b)) p:=λp h=>Dv.prop_left (x:=g) (y:=1) hg (by decide) (λn=>by rw[<- eg];omega) h
 refine⟨gE tr hne,by rw[plain_len];exact l2,λp q h=>?_⟩;exact(DJ hb he (to _ h)).imp (fr _) (fr _)
noncomputable def com(xs ys:List Int):List Int:=cp 20 (aC xs) (aC ys)
structure ComOk(xs ys:List Int):Prop where
 pln:xs≠[]\/ys≠[]->Pln (com xs ys)
 left:Dv (com xs ys) xs
 right:Dv (com xs ys) ys
 all:∀d,Dv d xs->Dv d ys->Dv d (com xs ys)
theorem Aj{xs ys:List Int}(h2:ys.length<=19)(t1:Tr xs)(t2:Tr ys):ComOk xs ys:=by
 obtain⟨c1,c2,c3,c4,c5,c6⟩:=Ak 20 (aC xs) (aC ys) (by rw[plain_len];omega) (fC t1) (fC t2);refine⟨λh=>?_,(Dv.plain t1).mp c2,(Dv.plain t2).mp c3,λd a b=>c4 d ((Dv.plain t1).mpr a) ((Dv.plain t2).mpr b)⟩;have hne:com xs ys≠[]:=c5 (h.imp (λz q=>z (Of.mp (by rw[<- plain_len,q];rfl))) (λz q=>z (Of.mp (by rw[<- plain_len,q];rfl))))
 obtain⟨l,tl,el⟩:∃l,Tr l/\com xs ys=aC l:=by
  rcases c6 with e |e |e
  ·exact⟨xs,t1,e⟩
  ·exact⟨ys,t2,e⟩
  ·exact e
 have hl:l≠[]:=λz=>hne (by rw[el,z];rfl)
 rw[el];exact gE tl hl
theorem Ku{A B D L M:List Int}{ps:List (List Int)}(tA:Tr A)(nA:A≠[])(tB:Tr B)(lB:B.length<=19)(hD:Pln D)(sA:Sim A (ae D L))(sB:Sim B (ae D M))(hps:∀p∈ps,Pri p)(hL:L=prd ps)(hM:∀p∈ps,¬Dv p M):com A B=D :=
 have C:=Aj lB tA tB
 Kt (C.pln (.inl nA)) C.left C.right C.all hD sA sB hps hL hM
noncomputable def eq1(k m:Nat):Nat:=if m=k then 1 else 0
noncomputable def yu(_:Nat):Nat:=1
noncomputable def mor(us:List (List Int×Nat))(k:Nat):List Int:=fP (·-k) us
noncomputable def flt(us:List (List Int×Nat)):List Int:=fP yu us
variable {us:List (List Int×Nat)}
theorem zI:flt us=prd (us.map (·.1)):=by
 have:=zM (λ_=>true) us;have e:us.filter (λp=>(λ_=>true) p.2)=us:=List.filter_eq_self.mpr λ_ _=>rfl
 rw[e]at this;rw[<- this];exact kK us λp _=>rfl
theorem ig(h:Use us)(g:Nat->Nat):Pln (fP g us):=zN us h.pri
noncomputable def whl(c:Int)(us:List (List Int×Nat)):List Int:=ae [c] (fP id us)
theorem cV(c:Int):whl c us=scL c (fP id us):=by
 unfold whl;by_cases h:fP id us=[]
 ·rw[h,fN];rfl
 refine cN ?_ λk _=>?_
 ·rw[bR (by simp) h,bZ];simp
 ·rw[aI,fM,ba]
theorem eN(h:Use us){c:Int}(hc:c≠0):Tr (whl c us)/\whl c us≠[]/\aC (whl c us)=fP id us:=by have pl:=ig h id;rw[cV];refine⟨kZ hc pl.tr,λz=>pl.ne (Of.mp (by rw[<- bZ c,z];rfl)),?_⟩;rw[o7 hc pl.tr,pl.plain]
theorem wo(h:Use us):ae (mor us 1) (flt us)=fP id us:=by unfold mor flt;rw[uH];exact kK us λp hp=>by have:=h.pos p hp;show p.2-1+1=p.2;omega
theorem wn(h:Use us){c:Int}(hc:c≠0)(hl:(whl c us).length<=20):com (whl c us) (slopeL (whl c us))=mor us 1:=by
 obtain⟨t,n,p⟩:=eN h hc;obtain⟨M,eM,hM⟩:=xu us h;refine Ku (L:=flt us) (M:=M) (ps:=us.map (·.1)) t n (gk t) (by rw[fj];omega) (ig h _) ⟨1,c,by decide,hc,λk=>?_⟩ ⟨1,c,by decide,hc,λk=>?_⟩ (λp hp=>?_) zI (λp hp=>?_)
 ·rw[wo h,cV,ba];omega
 ·rw[aI];have e:=eM k;rw[dH]at e;show 1*cf (slopeL (whl c us)) k=c*au (fP (·-1) us) M k;rw[<- e,dH,cV,ba];grind
 ·obtain⟨q,hq,rfl⟩:=Nc.mp hp;exact h.pri q hq
 ·obtain⟨q,hq,rfl⟩:=Nc.mp hp;exact hM q hq
theorem Bg(h:Use us){c:Int}(hc:c≠0):aK (whl c us) (mor us 1)=[]/\aC (bN (whl c us) (mor us 1))=flt us:=by obtain⟨t,n,p⟩:=eN h hc;exact Es t n (ig h _) (ig h _) (by rw[p,wo h])
noncomputable def dgs(g:Nat->Nat):List (List Int×Nat)->Nat
 | []=>0
 |p::us=>g p.2*(p.1.length-1)+dgs g us
theorem Ad{g h:Nat->Nat}:∀us:List (List Int×Nat),(∀p∈us,g p.2<=h p.2)->dgs g us<=dgs h us
 | [],_=>MZ _
 |p::us,H=>by
  have:=Ad us λx hx=>H x (M0 _ hx)
  have:=NC (p.1.length-1) (H p (M6 ..));show g p.2*_+dgs g us<=h p.2*_+dgs h us;omega
theorem rq{s:List Int}(h:s≠[]):∀n,(pw s n).length=1+n*(s.length-1)/\pw s n≠[]
 |0=>⟨by rw[Nat.zero_mul];rfl,by simp[pw]⟩
 |n+1=>by obtain⟨a,b⟩:=rq h n;have:=M5.mpr h;refine⟨?_,kB h b⟩;show(ae s (pw s n)).length=_;rw[bR h b,a,Nat.succ_mul];omega
theorem uI(g:Nat->Nat):∀us:List (List Int×Nat),(∀p∈us,p.1≠[])->(fP g us).length=1+dgs g us/\fP g us≠[]
 | [],_=>⟨rfl,by simp[fP]⟩
 |p::us,H=>by
  obtain⟨a,b⟩:=uI g us λx hx=>H x (M0 _ hx)
  obtain⟨c,d⟩:=rq (H p (M6 ..)) (g p.2);rw[dW];refine⟨?_,kB d b⟩;rw[bR d b,a,c];show _=1+(g p.2*_+dgs g us);omega
noncomputable def bX(sq due:Int):Int:=if due<0\/due*due<sq then 1 else 0-(if sq<due*due then 1 else 0)
noncomputable def aq(l:List Int)(t n:Int):Int:=if 0<cf l 3 then bX (cf l 1*n*n) (cf l 2*t-cf l 0*n)else 0-bX (cf l 1*n*n) (0-(cf l 2*t-cf l 0*n))
theorem cJ(sq d:Int):(bX sq d=1/\(d<0\/d*d<sq))\/(bX sq d=0/\0<=d/\d*d=sq)\/(bX sq d = -1/\0<=d/\sq<d*d):=by
 unfold bX;by_cases h:d<0\/d*d<sq
 ·rw[if_pos h];exact .inl ⟨rfl,h⟩
 ·rw[if_neg h];by_cases h2:sq<d*d
  ·rw[if_pos h2];exact .inr (.inr ⟨rfl,by omega,h2⟩)
  ·rw[if_neg h2];exact .inr (.inl ⟨rfl,by omega,by omega⟩)
structure Spt(l:List Int):Prop where
 is:∃u e b s:Int,l=[u,e,b,s]/\0<=e/\1<=b/\(s=1\/s = -1)
theorem w8{x y:Int}(hx:0<=x)(h:x<=y):x*x<=y*y:=Int.mul_le_mul h h hx (by omega)
theorem w6{x y:Int}(hx:0<=x)(h:x<y):x*x<y*y:=by have h1:x*x<=x*y:=Oz (M7 h) hx;have h2:x*y<y*y:=NU h (by omega);omega
theorem wQ{g sq d:Int}(hg:0<g):bX (sq*(g*g)) (g*d)=bX sq d:=by
 have hgg:0<g*g:=M8 hg hg;have e1:g*d*(g*d)=d*d*(g*g):=by grind
 have e2:(g*d<0)↔d<0:=by
  constructor
  ·intro h;refine Int.not_le.mp λz=>?_
   have:=NH (M7 hg) z;omega
  ·intro h;exact Int.mul_neg_of_pos_of_neg hg h
 have e3:∀x y:Int,(x*(g*g)<y*(g*g))↔x<y:=λx y=>⟨λh=>Oq h (M7 hgg),λh=>NU h hgg⟩
 unfold bX;rw[e1];simp only[e2,e3]
theorem xy{g t n:Int}(l:List Int)(hg:0<g):aq l (g*t) (g*n)=aq l t n:=by
 have e1:cf l 1*(g*n)*(g*n)=cf l 1*n*n*(g*g):=by grind
 have e2:cf l 2*(g*t)-cf l 0*(g*n)=g*(cf l 2*t-cf l 0*n):=by grind
 have e3:0-g*(cf l 2*t-cf l 0*n)=g*(0-(cf l 2*t-cf l 0*n)):=by grind
 unfold aq;rw[e1,e2,e3,wQ hg,wQ hg]
theorem oR{t n t' n':Int}(l:List Int)(hn:0<n)(hn':0<n')(e:t*n'=t'*n):aq l t n=aq l t' n':=by
 rw[<- xy (g:=n') l hn',<- xy (g:=n) (t:=t') l hn];have e1:n'*t=n*t':=by rw[Ni,e,Ni]
 rw[e1,Ni n' n]
theorem fF(l:List Int)(t n:Int):aq l t n=1\/aq l t n=0\/aq l t n = -1:=by
 unfold aq;split
 ·rcases cJ (cf l 1*n*n) (cf l 2*t-cf l 0*n)with h |h |h<;>omega
 ·rcases cJ (cf l 1*n*n) (0-(cf l 2*t-cf l 0*n))with h |h |h<;>omega
theorem gt{l:List Int}(hl:Spt l){t n t' n':Int}(hn:0<n)(hn':0<n')(h:t*n'<t'*n)(hs:aq l t n<=0):aq l t' n' = -1:=by
 obtain⟨u,e,b,s,rfl,he,hb,hs1⟩:=hl
 have hlt:(b*t-u*n)*n'<(b*t'-u*n')*n:=by
  have h1:b*(t*n')<b*(t'*n):=Pl h (by omega);have e1:(b*t-u*n)*n'=b*(t*n')-u*n*n':=by grind
  have e2:(b*t'-u*n')*n=b*(t'*n)-u*n*n':=by grind
  omega
 have hnn:0<n*n:=M8 hn hn;have hnn':0<n'*n':=M8 hn' hn';rcases hs1 with rfl |rfl
 ·have z0:(0:Int)<1:=by decide
  have hs:bX (e*n*n) (b*t-u*n)<=0:=hs;show bX (e*n'*n') (b*t'-u*n') = -1;generalize b*t-u*n=a at *
  generalize b*t'-u*n'=a' at *
  have k1:0<=a/\e*n*n<=a*a:=by rcases cJ (e*n*n) a with h |h |h<;>omega
  have k2:0<=a*n':=NH k1.1 (M7 hn');have k3:0<a':=Oq (a:=n) (by omega) (M7 hn);have k4:=w6 k2 hlt;have k5:e*n*n*(n'*n')<=a*a*(n'*n'):=Ny k1.2 (M7 hnn')
  have k6:e*n'*n'*(n*n)<a'*a'*(n*n):=by
   have e1:e*n'*n'*(n*n)=e*n*n*(n'*n'):=by grind
   have e2:a'*a'*(n*n)=a'*n*(a'*n):=by grind
   have e3:a*a*(n'*n')=a*n'*(a*n'):=by grind
   omega
  have k7:=Oq k6 (M7 hnn);rcases cJ (e*n'*n') a' with h |h |h<;>omega
 ·have hs:0-bX (e*n*n) (0-(b*t-u*n))<=0:=hs;show 0-bX (e*n'*n') (0-(b*t'-u*n')) = -1;generalize ha:0-(b*t-u*n)=a at *
  generalize ha':0-(b*t'-u*n')=a' at *
  have hlt':a'*n<a*n':=by
   have e1:a'*n = -((b*t'-u*n')*n):=by rw[<- ha'];grind
   have e2:a*n' = -((b*t-u*n)*n'):=by rw[<- ha];grind
   omega
  have k1:a<0\/a*a<=e*n*n:=by rcases cJ (e*n*n) a with h |h |h<;>omega
  have k2:a'<0\/a'*a'<e*n'*n':=by
   by_cases z:a'<0
   ·exact .inl z
   right;have p1:0<=a'*n:=NH (by omega) (M7 hn);have p2:0<a:=Oq (a:=n') (by omega) (M7 hn');have p3:=w6 p1 hlt';have k5:a*a*(n'*n')<=e*n*n*(n'*n'):=Ny (by omega) (M7 hnn')
   have k6:a'*a'*(n*n)<e*n'*n'*(n*n):=by
    have e1:e*n'*n'*(n*n)=e*n*n*(n'*n'):=by grind
    have e2:a'*a'*(n*n)=a'*n*(a'*n):=by grind
    have e3:a*a*(n'*n')=a*n'*(a*n'):=by grind
    omega
   exact Oq k6 (M7 hnn)
  rcases cJ (e*n'*n') a' with h |h |h<;>omega
noncomputable def spF(f:List Int):List (List Int):=(if 0<=cf f 1 then[[cf f 0,cf f 1,cf f 2,1]]else[])++(if 0<cf f 1 then[[cf f 0,cf f 1,cf f 2,-1]]else[])
noncomputable def aD(fs:List (List Int)):List (List Int):=fs.flatMap spF
noncomputable def spr(t n:Int):List (List Int)->Int
 | []=>1
 |l::ls => -aq l t n*spr t n ls
theorem ol(t n:Int):∀a b,spr t n (a++b)=spr t n a*spr t n b
 | [],b=>by show _=1*_;rw[Nh];rfl
 |x::a,b=>by show _*spr t n (a++b)=_*_*_;rw[ol t n a b,NG]
theorem B7{f l:List Int}{u e b:Int}(hf:f=[u,e,b])(hb:1<=b)(h:l∈spF f):Spt l/\∃s,l=[u,e,b,s]/\0<=e/\(s=1\/s = -1/\0<e):=by
 subst hf;have hd:spF [u,e,b]=(if 0<=e then[[u,e,b,1]]else[])++(if 0<e then[[u,e,b,-1]]else[]):=rfl;rw[hd]at h;rcases NM.mp h with h |h
 ·by_cases z:0<=e
  ·rw[if_pos z]at h;obtain rfl:=Nb.mp h;exact⟨⟨u,e,b,1,rfl,z,hb,.inl rfl⟩,1,rfl,z,.inl rfl⟩
  ·rw[if_neg z]at h;cases h
 ·by_cases z:0<e
  ·rw[if_pos z]at h;obtain rfl:=Nb.mp h;exact⟨⟨u,e,b,-1,rfl,by omega,hb,.inr rfl⟩,-1,rfl,by omega,.inr ⟨rfl,z⟩⟩
  ·rw[if_neg z]at h;cases h
theorem DH{u e b t n:Int}(hn:0<n):sg (hv t n (aN u e b))=spr t n (spF [u,e,b]):=by
 have hd:spF [u,e,b]=(if 0<=e then[[u,e,b,1]]else[])++(if 0<e then[[u,e,b,-1]]else[]):=rfl;rw[hd];by_cases h0:e=0
 ·subst h0;have er:aN u 0 b=[-u,b]:=by unfold aN;rw[if_pos rfl]
  have ev:hv t n [-u,b]=n*(b*t-u*n):=by show -u*n^2+t*(b*n^1+t*0)=_;grind
  rw[er,ev,dz hn,if_pos (NR _),if_neg (by omega)];show _ = -bX (0*n*n) (b*t-u*n)*1;generalize b*t-u*n=a;rw[NB,NB];have:a<0\/a=0\/0<a:=by omega
  rcases this with h |h |h
  ·have h1:sg a = -1:=by unfold sg;rw[if_pos h]
   rcases cJ 0 a with z |z |z<;>omega
  ·subst h;rfl
  ·have h1:sg a=1:=by unfold sg;rw[if_neg (by omega),if_pos h]
   have h2:=M8 h h;rcases cJ 0 a with z |z |z<;>omega
 ·have er:aN u e b=[u*u-e,-2*b*u,b*b]:=by unfold aN;rw[if_neg h0]
  have ev:hv t n [u*u-e,-2*b*u,b*b]=n*((b*t-u*n)*(b*t-u*n)-e*n*n):=by show(u*u-e)*n^3+t*((-2*b*u)*n^2+t*((b*b)*n^1+t*0))=_;grind
  rw[er,ev,dz hn];by_cases hp:0<=e
  ·rw[if_pos hp,if_pos (by omega)];show _ = -bX (e*n*n) (b*t-u*n)*(-(0-bX (e*n*n) (0-(b*t-u*n)))*1);generalize b*t-u*n=a;have hE:0<e*n*n:=M8 (M8 (by omega) hn) hn;generalize e*n*n=E at *
   have e1:(0-a)*(0-a)=a*a:=by grind
   have h1:=cJ E a;have h2:=cJ E (0-a);rw[e1]at h2;have az:a=0->a*a=0:=λz=>by rw[z];rfl
   have s3:(a*a<E/\sg (a*a-E) = -1)\/(a*a=E/\sg (a*a-E)=0)\/(E<a*a/\sg (a*a-E)=1):=by unfold sg;split<;>(try split)<;>omega
   generalize a*a=q at *
   rcases h1 with⟨x1,x2⟩ |⟨x1,x2⟩ |⟨x1,x2⟩<;>rcases h2 with⟨y1,y2⟩ |⟨y1,y2⟩ |⟨y1,y2⟩<;>rw[x1,y1]<;>simp<;>omega
  ·rw[if_neg hp,if_neg (by omega)]
   have h1:0<=(b*t-u*n)*(b*t-u*n):=by
    rcases Int.le_total 0 (b*t-u*n)with z |z
    ·exact NH z z
    ·exact O8 z z
   have h2:e*n*n<0:=by rw[NG];exact Pg (by omega) (M8 hn hn)
   show sg _=1;unfold sg;rw[if_neg (by omega),if_pos (by omega)]
noncomputable def ax(f:List Int):List Int:=aC (aN (cf f 0) (cf f 1) (cf f 2))
theorem xD(x y:Int):sg (x*y)=sg x*sg y:=by
 rcases Int.lt_trichotomy x 0 with hx |hx |hx
 ·have h1:sg x = -1:=by unfold sg;rw[if_pos hx]
  have e:x*y = -((-x)*y):=by grind
  rw[e,Cu,dz (by omega),h1];omega
 ·subst hx;rw[NB];show(0:Int)=0*_;rw[NB]
 ·have h1:sg x=1:=by unfold sg;rw[if_neg (by omega),if_pos hx]
  rw[dz hx,h1,Nh]
theorem yf{l:List Int}(h:Tr l)(hne:l≠[])(hp:0<ar l):∃g:Int,0<g/\l=scL g (aC l):=by
 obtain⟨g,hg,e⟩:=o6 h
 have e2:l=scL g (aC l):=by
  apply cN
  ·rw[bZ,plain_len]
  ·intro k _;rw[ba,e k]
 have hP:=gE h hne;refine⟨g,?_,e2⟩;obtain⟨r,x,er⟩:=(cx l).resolve_left hne;have hx:ar l=cf l r.length:=by rw[er,cM,kM]
 obtain⟨r',x',er'⟩:=(cx (aC l)).resolve_left hP.ne;have hx':ar (aC l)=cf (aC l) r'.length:=by rw[er',cM,kM]
 have hl:r.length=r'.length:=by have:=plain_len l;have h1:=congrArg List.length er;have h2:=congrArg List.length er';simp at h1 h2;omega
 have h3:=e r.length;rw[<- hx,hl,<- hx']at h3;have h4:=hP.pos;rw[h3]at hp;rcases Pc hg with z |z
 ·have:=Pg z h4;omega
 ·exact z
theorem Cn{u e b t n:Int}(hb:1<=b)(hn:0<n):sg (hv t n (ax [u,e,b]))=spr t n (spF [u,e,b]):=by
 obtain⟨tr,l2⟩:=iP (u:=u) (e:=e) hb;have hne:aN u e b≠[]:=λz=>by rw[z]at l2;simp at l2
 have hlast:0<ar (aN u e b):=by
  unfold aN;split
  ·show 0<ar ([-u]++[b]);rw[cM];omega
  ·show 0<ar ([u*u-e,-2*b*u]++[b*b]);rw[cM];exact M8 (by omega) (by omega)
 obtain⟨g,hg,eg⟩:=yf tr hne hlast;rw[<- DH hn];show sg (hv t n (aC (aN u e b)))=_
 have e3:hv t n (aN u e b)=g*hv t n (aC (aN u e b)):=by
  calc hv t n (aN u e b)=hv t n (scL g (aC (aN u e b))):=by rw[<- eg]
   _=_:=tq _ _ _ _
 rw[e3,dz hg]
def dX(f:List Int):Prop:=∃u e b:Int,f=[u,e,b]/\1<=b
theorem yc{t n:Int}(hn:0<n):∀(fs:List (List Int)),(∀f∈fs,dX f)->sg (pr t n (fs.map ax))=spr t n (aD fs)
 | [],_=>rfl
 |f::fs,h=>by
  obtain⟨u,e,b,rfl,hb⟩:=h f (M6 ..);have ih:=yc (t:=t) hn fs λx hx=>h x (M0 _ hx)
  have e1:aD ([u,e,b]::fs)=spF [u,e,b]++aD fs:=by unfold aD;rw[List.flatMap_cons]
  show sg (hv t n (ax [u,e,b])*pr t n (fs.map ax))=_;rw[xD,Cn hb hn,ih,e1,ol]
theorem qZ{f:List Int}(h:dX f):ax f≠[]/\Tr (ax f):=by obtain⟨u,e,b,rfl,hb⟩:=h;obtain⟨tr,l2⟩:=iP (u:=u) (e:=e) hb;refine⟨λz=>?_,fC tr⟩;have:=plain_len (aN u e b);have z':aC (aN u e b)=[]:=z;rw[z']at this;simp at this;omega
theorem oY{t n c:Int}(hn:0<n){fs:List (List Int)}(h:∀f∈fs,dX f):sg (hv t n (ae [c] (aL [1] (fs.map ax))))=sg c*spr t n (aD fs):=by
 have hs:∀s∈fs.map ax,s≠[]/\Tr s:=λs hs=>by obtain⟨x,hx,rfl⟩:=Nc.mp hs;exact qZ (h x hx)
 obtain⟨p1,p2,p3⟩:=ko (fs.map ax) [1] (by simp) ((tr_snoc (r:=[])).mpr (by decide)) hs;have e1:=mM t n (a:=[c]) (b:=aL [1] (fs.map ax)) p1 (by simp);have e2:=pS t n (fs.map ax) [1] (by simp) λs h=>(hs s h).1
 rw[mL]at e1 e2;rw[<- yc hn fs h]
 have e3:hv t n (ae [c] (aL [1] (fs.map ax)))=c*hv t n (aL [1] (fs.map ax)):=by refine Pj (Nr hn) ?_;rw[e1];grind
 rw[e3,xD];have e4:=congrArg sg e2;rw[dz (NI hn),Nh,dz hn]at e4;rw[e4]
def inS(l:List Int)(A B D:Int):Prop:=0<aq l A D/\aq l B D<=0
instance (l:List Int) (A B D:Int):Decidable (inS l A B D):=inferInstanceAs (Decidable (_/\_))
def FacG(f:List Int):Prop:=∃u e b:Int,f=[u,e,b]/\True/\True/\True/\True/\1<=b/\True/\NS e
theorem FacG.q{f:List Int}(h:FacG f):dX f:=by obtain⟨u,e,b,rfl,_,_,_,_,h5,_⟩:=h;exact⟨u,e,b,rfl,h5⟩
def kX(l l':List Int):Prop:=∀A B D:Int,2^200<=D->B=A+128->inS l A B D->inS l' A B D->False
theorem du{fs:List (List Int)}(hF:∀f∈fs,dX f){l:List Int}(hl:l∈aD fs):Spt l:=by obtain⟨f,hf,hm⟩:=Os.mp hl;obtain⟨u,e,b,rfl,hb⟩:=hF f hf;exact(B7 rfl hb hm).1
noncomputable def pv:List Int->Rat->Rat
 | [],_=>0
 |c::l,x=>(c:Rat)+x*pv l x
theorem x5:∀(N:Nat) (a b c:List Int) (u v:Int) (x:Rat),a.length<=N->b.length<=N->c.length<=N->(∀n,cf c n=u*cf a n+v*cf b n)->pv c x=(u:Rat)*pv a x+(v:Rat)*pv b x
 |0,a,b,c,u,v,x,ha,hb,hc,_=>by rw[Op (Nat.le_zero.mp ha),Op (Nat.le_zero.mp hb),Op (Nat.le_zero.mp hc)];show(0:Rat)=u*0+v*0;grind
 |N+1,a,b,c,u,v,x,ha,hb,hc,h=>by
  have key:∀l:List Int,l.length<=N+1->pv l x=(cf l 0:Rat)+x*pv l.tail x/\l.tail.length<=N/\∀n,cf l.tail n=cf l (n+1):=λl hl=>by
   cases l with
   |nil=>exact⟨by show(0:Rat)=((0:Int):Rat)+x*0;grind,M9 _,λn=>by rw[cb];rfl⟩
   |cons y l=>exact⟨rfl,by simpa using hl,λn=>rfl⟩
  obtain⟨a1,a2,a3⟩:=key a ha;obtain⟨b1,b2,b3⟩:=key b hb;obtain⟨c1,c2,c3⟩:=key c hc;have ih:=x5 N a.tail b.tail c.tail u v x a2 b2 c2 λn=>by rw[a3,b3,c3,h]
  have h0:(cf c 0:Rat)=(u:Rat)*(cf a 0:Rat)+(v:Rat)*(cf b 0:Rat):=by rw[h 0,Rat.intCast_add,NJ,NJ]
  rw[a1,b1,c1,ih,h0];grind
theorem oX{a b c:List Int}{u v:Int}(x:Rat)(h:∀n,cf c n=u*cf a n+v*cf b n):pv c x=(u:Rat)*pv a x+(v:Rat)*pv b x :=
 x5 (a.length+b.length+c.length) a b c u v x (by omega) (by omega) (by omega) h
theorem lQ{a c:List Int}{u:Int}(x:Rat)(h:∀n,cf c n=u*cf a n):pv c x=(u:Rat)*pv a x:=by
 have:=oX (a:=a) (b:=[]) (c:=c) (u:=u) (v:=0) x λn=>by rw[h n,NB,NF]
 rw[this];show _+((0:Int):Rat)*0=_;grind
theorem x4(x:Rat):∀(a b c:List Int),(∀n,cf c n=au a b n)->pv c x=pv a x*pv b x
 | [],b,c,h=>by
  have:=lQ (a:=[]) (c:=c) (u:=0) x λn=>by rw[h n,dB];simp
  rw[this];show _=(0:Rat)*_;show((0:Int):Rat)*0=0*_;grind
 |y::a,b,c,h=>by
  have ih:=x4 x a b (ae a b) (aI a b)
  have:=oX (a:=b) (b:=0::ae a b) (c:=c) (u:=y) (v:=1) x λn=>by
   rw[h n,df,qg,Nh]
   congr 1
   unfold up;split
   ·rfl
   ·rw[aI]
  rw[this];show(y:Rat)*pv b x+((1:Int):Rat)*(((0:Int):Rat)+x*pv (ae a b) x)=((y:Rat)+x*pv a x)*pv b x;rw[ih];grind
theorem d7{a b:Rat}(ha:0<a)(hb:0<b):0<a/b:=by rw[Rat.div_def];exact NY ha (Rat.inv_pos.mpr hb)
noncomputable def Bd(M v:Rat):Prop := -M<=v/\v<=M
theorem Bd.mul{M N u v:Rat}(h1:Bd M u)(h2:Bd N v):Bd (M*N) (u*v):=by obtain⟨a,b⟩:=h1;obtain⟨c,d⟩:=h2;have p1:0<=(M-u)*(N-v):=Nv (by grind) (by grind);have p2:0<=(M+u)*(N+v):=Nv (by grind) (by grind);have p3:0<=(M-u)*(N+v):=Nv (by grind) (by grind);have p4:0<=(M+u)*(N-v):=Nv (by grind) (by grind);constructor<;>grind
theorem Bd.add{M N u v:Rat}(h1:Bd M u)(h2:Bd N v):Bd (M+N) (u+v):=by obtain⟨a,b⟩:=h1;obtain⟨c,d⟩:=h2;constructor<;>grind
theorem Bd.mono{M N u:Rat}(h1:Bd M u)(h:M<=N):Bd N u:=by obtain⟨a,b⟩:=h1;constructor<;>grind
def Nice(f:Rat->Rat):Prop:=∀R:Rat,0<=R->∃M:Rat,0<=M/\(∀x,Bd R x->Bd M (f x))/\∀x y,Bd R x->Bd R y->x<=y->Bd (M*(y-x)) (f y-f x)
theorem kz(c:Rat):Nice λ_=>c:=λR _=>by
 rcases N9 (a:=0) (b:=c)with h |h
 ·exact⟨c,h,λx _=>⟨by grind,by grind⟩,λx y _ _ hxy=>by
   have:=Nv h (show 0<=y-x by grind)
   exact⟨by grind,by grind⟩⟩
 ·exact⟨-c,by grind,λx _=>⟨by grind,by grind⟩,λx y _ _ hxy=>by
   have:=Nv (show 0 <= -c by grind) (show 0<=y-x by grind)
   exact⟨by grind,by grind⟩⟩
theorem nice_id:Nice λx=>x:=λR hR=>by refine⟨R+1,by grind,λx h=>h.mono (by grind),λx y _ _ hxy=>?_⟩;have:=Nv hR (show 0<=y-x by grind);exact⟨by grind,by grind⟩
theorem Nice.add{f g:Rat->Rat}(hf:Nice f)(hg:Nice g):Nice λx=>f x+g x:=λR hR=>by
 obtain⟨M,m0,m1,m2⟩:=hf R hR;obtain⟨N,n0,n1,n2⟩:=hg R hR;refine⟨M+N,by grind,λx h=>(m1 x h).add (n1 x h),λx y hx hy hxy=>?_⟩;have:=(m2 x y hx hy hxy).add (n2 x y hx hy hxy);have e1:M*(y-x)+N*(y-x)=(M+N)*(y-x):=by grind
 have e2:f y-f x+(g y-g x)=f y+g y-(f x+g x):=by grind
 rwa [e1,e2]at this
theorem Nice.mul{f g:Rat->Rat}(hf:Nice f)(hg:Nice g):Nice λx=>f x*g x:=λR hR=>by
 obtain⟨M,m0,m1,m2⟩:=hf R hR;obtain⟨N,n0,n1,n2⟩:=hg R hR;have p:=Nv m0 n0;refine⟨2*(M*N),by grind,λx h=>((m1 x h).mul (n1 x h)).mono (by grind),λx y hx hy hxy=>?_⟩;have:=((m2 x y hx hy hxy).mul (n1 y hy)).add ((m1 x hx).mul (n2 x y hx hy hxy));have e1:M*(y-x)*N+M*(N*(y-x))=2*(M*N)*(y-x):=by grind
 have e2:(f y-f x)*g y+f x*(g y-g x)=f y*g y-f x*g x:=by grind
 rwa [e1,e2]at this
theorem dP:∀l:List Int,Nice (pv l)
 | []=>kz 0
 |c::l=>(kz (c:Rat)).add (nice_id.mul (dP l))
theorem x3:∀(l:List Int) (R:Rat),0<=R->∃M:Rat,0<=M/\∀x y,Bd R x->Bd R y->x<=y->Bd (M*((y-x)*(y-x))) (pv l y-pv l x-(y-x)*pv (slopeL l) x)
 | [],R,_=>⟨0,by grind,λx y _ _ _=>by
  have e:pv [] y-pv [] x-(y-x)*pv (slopeL []) x=0:=by show(0:Rat)-0-(y-x)*0=0;grind
  rw[e];constructor<;>grind⟩
 |c::l,R,hR=>by
  obtain⟨M,m0,m1⟩:=x3 l R hR;obtain⟨N,n0,n1,n2⟩:=dP l R hR;have p:=Nv hR m0;refine⟨N+R*M,by grind,λx y hx hy hxy=>?_⟩
  have hd:pv (slopeL (c::l)) x=pv l x+x*pv (slopeL l) x:=by
   have:=oX (a:=l) (b:=0::slopeL l) (c:=slopeL (c::l)) (u:=1) (v:=1) x λn=>xv c l n
   rw[this];show((1:Int):Rat)*pv l x+((1:Int):Rat)*(((0:Int):Rat)+x*pv (slopeL l) x)=_;grind
  have hz:Bd (y-x) (y-x):=⟨by grind,by grind⟩;have:=(hz.mul (n2 x y hx hy hxy)).add (hx.mul (m1 x y hx hy hxy));have e1:(y-x)*(N*(y-x))+R*(M*((y-x)*(y-x)))=(N+R*M)*((y-x)*(y-x)):=by grind
  have e2:(y-x)*(pv l y-pv l x)+x*(pv l y-pv l x-(y-x)*pv (slopeL l) x)=pv (c::l) y-pv (c::l) x-(y-x)*pv (slopeL (c::l)) x:=by rw[hd];show _=((c:Rat)+y*pv l y)-((c:Rat)+x*pv l x)-_;grind
  rwa [e1,e2]at this
noncomputable def sgR(v:Rat):Int:=if v<0 then -1 else if 0<v then 1 else 0
theorem ci(v:Rat):(v<0/\sgR v = -1)\/(v=0/\sgR v=0)\/(0<v/\sgR v=1):=by
 unfold sgR;by_cases h:v<0
 ·exact .inl ⟨h,by rw[if_pos h]⟩
 ·by_cases h2:0<v
  ·exact .inr (.inr ⟨h2,by rw[if_neg h,if_pos h2]⟩)
  ·exact .inr (.inl ⟨by grind,by rw[if_neg h,if_neg h2]⟩)
def Sta(f:Rat->Rat)(x y:Rat):Prop:=sgR (f x)=sgR (f y)/\sgR (f x)≠0
theorem rO{f:Rat->Rat}{x y D:Rat}(h:¬Sta f x y)(hd:Bd D (f y-f x)):Bd D (f x)/\Bd D (f y):=by
 obtain⟨d1,d2⟩:=hd
 have key:(f x<=0/\0<=f y)\/(0<=f x/\f y<=0):=by
  rcases ci (f x)with⟨a,b⟩ |⟨a,b⟩ |⟨a,b⟩<;>rcases ci (f y)with⟨c,d⟩ |⟨c,d⟩ |⟨c,d⟩
  ·exact absurd ⟨by rw[b,d],by rw[b];decide⟩ h
  ·exact .inl ⟨by grind,by grind⟩
  ·exact .inl ⟨by grind,by grind⟩
  ·exact .inr ⟨by grind,by grind⟩
  ·exact .inl ⟨by grind,by grind⟩
  ·exact .inl ⟨by grind,by grind⟩
  ·exact .inr ⟨by grind,by grind⟩
  ·exact .inr ⟨by grind,by grind⟩
  ·exact absurd ⟨by rw[b,d],by rw[b];decide⟩ h
 rcases key with⟨a,b⟩ |⟨a,b⟩
 ·exact⟨⟨by grind,by grind⟩,⟨by grind,by grind⟩⟩
 ·exact⟨⟨by grind,by grind⟩,⟨by grind,by grind⟩⟩
inductive SRow:List (List Int)->Prop
 |last {c:Int} (h:c≠0):SRow [[c]]
 |two {a:List Int} {c:Int} (h:c≠0):SRow [a,[c]]
 |cons {a b c:List Int} {r:List (List Int)} {q:List Int} {α β:Rat} (hα:0<α) (hβ:0<β) (e:∀x,α*pv a x=pv q x*pv b x-β*pv c x) (h:SRow (b::c::r)):SRow (a::b::c::r)
theorem rz(c:Int)(x:Rat):pv [c] x=(c:Rat):=by show(c:Rat)+x*0=c;grind
theorem bez:∀{row:List (List Int)},SRow row->∀a b r,row=a::b::r->∃(A B:Rat->Rat) (k:Rat),Nice A/\Nice B/\k≠0/\∀x,A x*pv a x+B x*pv b x=k
 |_,.last h,a,b,r,e=>by cases e
 |_,.two (c:=c) h,a,b,r,e=>by cases e;refine⟨λ_=>0,λ_=>1,(c:Rat),kz 0,kz 1,λz=>h (OZ.mp (by rw[z];rfl)),λx=>?_⟩;rw[rz];grind
 |_,.cons (a:=a0) (b:=b0) (c:=c) (q:=q) (α:=α) (β:=β) hα hβ eq h,a,b,r,e=>by
  cases e;obtain⟨A,B,k,nA,nB,hk,hAB⟩:=bez h _ _ _ rfl;refine⟨λx=>(-α)*B x,λx=>β*A x+B x*pv q x,β*k,(kz (-α)).mul nB,((kz β).mul nA).add (nB.mul (dP q)),λz=>?_,λx=>?_⟩
  ·rcases Rat.mul_eq_zero.mp z with y |y
   ·grind
   ·exact hk y
  ·have h1:=hAB x;have h2:=eq x;have:(-α)*B x*pv a0 x+(β*A x+B x*pv q x)*pv b0 x=B x*(pv q x*pv b0 x-α*pv a0 x)+β*A x*pv b0 x:=by grind
   rw[this,h2];have:B x*(pv q x*pv b0 x-(pv q x*pv b0 x-β*pv c x))+β*A x*pv b0 x=β*(A x*pv b0 x+B x*pv c x):=by grind
   rw[this,h1]
theorem yk{a b:Rat->Rat}(na:Nice a)(nb:Nice b){A B:Rat->Rat}{k:Rat}(nA:Nice A)(nB:Nice B)(hk:0<k)(hAB:∀x,A x*a x+B x*b x=k\/A x*a x+B x*b x = -k){R:Rat}(hR:0<=R) :
 ∃(δ κ:Rat),0<δ/\0<κ/\∀x y,Bd R x->Bd R y->x<y->y-x<=δ->¬Sta a x y->Sta b x y/\(κ<=b x\/b x <= -κ)/\(κ<=b y\/b y <= -κ):=by
 obtain⟨M1,p1,q1,r1⟩:=na R hR;obtain⟨M2,p2,q2,r2⟩:=nb R hR;obtain⟨M3,p3,q3,_⟩:=nA R hR;obtain⟨M4,p4,q4,_⟩:=nB R hR;have h31:=Nv p3 p1;have h42:=Nv p4 p2;have hT:0<2*(M3*M1+M4*M2+1):=by grind
 have hT4:0<2*(M4+1):=by grind
 refine⟨k/(2*(M3*M1+M4*M2+1)),k/(2*(M4+1)),d7 hk hT,d7 hk hT4,λx y hx hy hxy hd hs=>?_⟩
 have hd':(y-x)*(2*(M3*M1+M4*M2+1))<=k:=by
  have:=NK hd (Nj hT)
  rwa [Nt (by grind)]at this
 have hyx:0<y-x:=by grind
 obtain⟨a1,a2⟩:=rO hs (r1 x y hx hy (by grind));have hM1:0<=M1*(y-x):=Nv p1 (Nj hyx)
 have far:∀z,Bd R z->Bd (M1*(y-x)) (a z)->k/(2*(M4+1))<=b z\/b z <= -(k/(2*(M4+1))):=λz hz ha=>by
  have e1:=(q3 z hz).mul ha
  have e2:2*(M3*(M1*(y-x)))<=k:=by have h1:=Nv h42 (Nj hyx);grind
  have hB:(k<=2*(B z*b z))\/(2*(B z*b z) <= -k):=by
   obtain⟨f1,f2⟩:=e1;rcases hAB z with g |g
   ·left;grind
   ·right;grind
  rcases N9 (a:=k/(2*(M4+1))) (b:=b z)with g |g
  ·exact .inl g
  ·rcases N9 (a:=b z) (b := -(k/(2*(M4+1))))with g2 |g2
   ·exact .inr g2
   ·exfalso;have hb:Bd (k/(2*(M4+1))) (b z):=⟨g2,g⟩;obtain⟨f1,f2⟩:=(q4 z hz).mul hb
    have e3:2*(M4*(k/(2*(M4+1))))<k:=by
     have e4:k/(2*(M4+1))*(2*(M4+1))=k:=Nt (by grind);have e5:=d7 hk hT4;generalize k/(2*(M4+1))=w at *
     grind
    rcases hB with g3 |g3<;>grind
 refine⟨Classical.byContradiction λhs2=>?_,far x hx a1,far y hy a2⟩;obtain⟨b1,b2⟩:=rO hs2 (r2 x y hx hy (by grind));obtain⟨e1,e2⟩:=(q3 x hx).mul a1;obtain⟨e3,e4⟩:=(q4 x hx).mul b1;have hM:0<=(M3*M1+M4*M2)*(y-x):=Nv (by grind) (Nj hyx);have e5:M3*(M1*(y-x))+M4*(M2*(y-x))=(M3*M1+M4*M2)*(y-x):=by grind
 have e6:(y-x)*(2*(M3*M1+M4*M2+1))=2*((M3*M1+M4*M2)*(y-x))+2*(y-x):=by grind
 rcases hAB x with g |g<;>grind
theorem AL{row:List (List Int)}(h:SRow row){a b:List Int}{r:List (List Int)}(e:row=a::b::r):∃(A B:Rat->Rat) (k:Rat),Nice A/\Nice B/\0<k/\∀x,A x*pv a x+B x*pv b x=k\/A x*pv a x+B x*pv b x = -k:=by
 obtain⟨A,B,k,nA,nB,hk,hAB⟩:=bez h a b r e;rcases N9 (a:=0) (b:=k)with g |g
 ·exact⟨A,B,k,nA,nB,by grind,λx=>.inl (hAB x)⟩
 ·exact⟨A,B,-k,nA,nB,by grind,λx=>.inr (by rw[hAB x];grind)⟩
noncomputable def vr:Int->List Int->Int
 |_,[]=>0
 |b,s::r=>(if s*b<0 then 1 else 0)+vr (if s=0 then b else s) r
theorem Au:∀(l:List Int) (n b:Int),l.foldl chF (n,b)=(n+vr b l,(l.foldl chF (n,b)).2)
 | [],n,b=>by show(n,b)=(n+0,b);rw[NF]
 |s::r,n,b=>by
  show r.foldl chF (chF (n,b) s)=(n+((if s*b<0 then 1 else 0)+vr (if s=0 then b else s) r),(r.foldl chF (chF (n,b) s)).2)
  have e:chF (n,b) s=(n+(if s*b<0 then 1 else 0),if s=0 then b else s):=by
   unfold chF;by_cases h:s*b<0
   ·rw[if_pos h,if_pos h]
   ·rw[if_neg h,if_neg h,NF]
  rw[e];have:=Au r (n+(if s*b<0 then 1 else 0)) (if s=0 then b else s);rw[Int.add_assoc]at this;exact this
theorem Ax(l:List Int):(chS l).1=vr 0 l:=by unfold chS;rw[Au l 0 0];show 0+vr 0 l=_;omega
def gf(s:Int):Prop:=s=1\/s=0\/s = -1
inductive Al:Int->List Int->List Int->Prop
 |nil {b:Int}:Al b [] []
 |stab {b s:Int} {r r':List Int} (h:s≠0) (t:Al s r r'):Al b (s::r) (s::r')
 |unst {b s s':Int} {r r':List Int} (h1:gf s) (h2:gf s') (t:Al (-b) r r'):Al b (s :: -b::r) (s' :: -b::r')
theorem wq{b s:Int}(hb:b=1\/b = -1)(hs:gf s)(r:List Int):vr b (s :: -b::r)=1+vr (-b) r:=by
 have hb0:¬(-b=0):=by omega
 rcases hs with rfl |rfl |rfl
 ·rcases hb with rfl |rfl<;>simp[vr]
 ·rcases hb with rfl |rfl<;>simp[vr]
 ·rcases hb with rfl |rfl<;>simp[vr]
theorem Al.vr:∀{b:Int} {r r':List Int},Al b r r'->(b=1\/b = -1)->(∀s∈r,gf s)->RM.vr b r=RM.vr b r'
 |_,_,_,.nil,_,_=>rfl
 |b,_,_,.stab (s:=s) (r:=r) (r':=r') h t,hb,hu=>by
  have hs:gf s:=hu s (M6 ..);have hs':s=1\/s = -1:=by rcases hs with z |z |z;exact .inl z;exact absurd z h;exact .inr z
  have ih:=Al.vr t hs' λx hx=>hu x (M0 _ hx)
  show _+RM.vr (if s=0 then b else s) r=_+RM.vr (if s=0 then b else s) r';rw[if_neg h,ih]
 |b,_,_,.unst h1 h2 t,hb,hu=>by
  have ih:=Al.vr t (by omega) λx hx=>hu x (M0 _ (M0 _ hx))
  rw[wq hb h1,wq hb h2,ih]
noncomputable def sgX(row:List (List Int))(x:Rat):List Int:=row.map λf=>sgR (pv f x)
theorem oT(v:Rat):gf (sgR v):=by
 rcases ci v with⟨_,h⟩ |⟨_,h⟩ |⟨_,h⟩<;>rw[h]
 ·exact .inr (.inr rfl)
 ·exact .inr (.inl rfl)
 ·exact .inl rfl
theorem xE(row:List (List Int))(x:Rat):∀s∈sgX row x,gf s:=λs hs=>by obtain⟨f,_,rfl⟩:=Nc.mp hs;exact oT _
def A2(row:List (List Int))(R:Rat):Prop:=∃δ:Rat,0<δ/\∀x y,Bd R x->Bd R y->x<y->y-x<=δ->∀a r,row=a::r->Sta (pv a) x y->Al (sgR (pv a x)) (sgX r x) (sgX r y)
theorem Cy{c:Int}(h:c≠0):sgR (c:Rat)≠0:=by
 rcases ci (c:Rat)with⟨_,e⟩ |⟨z,_⟩ |⟨_,e⟩
 ·rw[e];decide
 ·exact absurd (OZ.mp (by rw[z];rfl)) h
 ·rw[e];decide
theorem y8:∀{row:List (List Int)},SRow row->∀R:Rat,0<=R->A2 row R/\A2 row.tail R
 |_,.last h,R,_=>⟨⟨1,by grind,λx y _ _ _ _ a r e _=>by cases e;exact .nil⟩,⟨1,by grind,λx y _ _ _ _ a r e _=>by cases e⟩⟩
 |_,.two (c:=c) h,R,_=>by refine⟨⟨1,by grind,λx y _ _ _ _ a r e _=>?_⟩,⟨1,by grind,λx y _ _ _ _ a r e _=>by cases e;exact .nil⟩⟩;cases e;show Al _ [sgR (pv [c] x)] [sgR (pv [c] y)];rw[rz,rz];exact .stab (Cy h) .nil
 |_,.cons (a:=a) (b:=b) (c:=c) (r:=r) (q:=q) (α:=α) (β:=β) hα hβ eq h,R,hR=>by
  obtain⟨⟨δ1,d1,l1⟩,⟨δ2,d2,l2⟩⟩:=y8 h R hR;refine⟨?_,⟨δ1,d1,l1⟩⟩;obtain⟨A,B,k,nA,nB,hk,hAB⟩:=AL h rfl;obtain⟨δ3,κ,d3,hκ,l3⟩:=yk (dP b) (dP c) nA nB hk hAB hR;obtain⟨M,m0,m1,m2⟩:=dP b R hR;obtain⟨N,n0,n1,_⟩:=dP q R hR;have hMN:=Nv n0 m0;have hT:0<N*M+1:=by grind
  have hβκ:=NY hβ hκ
  obtain⟨δ,hδ,g1,g2,g3,g4⟩:∃δ:Rat,0<δ/\δ<=δ1/\δ<=δ2/\δ<=δ3/\δ*(N*M+1)<=β*κ:=by
   have hw:=d7 hβκ hT;have hw2:β*κ/(N*M+1)*(N*M+1)=β*κ:=Nt (by grind)
   have two:∀u v:Rat,0<u->0<v->∃w:Rat,0<w/\w<=u/\w<=v:=λu v hu hv=>by
    rcases N9 (a:=u) (b:=v)with z |z
    ·exact⟨u,hu,Oa,z⟩
    ·exact⟨v,hv,z,Oa⟩
   obtain⟨u,hu,u1,u2⟩:=two δ1 δ2 d1 d2;obtain⟨v,hv,v1,v2⟩:=two u δ3 hu d3;obtain⟨w,hw',w1,w2⟩:=two v _ hv hw;refine⟨w,hw',by grind,by grind,by grind,?_⟩;have:=NK w2 (Nj hT)
   rwa [hw2]at this
  refine⟨δ,hδ,λx y hx hy hxy hd a' r' e sa=>?_⟩;cases e;show Al (sgR (pv a x)) (sgR (pv b x)::sgX (c::r) x) (sgR (pv b y)::sgX (c::r) y);by_cases sb:Sta (pv b) x y
  ·have t:=l1 x y hx hy hxy (by grind) b (c::r) rfl sb;rw[<- sb.1];exact .stab sb.2 t
  ·obtain⟨sc,c1,c2⟩:=l3 x y hx hy hxy (by grind) sb;obtain⟨b1,_⟩:=rO sb (m2 x y hx hy (by grind));have hyx:0<y-x:=by grind
   have hop:sgR (pv c x) = -sgR (pv a x):=by
    obtain⟨f1,f2⟩:=(n1 x hx).mul b1;have e1:=eq x
    have e2:N*(M*(y-x))<β*κ:=by have h1:(y-x)*(N*M+1)<=δ*(N*M+1):=NK hd (Nj hT);grind
    rcases c1 with z |z
    ·have h2:β*κ<=β*pv c x:=OA z (Nj hβ);have h3:α*pv a x<0:=by grind
     have h4:pv a x<0:=by
      rcases N9 (a:=0) (b:=pv a x)with w |w
      ·have:=Nv (Nj hα) w;grind
      ·rcases ci (pv a x)with⟨w2,_⟩ |⟨w2,_⟩ |⟨w2,_⟩
       ·exact w2
       ·rw[w2]at h3;grind
       ·grind
     rcases ci (pv c x)with⟨w,_⟩ |⟨w,_⟩ |⟨_,w⟩
     ·grind
     ·grind
     ·rcases ci (pv a x)with⟨_,v⟩ |⟨v,_⟩ |⟨v,_⟩
      ·rw[w,v];decide
      ·grind
      ·grind
    ·have h2:β*pv c x<=β*(-κ):=OA z (Nj hβ);have h3:0<α*pv a x:=by grind
     have h4:0<pv a x:=by
      rcases ci (pv a x)with⟨w2,_⟩ |⟨w2,_⟩ |⟨w2,_⟩
      ·have:=Nv (Nj hα) (show 0 <= -pv a x by grind);grind
      ·rw[w2]at h3;grind
      ·exact w2
     rcases ci (pv c x)with⟨_,w⟩ |⟨w,_⟩ |⟨w,_⟩
     ·rcases ci (pv a x)with⟨v,_⟩ |⟨v,_⟩ |⟨_,v⟩
      ·grind
      ·grind
      ·rw[w,v]
     ·grind
     ·grind
   have hop':sgR (pv c y) = -sgR (pv a x):=by rw[<- sc.1];exact hop
   have t:Al (sgR (pv c x)) (sgX r x) (sgX r y):=l2 x y hx hy hxy (by grind) c r rfl sc;rw[hop]at t;show Al _ (_::sgR (pv c x)::sgX r x) (_::sgR (pv c y)::sgX r y);rw[hop,hop'];exact .unst (oT _) (oT _) t
noncomputable def chg(f:Rat->Rat)(x y:Rat):Int:=if sgR (f x)≠0/\sgR (f y)≠sgR (f x)then 1 else 0
noncomputable def vrs(row:List (List Int))(x:Rat):Int:=vr 0 (sgX row x)
theorem qp{s:Int}(r:List Int):vr 0 (s::r)=vr s r:=by
 show(if s*0<0 then 1 else 0)+vr (if s=0 then 0 else s) r=_;rw[Nx,if_neg (by decide),NO];split
 ·rename_i h;rw[h]
 ·rfl
theorem BY{F0 F1:List Int}{r:List (List Int)}(h:SRow (F0::F1::r)){γ:Rat}(hγ:0<γ)(hd:∀x,pv (slopeL F0) x=γ*pv F1 x){R:Rat}(hR:0<=R) :
 ∃δ:Rat,0<δ/\∀x y,Bd R x->Bd R y->x<y->y-x<=δ->vrs (F0::F1::r) x-vrs (F0::F1::r) y=chg (pv F0) x y:=by
 obtain⟨⟨δ1,d1,l1⟩,⟨δ2,d2,l2⟩⟩:=y8 h R hR;obtain⟨A,B,k,nA,nB,hk,hAB⟩:=AL h rfl;obtain⟨δ3,κ,d3,hκ,l3⟩:=yk (dP F0) (dP F1) nA nB hk hAB hR;obtain⟨M,m0,m1⟩:=x3 F0 R hR;have hγκ:=NY hγ hκ
 obtain⟨δ,hδ,g1,g2,g3,g4⟩:∃δ:Rat,0<δ/\δ<=δ1/\δ<=δ2/\δ<=δ3/\δ*(M+1)<=γ*κ:=by
  have hT:0<M+1:=by grind
  have hw:=d7 hγκ hT;have hw2:γ*κ/(M+1)*(M+1)=γ*κ:=Nt (by grind)
  have two:∀u v:Rat,0<u->0<v->∃w:Rat,0<w/\w<=u/\w<=v:=λu v hu hv=>by
   rcases N9 (a:=u) (b:=v)with z |z
   ·exact⟨u,hu,Oa,z⟩
   ·exact⟨v,hv,z,Oa⟩
  obtain⟨u,hu,u1,u2⟩:=two δ1 δ2 d1 d2;obtain⟨v,hv,v1,v2⟩:=two u δ3 hu d3;obtain⟨w,hw',w1,w2⟩:=two v _ hv hw;refine⟨w,hw',by grind,by grind,by grind,?_⟩;have:=NK w2 (Nj hT)
  rwa [hw2]at this
 refine⟨δ,hδ,λx y hx hy hxy hyd=>?_⟩;have e0:∀z,vrs (F0::F1::r) z=vr (sgR (pv F0 z)) (sgX (F1::r) z):=λz=>qp _
 have nz:∀{v:Rat},sgR v≠0->sgR v=1\/sgR v = -1:=λ{v} hv=>by rcases oT v with z |z |z;exact .inl z;exact absurd z hv;exact .inr z
 rw[e0,e0];by_cases s0:Sta (pv F0) x y
 ·have t:=(l1 x y hx hy hxy (by grind) F0 (F1::r) rfl s0).vr (nz s0.2) (xE _ _);rw[<- s0.1,t];unfold chg;rw[if_neg (λz=>z.2 s0.1.symm)];omega
 ·obtain⟨s1,c1,c2⟩:=l3 x y hx hy hxy (by grind) s0;have t:=(l2 x y hx hy hxy (by grind) F1 r rfl s1).vr (nz s1.2) (xE _ _);have hyx:0<y-x:=by grind
  have hyy:0<(y-x)*(y-x):=NY hyx hyx;obtain⟨f1,f2⟩:=m1 x y hx hy (by grind)
  have small:M*((y-x)*(y-x))<(y-x)*(γ*κ):=by
   have h1:(y-x)*(M+1)<=γ*κ:=by have:=NK hyd (show 0<=M+1 by grind);grind
   have h2:(y-x)*((y-x)*(M+1))<=(y-x)*(γ*κ):=OA h1 (Nj hyx);grind
  rw[hd]at f1 f2;show vr (sgR (pv F0 x)) (sgR (pv F1 x)::sgX r x)-vr (sgR (pv F0 y)) (sgR (pv F1 y)::sgX r y)=_
  have hu:∀(b s:Int) (l:List Int),s≠0->vr b (s::l)=(if s*b<0 then 1 else 0)+vr s l:=λb s l hs=>by show _+vr (if s=0 then b else s) l=_;rw[if_neg hs]
  have s1':sgR (pv F1 y)=sgR (pv F1 x):=s1.1.symm;rw[s1',hu _ _ _ s1.2,hu _ _ _ s1.2,t];unfold chg;rcases c1 with z |z
  ·
   have h1:γ*κ<=γ*pv F1 x:=OA z (Nj hγ);have h2:(y-x)*(γ*κ)<=(y-x)*(γ*pv F1 x):=OA h1 (Nj hyx);have rise:pv F0 x<pv F0 y:=by grind
   have s1p:sgR (pv F1 x)=1:=by
    rcases ci (pv F1 x)with⟨w,_⟩ |⟨w,_⟩ |⟨_,w⟩
    ·grind
    ·grind
    ·exact w
   rw[s1p];rcases ci (pv F0 x)with⟨a1,a2⟩ |⟨a1,a2⟩ |⟨a1,a2⟩<;>rcases ci (pv F0 y)with⟨b1,b2⟩ |⟨b1,b2⟩ |⟨b1,b2⟩
   ·exact absurd ⟨by rw[a2,b2],by rw[a2];decide⟩ s0
   ·rw[a2,b2];simp
   ·rw[a2,b2];simp
   ·grind
   ·grind
   ·rw[a2,b2];simp
   ·grind
   ·grind
   ·exact absurd ⟨by rw[a2,b2],by rw[a2];decide⟩ s0
  ·have h1:γ*pv F1 x<=γ*(-κ):=OA z (Nj hγ);have h2:(y-x)*(γ*pv F1 x)<=(y-x)*(γ*(-κ)):=OA h1 (Nj hyx);have fall:pv F0 y<pv F0 x:=by grind
   have s1p:sgR (pv F1 x) = -1:=by
    rcases ci (pv F1 x)with⟨_,w⟩ |⟨w,_⟩ |⟨w,_⟩
    ·exact w
    ·grind
    ·grind
   rw[s1p];rcases ci (pv F0 x)with⟨a1,a2⟩ |⟨a1,a2⟩ |⟨a1,a2⟩<;>rcases ci (pv F0 y)with⟨b1,b2⟩ |⟨b1,b2⟩ |⟨b1,b2⟩
   ·exact absurd ⟨by rw[a2,b2],by rw[a2];decide⟩ s0
   ·grind
   ·grind
   ·rw[a2,b2];simp
   ·grind
   ·grind
   ·rw[a2,b2];simp
   ·rw[a2,b2];simp
   ·exact absurd ⟨by rw[a2,b2],by rw[a2];decide⟩ s0
structure Cut(s:Rat->Int):Prop where
 u:∀x,gf (s x)
 m:∀x y,x<y->s x<=0->s y = -1
noncomputable def cnt(S:List (Rat->Int))(x y:Rat):Int:=(S.map λs=>if 0<s x/\s y<=0 then(1:Int)else 0).sum
theorem An(x y:Rat):cnt [] x y=0:=rfl
theorem dG(s:Rat->Int)(S:List (Rat->Int))(x y:Rat):cnt (s::S) x y=(if 0<s x/\s y<=0 then 1 else 0)+cnt S x y:=by unfold cnt;rw[NQ,List.sum_cons]
theorem uR{x y z:Rat}(hxy:x<y)(hyz:y<z):∀{S:List (Rat->Int)},(∀s∈S,Cut s)->cnt S x z=cnt S x y+cnt S y z
 | [],_=>rfl
 |s::S,h=>by
  have hs:=h s (M6 ..);have ih:=uR hxy hyz (S:=S) λt ht=>h t (M0 _ ht)
  rw[dG,dG,dG,ih]
  have e:(if 0<s x/\s z<=0 then(1:Int)else 0)=(if 0<s x/\s y<=0 then 1 else 0)+(if 0<s y/\s z<=0 then 1 else 0):=by
   by_cases hy:s y<=0
   ·have hz:=hs.m y z hyz hy;rw[if_neg (show ¬(0<s y/\s z<=0) by omega)];by_cases hx:0<s x
    ·rw[if_pos ⟨hx,by omega⟩,if_pos ⟨hx,hy⟩];rfl
    ·rw[if_neg (by omega),if_neg (by omega)];rfl
   ·have hx:0<s x:=by
     rcases Ot 0 (s x)with q |q
     ·exact q
     ·have:=hs.m x y hxy q;omega
    rw[if_neg (show ¬(0<s x/\s y<=0) by omega)];by_cases hz:s z<=0
    ·rw[if_pos ⟨hx,hz⟩,if_pos ⟨by omega,hz⟩];rfl
    ·rw[if_neg (by omega),if_neg (by omega)];rfl
  rw[e];omega
noncomputable def cpr(x:Rat):List (Rat->Int)->Int
 | []=>1
 |s::S => -s x*cpr x S
theorem qe(x:Rat):∀a b,cpr x (a++b)=cpr x a*cpr x b
 | [],b=>by show _=1*_;rw[Nh];rfl
 |s::a,b=>by show _*cpr x (a++b)=_*_*_;rw[qe x a b,NG]
def inC(s:Rat->Int)(x y:Rat):Prop:=0<=s x/\s y<=0
theorem Hn{s:Rat->Int}(h:Cut s){x y:Rat}(hxy:x<y)(hn:¬inC s x y):s x=s y/\(s x=1\/s x = -1):=by
 have h1:=h.u x;have h2:=h.u y;unfold inC at hn
 by_cases hx:s x<=0
 ·have:=h.m x y hxy hx;rcases h1 with a |a |a<;>omega
 ·rcases h1 with a |a |a
  ·rcases h2 with b |b |b<;>omega
  ·omega
  ·omega
theorem sO{x y:Rat}(hxy:x<y):∀{S:List (Rat->Int)},(∀s∈S,Cut s)->(∀s∈S,¬inC s x y)->cpr x S=cpr y S/\(cpr x S=1\/cpr x S = -1)/\cnt S x y=0
 | [],_,_=>⟨rfl,.inl rfl,rfl⟩
 |s::S,h,hn=>by
  obtain⟨i1,i2,i3⟩:=sO hxy (S:=S) (λt ht=>h t (M0 _ ht)) λt ht=>hn t (M0 _ ht)
  obtain⟨a1,a2⟩:=Hn (h s (M6 ..)) hxy (hn s (M6 ..));refine⟨by show -s x*cpr x S = -s y*cpr y S;rw[a1,i1],?_,?_⟩
  ·show -s x*cpr x S=1 \/ -s x*cpr x S = -1;rcases a2 with z |z<;>rcases i2 with w |w<;>rw[z,w]<;>decide
  ·rw[dG,i3,if_neg (by omega)];rfl
theorem uQ(x y:Rat):∀a b,cnt (a++b) x y=cnt a x y+cnt b x y
 | [],b=>by rw[An];simp
 |s::a,b=>by rw[List.cons_append,dG,dG,uQ x y a b];omega
theorem As{f:Rat->Rat}{S:List (Rat->Int)}{ε:Int}(hε:ε=1\/ε = -1)(hS:∀s∈S,Cut s){x y:Rat}(hxy:x<y)(hx:sgR (f x)=ε*cpr x S)(hy:sgR (f y)=ε*cpr y S)(hp:S.Pairwise λs t=>¬(inC s x y/\inC t x y)):chg f x y=cnt S x y:=by
 by_cases hall:∀s∈S,¬inC s x y
 ·obtain⟨k1,k2,k3⟩:=sO hxy hS hall;rw[k3];unfold chg;rw[if_neg];rintro⟨_,h2⟩;exact h2 (by rw[hx,hy,k1])
 ·obtain⟨s,hs,hin⟩:∃s,s∈S/\inC s x y:=by refine Classical.byContradiction λz=>hall λs hs hi=>z ⟨s,hs,hi⟩
  obtain⟨pre,post,rfl⟩:=Pd hs
  have hno:∀t∈pre++post,¬inC t x y:=λt ht hi=>by
   rw[O0]at hp;rcases NM.mp ht with z |z
   ·exact hp.2.2 t z s (M6 ..) ⟨hi,hin⟩
   ·exact(Ob.mp hp.2.1).1 t z ⟨hin,hi⟩
  have hS':∀t∈pre++post,Cut t:=λt ht=>hS t (by
   rcases NM.mp ht with z |z
   ·exact Ov _ z
   ·exact NE _ (M0 _ z))
  obtain⟨k1,k2,k3⟩:=sO hxy hS' hno;have hc:=hS s hs
  have e1:∀z,cpr z (pre++s::post)=cpr z (pre++post) * -s z:=λz=>by rw[qe,qe];show cpr z pre*(-s z*cpr z post)=_;rw[Ni (-s z),NG]
  have e2:cnt (pre++s::post) x y=(if 0<s x/\s y<=0 then 1 else 0):=by rw[uQ,dG];rw[uQ]at k3;omega
  rw[e1]at hx hy;rw[<- k1]at hy;rw[e2];unfold inC at hin
  have h1:=hc.u x;have h2:=hc.u y;unfold chg;rw[hx,hy];generalize cpr x (pre++post)=c at *
  have hs0:s x=0->s y = -1:=λz=>hc.m x y hxy (by omega)
  rcases h1 with a |a |a
  ·rw[a];rcases h2 with b |b |b
   ·omega
   ·rw[b];rcases hε with rfl |rfl<;>rcases k2 with rfl |rfl<;>simp
   ·rw[b];rcases hε with rfl |rfl<;>rcases k2 with rfl |rfl<;>simp
  ·rw[a];simp
  ·omega
theorem AU(q:Rat):∃n:Nat,q<=(n:Rat):=by refine⟨q.ceil.toNat,Rat.le_trans (Rat.le_ceil (x:=q)) ?_⟩;have h:q.ceil<=(q.ceil.toNat:Int):=Int.self_le_toNat _;have h2:=OL.mpr h;exact h2
theorem yE(n:Nat):(n:Rat)<=2^n:=by
 induction n with
 |zero=>decide
 |succ n ih =>
  have h1:((1:Nat):Rat)<=2^n:=by
   have:(1:Nat)<=2^n:=N3 (by decide);have h2:((1:Nat):Rat)<=((2^n:Nat):Rat):=Rat.natCast_le_natCast.mpr this
   rwa [Rat.natCast_pow]at h2
  rw[Rat.pow_succ,Rat.natCast_add];grind
theorem u3{V:Rat->Int}{S:List (Rat->Int)}(hS:∀s∈S,Cut s){R δ:Rat}(hδ:0<δ)(h:∀x y,Bd R x->Bd R y->x<y->y-x<=δ->V x-V y=cnt S x y):∀(n:Nat) (x y:Rat),Bd R x->Bd R y->x<y->y-x<=2^n*δ->V x-V y=cnt S x y
 |0,x,y,hx,hy,hxy,hd=>h x y hx hy hxy (by rw[Rat.pow_zero]at hd;grind)
 |n+1,x,y,hx,hy,hxy,hd=>by
  have m1:x<(x+y)/2:=by grind
  have m2:(x+y)/2<y:=by grind
  have hm:Bd R ((x+y)/2):=by obtain⟨a,b⟩:=hx;obtain⟨c,d⟩:=hy;constructor<;>grind
  rw[Rat.pow_succ]at hd;have i1:=u3 hS hδ h n x ((x+y)/2) hx hm m1 (by grind);have i2:=u3 hS hδ h n ((x+y)/2) y hm hy m2 (by grind);rw[uR m1 m2 hS];omega
theorem BZ{F0 F1:List Int}{r:List (List Int)}(h:SRow (F0::F1::r)){γ:Rat}(hγ:0<γ)(hd:∀x,pv (slopeL F0) x=γ*pv F1 x){S:List (Rat->Int)}(hS:∀s∈S,Cut s){ε:Int}(hε:ε=1\/ε = -1)(hf:∀x,sgR (pv F0 x)=ε*cpr x S)
 {δ0:Rat} (hδ0:0<δ0) (hp:∀x y,x<y->y-x<=δ0->S.Pairwise λs t=>¬(inC s x y/\inC t x y)) {x y:Rat} (hxy:x<y):vrs (F0::F1::r) x-vrs (F0::F1::r) y=cnt S x y:=by
 obtain⟨R,hR,hx,hy⟩:∃R:Rat,0<=R/\Bd R x/\Bd R y:=by
  have ab:∀v:Rat,∃w:Rat,0<=w/\Bd w v:=λv=>by
   rcases N9 (a:=0) (b:=v)with z |z
   ·exact⟨v,z,by grind,by grind⟩
   ·exact⟨-v,by grind,by grind,by grind⟩
  obtain⟨u,u0,u1⟩:=ab x;obtain⟨v,v0,v1⟩:=ab y;exact⟨u+v,by grind,u1.mono (by grind),v1.mono (by grind)⟩
 obtain⟨δ1,d1,l1⟩:=BY h hγ hd hR
 obtain⟨δ,hδ,g1,g2⟩:∃δ:Rat,0<δ/\δ<=δ0/\δ<=δ1:=by
  rcases N9 (a:=δ0) (b:=δ1)with z |z
  ·exact⟨δ0,hδ0,Oa,z⟩
  ·exact⟨δ1,d1,z,Oa⟩
 obtain⟨n,hn⟩:=AU ((y-x)/δ);refine u3 hS hδ (R:=R) (λx y hx hy hxy hdd=>?_) n x y hx hy hxy ?_
 ·rw[l1 x y hx hy hxy (by grind)];exact As hε hS hxy (hf x) (hf y) (hp x y hxy (by grind))
 ·have h1:(y-x)/δ<=2^n:=Rat.le_trans hn (yE n);have h2:=NK h1 (Nj hδ)
  rwa [Nt (by grind)]at h2
theorem tj{n:Int}(hn:n≠0):(n:Rat)≠0:=λz=>hn (OZ.mp (show((n:Int):Rat)=((0:Int):Rat) by rw[z];rfl))
theorem yx(q:Rat):(q.num:Rat)=q*((q.den:Int):Rat):=by
 have hd:((q.den:Int):Rat)≠0:=tj (by have:=q.den_pos;omega)
 have hx:(q.num:Rat)/((q.den:Int):Rat)=q:=by have:=Rat.mkRat_self q;rw[Rat.mkRat_eq_div]at this;exact this
 have:=Nt (a:=(q.num:Rat)) hd;rw[hx]at this;exact this.symm
theorem DK{t n:Int}(hn:0<n):((t:Rat)/(n:Rat)).num*n=t*(((t:Rat)/(n:Rat)).den:Int):=by
 have hn':(n:Rat)≠0:=tj (by omega);have hq:(t:Rat)/(n:Rat)*(n:Rat)=(t:Rat):=Nt hn';generalize (t:Rat)/(n:Rat)=q at hq ⊢
 apply OZ.mp;rw[NJ,NJ,yx q,<- hq];grind
theorem gC{t n t' n':Int}(hn:0<n)(hn':0<n'):(t:Rat)/(n:Rat)<(t':Rat)/(n':Rat)↔t*n'<t'*n:=by
 have p1:(0:Rat)<(n:Rat):=Nz.mpr hn;have p2:(0:Rat)<(n':Rat):=Nz.mpr hn';have e1:(t:Rat)/(n:Rat)*(n:Rat)=(t:Rat):=Nt (by grind);have e2:(t':Rat)/(n':Rat)*(n':Rat)=(t':Rat):=Nt (by grind);generalize (t:Rat)/(n:Rat)=q at e1 ⊢
 generalize (t':Rat)/(n':Rat)=q' at e2 ⊢
 rw[<- Nz,NJ,NJ,<- e1,<- e2];have p3:=NY p1 p2;have e3:q*(n:Rat)*(n':Rat)=q*((n:Rat)*(n':Rat)):=by grind
 have e4:q'*(n':Rat)*(n:Rat)=q'*((n:Rat)*(n':Rat)):=by grind
 rw[e3,e4];constructor
 ·intro h;exact Rat.mul_lt_mul_of_pos_right h p3
 ·intro h;refine Rat.not_le.mp λz=>?_
  have:=NK z (Nj p3);grind
theorem xF{p v:Rat}(hp:0<p):sgR (p*v)=sgR v:=by
 rcases ci v with⟨a,b⟩ |⟨a,b⟩ |⟨a,b⟩
 ·have:p*v<0:=by have:=NY hp (show 0 < -v by grind);grind
  rcases ci (p*v)with⟨_,d⟩ |⟨c,d⟩ |⟨c,d⟩
  ·rw[b,d]
  ·grind
  ·grind
 ·rw[a];have:p*0=0:=by grind
  rw[this]
 ·have:=NY hp a;rcases ci (p*v)with⟨c,d⟩ |⟨c,d⟩ |⟨_,d⟩
  ·grind
  ·grind
  ·rw[b,d]
theorem Cw(z:Int):sgR (z:Rat)=sg z:=by
 rcases ci (z:Rat)with⟨a,b⟩ |⟨a,b⟩ |⟨a,b⟩
 ·have:z<0:=Nz.mp a;rw[b];unfold sg;rw[if_pos this]
 ·have:z=0:=OZ.mp a;rw[this];rfl
 ·have:0<z:=Nz.mp a;rw[b];unfold sg;rw[if_neg (by omega),if_pos this]
theorem tu{t n:Int}(hn:0<n):∀l:List Int,(hv t n l:Rat)=(n:Rat)^l.length*pv l ((t:Rat)/(n:Rat))
 | []=>by show((0:Int):Rat)=_*0;grind
 |c::l=>by
  have hn':(n:Rat)≠0:=tj (by omega);have hq:(t:Rat)/(n:Rat)*(n:Rat)=(t:Rat):=Nt hn';rw[cX,Rat.intCast_add,NJ,NJ,tu hn l,Rat.intCast_pow];show _=(n:Rat)^(l.length+1)*((c:Rat)+(t:Rat)/(n:Rat)*pv l ((t:Rat)/(n:Rat)));rw[Rat.pow_succ];generalize hqq:(t:Rat)/(n:Rat)=q at *
  rw[<- hq];grind
theorem q9{t n:Int}(hn:0<n)(l:List Int):sg (hv t n l)=sgR (pv l ((t:Rat)/(n:Rat))):=by rw[<- Cw,tu hn];exact xF (Rat.pow_pos (Nz.mpr hn))
def Cop2(a b:List Int):Prop:=∀d,d≠[]->Tr d->Dv d a->Dv d b->d.length<=1
theorem FT{one other:List Int}(ho:other≠[]):∀n,bU one other*cf one n=au (bN one other) other n-(aw (cj [] (aK one other)):Int)*cf (nxt one other) n:=λn=>by
 have h1:=fU (a:=one) ho n;have e:nxt one other=am (cj [] (aK one other)):=by unfold nxt rst;rw[if_neg ho]
 have h2:=congrArg (λl=>cf l n) (qX (l:=cj [] (aK one other)));simp only[ba]at h2
 have h3:cf (cj [] (aK one other)) n = -cf (aK one other) n:=by rw[oj (eG _ _),ba];omega
 rw[e,h2,h3,h1];omega
theorem Bz(one other:List Int):Tr (nxt one other):=by unfold nxt;exact eO (by unfold cj;exact dZ _)
theorem FU{one other:List Int}(ho:other≠[]):(nxt one other).length<other.length:=by
 have h1:=fx (a:=one) ho;unfold nxt rst;rw[if_neg ho,oj (eG _ _)]
 have h2:(am (scL (-1) (aK one other))).length<=(scL (-1) (aK one other)).length:=by unfold am;rw[MY];exact MZ _
 rw[bZ]at h2;omega
theorem sJ{l:List Int}(h:l.length<=1)(hne:l≠[]):∃c,l=[c]:=O9.mp (by have:=M5.mpr hne;omega)
theorem xI:∀(n:Nat) (one other:List Int),other.length<=n->Tr one->one≠[]->Tr other->Cop2 one other->SRow (aZ (n+1) one other)
 |0,one,other,hl,to,no,tt,hc=>by have e0:other=[]:=Op (Nat.le_zero.mp hl);subst e0;have h1:=hc one no to (Dv.refl _) (Dv.nil _);obtain⟨c,rfl⟩:=sJ h1 no;show SRow (if([c]:List Int)=[]then _ else[c]::aZ 0 [] (nxt [c] []));rw[if_neg no];exact .last (tr_snoc (r:=[]) |>.mp to)
 |n+1,one,other,hl,to,no,tt,hc=>by
  have e:aZ (n+1+1) one other=one::aZ (n+1) other (nxt one other):=by show(if one=[]then _ else _)=_;rw[if_neg no]
  rw[e];by_cases ho:other=[]
  ·subst ho;have h1:=hc one no to (Dv.refl _) (Dv.nil _);obtain⟨c,rfl⟩:=sJ h1 no;rw[oU];exact .last (tr_snoc (r:=[]) |>.mp to)
  have hs:=FT (one:=one) ho;have hlen:=FU (one:=one) ho;have tn:=Bz one other;have fp:0<bU one other:=Kl ho tt;by_cases hn:nxt one other=[]
  ·
   have hdv:Dv other one:=⟨bU one other,bN one other,by omega,λk=>by rw[hs k,hn,cb];omega⟩;have h1:=hc other ho tt hdv (Dv.refl _);obtain⟨c,rfl⟩:=sJ h1 ho;rw[hn,xL ho (by omega)];exact .two (tr_snoc (r:=[]) |>.mp tt)
  ·have hc2:Cop2 other (nxt one other):=λd dn dt h1 h2=>by
    refine hc d dn dt ?_ h1;refine Dv.up (f:=bU one other) (q:=bN one other) (r:=scL (-(aw (cj [] (aK one other)):Int)) (nxt one other)) (by omega) (λk=>?_) h1 ?_
    ·rw[hs k,ba,Int.neg_mul];omega
    ·exact Dv.prop_right (x:=1) (y := -(aw (cj [] (aK one other)):Int)) (by decide) (λk=>by rw[ba];omega) h2
   have ih:=xI n other (nxt one other) (by omega) tt ho tn hc2;have e2:aZ (n+1) other (nxt one other)=other::aZ n (nxt one other) (nxt other (nxt one other)):=by show(if other=[]then _ else _)=_;rw[if_neg ho]
   have n1:0<n:=by have:=M5.mpr hn;omega
   obtain⟨m,rfl⟩:∃m,n=m+1:=⟨n-1,by omega⟩;have e3:aZ (m+1) (nxt one other) (nxt other (nxt one other))=nxt one other::aZ m (nxt other (nxt one other)) (nxt (nxt one other) (nxt other (nxt one other))):=by show(if nxt one other=[]then _ else _)=_;rw[if_neg hn]
   rw[e2,e3]at ih ⊢
   have gp:0<(aw (cj [] (aK one other)):Int):=by
    rcases Nat.eq_zero_or_pos (aw (cj [] (aK one other)))with z |z
    ·exfalso;apply hn;refine rQ tn λk=>?_
     have e:nxt one other=am (cj [] (aK one other)):=by unfold nxt rst;rw[if_neg ho]
     rw[e];unfold am;rw[z];unfold cf;simp[List.getD];cases(cj [] (aK one other))[k]? with
     |none=>rfl
     |some v=>simp
    ·omega
   refine .cons (q:=bN one other) (α:=(bU one other:Rat)) (β:=((aw (cj [] (aK one other)):Int):Rat)) (Nz.mpr fp) (Nz.mpr gp) (λx=>?_) ih;have h1:=lQ (a:=one) (c:=scL (bU one other) one) (u:=bU one other) x λk=>ba _ _ _
   have h2:=x4 x (bN one other) other (ae (bN one other) other) (aI _ _);have h3:=oX (a:=ae (bN one other) other) (b:=nxt one other) (c:=scL (bU one other) one) (u:=1) (v := -(aw (cj [] (aK one other)):Int)) x λk=>by rw[ba,hs k,aI,Int.neg_mul];omega
   rw[<- h1,h3,h2,Rat.intCast_neg];show((1:Int):Rat)*_+_=_;grind
theorem x9{ss:List (List Int)}(h:∀s∈ss,Pri s):aL [1] ss=prd ss:=by unfold aL;rw[zH,one_mul _ (kq ss λs hs=>(h s hs).pln).tr]
theorem fT{f:List Int}(h:FacG f):Pri (ax f):=by obtain⟨u,e,b,rfl,_,_,_,_,h5,_,h7⟩:=h;exact DI h5 h7
noncomputable def gj(fs:List (List Int)):List (List Int×Nat):=fs.map λf=>(ax f,1)
theorem wx{fs:List (List Int)}(hF:∀f∈fs,FacG f)(hn:(fs.map ax).Nodup):Use (gj fs):=by
 refine⟨λp hp=>?_,λp hp=>?_,?_⟩
 ·obtain⟨f,hf,rfl⟩:=Nc.mp hp;exact fT (hF f hf)
 ·obtain⟨f,hf,rfl⟩:=Nc.mp hp;exact MZ _
 ·unfold gj;rw[N7];exact hn
theorem ww{c:Int}{fs:List (List Int)}(hF:∀f∈fs,FacG f):whl c (gj fs)=ae [c] (aL [1] (fs.map ax)):=by
 unfold whl
 congr 1
 rw[x9 λs hs=>by obtain⟨f,hf,rfl⟩:=Nc.mp hs;exact fT (hF f hf)]
 have e1:fP id (gj fs)=flt (gj fs):=kK _ λp hp=>by obtain⟨f,hf,rfl⟩:=Nc.mp hp;rfl
 rw[e1,zI]
 congr 1
 unfold gj;rw[N7];rfl
theorem zL:∀us:List (List Int×Nat),fP (λ_=>0) us=[1]
 | []=>rfl
 |p::us=>by rw[dW,zL us];rfl
theorem Bj{fs:List (List Int)}:mor (gj fs) 1=[1]:=by unfold mor;rw[kK (h:=λ_=>0) _ λp hp=>by obtain⟨f,hf,rfl⟩:=Nc.mp hp;rfl];exact zL _
theorem D5{c:Int}{fs:List (List Int)}(hF:∀f∈fs,FacG f)(hn:(fs.map ax).Nodup)(hc:c≠0)(hl:(ae [c] (aL [1] (fs.map ax))).length<=20):Cop2 (ae [c] (aL [1] (fs.map ax))) (slopeL (ae [c] (aL [1] (fs.map ax)))):=λd dn dt h1 h2=>by
 have U:=wx hF hn;have ew:=ww (c:=c) hF;obtain⟨tw,nw,_⟩:=eN U hc;have hcom:=wn U hc (by rw[ew];exact hl);rw[Bj]at hcom;rw[<- ew]at h1 h2 hl;have h3:=(Aj (by rw[fj];omega) tw (gk tw)).all d h1 h2;rw[hcom]at h3;rcases Nat.lt_or_ge 1 d.length with z |z
 ·have:=Dv.short dn dt ((tr_snoc (r:=[])).mpr (by decide)) (show([1]:List Int).length<d.length from z) h3;cases this
 ·exact z
theorem oS{l:List Int}(h:Tr l)(hne:l≠[]):0<(aw l:Int)/\Tr (am l)/\am l≠[]/\∀n,cf l n=(aw l:Int)*cf (am l) n:=by
 have e:=qX (l:=l)
 have ec:∀n,cf l n=(aw l:Int)*cf (am l) n:=λn=>by have:=congrArg (λz=>cf z n) e;simp only[ba]at this;exact this.symm
 have hl:(am l).length=l.length:=by unfold am;rw[MY]
 refine⟨?_,eO h,λz=>by rw[z]at hl;exact hne (Op hl.symm),ec⟩;rcases Nat.eq_zero_or_pos (aw l)with z |z
 ·exfalso;refine hne (rQ h λk=>?_);rw[ec k,z];simp
 ·omega
theorem Cop2.shr{a b:List Int}(h:Cop2 a b)(ha:Tr a)(hna:a≠[])(hb:Tr b):Cop2 (am a) (am b):=λd dn dt h1 h2=>by
 obtain⟨_,_,_,ea⟩:=oS ha hna;refine h d dn dt (Dv.prop_right (x:=1) (y:=(aw a:Int)) (by decide) (λn=>by rw[ea n];omega) h1) ?_;by_cases hnb:b=[]
 ·rw[hnb];exact Dv.nil _
 ·obtain⟨_,_,_,eb⟩:=oS hb hnb;exact Dv.prop_right (x:=1) (y:=(aw b:Int)) (by decide) (λn=>by rw[eb n];omega) h2
noncomputable def sdR(l:List Int)(x:Rat):Int:=aq l x.num x.den
theorem fV(x:Rat):0<(x.den:Int):=by have:=x.den_pos;omega
theorem lE(l:List Int){t n:Int}(hn:0<n):sdR l ((t:Rat)/(n:Rat))=aq l t n:=by unfold sdR;exact oR l (fV _) hn (DK hn)
theorem lG{l:List Int}(h:Spt l):Cut (sdR l):=by
 refine⟨λx=>?_,λx y hxy hs=>?_⟩
 ·rcases fF l x.num x.den with z |z |z
  ·exact .inl z
  ·exact .inr (.inl z)
  ·exact .inr (.inr z)
 ·exact gt h (fV x) (fV y) ((Rat.lt_iff x y).mp hxy) hs
theorem uO(x:Rat):∀ls:List (List Int),cpr x (ls.map sdR)=spr x.num x.den ls
 | []=>rfl
 |l::ls=>by show -sdR l x*_ = -aq l x.num x.den*_;rw[uO x ls];rfl
theorem uK(x:Rat):(x.num:Rat)/((x.den:Int):Rat)=x:=by have:=Rat.mkRat_self x;rw[Rat.mkRat_eq_div]at this;exact this
theorem vx{l l':List Int}(hl:Spt l)(hl':Spt l')(h:kX l l'){x y:Rat}(hxy:x<y)(hd:y-x<=1/2^200):¬(inC (sdR l) x y/\inC (sdR l') x y):=by
 rintro⟨h1,h2⟩;have hD:(0:Rat)<2^200:=Rat.pow_pos (by decide);have hDi:((2^200:Int):Rat)=2^200:=Rat.intCast_pow 2 200;have f1:=Rat.floor_le (x*2^200);have f2:=Rat.lt_floor_add_one (x*2^200);rw[Rat.intCast_add]at f2
 have hd2:(y-x)*2^200<=1:=by
  have:=NK hd (Nj hD)
  rwa [Nt (by grind)]at this
 have key:∀k:List Int,Spt k->inC (sdR k) x y->inS k ((x*2^200).floor-1) ((x*2^200).floor-1+128) (2^200):=λk hk hi=>by
  have hc:=lG hk
  have eA:((((x*2^200).floor-1:Int)):Rat)/((2^200:Int):Rat)*2^200=((x*2^200).floor:Rat)-1:=by rw[hDi,Nt (by grind),Rat.intCast_sub];rfl
  have eB:((((x*2^200).floor-1+128:Int)):Rat)/((2^200:Int):Rat)*2^200=((x*2^200).floor:Rat)-1+128:=by rw[hDi,Nt (by grind),Rat.intCast_add,Rat.intCast_sub];rfl
  constructor
  ·rw[<- lE k (by decide)];generalize ((((x*2^200).floor-1:Int)):Rat)/((2^200:Int):Rat)=a at *
   have hax:a<x:=by
    refine Rat.not_le.mp λz=>?_
    have:=NK z (Nj hD);grind
   rcases Ot 0 (sdR k a)with w |w
   ·exact w
   ·have h3:=hc.m a x hax w;have h4:=hi.1;omega
  ·rw[<- lE k (by decide)];generalize ((((x*2^200).floor-1+128:Int)):Rat)/((2^200:Int):Rat)=b at *
   have hby:y<b:=by
    refine Rat.not_le.mp λz=>?_
    have:=NK z (Nj hD);have e1:((1:Int):Rat)=1:=rfl;grind
   have h3:=hc.m y b hby hi.2;omega
 exact h _ _ _ (NR _) rfl (key l hl h1) (key l' hl' h2)
noncomputable def bE(ls:List (List Int))(t n t' n':Int):Int:=(ls.map λl=>if 0<aq l t n/\aq l t' n'<=0 then(1:Int)else 0).sum
theorem kL{t n t' n':Int}(hn:0<n)(hn':0<n'):∀ls:List (List Int),cnt (ls.map sdR) ((t:Rat)/(n:Rat)) ((t':Rat)/(n':Rat))=bE ls t n t' n'
 | []=>rfl
 |l::ls=>by have ih:=kL (t:=t) (t':=t') hn hn' ls;rw[NQ,dG,ih,lE l hn,lE l hn'];unfold bE;rw[NQ,List.sum_cons]
noncomputable def sgv(row:List (List Int))(t n:Int):List Int:=row.map λf=>sg (hv t n f)
theorem xB{t n:Int}(hn:0<n)(row:List (List Int)):sgv row t n=sgX row ((t:Rat)/(n:Rat)):=by unfold sgv sgX;exact OI λf _=>q9 hn f
theorem Ks{c:Int}{fs:List (List Int)}(hF:∀f∈fs,FacG f)(hnd:(fs.map ax).Nodup)(hap:(aD fs).Pairwise kX)(hc:c≠0){P:List Int}(hP:P=ae [c] (aL [1] (fs.map ax)))(hl:P.length<=20){N:Nat}(hN:P.length<=N+1){t n t' n':Int}(hn:0<n)(hn':0<n')(hlt:t*n'<t'*n) :
 vr 0 (sgv (aZ (N+1) (am P) (am (slopeL P))) t n)-vr 0 (sgv (aZ (N+1) (am P) (am (slopeL P))) t' n')=bE (aD fs) t n t' n':=by
 have hFQ:∀f∈fs,dX f:=λf hf=>(hF f hf).q
 have U:=wx hF hnd;have ew:=ww (c:=c) hF;obtain⟨tP,nP,_⟩:=eN U hc;rw[ew,<- hP]at tP nP;have cop:=D5 hF hnd hc (by rw[<- hP];exact hl);rw[<- hP]at cop;have tS:=gk tP;obtain⟨g0,t0,n0,e0⟩:=oS tP nP;have copS:=cop.shr tP nP tS;have lS:(am (slopeL P)).length=P.length-1:=by unfold am;rw[MY,fj]
 have hst:=xI N (am P) (am (slopeL P)) (by omega) t0 n0 (eO tS) copS;by_cases hs:slopeL P=[]
 ·
  have h1:P.length<=1:=by have:=congrArg List.length hs;rw[fj]at this;simp at this;omega
  have hfs:fs=[]:=by
   cases fs with
   |nil=>rfl
   |cons f fs =>
    exfalso
    have hss:∀s∈(f::fs).map ax,s≠[]/\Tr s:=λs h=>by obtain⟨x,hx,rfl⟩:=Nc.mp h;exact qZ (hFQ x hx)
    obtain⟨p1,p2,p3⟩:=ko ((f::fs).map ax) [1] (by simp) ((tr_snoc (r:=[])).mpr (by decide)) hss
    have hl2:2<=(ax f).length:=by obtain⟨u,e,b,rfl,hb⟩:=hFQ f (M6 ..);obtain⟨_,l2⟩:=iP (u:=u) (e:=e) hb;show 2<=(aC (aN u e b)).length;rw[plain_len];exact l2
    have hsl:∀ss:List (List Int),(∀s∈ss,s≠[])->ss.length<=sl ss:=λss=>by
     induction ss with
     |nil=>intro _;exact MZ _
     |cons s ss ih =>
      intro h;have h1:=M5.mpr (h s (M6 ..));have h2:=ih λx hx=>h x (M0 _ hx)
      show ss.length+1<=s.length+sl ss;omega
    have h3:=hsl (fs.map ax) λs hs=>(hss s (M0 _ hs)).1
    have h4:sl ((f::fs).map ax)=(ax f).length+sl (fs.map ax):=rfl
    have h5:P.length=(aL [1] ((f::fs).map ax)).length:=by rw[hP,bR (by simp) p1];show 1+_-1=_;omega
    simp only[MY,Nq,OY]at p3 h3;omega
  subst hfs
  have hr:aZ (N+1) (am P) (am (slopeL P))=[am P]:=by
   have:am (slopeL P)=[]:=by rw[hs];rfl
   rw[this];exact xL n0 (by omega)
  rw[hr];show vr 0 [_]-vr 0 [_]=0;rw[qp,qp];rfl
 ·obtain⟨g1,t1,n1,e1⟩:=oS tS hs
  have hN1:1<=N:=by have:=M5.mpr n1;omega
  obtain⟨M,rfl⟩:∃M,N=M+1:=⟨N-1,by omega⟩
  have er:aZ (M+1+1) (am P) (am (slopeL P))=am P::am (slopeL P)::aZ M (nxt (am P) (am (slopeL P))) (nxt (am (slopeL P)) (nxt (am P) (am (slopeL P)))):=by show(if am P=[]then _ else am P::(if am (slopeL P)=[]then _ else _))=_;rw[if_neg n0,if_neg n1]
  rw[er]at hst ⊢;have g0':(0:Rat)<((aw P:Int):Rat):=Nz.mpr g0;have g1':(0:Rat)<((aw (slopeL P):Int):Rat):=Nz.mpr g1
  have hd:∀x,pv (slopeL (am P)) x=((aw (slopeL P):Int):Rat)/((aw P:Int):Rat)*pv (am (slopeL P)) x:=λx=>by
   have h1:=lQ (a:=slopeL (am P)) (c:=slopeL P) (u:=(aw P:Int)) x λk=>by rw[dH,dH,e0 (k+1)];grind
   have h2:=lQ (a:=am (slopeL P)) (c:=slopeL P) (u:=(aw (slopeL P):Int)) x e1;have h3:((aw (slopeL P):Int):Rat)/((aw P:Int):Rat)*((aw P:Int):Rat)=((aw (slopeL P):Int):Rat):=Nt (by grind);rw[h1]at h2
   have h4:((aw P:Int):Rat)*pv (slopeL (am P)) x=((aw P:Int):Rat)*(((aw (slopeL P):Int):Rat)/((aw P:Int):Rat)*pv (am (slopeL P)) x):=by
    rw[h2];generalize ((aw (slopeL P):Int):Rat)/((aw P:Int):Rat)=w at *
    rw[<- h3];grind
   generalize pv (slopeL (am P)) x=u at *
   generalize ((aw (slopeL P):Int):Rat)/((aw P:Int):Rat)*pv (am (slopeL P)) x=v at *
   have h5:((aw P:Int):Rat)*(u-v)=0:=by grind
   rcases Rat.mul_eq_zero.mp h5 with z |z
   ·grind
   ·grind
  have hS:∀s∈(aD fs).map sdR,Cut s:=λs hs=>by obtain⟨l,hl,rfl⟩:=Nc.mp hs;exact lG (du hFQ hl)
  have hsg:sg c=1\/sg c = -1:=by
   rcases Pc hc with z |z
   ·right;unfold sg;rw[if_pos z]
   ·left;unfold sg;rw[if_neg (by omega),if_pos z]
  have hf:∀x,sgR (pv (am P) x)=sg c*cpr x ((aD fs).map sdR):=λx=>by have h1:=oY (t:=x.num) (n:=x.den) (c:=c) (fV x) hFQ;rw[<- hP,q9 (fV x),uK]at h1;rw[uO,<- h1,lQ (a:=am P) (c:=P) (u:=(aw P:Int)) x e0,xF g0']
  have hp:∀x y:Rat,x<y->y-x<=1/2^200->((aD fs).map sdR).Pairwise λs t=>¬(inC s x y/\inC t x y):=λx y hxy hdd=>by rw[List.pairwise_map];exact hap.imp_of_mem λ{l l'} hl hl' h=>vx (du hFQ hl) (du hFQ hl') h hxy hdd
  have:=BZ hst (d7 g1' g0') hd hS hsg hf (d7 (by decide) (Rat.pow_pos (by decide))) hp ((gC hn hn').mpr hlt);rw[kL hn hn']at this;rw[xB hn,xB hn'];exact this
theorem uZ{C:Rat->Rat->Prop}(hadd:∀x y z,x<y->y<z->C x y->C y z->C x z){δ a b:Rat}(hδ:0<δ)(h:∀x y,a<=x->y<=b->x<y->y-x<=δ->C x y):∀(n:Nat) (x y:Rat),a<=x->y<=b->x<y->y-x<=2^n*δ->C x y
 |0,x,y,hx,hy,hxy,hd=>h x y hx hy hxy (by rw[Rat.pow_zero]at hd;grind)
 |n+1,x,y,hx,hy,hxy,hd=>by
  have m1:x<(x+y)/2:=by grind
  have m2:(x+y)/2<y:=by grind
  rw[Rat.pow_succ]at hd;exact hadd x _ y m1 m2 (uZ hadd hδ h n x _ hx (by grind) m1 (by grind)) (uZ hadd hδ h n _ y (by grind) hy m2 (by grind))
theorem xi{δ:Rat}(hδ:0<δ)(w:Rat):∃n:Nat,w<=2^n*δ:=by
 obtain⟨n,hn⟩:=AU (w/δ);refine⟨n,?_⟩;have h1:w/δ<=2^n:=Rat.le_trans hn (yE n);have h2:=NK h1 (Nj hδ)
 rwa [Nt (by grind)]at h2
theorem AW(v:Rat):∃w:Rat,0<=w/\Bd w v:=by
 rcases N9 (a:=0) (b:=v)with z |z
 ·exact⟨v,z,by grind,by grind⟩
 ·exact⟨-v,by grind,by grind,by grind⟩
theorem Hm{f:Rat->Rat}(hf:Nice f){a b:Rat}(hab:a<b)(h:∀z,a<=z->z<=b->1<=f z\/f z <= -1):sgR (f a)=sgR (f b):=by
 obtain⟨u,u0,u1⟩:=AW a;obtain⟨v,v0,v1⟩:=AW b;obtain⟨M,m0,m1,m2⟩:=hf (u+v) (by grind)
 have hB:∀z,a<=z->z<=b->Bd (u+v) z:=λz h1 h2=>by obtain⟨p1,p2⟩:=u1;obtain⟨p3,p4⟩:=v1;constructor<;>grind
 have hT:0<M+1:=by grind
 obtain⟨n,hn⟩:=xi (d7 (show(0:Rat)<1 by decide) hT) (b-a);refine uZ (C:=λx y=>sgR (f x)=sgR (f y)) (λx y z _ _ h1 h2=>h1.trans h2) (d7 (show(0:Rat)<1 by decide) hT) (a:=a) (b:=b) (λx y hx hy hxy hd=>?_) n a b (by grind) (by grind) hab hn
 have hd':(y-x)*(M+1)<=1:=by
  have:=NK hd (Nj hT)
  rwa [Nt (by grind)]at this
 obtain⟨f1,f2⟩:=m2 x y (hB x hx (by grind)) (hB y (by grind) hy) (by grind);have hx1:=h x hx (by grind);have hy1:=h y (by grind) hy;rcases ci (f x)with⟨a1,a2⟩ |⟨a1,a2⟩ |⟨a1,a2⟩<;>rcases ci (f y)with⟨b1,b2⟩ |⟨b1,b2⟩ |⟨b1,b2⟩
 ·rw[a2,b2]
 ·grind
 ·grind
 ·grind
 ·grind
 ·grind
 ·grind
 ·grind
 ·rw[a2,b2]
theorem rR{s:Rat->Int}{ε:Rat}(hε:0<ε):∀(n:Nat) (x y:Rat),x<y->0<s x->s y<=0->y-x<=2^n*ε->∃x' y',x<=x'/\x'<y'/\y'<=y/\y'-x'<=ε/\0<s x'/\s y'<=0
 |0,x,y,hxy,hx,hy,hd=>⟨x,y,Oa,hxy,Oa,by rw[Rat.pow_zero]at hd;grind,hx,hy⟩
 |n+1,x,y,hxy,hx,hy,hd=>by
  have m1:x<(x+y)/2:=by grind
  have m2:(x+y)/2<y:=by grind
  rw[Rat.pow_succ]at hd;by_cases h:s ((x+y)/2)<=0
  ·obtain⟨x',y',h1,h2,h3,h4⟩:=rR hε n x _ m1 hx h (by grind);exact⟨x',y',h1,h2,by grind,h4⟩
  ·obtain⟨x',y',h1,h2,h3,h4⟩:=rR hε n _ y m2 (by omega) hy (by grind);exact⟨x',y',by grind,h2,h3,h4⟩
theorem yB{f:Rat->Rat}(hf:Nice f){S:List (Rat->Int)}{ε:Int}(hε:ε=1\/ε = -1)(hS:∀s∈S,Cut s)(hv:∀x,sgR (f x)=ε*cpr x S){δ:Rat}(hδ:0<δ)(hp:∀x y,x<y->y-x<=δ->S.Pairwise λs t=>¬(inC s x y/\inC t x y)){a b:Rat}(hab:a<b)(h:∀z,a<=z->z<=b->1<=f z\/f z <= -1){s:Rat->Int}(hs:s∈S):¬(0<s a/\s b<=0):=by
 rintro⟨ha,hb⟩;obtain⟨n,hn⟩:=xi hδ (b-a);obtain⟨x,y,h1,h2,h3,h4,h5,h6⟩:=rR hδ n a b hab ha hb hn;have hc:=As hε hS h2 (hv x) (hv y) (hp x y h2 h4);have hsame:=Hm hf h2 λz hz1 hz2=>h z (by grind) (by grind)
 unfold chg at hc
 rw[if_neg (λz=>z.2 hsame.symm)]at hc
 have pos:∀(S:List (Rat->Int)),s∈S->1<=cnt S x y:=λS=>by
  induction S with
  |nil=>intro h;cases h
  |cons t S ih =>
   intro h
   have nn:∀S:List (Rat->Int),0<=cnt S x y:=λS=>by
    induction S with
    |nil=>exact NR _
    |cons t S ih=>rw[dG];split<;>omega
   rw[dG];rcases Na.mp h with rfl |h
   ·rw[if_pos ⟨h5,h6⟩];have:=nn S;omega
   ·have:=ih h;split<;>omega
 have:=pos S hs;omega
theorem DZ{ss:List (List Int)}(hs:∀s∈ss,s≠[]/\Tr s){t:Int}{n:Nat}(hn:0<n)(h:n^sl ss<=(pr t n ss).natAbs):1<=pv (aL [1] ss) ((t:Rat)/((n:Int):Rat))\/pv (aL [1] ss) ((t:Rat)/((n:Int):Rat)) <= -1:=by
 have hn':(0:Int)<(n:Int):=by omega
 obtain⟨p1,p2,p3⟩:=ko ss [1] (by simp) ((tr_snoc (r:=[])).mpr (by decide)) hs;have e1:=pS t n ss [1] (by simp) λs h=>(hs s h).1
 rw[mL,Nh]at e1;have e2:=congrArg Int.natAbs e1;rw[Nf,OX,Nf,Np]at e2;have h3:n*n^sl ss<=n^ss.length*(hv t n (aL [1] ss)).natAbs:=by rw[e2];exact N8 _ h
 have e4:n*n^sl ss=n^ss.length*n^(aL [1] ss).length:=by
  rw[<- Nat.pow_add,NW,<- Om]
  congr 1
  have:([1]:List Int).length=1:=rfl;omega
 rw[e4]at h3;have h5:=Pk h3 (N3 hn);have e6:=tu (t:=t) hn' (aL [1] ss);generalize pv (aL [1] ss) ((t:Rat)/((n:Int):Rat))=q at *
 generalize hv t n (aL [1] ss)=z at *
 have hp:(0:Rat)<((n:Int):Rat)^(aL [1] ss).length:=Rat.pow_pos (Nz.mpr hn')
 have e7:(((n^(aL [1] ss).length:Nat):Int):Rat)=((n:Int):Rat)^(aL [1] ss).length:=by rw[O1,Rat.intCast_pow]
 rcases Int.le_total 0 z with w |w
 ·left;have h8:((n^(aL [1] ss).length:Nat):Int)<=z:=by omega
  have h9:=OL.mpr h8;rw[e7,e6]at h9;refine Rat.not_lt.mp λhq=>?_
  have:=Rat.mul_lt_mul_of_pos_left hq hp;grind
 ·right;have h8:z <= -((n^(aL [1] ss).length:Nat):Int):=by omega
  have h9:=OL.mpr h8;rw[Rat.intCast_neg,e7,e6]at h9;refine Rat.not_lt.mp λhq=>?_
  have:=Rat.mul_lt_mul_of_pos_left hq hp;grind
theorem Ci{l:List Int}(hl:Spt l):∃M:Int,0<M/\∀T:Int,M<=T->aq l T 1<0/\0<aq l (-T) 1:=by
 obtain⟨u,e,b,s,rfl,he,hb,hs⟩:=hl;refine⟨(u.natAbs:Int)+e+1,by omega,λT hT=>?_⟩
 have h1:T<=b*T:=by have:=Ny hb (show 0<=T by omega);omega
 have g1:e+1<=b*T-u*1:=by omega
 have g2:e+1<=0-(b * -T-u*1):=by have:b * -T = -(b*T):=Int.mul_neg _ _;omega
 have q1:=w8 (show 0<=e+1 by omega) g1;have q2:=w8 (show 0<=e+1 by omega) g2;have q3:(e+1)*(e+1)=e*e+2*e+1:=by grind
 have q4:0<=e*e:=NH he he;rcases hs with rfl |rfl
 ·constructor
  ·show bX (e*1*1) (b*T-u*1)<0;rcases cJ (e*1*1) (b*T-u*1)with z |z |z<;>omega
  ·show 0<bX (e*1*1) (b * -T-u*1);rcases cJ (e*1*1) (b * -T-u*1)with z |z |z<;>omega
 ·constructor
  ·show 0-bX (e*1*1) (0-(b*T-u*1))<0;rcases cJ (e*1*1) (0-(b*T-u*1))with z |z |z<;>omega
  ·show 0<0-bX (e*1*1) (0-(b * -T-u*1));rcases cJ (e*1*1) (0-(b * -T-u*1))with z |z |z<;>omega
theorem B6{fs:List (List Int)}(hF:∀f∈fs,FacG f)(hnd:(fs.map ax).Nodup)(hap:(aD fs).Pairwise kX){B:Nat}(hB:1<=B)(hb:∀x∈(aL [1] (fs.map ax)).take ((aL [1] (fs.map ax)).length-1),x.natAbs<=(B-1)*(ar (aL [1] (fs.map ax))).natAbs){l:List Int}(hl:l∈aD fs):aq l B 1<0/\0<aq l (-(B:Int)) 1:=by
 have hFQ:∀f∈fs,dX f:=λf hf=>(hF f hf).q
 have hss:∀s∈fs.map ax,s≠[]/\Tr s:=λs h=>by obtain⟨x,hx,rfl⟩:=Nc.mp h;exact qZ (hFQ x hx)
 have hT:Tr (aL [1] (fs.map ax)):=(ko (fs.map ax) [1] (by simp) ((tr_snoc (r:=[])).mpr (by decide)) hss).2.1;have e1:ae [1] (aL [1] (fs.map ax))=aL [1] (fs.map ax):=one_mul _ hT;have far:=λ(t:Int) (n:Nat)=>Jw (t:=t) (n:=n) (B:=B) (c:=1) (by decide) hss hB (by rw[e1];exact hb)
 have hspt:=du hFQ hl;have hcut:=lG hspt
 have hS:∀s∈(aD fs).map sdR,Cut s:=λs hs=>by obtain⟨l,hl,rfl⟩:=Nc.mp hs;exact lG (du hFQ hl)
 have hf:∀x,sgR (pv (aL [1] (fs.map ax)) x)=1*cpr x ((aD fs).map sdR):=λx=>by have h1:=oY (t:=x.num) (n:=x.den) (c:=1) (fV x) hFQ;rw[e1,q9 (fV x),uK]at h1;rw[uO,h1];rfl
 have hp:∀x y:Rat,x<y->y-x<=1/2^200->((aD fs).map sdR).Pairwise λs t=>¬(inC s x y/\inC t x y):=λx y hxy hdd=>by rw[List.pairwise_map];exact hap.imp_of_mem λ{l l'} hl hl' h=>vx (du hFQ hl) (du hFQ hl') h hxy hdd
 have away:∀z:Rat,((B:Int):Rat)<=z\/z <= -((B:Int):Rat)->1<=pv (aL [1] (fs.map ax)) z\/pv (aL [1] (fs.map ax)) z <= -1:=λz hz=>by
  have h1:=DZ hss (t:=z.num) (n:=z.den) z.den_pos (far z.num z.den z.den_pos ?_)
  ·rw[uK]at h1;exact h1
  ·have hd:(0:Rat)<((z.den:Int):Rat):=Nz.mpr (fV z);have hnum:=yx z;rcases hz with w |w
   ·have h2:=NK w (Nj hd);rw[<- hnum,<- NJ]at h2;have h3:=OL.mp h2;have h4:((B*z.den:Nat):Int)=(B:Int)*(z.den:Int):=OJ _ _;omega
   ·have h2:=NK w (Nj hd);rw[<- hnum,<- Rat.intCast_neg,<- NJ]at h2;have h3:=OL.mp h2;have h4:((B*z.den:Nat):Int)=(B:Int)*(z.den:Int):=OJ _ _;have h5 : -(B:Int)*(z.den:Int) = -((B:Int)*(z.den:Int)):=Int.neg_mul _ _;omega
 obtain⟨M,hM,hfar⟩:=Ci hspt;have hmem:sdR l∈(aD fs).map sdR:=Nc.mpr ⟨l,hl,rfl⟩;have δ0:(0:Rat)<1/2^200:=d7 (by decide) (Rat.pow_pos (by decide))
 have int1:∀z:Int,sdR l (z:Rat)=aq l z 1:=λz=>by
  have:=lE l (t:=z) (n:=1) (by decide)
  have e:(z:Rat)/((1:Int):Rat)=(z:Rat):=by have:((1:Int):Rat)=1:=rfl;rw[this];grind
  rw[e]at this;exact this
 constructor
 ·
  have hlt:((B:Int):Rat)<((M+B:Int):Rat):=Nz.mpr (by omega);have no:=yB (dP _) (.inl rfl) hS hf δ0 hp hlt (λz h1 _=>away z (.inl h1)) hmem;rw[int1,int1]at no;have hfr:=(hfar (M+B) (by omega)).1;rcases fF l B 1 with z |z |z
  ·exact absurd ⟨by omega,by omega⟩ no
  ·
   exfalso;have h1:=away (((B:Int)):Rat) (.inl Oa)
   have h2:sgR (pv (aL [1] (fs.map ax)) ((B:Int):Rat))=0:=by
    rw[hf]
    have h3:∀(S:List (Rat->Int)) (x:Rat) (s:Rat->Int),s∈S->s x=0->cpr x S=0:=λS x s hs h0=>by obtain⟨pre,post,rfl⟩:=Pd hs;rw[qe];show _*(-s x*_)=0;rw[h0];simp
    rw[h3 _ _ _ hmem (by rw[int1];exact z)];rfl
   rcases ci (pv (aL [1] (fs.map ax)) ((B:Int):Rat))with⟨a,c⟩ |⟨a,c⟩ |⟨a,c⟩
   ·omega
   ·grind
   ·omega
  ·omega
 ·have hlt:((-(M+B):Int):Rat)<((-(B:Int):Int):Rat):=Nz.mpr (by omega);have no:=yB (dP _) (.inl rfl) hS hf δ0 hp hlt (λz _ h2=>away z (.inr (by rw[Rat.intCast_neg]at h2;exact h2))) hmem;rw[int1,int1]at no;have hfr:=(hfar (M+B) (by omega)).2;rcases fF l (-(B:Int)) 1 with z |z |z
  ·omega
  ·exact absurd ⟨hfr,by omega⟩ no
  ·exact absurd ⟨hfr,by omega⟩ no
theorem rC{s:List Int}:∀(pre post:List (List Int)),prd (pre++s::post)=ae s (prd (pre++post))
 | [],post=>rfl
 |t::pre,post=>by show ae t (prd (pre++s::post))=ae s (ae t (prd (pre++post)));rw[rC pre post];ac_rfl
structure Two(u e b x y x' y':Rat):Prop where
 xp:b*x-u<0\/(b*x-u)*(b*x-u)<e
 yp:0<=b*y-u/\e<=(b*y-u)*(b*y-u)
 xm:b*x'-u<=0/\e<(b*x'-u)*(b*x'-u)
 ym:0<b*y'-u\/(b*y'-u)*(b*y'-u)<=e
theorem Do{a c:Rat}(hc:0<=c)(h:a*a<c*c):a<c:=Rat.not_le.mp λz=>by have:=Nv (show 0<=a-c by grind) (show 0<=a+c by grind);grind
theorem Dp{a c:Rat}(hc:0<=c)(h:a*a<=c*c):a<=c:=Rat.not_lt.mp λz=>by have:=NY (show 0<a-c by grind) (show 0<a+c by grind);grind
theorem Two.sum{u e b x y x' y':Rat}(h:Two u e b x y x' y'):2*u<=b*(y+y')/\b*(x+x')<2*u:=by
 obtain⟨xp,yp,xm,ym⟩:=h;constructor
 ·rcases ym with z |z
  ·grind
  ·have : -(b*y'-u)<=b*y-u:=Dp yp.1 (by grind);grind
 ·rcases xp with z |z
  ·grind
  ·have:b*x-u < -(b*x'-u):=Do (by grind) (by grind);grind
theorem Ao{x y:Rat}:∀{S:List (Rat->Int)},(S.Pairwise λs t=>¬(inC s x y/\inC t x y))->cnt S x y<=1
 | [],_=>by rw[An];decide
 |s::S,h=>by
  obtain⟨h1,h2⟩:=Ob.mp h;rw[dG];have ih:=Ao h2;by_cases hs:0<s x/\s y<=0
  ·rw[if_pos hs]
   have z:∀(S:List (Rat->Int)),(∀t∈S,¬(inC s x y/\inC t x y))->cnt S x y=0:=λS=>by
    induction S with
    |nil=>intro _;rfl
    |cons t S ih =>intro h;rw[dG,ih λu hu=>h u (M0 _ hu),if_neg λw=>h t (M6 ..) ⟨⟨M7 hs.1,hs.2⟩,⟨M7 w.1,w.2⟩⟩];rfl
   rw[z S h1];decide
  ·rw[if_neg hs];omega
theorem nc(ls:List (List Int))(t n t' n':Int):0<=bE ls t n t' n':=by
 induction ls with
 |nil=>exact NR _
 |cons l ls ih =>
  unfold bE at ih ⊢
  rw[NQ,List.sum_cons];split<;>omega
theorem dj(l:List Int)(ls:List (List Int))(t n t' n':Int):bE (l::ls) t n t' n'=(if 0<aq l t n/\aq l t' n'<=0 then 1 else 0)+bE ls t n t' n':=by unfold bE;rw[NQ,List.sum_cons]
theorem Kx{fs:List (List Int)}(hF:∀f∈fs,dX f){a1 a2 b1 b2 c1 c2:Int}(a:0<a2)(b:0<b2)(c:0<c2)(h1:a1*b2<b1*a2)(h2:b1*c2<c1*b2):bE (aD fs) a1 a2 c1 c2=bE (aD fs) a1 a2 b1 b2+bE (aD fs) b1 b2 c1 c2:=by
 have hS:∀s∈(aD fs).map sdR,Cut s:=λs hs=>by obtain⟨l,hl,rfl⟩:=Nc.mp hs;exact lG (du hF hl)
 rw[<- kL a c,<- kL a b,<- kL b c];exact uR ((gC a b).mpr h1) ((gC b c).mpr h2) hS
theorem Kw{fs:List (List Int)}(hF:∀f∈fs,FacG f)(hn:(fs.map ax).Nodup)(hap:(aD fs).Pairwise kX){l1 l2 h1 h2:Int}(l2p:0<l2)(h2p:0<h2)(lt:l1*h2<h1*l2)(hw:(h1*l2-l1*h2)*2^200<=l2*h2):bE (aD fs) l1 l2 h1 h2<=1:=by
 rw[<- kL l2p h2p];refine Ao ?_;rw[List.pairwise_map]
 have hd:(h1:Rat)/(h2:Rat)-(l1:Rat)/(l2:Rat)<=1/2^200:=by
  have L2:(0:Rat)<(l2:Rat):=Nz.mpr l2p;have H2:(0:Rat)<(h2:Rat):=Nz.mpr h2p;have e1:(l1:Rat)/(l2:Rat)*(l2:Rat)=(l1:Rat):=Nt (Rat.ne_of_gt L2);have e2:(h1:Rat)/(h2:Rat)*(h2:Rat)=(h1:Rat):=Nt (Rat.ne_of_gt H2);generalize (l1:Rat)/(l2:Rat)=x at e1 ⊢
  generalize (h1:Rat)/(h2:Rat)=y at e2 ⊢
  have hw':((h1:Rat)*(l2:Rat)-(l1:Rat)*(h2:Rat))*2^200<=(l2:Rat)*(h2:Rat):=by have:=OL.mpr hw;rw[NJ,NJ,Rat.intCast_sub,NJ,NJ]at this;exact this
  have M:(0:Rat)<(l2:Rat)*(h2:Rat):=NY L2 H2;have P:(0:Rat)<2^200:=Rat.pow_pos (by decide);rw[<- e1,<- e2]at hw';have e3:(y*(h2:Rat)*(l2:Rat)-x*(l2:Rat)*(h2:Rat))*2^200=((y-x)*2^200)*((l2:Rat)*(h2:Rat)):=by grind
  rw[e3]at hw'
  have h4:(y-x)*2^200<=1:=by
   refine Rat.not_lt.mp λz=>?_
   have:=NY (show 0<(y-x)*2^200-1 by grind) M;grind
  have e5:(1:Rat)/2^200*2^200=1:=Nt (Rat.ne_of_gt P);refine Rat.not_lt.mp λz=>?_
  have:=NY (show 0<(y-x)-1/2^200 by grind) P;grind
 exact hap.imp_of_mem λ{l l'} hl hl' h=>vx (du (λf hf=>(hF f hf).q) hl) (du (λf hf=>(hF f hf).q) hl') h ((gC l2p h2p).mpr lt) hd
theorem Ap{l1 l2 h1 h2:Int}:∀{ls:List (List Int)},bE ls l1 l2 h1 h2=0->∀x∈ls,¬(0<aq x l1 l2/\aq x h1 h2<=0)
 | [],_,x,hx=>nomatch hx
 |l::ls,h,x,hx=>by
  rw[dj]at h;have nn:=nc ls l1 l2 h1 h2;by_cases hl:0<aq l l1 l2/\aq l h1 h2<=0
  ·rw[if_pos hl]at h;omega
  ·rw[if_neg hl]at h;rcases Na.mp hx with rfl |z
   ·exact hl
   ·exact Ap (by omega) x z
theorem uS{l1 l2 h1 h2:Int}:∀{ls:List (List Int)},bE ls l1 l2 h1 h2=1->∃pre s post,ls=pre++s::post/\(0<aq s l1 l2/\aq s h1 h2<=0)/\∀x∈pre++post,¬(0<aq x l1 l2/\aq x h1 h2<=0)
 | [],h=>by cases h
 |l::ls,h=>by
  rw[dj]at h;by_cases hl:0<aq l l1 l2/\aq l h1 h2<=0
  ·rw[if_pos hl]at h;exact⟨[],l,ls,rfl,hl,Ap (ls:=ls) (by omega)⟩
  ·rw[if_neg hl]at h;obtain⟨pre,s,post,rfl,e2,e3⟩:=uS (l1:=l1) (l2:=l2) (h1:=h1) (h2:=h2) (ls:=ls) (by omega);refine⟨l::pre,s,post,rfl,e2,λx hx=>?_⟩;rcases Na.mp hx with rfl |z
   ·exact hl
   ·exact e3 x z
theorem Aq{l1 l2 h1 h2:Int}:∀{ls:List (List Int)} {s:List Int},s∈ls->(0<aq s l1 l2/\aq s h1 h2<=0)->1<=bE ls l1 l2 h1 h2
 |l::ls,s,hs,h=>by
  rw[dj];have nn:=nc ls l1 l2 h1 h2;rcases Na.mp hs with rfl |z
  ·rw[if_pos h];omega
  ·have:=Aq z h;split<;>omega
structure Dya(B:Int)(d:Nat)(l1 l2 h1 h2:Int):Prop where
 l2p:0<l2
 h2p:0<h2
 gl:Nat.gcd l1.natAbs l2.natAbs=1
 gh:Nat.gcd h1.natAbs h2.natAbs=1
 at':∃m:Int,0<=m/\m+1<=2^d/\l1*2^d=(2*m*B-B*2^d)*l2/\h1*2^d=(2*(m+1)*B-B*2^d)*h2
theorem zS{X l1 l2:Int}{d k:Nat}(l2p:0<l2)(g:Nat.gcd l1.natAbs l2.natAbs=1)(e:l1*2^d=X*l2)(hX:X.natAbs<=2^k)(hk:d<=k):l1.natAbs<=2^k/\l2.natAbs<=2^k:=by
 have e':l1.natAbs*2^d=X.natAbs*l2.natAbs:=by have:=congrArg Int.natAbs e;rw[Nf,Nf,OX]at this;exact this
 have hd:l2.natAbs∣2^d:=by refine Nat.Coprime.dvd_of_dvd_mul_left (k:=l2.natAbs) (m:=l1.natAbs) (by rw[Nat.Coprime,Ox];exact g) ?_;exact⟨X.natAbs,by rw[e',NW]⟩
 have p2:0<2^d:=N3 (by decide);have hle:=Nat.le_of_dvd p2 hd;refine⟨?_,Nd hle (OR (by decide) hk)⟩;have h1:l1.natAbs*2^d<=X.natAbs*2^d:=by rw[e'];exact N8 _ hle
 exact Nd (Nat.le_of_mul_le_mul_right h1 p2) hX
theorem yy{B D m:Int}{N:Nat}(hN:(N:Int)=B*D)(B0:0<B)(m0:0<=m)(m1:m<=D):(2*m*B-B*D).natAbs<=N:=by
 have k1:0<=m*B:=NH m0 (M7 B0);have k2:m*B<=D*B:=Ny m1 (M7 B0);have k4:D*B=B*D:=Ni _ _;have k5:2*m*B=2*(m*B):=NG _ _ _;rw[k5];generalize m*B=x at *
 generalize B*D=y at *
 omega
theorem Dya.bits{kb d:Nat}{l1 l2 h1 h2:Int}(h:Dya (2^kb) d l1 l2 h1 h2):(l1.natAbs<=2^(kb+d)/\l2.natAbs<=2^(kb+d))/\h1.natAbs<=2^(kb+d)/\h2.natAbs<=2^(kb+d):=by
 obtain⟨l2p,h2p,gl,gh,m,m0,m1,e1,e2⟩:=h;have B0:(0:Int)<2^kb:=NI (by decide);have eq:(((2:Nat)^(kb+d):Nat):Int)=2^kb*2^d:=by rw[O1,Int.pow_add];rfl
 exact⟨zS l2p gl e1 (yy eq B0 m0 (by omega)) (by omega),zS h2p gh e2 (yy eq B0 (by omega) m1) (by omega)⟩
theorem Dya.width{B:Int}{d:Nat}{l1 l2 h1 h2:Int}(h:Dya B d l1 l2 h1 h2):(h1*l2-l1*h2)*2^d=2*B*(l2*h2):=by obtain⟨l2p,h2p,gl,gh,m,m0,m1,e1,e2⟩:=h;grind
theorem Dya.lt{B:Int}(hB:0<B){d:Nat}{l1 l2 h1 h2:Int}(h:Dya B d l1 l2 h1 h2):l1*h2<h1*l2:=by
 have w:=h.width;have p:(0:Int)<2^d:=NI (by decide);have q:0<2*B*(l2*h2):=M8 (by omega) (M8 h.l2p h.h2p);rw[<- w]at q
 have:0<h1*l2-l1*h2:=Int.not_le.mp λz=>by have:=Int.mul_nonpos_of_nonpos_of_nonneg z (M7 p);omega
 omega
theorem Dya.start{B:Int}:Dya B 0 (-B) 1 B 1:=⟨by decide,by decide,OB _,OB _,0,by decide,by decide,by grind,by grind⟩
theorem Dya.half{B:Int}{d:Nat}{l1 l2 h1 h2 c1 c2:Int}(h:Dya B d l1 l2 h1 h2)(c2p:0<c2)(gc:Nat.gcd c1.natAbs c2.natAbs=1)(e:c1*(2*l2*h2)=(l1*h2+h1*l2)*c2):Dya B (d+1) l1 l2 c1 c2/\Dya B (d+1) c1 c2 h1 h2:=by
 obtain⟨l2p,h2p,gl,gh,m,m0,m1,e1,e2⟩:=h
 have ec:c1*2^(d+1)=(2*(2*m+1)*B-B*2^(d+1))*c2:=by
  have hp:0<l2*h2:=M8 l2p h2p;refine Oy (a:=l2*h2) (by omega) ?_;rw[Nm];have q1:c1*(2^d*2)*(l2*h2)=c1*(2*l2*h2)*2^d:=by grind
  rw[q1,e];have q2:(l1*h2+h1*l2)*c2*2^d=(l1*2^d*h2+h1*2^d*l2)*c2:=by grind
  rw[q2,e1,e2];grind
 have p2:(2:Int)^(d+1)=2^d*2:=Nm ..;refine⟨⟨l2p,c2p,gl,gc,2*m,by omega,by omega,?_,ec⟩,⟨c2p,h2p,gc,gh,2*m+1,by omega,by omega,ec,?_⟩⟩
 ·rw[p2,<- NG,e1];grind
 ·rw[p2,<- NG,e2];grind
theorem Dya.few{fs:List (List Int)}(hF:∀f∈fs,FacG f)(hn:(fs.map ax).Nodup)(hap:(aD fs).Pairwise kX){kb d:Nat}{l1 l2 h1 h2:Int}(h:Dya (2^kb) d l1 l2 h1 h2)(hd:kb+201<=d):bE (aD fs) l1 l2 h1 h2<=1:=by
 have B0:(0:Int)<2^kb:=NI (by decide);refine Kw hF hn hap h.l2p h.h2p (h.lt B0) ?_;have w:=h.width;obtain⟨j,rfl⟩:∃j,d=kb+201+j:=⟨d-(kb+201),by omega⟩
 have e:(2:Int)^(kb+201+j)=2*2^kb*(2^200*2^j):=by rw[Int.pow_add,Int.pow_add,show(2:Int)^201=2*2^200 by decide];grind
 have j0:(1:Int)<=2^j:=by have:=NI (n:=2) (m:=j) (by decide);omega
 rw[e]at w;have lp:=h.lt B0;have e2:(h1*l2-l1*h2)*(2*2^kb*(2^200*2^j))=2*2^kb*((h1*l2-l1*h2)*2^200*2^j):=by grind
 rw[e2]at w;have w2:=Pj (show 2*(2:Int)^kb≠0 by omega) w;have q:0<=(h1*l2-l1*h2)*2^200:=NH (by omega) (M7 (NI (by decide)));have:=Oz j0 q;rw[Nw]at this;rw[<- w2];exact this
noncomputable def prQ(fs:List (List Int)):List Int:=aL [1] (fs.map ax)
structure Fam(fs:List (List Int)):Prop where
 fac:∀f∈fs,FacG f
 nd:(fs.map ax).Nodup
 ap:(aD fs).Pairwise kX
variable {fs:List (List Int)}
theorem Fam.q(h:Fam fs):∀f∈fs,dX f:=λf hf=>(h.fac f hf).q
theorem Fam.pri(h:Fam fs):∀s∈fs.map ax,Pri s:=λs hs=>by obtain⟨f,hf,rfl⟩:=Nc.mp hs;exact fT (h.fac f hf)
theorem Fam.prd(h:Fam fs):prQ fs=prd (fs.map ax):=x9 h.pri
theorem Fam.pln(h:Fam fs):Pln (prQ fs):=by rw[h.prd];exact kq _ λs hs=>(h.pri s hs).pln
theorem Fam.one(h:Fam fs):ae [1] (prQ fs)=prQ fs:=one_mul _ h.pln.tr
theorem Fam.sign(h:Fam fs){t n:Int}(hn:0<n):sg (hv t n (prQ fs))=spr t n (aD fs):=by have:=oY (t:=t) (n:=n) (c:=1) hn h.q;rw[show ae [1] (aL [1] (fs.map ax))=aL [1] (fs.map ax)from h.one]at this;rw[show sg 1=1 from rfl,Nh]at this;exact this
theorem qr{t n:Int}:∀{ls:List (List Int)},spr t n ls=0->∃s∈ls,aq s t n=0
 | [],h=>by cases h
 |l::ls,h=>by
  rcases Int.mul_eq_zero.mp (show -aq l t n*spr t n ls=0 from h)with z |z
  ·exact⟨l,M6 ..,by omega⟩
  ·obtain⟨s,hs,e⟩:=qr z;exact⟨s,M0 _ hs,e⟩
theorem B5{gs fs:List (List Int)}(s:gs.Sublist fs):(aD gs).Sublist (aD fs):=by
 induction s with
 |slnil=>exact List.Sublist.refl _
 |cons a _ ih=>exact ih.trans (List.sublist_append_right (spF a) _)
 |cons_cons a _ ih=>exact List.Sublist.append (List.Sublist.refl (spF a)) ih
theorem Fam.sub{fs gs:List (List Int)}(h:Fam fs)(s:gs.Sublist fs):Fam gs:=⟨λf hf=>h.fac f (s.subset hf),h.nd.sublist (s.map _),h.ap.sublist (B5 s)⟩
theorem Fam.single(h:Fam fs){f:List Int}(hf:f∈fs):Fam [f]:=h.sub (List.singleton_sublist.mpr hf)
theorem lU{f:List Int}(h:Fam [f]):prQ [f]=ax f:=by rw[h.prd];show ae (ax f) [1]=_;exact cz _
structure OneS(fs:List (List Int))(f0 s0:List Int)(l1 l2 h1 h2:Int):Prop where
 fam:Fam fs
 mem:f0∈fs
 sp:s0∈spF f0
 l2p:0<l2
 h2p:0<h2
 lt:l1*h2<h1*l2
 inn:0<aq s0 l1 l2/\aq s0 h1 h2<=0
 only:∀s∈aD fs,0<aq s l1 l2->aq s h1 h2<=0->s=s0
theorem EB{l1 l2 h1 h2:Int}(hF:Fam fs)(l2p:0<l2)(h2p:0<h2)(lt:l1*h2<h1*l2)(h:bE (aD fs) l1 l2 h1 h2=1):∃f0 s0,OneS fs f0 s0 l1 l2 h1 h2:=by
 obtain⟨pre,s,post,e,hin,hno⟩:=uS h;have hs:s∈aD fs:=by rw[e];simp
 obtain⟨f0,hf0,hsp⟩:=Os.mp hs;refine⟨f0,s,hF,hf0,hsp,l2p,h2p,lt,hin,λx hx a b=>?_⟩;rw[e]at hx;rcases NM.mp hx with z |z
 ·exact absurd ⟨a,b⟩ (hno x (Ov _ z))
 ·rcases Na.mp z with z |z
  ·exact z
  ·exact absurd ⟨a,b⟩ (hno x (NE _ z))
variable {f0 s0:List Int}{l1 l2 h1 h2:Int}
theorem Cj{s:List Int}(hs:Spt s){t n t' n':Int}(hn:0<n)(hn':0<n')(h:t*n'<=t'*n)(hz:aq s t n<=0):aq s t' n'<=0:=by
 rcases Int.lt_or_eq_of_le h with w |w
 ·have:=gt hs hn hn' w hz;omega
 ·rw[<- oR s hn hn' w];exact hz
theorem OneS.zero(h:OneS fs f0 s0 l1 l2 h1 h2){x1 x2:Int}(x2p:0<x2)(a:l1*x2<x1*l2)(b:x1*h2<=h1*x2)(z:hv x1 x2 (prQ fs)=0):aq s0 x1 x2=0:=by
 have hs:=h.fam.sign (t:=x1) (n:=x2) x2p;rw[z]at hs;obtain⟨s,hm,hz⟩:=qr (show spr x1 x2 (aD fs)=0 from hs.symm);have hS:=du h.fam.q hm
 have e:s=s0:=by refine h.only s hm (Int.not_le.mp λw=>?_) (Cj hS x2p h.h2p b (by omega));have:=gt hS h.l2p x2p a w;omega
 rw[<- e];exact hz
theorem qt{u e b:Int}{s:List Int}(h:s∈spF [u,e,b]):∃σ:Int,s=[u,e,b,σ]/\(σ=1/\0<=e\/σ = -1/\0<e):=by
 unfold spF at h
 rcases NM.mp h with w |w
 ·split at w
  ·rename_i he
   exact⟨1,Nb.mp w,.inl ⟨rfl,he⟩⟩
  ·cases w
 ·split at w
  ·rename_i he
   exact⟨-1,Nb.mp w,.inr ⟨rfl,he⟩⟩
  ·cases w
theorem xA{u e b σ t n:Int}(hNS:NS e)(he:0<e)(hn:0<n):aq [u,e,b,σ] t n≠0:=λz=>by
 unfold aq at z
 have key:∀d:Int,bX (e*n*n) d=0->False:=λd hd=>by
  rcases cJ (e*n*n) d with⟨c,_⟩ |⟨_,_,c⟩ |⟨c,_⟩
  ·omega
  ·exact hNS.no (x:=n) (y:=d) (by omega) (by omega) (by rw[c];grind)
  ·omega
 split at z
 ·exact key _ z
 ·exact key _ (by have:0-bX (e*n*n) (0-(b*t-u*n))=0:=z;show bX (e*n*n) (0-(b*t-u*n))=0;omega)
theorem uh{u e b:Int}(h:FacG [u,e,b]):1<=b/\NS e:=by obtain⟨u',e',b',he,_,_,_,_,h5,_,h7⟩:=h;cases he;exact⟨h5,h7⟩
theorem OneS.cases(h:OneS fs f0 s0 l1 l2 h1 h2):∃u e b σ:Int,f0=[u,e,b]/\s0=[u,e,b,σ]/\1<=b/\NS e/\(σ=1/\e=0\/(σ=1\/σ = -1)/\0<e):=by
 obtain⟨u,e,b,rfl,_⟩:=h.fam.fac f0 h.mem;obtain⟨hb,hn⟩:=uh (h.fam.fac _ h.mem);obtain⟨σ,rfl,hσ⟩:=qt h.sp;refine⟨u,e,b,σ,rfl,rfl,hb,hn,?_⟩;rcases hσ with⟨a,c⟩ |⟨a,c⟩
 ·rcases Int.lt_or_eq_of_le c with w |w
  ·exact .inr ⟨.inl a,w⟩
  ·exact .inl ⟨a,w.symm⟩
 ·exact .inr ⟨.inr a,c⟩
theorem OneS.none(h:OneS fs f0 s0 l1 l2 h1 h2){u e b σ:Int}(ef:s0=[u,e,b,σ])(hN:NS e)(he:0<e){x1 x2:Int}(x2p:0<x2)(a:l1*x2<x1*l2)(c:x1*h2<=h1*x2):hv x1 x2 (prQ fs)≠0:=λz=>by have:=h.zero x2p a c z;rw[ef]at this;exact xA hN he x2p this
theorem Hd(h:Fam fs)(hf:f0∈fs):∃r:Int,0<r/\ar (prQ fs)=ar (ax f0)*r:=by
 obtain⟨pre,post,e⟩:=Pd (List.mem_map_of_mem (f:=ax) hf);have hp:=h.pri;rw[h.prd];rw[e]at hp ⊢;have hq:Pln (RM.prd (pre++post)):=kq _ λs hs=>(hp s (by simp at hs ⊢;rcases hs with z |z<;>simp[z])).pln
 have hs:Pln (ax f0):=(hp _ (by simp)).pln;rw[rC,sK hs.ne hq.ne];exact⟨_,hq.pos,rfl⟩
theorem DA{a b c d:Int}(hb:0<b)(hd:0<d)(g1:Nat.gcd a.natAbs b.natAbs=1)(g2:Nat.gcd c.natAbs d.natAbs=1)(e:a*d=c*b):a=c/\b=d:=by
 have e':a.natAbs*d.natAbs=c.natAbs*b.natAbs:=by
  have:=congrArg Int.natAbs e
  rwa [Nf,Nf]at this
 have h1:b.natAbs∣d.natAbs:=Nat.Coprime.dvd_of_dvd_mul_left (k:=b.natAbs) (m:=a.natAbs) (by rw[Nat.Coprime,Ox];exact g1) ⟨c.natAbs,by rw[e',NW]⟩;have h2:d.natAbs∣b.natAbs:=Nat.Coprime.dvd_of_dvd_mul_left (k:=d.natAbs) (m:=c.natAbs) (by rw[Nat.Coprime,Ox];exact g2) ⟨a.natAbs,by rw[<- e',NW]⟩;have h3:=Nat.dvd_antisymm h1 h2;have h4:b=d:=by omega
 subst h4;exact⟨Oy (by omega) e,rfl⟩
theorem Co{u b:Int}(hb:1<=b):∃g A0 A1:Int,0<g/\ax [u,0,b]=[A0,A1] /\ -u=g*A0/\b=g*A1/\0<A1/\Nat.gcd A0.natAbs A1.natAbs=1:=by
 have hr:aN u 0 b=[-u,b]:=by unfold aN;rw[if_pos rfl]
 have ht:=(iP (u:=u) (e:=0) hb).1;rw[hr]at ht;have hl:ar [-u,b]=b:=rfl;obtain⟨g,hg,e⟩:=yf ht (by simp) (by rw[hl];omega);have hS:ax [u,0,b]=aC [-u,b]:=by show aC (aN u 0 b)=_;rw[hr]
 have hp:=gE ht (by simp);rw[hS];have hl2:(aC [-u,b]).length=2:=RM.plain_len _;generalize aC [-u,b]=P at e hp hl2
 match P,hl2 with
 | [A0,A1],_ =>
  have e1 : -u=g*A0/\b=g*A1:=by have:[-u,b]=[g*A0,g*A1]:=e;simpa using this
  refine⟨g,A0,A1,hg,rfl,e1.1,e1.2,hp.pos,?_⟩
  have h2:aw [A0,A1]=Nat.gcd A0.natAbs A1.natAbs:=by unfold aw;rw[fR,fR,pX,OV]
  rw[<- h2];exact hp.prim
theorem Kf{a y Z:Int}(hy:0<y)(h1:Z*y<=a)(h2:a<(Z+1)*y):a/y=Z :=
 Int.le_antisymm (Int.lt_add_one_iff.mp (Int.ediv_lt_of_lt_mul hy h2)) (Int.le_ediv_of_mul_le hy h1)
theorem side_line{u b t n:Int}:0<aq [u,0,b,1] t n↔b*t<u*n:=by
 unfold aq;rw[if_pos (show(0:Int)<cf [u,0,b,1] 3 from(by decide:(0:Int)<1))];show 0<bX (0*n*n) (b*t-u*n)↔_;rw[NB,NB];rcases cJ 0 (b*t-u*n)with⟨c,d⟩ |⟨c,d,_⟩ |⟨c,d,_⟩
 ·rw[c];constructor
  ·intro _;rcases d with d |d
   ·omega
   ·have:0<=(b*t-u*n)*(b*t-u*n):=by
     rcases Int.le_total 0 (b*t-u*n)with w |w
     ·exact NH w w
     ·exact O8 w w
    omega
  ·intro _;decide
 ·rw[c];constructor
  ·intro z;exact absurd z (by decide)
  ·intro z;omega
 ·rw[c];constructor
  ·intro z;exact absurd z (by decide)
  ·intro z;omega
theorem OneS.line{u b:Int}(h:OneS fs [u,0,b] [u,0,b,1] l1 l2 h1 h2){x1 x2 y1 y2 B:Int}(x2p:0<x2)(y2p:0<y2)(hB:1<=B)(lo:0<aq [u,0,b,1] x1 x2)(hi:aq [u,0,b,1] y1 y2<=0)(hlt:x1*y2<y1*x2)(hw:(y1*x2-x1*y2)*(8*ar (prQ fs)*B)<=1*(x2*y2)) :
 let Z:=ar (prQ fs)*y1/y2
 ax [u,0,b]=[-(rt Z (ar (prQ fs))),rb Z (ar (prQ fs))]/\x1*rb Z (ar (prQ fs))<rt Z (ar (prQ fs))*x2/\hv (rt Z (ar (prQ fs))) (rb Z (ar (prQ fs))) (prQ fs)=0:=by
 have hb:=(uh (h.fam.fac _ h.mem)).1;obtain⟨g,A0,A1,hg,eS,e0,e1,hA,hgcd⟩:=Co (u:=u) hb;obtain⟨r,hr,eL⟩:=Hd h.fam h.mem;rw[eS]at eL;have eL':ar (prQ fs)=A1*r:=eL;have lo':=side_line.mp lo;have hi':u*y2<=b*y1:=Ou.mp λz=>by have:=side_line.mpr z;omega
 have Lp:0<ar (prQ fs):=h.fam.pln.pos
 have k1 : -A0*y2<=A1*y1:=by
  refine Int.le_of_mul_le_mul_left (a:=g) ?_ hg
  have q1:g*(-A0*y2)=u*y2:=by
   have:u=g * -A0:=by grind
   rw[this];grind
  have q2:g*(A1*y1)=b*y1:=by rw[e1];grind
  omega
 have k2:A1*x1 < -A0*x2:=by
  refine Pi (a:=g) ?_ (M7 hg)
  have q1:g*(-A0*x2)=u*x2:=by
   have:u=g * -A0:=by grind
   rw[this];grind
  have q2:g*(A1*x1)=b*x1:=by rw[e1];grind
  omega
 have eZ:ar (prQ fs)*y1/y2 = -A0*r:=by
  refine Kf y2p ?_ ?_
  ·rw[eL'];have:=Oz k1 (M7 hr);have q1:r*(-A0*y2) = -A0*r*y2:=by grind
   have q2:r*(A1*y1)=A1*r*y1:=by grind
   omega
  ·have w0:0<=(y1*x2-x1*y2)*ar (prQ fs):=NH (by omega) (M7 Lp);have w1:(y1*x2-x1*y2)*(8*ar (prQ fs)*B)=(y1*x2-x1*y2)*ar (prQ fs)*(8*B):=by grind
   have w2:=Oz (show 1<=8*B by omega) w0;have w3:(y1*x2-x1*y2)*ar (prQ fs)<=x2*y2:=by omega
   rw[eL']at w3 ⊢;have w4:=Pl k2 (M8 hr y2p);refine Oq (a:=x2) ?_ (M7 x2p);have q1:A1*r*y1*x2=(y1*x2-x1*y2)*(A1*r)+r*y2*(A1*x1):=by grind
   have q2:(-A0*r+1)*y2*x2=r*y2*(-A0*x2)+x2*y2:=by grind
   rw[q1,q2];omega
 intro Z;have hZ:Z = -A0*r:=eZ
 clear_value Z
 subst hZ;have L0:ar (prQ fs)≠0:=by omega
 have hc:=eU (t := -A0*r) L0;have hgr:=kj (t := -A0*r) L0;have hpr:=dI (t := -A0*r) L0
 obtain⟨m1,m2⟩:=DA (a:=rt (-A0*r) (ar (prQ fs))) (b:=rb (-A0*r) (ar (prQ fs))) (c := -A0) (d:=A1) hpr hA hgr (by rw[Int.natAbs_neg];exact hgcd) (by
  refine Oy (a:=r) (by omega) ?_
  rw[NG,<- eL',hc];grind)
 rw[m1,m2];refine⟨by rw[eS,Int.neg_neg],by rw[Ni];exact k2,?_⟩;have hs:=h.fam.sign (t := -A0) (n:=A1) hA
 have hz:spr (-A0) A1 (aD fs)=0:=by
  have hm:[u,0,b,1]∈aD fs:=Os.mpr ⟨_,h.mem,h.sp⟩
  have hside:aq [u,0,b,1] (-A0) A1=0:=by
   unfold aq;rw[if_pos (show(0:Int)<cf [u,0,b,1] 3 from(by decide:(0:Int)<1))];show bX (0*A1*A1) (b * -A0-u*A1)=0
   have:b * -A0-u*A1=0:=by
    have q:u=g * -A0:=by grind
    rw[e1,q];grind
   rw[this,NB,NB];rfl
  have z0:∀ls:List (List Int),[u,0,b,1]∈ls->spr (-A0) A1 ls=0:=λls=>by
   induction ls with
   |nil=>intro h;cases h
   |cons l ls ih =>
    intro h;show -aq l (-A0) A1*spr (-A0) A1 ls=0;rcases Na.mp h with w |w
    ·rw[<- w,hside];omega
    ·rw[ih w,Nx]
  exact z0 _ hm
 rw[hz]at hs;exact(q5 _).mp hs
variable {fs:List (List Int)}{f0 s0:List Int}{l1 l2 h1 h2:Int}
theorem B9{u e b σ:Int}{f:List Int}(hf:dX f)(h:[u,e,b,σ]∈spF f):f=[u,e,b]:=by obtain⟨u',e',b',rfl,_⟩:=hf;obtain⟨σ',eq,_⟩:=qt h;cases eq;rfl
theorem B8{u e b:Int}(he:0<e):spF [u,e,b]=[[u,e,b,1],[u,e,b,-1]]:=by show(if 0<=e then[[u,e,b,1]]else[])++(if 0<e then[[u,e,b,-1]]else[])=_;rw[if_pos (by omega),if_pos he];rfl
theorem fD{u b:Int}:spF [u,0,b]=[[u,0,b,1]]:=by show(if(0:Int)<=0 then[[u,0,b,1]]else[])++(if(0:Int)<0 then[[u,0,b,-1]]else[])=_;rw[if_pos (by decide),if_neg (by decide)];rfl
theorem xh(f:List Int):aD [f]=spF f:=by show spF f++[]=_;rw[OG]
theorem OneS.cnt(h:OneS fs f0 s0 l1 l2 h1 h2):bE (aD [f0]) l1 l2 h1 h2=1:=by
 obtain⟨u,e,b,σ,rfl,rfl,hb,hN,hc⟩:=h.cases;rw[xh];have hin:=h.inn
 have other:∀τ:Int,[u,e,b,τ]∈spF [u,e,b]->τ≠σ->¬(0<aq [u,e,b,τ] l1 l2/\aq [u,e,b,τ] h1 h2<=0):=λτ hτ hne z=>by
  have:=h.only _ (Os.mpr ⟨_,h.mem,hτ⟩) z.1 z.2;simp at this
  exact hne this
 have c0:bE [] l1 l2 h1 h2=0:=rfl;rcases hc with⟨rfl,rfl⟩ |⟨hσ,he⟩
 ·rw[fD,dj,if_pos hin,c0];rfl
 ·rw[B8 he]at other ⊢;rcases hσ with rfl |rfl
  ·rw[dj,dj,if_pos hin,if_neg (other (-1) (by simp) (by decide)),c0];rfl
  ·rw[dj,dj,if_neg (other 1 (by simp) (by decide)),if_pos hin,c0];rfl
theorem Bh(hF:Fam fs)(hm:f0∈fs)(hl:(prQ fs).length<=(ax f0).length):prQ fs=ax f0:=by
 obtain⟨pre,post,e⟩:=Pd (List.mem_map_of_mem (f:=ax) hm);have hp:=hF.pri;rw[hF.prd]at hl ⊢;rw[e]at hp hl ⊢;have hq:Pln (RM.prd (pre++post)):=kq _ λs hs=>(hp s (by simp at hs ⊢;rcases hs with z |z<;>simp[z])).pln
 have hs:Pln (ax f0):=(hp _ (by simp)).pln;rw[rC]at hl ⊢;have hlen:=bR hs.ne hq.ne;have:=M5.mpr hs.ne;have:=M5.mpr hq.ne;rw[hq.const (by omega),cz]
theorem OneS.low(h:OneS fs f0 s0 l1 l2 h1 h2):sg (hv l1 l2 (ax f0))≠0:=by
 have hG:=h.fam.single h.mem;rw[<- lU hG,hG.sign h.l2p,xh];obtain⟨u,e,b,σ,rfl,rfl,hb,hN,hc⟩:=h.cases;intro z;obtain⟨s,hs,hz⟩:=qr z;have hin:=h.inn.1;rcases hc with⟨rfl,rfl⟩ |⟨hσ,he⟩
 ·rw[fD]at hs;rw[Nb.mp hs]at hz;omega
 ·obtain⟨τ,rfl,_⟩:=qt hs;exact xA hN he h.l2p hz
end RM
theorem PyProof.Rows.boot_ValueError:PySem.bootBuiltins "ValueError"=some (.type "ValueError"):=by decide +kernel
namespace L2
open PySem PySem.Spec PyProof.Rows
section
variable {X:Cx}{CX:CXT}{k:Nat}{f C R:Addr}{fd:FuncData}{ps:List Str}{sp:Sp}{dvs:List V}{ds:List Value}{m r n x:Str}{p pos apos cpos epos np hpos:Pos}{e o ex:Expr}{es:List Expr}{ta:TE}{t:TA}{i:Nat}{b₀:Stmt}{suite:List Stmt}{th:Addr->Obj->TS}{tx:XK->TE}
noncomputable def lK(K:PySem.W.Frag)(ea:Addr)(oe:Obj):List V->Hp->VK->Prop:=λxs H Q=>∃(D:Addr) (c:Value) (y:V) (k:Bool),xs=[.ref ea,y]/\RelV y c/\(∀u,RelV y u->u=c)/\oe.cls=.ref D/\ECls K D/\PySem.W.kitOne K (.ref D) c=some k/\Q (.bl k) H
theorem uY{X:Cx}{ea:Addr}{oe:Obj}:CallR (cxH X ea oe) (.builtin "isinstance") (lK X.K ea oe):=by intro pins s σ H xs us Q I r h;obtain⟨D,c,y,k,rfl,_,hy,hc,T,e,q⟩:=h;obtain⟨u1,u2,rfl,r1,r2⟩:=r.two;obtain rfl:u1=Value.ref ea:=r1;obtain rfl:=hy u2 r2;exact PySem.W.kia_one (Hg hc T.cl T.ga T.gn T.mB T.ha T.hn T.ht T.hm) I.kIn (mO I) e (λz=>nomatch z) λtk=>⟨.bl k,H,I.tok tk,rfl,q⟩
theorem zi{K:PySem.W.Frag}{ea D C:Addr}{oe:Obj}{H:Hp}{Q:VK}{k:Bool}(hc:oe.cls=.ref D)(T:ECls K D)(e:PySem.W.kitOne K (.ref D) (.ref C)=some k)(q:Q (.bl k) H):lK K ea oe [.ref ea,.ref C] H Q:=⟨D,.ref C,.ref C,k,rfl,rfl,λ_ z=>z,hc,T,e,q⟩
theorem HZ{K:PySem.W.Frag}{ea D:Addr}{n:String}{oe:Obj}{H:Hp}{Q:VK}{k:Bool}(hc:oe.cls=.ref D)(T:ECls K D)(e:PySem.W.kitOne K (.ref D) (.type n)=some k)(q:Q (.bl k) H):lK K ea oe [.ref ea,.ty n] H Q:=⟨D,.type n,.ty n,k,rfl,rfl,λ_ z=>z,hc,T,e,q⟩
theorem rg{K:PySem.W.Frag}{ea:Addr}{oe:Obj}{σ:St}{H:Hp}{Q:VK}{te:TE}{y:V}(h:te σ H λx H1=>lK K ea oe [x,y] H1 Q):tCB (lK K ea oe) (iR te (iR (tC y) lc)) σ H Q:=h
end
section
variable {X:Cx}{R R2:Addr}{r r2 n n2:Str}{pos epos np hpos np2 hpos2:Pos}{ex:Expr}{i i2:Nat}{b₀ b₂:Stmt}{suite suite2:List Stmt}{th th2:Addr->Obj->TS}{tx:XK->TE}
end
def KD(h h':Heap):Prop:=∀b o,h.get? b=some o->∃o',h'.get? b=some o'/\o'.dict=o.dict
theorem KD.refl(h:Heap):KD h h:=λ_ o e=>⟨o,e,rfl⟩
theorem KD.trans{a b c:Heap}(x:KD a b)(y:KD b c):KD a c:=λp o e=>by obtain⟨o1,e1,d1⟩:=x p o e;obtain⟨o2,e2,d2⟩:=y p o1 e1;exact⟨o2,e2,d2.trans d1⟩
theorem KD.push(h:Heap)(o:Obj):KD h (h.push o):=λb u e=>⟨u,Heap.get?_push_of_some _ e,rfl⟩
def vA(f:Obj->Obj):Prop:=∀o:Obj,o.isFreed=false->(f o).isFreed=false/\(f o).dict=o.dict
theorem KD.upd(h:Heap)(a:Addr){f:Obj->Obj}(hf:vA f):KD h (h.update a f):=λb u e=>by
 by_cases z:a=b
 ·subst z;obtain⟨h1,h2⟩:=hf u (Heap.get?_some_iff.mp e).2;exact⟨f u,Heap.get?_update_self f e h1,h2⟩
 ·exact⟨u,(Heap.get?_update_other h f z).trans e,rfl⟩
inductive Mild{α:Type}:Sem α->Prop
 |pure (a:α):Mild (.pure a)
 |unsupported (x:String):Mild (.unsupported x)
 |rule {t:String} {k:Unit->Sem α}:(∀u,Mild (k u))->Mild (.rule t k)
 |at{p:Pos} {k:Unit->Sem α}:(∀u,Mild (k u))->Mild (.at p k)
 |load {a:Addr} {p:Option Value} {k:Obj->Sem α}:(∀o,Mild (k o))->Mild (.load a p k)
 |update {a:Addr} {p:Option Value} {f:Obj->Obj} {k:Unit->Sem α}:vA f->(∀u,Mild (k u))->Mild (.update a p f k)
 |alloc {o:Obj} {k:Addr->Sem α}:(∀a,Mild (k a))->Mild (.alloc o k)
 |stack {k:List (Code×Pos)->Sem α}:(∀l,Mild (k l))->Mild (.stack k)
theorem bY{α β:Type}{t:Sem α}{f:α->Sem β}(ht:Mild t)(hf:∀a,Mild (f a)):Mild (t >>= f):=by
 show Mild (t.bind f)
 induction ht with
 |pure a=>exact hf a
 |unsupported x=>exact .unsupported x
 |rule _ ih=>exact .rule ih
 | «at» _ ih=>exact .at ih
 |load _ ih=>exact .load ih
 |update s _ ih=>exact .update s ih
 |alloc _ ih=>exact .alloc ih
 |stack _ ih=>exact .stack ih
theorem ee{α:Type}(a:α):Mild (pure a:Sem α):=.pure a
theorem Bf{α:Type}(M:Model)(Γ:PySem.Ctx){h0:Heap}{t:Sem α}(m:Mild t){Q:α->Pos->Shared->Prop}{E E':Value->Pos->Shared->Prop}:∀{p:Pos} {s:Shared},KD h0 s.heap->Sem.wp M Γ t Q E p s->Sem.wp M Γ t (λa p' s'=>Q a p' s'/\KD h0 s'.heap) E' p s:=by
 induction m with
 |pure a=>intro p s hk h;rw[Sem.wp]at h ⊢;exact⟨h,hk⟩
 |unsupported x=>intro p s hk h;rw[Sem.wp]at h;exact h.elim
 |rule _ ih=>intro p s hk h;rw[Sem.wp]at h ⊢;exact ih () hk h
 | «at» _ ih=>intro p s hk h;rw[Sem.wp]at h ⊢;exact ih () hk h
 |load _ ih =>intro p s hk h;rw[Sem.wp]at h ⊢;obtain⟨o,e,h⟩:=h;exact⟨o,e,ih o hk h⟩
 |update sf _ ih =>intro p s hk h;rw[Sem.wp]at h ⊢;exact⟨h.1,ih () (hk.trans (KD.upd s.heap _ sf)) h.2⟩
 |alloc _ ih =>intro p s hk h;rw[Sem.wp]at h ⊢;exact ih _ (hk.trans (KD.push s.heap _)) h
 |stack _ ih=>intro p s hk h;rw[Sem.wp]at h ⊢;exact ih _ hk h
theorem iL{α:Type}{M:Model}{A:Around}{t:Sem α}{Q:α->Shared->Prop}{E E':Value->Shared->Prop}{s:Shared}(m:Mild t)(h:wpAny M A t Q E s):wpAny M A t (λa s'=>Q a s'/\KD s.heap s'.heap) E' s:=λΓ p hΓ =>Bf M Γ m (KD.refl _) (h Γ p hΓ)
theorem Ca(f:Array Value->Array Value):vA (Obj.mapFields f):=λo h=>by
 unfold Obj.mapFields;split
 ·exact⟨rfl,rfl⟩
 ·exact⟨h,rfl⟩
theorem si(a:Addr):Mild (load a):=.load λ_=>.pure _
theorem Gm(v:Value):Mild (fieldsOf v):=by
 unfold fieldsOf;split
 ·refine bY (si _) λo=>?_
  split<;>constructor
 ·constructor
theorem pF(v:Value)(i:Nat):Mild (field v i):=by
 unfold field;refine bY (Gm v) λvs=>?_
 split<;>constructor
theorem se(v:Value)(i:Nat)(x:Value):Mild (setField v i x):=by
 unfold setField;split
 ·unfold updateField;refine bY (si _) λo=>?_
  split
  ·split
   ·exact .update (Ca _) λ_=>ee _
   ·constructor
  ·constructor
 ·constructor
theorem pE(e:Value)(fr:Option Addr):Mild (setFlight e fr):=by
 unfold setFlight;refine bY (pF e 1) λtb=>?_
 split
 ·exact se _ _ _
 ·constructor
theorem sd:Mild (stack:Sem (List (Code×Pos))):=.stack λ_=>.pure _
theorem yV:∀l:List Env,Mild (readyFrames l)
 | []=>ee _
 |env::outer=>by
  unfold readyFrames;split
  ·refine bY (si _) λo=>?_
   split
   ·constructor
   ·refine bY ?_ λim=>bY ?_ λbk=>bY ?_ λ_=>yV outer
    ·unfold behindIsImport;split
     ·constructor
     ·split
      ·constructor
      ·exact bY (pF _ _) λ_=>ee _
    ·unfold keptBack;split
     ·split
      ·constructor
      ·refine bY ?_ λb=>ee _
       unfold underTheClaimsCaller;exact bY sd λ_=>ee _
     ·constructor
    ·exact .update (λo h=>⟨by obtain⟨a,b,c,d⟩:=o;cases c<;>first |rfl |exact h,rfl⟩) λ_=>ee _
  ·constructor
theorem Gk(env:Env):Mild (PySem.frameOf env):=by
 unfold PySem.frameOf frameEnvs;refine bY ?_ λl=>bY ?_ λo=>?_
 ·exact bY sd λ_=>ee _
 ·generalize l.dropWhile _=l';unfold frameObject;split
  ·constructor
  ·exact bY (yV _) λ_=>ee _
 ·split<;>constructor
theorem Gn(f:Addr)(b:Bool):Mild (entryPlaceOf f b):=by
 unfold entryPlaceOf;refine bY sd λl=>?_
 split<;>constructor
theorem Gi(ty:String)(vs:List Value):Mild (newFields ty vs):=by
 have as':∀dt:Data,Mild (newObjAsIs (.type ty) dt none):=λdt=>by
  unfold newObjAsIs;refine bY (.alloc λ_=>.pure _) λa=>?_
  exact ee _
 unfold newFields newObj;dsimp only
 split
 ·exact bY (.unsupported _) λ_=>as' _
 ·exact as' _
theorem Gj(a b c d e:Value)(pl:List Value):Mild (EntryCells.newEntry a b c d e pl):=Gi _ _
theorem yU(e hd:Value)(env:Env)(f:Addr):Mild (do setField e 1 (<- EntryCells.newEntry hd (<- PySem.frameOf env) .none (rawInt f) .none (<- entryPlaceOf f (hd != .none))):Sem Unit) :=
 bY (Gk env) λfr=>bY (Gn _ _) λpl=>bY (Gj _ _ _ _ _ _) λne=>se _ _ _
theorem yW(e:Value)(env:Env):Mild (noteFrame e env):=by
 unfold noteFrame;split
 ·refine bY (pF _ _) λhd=>?_
  dsimp only
  split
  ·refine bY (pF _ _) λx=>?_
   split
   ·exact ee _
   ·exact bY (se _ _ _) λ_=>yU _ _ _ _
  ·exact yU _ _ _ _
 ·constructor
theorem yX(env:Env)(e:Value):Mild (leaving env e):=bY (yW e env) λ_=>pE e none
open PySem PySem.Spec PyProof.Rows PySem.W PySem.Calls PySem.Builtin PySem.Builtin.ObjectAttr
noncomputable def iM:List Value:=[.type "ValueError",.type "Exception",.type "BaseException",.type "object"]
noncomputable def gK:List Value->Bool
 |.ref _::r=>r == iM ||gK r
 |_=>false
theorem wt(self:Value):∀{l:List Value},gK l=true->refuseLoop self "__setattr__" l=pure ()
 |.ref c::r,e=>by
  rw[refuseLoop_ref];rcases Bool.or_eq_true_iff.mp (show(r == iM ||gK r)=true from e)with q |q
  ·rw[beq_iff_eq.mp q];exact PySem.F.store_ValueError.passes self
  ·exact wt self q
theorem wu:∀{l:List Value},gK l=true->l.contains (.type "object")=true
 |.ref c::r,e=>by
  rcases Bool.or_eq_true_iff.mp (show(r == iM ||gK r)=true from e)with q |q
  ·rw[beq_iff_eq.mp q];rfl
  ·rw[List.contains_cons,wu q,Bool.or_true]
structure XCls(K:Frag)(C:Addr):Prop where
 ve:∃cd,clsIn K C=some cd/\gK cd.mro=true/\cd.hasDict=true
 sa:findIn K (.ref C) "__setattr__"=some (some (.builtin "object.__setattr__"))
noncomputable def nY(K:Frag)(C:Addr):Bool:=(match clsIn K C with |some cd=>gK cd.mro&&cd.hasDict |none=>false)&&findIn K (.ref C) "__setattr__" == some (some (.builtin "object.__setattr__"))
theorem XCls.of{K:Frag}{C:Addr}(h:nY K C=true):XCls K C:=by
 unfold nY at h
 obtain⟨h1,h2⟩:=Bool.and_eq_true_iff.mp h;refine⟨?_,beq_iff_eq.mp h2⟩;cases e:clsIn K C with
 |none=>rw[e]at h1;cases h1
 |some cd=>rw[e]at h1;obtain⟨a,b⟩:=Bool.and_eq_true_iff.mp h1;exact⟨cd,rfl,a,b⟩
section
variable {prog:Program}{w:World}{A:Around}{E:Value->Shared->Prop}{s:Shared}{K:Frag}{x C:Addr}
theorem A9{ox:Obj}{vs:Array Value}{name:Str}{v:Value}{Q:Unit->Shared->Prop}(X:K.In s.heap)(T:XCls K C)(hx:s.heap.get? x=some ox)(hc:ox.cls=.ref C)(hd:ox.dict=none)(hf:ox.data=.fields vs)(hn:findIn K (.ref C) name=some none)
 (h:∀h' tk,h'.get? x=some { ox with dict:=some s.heap.objs.size }->h'.Ns1 s.heap.objs.size (λy=>if y=name then some v else none)->(∀b o,b≠x->s.heap.get? b=some o->h'.get? b=some o)->Q () { s with heap:=h',toks:=tk }) :
 wpAny (model prog w) A (setAttr (.ref x) name v) Q E s:=by
 obtain⟨hh,g,d,t,os⟩:=s;obtain⟨cd,hcd,hve,hdict⟩:=T.ve;have I:PySem.W.InstAt hh x ox C none:=⟨hx,hc,by unfold notCls;rw[hf],by rw[hd];trivial⟩;refine set_plain X I T.sa ?_;show codeAny _ _ (.call (.builtin "object.__setattr__") ⟨[.ref x,.str name t,v],[]⟩) _ ⟨hh,g,d,t+1,os⟩;have SF:=PySem.F.store_object
 have ne:cd.mro.isEmpty=false:=by
  cases q:cd.mro with
  |nil=>rw[q]at hve;cases hve
  |cons _ _=>rfl
 have sub:Looks (model prog w) hh (isInstance (.ref x) (.type "object")) true:=I.type.andThen (looks_mroIn X (by unfold mroIn;rw[hcd,Option.bind_some,if_neg (by rw[ne];decide),wu hve]));refine codeAny_call_builtin SF.slot.plain SF.entry (@check_slot (model prog w) _ _ _ "object.__setattr__" "object" "__setattr__" (.ref x) [.str name t,v] [] _ SF.kind SF.split sub (SF.args (.ref x) (.str name t) v) ?_);have hm:Looks (model prog w) hh (mroOf (.ref C)) cd.mro:=(looks_clsIn X hcd).andThen .now;rw[osa_eq,refuse_eq];refine wpAny_bind (wpAny_bind (I.type.here (wpAny_bind (hm.here ?_))));rw[wt _ hve];refine wpAny_pure (wpAny_bind (I.type.here (wpAny_bind (Looks.here (s:=⟨hh,g,d,t+1,os⟩) (looks_findIn X hn) (wpAny_bind (wpAny_pure ?_))))));show wpAny _ _ (storeInOwnDict (.ref x) (.ref C) (.str name t) name v false) _ _ _;unfold storeInOwnDict;refine wpAny_bind (wpAny_pure ?_);show wpAny _ _ (ownDictForStores (.ref x) >>= _) _ _ _;have hxs:x≠hh.objs.size:=Ng (Heap.lt_size hx);have hx1:(hh.push { cls:=.type "dict",data:=.dict #[] }).get? x=some ox:=Heap.get?_push_of_some _ hx;show wpAny _ _ (instanceDict x true >>= _) _ _ _;unfold instanceDict;refine wpAny_bind (wpAny_bind (wpAny_loadPart hx ?_));rw[hc,hd,hf];refine wpAny_bind (Looks.here (s:=⟨hh,g,d,t+1,os⟩) (looks_clsIn X hcd) ?_);rw[hdict];have td:typeHasDict (.ref C)=true:=by rfl
 rw[if_neg (by decide),td];dsimp only
 rw[if_neg (by decide)];refine wpAny_bind (wpAny_alloc' (wpAny_bind (wpAny_update' hx1 (wpAny_pure ?_))));have hgd:((hh.push { cls:=.type "dict",data:=.dict #[] }).update x λo=>{ o with dict:=some hh.objs.size }).get? hh.objs.size=some { cls:=.type "dict",data:=.dict #[] }:=(Heap.get?_update_other _ _ hxs).trans (Heap.get?_push_size _ rfl);have hnd:((hh.push { cls:=.type "dict",data:=.dict #[] }).update x λo=>{ o with dict:=some hh.objs.size }).Ns hh.objs.size (λ_=>none):=⟨_,#[],_,hgd,rfl,λe he=>absurd he (by simp),λ_=>rfl⟩;show wpAny _ _ (storeInDict hh.objs.size (.str name t) name v) _ _ _;unfold storeInDict newKeyGuard;refine wpAny_bind (wpAny_pure (wpAny_bind (wpAny_nsSet1 (Heap.Ns1.of_empty hnd) λh' hn' hs=>?_)));obtain⟨oD,esD,epD,hoD,hdD,hcD⟩:=hn'.count (Within.cons name v Within.nil);have hlen:esD.size<=sizeLine:=Nd hcD (by rw[Nq,OY,sizeLine_eq];omega);refine wpAny_bind (wpAny_lookBehind hoD (by rw[hdD];exact pastItsLine_dict (Nat.le_succ_of_le hlen)) (wpAny_pure ?_));refine h h' _ ?_ hn' λb o hb e=>?_
 ·refine(hs.2 x hxs).trans (Heap.get?_update_self _ hx1 ?_);have fr:=(Heap.get?_some_iff.mp hx).2;obtain⟨oc,od,odt,osl⟩:=ox;cases odt<;>first |rfl |exact fr
 ·exact(hs.2 b (Ng (Heap.lt_size e))).trans ((Heap.get?_update_other _ _ (Ne.symm hb)).trans (Heap.get?_push_of_some _ e))
theorem Ba{ox:Obj}{dx:Addr}{vs:Array Value}{mA:Str->Option Value}{name:Str}{v:Value}{expr:Bool}{Q:Value->Shared->Prop}(X:K.In s.heap)(T:XCls K C)(Te:ECls K C)(hx:s.heap.get? x=some ox)(hc:ox.cls=.ref C)(hd:ox.dict=some dx)(hf:ox.data=.fields vs)(hn:findIn K (.ref C) name=some none)(hns:s.heap.Ns1 dx mA)(hv:mA name=some v)(hh:handedIn v=true)
 (h:Q v { s with toks:=s.toks+1 }):wpAny (model prog w) A (getAttr (.ref x) name expr) Q E s:=by
 obtain⟨hp,g,d,t,os⟩:=s;obtain⟨cd,hcd,hve,hdict⟩:=T.ve;obtain⟨od,hod,hlk⟩:=y7 hns;have I:PySem.W.InstAt hp x ox C (some od):=⟨hx,hc,by unfold notCls;rw[hf],by rw[hd];exact hod⟩;have LT:=I.type (M:=model prog w);have L1:=looks_findIn (M:=model prog w) X Te.ga;have L2:=looks_findIn (M:=model prog w) X Te.gn
 have ff:findObj K C (some od) name=some (.value v):=by unfold findObj;rw[hcd,hn,Option.bind_some,Option.bind_some];show(PySem.W.ownOf cd (some od) name).bind _=_;unfold PySem.W.ownOf;rw[if_pos hdict];show(lookIn name od).bind _=_;rw[hlk,hv];rfl
 have LF:=looks_find (M:=model prog w) X I ff;have f3:=F.excAttr_ValueError.ga.bind (.ref x);have hx2:(Value.builtin "BaseException.__getattribute__" == Value.builtin "object.__getattribute__")=false:=by decide +kernel
 have hx1:(onTheHeap (Value.ref C)&&Value.builtin "BaseException.__getattribute__" == Value.builtin "object.__getattribute__")=false:=by rw[hx2];rfl
 have ho:=handedOut_of hh;unfold getAttr getAttrBy;refine wpAny_bind (wpAny_mkText (wpAny_holding (wpAny_bind (LT.at (wpAny_bind (L1.at ?_))))));dsimp only
 rw[if_neg (by rw[hx1];exact NZ)];unfold getAttrByItsOwn
 repeat (any_goals (first |assumption | (with_reducible refine wpAny_bind (L2.at ?_)) | (with_reducible refine L2.at ?_) |wp_step))
 have hb:(expr&&onTheHeap (Value.builtin "BaseException.__getattribute__"))=false:=by cases expr<;>rfl
 rw[if_neg (by rw[hb];exact NZ)]
 repeat (any_goals (first |assumption |wp_step))
 refine codeAny_call_builtin F.excAttr_ValueError.ga.plain F.entry_bexc_ga (zP X LT Te.mB ?_)
 repeat (any_goals (first |assumption | (with_reducible refine wpAny_bind (LT.at ?_)) | (with_reducible refine LT.at ?_) | (with_reducible refine wpAny_bind (LF.at ?_)) | (with_reducible refine LF.at ?_) |wp_step))
end
section
variable {prog:Program}{w:World}{A:Around}{E:Value->Shared->Prop}{h:Heap}{g:Array GenState}{d:Drawn}{t:Nat}{os:OsState}
variable {nm q:Str}{C N fI:Addr}{bs bm bmB:List Value}{hdct:Bool}{sn:List Str}{sub:List Value}{ab:Bool}{col:Option Bool}{dd:Option Addr}{k0 k1 k2 k3 k5:Option Value}{B newId initId:String}{mN:Str->Option Value}{oI:Obj}{rest:List Value}
noncomputable def cy(C t:Addr):Obj:={ cls:=.ref C,data:=.fields #[.ref t,.none,.none,.none,.bool false,.none] }
theorem A6(F:ExcBaseFacts B newId initId bmB)(T:OwnTail h bmB bm){Q:Fin->Shared->Prop}(hC:h.get? C=some (excClassObj nm q C N bs bm hdct sn sub ab col dd k0 k1 k2 k3 k5 newId))(hn:h.Ns N mN)(hi:mN "__init__"=some (.ref fI))(hfI:h.get? fI=some oI)(hfc:oI.cls=.type "function")(hrest:rest.length<=sizeLine)
 (hq:wpAny (model prog w) A (call (.ref fI) (.ref (h.objs.size+1)::rest)) (λr s'=>r=.none/\Q (.done (.ret (.ref (h.objs.size+1)))) s') E ⟨(h.push { cls:=.type "tuple",data:=.seq rest.toArray }).push (cy C h.objs.size),g,d,t,os⟩) :
 wpAny (model prog w) A (Builtin.«type.__call__» ⟨.ref C::rest,[]⟩) Q E ⟨h,g,d,t,os⟩:=by
 have kk:∀b o,h.get? b=some o->((h.push { cls:=.type "tuple",data:=.seq rest.toArray }).push (cy C h.objs.size)).get? b=some o:=λb o e=>Heap.get?_push_of_some _ (Heap.get?_push_of_some _ e)
 have g0:((h.push { cls:=.type "tuple",data:=.seq rest.toArray }).push (cy C h.objs.size)).get? (h.objs.size+1)=some (cy C h.objs.size):=by
  have:=Heap.get?_push_size (h.push { cls:=.type "tuple",data:=.seq rest.toArray }) (o:=cy C h.objs.size) rfl
  rwa [Heap.size_push]at this
 have cC:(Value.ref C::bm).contains (.ref C)=true:=by simp
 repeat (first |with_reducible refine wpAny_loadPart_at hC ?_ |with_reducible refine wpAny_madeBy_exc hC ?_ |wp_step)
 refine codeAny_call_builtin_code (Code.quiet_builtin _ F.quiet) (wpAny_check_new_subT F T hC (codeAny_exc_new_subT F T hC ?_ hrest));have hC':=kk _ _ hC;have hn':=hn.keeps kk;have T':=T.keeps kk;have hf':=kk _ _ hfI;show wpAny _ _ _ _ _ ⟨(h.push { cls:=.type "tuple",data:=.seq rest.toArray }).push (cy C h.objs.size),g,d,t,os⟩;generalize (h.push { cls:=.type "tuple",data:=.seq rest.toArray }).push (cy C h.objs.size)=h2 at *
 unfold cy at g0
 unfold isInstance
 repeat (first |with_reducible refine wpAny_loadPart_at g0 ?_ | (with_reducible refine wpAny_isSubtype_exc hC' ?_;rw[cC]) |wp_step)
 show wpAny _ _ (typeLookup (.ref C) _) _ _ _;refine wpAny_typeLookup_tail hC' hn' T' F.mroIs F.init.lookup ?_;rw[hi];refine wpAny_holding (wpAny_bind ?_);unfold bindSpecial;refine wpAny_bind (wpAny_typeOf (T:="function") ⟨_,hf',hfc⟩ ?_);rw[if_pos (by decide)];refine wpAny_pure (wpAny_bind (wpAny_mono hq (λr s' hr=>?_) λ_ _ z=>z));obtain⟨rfl,z⟩:=hr
 wp_walk
 exact z
theorem Be(F:ExcBaseFacts B newId initId bmB)(T:OwnTail h bmB bm){Q:Value->Shared->Prop}(hC:h.get? C=some (excClassObj nm q C N bs bm hdct sn sub ab col dd k0 k1 k2 k3 k5 newId))(hn:h.Ns N mN)(hi:mN "__init__"=some (.ref fI))(hfI:h.get? fI=some oI)(hfc:oI.cls=.type "function")(hrest:rest.length<=sizeLine)
 (hq:wpAny (model prog w) (A.under (.builtin "type.__call__" ⟨.ref C::rest,[]⟩)) (call (.ref fI) (.ref (h.objs.size+1)::rest)) (λr s'=>r=.none/\Q (.ref (h.objs.size+1)) s') E ⟨(h.push { cls:=.type "tuple",data:=.seq rest.toArray }).push (cy C h.objs.size),g,d,t,os⟩) :
 wpAny (model prog w) A (call (.ref C) rest) Q E ⟨h,g,d,t,os⟩:=by
 have a1:=tc_lookup;have a2:=tc_bind (.ref C);have hT:(⟨h,g,d,t,os⟩:Shared).TypeIs (.ref C) "type":=⟨_,hC,rfl⟩;refine wpAny_call (codeAny_of_tree ?_);show wpAny _ _ (callAny (.ref C) _) _ _ _
 repeat (any_goals (first |assumption |with_reducible refine wpAny_loadPart_at hC ?_ |wp_step))
 refine⟨rfl,codeAny_call_builtin_at (Code.quiet_builtin _ (by decide +kernel)) entry_typeCall (wpAny_check_type_call_sub hC (A6 F T hC hn hi hfI hfc hrest ?_))⟩;exact hq
end
section
variable {M:Model}{A:Around}{E:Value->Shared->Prop}{s:Shared}{env:Env}
variable {nm q:Str}{C N:Addr}{bs bm:List Value}{hdct:Bool}{sn:List Str}{sub:List Value}{ab:Bool}{col:Option Bool}{dd:Option Addr}{k0 k1 k2 k3 k5:Option Value}{newId:String}
theorem DN{x:Sem Value}{Q:Flow->Shared->Prop}(hbase:bm.contains (.type "BaseException")=true)(hh:A.handled=none)
 (hx:wpAny M A x (λv s1=>∃e t d,v=.ref e/\s1.heap.get? C=some (excClassObj nm q C N bs bm hdct sn sub ab col dd k0 k1 k2 k3 k5 newId)/\s1.heap.get? e=some { cy C t with dict:=d }/\E (.ref e) s1) E s) :
 wpAny M A (raiseStmt env (some x) none) Q E s:=by
 have cB:(Value.ref C::bm).contains (.type "BaseException")=true:=by rw[List.contains_cons,hbase,Bool.or_true]
 unfold raiseStmt;refine wpAny_bind (wpAny_mono hx (λv s1 h1=>?_) λ_ _ z=>z);obtain⟨e,t,d,rfl,hC,he,hE⟩:=h1;obtain⟨hp,g,d',tk,os⟩:=s1;unfold cy at he
 repeat (first |with_reducible refine wpAny_loadPart_at he ?_ |with_reducible refine wpAny_loadPart_at hC ?_ | (with_reducible refine wpAny_isSubtype_exc hC ?_;rw[cB]) |wp_step)
 exact wpAny_raiseNew_none hh hE
end
noncomputable def CXV(P:Program)(w:World):CXT:=λouter H s E e s'=>∃d:Option Addr,CXW P w outer H s (λc _ H'=>E c d H') e s'/\∃ea ob,e=.ref ea/\s'.heap.get? ea=some ob/\ob.dict=d
noncomputable def EX(C a:Addr)(d:Option Addr):HO:=.ext λh=>∃t,h.get? a=some { cy C t with dict:=d }
theorem zQ{P:Program}{w:World}{H:Hp}{h:Heap}{C a t:Addr}{d:Option Addr}(e:h.get? a=some { cy C t with dict:=d }):ObjOk P w H h a (EX C a d):=⟨⟨t,e⟩,⟨_,e⟩,λh1 h2 ⟨t',e'⟩ k=>⟨t',k _ e'⟩⟩
section
variable {P:Program}{w:World}{K:PySem.W.Frag}{mg:Str->Option Value}{base:Heap}{N:List Str}{qual:Str}{scope:Scope}{f:Addr}{cd:Value}{A:Around}{outer:List Env}{s:Shared}{H:Hp}{E:XK}{pins:List (Addr×Obj)}{σ:St}{H1:Hp}{s1:Shared}
theorem wm{e C:Addr}{oe:Obj}{vs:Array Value}{a0:Value}(I:Inv (bv (CXV P w) P w K mg base N qual scope f cd A outer s H E) pins σ H1 s1)(he:s1.heap.get? e=some oe)(hc:oe.cls=.ref C)(hd:oe.data=.fields vs)(h0:vs[0]?=some a0)(h1:vs[1]?=some .none)(hn:H1 e=none)(hs:s.heap.get? e=none)(hE:E (.ref C) oe.dict H1) :
 (bv (CXV P w) P w K mg base N qual scope f cd A outer s H E).xe (.ref e) s1:=by
 have hst:=I.stack;have hfree:=I.stkFree;have hfrm:(envOfC qual scope s.heap.objs.size f cd).frame=some s.heap.objs.size:=rfl;have efr:frs (envOfC qual scope s.heap.objs.size f cd::outer)=s.heap.objs.size::frs outer:=zE hfrm;have hin:∀env∈(envOfC qual scope s.heap.objs.size f cd::outer),∀b,env.frame=some b->b∈e::frs (envOfC qual scope s.heap.objs.size f cd::outer):=λenv hv b hb=>M0 _ (List.mem_filterMap.mpr ⟨env,hv,hb⟩)
 have b1:∀b o,s.heap.get? b=some o->b∉frs outer->∃o',s1.heap.get? b=some o'/\(PySem.W.hideAll s1.heap (e::frs (envOfC qual scope s.heap.objs.size f cd::outer))).get? b=some o':=λb o q hb=>by
  obtain⟨o',q'⟩:=I.base.there b o q (λz=>nomatch z);refine⟨o',q',PySem.W.hideAll_get _ q' λz=>?_⟩;rw[efr]at z;rcases Na.mp z with z |z
  ·rw[z,hs]at q;cases q
  ·rcases Na.mp z with z |z
   ·exact absurd (Heap.lt_size q) (by rw[z];exact ND _)
   ·exact hb z
 have b2:∀b x,H1 b=some x->∃o',s1.heap.get? b=some o'/\(PySem.W.hideAll s1.heap (e::frs (envOfC qual scope s.heap.objs.size f cd::outer))).get? b=some o':=λb x q=>by
  obtain⟨o',q'⟩:∃o',s1.heap.get? b=some o':=yv (I.hok b x q);refine⟨o',q',PySem.W.hideAll_get _ q' λz=>?_⟩;rcases Na.mp z with z |z
  ·rw[z,hn]at q;cases q
  ·rw[hfree b z]at q;cases q
 have hB:(PySem.W.hideAll s1.heap (e::frs (envOfC qual scope s.heap.objs.size f cd::outer))).get? e=none:=PySem.W.hideAll_none _ (M6 ..)
 have fd:∀b∈frs outer,∀o,s1.heap.get? b=some o->∀ws,o.data≠.fields ws:=λb hb o q=>by obtain⟨_,o',q',hdd⟩:=I.funs.mem hb;have q'':s1.heap.get? b=some o':=q';rw[q]at q'';cases q'';exact hdd
 refine wpAny_mono (iL (E':=λ_ _=>False) (yX _ _) (wpAny_leaving_firstW (L:=s.heap.objs.size) (a0:=a0) I.ok.frames (PySem.W.funFrames_hide hst hin) hfrm he (λb o q=>PySem.W.of_hideAll _ q) hB hd h1 h0 (Q:=λ_ s''=>∃h'',s''={ s1 with heap:=h'' }/\Heap.FlyingW (PySem.W.hideAll s1.heap (e::frs (envOfC qual scope s.heap.objs.size f cd::outer))) outer e oe.cls a0 h''/\s1.heap.UpToSlots h'') (E:=λ_ _=>False) λh' hL=>?_)) (λ_ s'' hq=>?_) (λ_ _ z=>z.elim)
 ·obtain⟨k1,⟨_,_,k2⟩,k3,k4⟩:=hL;exact⟨h',rfl,⟨k1,hB,k2,k3⟩,k4⟩
 ·obtain⟨⟨h'',rfl,fl,up⟩,kd⟩:=hq;obtain⟨o',eo',od'⟩:=kd e oe he;rw[hc]at fl;refine⟨oe.dict,⟨e,.ref C,a0,_,H1,rfl,I.os,I.bare,?_,I.hok.back b2 fl.1,fl,λb o q hb=>?_,λb x q=>?_,hn,hs,hE⟩,e,o',rfl,eo',od'⟩
  ·exact I.base.back (λb o q hb=>let⟨o',q1,q2⟩:=b1 b o q hb;⟨o',q1,fl.1 _ _ q2⟩) I.ok.frf fd up
  ·obtain⟨o',q1,q2⟩:=b1 b o q hb;exact⟨o',fl.1 _ _ q2,q2⟩
  ·obtain⟨o',q1,q2⟩:=b2 b x q;exact⟨o',fl.1 _ _ q2,q2⟩
theorem Bb{E':XK}{e:Value}{s2:Shared}(I:Inv (bv (CXV P w) P w K mg base N qual scope f cd A outer s H E) pins σ H1 s1)(h:CXV P w (bv (CXV P w) P w K mg base N qual scope f cd A outer s H E).stack H1 s1 E' e s2)(hE:∀c d H',E' c d H'->E c d H') :
 (bv (CXV P w) P w K mg base N qual scope f cd A outer s H E).xe e s2:=by
 obtain⟨d,hW,ea,ob,rfl,eo,ed⟩:=h;have I':Inv (bv (CXW P w) P w K mg base N qual scope f cd A outer s H (λc _ H'=>E c d H')) pins σ H1 s1:=(I.wish (bv (CXW P w) P w K mg base N qual scope f cd A outer s H (λc _ H'=>E c d H')).xe);have x:=Bc (E':=λc _ H'=>E' c d H') I' hW (λc _ H' z=>hE c d H' z);have x':wpAny (model P w) (A.deeper (envOfC qual scope s.heap.objs.size f cd)) (leaving (envOfC qual scope s.heap.objs.size f cd) (.ref ea)) (λ_ s''=>CXW P w outer H s (λc _ H'=>E c d H') (.ref ea) s'') (λe' s''=>CXW P w outer H s (λc _ H'=>E c d H') e' s'') s2:=x;refine wpAny_mono (iL (E':=λ_ _=>False) (yX _ _) x') (λ_ s'' hq=>?_) (λ_ _ z=>z.elim);obtain⟨h1,kd⟩:=hq;obtain⟨o',eo',od'⟩:=kd ea ob eo;exact⟨d,h1,ea,o',rfl,eo',od'.trans ed⟩
theorem fc{E':XK}(hE:∀c d H',E' c d H'->E c d H'):fB (CXV P w) (bv (CXV P w) P w K mg base N qual scope f cd A outer s H E) E':=λ_ _ _ _ _ _ I h=>Bb I h hE
theorem Er{X:Cx}:fB (CXV X.prog X.w) X E0:=λ_ _ _ _ _ _ _ h=>by obtain⟨_,h,_⟩:=h;obtain⟨_,_,_,_,_,_,_,_,_,_,_,_,_,_,_,z⟩:=h;exact z.elim
end
section
variable {X:Cx}{pins:List (Addr×Obj)}{σ:St}{H:Hp}{s:Shared}{a C:Addr}{f:Str}
theorem Ib{h':Heap}{tk:Nat}{t:Addr}{y:V}{u:Value}(I:Inv X pins σ H s)(e:H a=some (EX C a none))(ry:RelV y u)(ha:h'.get? a=some { cy C t with dict:=some s.heap.objs.size })(hn:h'.Ns1 s.heap.objs.size (λg=>if g=f then some u else none))(k:∀b o,b≠a->s.heap.get? b=some o->h'.get? b=some o) :
 Inv X pins σ (upd (upd H s.heap.objs.size (.xd [(f,y)])) a (EX C a (some s.heap.objs.size))) { s with heap:=h',toks:=tk }:=by
 have fr:H s.heap.objs.size=none:=I.hok.fresh (MZ _);have nd:a≠s.heap.objs.size:=aQ e fr;have other:∀b,b≠a->b≠s.heap.objs.size->upd (upd H s.heap.objs.size (.xd [(f,y)])) a (EX C a (some s.heap.objs.size)) b=H b:=λb h1 h2=>by rw[upd_ne h1,upd_ne h2]
 have na:∀b o,H b=some o->(∀φ,o≠.ext φ)->b≠a:=λb o q h1 z=>by rw[z,e]at q;exact h1 _ (Option.some.inj q).symm
 have ns:∀b o,s.heap.get? b=some o->b≠s.heap.objs.size:=λb o q=>Ng (Heap.lt_size q)
 have nf:∀b o,H b=some o->b≠s.heap.objs.size:=λb o q=>aQ q fr
 refine I.un ⟨λb o q n _ _=>k b o (λz=>by rw[z,e]at n;cases n) q,λb o q n _ _=>⟨o.slots,k b o (λz=>by rw[z,e]at n;cases n) q⟩,λb o q n _=>?_,λb o q _=>?_,λb xs q=>?_,λb o u q=>?_,λb ps q=>⟨#[],?_⟩⟩ λb o q=>?_
 ·rw[other b (λz=>by rw[z,e]at n;cases n) (ns b o q)];exact n
 ·by_cases z:b=a
  ·exact⟨_,by rw[z];exact ha⟩
  ·exact⟨o,k b o z q⟩
 ·rw[other b (na b _ q λφ z=>by cases z) (nf b _ q)];exact q
 ·rw[other b (na b _ q λφ z=>by cases z) (nf b _ q)];exact q
 ·rw[other b (na b _ q λφ z=>by cases z) (nf b _ q),Array.append_empty];exact q
 ·by_cases z:b=a
  ·subst z;rw[ao]at q;cases q;exact zQ ha
  ·rw[upd_ne z]at q;by_cases z2:b=s.heap.objs.size
   ·subst z2;rw[ao]at q;cases q;refine⟨_,hn,λg=>?_⟩;by_cases zg:g=f
    ·subst zg;rw[if_pos rfl];show RelO (List.lookup g [(g,y)]) (some u);simp only[List.lookup,beq_self_eq_true];exact ry
    ·rw[if_neg zg];have:(g == f)=false:=beq_false_of_ne zg;show RelO (List.lookup g [(f,y)]) none;simp only[List.lookup,this];trivial
   ·rw[upd_ne z2]at q;refine(I.hok b o q).stay (λc v hc r=>k c v ?_ r) (λc r=>?_) λc xs r=>?_
    ·rcases hc with rfl |hc
     ·exact z
     ·exact na c _ hc λφ z=>by cases z
    ·rw[other c (na c _ r λφ z=>by cases z) (nf c _ r)];exact r
    ·rw[other c (na c _ r λφ z=>by cases z) (nf c _ r)];exact r
end
def sXf(K:PySem.W.Frag)(ta tv:TE)(f:Str):TS:=λD σ H=>tv σ H λy H1=>ta σ H1 λx H2=>∃a C,x=.ref a/\H2 a=some (EX C a none)/\XCls K C/\NoAttr K C f/\∀dx,H2 dx=none->dx≠a->D.nx σ (upd (upd H2 dx (.xd [(f,y)])) a (EX C a (some dx)))
section
variable {X:Cx}{o value:Expr}{f:Str}{pos pos':Pos}{ta tv:TE}
theorem x6(ha:PE X o ta)(hv:PE X value tv)(hs:swapsWith value (some (.Attribute o f pos')) pos.line X.env=pure false):PS X (.Assign [.Attribute o f pos'] value pos) (sXf X.K ta tv f):=by intro pins s σ H D I h;refine plainObj_wpAny_Assign_Attribute (thn (hv pins s σ H _ I h) λu s1 ⟨y,H1,I1,ry,q⟩=>thn (ha pins s1 σ H1 _ I1 q) λov s2 ⟨x,H2,I2,rx,a,C,ex,ea,c,n,q2⟩=>?_) hs;subst ex;obtain rfl:ov=Value.ref a:=rx;obtain⟨⟨t,et⟩,_,_⟩:=(show ObjOk X.prog X.w H2 s2.heap a (EX C a none)from I2.hok a _ ea);have fr:H2 s2.heap.objs.size=none:=I2.hok.fresh (MZ _);refine A9 I2.kIn c et rfl rfl rfl n λh' tk e1 e2 e3=>⟨σ,_,Ib (t:=t) I2 ea ry e1 e2 e3,q2 _ fr (Ne.symm (aQ ea fr))⟩
end
def lg(C:Addr)(f:Str):Sp:=λvs H Q _=>∃(e:Addr) (v:V),vs=[.ref e,v]/\H e=some (EX C e none)/\∀dx,H dx=none->dx≠e->Q .non (upd (upd H dx (.xd [(f,v)])) e (EX C e (some dx)))
structure OwnX(x:Str)(C fI:Addr)(bmB:List Value)(newId:String)(mg:Str->Option Value)(h:Heap):Prop where
 bound:mg x=some (.ref C)
 obj:∃bm N nm q bs hdct sn sub ab col dd k0 k1 k2 k3 k5 mN,h.get? C=some (excClassObj nm q C N bs bm hdct sn sub ab col dd k0 k1 k2 k3 k5 newId)/\h.Ns N mN/\mN "__init__"=some (.ref fI)/\OwnTail h bmB bm
 fn:∃oI,h.get? fI=some oI/\oI.cls=.type "function"
def BO(E:XK)(c:Value)(f:Str)(t:TA):TS:=λ_ σ H=>t σ H λvs H1=>∃v,vs=[v]/\∀dx,H1 dx=none->E c (some dx) (upd H1 dx (.xd [(f,v)]))
section
variable {X:Cx}{pins:List (Addr×Obj)}{σ:St}{H:Hp}{s:Shared}{a:Addr}{φ:Heap->Prop}
theorem Inv.untrack{H':Hp}{s':Shared}(I:Inv X pins σ H s)(e:H a=some (.ext φ))(J:Inv X pins σ H' s')(hn:H' a=none):Inv X pins σ (λb=>if b=a then none else H b) s:=by
 have other:∀b,b≠a->(if b=a then none else H b)=H b:=λb h1=>if_neg h1
 have na:∀b o,H b=some o->(∀φ,o≠.ext φ)->b≠a:=λb o q h1 z=>by rw[z,e]at q;exact h1 _ (Option.some.inj q).symm
 refine⟨I.ok,I.os,I.bare,⟨I.base.keep,I.base.slot,λb o q n hx=>?_,I.base.there,λb xs q=>?_,λb o u q=>?_,λb ps q=>?_⟩,I.loc,I.cell,?_,λx c q=>?_,λp hp=>?_,λb o q=>?_,I.len⟩
 ·show(if b=a then none else H b)=none;split
  ·rfl
  ·exact I.base.free b o q n hx
 ·have z:b≠a:=λz=>by have:=J.base.tups b xs q;rw[z,hn]at this;cases this
  rw[other b z];exact I.base.tups b xs q
 ·have z:b≠a:=λz=>by have:=J.base.frzs b o u q;rw[z,hn]at this;cases this
  rw[other b z];exact I.base.frzs b o u q
 ·have z:b≠a:=λz=>by obtain⟨m,this⟩:=J.base.tbls b ps q;rw[z,hn]at this;cases this
  rw[other b z];exact I.base.tbls b ps q
 ·show(if X.env.locals=a then none else H X.env.locals)=none;split
  ·rfl
  ·exact I.free
 ·show(if c=a then none else H c)=none;split
  ·rfl
  ·exact I.freeC x c q
 ·obtain⟨h1,h2,h3⟩:=I.pin p hp;refine⟨h1,?_,h3⟩;show(if p.1=a then none else H p.1)=none;split
  ·rfl
  ·exact h2
 ·have q':(if b=a then none else H b)=some o:=q;by_cases z:b=a
  ·rw[if_pos z]at q';cases q'
  ·rw[if_neg z]at q';refine(I.hok b o q').stay (λ_ _ _ r=>r) (λc r=>?_) λc xs r=>?_
   ·rw[other c (na c _ r λφ z=>by cases z)];exact r
   ·rw[other c (na c _ r λφ z=>by cases z)];exact r
end
section
variable {P:Program}{w:World}{K:PySem.W.Frag}{mg:Str->Option Value}{base:Heap}{N:List Str}{qual:Str}{scope:Scope}{f:Addr}{cd:Value}{A:Around}{outer:List Env}{s:Shared}{H:Hp}{E:XK}
theorem rA{x att:Str}{C fI:Addr}{bmB:List Value}{Bn newId initId:String}{np cpos pos:Pos}{e:Expr}{t:TA}{fd:FuncData}{ps:List Str}{k:Nat}(hg:Gl (bv (CXV P w) P w K mg base N qual scope f cd A outer s H E) x)(O:OwnX x C fI bmB newId mg base)(FB:ExcBaseFacts Bn newId initId bmB)
 (F:FnOk P w K mg base CX0 k fI fd ps (lg C att)) (hr:Room (k+1) (bv (CXV P w) P w K mg base N qual scope f cd A outer s H E).A) (hb:Binds K fd ps []) (hk:PySem.W.keepIn K (.ref C)=true) (ha:PA (bv (CXV P w) P w K mg base N qual scope f cd A outer s H E) [e] t)
 (hdb:(x == ("__debug__":Str))=false:=by decide) (he:starEach [e] (envOfC qual scope s.heap.objs.size f cd)=(false,eval e (envOfC qual scope s.heap.objs.size f cd))::starEach [] (envOfC qual scope s.heap.objs.size f cd):=by rfl) (hpl:(backTo cpos (starEach [] (envOfC qual scope s.heap.objs.size f cd))).any (·.1)=false:=by rfl) :
 PS (bv (CXV P w) P w K mg base N qual scope f cd A outer s H E) (.Raise (some (.Call (.Name x np) [e] [] cpos)) none pos) (BO E (.ref C) att t):=by
 intro pins s1 σ H1 D I h;obtain⟨tl,NN,nm,q,bs,hdct,sn,sub,ab,col,dd,k0,k1,k2,k3,k5,mN,hC,hN,hi,T⟩:=O.obj;obtain⟨oI,hfI,hfc⟩:=O.fn;rw[arm_exec_Raise];refine wpAny_bind (wpAny_standAt ?_);refine DN (C:=C) (nm:=nm) (q:=q) (N:=NN) (bs:=bs) (bm:=tl) (hdct:=hdct) (sn:=sn) (sub:=sub) (ab:=ab) (col:=col) (dd:=dd) (k0:=k0) (k1:=k1) (k2:=k2) (k3:=k3) (k5:=k5) (newId:=newId) (T.hasType FB.hasBase) (I.ok.hd rfl) ?_;refine wpAny_bind (wpAny_mono ?_ (λv s3 h3=>wpAny_bind (wpAny_standAt (wpAny_pure h3))) λ_ _ z=>z);refine wpAny_Call_Name_kw (dR I hg O.bound ?_ hdb);refine PySem.W.callWith_K (h₀:=base) I.ok.mod.kin hk (thn (ha cpos pins s1 σ H1 _ I h) λus s2 ⟨vs,H2,I2,r,v,ev,q2⟩=>⟨I2.kIn,?_⟩) he hpl;subst ev;obtain⟨hh,g,d,tt,os⟩:=s2;have hlen:us.length<=sizeLine:=by rw[<- r.length];show 1<=sizeLine;decide
 show wpAny _ _ (call (.ref C) us) _ _ ⟨hh,g,d,tt,os⟩;refine Be FB (T.keeps I2.bk) (I2.bk _ _ hC) (hN.keeps I2.bk) hi (I2.bk _ _ hfI) hfc hlen ?_
 have ge:((hh.push { cls:=.type "tuple",data:=.seq us.toArray }).push (cy C hh.objs.size)).get? (hh.objs.size+1)=some (cy C hh.objs.size):=by
  have:=Heap.get?_push_size (hh.push { cls:=.type "tuple",data:=.seq us.toArray }) (o:=cy C hh.objs.size) rfl
  rwa [Heap.size_push]at this
 have I3:Inv (bv (CXV P w) P w K mg base N qual scope f cd A outer s H E) pins σ (upd H2 (hh.objs.size+1) (EX C (hh.objs.size+1) none)) ⟨(hh.push { cls:=.type "tuple",data:=.seq us.toArray }).push (cy C hh.objs.size),g,d,tt,os⟩ :=
  I2.laid (a:=hh.objs.size+1) (o:=EX C (hh.objs.size+1) none) (t':=tt) (λb u z=>Heap.get?_push_of_some _ (Heap.get?_push_of_some _ z)) (Nat.le_succ _) (zQ (t:=hh.objs.size) ge)
 have fr:H2 (hh.objs.size+1)=none:=I2.hok.fresh (Nat.le_succ _);generalize hea:hh.objs.size+1=ea at ge I3 fr ⊢
 generalize (hh.push { cls:=.type "tuple",data:=.seq us.toArray }).push (cy C hh.objs.size)=h3 at ge I3 ⊢
 have sp0:lg C att [V.ref ea,v] (upd H2 ea (EX C ea none)) (λv' H'=>v'=.non/\∃dx,H2 dx=none/\dx≠ea/\H'=upd (upd (upd H2 ea (EX C ea none)) dx (.xd [(att,v)])) ea (EX C ea (some dx))) E0 :=
  ⟨ea,v,rfl,ao,λdx h1 h2=>⟨rfl,dx,by rwa [upd_ne h2]at h1,h2,rfl⟩⟩
 have r2:Vals [V.ref ea,v] (Value.ref ea::us):=.cons rfl r
 have hl:(Value.ref ea::us++[]).length=ps.length:=by have z:=r2.length;rw[F.len _ _ _ _ sp0]at z;rw[OG];exact z.symm
 have hbb:=hb _ (Value.ref ea::us) I3.kIn hl;rw[OG]at hbb;refine wpAny_call (codeAny_mono (F.run _ (bv (CXV P w) P w K mg base N qual scope f cd A outer s H E).stack _ _ ⟨Value.ref ea::us,[]⟩ (Value.ref ea::us) _ _ E0 (hr.make C us []) (I3.env0.make C us []) hbb r2 sp0) λr' s' hq'=>?_);cases r' with
 |error e'=>exact(show False from hq').elim
 |ok fl =>
  cases fl with
  |ret u =>
   obtain⟨v',H',I4,rv,ev,dx,hdx,hde,eH⟩:=I3.after hq';subst ev;subst eH;refine⟨rv,?_⟩;obtain⟨⟨t4,et4⟩,_,_⟩:=(show ObjOk P w _ s'.heap ea (EX C ea (some dx))from I4.hok ea _ ao)
   have sn':s.heap.get? ea=none:=by
    cases z:s.heap.get? ea with
    |none=>rfl
    |some o =>obtain⟨o',z'⟩:=I2.base.there ea o z (λz=>nomatch z);exact absurd (Heap.lt_size z') (by rw[<- hea];show ¬hh.objs.size+1<hh.objs.size;omega)
   have I5:=I4.untrack (a:=ea) ao I2 fr
   have eH5:(λb=>if b=ea then none else upd (upd (upd H2 ea (EX C ea none)) dx (.xd [(att,v)])) ea (EX C ea (some dx)) b)=upd H2 dx (.xd [(att,v)]):=funext λb=>by
    by_cases z:b=ea
    ·rw[if_pos z,z,upd_ne (Ne.symm hde),fr]
    ·rw[if_neg z,upd_ne z];by_cases z2:b=dx
     ·rw[z2,ao,ao]
     ·rw[upd_ne z2,upd_ne z,upd_ne z2]
   rw[eH5]at I5;refine⟨ea,t4,some dx,rfl,I5.bk _ _ hC,et4,?_⟩;exact wm I5 et4 rfl rfl rfl rfl (by rw[upd_ne (Ne.symm hde)];exact fr) sn' (q2 dx hdx)
  |next=>exact(show False from hq').elim
  |brk=>exact(show False from hq').elim
  |cont=>exact(show False from hq').elim
end
section
variable {P:Program}{w:World}{K:PySem.W.Frag}{mg:Str->Option Value}{base:Heap}
theorem Fun.okV{x qual:Str}{st:Stmt}{f:Addr}{fd:FuncData}{N ps:List Str}{k:Nat}{sp:Sp}(F:Fun K x qual st f fd)(S:FnScope N ps (ag st))(len:∀vs H Q E,sp vs H Q E->vs.length=ps.length)
 (hbody:∀(cdv:Value) (A:Around) (outer:List Env) (s:Shared) (H:Hp) (vs:List V) (Q:VK) (E:XK),Room k (A.deeper (envOfC qual (ag st) s.heap.objs.size f cdv))->sp vs H Q E ->
   ∃t,PSs (bv (CXV P w) P w K mg base N qual (ag st) f cdv A outer s H E) (aA st) t/\t { nx:=λ_ H'=>Q .non H',rt:=Q } (start N vs) H):FnOk P w K mg base (CXV P w) (k+1) f fd ps sp:=by
 obtain⟨oc,od,kV,doc,pm,an,cdv,ct,osl,rfl,lk,hcd⟩:=F.ex;exact pZ lk hcd S len λA outer s H vs Q E hr hsp=>hbody cdv A outer s H vs Q E hr hsp
theorem FunD.okV{x qual:Str}{st:Stmt}{dV:Value}{f:Addr}{fd:FuncData}{N ps:List Str}{k:Nat}{sp:Sp}(F:FunD K x qual st dV f fd)(S:FnScope N ps (ag st))(len:∀vs H Q E,sp vs H Q E->vs.length=ps.length)
 (hbody:∀(cdv:Value) (A:Around) (outer:List Env) (s:Shared) (H:Hp) (vs:List V) (Q:VK) (E:XK),Room k (A.deeper (envOfC qual (ag st) s.heap.objs.size f cdv))->sp vs H Q E ->
   ∃t,PSs (bv (CXV P w) P w K mg base N qual (ag st) f cdv A outer s H E) (aA st) t/\t { nx:=λ_ H'=>Q .non H',rt:=Q } (start N vs) H):FnOk P w K mg base (CXV P w) (k+1) f fd ps sp:=by
 obtain⟨oc,od,kV,doc,pm,an,cdv,ct,osl,rfl,lk,hcd⟩:=F.ex;exact pZ lk hcd S len λA outer s H vs Q E hr hsp=>hbody cdv A outer s H vs Q E hr hsp
end
section
variable {P:Program}{w:World}{K:PySem.W.Frag}{mg:Str->Option Value}{base:Heap}{N:List Str}{qual:Str}{scope:Scope}{f:Addr}{cd:Value}{A:Around}{outer:List Env}{s:Shared}{H:Hp}{E:XK}
theorem D4{x:Str}{C:Addr}{bm:List Value}{Bn newId initId:String}{np cpos pos:Pos}(hg:Gl (bv (CXV P w) P w K mg base N qual scope f cd A outer s H E) x)(O:OwnCls x C bm newId mg base)(FB:ExcBaseFacts Bn newId initId bm)(hd:(x == ("__debug__":Str))=false:=by decide) :
 PS (bv (CXV P w) P w K mg base N qual scope f cd A outer s H E) (.Raise (some (.Call (.Name x np) [] [] cpos)) none pos) (BP E (.ref C)):=by
 intro pins s1 σ H1 D I h;obtain⟨tl,NN,nm,q,bs,hdct,sn,sub,ab,col,dd,k0,k1,k2,k3,k5,mN,hC,hN,hni,T⟩:=O.obj
 refine wpAny_Raise_call_subT (C:=C) (nm:=nm) (q:=q) (N:=NN) (bs:=bs) (bm:=tl) (hdct:=hdct) (sn:=sn) (sub:=sub) (ab:=ab) (col:=col) (dd:=dd) (k0:=k0) (k1:=k1) (k2:=k2) (k3:=k3) (k5:=k5)
  FB (mN:=mN) (T.hasType FB.hasBase) (I.ok.hd rfl) rfl hni (dR I hg O.bound ⟨rfl,?_⟩ hd)
 refine evalArgs_empty ⟨rfl,M9 _,I.bk _ _ hC,hN.keeps I.bk,T.keeps I.bk,λh' e hx=>?_⟩;obtain⟨t,he,_,_⟩:=hx.there;have I2:Inv (bv (CXV P w) P w K mg base N qual scope f cd A outer s H E) pins σ H1 { s1 with heap:=h' }:=I.kept (t':=s1.toks) hx.keeps
 have hn:H1 e=none:=by
  cases z:H1 e with
  |none=>rfl
  |some o=>obtain⟨o',z'⟩:=yv (I.hok e o z);rw[hx.new]at z';cases z'
 have hs:s.heap.get? e=none:=by
  cases z:s.heap.get? e with
  |none=>rfl
  |some o=>obtain⟨o',z'⟩:=I.base.there e o z (λz=>nomatch z);rw[hx.new]at z';cases z'
 exact wm I2 he rfl rfl rfl rfl hn hs h
end
def PXV(X:Cx)(x:Expr)(tx:XK->TE):Prop:=∀(W:Value->Shared->Prop) (pins:List (Addr×Obj)) (σ:St) (s:Shared) (H:Hp) (Q:VK) (E:XK),vB (CXV X.prog X.w) (X.wish W) pins σ E->Inv (X.wish W) pins σ H s->tx E σ H Q ->
 wpAny (model X.prog X.w) X.A (eval x X.env) (EP (X.wish W) pins σ Q) W s
def vT(K:PySem.W.Frag)(R:Addr)(i:Nat)(th:Addr->Obj->TS)(D:Ends)(σ:St):XK:=λcls d H'=>PySem.W.exmOne K cls (.ref R)=some true /\
 ∀ea oe vs,oe.cls=cls->oe.dict=d->oe.data=.fields vs->H' ea=none->th ea oe { nx:=λσ'' H''=>D.nx (σ''.set i none) H'',rt:=λ_ _=>False,bk:=λ_ _=>False,ct:=λ_ _=>False } (σ.set i (some (.ref ea))) H'
def BL(K:PySem.W.Frag)(tx:XK->TE)(R:Addr)(i:Nat)(th:Addr->Obj->TS):TS:=λD σ H=>tx (vT K R i th D σ) σ H λ_ H'=>D.nx σ H'
section
variable {X:Cx}{k:Nat}{f R R2:Addr}{fd:FuncData}{ps:List Str}{sp:Sp}{dvs:List V}{ds:List Value}{r r2 n n2 x:Str}{p pos epos np hpos np2 hpos2:Pos}{e ex:Expr}{es:List Expr}{t:TA}{i i2:Nat}{b₀ b₂:Stmt}{suite suite2:List Stmt}{th th2:Addr->Obj->TS}{tx:XK->TE}
theorem lN(F:FnOk X.prog X.w X.K X.mg X.base (CXV X.prog X.w) k f fd ps sp)(hr:Room k X.A)(hg:∀W,Gl (X.wish W) x)(hm:X.mg x=some (.ref f))(hk:PySem.W.keepIn X.K (.ref f)=true)(hb:Binds X.K fd ps ds)(hd:Vals dvs ds)
 (ha:∀W,PA (X.wish W) (e::es) t) (hdb:(x == ("__debug__":Str))=false:=by decide) (he:starEach (e::es) X.env=(false,eval e X.env)::starEach es X.env:=by rfl) (hpl:(backTo pos (starEach es X.env)).any (·.1)=false:=by rfl) :
 PXV X (.Call (.Name x p) (e::es) [] pos) (λE=>wN sp dvs E t):=by
 intro W pins σ s H Q E hx I h;refine wpAny_Call_Name_kw (dR (X:=X.wish W) I (hg W) hm ?_ hdb);refine PySem.W.callWith_K (h₀:=X.base) I.ok.mod.kin hk (thn (ha W pos pins s σ H _ I h) λus s1 ⟨vs,H1,I1,r,q⟩=>⟨I1.kIn,?_⟩) he hpl;exact Dl (X:=X.wish W) F hr hb hd hx I1 r q
theorem uV{L:Addr}{pins:List (Addr×Obj)}{σ:St}{H1 H2:Hp}{s1 s2:Shared}{B:Heap}{ea:Addr}{cls a0:Value}{d:Option Addr}{hs:List ExceptHandler}{Q:Flow->Shared->Prop}(hstk:X.stack=X.env::X.outer)(hfr:X.env.frame=some L)(I1:Inv X pins σ H1 s1)(os:s2.os=s1.os)(bare:AllBare s2.gens)(un:Un (frs X.stack) [] H1 H2 s1.heap s2.heap)(hok:HOk X.prog X.w H2 s2.heap)(fl:Heap.FlyingW B X.stack ea cls a0 s2.heap)
 (b1:∀b o,s1.heap.get? b=some o->b∉frs X.stack->∃o',s2.heap.get? b=some o'/\B.get? b=some o') (b2:∀b x,H2 b=some x->∃o',s2.heap.get? b=some o'/\B.get? b=some o') (hea:H2 ea=none) (hnew:s1.heap.get? ea=none) (hd:∃ob,s2.heap.get? ea=some ob/\ob.dict=d)
 (k:∀h4 oe vs,Heap.FlyingW B (X.env::X.outer) ea cls a0 h4->oe.cls=cls->oe.dict=d->oe.data=.fields vs->Inv (cxH X ea oe) pins σ H2 { s2 with heap:=h4 }->(∀h5,B.StaysIn h5->h4.UpToSlots h5->Inv X pins σ H2 { s2 with heap:=h5 })->wpAny (model X.prog X.w) X.A (handleBy (.ref ea) X.env hs) Q X.xe { s2 with heap:=h4 }) :
 wpAny (model X.prog X.w) X.A (noteFrame (.ref ea) X.env) (λ_ s₂=>wpAny (model X.prog X.w) X.A (setFlight (.ref ea) none) (λ_ s₃=>wpAny (model X.prog X.w) X.A (handleBy (.ref ea) X.env hs) Q X.xe s₃) X.xe s₂) X.xe s2:=by
 obtain⟨ob,eob,dob⟩:=hd;have fl0:Heap.FlyingW B (X.env::X.outer) ea cls a0 s2.heap:=by rw[<- hstk];exact fl
 refine wpAny_mono (iL (E':=λ_ _=>False) (yW _ _) (wpAny_looks_onW (E:=λ_ _=>False) (L:=L) (Q:=λ_ s'=>∃h3,s'={ s2 with heap:=h3 }/\Heap.HeldW B (X.env::X.outer) ea cls a0 L h3/\s2.heap.UpToSlots h3) (by rw[I1.ok.frames,hstk]) hfr fl0 λh3 hd3 up3=>⟨h3,rfl,hd3,up3⟩)) (λ_ s' hq=>?_) λ_ _ z=>z.elim
 obtain⟨⟨h3,rfl,hd3,up3⟩,kd3⟩:=hq;obtain⟨o3,e3,d3⟩:=kd3 ea ob eob;refine wpAny_mono (iL (E':=λ_ _=>False) (pE _ _) (wpAny_landsW (E:=λ_ _=>False) (Q:=λ_ s'=>∃h4,s'={ s2 with heap:=h4 }/\Heap.FlyingW B (X.env::X.outer) ea cls a0 h4/\h3.UpToSlots h4) hd3 λh4 fl4 up4=>⟨h4,rfl,fl4,up4⟩)) (λ_ s' hq=>?_) λ_ _ z=>z.elim
 obtain⟨⟨h4,rfl,fl4,up4⟩,kd4⟩:=hq;obtain⟨o4,e4,d4⟩:=kd4 ea o3 e3;have up04:=up3.trans up4;have J4:Inv X pins σ H2 { s2 with heap:=h4 }:=AD I1 os bare un hok fl b1 b2 fl4.1 up04
 have neL:ea≠X.env.locals:=λz=>by obtain⟨mm,hn',_⟩:=I1.loc;obtain⟨oL,_,_,hoL,_⟩:=hn';rw[<- z,hnew]at hoL;cases hoL
 have neF:ea∉X.fs:=λz=>by obtain⟨_,o',e',_⟩:=I1.funs.mem z;rw[hnew]at e';cases e'
 obtain⟨oe4,vs4,ge4,ce4,de4,_⟩:=fl4.first;have e4':h4.get? ea=some o4:=e4;have eo:oe4=o4:=Option.some.inj (ge4.symm.trans e4');exact k h4 oe4 vs4 fl4 ce4 (by rw[eo];exact(d4.trans d3).trans dob) de4 (J4.held ge4 hea neL neF (λv z=>by rw[de4]at z;cases z)) λh5 st up5=>AD I1 os bare un hok fl b1 b2 st (up04.trans up5)
theorem wS{pins:List (Addr×Obj)}{σ:St}{H2:Hp}{s2:Shared}{D:Ends}{B h4:Heap}{ea:Addr}{cls a0:Value}{d:Option Addr}{oe4:Obj}(hok0:X.Ok)(fl4:Heap.FlyingW B (X.env::X.outer) ea cls a0 h4)(hc4:h4.get? ea=some oe4)(hd4:oe4.dict=d)(J:∀h5,B.StaysIn h5->h4.UpToSlots h5->Inv X pins σ H2 { s2 with heap:=h5 })
 (hea:H2 ea=none) (neL:ea≠X.env.locals) (neF:ea∉X.fs) (hN:X.N.Nodup) (hi:X.N[i]?=some n) (hk:X.env.scope.names.lookup n=some .local) (hsu:∀ea oe,PSs (cxH X ea oe) (b₀::suite) (th ea oe))
 (hth:∀ea oe vs,oe.cls=cls->oe.dict=d->oe.data=.fields vs->H2 ea=none->th ea oe { nx:=λσ'' H''=>D.nx (σ''.set i none) H'',rt:=λ_ _=>False,bk:=λ_ _=>False,ct:=λ_ _=>False } (σ.set i (some (.ref ea))) H2) :
 wpAny (model X.prog X.w) (X.A.mark (some (.ref ea))) (setFlight (.ref ea) none) (λ_ s5=>∃oe5,Inv (cxH X ea oe5) pins σ H2 s5/\th ea oe5 { nx:=λσ'' H''=>D.nx (σ''.set i none) H'',rt:=λ_ _=>False,bk:=λ_ _=>False,ct:=λ_ _=>False } (σ.set i (some (.ref ea))) H2) (λ_ _=>False) { s2 with heap:=h4 }:=by
 refine wpAny_mono (iL (E':=λ_ _=>False) (pE _ _) (lands_againW (s:={ s2 with heap:=h4 }) (E:=λ_ _=>False) (Q:=λ_ s'=>∃h5,s'={ s2 with heap:=h5 }/\Heap.FlyingW B (X.env::X.outer) ea cls a0 h5/\h4.UpToSlots h5) fl4 λh5 fl5 up5=>⟨h5,rfl,fl5,up5⟩)) (λ_ s' hq=>?_) λ_ _ z=>z.elim
 obtain⟨⟨h5,rfl,fl5,up5⟩,kd5⟩:=hq;obtain⟨o5,e5,d5⟩:=kd5 ea oe4 hc4;obtain⟨oe5,vs5,ge5,ce5,de5,_⟩:=fl5.first;have e5':h5.get? ea=some o5:=e5;have eo:oe5=o5:=Option.some.inj (ge5.symm.trans e5');exact⟨oe5,(J h5 fl5.1 up5).held ge5 hea neL neF (λv z=>by rw[de5]at z;cases z),hth ea oe5 vs5 ce5 (by rw[eo];exact d5.trans hd4) de5 hea⟩
theorem wU{pins:List (Addr×Obj)}{H2:Hp}{s5:Shared}{σ:St}{D:Ends}{ea:Addr}{oe5:Obj}(ok:X.Ok)(hN:X.N.Nodup)(hi:X.N[i]?=some n)(hk:X.env.scope.names.lookup n=some .local)(hsu:∀ea oe,PSs (cxH X ea oe) (b₀::suite) (th ea oe))(I5:Inv (cxH X ea oe5) pins σ H2 s5)
 (ht:th ea oe5 { nx:=λσ'' H''=>D.nx (σ''.set i none) H'',rt:=λ_ _=>False,bk:=λ_ _=>False,ct:=λ_ _=>False } (σ.set i (some (.ref ea))) H2) {Q:Flow->Shared->Prop} {E:Value->Shared->Prop}
 (k:∀s7,(∃σ' H',Inv X pins σ' H' s7/\D.nx (σ'.set i none) H')->Q .next s7) (s6:Shared) (I6:Inv (cxH X ea oe5) pins (σ.set i (some (.ref ea))) H2 s6):wpAny (model X.prog X.w) (X.A.mark (some (.ref ea))) (execs (b₀::suite) X.env) Q E s6:=by
 refine wpAny_mono (hsu ea oe5 pins s6 _ H2 _ I6 ht) (λfw s7 hs7=>?_) λ_ _ z=>z.elim
 cases fw with
 |next =>obtain⟨σ',H',I7,q7⟩:=hs7;exact k s7 ⟨σ',H',Inv.unheld ok I7,q7⟩
 |ret u=>obtain⟨_,_,_,_,_,z⟩:=hs7;exact z.elim
 |brk=>obtain⟨_,_,_,z⟩:=hs7;exact z.elim
 |cont=>obtain⟨_,_,_,z⟩:=hs7;exact z.elim
theorem D2{L:Addr}(hstk:X.stack=X.env::X.outer)(hfr:X.env.frame=some L)(hx:PXV X ex tx)
 (hg:∀ea oe,Gl (cxH X ea oe) r) (hR:X.mg r=some (.ref R)) (hN:X.N.Nodup) (hi:X.N[i]?=some n) (hk:X.env.scope.names.lookup n=some .local) (hsu:∀ea oe,PSs (cxH X ea oe) (b₀::suite) (th ea oe))
 (hsw:swapsWith ex none epos.line X.env=pure false:=by rfl) (hdb:(r == ("__debug__":Str))=false:=by decide) :
 PS X (.Try [.Expr ex epos] [.ExceptHandler (some (.Name r np)) (some n) (b₀::suite) hpos] [] [] pos) (BL X.K tx R i th):=by
 intro pins s σ H D I h;refine wpAny_Try_except ?_;generalize hW:(λe s₁=>wpAny (model X.prog X.w) X.A (noteFrame e X.env) (λ_ s₂=>wpAny (model X.prog X.w) X.A (setFlight e none) (λ_ s₃=>wpAny (model X.prog X.w) X.A (handleBy e X.env [.ExceptHandler (some (.Name r np)) (some n) (b₀::suite) hpos]) (SP X pins D) X.xe s₃) X.xe s₂) X.xe s₁:Value->Shared->Prop)=W;refine wpAny_execs_cons ?_;refine wpAny_Expr_any (wpAny_mono (hx W pins σ s H (λ_ H'=>D.nx σ H') (vT X.K R i th D σ) ?_ (I.wish W) h) (λv s1 hv=>?_) λ_ _ x=>x) I.quiet hsw
 rotate_left
 ·obtain⟨x,H1,I1,r1,q1⟩:=hv;exact wpAny_execs_nil (wpAny_execs_nil ⟨σ,H1,I1.unwish,q1⟩)
 intro H1 s1 ev s2 I1w hcx;have I1:=I1w.unwish;obtain⟨d,⟨ea,cls,a0,B,H2,rfl,os,bare,un,hok,fl,b1,b2,hea,hnew,hhit,hth⟩,ea',ob,eea,eob,dob⟩:=hcx;cases eea;show W (.ref ea) s2;rw[<- hW];refine uV hstk hfr I1 os bare un hok fl b1 b2 hea hnew ⟨ob,eob,dob⟩ λh4 oe4 vs4 fl4 ce4 dd4 de4 K4 J=>?_
 have ge4:h4.get? ea=some oe4:=mO K4;have pe:=K4.pin (ea,oe4) (M6 ..);have LT:PySem.W.Looks (model X.prog X.w) h4 (typeOf (.ref ea)) cls:=by rw[<- ce4];exact(PySem.W.Looks.ld ge4).andThen .now
 refine wpAny_handleBy_cons (codeAny_handlers_test (dR K4 (hg ea oe4) hR ((PySem.W.exm_one K4.kIn LT hhit).here ?_) hdb)) (λz=>nomatch z);show codeAny _ _ _ _ _;refine codeAny_handlers_suite_as (wpAny_mono (wS I.ok fl4 ge4 dd4 J hea pe.2.2.1 pe.2.2.2.1 hN hi hk hsu hth) (λ_ s5 ⟨oe5,K5,ht⟩=>?_) λ_ _ z=>z.elim);refine lf (X:=cxH X ea oe5) (v:=.ref ea) K5 hN hi (.inl hk) rfl (λs6 I6=>?_) (.inr hk);refine wU I.ok hN hi hk hsu K5 ht (λs7 ⟨σ',H',I7,q7⟩=>?_) s6 I6;show wpAny _ _ _ _ _ _;exact zz I7 hN hi hk λs8 I8=>⟨_,H',I8,q7⟩
end
def BH(K:PySem.W.Frag)(ea:Addr)(oe:Obj)(ta:TE)(f:Str):TE:=λσ H Q=>ta σ H λx H1=>∃(D dx:Addr) (vs:Array Value) (fs:List (Str×V)) (v:V),x=.ref ea/\oe.cls=.ref D/\oe.dict=some dx/\oe.data=.fields vs/\XCls K D/\ECls K D/\NoAttr K D f/\H1 dx=some (.xd fs)/\fs.lookup f=some v/\Q v H1
theorem Ei{X:Cx}{ea:Addr}{oe:Obj}{e:Expr}{f:Str}{pos:Pos}{ta:TE}(he:PE (cxH X ea oe) e ta)(hb:attributeBase e f X.env (eval e X.env)=eval e X.env):PE (cxH X ea oe) (.Attribute e f pos) (BH X.K ea oe ta f):=by intro pins s σ H Q I h;refine AO hb (thn (he pins s σ H _ I h) λu s1 ⟨x,H1,I1,rx,D,dx,vs,fs,v,ex,hc,hd,hf,T,Te,n,hx,l,q⟩=>?_);subst ex;obtain rfl:u=Value.ref ea:=rx;obtain⟨mA,hns,hr⟩:=(show ObjOk X.prog X.w H1 s1.heap dx (.xd fs)from I1.hok dx _ hx);obtain⟨u',hu,ru⟩:=RelO.some_of (v:=v) (o:=mA f) (by rw[<- l];exact hr f);exact Ba I1.kIn T Te (mO I1) hc hd hf n hns hu (zx ru) ⟨v,H1,I1.tok _,ru,q⟩
noncomputable def qa(K:PySem.W.Frag)(C fI:Addr)(bmB:List Value)(newId:String):Bool:=match K.lookup C with
 |some ⟨.type "type",_,.cls cd,sl⟩=>(match cd.mro,sl.toList with
  |.ref C'::bm,[_,_,_,_,some (.builtin n),_]=>C' == C&&n == newId&&!cd.hasDel&&PySem.W.tailIn K bmB bm&&PySem.W.nsOkIn K cd.ns&&PySem.W.nsIn K cd.ns "__init__" == some (some (.ref fI))&&PySem.W.typeIn K (.ref fI) == some (.type "function")
  |_,_=>false)
 |_=>false
theorem FV{K:PySem.W.Frag}{h:Heap}{N:Addr}{mN:Str->Option Value}{x:Str}{v:Value}(X:K.In h)(G:h.Ns N mN)(e:PySem.W.nsIn K N x=some (some v)):mN x=some v:=by
 obtain⟨ob,es,ep,hob,hdat,_,hfind⟩:=G;unfold PySem.W.nsIn at e
 cases hl:K.lookup N with
 |none=>rw[hl]at e;cases e
 |some oo =>
  obtain rfl:ob=oo:=Option.some.inj (hob.symm.trans (X _ _ hl));obtain⟨c1,c2,c3,c4⟩:=ob;have hdat':c3=.dict es ep:=hdat;subst hdat';rw[hl]at e;dsimp only at e
  have hf:=hfind x;unfold nsFind findBy at hf
  rw[<- Array.find?_toList]at hf;cases hq:es.toList.find? (·.key.isStr x)with
  |none =>
   rw[hq]at e;dsimp only at e
   split at e<;>cases e
  |some en =>rw[hq]at e hf;rw[<- hf];exact Option.some.inj e
theorem yl{K:PySem.W.Frag}{h₀:Heap}{mg:Str->Option Value}{x:Str}{C fI:Addr}{bmB:List Value}{newId:String}(X:K.In h₀)(G:h₀.Ns mainGlobals mg)(e:PySem.W.nsIn K mainGlobals x=some (some (.ref C)))(q:qa K C fI bmB newId=true):OwnX x C fI bmB newId mg h₀:=by
 unfold qa at q
 split at q
 ·rename_i dd cd sl ho
  split at q
  ·rename_i C' bm k0 k1 k2 k3 n k5 hm hs
   simp only[Bool.and_eq_true,beq_iff_eq,Bool.not_eq_true']at q;obtain⟨⟨⟨⟨⟨⟨rfl,rfl⟩,hdel⟩,ht⟩,hok⟩,hni⟩,hfn⟩:=q;obtain⟨nm,bs,mro,ns,qn,hd,sn,sub,ab,col,del⟩:=cd;dsimp only at hm hdel hok hni
   subst hm hdel
   have hsl:sl=#[k0,k1,k2,k3,some (.builtin n),k5]:=by
    obtain⟨l⟩:=sl;simp only at hs
    rw[hs]
   subst hsl;refine⟨PySem.W.mg_of X G e,⟨bm,ns,nm,qn,bs,hd,sn,sub,ab,col,dd,k0,k1,k2,k3,k5,_,X _ _ ho,.of_isNs (PySem.W.isNs_of_in X hok),FV X (.of_isNs (PySem.W.isNs_of_in X hok)) hni,PySem.W.tail_of_in X ht⟩,?_⟩;obtain⟨oI,h1,h2⟩:=Option.map_eq_some_iff.mp (show(K.lookup fI).map (·.cls)=some (.type "function")from hfn);exact⟨oI,X _ _ h1,h2⟩
  ·cases q
 ·cases q
structure CalV(P:Program)(w:World)(K:PySem.W.Frag)(mg:Str->Option Value)(base:Heap)(k:Nat)(x:Str)(ps:List Str)(sp:Sp)(f:Addr)(fd:FuncData):Prop where
 ok:FnOk P w K mg base (CXV P w) k f fd ps sp
 mg:mg x=some (.ref f)
 kp:PySem.W.keepIn K (.ref f)=true
 bd:Binds K fd ps []
structure XCal(P:Program)(w:World)(K:PySem.W.Frag)(mg:Str->Option Value)(base:Heap)(k:Nat)(C:Addr)(x att:Str)(ps:List Str)(f:Addr)(fd:FuncData):Prop where
 ok:FnOk P w K mg base CX0 k f fd ps (lg C att)
 ow:OwnX x C f iM "ValueError.__new__" mg base
 kp:PySem.W.keepIn K (.ref C)=true
 bd:Binds K fd ps []
 xc:XCls K C
 ec:ECls K C
 na:NoAttr K C att
def PBV(X:Cx)(ss:List Stmt)(tb:XK->TS):Prop:=∀(W:Value->Shared->Prop) (pins:List (Addr×Obj)) (σ:St) (s:Shared) (H:Hp) (D:Ends) (E:XK),vB (CXV X.prog X.w) (X.wish W) pins σ E->Inv (X.wish W) pins σ H s->tb E D σ H ->
 wpAny (model X.prog X.w) X.A (execs ss X.env) (SP (X.wish W) pins D) W s
def vU(K:PySem.W.Frag)(R:Addr)(th:Addr->Obj->TS)(D:Ends)(σ:St):XK:=λcls d H'=>PySem.W.exmOne K cls (.ref R)=some true /\
 ∀ea oe vs,oe.cls=cls->oe.dict=d->oe.data=.fields vs->H' ea=none->th ea oe { nx:=D.nx,rt:=λ_ _=>False,bk:=λ_ _=>False,ct:=λ_ _=>False } σ H'
def A5(K:PySem.W.Frag)(R:Addr)(i:Nat)(th:Addr->Obj->TS)(R2:Addr)(th2:Addr->Obj->TS)(D:Ends)(σ:St):XK:=λcls d H'=>vT K R i th D σ cls d H'\/(PySem.W.exmOne K cls (.ref R)=some false/\vU K R2 th2 D σ cls d H')
noncomputable def yw(D:Ends):Ends:={ nx:=D.nx,rt:=λ_ _=>False,bk:=λ_ _=>False,ct:=λ_ _=>False }
def BM(K:PySem.W.Frag)(tb:XK->TS)(R:Addr)(th:Addr->Obj->TS):TS:=λD σ H=>tb (vU K R th D σ) (yw D) σ H
def BK(K:PySem.W.Frag)(tx:XK->TE)(R:Addr)(i:Nat)(th:Addr->Obj->TS)(R2:Addr)(th2:Addr->Obj->TS):TS:=λD σ H=>tx (A5 K R i th R2 th2 D σ) σ H λ_ H'=>D.nx σ H'
section
variable {X:Cx}{k:Nat}{f R R2:Addr}{fd:FuncData}{ps:List Str}{sp:Sp}{dvs:List V}{ds:List Value}{r r2 n n2 x:Str}{p pos pos' epos np hpos np2 hpos2:Pos}{c e ex:Expr}{es:List Expr}{t:TA}{i i2:Nat}{b₀ b₂:Stmt}{suite suite2 sa sb body:List Stmt}{th th2:Addr->Obj->TS}{tx:XK->TE}{tc:TT}{ta tb:XK->TS}
theorem rK(hx:PXV X ex tx)(hN:X.N.Nodup)(hi:X.N[i]?=some x)(hl:Loc X.env.scope x)(hs:swapsWith ex (some (.Name x pos')) pos.line X.env=pure false:=by rfl)(hf:X.fn x=true\/X.env.scope.names.lookup x=some .local:=by first |exact .inl rfl |exact .inr rfl |assumption) :
 PBV X [.Assign [.Name x pos'] ex pos] (λE=>eP (tx E) (eE i)):=by
 intro W pins σ s H D E hp I h;refine wpAny_execs_cons ?_;refine wpAny_Assign_Name (thn (hx W pins σ s H _ E hp I h) λv s1 ⟨y,H1,I1,r1,q1⟩=>?_) hs;exact lf (X:=X.wish W) I1 hN hi hl r1 (λs2 I2=>wpAny_execs_nil ⟨_,H1,I2,q1⟩) hf
theorem Eo(hc:∀W,PT (X.wish W) c tc)(ha:PBV X sa ta)(hb:PBV X sb tb):PBV X [.If c sa sb pos] (λE=>iQ tc (ta E) (tb E)):=by
 intro W pins σ s H D E hp I h;refine wpAny_execs_cons ?_;refine wpAny_If (thn (hc W pins s σ H _ I h) λd s1 ⟨H1,I1,q1⟩=>?_)
 have fin:∀fl s',SP (X.wish W) pins D fl s'->(match fl with |.next=>wpAny (model X.prog X.w) X.A (execs [] X.env) (SP (X.wish W) pins D) W s' |fl=>SP (X.wish W) pins D fl s'):=λfl s' z=>by
  cases fl with
  |next=>exact wpAny_execs_nil z
  |_=>exact z
 cases d with
 |true=>exact thn (ha W pins σ s1 H1 D E hp I1 q1) fin
 |false=>exact thn (hb W pins σ s1 H1 D E hp I1 q1) fin
def BU(te:TE):TE:=λσ H Q=>te σ H λv H1=>∀q,H1 q=none->Q (.ref q) (upd H1 q (.lst [v]))
theorem DX(hx:PXV X ex tx)(he:starEach [ex] X.env=[(false,eval ex X.env)]:=by rfl):PXV X (.List [ex] pos) (λE=>BU (tx E)):=by intro W pins σ s H Q E hp I h;refine wpAny_List_spliced ?_;rw[he];show wpAny _ _ (spliced [(false,eval ex X.env)]) _ _ s;refine Calls.spliced_cons (thn (hx W pins σ s H _ E hp I h) λu s1 ⟨v,H1,I1,r1,q1⟩=>?_);refine Calls.spliced_nil ⟨by show 1<=sizeLine;decide,?_⟩;have hf:H1 s1.heap.objs.size=none:=I1.hok.fresh (MZ _);refine⟨.ref s1.heap.objs.size,upd H1 s1.heap.objs.size (.lst [v]),I1.laid (t':=s1.toks) (λb u e=>Heap.get?_push_of_some _ e) (MZ _) ?_,rfl,q1 _ hf⟩;exact⟨by show 1<=sizeLine;decide,[u],0,.cons r1 .nil,Heap.get?_push_size _ rfl⟩
theorem wR{pins:List (Addr×Obj)}{σ:St}{H2:Hp}{s2:Shared}{D:Ends}{B h4:Heap}{ea:Addr}{cls a0:Value}{d:Option Addr}{oe4:Obj}(fl4:Heap.FlyingW B (X.env::X.outer) ea cls a0 h4)(hc4:h4.get? ea=some oe4)(hd4:oe4.dict=d)(J:∀h5,B.StaysIn h5->h4.UpToSlots h5->Inv X pins σ H2 { s2 with heap:=h5 })
 (hea:H2 ea=none) (neL:ea≠X.env.locals) (neF:ea∉X.fs)
 (hth:∀ea oe vs,oe.cls=cls->oe.dict=d->oe.data=.fields vs->H2 ea=none->th ea oe { nx:=D.nx,rt:=λ_ _=>False,bk:=λ_ _=>False,ct:=λ_ _=>False } σ H2) :
 wpAny (model X.prog X.w) (X.A.mark (some (.ref ea))) (setFlight (.ref ea) none) (λ_ s5=>∃oe5,Inv (cxH X ea oe5) pins σ H2 s5/\th ea oe5 { nx:=D.nx,rt:=λ_ _=>False,bk:=λ_ _=>False,ct:=λ_ _=>False } σ H2) (λ_ _=>False) { s2 with heap:=h4 }:=by
 refine wpAny_mono (iL (E':=λ_ _=>False) (pE _ _) (lands_againW (s:={ s2 with heap:=h4 }) (E:=λ_ _=>False) (Q:=λ_ s'=>∃h5,s'={ s2 with heap:=h5 }/\Heap.FlyingW B (X.env::X.outer) ea cls a0 h5/\h4.UpToSlots h5) fl4 λh5 fl5 up5=>⟨h5,rfl,fl5,up5⟩)) (λ_ s' hq=>?_) λ_ _ z=>z.elim
 obtain⟨⟨h5,rfl,fl5,up5⟩,kd5⟩:=hq;obtain⟨o5,e5,d5⟩:=kd5 ea oe4 hc4;obtain⟨oe5,vs5,ge5,ce5,de5,_⟩:=fl5.first;have e5':h5.get? ea=some o5:=e5;have eo:oe5=o5:=Option.some.inj (ge5.symm.trans e5');exact⟨oe5,(J h5 fl5.1 up5).held ge5 hea neL neF (λv z=>by rw[de5]at z;cases z),hth ea oe5 vs5 ce5 (by rw[eo];exact d5.trans hd4) de5 hea⟩
theorem wT{pins:List (Addr×Obj)}{H2:Hp}{s6:Shared}{σ:St}{D:Ends}{ea:Addr}{oe5:Obj}(ok:X.Ok)(hsu:∀ea oe,PSs (cxH X ea oe) (b₀::suite) (th ea oe))(I6:Inv (cxH X ea oe5) pins σ H2 s6)
 (ht:th ea oe5 { nx:=D.nx,rt:=λ_ _=>False,bk:=λ_ _=>False,ct:=λ_ _=>False } σ H2) {Q:Flow->Shared->Prop} {E:Value->Shared->Prop}
 (k:∀s7,(∃σ' H',Inv X pins σ' H' s7/\D.nx σ' H')->Q .next s7):wpAny (model X.prog X.w) (X.A.mark (some (.ref ea))) (execs (b₀::suite) X.env) Q E s6:=by
 refine wpAny_mono (hsu ea oe5 pins s6 _ H2 _ I6 ht) (λfw s7 hs7=>?_) λ_ _ z=>z.elim
 cases fw with
 |next =>obtain⟨σ',H',I7,q7⟩:=hs7;exact k s7 ⟨σ',H',Inv.unheld ok I7,q7⟩
 |ret u=>obtain⟨_,_,_,_,_,z⟩:=hs7;exact z.elim
 |brk=>obtain⟨_,_,_,z⟩:=hs7;exact z.elim
 |cont=>obtain⟨_,_,_,z⟩:=hs7;exact z.elim
theorem x8{L:Addr}(hstk:X.stack=X.env::X.outer)(hfr:X.env.frame=some L)(hb:PBV X body tb)
 (hg:∀ea oe,Gl (cxH X ea oe) r) (hR:X.mg r=some (.ref R)) (hsu:∀ea oe,PSs (cxH X ea oe) (b₀::suite) (th ea oe)) (hdb:(r == ("__debug__":Str))=false:=by decide) :
 PS X (.Try body [.ExceptHandler (some (.Name r np)) none (b₀::suite) hpos] [] [] pos) (BM X.K tb R th):=by
 intro pins s σ H D I h;refine wpAny_Try_except ?_;generalize hW:(λe s₁=>wpAny (model X.prog X.w) X.A (noteFrame e X.env) (λ_ s₂=>wpAny (model X.prog X.w) X.A (setFlight e none) (λ_ s₃=>wpAny (model X.prog X.w) X.A (handleBy e X.env [.ExceptHandler (some (.Name r np)) none (b₀::suite) hpos]) (SP X pins D) X.xe s₃) X.xe s₂) X.xe s₁:Value->Shared->Prop)=W;refine wpAny_mono (hb W pins σ s H (yw D) (vU X.K R th D σ) ?_ (I.wish W) h) (λfl s1 hv=>?_) λ_ _ x=>x
 rotate_left
 ·cases fl with
  |next=>obtain⟨σ',H1,I1,q1⟩:=hv;exact wpAny_execs_nil ⟨σ',H1,I1.unwish,q1⟩
  |ret u=>obtain⟨_,_,_,_,_,z⟩:=hv;exact z.elim
  |brk=>obtain⟨_,_,_,z⟩:=hv;exact z.elim
  |cont=>obtain⟨_,_,_,z⟩:=hv;exact z.elim
 intro H1 s1 ev s2 I1w hcx;have I1:=I1w.unwish;obtain⟨d,⟨ea,cls,a0,B,H2,rfl,os,bare,un,hok,fl,b1,b2,hea,hnew,hhit,hth⟩,ea',ob,eea,eob,dob⟩:=hcx;cases eea;show W (.ref ea) s2;rw[<- hW];refine uV hstk hfr I1 os bare un hok fl b1 b2 hea hnew ⟨ob,eob,dob⟩ λh4 oe4 vs4 fl4 ce4 dd4 de4 K4 J=>?_
 have ge4:h4.get? ea=some oe4:=mO K4;have pe:=K4.pin (ea,oe4) (M6 ..);have LT:PySem.W.Looks (model X.prog X.w) h4 (typeOf (.ref ea)) cls:=by rw[<- ce4];exact(PySem.W.Looks.ld ge4).andThen .now
 refine wpAny_handleBy_cons (codeAny_handlers_test (dR K4 (hg ea oe4) hR ((PySem.W.exm_one K4.kIn LT hhit).here ?_) hdb)) (λz=>nomatch z);show codeAny _ _ _ _ _;refine codeAny_handlers_suite (wpAny_mono (wR fl4 ge4 dd4 J hea pe.2.2.1 pe.2.2.2.1 hth) (λ_ s5 ⟨oe5,K5,ht⟩=>?_) λ_ _ z=>z.elim);exact wT I.ok hsu K5 ht λs7 ⟨σ',H',I7,q7⟩=>⟨σ',H',I7,q7⟩
theorem D1{L:Addr}(hstk:X.stack=X.env::X.outer)(hfr:X.env.frame=some L)(hx:PXV X ex tx)
 (hg:∀ea oe,Gl (cxH X ea oe) r) (hR:X.mg r=some (.ref R)) (hg2:∀ea oe,Gl (cxH X ea oe) r2) (hR2:X.mg r2=some (.ref R2)) (hN:X.N.Nodup) (hi:X.N[i]?=some n) (hk:X.env.scope.names.lookup n=some .local) (hsu:∀ea oe,PSs (cxH X ea oe) (b₀::suite) (th ea oe)) (hsu2:∀ea oe,PSs (cxH X ea oe) (b₂::suite2) (th2 ea oe))
 (hsw:swapsWith ex none epos.line X.env=pure false:=by rfl) (hdb:(r == ("__debug__":Str))=false:=by decide) (hdb2:(r2 == ("__debug__":Str))=false:=by decide) :
 PS X (.Try [.Expr ex epos] [.ExceptHandler (some (.Name r np)) (some n) (b₀::suite) hpos,.ExceptHandler (some (.Name r2 np2)) none (b₂::suite2) hpos2] [] [] pos) (BK X.K tx R i th R2 th2):=by
 intro pins s σ H D I h;refine wpAny_Try_except ?_;generalize hW:(λe s₁=>wpAny (model X.prog X.w) X.A (noteFrame e X.env) (λ_ s₂=>wpAny (model X.prog X.w) X.A (setFlight e none) (λ_ s₃=>wpAny (model X.prog X.w) X.A (handleBy e X.env [.ExceptHandler (some (.Name r np)) (some n) (b₀::suite) hpos,.ExceptHandler (some (.Name r2 np2)) none (b₂::suite2) hpos2]) (SP X pins D) X.xe s₃) X.xe s₂) X.xe s₁:Value->Shared->Prop)=W;refine wpAny_execs_cons ?_;refine wpAny_Expr_any (wpAny_mono (hx W pins σ s H (λ_ H'=>D.nx σ H') (A5 X.K R i th R2 th2 D σ) ?_ (I.wish W) h) (λv s1 hv=>?_) λ_ _ x=>x) I.quiet hsw
 rotate_left
 ·obtain⟨x,H1,I1,r1,q1⟩:=hv;exact wpAny_execs_nil (wpAny_execs_nil ⟨σ,H1,I1.unwish,q1⟩)
 intro H1 s1 ev s2 I1w hcx;have I1:=I1w.unwish;obtain⟨d,⟨ea,cls,a0,B,H2,rfl,os,bare,un,hok,fl,b1,b2,hea,hnew,hE⟩,ea',ob,eea,eob,dob⟩:=hcx;cases eea;show W (.ref ea) s2;rw[<- hW];refine uV hstk hfr I1 os bare un hok fl b1 b2 hea hnew ⟨ob,eob,dob⟩ λh4 oe4 vs4 fl4 ce4 dd4 de4 K4 J=>?_
 have ge4:h4.get? ea=some oe4:=mO K4;have pe:=K4.pin (ea,oe4) (M6 ..);have LT:PySem.W.Looks (model X.prog X.w) h4 (typeOf (.ref ea)) cls:=by rw[<- ce4];exact(PySem.W.Looks.ld ge4).andThen .now
 rcases hE with⟨hhit,hth⟩ |⟨hmiss,hhit,hth⟩
 ·refine wpAny_handleBy_cons (codeAny_handlers_test (dR K4 (hg ea oe4) hR ((PySem.W.exm_one K4.kIn LT hhit).here ?_) hdb)) (λz=>nomatch z);show codeAny _ _ _ _ _;refine codeAny_handlers_suite_as (wpAny_mono (wS I.ok fl4 ge4 dd4 J hea pe.2.2.1 pe.2.2.2.1 hN hi hk hsu hth) (λ_ s5 ⟨oe5,K5,ht⟩=>?_) λ_ _ z=>z.elim);refine lf (X:=cxH X ea oe5) (v:=.ref ea) K5 hN hi (.inl hk) rfl (λs6 I6=>?_) (.inr hk);refine wU I.ok hN hi hk hsu K5 ht (λs7 ⟨σ',H',I7,q7⟩=>?_) s6 I6;show wpAny _ _ _ _ _ _;exact zz I7 hN hi hk λs8 I8=>⟨_,H',I8,q7⟩
 ·refine wpAny_handleBy_cons (codeAny_handlers_test (dR K4 (hg ea oe4) hR ((PySem.W.exm_one K4.kIn LT hmiss).here ?_) hdb)) (λz=>nomatch z);show wpAny _ _ _ _ _ _;refine wpAny_handleBy_cons (codeAny_handlers_test (dR K4 (hg2 ea oe4) hR2 ((PySem.W.exm_one K4.kIn LT hhit).here ?_) hdb2)) (λz=>nomatch z);show codeAny _ _ _ _ _;refine codeAny_handlers_suite (wpAny_mono (wR fl4 ge4 dd4 J hea pe.2.2.1 pe.2.2.2.1 hth) (λ_ s5 ⟨oe5,K5,ht⟩=>?_) λ_ _ z=>z.elim);exact wT I.ok hsu2 K5 ht λs7 ⟨σ',H',I7,q7⟩=>⟨σ',H',I7,q7⟩
end
section
variable {X:Cx}{k j:Nat}{f:Addr}{fd:FuncData}{ps P:List Str}{sp:Sp}{x:Str}{p pos apos cpos pos':Pos}{e o a b:Expr}{es:List Expr}{ta tb te to:TE}{t:TA}{sc:Scope}{op:CmpOp}{r:R2}
end
section
variable {X:Cx}{K:PySem.W.Frag}
def xX(K:PySem.W.Frag):R2:=λx y H Q=>∃(a b:Addr) (bs:List Bool),x=.ref a/\y=.ref b/\SqL K H a (bs.map V.bl)/\SqL K H b (bs.map V.bl)/\Q (.bl true) H
theorem Kd(b:Bool):MeetsSeq.EqGives (.bool b) (.bool b) true:=λprog w A E s Q h=>by unfold eqBool;show wpAny _ _ (if(Value.bool b == Value.bool b)=true then _ else _) Q E s;rw[if_pos (beq_self_eq_true _)];exact wpAny_bind (wpAny_rule (wpAny_pure h))
theorem u8:∀{bs:List Bool} {us:List Value},Vals (bs.map V.bl) us->us=bs.map Value.bool
 | [],_,.nil=>rfl
 |b::bs,_,.cons h t=>by cases h;rw[u8 t];rfl
theorem EA(hu:X.A.units+66<cLine):OpR X (compareOp .Eq) (xX X.K):=by
 intro pins s σ H x y v u Q I rx ry h;obtain⟨a,b,bs,rfl,rfl,ha,hb,q⟩:=h;cases rx;cases ry;obtain⟨i1,r1,p1,_⟩:=I.list ha;obtain⟨i2,r2,p2,_⟩:=I.list hb;obtain rfl:=u8 r1;obtain rfl:=u8 r2;refine SeqAt.eq_listAt (e:=λ_=>true) p1.isList p2.isList rfl (by omega) (λj h1 h2=>?_) ⟨.bl _,H,I,?_,q⟩
 ·have e:(bs.map Value.bool).toArray[j]=Value.bool (bs[j]'(by simpa using h1)):=by simp
  rw[e];exact(Kd _).at X.A.in1 s
 ·show Value.bool _=Value.bool _
  congr 1
  rw[List.all_eq_true]
  exactλ_ _=>rfl
theorem Ez(h:X.K=K)(hu:X.A.units+66<cLine):OpR X (compareOp .Eq) (xX K):=by subst h;exact EA hu
end
section
variable {prog:Program}{w:World}{A:Around}{E:Value->Shared->Prop}{s:Shared}
end
section
variable {X:Cx}{K:PySem.W.Frag}{pos:Pos}
end
section
variable {X:Cx}{K:PySem.W.Frag}
end
section
variable {X:Cx}{K:PySem.W.Frag}
end
structure CalVE(P:Program)(w:World)(K:PySem.W.Frag)(mg:Str->Option Value)(base:Heap)(k:Nat)(x:Str)(ps:List Str)(sp:Sp)(f:Addr)(fd:FuncData):Prop where
 ok:FnOk P w K mg base (CXV P w) k f fd ps sp
 mg:mg x=some (.ref f)
 kp:PySem.W.keepIn K (.ref f)=true
 bd:Binds K fd ps []
 bd1:Binds K fd ps [.none]
 bd2:Binds K fd ps [.none,.none]
end L2
open PySem.W in
local macro_rules | `(tactic|walk_at "comp_ok")=>`(tactic|exact⟨by with_unfolding_all rfl,by decide +kernel,rfl,by decide +kernel,by repeat' (first |exact List.forall_mem_nil _ |refine List.forall_mem_cons.2 ⟨rfl,?_⟩),by rfl,by repeat' (first |exact .nil |refine .cons ⟨rfl,by first |exact Or.inl rfl |exact Or.inr rfl,rfl⟩ ?_)⟩)
namespace R44
open PySem L2 RM
noncomputable def top(i:Nat):Stmt:=PySem.Challenge.pw_rootspan_k44_too_great.main.body.getD i (.Pass ⟨0,0,0,0⟩)
abbrev ke:Stmt:=fu (top 7) 0
abbrev j3:Stmt:=fu (top 8) 0
abbrev jg:Stmt:=top 10
abbrev jf:Stmt:=top 11
abbrev i6:Stmt:=top 12
abbrev j9:Stmt:=fu (top 13) 0
abbrev j5:Stmt:=fu (top 13) 1
abbrev j6:Stmt:=fu (top 13) 2
abbrev j4:Stmt:=fu (top 13) 3
abbrev j8:Stmt:=fu (top 13) 5
abbrev j7:Stmt:=fu (top 13) 7
abbrev jn:Stmt:=top 15
abbrev jH:Stmt:=top 16
abbrev jP:Stmt:=top 17
abbrev i9:Stmt:=top 18
abbrev jK:Stmt:=top 19
abbrev ju:Stmt:=top 20
abbrev jd:Stmt:=top 21
abbrev gu:Stmt:=top 22
abbrev jo:Stmt:=top 23
abbrev i7:Stmt:=top 24
abbrev je:Stmt:=top 25
abbrev jG:Stmt:=top 27
abbrev jh:Stmt:=top 28
abbrev jy:Stmt:=top 29
abbrev ji:Stmt:=top 31
abbrev jj:Stmt:=top 32
abbrev jL:Stmt:=top 33
abbrev jI:Stmt:=top 34
abbrev jN:Stmt:=top 36
abbrev jM:Stmt:=top 37
abbrev jw:Stmt:=top 38
abbrev jt:Stmt:=top 39
abbrev jB:Stmt:=top 40
abbrev ja:Stmt:=top 41
abbrev jC:Stmt:=top 42
abbrev jc:Stmt:=top 43
abbrev jv:Stmt:=top 44
abbrev jO:Stmt:=top 45
abbrev jF:Stmt:=top 47
abbrev jJ:Stmt:=top 48
abbrev jp:Stmt:=top 49
abbrev iZ:Stmt:=top 50
abbrev jA:Stmt:=top 54
abbrev jE:Stmt:=top 55
abbrev jz:Stmt:=top 56
abbrev jb:Stmt:=top 57
abbrev i8:Stmt:=top 58
abbrev kc:Stmt:=fu (top 61) 0
abbrev jr:Stmt:=top 62
abbrev jl:Stmt:=top 63
abbrev jm:Stmt:=top 64
abbrev jx:Stmt:=top 65
abbrev jq:Stmt:=top 66
abbrev jD:Stmt:=top 67
abbrev jk:Stmt:=top 68
abbrev jZ:Stmt:=top 70
abbrev jQ:Stmt:=top 71
abbrev jY:Stmt:=top 72
abbrev jT:Stmt:=top 73
abbrev jS:Stmt:=top 74
abbrev jR:Stmt:=top 75
abbrev jX:Stmt:=top 76
abbrev gv:Stmt:=top 77
abbrev jW:Stmt:=top 78
abbrev jU:Stmt:=top 79
abbrev jV:Stmt:=top 80
abbrev eR:Stmt:=top 81
theorem Dh:FnScope ["self","many"] ["self","many"] (ag ke):=⟨rfl,rfl,rfl,by decide +kernel,rfl,by decide +kernel,by decide +kernel⟩
theorem Da:FnScope ["self","degree"] ["self","degree"] (ag j3):=⟨rfl,rfl,rfl,by decide +kernel,rfl,by decide +kernel,by decide +kernel⟩
theorem sc_shared:FnScope ["row","divisor","value"] ["row"] (ag jg):=⟨rfl,rfl,rfl,by decide +kernel,rfl,by decide +kernel,by decide +kernel⟩
theorem sc_shared_by_two:FnScope ["one","other","greater","less","rest"] ["one","other"] (ag jf):=⟨rfl,rfl,rfl,by decide +kernel,rfl,by decide +kernel,by decide +kernel⟩
theorem CC:FnScope ["value"] ["value"] (ag i6):=⟨rfl,rfl,rfl,by decide +kernel,rfl,by decide +kernel,by decide +kernel⟩
theorem sc_Ratio___init__:FnScope ["self","top","bottom","divisor"] ["self","top","bottom"] (ag j9):=⟨rfl,rfl,rfl,by decide +kernel,rfl,by decide +kernel,by decide +kernel⟩
theorem Dc:FnScope ["self","other"] ["self","other"] (ag j5):=⟨rfl,rfl,rfl,by decide +kernel,rfl,by decide +kernel,by decide +kernel⟩
theorem Dd:FnScope ["self","other"] ["self","other"] (ag j6):=⟨rfl,rfl,rfl,by decide +kernel,rfl,by decide +kernel,by decide +kernel⟩
theorem Db:FnScope ["self","other"] ["self","other"] (ag j4):=⟨rfl,rfl,rfl,by decide +kernel,rfl,by decide +kernel,by decide +kernel⟩
theorem Df:FnScope ["self","other"] ["self","other"] (ag j8):=⟨rfl,rfl,rfl,by decide +kernel,rfl,by decide +kernel,by decide +kernel⟩
theorem De:FnScope ["self"] ["self"] (ag j7):=⟨rfl,rfl,rfl,by decide +kernel,rfl,by decide +kernel,by decide +kernel⟩
theorem sc_poly:FnScope ["row","length"] ["row"] (ag jn):=⟨rfl,rfl,rfl,by decide +kernel,rfl,by decide +kernel,by decide +kernel⟩
theorem CU:FnScope ["row"] ["row"] (ag jH):=⟨rfl,rfl,rfl,by decide +kernel,rfl,by decide +kernel,by decide +kernel⟩
theorem sc_added:FnScope ["first","second","length"] ["first","second"] (ag jP):=⟨rfl,rfl,rfl,by decide +kernel,rfl,by decide +kernel,by decide +kernel⟩
theorem sc_taken:FnScope ["first","second","length"] ["first","second"] (ag i9):=⟨rfl,rfl,rfl,by decide +kernel,rfl,by decide +kernel,by decide +kernel⟩
theorem CW:FnScope ["row","place"] ["row","place"] (ag jK):=⟨rfl,rfl,rfl,by decide +kernel,rfl,by decide +kernel,by decide +kernel⟩
theorem sc_multiplied:FnScope ["first","second","product","j","one","k","other"] ["first","second"] (ag ju):=⟨rfl,rfl,rfl,by decide +kernel,rfl,by decide +kernel,by decide +kernel⟩
theorem CH:FnScope ["row"] ["row"] (ag jd):=⟨rfl,rfl,rfl,by decide +kernel,rfl,by decide +kernel,by decide +kernel⟩
theorem sc_shrunk:FnScope ["row","divisor"] ["row"] (ag gu):=⟨rfl,rfl,rfl,by decide +kernel,rfl,by decide +kernel,by decide +kernel⟩
theorem sc_plain:FnScope ["row","small"] ["row"] (ag jo):=⟨rfl,rfl,rfl,by decide +kernel,rfl,by decide +kernel,by decide +kernel⟩
theorem sc_value_parts:FnScope ["row","top","bottom","above","below","value"] ["row","top","bottom"] (ag i7):=⟨rfl,rfl,rfl,by decide +kernel,rfl,by decide +kernel,by decide +kernel⟩
theorem CI:FnScope ["row","ratio"] ["row","ratio"] (ag je):=⟨rfl,rfl,rfl,by decide +kernel,rfl,by decide +kernel,by decide +kernel⟩
theorem sc_divided:FnScope ["first","second","size","sign","steps","factor","quotient","rest","place","lead"] ["first","second"] (ag jG):=⟨rfl,rfl,rfl,by decide +kernel,rfl,by decide +kernel,by decide +kernel⟩
theorem CJ:FnScope ["row","factor"] ["row","factor"] (ag jh):=⟨rfl,rfl,rfl,by decide +kernel,rfl,by decide +kernel,by decide +kernel⟩
theorem sc_lowered:FnScope ["row","second","place","lead","kept","k","value"] ["row","second","place","lead"] (ag jy):=⟨rfl,rfl,rfl,by decide +kernel,rfl,by decide +kernel,by decide +kernel⟩
theorem CK:FnScope ["polynomial"] ["polynomial"] (ag ji):=⟨rfl,rfl,rfl,by decide +kernel,rfl,by decide +kernel,by decide +kernel⟩
theorem sc_row_from:FnScope ["first","second","row","one","other","rest"] ["first","second"] (ag jj):=⟨rfl,rfl,rfl,by decide +kernel,rfl,by decide +kernel,by decide +kernel⟩
theorem sc_changes:FnScope ["row","ratio","many","before","polynomial","sign"] ["row","ratio"] (ag jL):=⟨rfl,rfl,rfl,by decide +kernel,rfl,by decide +kernel,by decide +kernel⟩
theorem CV:FnScope ["row","low","high"] ["row","low","high"] (ag jI):=⟨rfl,rfl,rfl,by decide +kernel,rfl,by decide +kernel,by decide +kernel⟩
theorem sc_bound:FnScope ["row","last","greatest","size"] ["row"] (ag jN):=⟨rfl,rfl,rfl,by decide +kernel,rfl,by decide +kernel,by decide +kernel⟩
theorem sc_cells:FnScope ["row","chain","high","low","waiting","found","cell","many","cut","there"] ["row"] (ag jM):=⟨rfl,rfl,rfl,by decide +kernel,rfl,by decide +kernel,by decide +kernel⟩
theorem CM:FnScope ["low","high"] ["low","high"] (ag jw):=⟨rfl,rfl,rfl,by decide +kernel,rfl,by decide +kernel,by decide +kernel⟩
theorem sc_narrowed:FnScope ["row","low","high","width","reach","steps","found"] ["row","low","high","width"] (ag jt):=⟨rfl,rfl,rfl,by decide +kernel,rfl,by decide +kernel,by decide +kernel⟩
theorem sc_halvings:FnScope ["reach","width","wide","goal","steps"] ["reach","width"] (ag jB):=⟨rfl,rfl,rfl,by decide +kernel,rfl,by decide +kernel,by decide +kernel⟩
theorem sc_stretched:FnScope ["row","low","reach","bottom","start","step","found","power","value"] ["row","low","reach"] (ag ja):=⟨rfl,rfl,rfl,by decide +kernel,rfl,by decide +kernel,by decide +kernel⟩
theorem sc_halved:FnScope ["row","end","steps","place","pieces","ahead","left","k","there"] ["row","end","steps"] (ag jC):=⟨rfl,rfl,rfl,by decide +kernel,rfl,by decide +kernel,by decide +kernel⟩
theorem sc_spread:FnScope ["row","found","factor","value"] ["row"] (ag jc):=⟨rfl,rfl,rfl,by decide +kernel,rfl,by decide +kernel,by decide +kernel⟩
theorem sc_moved:FnScope ["row","found","start","k"] ["row"] (ag jv):=⟨rfl,rfl,rfl,by decide +kernel,rfl,by decide +kernel,by decide +kernel⟩
theorem CY:FnScope ["low","reach","place","pieces"] ["low","reach","place","pieces"] (ag jO):=⟨rfl,rfl,rfl,by decide +kernel,rfl,by decide +kernel,by decide +kernel⟩
theorem CS:FnScope ["divisor","row"] ["divisor","row"] (ag jF):=⟨rfl,rfl,rfl,by decide +kernel,rfl,by decide +kernel,by decide +kernel⟩
theorem sc_common:FnScope ["first","second","one","other","rest"] ["first","second"] (ag jJ):=⟨rfl,rfl,rfl,by decide +kernel,rfl,by decide +kernel,by decide +kernel⟩
theorem sc_part:FnScope ["row","divisor","found"] ["row","divisor"] (ag jp):=⟨rfl,rfl,rfl,by decide +kernel,rfl,by decide +kernel,by decide +kernel⟩
theorem CB:FnScope ["row"] ["row"] (ag iZ):=⟨rfl,rfl,rfl,by decide +kernel,rfl,by decide +kernel,by decide +kernel⟩
theorem sc_least:FnScope ["row","low","high","whole","width","span","line","cell","square"] ["row","low","high"] (ag jA):=⟨rfl,rfl,rfl,by decide +kernel,rfl,by decide +kernel,by decide +kernel⟩
theorem CQ:FnScope ["whole"] ["whole"] (ag jE):=⟨rfl,rfl,rfl,by decide +kernel,rfl,by decide +kernel,by decide +kernel⟩
theorem sc_line_of:FnScope ["whole","span","found"] ["whole","span"] (ag jz):=⟨rfl,rfl,rfl,by decide +kernel,rfl,by decide +kernel,by decide +kernel⟩
theorem CF:FnScope ["whole","span","other","last","together"] ["whole","span","other"] (ag jb):=⟨rfl,rfl,rfl,by decide +kernel,rfl,by decide +kernel,by decide +kernel⟩
theorem CD:FnScope ["factor","ratio"] ["factor","ratio"] (ag i8):=⟨rfl,rfl,rfl,by decide +kernel,rfl,by decide +kernel,by decide +kernel⟩
theorem Dg:FnScope ["self","row","low","high"] ["self","row","low","high"] (ag kc):=⟨rfl,rfl,rfl,by decide +kernel,rfl,by decide +kernel,by decide +kernel⟩
theorem sc_number:FnScope ["row","low","high","start","end","simple","many"] ["row","low","high"] (ag jr):=⟨rfl,rfl,rfl,by decide +kernel,rfl,by decide +kernel,by decide +kernel⟩
theorem CL:FnScope ["height"] ["height"] (ag jl):=⟨rfl,rfl,rfl,by decide +kernel,rfl,by decide +kernel,by decide +kernel⟩
theorem sc_refuse_great:FnScope ["row","limit"] ["row"] (ag jm):=⟨rfl,rfl,rfl,by decide +kernel,rfl,by decide +kernel,by decide +kernel⟩
theorem CO:FnScope ["simple","low","high"] ["simple","low","high"] (ag jx):=⟨rfl,rfl,rfl,by decide +kernel,rfl,by decide +kernel,by decide +kernel⟩
theorem sc_number_in:FnScope ["simple","low","high","row","span","half"] ["simple","low","high"] (ag jq):=⟨rfl,rfl,rfl,by decide +kernel,rfl,by decide +kernel,by decide +kernel⟩
theorem CP:FnScope ["ratio"] ["ratio"] (ag jD):=⟨rfl,rfl,rfl,by decide +kernel,rfl,by decide +kernel,by decide +kernel⟩
theorem sc_roots:FnScope ["row","simple"] ["row"] (ag jk):=⟨rfl,rfl,rfl,by decide +kernel,rfl,by decide +kernel,by decide +kernel⟩
theorem C4:FnScope ["_law_script","_law_k"] ["_law_script","_law_k"] (ag jZ):=⟨rfl,rfl,rfl,by decide +kernel,rfl,by decide +kernel,by decide +kernel⟩
theorem CZ:FnScope ["_law_found"] ["_law_found"] (ag jQ):=⟨rfl,rfl,rfl,by decide +kernel,rfl,by decide +kernel,by decide +kernel⟩
theorem sc__law_divisor:FnScope ["_law_one","_law_other","_law_rest"] ["_law_one","_law_other"] (ag jY):=⟨rfl,rfl,rfl,by decide +kernel,rfl,by decide +kernel,by decide +kernel⟩
theorem sc__law_poly:FnScope ["_law_found","_law_one"] ["_law_found"] (ag jT):=⟨rfl,rfl,rfl,by decide +kernel,rfl,by decide +kernel,by decide +kernel⟩
theorem sc__law_times:FnScope ["_law_one","_law_other","_law_found","_law_k","_law_j"] ["_law_one","_law_other"] (ag jS):=⟨rfl,rfl,rfl,by decide +kernel,rfl,by decide +kernel,by decide +kernel⟩
theorem C0:FnScope ["_law_found","_law_due"] ["_law_found","_law_due"] (ag jR):=⟨rfl,rfl,rfl,by decide +kernel,rfl,by decide +kernel,by decide +kernel⟩
theorem sc__law_made:FnScope ["_law_kind","_law_kp","_law_span","_law_found"] ["_law_kind","_law_kp","_law_span"] (ag jX):=⟨rfl,rfl,rfl,by decide +kernel,rfl,by decide +kernel,by decide +kernel⟩
theorem sc__law_refused:FnScope ["_law_kind","_law_kp","_law_span","_law_kinds","e"] ["_law_kind","_law_kp","_law_span"] (ag gv):=⟨rfl,rfl,rfl,by decide +kernel,rfl,by decide +kernel,by decide +kernel⟩
theorem sc__law_missed:FnScope ["_law_kp","_law_span","_law_many","_law_great","e"] ["_law_kp","_law_span"] (ag jW):=⟨rfl,rfl,rfl,by decide +kernel,rfl,by decide +kernel,by decide +kernel⟩
theorem sc__law_no_root:FnScope ["_law_last","_law_found","_law_great"] ["_law_last"] (ag jU):=⟨rfl,rfl,rfl,by decide +kernel,rfl,by decide +kernel,by decide +kernel⟩
theorem sc__law_near_one:FnScope ["_law_far","_law_kind","_law_found","_law_great","_law_kp"] ["_law_far","_law_kind"] (ag jV):=⟨rfl,rfl,rfl,by decide +kernel,rfl,by decide +kernel,by decide +kernel⟩
theorem sc_law:FnScope ["_law_script","_law_cell","_law_top","_law_bottom","_law_by","_law_due","_law_great","_law_span","_law_kind","_law_kp"] ["_law_script"] (ag eR):=⟨rfl,rfl,rfl,by decide +kernel,rfl,by decide +kernel,by decide +kernel⟩
structure Txt(K:PySem.W.Frag)(mg:Str->Option Value):Prop where
 abs_:mg "abs"=none
 len_:mg "len"=none
 max_:mg "max"=none
 range_:mg "range"=none
 enumerate_:mg "enumerate"=none
 reversed_:mg "reversed"=none
 list_:mg "list"=none
 sum_:mg "sum"=none
 any_:mg "any"=none
 isinstance_:mg "isinstance"=none
 int_:mg "int"=none
 bool_:mg "bool"=none
 ValueError_:mg "ValueError"=none
 HIGHEST_:∃t:Tok,mg "HIGHEST"=some (.int 8 t)
structure EXC(K:PySem.W.Frag)(mg:Str->Option Value)(base:Heap)(CTooGreat CNoRoot CTooHigh CRootError:Addr):Prop where
 mgTooGreat:mg "TooGreat"=some (.ref CTooGreat)
 mgNoRoot:mg "NoRoot"=some (.ref CNoRoot)
 mgTooHigh:mg "TooHigh"=some (.ref CTooHigh)
 mgRootError:mg "RootError"=some (.ref CRootError)
 ownTooGreat:PyProof.Rows.OwnCls "TooGreat" CTooGreat [.type "ValueError",.type "Exception",.type "BaseException",.type "object"] "ValueError.__new__" mg base
 clsTooGreat:ECls K CTooGreat
 hit_TooGreat_RootError:PySem.W.exmOne K (.ref CTooGreat) (.ref CRootError)=some true
 hit_TooGreat_TooGreat:PySem.W.exmOne K (.ref CTooGreat) (.ref CTooGreat)=some true
 hit_NoRoot_NoRoot:PySem.W.exmOne K (.ref CNoRoot) (.ref CNoRoot)=some true
 hit_TooGreat_NoRoot:PySem.W.exmOne K (.ref CTooGreat) (.ref CNoRoot)=some false
 is_TooGreat_ValueError:PySem.W.kitOne K (.ref CTooGreat) (.type "ValueError")=some true
 is_TooGreat_TooGreat:PySem.W.kitOne K (.ref CTooGreat) (.ref CTooGreat)=some true
 is_TooGreat_NoRoot:PySem.W.kitOne K (.ref CTooGreat) (.ref CNoRoot)=some false
def oH(K:PySem.W.Frag):Sp:=λvs H Q _=>∃(a:Addr) (ns:List Int),vs=[.ref a]/\SqL K H a (ns.map V.int)/\ns.length<=63/\∀H',Q (.bl true) H'
section
variable {P:Program}{w:World}{K:PySem.W.Frag}{mg:Str->Option Value}{base:Heap}
theorem rd(n:Nat):(List.replicate n [V.int 0]).flatten=(List.replicate n (0:Int)).map V.int:=by
 induction n with
 |zero=>rfl
 |succ n ih=>rw[Oj,OP,ih,Oj];rfl
theorem mK{n j:Nat}{i:Int}(e:i=j)(h:j<n):ixN n i=some j:=by subst e;unfold ixN;rw[if_pos (Pb _),if_pos (by omega)];simp
theorem pJ(l:List Int)(j:Nat)(x:Int):(l.map V.int).set j (.int x)=(l.set j x).map V.int:=by rw[List.map_set]
theorem kR{l:List Int}{j:Nat}{i:Int}(e:i=j)(h:j<l.length):atI (l.map V.int) i=some (.int (cf l j)):=by subst e;exact gd (by rw[List.getElem?_map,g7 h];rfl)
def SameB(p:Addr)(H H':Hp):Prop:=∀b o,b≠p->H b=some o->H' b=some o
theorem SameB.refl(p:Addr)(H:Hp):SameB p H H:=λ_ _ _ h=>h
theorem SameB.then_new{p q:Addr}{H H1:Hp}{o:HO}(s:SameB p H H1)(h:H1 q=none):SameB p H (upd H1 q o):=λb u n e=>by rw[upd_ne (aQ (s b u n e) h)];exact s b u n e
theorem SameB.then_upd{p:Addr}{H H1:Hp}{o:HO}(s:SameB p H H1):SameB p H (upd H1 p o):=λb u n e=>by rw[upd_ne n];exact s b u n e
def AllB(k:Nat)(l:List Int):Prop:=∀x∈l,Bits k x
theorem AllB.cf{k:Nat}{l:List Int}(h:AllB k l)(n:Nat):Bits k (cf l n):=by
 by_cases hn:n<l.length
 ·rw[dk hn];exact h _ (Od hn)
 ·rw[cc (N2 hn)];exact Bits.zero
theorem fg{H H2:Hp}{p:Addr}{o:HO}(s:Same H H2)(hp:H p=none):Same H (upd H2 p o):=λb u e=>by rw[upd_ne (aQ e hp)];exact s b u e
theorem Gu(l:List Int)(x:Int):l.map V.int++[V.int x]=(l++[x]).map V.int:=by rw[Nu];rfl
noncomputable def fX(ms:List Int)(lo hi:Option Int):List Int:=(ms.drop (HT.sIx ms.length 0 lo)).take (HT.sIx ms.length ms.length hi-HT.sIx ms.length 0 lo)
theorem uN(ms:List Int)(lo hi:Option Int):fW (ms.map V.int) lo hi=(fX ms lo hi).map V.int:=by unfold fW fX;rw[MY,<- List.map_drop,<- List.map_take]
theorem Kq{ms:List Int}{lo hi:Option Int}{x:Int}(h:x∈fX ms lo hi):x∈ms:=Pe (O2 h)
theorem AllB.cut{k:Nat}{ms:List Int}{lo hi:Option Int}(h:AllB k ms):AllB k (fX ms lo hi):=λx hx=>h x (Kq hx)
theorem AllB.app{k:Nat}{l r:List Int}(h1:AllB k l)(h2:AllB k r):AllB k (l++r):=λx hx=>(NM.mp hx).elim (h1 x) (h2 x)
theorem AllB.zeros{k n:Nat}:AllB k (List.replicate n 0):=λx hx=>by rw[List.eq_of_mem_replicate hx];exact Bits.zero
theorem AllB.mono{j k:Nat}{l:List Int}(h:AllB j l)(hk:j<=k:=by decide):AllB k l:=λx hx=>(h x hx).mono hk
theorem AllB.nil{k:Nat}:AllB k []:=λ_ h=>nomatch h
theorem AllB.snoc{k:Nat}{l:List Int}{x:Int}(h:AllB k l)(hx:Bits k x):AllB k (l++[x]):=h.app λy hy=>by rw[Nb.mp hy];exact hx
theorem Go{l:List Int}{x:Int}(h:x∈trim l):x∈l:=by
 unfold trim at h
 rw[List.mem_reverse]at h;exact List.mem_reverse.mp ((List.dropWhile_sublist _).subset h)
theorem AllB.trim{k:Nat}{l:List Int}(h:AllB k l):AllB k (trim l):=λx hx=>h x (Go hx)
theorem g6{l:List Int}{i:Nat}{x:V}(h:(l.map V.int)[i]?=some x):∃c,l[i]?=some c/\x=.int c/\c∈l/\l.take (i+1)=l.take i++[c]:=by
 rw[List.getElem?_map]at h;cases e:l[i]? with
 |none=>rw[e]at h;cases h
 |some c=>rw[e]at h;exact⟨c,rfl,(Option.some.inj h).symm,List.mem_of_getElem? e,by rw[NX,e];rfl⟩
def mkL(H:Hp)(Q:VK)(r:List Int):Prop:=∀(p:Addr) (H':Hp),Same H H'->H p=none->H' p=some (.lst (r.map V.int))->Q (.ref p) H'
def iU(K:PySem.W.Frag):Sp:=λvs H Q _=>∃(a:Addr) (ns:List Int),vs=[.ref a]/\SqL K H a (ns.map V.int)/\mkL H Q (trim ns)
def gq(K:PySem.W.Frag):Sp:=λvs H Q _=>∃(a:Addr) (ns:List Int) (k:Nat),vs=[.ref a,.int k]/\SqL K H a (ns.map V.int)/\Q (.int (ns.getD k 0)) H
def iY(K:PySem.W.Frag)(g:List Int->List Int->List Int):Sp:=λvs H Q _=>∃(a b:Addr) (xs ys:List Int),vs=[.ref a,.ref b]/\SqL K H a (xs.map V.int)/\SqL K H b (ys.map V.int)/\xs.length<=1000000/\ys.length<=1000000/\mkL H Q (g xs ys)
theorem yY(i j:Nat):(if((j:Nat):Int)>((i:Nat):Int)then((j:Nat):Int)else((i:Nat):Int))=((max i j:Nat):Int):=by split<;>omega
theorem oP{n:Nat}(h:n<=sizeLine) : -(2^62)<=((n:Nat):Int)/\((n:Nat):Int)<2^62:=by have:=sizeLine_eq;omega
def RwH(H:Hp)(ps:List Addr)(xss:List (List Int)):Prop:=ps.length=xss.length/\∀(i:Nat) (p:Addr) (xs:List Int),ps[i]?=some p->xss[i]?=some xs->H p=some (.lst (xs.map V.int))
theorem RwH.nil{H:Hp}:RwH H [] []:=⟨rfl,λi p xs h=>by simp at h⟩
theorem RwH.same{H H':Hp}{ps:List Addr}{xss:List (List Int)}(h:RwH H ps xss)(s:Same H H'):RwH H' ps xss:=⟨h.1,λi p xs a b=>s _ _ (h.2 i p xs a b)⟩
theorem RwH.snoc{H:Hp}{ps:List Addr}{xss:List (List Int)}{p:Addr}{xs:List Int}(h:RwH H ps xss)(hp:H p=some (.lst (xs.map V.int))):RwH H (ps++[p]) (xss++[xs]):=by
 refine⟨by rw[Nk,Nk,h.1];rfl,λi q ys a b=>?_⟩;by_cases hi:i<ps.length
 ·rw[List.getElem?_append_left hi]at a;rw[List.getElem?_append_left (by rw[<- h.1];exact hi)]at b;exact h.2 i q ys a b
 ·rw[List.getElem?_append_right (by omega)]at a;rw[List.getElem?_append_right (by rw[<- h.1];omega),<- h.1]at b;by_cases h0:i-ps.length=0
  ·rw[h0]at a b;obtain rfl:p=q:=by simpa using a
   obtain rfl:xs=ys:=by simpa using b
   exact hp
  ·rw[List.getElem?_eq_none_iff.mpr (by simp;omega)]at a;cases a
theorem RwH.get{H:Hp}{ps:List Addr}{xss:List (List Int)}{i:Nat}(h:RwH H ps xss)(hi:i<xss.length):∃p,ps[i]?=some p/\H p=some (.lst ((xss.getD i []).map V.int)):=by
 have hi':i<ps.length:=by rw[h.1];exact hi
 refine⟨ps[i],List.getElem?_eq_getElem hi',h.2 i _ _ (List.getElem?_eq_getElem hi') ?_⟩;rw[List.getElem?_eq_getElem hi];simp[List.getD,hi]
theorem RwH.of_get{H:Hp}{ps:List Addr}{xss:List (List Int)}{i:Nat}{x:V}(h:RwH H ps xss)(hx:(ps.map V.ref)[i]?=some x):∃p xs,x=.ref p/\ps[i]?=some p/\xss[i]?=some xs/\H p=some (.lst (xs.map V.int))/\i<xss.length:=by
 rw[List.getElem?_map]at hx;cases e:ps[i]? with
 |none=>rw[e]at hx;cases hx
 |some p =>
  rw[e]at hx;have hi:i<ps.length:=(List.getElem?_eq_some_iff.mp e).1;have hi':i<xss.length:=by rw[<- h.1];exact hi
  exact⟨p,xss[i],(Option.some.inj hx).symm,rfl,List.getElem?_eq_getElem hi',h.2 i p _ e (List.getElem?_eq_getElem hi'),hi'⟩
theorem Gv(ps:List Addr)(p:Addr):ps.map V.ref++[V.ref p]=(ps++[p]).map V.ref:=by rw[Nu];rfl
def sp2:Sp:=λvs H Q _=>∃a b:Int,vs=[.int a,.int b]/\Q (.int (Nat.gcd a.natAbs b.natAbs:Nat)) H
theorem nF(i:Int):(if i<0 then -i else i)=(i.natAbs:Int):=by split<;>omega
theorem ER{f:Addr}{fd:FuncData}(F:Fun K "shared_by_two" "shared_by_two" jf f fd)(T:Txt K mg):FnOk P w K mg base CX0 1 f fd ["one","other"] sp2:=by
 refine F.ok sc_shared_by_two (λvs H Q E h=>?_) (λcdv A outer s H vs Q E hr h=>?_)
 ·obtain⟨a,b,rfl,_⟩:=h;rfl
 ·obtain⟨a,b,rfl,k⟩:=h
  refine⟨_,(af (ak (i:=2) sc_shared_by_two.nd rfl (Or.inl rfl) (aT fz (by rfl) T.abs_ PyProof.Rows.boot_abs (aa (pv 0) ac)))
   (af (ak (i:=3) sc_shared_by_two.nd rfl (Or.inl rfl) (aT fz (by rfl) T.abs_ PyProof.Rows.boot_abs (aa (pv 1) ac)))
   (af (eX PassesOwn.never (aJ fL (pv 3) ad (aG _))
     (af (ak (i:=4) sc_shared_by_two.nd rfl (Or.inl rfl) (aj dN (pv 2) (pv 3)))
       (af (ak (i:=2) sc_shared_by_two.nd rfl (Or.inl rfl) (pv 3))
       (ai (ak (i:=3) sc_shared_by_two.nd rfl (Or.inl rfl) (pv 4))))))
   (ai (ay (pv 2)))))),?_⟩
  refine⟨_,rfl,_,rfl,?_⟩;refine⟨_,rfl,_,rfl,?_⟩;refine⟨λm σ' H'=>∃(x y:Int) (z:Option V),σ'=[some (.int a),some (.int b),some (.int x),some (.int y),z]/\H=H'/\0<=x/\0<=y/\y.natAbs=m/\Nat.gcd x.natAbs y.natAbs=Nat.gcd a.natAbs b.natAbs,⟨_,_,_,none,rfl,rfl,?_,?_,rfl,?_⟩,?_⟩
  ·rw[nF];exact Pb _
  ·rw[nF];exact Pb _
  ·rw[nF,nF,Np,Np]
  ·rintro m σ' H' ⟨x,y,z,rfl,rfl,hx,hy,rfl,hg⟩;refine⟨_,rfl,_,_,rfl,rfl,_,rfl,?_⟩;refine cK (λhn=>?_) (λh0=>?_)
   ·have hp:0<y:=by have:y≠0:=hn;omega
    refine⟨λσ'' H''=>∃m',m'<y.natAbs/\∃(x' y':Int) (z:Option V),σ''=[some (.int a),some (.int b),some (.int x'),some (.int y'),z]/\H=H''/\0<=x'/\0<=y'/\y'.natAbs=m'/\Nat.gcd x'.natAbs y'.natAbs=Nat.gcd a.natAbs b.natAbs,λ_ _ h=>h,?_⟩;refine⟨_,rfl,_,rfl,_,_,rfl,rfl,hp,?_⟩;refine⟨_,rfl,?_⟩;refine⟨_,rfl,?_⟩;have h1:=OC x (Nr hp);have h2:=OD x hp;exact⟨(x%y).natAbs,by omega,y,x%y,_,rfl,rfl,hy,h1,rfl,by rw[zB hx hp];exact hg⟩
   ·refine⟨_,rfl,?_⟩;have e:(y:Int)=0:=h0;subst e
    have e2:(x:Int)=((Nat.gcd a.natAbs b.natAbs:Nat):Int):=by rw[<- hg];show x=((Nat.gcd x.natAbs 0:Nat):Int);rw[Nat.gcd_zero_right];omega
    rw[e2];exact k
def oz(K:PySem.W.Frag):Sp:=λvs H Q _=>∃(a:Addr) (ns:List Int),vs=[.ref a]/\SqL K H a (ns.map V.int)/\Q (.int (aw ns:Nat)) H
theorem ES{f:Addr}{fd:FuncData}(F:Fun K "shared" "shared" jg f fd)(T:Txt K mg){ul:Addr}{tN:FuncData}(vZ:Cal P w K mg base 1 "shared_by_two" ["one","other"] sp2 ul tN):FnOk P w K mg base CX0 2 f fd ["row"] (oz K):=by
 obtain⟨vF,su,sR,vc⟩:=vZ;refine F.ok sc_shared (λvs H Q E h=>?_) (λcdv A outer s H vs Q E hr h=>?_)
 ·obtain⟨a,ns,rfl,_⟩:=h;rfl
 ·obtain⟨a,ns,rfl,hS,k⟩:=h
  refine⟨_,(af (ak (i:=1) sc_shared.nd rfl (Or.inl rfl) ad)
   (af (cL PassesOwn.never rfl (dL (K:=K) rfl (pv 0)) (bw (i:=2) sc_shared.nd rfl (Or.inl rfl))
     (ai (ak (i:=1) sc_shared.nd rfl (Or.inl rfl) (al vF (hr.mono) rfl su sR vc .nil ah (aa (pv 1) (aa (pv 2) ac))))))
   (ai (ay (pv 1))))),?_⟩
  refine⟨_,rfl,a,rfl,⟨_,hS⟩,tI (K:=K) (a:=a) (xs:=ns.map V.int) (λi σ' H'=>∃z:Option V,σ'=[some (.ref a),some (.int (aw (ns.take i):Nat)),z]/\H=H') ⟨none,rfl,rfl⟩ (λi σ' H' _ ⟨z,_,e⟩=>by rw[<- e];exact hS) ?_ ?_⟩
  ·rintro i y σ' H' hi ⟨z,rfl,rfl⟩;rw[List.getElem?_map]at hi;cases e:ns[i]? with
   |none=>rw[e]at hi;cases hi
   |some n =>
    rw[e]at hi;obtain rfl:=Option.some.inj hi;refine⟨_,rfl,_,rfl,_,_,rfl,?_⟩;have e3:ns.take (i+1)=ns.take i++[n]:=by rw[NX,e];rfl
    refine⟨some (.int n),?_,rfl⟩;rw[e3,ID,Np];rfl
  ·rintro σ' H' ⟨z,rfl,rfl⟩;refine⟨_,rfl,?_⟩;rw[MY,Oe];exact k
noncomputable def fv(t b:Int):List (Str×V):=cq "bottom" (.int b) (cq "top" (.int t) [])
theorem BG:¬(("top":Str)="bottom"):=by decide +kernel
theorem bM(t b:Int):(fv t b).lookup ("bottom":Str)=some (.int b):=by unfold fv;rw[eh,if_pos rfl]
theorem cF(t b:Int):(fv t b).lookup ("top":Str)=some (.int t):=by unfold fv;rw[eh,if_neg BG,eh,if_pos rfl]
theorem fS(t b:Int){m:Str}(h1:¬m="bottom")(h2:¬m="top"):(fv t b).lookup m=none:=by unfold fv;rw[eh,if_neg h1,eh,if_neg h2];rfl
structure RCI(K:PySem.W.Frag)(mg:Str->Option Value)(C:Addr):Prop where
 cl:Cls K C
 nT:NoAttr K C "top"
 nB:NoAttr K C "bottom"
 mg:mg "Ratio"=some (.ref C)
 ha:PySem.W.findIn K (.ref C) "__class__"=some (some (.builtin "object.__class__"))
 hn:PySem.W.specialIn K (.builtin "object.__class__") "__get__"=some (some (.builtin "getset_descriptor.__get__"))
 ht:PySem.W.takesIn K (.builtin "object.__class__")=some true
 hm:PySem.W.mroIn K C (.type "object")=some true
def RA(C:Addr)(H:Hp)(p:Addr)(t b:Int):Prop:=∃dx,H p=some (.ins C dx (fv t b))
theorem RA.same{C:Addr}{H H':Hp}{p:Addr}{t b:Int}(h:RA C H p t b)(s:Same H H'):RA C H' p t b:=let⟨dx,e⟩:=h;⟨dx,s _ _ e⟩
def mkR(C:Addr)(H:Hp)(Q:VK)(t b:Int):Prop:=∀(x:Addr) (H':Hp),Same H H'->H x=none->RA C H' x (rt t b) (rb t b)->Q (.ref x) H'
def cD(C:Addr):Sp:=λvs H Q _=>∃(p dx:Addr) (t b:Int),vs=[.ref p,.int t,.int b]/\H p=some (.ins C dx [])/\b≠0/\Bits 9000 b/\Q .non (upd H p (.ins C dx (fv (rt t b) (rb t b))))
theorem cE{C:Addr}{H1:Hp}{q:Addr->Hp->Prop}{E:XK}{t b:Int}(hb:b≠0)(bb:Bits 9000 b)(h:∀(x:Addr) (H':Hp),Same H1 H'->H1 x=none->RA C H' x (rt t b) (rb t b)->q x H'):∀x dx:Addr,H1 x=none->H1 dx=none->dx≠x->cD C (.ref x::([.int t,.int b]++[])) (upd (upd H1 dx (.own x)) x (.ins C dx [])) (λv H2=>v=.non/\q x H2) E:=λx dx nx ndx ne=>by
 refine⟨x,dx,t,b,rfl,ao,hb,bb,rfl,?_⟩;rw[nZ]
 have s0:Same H1 (upd (upd H1 dx (.own x)) x (.ins C dx (fv (rt t b) (rb t b)))):=λc o e=>by rw[upd_ne (aQ e nx),upd_ne (aQ e ndx)];exact e
 exact h x _ s0 nx ⟨dx,ao⟩
theorem zX{t b:Int}(hb:b≠0)(bb:Bits 9000 b):Bits 9000 (dv t b):=bb.of_le (by rw[ii];exact Nat.le_of_dvd (NP.mpr hb) (Oo _ _))
theorem FO{C f:Addr}{dV:Value}{fd:FuncData}(F:FunD K "__init__" "Ratio.__init__" j9 dV f fd)(T:Txt K mg)(R:RCI K mg C){ul:Addr}{tN:FuncData}(vZ:Cal P w K mg base 1 "shared_by_two" ["one","other"] sp2 ul tN):FnOk P w K mg base CX0 2 f fd ["self","top","bottom"] (cD C):=by
 obtain⟨vF,su,sR,vc⟩:=vZ;refine F.ok sc_Ratio___init__ (λvs H Q E h=>?_) (λcdv A outer s H vs Q E hr h=>?_)
 ·obtain⟨p,dx,t,b,rfl,_⟩:=h;rfl
 ·obtain⟨p,dx,t,b,rfl,hp,hb,bb,k⟩:=h
  refine⟨_,(af (aS (aJ cI (pv 2) ad (aG _))
   (ai rB)
   aU)
   (af (ak (i:=3) sc_Ratio___init__.nd rfl (Or.inl rfl) (al vF (hr.mono) rfl su sR vc .nil ah (aa (pv 1) (aa (pv 2) ac))))
   (af (aS (aJ dc (pv 2) ad (aG _))
     (ai (ak (i:=3) sc_Ratio___init__.nd rfl (Or.inl rfl) (bJ bG (pv 3))))
     aU)
   (af (lR (pv 0) (aj yo (pv 1) (pv 3)) rfl)
   (ai (lR (pv 0) (aj yo (pv 2) (pv 3)) rfl)))))),?_⟩
  refine bI ⟨_,rfl,_,_,rfl,rfl,_,rfl,aR (λh=>absurd h hb) (λ_=>?_)⟩;refine av ⟨_,rfl,_,rfl,t,b,rfl,?_⟩;refine lJ (λσ' H'=>H=H'/\σ'=[some (.ref p),some (.int t),some (.int b),some (.int (dv t b))]) ?_ ?_
  ·rintro σ' H' ⟨rfl,rfl⟩;refine⟨_,rfl,_,rfl,_,_,rfl,rfl,⟨qc hb,zX hb bb⟩,_,rfl,p,C,dx,_,rfl,hp,R.cl,R.nT,by show 0<1000;decide,?_⟩;refine⟨_,rfl,_,rfl,_,_,rfl,rfl,⟨qc hb,zX hb bb⟩,_,rfl,p,C,dx,_,rfl,ao,R.cl,R.nB,by show 1<1000;decide,?_⟩;show Q .non (upd (upd H p _) p _);rw[nZ];exact k
  ·intro rest;refine⟨_,rfl,_,_,rfl,rfl,_,rfl,?_⟩;refine aR (λh=>?_) (λh=>?_)
   ·refine⟨_,rfl,_,rfl,rest _ _ ⟨rfl,?_⟩⟩;have e:dv t b = -((Nat.gcd t.natAbs b.natAbs:Nat):Int):=by unfold dv;rw[if_pos h]
    rw[e];rfl
   ·refine rest _ _ ⟨rfl,?_⟩;have e:dv t b=((Nat.gcd t.natAbs b.natAbs:Nat):Int):=by unfold dv;rw[if_neg h]
    rw[e];rfl
def iV:Sp:=λvs H Q _=>∃x:Int,vs=[.int x]/\Q (.int (sg x)) H
theorem EE{f:Addr}{fd:FuncData}(F:Fun K "whole_sign" "whole_sign" i6 f fd)(T:Txt K mg):FnOk P w K mg base CX0 1 f fd ["value"] iV:=by
 refine F.ok CC (λvs H Q E h=>?_) (λcdv A outer s H vs Q E hr h=>?_)
 ·obtain⟨x,rfl,_⟩:=h;rfl
 ·obtain⟨x,rfl,k⟩:=h
  refine⟨_,(af (aS (aJ dc (pv 0) ad (aG _))
   (ai (ay (bJ bG ad)))
   aU)
   (af (aS (aJ gI (pv 0) ad (aG _))
     (ai (ay ad))
     aU)
   (ai (ay ad)))),?_⟩
  refine bI ⟨_,rfl,_,_,rfl,rfl,_,rfl,aR (λh=>?_) (λh=>?_)⟩
  ·have e:sg x = -1:=by unfold sg;rw[if_pos h]
   rw[e]at k;exact⟨_,rfl,k⟩
  refine bI ⟨_,rfl,_,_,rfl,rfl,_,rfl,aR (λh'=>?_) (λh'=>?_)⟩
  ·have e:sg x=1:=by unfold sg;rw[if_neg h,if_pos h']
   rw[e]at k;exact k
  ·have e:sg x=0:=by unfold sg;rw[if_neg h,if_neg h']
   rw[e]at k;exact k
def oO(C:Addr):Sp:=λvs H Q _=>∃(p q:Addr) (t b u d:Int),vs=[.ref p,.ref q]/\RA C H p t b/\RA C H q u d/\Bits 100000 t/\Bits 100000 b/\Bits 100000 u/\Bits 100000 d/\Q (.int (sg (t*d-u*b))) H
theorem FN{C f:Addr}{fd:FuncData}(F:Fun K "against" "Ratio.against" j8 f fd)(T:Txt K mg)(R:RCI K mg C){ia:Addr}{g8:FuncData}(iG:Cal P w K mg base 1 "whole_sign" ["value"] iV ia g8):FnOk P w K mg base CX0 2 f fd ["self","other"] (oO C):=by
 obtain⟨iB,gL,gT,iu⟩:=iG;refine F.ok Df (λvs H Q E h=>?_) (λcdv A outer s H vs Q E hr h=>?_)
 ·obtain⟨p,q,t,b,u,d,rfl,_⟩:=h;rfl
 ·obtain⟨p,q,t,b,u,d,rfl,⟨dx,hp⟩,⟨dy,hq⟩,bt,bb,bu,bd,k⟩:=h;refine⟨_,(ai (ay (al iB (hr.mono) rfl gL gT iu .nil ah (aa (aj cw (aj aO (aP (K:=K) rfl (pv 0) rfl) (aP (K:=K) rfl (pv 1) rfl)) (aj aO (aP (K:=K) rfl (pv 1) rfl) (aP (K:=K) rfl (pv 0) rfl))) ac)))),?_⟩;refine⟨_,rfl,p,C,dx,_,_,rfl,hp,R.cl,R.nT,cF _ _,_,rfl,q,C,dy,_,_,rfl,hq,R.cl,R.nB,bM _ _,_,_,rfl,rfl,⟨bt.mono,bd.mono⟩,?_⟩;exact⟨_,rfl,q,C,dy,_,_,rfl,hq,R.cl,R.nT,cF _ _,_,rfl,p,C,dx,_,_,rfl,hp,R.cl,R.nB,bM _ _,_,_,rfl,rfl,⟨bu.mono,bb.mono⟩,_,_,rfl,rfl,_,rfl,k⟩
theorem E1{f:Addr}{fd:FuncData}(F:Fun K "poly" "poly" jn f fd)(T:Txt K mg):FnOk P w K mg base CX0 1 f fd ["row"] (iU K):=by
 refine F.ok sc_poly (λvs H Q E h=>?_) (λcdv A outer s H vs Q E hr h=>?_)
 ·obtain⟨a,ns,rfl,_⟩:=h;rfl
 ·obtain⟨a,ns,rfl,hS,k⟩:=h
  refine⟨_,(af (ak (i:=1) sc_poly.nd rfl (Or.inl rfl) (aT (cH (K:=K) rfl) (by rfl) T.len_ PySem.boot_len (aa (pv 0) ac)))
   (af (eX PassesOwn.never (PW.pt (fK (aJ gI (pv 1) ad (aG _)) (km (aJ cI (aH (bK (K:=K) rfl) (pv 0) (aj cw (pv 1) ad) (λ_ _=>rfl)) ad (aG _)))))
     (ai (ak (i:=1) sc_poly.nd rfl (Or.inl rfl) (aj cw (pv 1) ad))))
   (ai (ay (o9 (oQ (K:=K) rfl) (pv 0) o0 (oZ (pv 1))))))),?_⟩
  refine⟨_,rfl,a,_,rfl,.inl hS,?_⟩;refine⟨λm σ' H'=>∃n:Nat,n<=ns.length/\σ'=[some (.ref a),some (.int n)]/\H=H'/\n=m/\trim (ns.take n)=trim ns,⟨_,ns.length,MZ _,?_,rfl,rfl,?_⟩,?_⟩
  ·rw[MY];rfl
  ·rw[Oe]
  ·rintro m σ' H' ⟨n,hn,rfl,rfl,rfl,ht⟩
   have fin:trim (ns.take n)=ns.take n->∃v,([some (V.ref a),some (V.int n)]:St)[0]?=some (some v)/\∃v_1,([some (V.ref a),some (V.int n)]:St)[1]?=some (some v_1)/\∃i,v_1=V.int i/\rk K v none (some i) H Q:=λh=>by
    refine⟨_,rfl,_,rfl,n,rfl,a,_,rfl,hS,λp hp=>k p _ (Same.upd_new hp) hp ?_⟩;rw[ao,<- ht,h]
    have e:fW (ns.map V.int) none (some (n:Int))=(ns.take n).map V.int:=by unfold fW;rw[HT.sIx_none,HT.sIx_nat,OE,N6,MY,Nat.min_eq_left hn,List.map_take]
    rw[e]
   refine⟨_,rfl,_,_,rfl,rfl,_,rfl,?_⟩;refine aR (λhp=>?_) (λhp=>?_)
   ·obtain⟨j,rfl⟩:∃j,n=j+1:=⟨n-1,by have:(0:Int)<n:=hp;omega⟩;have hj:j<ns.length:=hn;refine⟨_,rfl,_,rfl,_,_,rfl,rfl,a,_,j,.int (cf ns j),rfl,?_,hS,gd ?_,_,_,rfl,rfl,_,rfl,?_⟩
    ·show V.int (((j+1:Nat):Int)-1)=V.int j
     congr 1;omega
    ·rw[List.getElem?_map,g7 hj];rfl
    refine aR (λh0=>?_) (λh0=>?_)
    ·refine⟨λσ'' H''=>∃m',m'<j+1/\∃n:Nat,n<=ns.length/\σ''=[some (.ref a),some (.int n)]/\H=H''/\n=m'/\trim (ns.take n)=trim ns,λ_ _ h=>h,?_⟩;refine⟨_,rfl,_,_,rfl,rfl,j,N0 _,j,OF hj,?_,rfl,rfl,?_⟩
     ·show[some (V.ref a),some (V.int (((j+1:Nat):Int)-1))]=[some (V.ref a),some (V.int j)]
      congr 4;omega
     ·rw[<- ht,Bu hj h0]
    ·exact fin (Bv hj h0)
   ·obtain rfl:n=0:=by have:¬(0:Int)<n:=hp;omega
    exact fin (by rw[List.take_zero];rfl)
def fE:Sp:=λvs H Q _=>∃(a:Addr) (xs:List V),vs=[.ref a]/\H a=some (.lst xs)/\Q (.int ((xs.length:Int)-1)) H
theorem Fl{f:Addr}{fd:FuncData}(F:Fun K "degree" "degree" jH f fd)(T:Txt K mg):FnOk P w K mg base CX0 1 f fd ["row"] fE:=by
 refine F.ok CU (λvs H Q E h=>?_) (λcdv A outer s H vs Q E hr h=>?_)
 ·obtain⟨a,xs,rfl,_⟩:=h;rfl
 ·obtain⟨a,xs,rfl,hA,k⟩:=h;refine⟨_,(ai (ay (aj cw (aT (cH (K:=K) rfl) (by rfl) T.len_ PySem.boot_len (aa (pv 0) ac)) ad))),?_⟩;exact⟨_,rfl,a,_,rfl,.inl (SqL.of hA),_,_,rfl,rfl,k⟩
theorem Fo{f:Addr}{fd:FuncData}(F:Fun K "coefficient" "coefficient" jK f fd)(T:Txt K mg):FnOk P w K mg base CX0 1 f fd ["row","place"] (gq K):=by
 refine F.ok CW (λvs H Q E h=>?_) (λcdv A outer s H vs Q E hr h=>?_)
 ·obtain⟨a,ns,k,rfl,_⟩:=h;rfl
 ·obtain⟨a,ns,n,rfl,hS,k⟩:=h
  refine⟨_,(af (aS (aJ dc (pv 1) (aT (cH (K:=K) rfl) (by rfl) T.len_ PySem.boot_len (aa (pv 0) ac)) (aG _))
   (ai (ay (aH (bK (K:=K) rfl) (pv 0) (pv 1) (λ_ _=>rfl))))
   aU)
   (ai (ay ad))),?_⟩
  refine⟨_,rfl,_,rfl,a,_,rfl,.inl hS,_,_,rfl,rfl,_,rfl,?_⟩;refine aR (λh1=>?_) (λh1=>?_)
  ·rw[MY]at h1;have h2:n<ns.length:=by omega
   refine⟨_,rfl,_,rfl,a,_,_,_,rfl,rfl,hS,gd (v:=.int (ns.getD n 0)) ?_,k⟩;rw[List.getElem?_map,List.getElem?_eq_getElem h2];simp[List.getD,h2]
  ·rw[MY]at h1;have h2:ns.length<=n:=by omega
   have e:ns.getD n 0=0:=by simp[List.getD,List.getElem?_eq_none_iff.mpr h2]
   rw[e]at k;exact k
theorem EH{f:Addr}{fd:FuncData}(F:Fun K "taken" "taken" i9 f fd)(T:Txt K mg){ic:Addr}{hI:FuncData}(iI:Cal P w K mg base 1 "poly" ["row"] (iU K) ic hI){uv:Addr}{tX:FuncData}(v9:Cal P w K mg base 1 "coefficient" ["row","place"] (gq K) uv tX):FnOk P w K mg base CX0 2 f fd ["first","second"] (iY K cj):=by
 obtain⟨iD,gN,gW,ix⟩:=iI;obtain⟨nM,mz,mI,nv⟩:=v9;refine F.ok sc_taken (λvs H Q E h=>?_) (λcdv A outer s H vs Q E hr h=>?_)
 ·obtain⟨a,b,xs,ys,rfl,_⟩:=h;rfl
 ·obtain⟨a,b,xs,ys,rfl,hA,hB,hx,hy,k⟩:=h
  refine⟨_,(af (ak (i:=2) sc_taken.nd rfl (Or.inl rfl) (aT (uX rfl) (by rfl) T.max_ PyProof.Rows.boot_max (aa (aT (cH (K:=K) rfl) (by rfl) T.len_ PySem.boot_len (aa (pv 0) ac)) (aa (aT (cH (K:=K) rfl) (by rfl) T.len_ PySem.boot_len (aa (pv 1) ac)) ac))))
   (ai (ay (al iD (hr.mono) rfl gN gW ix .nil ah (aa (fb (own:=["k"]) (fr:=["first","second"]) (js:=[0,1]) (by walk_at "comp_ok") rfl (ku rfl T.range_ (aa (pv 2) ac)) (λ_ _ _ _=>(bw (i:=0) (show List.Nodup (["k","first","second"]:List Str)from by decide +kernel) rfl (Or.inl rfl))) (λ_ _ _ _=>(aj cw (al nM (hr.mono) rfl mz mI nv .nil ah (aa (pv 1) (aa (pv 0) ac))) (al nM (hr.mono) rfl mz mI nv .nil ah (aa (pv 2) (aa (pv 0) ac)))))) ac))))),?_⟩
  refine⟨_,rfl,a,_,rfl,.inl hA,_,rfl,b,_,rfl,.inl hB,_,_,rfl,?_⟩;rw[yY,MY,MY];have hz:max xs.length ys.length<=sizeLine:=by have:=sizeLine_eq;omega
  refine⟨_,rfl,_,rfl,(oP hz).1,(oP hz).2,uP (lo:=0) (n:=max xs.length ys.length) (λi zs σ' H'=>∃z:Option V,σ'=[z,some (.ref a),some (.ref b)]/\zs=((List.range i).map λk=>V.int (cf xs k-cf ys k))/\H=H') hz ⟨none,rfl,rfl,rfl⟩ ?_ ?_ ?_⟩
  ·rintro i zs σ' H' _ ⟨z,rfl,rfl,rfl⟩;simp
  ·rintro i zs σ' H' hi ⟨z,rfl,rfl,rfl⟩;refine⟨_,rfl,_,rfl,a,xs,i,?_,hA,_,rfl,_,rfl,b,ys,i,?_,hB,_,_,rfl,rfl,_,rfl,?_,rfl⟩
   ·show[V.ref a,V.int (0+(i:Int))]=_;rw[NO]
   ·show[V.ref b,V.int (0+(i:Int))]=_;rw[NO]
   ·rw[List.range_succ,Nu];rfl
  ·rintro zs σ' H' p ⟨z,rfl,rfl,rfl⟩ hp;refine⟨p,(List.range (max xs.length ys.length)).map λk=>cf xs k-cf ys k,rfl,SqL.of ?_,?_⟩
   ·rw[ao,N7];rfl
   ·intro p' H' sm hp' e;refine k p' H' ((Same.upd_new hp).trans sm) ((Same.upd_new hp).free hp') ?_;rw[e,BX]
def sp1(g:List Int->List Int):Sp:=λvs H Q _=>∃(a:Addr) (ns:List Int),vs=[.ref a]/\H a=some (.lst (ns.map V.int))/\ns.length<=100000/\AllB 100000 ns/\mkL H Q (g ns)
theorem FY{k:Nat}{n:Nat}(h:n<2^k):Bits k (n:Int):=by show((n:Int)).natAbs<2^k;rw[Np];exact h
theorem Cc{n:Nat}(h:n<=1000000):Bits 1000000 (n:Int):=(FY (k:=20) (Oc h (by decide))).mono
theorem DL(f:Nat->V)(i:Nat):(List.range i).map f++[f i]=(List.range (i+1)).map f:=by rw[List.range_succ,Nu];rfl
theorem EN{f:Addr}{fd:FuncData}(F:Fun K "slope" "slope" jd f fd)(T:Txt K mg):FnOk P w K mg base CX0 1 f fd ["row"] (sp1 slopeL):=by
 refine F.ok CH (λvs H Q E h=>?_) (λcdv A outer s H vs Q E hr h=>?_)
 ·obtain⟨a,ns,rfl,_⟩:=h;rfl
 ·obtain⟨a,ns,rfl,hA,hn,hb,k⟩:=h;have big:=sizeLine_eq;refine⟨_,(ai (ay (fb (own:=["k"]) (fr:=["row"]) (js:=[0]) (by walk_at "comp_ok") rfl (Ef rfl T.range_ (aa ad (aa (aT (cH (K:=K) rfl) (by rfl) T.len_ PySem.boot_len (aa (pv 0) ac)) ac))) (λ_ _ _ _=>(bw (i:=0) (show List.Nodup (["k","row"]:List Str)from by decide +kernel) rfl (Or.inl rfl))) (λ_ _ _ _=>(aj aO (pv 0) (aH (bK (K:=K) rfl) (pv 1) (pv 0) (λ_ _=>rfl))))))),?_⟩;have hl:(ns.map V.int).length=ns.length:=MY _;refine aX ⟨_,rfl,a,_,rfl,.inl (SqL.of hA),1,_,rfl,⟨by decide,by decide,by rw[hl];omega,by rw[hl];omega⟩,uP (lo:=1) (λi ys σ' H'=>∃z:Option V,σ'=[z,some (.ref a)]/\ys=((List.range i).map λ(j:Nat)=>V.int (((j:Int)+1)*cf ns (j+1)))/\H=H') (by rw[hl];omega) ⟨none,rfl,rfl,rfl⟩ ?_ ?_ ?_⟩
  ·rintro i ys σ' H' _ ⟨z,rfl,rfl,rfl⟩;simp
  ·rintro i ys σ' H' hi ⟨z,rfl,rfl,rfl⟩;rw[hl]at hi;have hi':i+1<ns.length:=by omega
   have e0:(1:Int)+(i:Int)=((i+1:Nat):Int):=by omega
   refine⟨_,rfl,_,rfl,_,rfl,a,_,_,_,rfl,rfl,SqL.of hA,kR e0 hi',_,_,rfl,rfl,⟨by rw[e0];exact Cc (by omega),(hb.cf _).mono⟩,_,rfl,?_,rfl⟩;rw[<- DL];show _++[V.int ((1+(i:Int))*cf ns (i+1))]=_;rw[Int.add_comm 1]
  ·rintro ys σ' H' p ⟨z,rfl,rfl,rfl⟩ hp;refine k p _ (Same.upd_new hp) hp ?_;have en:(((ns.map V.int).length:Int)-1).toNat=ns.length-1:=by rw[hl];omega
   rw[ao,en];unfold RM.slopeL;rw[N7];rfl
def oy:Sp:=λvs H Q _=>∃(a:Addr) (ns:List Int),vs=[.ref a]/\H a=some (.lst (ns.map V.int))/\Tr ns/\ns.length<=1000000/\mkL H Q (am ns)
theorem IE{ns:List Int}(ht:Tr ns)(hne:ns≠[]):0<(aw ns:Int):=by
 obtain⟨r,x,rfl⟩:=(cx ns).resolve_left hne;have hx:x≠0:=tr_snoc.mp ht;have hm:x∈r++[x]:=by simp
 have h1:0<aw (r++[x]):=Nat.pos_of_dvd_of_pos (pV hm) (NP.mpr hx);omega
theorem EQ{f:Addr}{fd:FuncData}(F:Fun K "shrunk" "shrunk" gu f fd)(T:Txt K mg)(hNS:base.NoSeer)(hTr:P.given.tree=none){um:Addr}{tO:FuncData}(v3:Cal P w K mg base 2 "shared" ["row"] (oz K) um tO):FnOk P w K mg base CX0 33 f fd ["row"] oy:=by
 obtain⟨vG,sv,sS,vf⟩:=v3;refine F.ok sc_shrunk (λvs H Q E h=>?_) (λcdv A outer s H vs Q E hr h=>?_)
 ·obtain⟨a,ns,rfl,_⟩:=h;rfl
 ·obtain⟨a,ns,rfl,hA,ht,hn,k⟩:=h;have big:=sizeLine_eq;have hdp:(A.deeper (PyProof.Rows.envOfC (Str.ofString "shrunk") (ag gu) s.heap.objs.size f cdv)).depth+100<recursionLimit:=by have:=hr.dp;omega
  refine⟨_,(af (ak (i:=1) sc_shrunk.nd rfl (Or.inr rfl) (al vG (hr.mono) rfl sv sS vf .nil ah (aa (pv 0) ac)))
   (ai (ay (fb (own:=["value"]) (fr:=["divisor"]) (js:=[1]) (by walk_at "comp_ok") rfl (dL (K:=K) rfl (pv 0)) (λ_ _ _ _=>(bw (i:=0) (show List.Nodup (["value","divisor"]:List Str)from by decide +kernel) rfl (Or.inl rfl))) (λ_ _ _ _=>(aj (Ew hNS hTr hdp rfl rfl rfl rfl rfl) (pv 0) (pv 1))))))),?_⟩
  refine av ⟨_,rfl,a,ns,rfl,SqL.of hA,?_⟩;refine aX ⟨_,rfl,a,rfl,⟨_,SqL.of hA⟩,ik (K:=K) (a:=a) (xs:=ns.map V.int) (λi ys σ' H'=>∃(z0:Option V),σ'=[z0,some (.int (aw ns:Nat))]/\ys=((ns.take i).map λx=>x/(aw ns:Int)).map V.int/\H=H') (by rw[MY];omega) ⟨none,rfl,rfl,rfl⟩ ?_ ?_ ?_⟩
  ·rintro i ys σ' H' _ ⟨z0,rfl,rfl,rfl⟩;exact⟨SqL.of hA,by rw[MY,MY,NV];exact O3 _ _⟩
  ·rintro i x ys σ' H' hi ⟨z0,rfl,rfl,rfl⟩;rw[List.getElem?_map]at hi;cases e:ns[i]? with
   |none=>rw[e]at hi;cases hi
   |some c =>rw[e]at hi;obtain rfl:=Option.some.inj hi;have g1:=IE ht (λz=>by rw[z]at e;simp at e);refine⟨_,rfl,_,rfl,_,_,rfl,rfl,g1,_,rfl,?_,rfl⟩;rw[NX,e];simp
  ·rintro ys σ' H' p ⟨z0,rfl,rfl,rfl⟩ hp;refine k p _ (Same.upd_new hp) hp ?_;rw[ao,MY,Oe];rfl
def ll:Sp:=λvs H Q _=>∃(a:Addr) (ns:List Int),vs=[.ref a]/\H a=some (.lst (ns.map V.int))/\Tr ns/\ns.length<=1000000/\mkL H Q (aC ns)
theorem AQ(r:List Int)(x:Int):atI ((r++[x]).map V.int) (-1)=some (.int x):=by rw[Nu];exact vw _ _
theorem E2{f:Addr}{fd:FuncData}(F:Fun K "plain" "plain" jo f fd)(T:Txt K mg){uk:Addr}{tM:FuncData}(vY:Cal P w K mg base 33 "shrunk" ["row"] oy uk tM):FnOk P w K mg base CX0 34 f fd ["row"] ll:=by
 obtain⟨nG,mr,mE,nk⟩:=vY;refine F.ok sc_plain (λvs H Q E h=>?_) (λcdv A outer s H vs Q E hr h=>?_)
 ·obtain⟨a,ns,rfl,_⟩:=h;rfl
 ·obtain⟨a,ns,rfl,hA,ht,hn,k⟩:=h;have big:=sizeLine_eq;have hu:=hr.units
  refine⟨_,(af (ak (i:=1) sc_plain.nd rfl (Or.inl rfl) (al nG (hr.mono) rfl mr mE nk .nil ah (aa (pv 0) ac)))
   (af (aS (PW.pt (fK (aJ (ma (K:=K) rfl hu) (pv 1) (aV ac) (aG _)) (km (aJ dc (aH (bK (K:=K) rfl) (pv 1) (bJ bG ad) (λ_ _=>rfl)) ad (aG _)))))
     (ai (ay (fb (own:=["value"]) (fr:=[]) (js:=[]) (by walk_at "comp_ok") rfl (dL (K:=K) rfl (pv 1)) (λ_ _ _ _=>(bw (i:=0) (show List.Nodup (["value"]:List Str)from by decide +kernel) rfl (Or.inl rfl))) (λ_ _ _ _=>(bJ bG (pv 0))))))
     aU)
   (ai (ay (pv 1))))),?_⟩
  refine av ⟨_,rfl,a,ns,rfl,hA,ht,hn,λp H1 s1 hp e1=>?_⟩;have hsl:(am ns).length=ns.length:=MY _;have done:cr (am ns)=am ns->Q (.ref p) H1:=λe=>k p H1 s1 hp (by rw[e1];show _=some (HO.lst ((cr (am ns)).map V.int));rw[e])
  refine lJ (λσ' H'=>σ'=[some (.ref a),some (.ref p)]/\Same H H'/\H' p=some (.lst ((am ns).map V.int))/\cr (am ns)=am ns) ?_ ?_
  ·rintro σ' H' ⟨rfl,s2,e2,e3⟩;exact⟨_,rfl,k p H' s2 hp (by rw[e2];show _=some (HO.lst ((cr (am ns)).map V.int));rw[e3])⟩
  intro rest;refine fJ ⟨_,rfl,M9 _,λq hq=>?_⟩;have s2:Same H (upd H1 q (.lst [])):=s1.then_new hq;have e2:upd H1 q (.lst []) p=some (.lst ((am ns).map V.int)):=by rw[upd_ne (aQ e1 hq)];exact e1
  refine⟨p,q,am ns,[],rfl,rfl,SqL.of e2,SqL.of ao,_,rfl,?_⟩;refine cK (λhne=>?_) (λhe=>?_)
  ·obtain⟨r,x,er⟩:=(cx (am ns)).resolve_left hne;refine⟨_,rfl,_,rfl,p,_,_,.int x,rfl,rfl,SqL.of e2,(by rw[er];exact AQ r x),_,_,rfl,rfl,_,rfl,?_⟩;have elast:ar (am ns)=x:=by rw[er,cM]
   refine aR (λhx=>?_) (λhx=>?_)
   ·have hx':x<0:=hx;have epos:cr (am ns)=(am ns).map λx => -x:=by unfold cr;rw[elast,if_pos hx']
    refine aX ⟨_,rfl,p,rfl,⟨_,SqL.of e2⟩,ik (K:=K) (a:=p) (xs:=(am ns).map V.int) (λi ys σ' H'=>∃(z0:Option V),σ'=[z0]/\ys=(((am ns).take i).map λx => -x).map V.int/\upd H1 q (.lst [])=H') (by rw[MY,hsl];omega) ⟨none,rfl,rfl,rfl⟩ ?_ ?_ ?_⟩
    ·rintro i ys σ' H' _ ⟨z0,rfl,rfl,rfl⟩;exact⟨SqL.of e2,by rw[MY,MY,NV];exact O3 _ _⟩
    ·rintro i x ys σ' H' hi ⟨z0,rfl,rfl,rfl⟩;rw[List.getElem?_map]at hi;cases e:(am ns)[i]? with
     |none=>rw[e]at hi;cases hi
     |some c =>rw[e]at hi;obtain rfl:=Option.some.inj hi;refine⟨_,rfl,_,rfl,_,rfl,?_,rfl⟩;rw[NX,e];simp
    ·rintro ys σ' H' p' ⟨z0,rfl,rfl,rfl⟩ hp';refine k p' _ (s2.then_new hp') (s2.free hp') ?_;rw[ao,MY,Oe];show _=some (HO.lst ((cr (am ns)).map V.int));rw[epos]
   ·exact rest _ _ ⟨rfl,s2,e2,by unfold cr;rw[elast,if_neg hx]⟩
  ·have he':am ns=[]:=he;exact rest _ _ ⟨rfl,s2,e2,by rw[he'];rfl⟩
def qz:Sp:=λvs H Q _=>∃(a:Addr) (xs:List Int) (c:Int),vs=[.ref a,.int c]/\H a=some (.lst (xs.map V.int))/\xs.length<=1000000/\Bits 1000000 c/\AllB 1000000 xs/\mkL H Q (scL c xs)
theorem ET{f:Addr}{fd:FuncData}(F:Fun K "scaled" "scaled" jh f fd)(T:Txt K mg):FnOk P w K mg base CX0 1 f fd ["row","factor"] qz:=by
 refine F.ok CJ (λvs H Q E h=>?_) (λcdv A outer s H vs Q E hr h=>?_)
 ·obtain⟨a,xs,c,rfl,_⟩:=h;rfl
 ·obtain⟨a,xs,c,rfl,hA,hn,bc,bx,k⟩:=h;have big:=sizeLine_eq;refine⟨_,(ai (ay (fb (own:=["value"]) (fr:=["factor"]) (js:=[1]) (by walk_at "comp_ok") rfl (dL (K:=K) rfl (pv 0)) (λ_ _ _ _=>(bw (i:=0) (show List.Nodup (["value","factor"]:List Str)from by decide +kernel) rfl (Or.inl rfl))) (λ_ _ _ _=>(aj aO (pv 1) (pv 0)))))),?_⟩;refine aX ⟨_,rfl,a,rfl,⟨_,SqL.of hA⟩,ik (K:=K) (a:=a) (xs:=xs.map V.int) (λi ys σ' H'=>∃(z0:Option V),σ'=[z0,some (.int c)]/\ys=(scL c (xs.take i)).map V.int/\H=H') (by rw[MY];omega) ⟨none,rfl,rfl,rfl⟩ ?_ ?_ ?_⟩
  ·rintro i ys σ' H' _ ⟨z0,rfl,rfl,rfl⟩;exact⟨SqL.of hA,by rw[MY,bZ,NV];exact O3 _ _⟩
  ·rintro i x ys σ' H' hi ⟨z0,rfl,rfl,rfl⟩;obtain⟨y,_,rfl,hm,et⟩:=g6 hi;refine⟨_,rfl,_,rfl,_,_,rfl,rfl,⟨bc,bx y hm⟩,_,rfl,?_,rfl⟩;rw[et];simp[scL]
  ·rintro ys σ' H' p ⟨z0,rfl,rfl,rfl⟩ hp;refine k p _ (Same.upd_new hp) hp ?_;rw[ao,MY,Oe]
theorem Af(ms:List Int):fX ms none (some (-1))=ms.take (ms.length-1):=by
 unfold fX;rw[HT.sIx_none,OE,N6]
 congr 1
 show(if(-1:Int)<0 then((-1:Int)+(ms.length:Int)).toNat else min (-1:Int).toNat ms.length)=_;rw[if_pos (by decide)];omega
theorem Az{ms:List Int}{n k:Nat}:cf (ms.take n) k=if k<n then cf ms k else 0:=by
 unfold cf;by_cases h:k<n
 ·rw[if_pos h];simp[List.getD,List.getElem?_take,h]
 ·rw[if_neg h];simp[List.getD,List.getElem?_take,h]
def qM:Sp:=λvs H Q _=>∃(a b:Addr) (rs ys:List Int) (p:Nat) (l:Int),vs=[.ref a,.ref b,.int p,.int l]/\H a=some (.lst (rs.map V.int))/\H b=some (.lst (ys.map V.int))/\rs.length=p+ys.length/\ys≠[]/\Bits 1000000 l/\AllB 1000000 ys/\mkL H Q (gQ rs ys p l)
theorem Fb{f:Addr}{fd:FuncData}(F:Fun K "lowered" "lowered" jy f fd)(T:Txt K mg):FnOk P w K mg base CX0 1 f fd ["row","second","place","lead"] qM:=by
 refine F.ok sc_lowered (λvs H Q E h=>?_) (λcdv A outer s H vs Q E hr h=>?_)
 ·obtain⟨a,b,rs,ys,p,l,rfl,_⟩:=h;rfl
 ·obtain⟨a,b,rs,ys,p,l,rfl,hA,hB,hl,hy,bl,by',k⟩:=h;have hyl:=M5.mpr hy
  refine⟨_,(af (ak (i:=4) sc_lowered.nd rfl (Or.inl rfl) (o9 (oQ (K:=K) rfl) (pv 0) o0 (oZ (bJ bG ad))))
   (af (cL PassesOwn.never rfl (rE rfl T.enumerate_ (aa (o9 (oQ (K:=K) rfl) (pv 1) o0 (oZ (bJ bG ad))) ac)) (rG rfl (kx (bw (i:=5) sc_lowered.nd rfl (Or.inl rfl)) (kx (bw (i:=6) sc_lowered.nd rfl (Or.inl rfl)) rF)))
     (ai (lT (aj cw (aH (bK (K:=K) rfl) (pv 4) (aj bQ (pv 2) (pv 5)) (λ_ _=>rfl)) (aj aO (pv 3) (pv 6))) (lX (pv 4) (aj bQ (pv 2) (pv 5)) lD))))
   (ai (ay (pv 4))))),?_⟩
  refine av ⟨_,rfl,_,rfl,_,rfl,a,_,rfl,SqL.of hA,λkp hkp=>?_⟩;rw[uN,Af];have s1:=Same.upd_new (o:=.lst ((rs.take (rs.length-1)).map V.int)) hkp;have nkb:b≠kp:=aQ hB hkp;refine⟨_,rfl,_,rfl,_,rfl,b,_,rfl,SqL.of (s1 _ _ hB),λp2 hp2=>?_⟩;rw[uN,Af];have n2:kp≠p2:=aQ ao hp2;generalize hH2:upd (upd H kp (.lst ((rs.take (rs.length-1)).map V.int))) p2 (.lst ((ys.take (ys.length-1)).map V.int))=H2;have hk2:H2 kp=some (.lst ((rs.take (rs.length-1)).map V.int)):=by rw[<- hH2,upd_ne n2,ao]
  have hq2:H2 p2=some (.lst ((ys.take (ys.length-1)).map V.int)):=by rw[<- hH2,ao]
  have s2:Same H H2:=by rw[<- hH2];exact s1.then_new hp2
  have lt:(rs.take (rs.length-1)).length=rs.length-1:=by rw[NV];omega
  have lty:(ys.take (ys.length-1)).length=ys.length-1:=by rw[NV];omega
  refine⟨p2,rfl,⟨_,SqL.of hq2⟩,tJ (K:=K) (a:=p2) (xs:=(ys.take (ys.length-1)).map V.int) (λi σ' H'=>∃(acc:List Int) (z5 z6:Option V),σ'=[some (.ref a),some (.ref b),some (.int p),some (.int l),some (.ref kp),z5,z6]/\SameB kp H2 H'/\H' kp=some (.lst (acc.map V.int))/\acc.length=rs.length-1/\∀n,n<acc.length->cf acc n=cf rs n-(if p<=n/\n-p<i then l*cf ys (n-p)else 0))
   ⟨_,none,none,rfl,SameB.refl _ _,hk2,lt,λn hn=>by rw[Az,if_pos (by omega),if_neg (by omega)];omega⟩ ?_ ?_ ?_⟩
  ·rintro i σ' H' _ ⟨acc,z5,z6,rfl,sb,_⟩;exact SqL.of (sb _ _ (Ne.symm n2) hq2)
  ·rintro i x σ' H' q hi ⟨acc,z5,z6,rfl,sb,hpa,hal,hac⟩ hq
   have hil:i<ys.length-1:=by apply Classical.byContradiction;intro hn;rw[List.getElem?_eq_none_iff.mpr (by rw[MY,lty];omega)]at hi;cases hi
   rw[List.getElem?_map,g7 (by rw[lty];exact hil),Az,if_pos hil]at hi;obtain rfl:=Option.some.inj hi;refine⟨q,_,rfl,SqT.of ao,rfl,_,_,rfl,_,_,rfl,rfl,?_⟩;have nqp:kp≠q:=aQ hpa hq;have hpa':upd H' q (.tup [.int i,.int (cf ys i)]) kp=some (.lst (acc.map V.int)):=by rw[upd_ne nqp];exact hpa
   have hpi:p+i<acc.length:=by omega
   have epi:((p:Nat):Int)+((i:Nat):Int)=((p+i:Nat):Int):=by omega
   refine⟨_,rfl,_,rfl,_,rfl,_,_,rfl,rfl,kp,_,_,_,rfl,rfl,SqL.of hpa',kR epi hpi,_,rfl,_,rfl,_,_,rfl,rfl,⟨bl,by'.cf i⟩,_,_,rfl,rfl,_,rfl,_,rfl,_,rfl,_,_,rfl,rfl,kp,_,_,p+i,rfl,rfl,hpa',mK epi (by rw[MY];exact hpi),?_⟩;refine⟨acc.set (p+i) (cf acc (p+i)-l*cf ys i),_,_,rfl,(sb.then_new hq).then_upd,by rw[ao,pJ],by rw[Ow];exact hal,λn hn=>?_⟩;rw[Ow]at hn;rw[ng hpi];by_cases e:n=p+i
   ·subst e;rw[if_pos rfl,hac _ hpi,if_neg (by omega),if_pos (by omega),Nat.add_sub_cancel_left];omega
   ·rw[if_neg e,hac n hn];by_cases h1:p<=n/\n-p<i
    ·rw[if_pos h1,if_pos (by omega)]
    ·rw[if_neg h1,if_neg (by omega)]
  ·rintro σ' H' ⟨acc,z5,z6,rfl,sb,hpa,hal,hac⟩;rw[MY,lty]at hac;refine⟨_,rfl,k kp H' (λb' o e=>sb b' o (aQ e hkp) (s2 b' o e)) hkp ?_⟩;rw[hpa]
   have e:acc=gQ rs ys p l:=by
    apply cN
    ·rw[hal,zb]
    ·intro n hn;have hn':n<rs.length-1:=by omega
     rw[hac n hn,qh,if_pos hn'];by_cases h1:p<=n
     ·have h2:p<=n/\n-p<ys.length-1:=⟨h1,by omega⟩;rw[if_pos h1,if_pos h2]
     ·have h2:¬(p<=n/\n-p<ys.length-1):=λz=>h1 z.1
      rw[if_neg h1,if_neg h2]
   rw[e]
theorem AllB.of_cf{k:Nat}{l:List Int}(h:∀n,Bits k (RM.cf l n)):AllB k l:=λx hx=>by
 obtain⟨i,hi,rfl⟩:=List.mem_iff_getElem.mp hx;have:=h i
 rwa [dk hi]at this
theorem vy{k:Nat}{x:Int}(h:Bits k x):Bits k ((x.natAbs:Nat):Int):=h.of_le (by rw[Np];exact MZ _)
theorem sg_bits{x:Int}:Bits 1 (sg x):=by show(sg x).natAbs<2^1;unfold sg;split<;>(try split)<;>decide
theorem lC{k:Nat}{x y:Int}(h:Bits k y):Bits k (sg x*y):=h.of_le (by
 rw[Nf];have h2:(sg x).natAbs<=1:=by unfold sg;split<;>(try split)<;>decide
 calc (sg x).natAbs*y.natAbs<=1*y.natAbs:=NC _ h2
  _=y.natAbs:=Nat.one_mul _)
theorem Ab{xs ys:List Int}{b:Nat}(hx:AllB b xs)(hy:AllB b ys):∀i,AllB (b+i*(b+1)) (aM xs ys i).1/\AllB (b+i*(b+1)) (aM xs ys i).2
 |0=>by rw[Nat.zero_mul];exact⟨AllB.zeros,hx⟩
 |i+1=>by
  obtain⟨h1,h2⟩:=Ab hx hy i;have e:b+(i+1)*(b+1)=b+i*(b+1)+b+1:=by rw[Nat.succ_mul];omega
  have hs:Bits b (((RM.cf ys (ys.length-1)).natAbs:Nat):Int):=vy (hy.cf _);rw[e];show AllB _ (cG ys (aM xs ys i) _).1/\AllB _ (cG ys (aM xs ys i) _).2;unfold cG;dsimp only
  constructor
  ·intro x hx;rcases List.mem_or_eq_of_mem_set hx with h |rfl
   ·obtain⟨y,hy',rfl⟩:=Nc.mp h;have:=hs.mul (h1 y hy');exact this.mono (by omega)
   ·exact(lC (h2.cf _)).mono (by omega)
  ·refine AllB.of_cf λn=>?_
   rw[qh];by_cases hn:n<(scL (((RM.cf ys (ys.length-1)).natAbs:Nat):Int) (aM xs ys i).2).length-1
   ·rw[if_pos hn,ba]
    have m1:Bits (b+i*(b+1)+b) ((((RM.cf ys (ys.length-1)).natAbs:Nat):Int)*RM.cf (aM xs ys i).2 n):=by have:=hs.mul (h2.cf n);rwa [Nat.add_comm]at this
    refine m1.sub ?_;by_cases hp:(xs.length+1-ys.length-1-i)<=n
    ·rw[if_pos hp];exact(lC (h2.cf _)).mul (hy.cf _)
    ·rw[if_neg hp];exact Bits.zero
   ·rw[if_neg hn];exact Bits.zero
theorem ir{k:Nat}{b:Int}(h:Bits k b):∀n,Bits (k*n+1) (b^n)
 |0=>by show((b^0:Int)).natAbs<2^(k*0+1);rw[NT,Nat.mul_zero];decide
 |n+1=>by rw[Nm];have:=(ir h n).mul h;exact this.mono (by rw[Nat.mul_succ];omega)
def Gh(H:Hp)(Q:VK)(xs ys:List Int):Prop:=∀(t q r:Addr) (H':Hp),Same H H'->H t=none->H q=none->H r=none->q≠r->q≠t->r≠t->H' t=some (.tup [.int (bU xs ys),.ref q,.ref r])->H' q=some (.lst ((bN xs ys).map V.int))->H' r=some (.lst ((aK xs ys).map V.int))->Q (.ref t) H'
def lu:Sp:=λvs H Q _=>∃(a b:Addr) (xs ys:List Int) (n:Nat),vs=[.ref a,.ref b]/\H a=some (.lst (xs.map V.int))/\H b=some (.lst (ys.map V.int))/\ys≠[]/\AllB n xs/\AllB n ys/\(xs.length+2)*(n+1)<=1000000/\ys.length<=1000000/\Gh H Q xs ys
theorem vv{l:List Int}(h:l≠[]):atI (l.map V.int) (-1)=some (.int (cf l (l.length-1))):=by
 obtain⟨r,x,rfl⟩:=(cx l).resolve_left h;have e:(r++[x]).length-1=r.length:=by simp
 rw[e,kM,Nu];exact vw _ _
theorem Fk{f:Addr}{fd:FuncData}(F:Fun K "divided" "divided" jG f fd)(T:Txt K mg){ia:Addr}{g8:FuncData}(iG:Cal P w K mg base 1 "whole_sign" ["value"] iV ia g8){dU:Addr}{dS:FuncData}(dY:Cal P w K mg base 1 "degree" ["row"] fE dU dS){JF:Addr}{IV:FuncData}(Mp:Cal P w K mg base 1 "scaled" ["row","factor"] qz JF IV){JM:Addr}{Ja:FuncData}(Mw:Cal P w K mg base 1 "lowered" ["row","second","place","lead"] qM JM Ja){ic:Addr}{hI:FuncData}(iI:Cal P w K mg base 1 "poly" ["row"] (iU K) ic hI):FnOk P w K mg base CX0 2 f fd ["first","second"] lu:=by
 obtain⟨iB,gL,gT,iu⟩:=iG;obtain⟨cU,cR,cS,cT⟩:=dY;obtain⟨A3,y4,ze,AM⟩:=Mp;obtain⟨LU,GP,HC,K0⟩:=Mw;obtain⟨iD,gN,gW,ix⟩:=iI;refine F.ok sc_divided (λvs H Q E h=>?_) (λcdv A outer s H vs Q E hr h=>?_)
 ·obtain⟨a,b,xs,ys,n,rfl,_⟩:=h;rfl
 ·obtain⟨a,b,xs,ys,nb,rfl,hA,hB,hy,bx,by',hsz,hyn,k⟩:=h;have big:=sizeLine_eq;have hu:=hr.units;have hyl:=M5.mpr hy
  have hxl:xs.length<=1000000:=by have:=N8 (xs.length+2) (show 1<=nb+1 by omega);omega
  have bsz:∀i,i<=xs.length->nb+i*(nb+1)<=1000000:=λi hi=>by have h1:=NC (nb+1) hi;rw[Nat.add_mul]at hsz;omega
  have hnb:nb<=1000000:=by have:=bsz 0 (M9 _);omega
  refine⟨_,(af (aS (aJ (gJ (K:=K) rfl hu) (pv 1) (aV ac) (aG _))
   (ai rB)
   aU)
   (af (ak (i:=2) sc_divided.nd rfl (Or.inl rfl) (aT fz (by rfl) T.abs_ PyProof.Rows.boot_abs (aa (aH (bK (K:=K) rfl) (pv 1) (bJ bG ad) (λ_ _=>rfl)) ac)))
   (af (ak (i:=3) sc_divided.nd rfl (Or.inl rfl) (al iB (hr.mono) rfl gL gT iu .nil ah (aa (aH (bK (K:=K) rfl) (pv 1) (bJ bG ad) (λ_ _=>rfl)) ac)))
   (af (ak (i:=4) sc_divided.nd rfl (Or.inl rfl) (aj bQ (aj cw (al cU (hr.mono) rfl cR cS cT .nil ah (aa (pv 0) ac)) (al cU (hr.mono) rfl cR cS cT .nil ah (aa (pv 1) ac))) ad))
   (af (ak (i:=5) sc_divided.nd rfl (Or.inl rfl) ad)
   (af (ak (i:=6) sc_divided.nd rfl (Or.inl rfl) (aj rN (aV (aa ad ac)) (pv 4)))
   (af (ak (i:=7) sc_divided.nd rfl (Or.inl rfl) (pj (qi (K:=K) rfl) (by rfl) T.list_ PyProof.Rows.boot_list (aa (pv 0) ac)))
   (af (cL PassesOwn.never rfl (yi rfl T.range_ (aa (aj cw (pv 4) ad) (aa (bJ bG ad) (aa (bJ bG ad) ac)))) (bw (i:=8) sc_divided.nd rfl (Or.inl rfl))
     (af (ak (i:=9) sc_divided.nd rfl (Or.inl rfl) (aj aO (pv 3) (aH (bK (K:=K) rfl) (pv 7) (bJ bG ad) (λ_ _=>rfl))))
       (af (ak (i:=5) sc_divided.nd rfl (Or.inl rfl) (aj aO (pv 5) (pv 2)))
       (af (ak (i:=6) sc_divided.nd rfl (Or.inl rfl) (al A3 (hr.mono) rfl y4 ze AM .nil ah (aa (pv 6) (aa (pv 2) ac))))
       (af (lT (pv 9) (lX (pv 6) (pv 8) lD))
       (ai (ak (i:=7) sc_divided.nd rfl (Or.inl rfl) (al LU (hr.mono) rfl GP HC K0 .nil ah (aa (al A3 (hr.mono) rfl y4 ze AM .nil ah (aa (pv 7) (aa (pv 2) ac))) (aa (pv 1) (aa (pv 8) (aa (pv 9) ac))))))))))))
   (ai (ay (dM (aa (pv 5) (aa (pv 6) (aa (al iD (hr.mono) rfl gN gW ix .nil ah (aa (pv 7) ac)) ac)))))))))))))),?_⟩
  refine bI ⟨_,rfl,M9 _,λp1 hp1=>?_⟩;have s1:Same H (upd H p1 (.lst [])):=Same.upd_new hp1;refine⟨b,p1,ys,[],rfl,rfl,SqL.of (s1 _ _ hB),SqL.of ao,_,rfl,aR (λh0=>absurd h0 hy) (λ_=>?_)⟩;generalize upd H p1 (.lst [])=H1 at s1 ⊢
  refine av ⟨_,rfl,_,rfl,b,_,_,_,rfl,rfl,SqL.of (s1 _ _ hB),vv hy,_,rfl,?_⟩;rw[nF];refine av ⟨_,rfl,_,rfl,b,_,_,_,rfl,rfl,SqL.of (s1 _ _ hB),vv hy,_,rfl,?_⟩;refine av ⟨_,rfl,a,_,rfl,s1 _ _ hA,_,rfl,b,_,rfl,s1 _ _ hB,_,_,rfl,rfl,_,_,rfl,rfl,?_⟩;dsimp only
  rw[MY,MY];have est:((xs.length:Int)-1-((ys.length:Int)-1)+1).toNat=aW xs ys:=by unfold aW;omega
  generalize hst:((xs.length:Int)-1-((ys.length:Int)-1)+1)=st at est ⊢
  refine av ?_;refine av ⟨by show 1<=sizeLine;decide,λp2 hp2=>⟨_,rfl,p2,_,_,rfl,rfl,ao,by omega,by omega,by show 1*_<=_;omega,λq hq=>?_⟩⟩;rw[est,rd];have s2:=s1.then_new (o:=.lst [V.int 0]) hp2;have s3:=s2.then_new (o:=.lst ((List.replicate (aW xs ys) (0:Int)).map V.int)) hq;have fq:H q=none:=s2.free hq;refine av ⟨_,rfl,a,_,rfl,.inl (SqL.of (s3 _ _ hA)),λr hr'=>?_⟩;have hq3:upd (upd H1 p2 (.lst [V.int 0])) q (.lst ((List.replicate (aW xs ys) (0:Int)).map V.int)) q=some (.lst ((List.replicate (aW xs ys) (0:Int)).map V.int)):=ao;have s4:=s3.then_new (o:=.lst (xs.map V.int)) hr';have fr:H r=none:=s3.free hr';have nqr:q≠r:=aQ hq3 hr';generalize hH4:upd (upd (upd H1 p2 (.lst [V.int 0])) q (.lst ((List.replicate (aW xs ys) (0:Int)).map V.int))) r (.lst (xs.map V.int))=H4 at s4 ⊢
  have hq4:H4 q=some (.lst ((List.replicate (aW xs ys) (0:Int)).map V.int)):=by rw[<- hH4,upd_ne nqr];exact hq3
  have hr4:H4 r=some (.lst (xs.map V.int)):=by rw[<- hH4,ao]
  have hs:Bits nb (((cf ys (ys.length-1)).natAbs:Nat):Int):=vy (by'.cf _);refine⟨_,rfl,_,_,rfl,rfl,_,rfl,_,rfl,st-1,-1,rfl,by omega,?_⟩;have en:(st-1 - -1).toNat=aW xs ys:=by rw[<- est];congr 1;omega
  rw[en]
  refine zF (λi σ' H'=>∃(q r:Addr) (z8 z9:Option V),σ'=[some (.ref a),some (.ref b),some (.int ((cf ys (ys.length-1)).natAbs:Nat)),some (.int (sg (cf ys (ys.length-1)))),some (.int st),some (.int (((cf ys (ys.length-1)).natAbs:Int)^i)),some (.ref q),some (.ref r),z8,z9]/\Same H H'/\H q=none/\H r=none/\q≠r/\H' q=some (.lst ((aM xs ys i).1.map V.int))/\H' r=some (.lst ((aM xs ys i).2.map V.int)))
   ⟨q,r,none,none,rfl,s4,fq,fr,nqr,hq4,hr4⟩ ?_ ?_
  ·rintro i σ' H' hi ⟨q,r,z8,z9,rfl,sm,fq,fr,nqr,hq',hr'⟩;obtain⟨lq,lr,low,_⟩:=ij (a:=xs) hy i (OF hi);obtain⟨bq,br⟩:=Ab bx by' i;have hix:i<xs.length:=by unfold aW at hi;omega
   have bi:=bsz i (OF hix);have rne:(aM xs ys i).2≠[]:=λz=>by rw[z]at lr;simp at lr;omega
   have ep:st-1+(i:Int) * -1=((xs.length+1-ys.length-1-i:Nat):Int):=by unfold aW at hi est;omega
   refine av ⟨_,rfl,_,rfl,_,rfl,r,_,_,_,rfl,rfl,SqL.of hr',vv rne,_,_,rfl,rfl,⟨sg_bits.mono,(br.cf _).mono bi⟩,?_⟩
   have bpow:Bits 1000000 (((cf ys (ys.length-1)).natAbs:Int)^i):=(ir hs i).mono (by
    have:=NC i (show nb<=nb+1 by omega);rw[NW (nb+1) i]at this;have h2:=bsz (i+1) hix;rw[Nat.succ_mul]at h2
    omega)
   refine av ⟨_,rfl,_,rfl,_,_,rfl,rfl,⟨bpow,hs.mono hnb⟩,?_⟩;dsimp only
   rw[<- Nm];refine av ⟨_,rfl,_,rfl,q,_,_,rfl,hq',by rw[lq];omega,hs.mono hnb,bq.mono bi,λq1 H2 sm2 hq1 eq1=>?_⟩;have fq1:H q1=none:=sm.free hq1;have sm2':=sm.trans sm2;have hpl:xs.length+1-ys.length-1-i<(scL ((cf ys (ys.length-1)).natAbs:Int) (aM xs ys i).1).length:=by rw[bZ,lq];unfold aW at hi;omega
   refine⟨_,rfl,_,rfl,_,rfl,q1,_,_,_,rfl,rfl,eq1,mK ep (by rw[MY];exact hpl),?_⟩;rw[pJ];have sm3:Same H (upd H2 q1 (.lst (((scL ((cf ys (ys.length-1)).natAbs:Int) (aM xs ys i).1).set (xs.length+1-ys.length-1-i) (sg (cf ys (ys.length-1))*cf (aM xs ys i).2 ((aM xs ys i).2.length-1))).map V.int))):=fg sm2' fq1;have nq1r:q1≠r:=λz=>by rw[z,hr']at hq1;cases hq1
   have hr3:upd H2 q1 (.lst (((scL ((cf ys (ys.length-1)).natAbs:Int) (aM xs ys i).1).set (xs.length+1-ys.length-1-i) (sg (cf ys (ys.length-1))*cf (aM xs ys i).2 ((aM xs ys i).2.length-1))).map V.int)) r=some (.lst ((aM xs ys i).2.map V.int)):=by rw[upd_ne (Ne.symm nq1r)];exact sm2 _ _ hr'
   have hq3:upd H2 q1 (.lst (((scL ((cf ys (ys.length-1)).natAbs:Int) (aM xs ys i).1).set (xs.length+1-ys.length-1-i) (sg (cf ys (ys.length-1))*cf (aM xs ys i).2 ((aM xs ys i).2.length-1))).map V.int)) q1=some (.lst (((scL ((cf ys (ys.length-1)).natAbs:Int) (aM xs ys i).1).set (xs.length+1-ys.length-1-i) (sg (cf ys (ys.length-1))*cf (aM xs ys i).2 ((aM xs ys i).2.length-1))).map V.int)):=ao;generalize upd H2 q1 (.lst (((scL ((cf ys (ys.length-1)).natAbs:Int) (aM xs ys i).1).set (xs.length+1-ys.length-1-i) (sg (cf ys (ys.length-1))*cf (aM xs ys i).2 ((aM xs ys i).2.length-1))).map V.int))=H3 at sm3 hr3 hq3 ⊢
   refine⟨_,rfl,_,rfl,r,_,_,rfl,hr3,by rw[lr];omega,hs.mono hnb,br.mono bi,λr1 H5 sm5 hr1 er1=>?_⟩;have sm35:=sm3.trans sm5;refine⟨_,rfl,_,rfl,_,rfl,r1,b,_,_,(xs.length+1-ys.length-1-i),sg (cf ys (ys.length-1))*cf (aM xs ys i).2 ((aM xs ys i).2.length-1),?_,er1,sm35 _ _ hB,?_,hy,(lC (br.cf _)).mono bi,by'.mono hnb,λr2 H6 sm6 hr2 er2=>?_⟩
   ·rw[<- ep];rfl
   ·rw[bZ,lr];unfold aW at hi;omega
   ·have nqr2:q1≠r2:=λz=>by rw[<- z,sm5 _ _ hq3]at hr2;cases hr2
    exact⟨q1,r2,_,_,rfl,sm35.trans sm6,fq1,sm35.free hr2,nqr2,sm6 _ _ (sm5 _ _ hq3),er2⟩
  ·rintro σ' H' ⟨q,r,z8,z9,rfl,sm,fq,fr,nqr,hq',hr'⟩;refine⟨_,rfl,_,rfl,_,rfl,r,_,rfl,SqL.of hr',λr1 H2 sm2 hr1 er1=>⟨by show 3<=sizeLine;decide,λt ht=>?_⟩⟩;have nqr1:q≠r1:=λz=>by rw[<- z,hq']at hr1;cases hr1
   have ntq:q≠t:=aQ (sm2 _ _ hq') ht;have ntr:r1≠t:=aQ er1 ht;refine k t q r1 _ ((sm.trans sm2).then_new ht) ((sm.trans sm2).free ht) fq (sm.free hr1) nqr1 ntq ntr ao ?_ ?_
   ·rw[upd_ne ntq];exact sm2 _ _ hq'
   ·rw[upd_ne ntr];exact er1
def Vp(C:Addr)(H:Hp)(vs:List V)(a r:Addr)(ns:List Int)(t b:Int):Prop:=vs=[.ref a,.ref r]/\H a=some (.lst (ns.map V.int))/\RA C H r t b/\ns.length<=20/\AllB 95000 ns/\Bits 7000 t/\Bits 7000 b
def VpI(H:Hp)(vs:List V)(a:Addr)(ns:List Int)(t b:Int):Prop:=vs=[.ref a,.int t,.int b]/\H a=some (.lst (ns.map V.int))/\ns.length<=20/\AllB 95000 ns/\Bits 7000 t/\Bits 7000 b
def qu:Sp:=λvs H Q _=>∃(a:Addr) (ns:List Int) (t b:Int),VpI H vs a ns t b/\∀(p:Addr) (H':Hp),Same H H'->H p=none->H' p=some (.tup [.int (hv t b ns),.int (b^ns.length)])->Q (.ref p) H'
theorem zw{t b:Int}(bt:Bits 7000 t)(bb:Bits 7000 b):∀{l:List Int},AllB 95000 l->Bits (95000+1+(7000+1)*l.length) (hv t b l)
 | [],_=>by refine Bits.mono (j:=1) ?_ (by omega);show(0:Int).natAbs<2^1;decide
 |v::l,h=>by
  rw[cX];have h1:=h v (M6 ..);have h2:=zw bt bb (l:=l) λx hx=>h x (M0 _ hx)
  have e1:=(h1.mul (ir bb (l.length+1))).mono (k:=95000+1+(7000+1)*l.length+7000) (by omega);have e2:=(bt.mul h2).mono (k:=95000+1+(7000+1)*l.length+7000) (by omega);exact(e1.add e2).mono (by rw[Nq];omega)
theorem EF{f:Addr}{fd:FuncData}(F:Fun K "value_parts" "value_parts" i7 f fd)(T:Txt K mg):FnOk P w K mg base CX0 1 f fd ["row","top","bottom"] qu:=by
 refine F.ok sc_value_parts (λvs H Q E h=>?_) (λcdv A outer s H vs Q E hr h=>?_)
 ·obtain⟨a,ns,t,b,⟨rfl,_⟩,_⟩:=h;rfl
 ·obtain⟨a,ns,t,b,⟨rfl,hA,hn,hb,bt,bb⟩,k⟩:=h
  refine⟨_,(af (ak (i:=3) sc_value_parts.nd rfl (Or.inl rfl) ad)
   (af (ak (i:=4) sc_value_parts.nd rfl (Or.inl rfl) ad)
   (af (cL PassesOwn.never rfl (rD rfl T.reversed_ (aa (pv 0) ac)) (bw (i:=5) sc_value_parts.nd rfl (Or.inl rfl))
     (af (ak (i:=4) sc_value_parts.nd rfl (Or.inl rfl) (aj aO (pv 4) (pv 2)))
       (ai (ak (i:=3) sc_value_parts.nd rfl (Or.inl rfl) (aj bQ (aj aO (pv 3) (pv 1)) (aj aO (pv 5) (pv 4)))))))
   (ai (ay (dM (aa (pv 3) (aa (pv 4) ac)))))))),?_⟩
  have hl:(ns.map V.int).length=ns.length:=MY _;refine av ?_;refine av ?_;refine⟨_,rfl,a,_,rfl,SqL.of hA,tG (K:=K) (a:=a) (xs:=ns.map V.int) (λi σ' H'=>∃z:Option V,σ'=[some (.ref a),some (.int t),some (.int b),some (.int (hv t b (ns.drop (ns.length-i)))),some (.int (b^i)),z]/\H=H') ⟨none,?_,rfl⟩ ?_ ?_ ?_⟩
  ·rw[N6,List.drop_length,NT];rfl
  ·rintro i σ' H' _ ⟨z,rfl,rfl⟩;exact SqL.of hA
  ·rintro i x σ' H' hi hx ⟨z,rfl,rfl⟩;rw[hl]at hi hx;obtain⟨c,ec,rfl,hc,_⟩:=g6 hx;have hi':i<ns.length:=hi;have e1:ns.length-(i+1)=ns.length-1-i:=by omega
   have hd:=Kk t b (l:=ns) (n:=ns.length-1-i) (by omega);have e2:ns.length-1-i+1=ns.length-i:=by omega
   have e3:ns.length-(ns.length-1-i)=i+1:=by omega
   rw[e2,e3,AA ec]at hd;have bs:=zw bt bb (l:=ns.drop (ns.length-i)) λx hx=>hb x (Pe hx)
   rw[Oi]at bs;have bp:=ir bb i;have bq:=ir bb (i+1);refine⟨_,rfl,_,rfl,_,_,rfl,rfl,⟨bp.mono (by omega),bb.mono⟩,?_⟩;refine⟨_,rfl,_,rfl,_,_,rfl,rfl,⟨bs.mono (by omega),bt.mono⟩,_,rfl,_,rfl,_,_,rfl,rfl,⟨(hb c hc).mono,?_⟩,_,_,rfl,rfl,?_⟩
   ·show Bits 1000000 (b^i*b);rw[<- Nm];exact bq.mono (by omega)
   refine⟨some (.int c),?_,rfl⟩;rw[e1,hd,Nm b i,Int.add_comm,Ni t];rfl
  ·rintro σ' H' ⟨z,rfl,rfl⟩;rw[hl,On,OE];exact⟨_,rfl,_,rfl,by show 2<=sizeLine;decide,λp hp=>k p _ (Same.upd_new hp) hp ao⟩
def iW(C:Addr):Sp:=λvs H Q _=>∃(a r:Addr) (ns:List Int) (t b:Int),Vp C H vs a r ns t b/\∀H',Same H H'->Q (.int (sg (hv t b ns))) H'
theorem EO{C f:Addr}{fd:FuncData}(F:Fun K "sign_at" "sign_at" je f fd)(T:Txt K mg)(R:RCI K mg C){Jz:Addr}{IP:FuncData}(Mi:Cal P w K mg base 1 "value_parts" ["row","top","bottom"] qu Jz IP){ia:Addr}{g8:FuncData}(iG:Cal P w K mg base 1 "whole_sign" ["value"] iV ia g8):FnOk P w K mg base CX0 2 f fd ["row","ratio"] (iW C):=by
 obtain⟨LG,GC,Hq,KM⟩:=Mi;obtain⟨iB,gL,gT,iu⟩:=iG;refine F.ok CI (λvs H Q E h=>?_) (λcdv A outer s H vs Q E hr h=>?_)
 ·obtain⟨a,r,ns,t,b,⟨rfl,_⟩,_⟩:=h;rfl
 ·obtain⟨a,r,ns,t,b,hV,k⟩:=h;obtain⟨rfl,hA,⟨dx,hR⟩,hn,hbs,bt,bb⟩:=hV;refine⟨_,(ai (ay (al iB (hr.mono) rfl gL gT iu .nil ah (aa (aH (aY (K:=K) rfl) (al LG (hr.mono) rfl GC Hq KM .nil ah (aa (pv 0) (aa (aP (K:=K) rfl (pv 1) rfl) (aa (aP (K:=K) rfl (pv 1) rfl) ac)))) ad (λ_ _=>rfl)) ac)))),?_⟩;refine⟨_,rfl,_,rfl,r,C,dx,_,_,rfl,hR,R.cl,R.nT,cF _ _,_,rfl,r,C,dx,_,_,rfl,hR,R.cl,R.nB,bM _ _,a,ns,t,b,⟨rfl,hA,hn,hbs,bt,bb⟩,λp H1 s1 hp e1=>?_⟩;exact⟨p,_,_,_,rfl,rfl,SqT.of e1,rfl,_,rfl,k H1 s1⟩
theorem AG{k:Nat}{z B:Int}(h0:0<=z)(h:z<=B)(hb:Bits k B):Bits k z:=hb.of_le (by omega)
theorem b60:Bits 200 (10^60):=by show((10:Int)^60).natAbs<2^200;decide +kernel
theorem b30:Bits 100 (10^30):=by show((10:Int)^30).natAbs<2^100;decide +kernel
theorem AS{xs:List V}{n:Int}(hn:n=xs.length)(h:0<n)(c:Int):∃v,v∈xs/\atI xs (c%n)=some v:=by
 have h1:=OC c (Nr h);have h2:=OD c h;obtain⟨j,hj⟩:=OW h1;have hl:j<xs.length:=by omega
 refine⟨xs[j],Od hl,?_⟩;rw[hj];exact gd (by simp[hl])
def Fit(one other:List Int):Prop:=Tr one/\Tr other/\∃n,AllB n one/\AllB n other/\(one.length+2)*(n+1)<=1000000/\other.length<=1000000
noncomputable def Run:Nat->List Int->List Int->Prop
 |0,one,_=>one=[]
 |n+1,one,other=>one=[]\/(Fit one other/\Run n other (nxt one other))
def yQ(H:Hp)(Q:VK)(xss:List (List Int)):Prop:=∀(l:Addr) (ps:List Addr) (H':Hp),Same H H'->H l=none->(∀p∈ps,H p=none/\p≠l)->H' l=some (.lst (ps.map V.ref))->RwH H' ps xss->Q (.ref l) H'
theorem RwH.upd_ne{H:Hp}{ps:List Addr}{xss:List (List Int)}{a:Addr}{o:HO}(h:RwH H ps xss)(hn:∀p∈ps,p≠a):RwH (upd H a o) ps xss:=⟨h.1,λi p xs e1 e2=>by rw[L2.upd_ne (hn p (List.mem_of_getElem? e1))];exact h.2 i p xs e1 e2⟩
def qA:Sp:=λvs H Q _=>∃(a b:Addr) (xs ys:List Int) (n:Nat),vs=[.ref a,.ref b]/\H a=some (.lst (xs.map V.int))/\H b=some (.lst (ys.map V.int))/\Tr xs/\Tr ys/\xs.length<=1000/\ys.length<=1000/\n<=1000/\Run n (am xs) (am ys)/\yQ H Q (aZ n (am xs) (am ys))
theorem EV{f:Addr}{fd:FuncData}(F:Fun K "row_from" "row_from" jj f fd)(T:Txt K mg){uk:Addr}{tM:FuncData}(vY:Cal P w K mg base 33 "shrunk" ["row"] oy uk tM){mY:Addr}{mS:FuncData}(nU:Cal P w K mg base 2 "divided" ["first","second"] lu mY mS){JB:Addr}{IR:FuncData}(Ml:Cal P w K mg base 2 "taken" ["first","second"] (iY K cj) JB IR):FnOk P w K mg base CX0 34 f fd ["first","second"] qA:=by
 obtain⟨nG,mr,mE,nk⟩:=vY;obtain⟨nK,mx,mH,nu⟩:=nU;obtain⟨LJ,GF,Hs,KO⟩:=Ml;refine F.ok sc_row_from (λvs H Q E h=>?_) (λcdv A outer s H vs Q E hr h=>?_)
 ·obtain⟨a,b,xs,ys,n,rfl,_⟩:=h;rfl
 ·obtain⟨a,b,xs,ys,n,rfl,hA,hB,xtr,ytr,hx,hy,hn,hrun,k⟩:=h;have big:=sizeLine_eq;have hu:=hr.units
  refine⟨_,(af (ak (i:=2) sc_row_from.nd rfl (Or.inl rfl) (aV ac))
   (af (ak (i:=3) sc_row_from.nd rfl (Or.inl rfl) (al nG (hr.mono) rfl mr mE nk .nil ah (aa (pv 0) ac)))
   (af (ak (i:=4) sc_row_from.nd rfl (Or.inl rfl) (al nG (hr.mono) rfl mr mE nk .nil ah (aa (pv 1) ac)))
   (af (eX PassesOwn.never (aJ (ma (K:=K) rfl hu) (pv 3) (aV ac) (aG _))
     (af (d8 (lZ PySem.F.plainAttrs_list PySem.F.slot_list_append PySem.F.type_list_append mj (pv 2) (aa (pv 3) ac)))
       (af (ak (i:=5) sc_row_from.nd rfl (Or.inl rfl) (rJ (aJ (gJ (K:=K) rfl hu) (pv 4) (aV ac) (aG _)) (aV ac) (aH (aY (K:=K) rfl) (al nK (hr.mono) rfl mx mH nu .nil ah (aa (pv 3) (aa (pv 4) ac))) ad (λ_ _=>rfl))))
       (af (ak (i:=3) sc_row_from.nd rfl (Or.inl rfl) (pv 4))
       (ai (ak (i:=4) sc_row_from.nd rfl (Or.inl rfl) (al nG (hr.mono) rfl mr mE nk .nil ah (aa (al LJ (hr.mono) rfl GF Hs KO .nil ah (aa (aV ac) (aa (pv 5) ac))) ac))))))))
   (ai (ay (pv 2))))))),?_⟩
  refine av ⟨M9 _,λl hl=>?_⟩;have s1:=Same.upd_new (o:=.lst []) hl;have hl1:upd H l (.lst []) l=some (.lst (([]:List Addr).map V.ref)):=ao;generalize upd H l (.lst [])=H1 at s1 hl1 ⊢
  refine av ⟨_,rfl,a,xs,rfl,s1 _ _ hA,xtr,by omega,λp1 H2 sm2 hp1 e1=>?_⟩;have s2:=s1.trans sm2;refine av ⟨_,rfl,b,ys,rfl,s2 _ _ hB,ytr,by omega,λp2 H3 sm3 hp2 e2=>?_⟩;have s3:=s2.trans sm3;have n1l:p1≠l:=λz=>by rw[z,hl1]at hp1;cases hp1
  have n2l:p2≠l:=λz=>by rw[z,sm2 _ _ hl1]at hp2;cases hp2
  generalize am xs=one' at hrun k e1
  generalize am ys=other at hrun k e2
  refine⟨λm σ' H'=>∃(po pt:Addr) (one other':List Int) (ps:List Addr) (acc:List (List Int)) (z5:Option V),σ'=[some (.ref a),some (.ref b),some (.ref l),some (.ref po),some (.ref pt),z5]/\Same H H'/\H' l=some (.lst (ps.map V.ref))/\RwH H' ps acc/\(∀p∈ps,H p=none/\p≠l)/\H' po=some (.lst (one.map V.int))/\H' pt=some (.lst (other'.map V.int))/\H po=none/\H pt=none/\po≠l/\pt≠l/\Run m one other'/\acc++aZ m one other'=aZ n one' other/\ps.length+m<=1000,
   ⟨_,p1,p2,one',other,[],[],none,rfl,s3,sm3 _ _ (sm2 _ _ hl1),RwH.nil,(λp hp=>nomatch hp),sm3 _ _ e1,e2,s1.free hp1,s2.free hp2,n1l,n2l,hrun,rfl,by show 0+n<=1000;omega⟩,?_⟩
  rintro m σ' H4 ⟨po,pt,one,other',ps,acc,z5,rfl,s4,hl4,hR4,hf4,ho4,ht4,fo,ft,nol,ntl,hrun4,hacc,hlen⟩;refine⟨_,rfl,M9 _,λq hq=>?_⟩;have t5:=Same.upd_new (o:=.lst []) hq;refine⟨po,q,one,[],rfl,rfl,SqL.of (t5 _ _ ho4),SqL.of ao,_,rfl,cK (λhne=>?_) (λhe=>?_)⟩
  rotate_left
  ·have he':one=[]:=he;subst he';rw[oU,OG]at hacc;refine⟨_,rfl,k l ps _ (s4.trans t5) hl hf4 (t5 _ _ hl4) ?_⟩;rw[<- hacc];exact hR4.same t5
  have hne':one≠[]:=hne
  obtain⟨m1,rfl⟩:∃m1,m=m1+1:=by
   cases m with
   |zero=>exact absurd hrun4 hne'
   |succ m1=>exact⟨m1,rfl⟩
  obtain⟨⟨otr,ttr,nb,bo,bt,hsz,htl⟩,hrun5⟩:=(show one=[]\/(Fit one other'/\Run m1 other' (nxt one other'))from hrun4).resolve_left hne'
  have hacc5:(acc++[one])++aZ m1 other' (nxt one other')=aZ n one' other:=by rw[<- hacc];show _=acc++(if one=[]then[]else one::aZ m1 other' (nxt one other'));rw[if_neg hne',OQ];rfl
  generalize hH5:upd H4 q (.lst [])=H5 at t5 ⊢
  refine⟨λσ'' H''=>∃m',m'<m1+1/\∃(po pt:Addr) (one other':List Int) (ps:List Addr) (acc:List (List Int)) (z5:Option V),σ''=[some (.ref a),some (.ref b),some (.ref l),some (.ref po),some (.ref pt),z5]/\Same H H''/\H'' l=some (.lst (ps.map V.ref))/\RwH H'' ps acc/\(∀p∈ps,H p=none/\p≠l)/\H'' po=some (.lst (one.map V.int))/\H'' pt=some (.lst (other'.map V.int))/\H po=none/\H pt=none/\po≠l/\pt≠l/\Run m' one other'/\acc++aZ m' one other'=aZ n one' other/\ps.length+m'<=1000,λ_ _ h=>h,?_⟩;have hl5:=t5 _ _ hl4;refine fH ⟨_,rfl,.inl ⟨rfl,_,SqL.of hl5⟩,_,rfl,l,_,_,rfl,rfl,hl5,by rw[MY];omega,?_⟩;rw[Gv];have s6:Same H (upd H5 l (.lst ((ps++[po]).map V.ref))):=fg (s4.trans t5) hl;have hl6:upd H5 l (.lst ((ps++[po]).map V.ref)) l=some (.lst ((ps++[po]).map V.ref)):=ao
  have hf6:∀p∈ps++[po],H p=none/\p≠l:=λp hp=>by
   rcases NM.mp hp with h |h
   ·exact hf4 p h
   ·rw[Nb.mp h];exact⟨fo,nol⟩
  have hR6:RwH (upd H5 l (.lst ((ps++[po]).map V.ref))) (ps++[po]) (acc++[one]):=((hR4.same t5).snoc (t5 _ _ ho4)).upd_ne λp hp=>(hf6 p hp).2
  have ho6:upd H5 l (.lst ((ps++[po]).map V.ref)) po=some (.lst (one.map V.int)):=by rw[L2.upd_ne nol];exact t5 _ _ ho4
  have ht6:upd H5 l (.lst ((ps++[po]).map V.ref)) pt=some (.lst (other'.map V.int)):=by rw[L2.upd_ne ntl];exact t5 _ _ ht4
  generalize upd H5 l (.lst ((ps++[po]).map V.ref))=H6 at s6 hl6 hR6 ho6 ht6 ⊢
  refine gz (λσ' H'=>∃pr:Addr,σ'=[some (.ref a),some (.ref b),some (.ref l),some (.ref po),some (.ref pt),some (.ref pr)]/\Same H6 H'/\H' pr=some (.lst ((rst one other').map V.int))) ?_ ?_
  case refine_2 =>
   intro rest;refine cP (DE ⟨_,rfl,M9 _,λq2 hq2=>?_⟩);have t7:=Same.upd_new (o:=.lst []) hq2;refine⟨pt,q2,other',[],rfl,rfl,SqL.of (t7 _ _ ht6),SqL.of ao,_,rfl,aR (λh0=>?_) (λh0=>?_)⟩
   ·have h0':other'=[]:=h0;refine⟨M9 _,λq3 hq3=>rest _ _ ⟨q3,rfl,t7.then_new hq3,?_⟩⟩;rw[ao];unfold rst;rw[if_pos h0'];rfl
   ·have h0':other'≠[]:=h0;refine⟨_,rfl,_,rfl,po,pt,one,other',nb,rfl,t7 _ _ ho6,t7 _ _ ht6,h0',bo,bt,hsz,htl,λt q' r H8 sm8 _ _ _ _ _ _ et _ er=>?_⟩;refine⟨t,_,_,_,rfl,rfl,SqT.of et,rfl,rest _ _ ⟨r,rfl,t7.trans sm8,?_⟩⟩;rw[er];unfold rst;rw[if_neg h0']
  rintro σ' H8 ⟨pr,rfl,t8,hr8⟩;refine av ⟨_,rfl,?_⟩;refine cP ⟨M9 _,λq hq=>?_⟩;have t9:=t8.then_new (o:=.lst []) hq
  have hrl:(rst one other').length<=1000000:=by
   unfold rst;split
   ·exact M9 _
   ·rename_i h0
    have:=fx (a:=one) h0;omega
  refine⟨_,rfl,q,pr,[],rst one other',rfl,SqL.of ao,SqL.of (by rw[L2.upd_ne (aQ hr8 hq)];exact hr8),M9 _,hrl,λp9 H9 sm9 hp9 e9=>?_⟩;have hsl:(cj [] (rst one other')).length<=1000000:=Nd (sI _) (by unfold di;rw[MY,N4];exact Nat.max_le.mpr ⟨M9 _,hrl⟩);refine⟨p9,_,rfl,e9,dZ _,hsl,λp10 H10 sm10 hp10 e10=>?_⟩;have t10:Same H6 H10:=(t9.trans sm9).trans sm10;have f10:H6 p10=none:=(t9.trans sm9).free hp10;refine⟨m1,N0 _,pt,p10,other',nxt one other',ps++[po],acc++[one],_,rfl,s6.trans t10,t10 _ _ hl6,hR6.same t10,hf6,t10 _ _ ht6,e10,ft,s6.free f10,ntl,(λz=>by rw[z,hl6]at f10;cases f10),hrun5,hacc5,by rw[Nk];show ps.length+1+m1<=1000;omega⟩
def lj:Sp:=λvs H Q _=>∃(a:Addr) (xs:List Int) (n:Nat),vs=[.ref a]/\H a=some (.lst (xs.map V.int))/\Tr xs/\AllB 90000 xs/\xs.length<=1000/\n<=1000/\Run n (am xs) (am (slopeL xs))/\yQ H Q (aZ n (am xs) (am (slopeL xs)))
theorem wC{xs:List Int}(h:Tr xs):Tr (slopeL xs):=by
 intro n hn;unfold slopeL at *
 rw[MY,N4]at hn;rw[ni,if_pos (by omega)];exact No (by omega) (h (n+1) (by omega))
theorem EU{f:Addr}{fd:FuncData}(F:Fun K "row_of" "row_of" ji f fd)(T:Txt K mg){JG:Addr}{IW:FuncData}(Mq:Cal P w K mg base 34 "row_from" ["first","second"] qA JG IW){uj:Addr}{tL:FuncData}(vX:Cal P w K mg base 1 "slope" ["row"] (sp1 slopeL) uj tL):FnOk P w K mg base CX0 35 f fd ["polynomial"] lj:=by
 obtain⟨LN,GJ,Hw,KS⟩:=Mq;obtain⟨vE,sk,sQ,vb⟩:=vX;refine F.ok CK (λvs H Q E h=>?_) (λcdv A outer s H vs Q E hr h=>?_)
 ·obtain⟨a,xs,n,rfl,_⟩:=h;rfl
 ·obtain⟨a,xs,n,rfl,hA,xtr,bx,hx,hn,hrun,k⟩:=h;refine⟨_,(ai (ay (al LN (hr.mono) rfl GJ Hw KS .nil ah (aa (pv 0) (aa (al vE (hr.mono) rfl sk sQ vb .nil ah (aa (pv 0) ac)) ac))))),?_⟩;refine aX ⟨_,rfl,_,rfl,a,xs,rfl,hA,by omega,bx.mono,λp H1 s1 hp e1=>?_⟩;have hsl:(slopeL xs).length<=1000:=by unfold slopeL;rw[MY,N4];omega
  exact⟨a,p,xs,slopeL xs,n,rfl,s1 _ _ hA,e1,xtr,wC xtr,hx,hsl,hn,hrun,λl ps H' sm hl hf e r=>k l ps H' (s1.trans sm) (s1.free hl) (λp hp=>⟨s1.free (hf p hp).1,(hf p hp).2⟩) e r⟩
noncomputable def sgs(t b:Int)(xss:List (List Int)):List Int:=xss.map λp=>sg (hv t b p)
def oM(C:Addr):Sp:=λvs H Q _=>∃(l r:Addr) (ps:List Addr) (xss:List (List Int)) (t b:Int),vs=[.ref l,.ref r]/\H l=some (.lst (ps.map V.ref))/\RwH H ps xss/\RA C H r t b/\Bits 7000 t/\Bits 7000 b/\(∀xs∈xss,xs.length<=20/\AllB 95000 xs)/\xss.length<=1000000/\∀H',Same H H'->Q (.int (chS (sgs t b xss)).1) H'
theorem Cq(t b:Int)(xss:List (List Int)):∀s∈sgs t b xss,s.natAbs<=1:=λs hs=>by obtain⟨x,_,rfl⟩:=Nc.mp hs;exact xC _
theorem Cp{t b:Int}{xss:List (List Int)}{i:Nat}{xs:List Int}(h:xss[i]?=some xs):sgs t b (xss.take (i+1))=sgs t b (xss.take i)++[sg (hv t b xs)]:=by unfold sgs;rw[NX,h,Nu];rfl
theorem yt{x:Int}(h:x.natAbs<=1):Bits 1000000 x:=Bits.mono (j:=1) (Oc h (by decide)) (by decide)
theorem Fp{C f:Addr}{fd:FuncData}(F:Fun K "changes" "changes" jL f fd)(T:Txt K mg)(R:RCI K mg C){ib:Addr}{g9:FuncData}(iH:Cal P w K mg base 2 "sign_at" ["row","ratio"] (iW C) ib g9):FnOk P w K mg base CX0 3 f fd ["row","ratio"] (oM C):=by
 obtain⟨iC,gM,gU,iw⟩:=iH;refine F.ok sc_changes (λvs H Q E h=>?_) (λcdv A outer s H vs Q E hr h=>?_)
 ·obtain⟨l,r,ps,xss,t,b,rfl,_⟩:=h;rfl
 ·obtain⟨l,r,ps,xss,t,b,rfl,hL,hR,hRA,bt,bb,hb,hn,k⟩:=h
  refine⟨_,(af (ak (i:=2) sc_changes.nd rfl (Or.inl rfl) ad)
   (af (ak (i:=3) sc_changes.nd rfl (Or.inl rfl) ad)
   (af (cL PassesOwn.never rfl (dL (K:=K) rfl (pv 0)) (bw (i:=4) sc_changes.nd rfl (Or.inl rfl))
     (af (ak (i:=5) sc_changes.nd rfl (Or.inl rfl) (al iC (hr.mono) rfl gM gU iw .nil ah (aa (pv 4) (aa (pv 1) ac))))
       (af (aS (aJ dc (aj aO (pv 5) (pv 3)) ad (aG _))
         (ai (ak (i:=2) sc_changes.nd rfl (Or.inl rfl) (aj bQ (pv 2) ad)))
         aU)
       (ai (aS (aJ fL (pv 5) ad (aG _))
         (ai (ak (i:=3) sc_changes.nd rfl (Or.inl rfl) (pv 5)))
         aU)))))
   (ai (ay (pv 2)))))),?_⟩
  have hpl:(ps.map V.ref).length=xss.length:=by rw[MY,hR.1]
  refine av ?_;refine av ?_;refine⟨_,rfl,l,rfl,⟨_,SqL.of hL⟩,tI (K:=K) (a:=l) (xs:=ps.map V.ref) (λi σ' H'=>∃(z4 z5:Option V),σ'=[some (.ref l),some (.ref r),some (.int (chS (sgs t b (xss.take i))).1),some (.int (chS (sgs t b (xss.take i))).2),z4,z5]/\Same H H') ⟨none,none,rfl,λ_ _ e=>e⟩ ?_ ?_ ?_⟩
  ·rintro i σ' H' _ ⟨z4,z5,rfl,sm⟩;exact SqL.of (sm _ _ hL)
  ·rintro i x σ' H1 hi ⟨z4,z5,rfl,s1⟩;obtain⟨p,xs,rfl,ep,ex,hp,hlt⟩:=hR.of_get hi;obtain⟨hx1,hx2⟩:=hb xs (List.mem_of_getElem? ex);show cg (eP _ (eE 5)) _ _ _ _;refine av ⟨_,rfl,_,rfl,p,r,xs,t,b,⟨rfl,s1 _ _ hp,hRA.same s1,hx1,hx2,bt.mono,bb.mono⟩,λH2 sm2=>?_⟩;have s2:=s1.trans sm2;obtain⟨c1,c2,c3⟩:=Ky _ (Cq t b (xss.take i));rw[Cp ex,Av];have hs:=xC (hv t b xs);generalize sg (hv t b xs)=s at hs ⊢
   generalize chS (sgs t b (xss.take i))=z at c1 ⊢
   obtain⟨m,bf⟩:=z;dsimp only
   refine lJ (λσ' H'=>σ'=[some (.ref l),some (.ref r),some (.int (if s*bf<0 then m+1 else m)),some (.int bf),some (.ref p),some (.int s)]/\H2=H') ?_ ?_
   case refine_2 =>
    intro rest;refine⟨_,rfl,_,rfl,_,_,rfl,rfl,⟨yt hs,yt c1⟩,_,_,rfl,rfl,_,rfl,aR (λh1=>?_) (λh1=>?_)⟩
    ·refine cP ⟨_,rfl,_,_,rfl,rfl,rest _ _ ⟨?_,rfl⟩⟩;rw[if_pos h1];rfl
    ·refine rest _ _ ⟨?_,rfl⟩;rw[if_neg h1];rfl
   rintro σ' H' ⟨rfl,rfl⟩;refine⟨_,rfl,_,_,rfl,rfl,_,rfl,cK (λh1=>?_) (λh1=>?_)⟩
   ·refine cP ⟨_,rfl,some (.ref p),some (.int s),?_,s2⟩;unfold chF;have h1':¬s=0:=h1;rw[if_neg h1'];rfl
   ·refine⟨some (.ref p),some (.int s),?_,s2⟩;unfold chF;have h1':s=0:=h1;rw[if_pos h1']
  ·rintro σ' H' ⟨z4,z5,rfl,sm⟩;rw[hpl,Oe];exact⟨_,rfl,k H' sm⟩
def oK(C:Addr):Sp:=λvs H Q _=>∃(l r r2:Addr) (ps:List Addr) (xss:List (List Int)) (t b t2 b2:Int),vs=[.ref l,.ref r,.ref r2]/\H l=some (.lst (ps.map V.ref))/\RwH H ps xss/\RA C H r t b/\RA C H r2 t2 b2/\Bits 7000 t/\Bits 7000 b/\Bits 7000 t2/\Bits 7000 b2/\(∀xs∈xss,xs.length<=20/\AllB 95000 xs)/\xss.length<=1000000/\∀H',Same H H'->Q (.int ((chS (sgs t b xss)).1-(chS (sgs t2 b2 xss)).1)) H'
theorem Fm{C f:Addr}{fd:FuncData}(F:Fun K "count" "count" jI f fd)(T:Txt K mg)(R:RCI K mg C){uw:Addr}{tY:FuncData}(wa:Cal P w K mg base 3 "changes" ["row","ratio"] (oM C) uw tY):FnOk P w K mg base CX0 4 f fd ["row","low","high"] (oK C):=by
 obtain⟨kW,kC,kE,kQ⟩:=wa;refine F.ok CV (λvs H Q E h=>?_) (λcdv A outer s H vs Q E hr h=>?_)
 ·obtain⟨l,r,r2,ps,xss,t,b,t2,b2,rfl,_⟩:=h;rfl
 ·obtain⟨l,r,r2,ps,xss,t,b,t2,b2,rfl,hL,hR,h1,h2,bt,bb,bt2,bb2,hb,hn,k⟩:=h;refine⟨_,(ai (ay (aj cw (al kW (hr.mono) rfl kC kE kQ .nil ah (aa (pv 0) (aa (pv 1) ac))) (al kW (hr.mono) rfl kC kE kQ .nil ah (aa (pv 0) (aa (pv 2) ac)))))),?_⟩;refine aX ⟨_,rfl,_,rfl,l,r,ps,xss,t,b,rfl,hL,hR,h1,bt,bb,hb,hn,λH1 s1=>?_⟩;refine⟨_,rfl,_,rfl,l,r2,ps,xss,t2,b2,rfl,s1 _ _ hL,hR.same s1,h2.same s1,bt2,bb2,hb,hn,λH2 s2=>?_⟩;exact⟨_,_,rfl,rfl,k _ (s1.trans s2)⟩
theorem AX(i:Int):(if i<0 then -i else i)=(i.natAbs:Int):=by split<;>omega
theorem Ls{l:List Int}(h:l≠[]):atI (l.map V.int) (-1)=some (.int (ar l)):=by obtain⟨r,x,rfl⟩:=(cx l).resolve_left h;rw[cM,Nu];exact vw _ _
theorem Kr{l:List Int}:fX l none (some (-1))=l.take (l.length-1):=by
 unfold fX;rw[HT.sIx_none]
 have e:HT.sIx l.length l.length (some (-1))=l.length-1:=by unfold HT.sIx;simp;omega
 rw[e,OE,N6]
def isB(os:List Int)(l k:Nat):Prop:=(∀x∈os,x.natAbs<=(2^k-1)*l)/\∀j,j<k->∃x∈os,(2^j-1)*l<x.natAbs
def lv(K:PySem.W.Frag):Sp:=λvs H Q _=>∃(a:Addr) (ns:List Int),vs=[.ref a]/\SqL K H a (ns.map V.int)/\Tr ns/\ns≠[]/\ns.length<=100000/\AllB 100000 ns /\
 ∀(k:Nat) (H':Hp),k<=100000->isB (ns.take (ns.length-1)) (ar ns).natAbs k->Same H H'->Q (.int ((2^k:Nat):Int)) H'
theorem DT{os:List Int}{F:Int->Prop}(h:∀g:Nat,(∀x∈os,x.natAbs<=g)->(g=0\/∃x∈os,x.natAbs=g)->F g) :
 (∀M,M∈os.map (λx=>(x.natAbs:Int))->(∀a∈os.map (λx=>(x.natAbs:Int)),a<=M)->F M)/\(os.map (λx=>(x.natAbs:Int))=[]->F 0):=by
 constructor
 ·intro M hM ha;obtain⟨x,hx,rfl⟩:=Nc.mp hM;exact h x.natAbs (λy hy=>Int.ofNat_le.mp (ha _ (Nc.mpr ⟨y,hy,rfl⟩))) (.inr ⟨x,hx,rfl⟩)
 ·intro e;have:os=[]:=List.map_eq_nil_iff.mp e;subst this;exact h 0 (λx hx=>nomatch hx) (.inl rfl)
theorem Ft{f:Addr}{fd:FuncData}(F:Fun K "bound" "bound" jN f fd)(T:Txt K mg):FnOk P w K mg base CX0 1 f fd ["row"] (lv K):=by
 refine F.ok sc_bound (λvs H Q E h=>?_) (λcdv A outer s H vs Q E hr h=>?_)
 ·obtain⟨a,ns,rfl,_⟩:=h;rfl
 ·obtain⟨a,ns,rfl,hA,ht,hne,hn,hb,k⟩:=h;have big:=sizeLine_eq
  refine⟨_,(af (ak (i:=1) sc_bound.nd rfl (Or.inl rfl) (aT fz (by rfl) T.abs_ PyProof.Rows.boot_abs (aa (aH (bK (K:=K) rfl) (pv 0) (bJ bG ad) (λ_ _=>rfl)) ac)))
   (af (ak (i:=2) sc_bound.nd rfl (Or.inl rfl) (Em (K:=K) rfl rfl (by rfl) T.max_ (fb (own:=["value"]) (fr:=[]) (js:=[]) (by walk_at "comp_ok") rfl (dL (K:=K) rfl (o9 (oQ (K:=K) rfl) (pv 0) o0 (oZ (bJ bG ad)))) (λ_ _ _ _=>(bw (i:=0) (show List.Nodup (["value"]:List Str)from by decide +kernel) rfl (Or.inl rfl))) (λ_ _ _ _=>(aT fz (by rfl) T.abs_ PyProof.Rows.boot_abs (aa (pv 0) ac)))) ad))
   (af (ak (i:=3) sc_bound.nd rfl (Or.inl rfl) ad)
   (af (eX PassesOwn.never (aJ dc (aj aO (aj cw (pv 3) ad) (pv 1)) (pv 2) (aG _))
     (ai (ak (i:=3) sc_bound.nd rfl (Or.inl rfl) (aj aO ad (pv 3)))))
   (ai (ay (pv 3))))))),?_⟩
  refine av ⟨_,rfl,_,rfl,a,_,_,_,rfl,rfl,hA,Ls hne,_,rfl,?_⟩;rw[AX]
  have hl0:ar ns≠0:=by obtain⟨r,x,rfl⟩:=(cx ns).resolve_left hne;rw[cM];exact tr_snoc.mp ht
  generalize hL:(ar ns).natAbs=L at k ⊢
  have hL1:1<=L:=by omega
  have bL:Bits 100000 (L:Int):=by obtain⟨r,x,rfl⟩:=(cx ns).resolve_left hne;rw[cM]at hL;exact(hb x (by simp)).of_le (by omega)
  refine av ⟨_,rfl,_,rfl,_,rfl,a,_,rfl,hA,λp1 hp1=>?_⟩;rw[uN,Kr];have s1:Same H (upd H p1 (.lst ((ns.take (ns.length-1)).map V.int))):=Same.upd_new hp1;have q1:upd H p1 (.lst ((ns.take (ns.length-1)).map V.int)) p1=some (.lst ((ns.take (ns.length-1)).map V.int)):=ao;generalize hO:ns.take (ns.length-1)=os at k s1 q1 ⊢
  generalize upd H p1 (.lst (os.map V.int))=H1 at s1 q1 ⊢
  have bO:AllB 100000 os:=λx hx=>hb x (O2 (hO ▸ hx))
  have lO:os.length<=100000:=by rw[<- hO,NV];omega
  refine⟨p1,rfl,⟨_,SqL.of q1⟩,ik (K:=K) (a:=p1) (xs:=os.map V.int) (λi ys σ' H'=>∃(z0:Option V),σ'=[z0]/\ys=((os.take i).map λx=>(x.natAbs:Int)).map V.int/\H1=H') (by rw[MY];omega) ⟨none,rfl,rfl,rfl⟩ ?_ ?_ ?_⟩
  ·rintro i ys σ' H' _ ⟨z0,rfl,rfl,rfl⟩;exact⟨SqL.of q1,by rw[MY,MY,NV];exact O3 _ _⟩
  ·rintro i x ys σ' H' hi ⟨z0,rfl,rfl,rfl⟩;rw[List.getElem?_map]at hi;cases e:os[i]? with
   |none=>rw[e]at hi;cases hi
   |some c =>rw[e]at hi;obtain rfl:=Option.some.inj hi;refine⟨_,rfl,_,rfl,_,rfl,?_,rfl⟩;rw[NX,e,AX];simp
  ·rintro ys σ' H' p ⟨z0,rfl,rfl,rfl⟩ hp;rw[MY,Oe];have s2:Same H (upd H1 p (.lst ((os.map λx=>(x.natAbs:Int)).map V.int))):=s1.then_new hp;refine⟨p,_,rfl,SqL.of ao,?_⟩;generalize upd H1 p (.lst ((os.map λx=>(x.natAbs:Int)).map V.int))=H2 at s2 ⊢
   refine And.symm (DT λg hg1 hg2=>?_)
   have bg:g<2^100000:=by
    rcases hg2 with rfl |⟨x,hx,rfl⟩
    ·exact N3 (by decide)
    ·exact bO x hx
   refine av ?_;refine⟨λm σ' H'=>∃k0:Nat,σ'=[some (.ref a),some (.int L),some (.int g),some (.int ((2^k0:Nat):Int))]/\H2=H'/\2*g+2-2^k0=m/\2^k0<=2*g+1/\∀j,j<k0->(2^j-1)*L<g,⟨_,0,rfl,rfl,rfl,by omega,λj hj=>absurd hj (OM _)⟩,?_⟩;rintro m σ' H' ⟨k0,rfl,rfl,rfl,h2,h3⟩
   have hk0:k0<=100000:=by
    have e:2^k0<2^100001:=by rw[Om 2 100000];omega
    have:=(O4 (a:=2) (by decide)).mp e;omega
   have hp:1<=2^k0:=N3 (by decide)
   have bk:Bits 100002 ((2^k0:Nat):Int):=by show((2^k0:Nat):Int).natAbs<_;rw[Np];exact(O4 (a:=2) (by decide)).mpr (by omega)
   have bk1:Bits 100002 (((2^k0:Nat):Int)-1):=bk.of_le (by omega)
   have cast:(((2^k0:Nat):Int)-1)*(L:Int)=(((2^k0-1)*L:Nat):Int):=by rw[OJ,Int.natCast_sub hp];rfl
   refine⟨_,rfl,_,_,rfl,rfl,_,rfl,_,_,rfl,rfl,⟨bk1.mono,bL.mono⟩,_,rfl,_,_,rfl,rfl,_,rfl,?_⟩;rw[cast];refine aR (λhlt=>?_) (λhge=>?_)
   ·have hlt':(2^k0-1)*L<g:=by exact ON.mp hlt
    have h4:2^k0-1<g:=Oc (Nat.le_mul_of_pos_right _ hL1) hlt';refine⟨λσ'' H''=>∃m',m'<2*g+2-2^k0/\∃k0:Nat,σ''=[some (.ref a),some (.int L),some (.int g),some (.int ((2^k0:Nat):Int))]/\H2=H''/\2*g+2-2^k0=m'/\2^k0<=2*g+1/\∀j,j<k0->(2^j-1)*L<g,λ_ _ h=>h,?_⟩;refine⟨_,rfl,_,_,rfl,rfl,⟨Bits.mono (j:=2) (by show(2:Int).natAbs<2^2;decide) (by decide),bk.mono⟩,?_⟩;have e2:(2:Int)*((2^k0:Nat):Int)=((2^(k0+1):Nat):Int):=by rw[Om];omega
    have e3:2^(k0+1)=2*2^k0:=by rw[Om];omega
    refine⟨2*g+2-2^(k0+1),by omega,k0+1,by rw[<- e2];rfl,rfl,rfl,by omega,λj hj=>?_⟩;by_cases ej:j=k0
    ·subst ej;exact hlt'
    ·exact h3 j (by omega)
   ·have hge':¬(2^k0-1)*L<g:=λz=>hge (ON.mpr z)
    refine⟨_,rfl,k k0 H2 hk0 ⟨λx hx=>Nd (hg1 x hx) (by omega),λj hj=>?_⟩ s2⟩;have h5:=h3 j hj;rcases hg2 with rfl |⟨x,hx,e⟩
    ·exact absurd h5 (OM _)
    ·exact⟨x,hx,by rw[e];exact h5⟩
def vR(one other:List Int):Prop:=Tr one/\Tr other/\∃n,AllB n one/\AllB n other/\(one.length+2)*(n+1)<=1000000/\other.length<=1000000
noncomputable def kS:Nat->List Int->List Int->Prop
 |0,_,other=>other=[]
 |n+1,one,other=>other=[]\/(vR one other/\kS n other (aC (aK one other)))
def qU:Sp:=λvs H Q _=>∃(a b:Addr) (xs ys:List Int) (n:Nat),vs=[.ref a,.ref b]/\H a=some (.lst (xs.map V.int))/\H b=some (.lst (ys.map V.int))/\Tr xs/\Tr ys/\xs.length<=1000/\ys.length<=1000/\kS n (aC xs) (aC ys)/\mkL H Q (cp n (aC xs) (aC ys))
theorem Fn{f:Addr}{fd:FuncData}(F:Fun K "common" "common" jJ f fd)(T:Txt K mg){mX:Addr}{mR:FuncData}(nS:Cal P w K mg base 34 "plain" ["row"] ll mX mR){mY:Addr}{mS:FuncData}(nU:Cal P w K mg base 2 "divided" ["first","second"] lu mY mS):FnOk P w K mg base CX0 35 f fd ["first","second"] qU:=by
 obtain⟨iE,gO,gX,iy⟩:=nS;obtain⟨nK,mx,mH,nu⟩:=nU;refine F.ok sc_common (λvs H Q E h=>?_) (λcdv A outer s H vs Q E hr h=>?_)
 ·obtain⟨a,b,xs,ys,n,rfl,_⟩:=h;rfl
 ·obtain⟨a,b,xs,ys,n,rfl,hA,hB,xtr,ytr,hx,hy,hrun,k⟩:=h;have big:=sizeLine_eq;have hu:=hr.units
  refine⟨_,(af (ak (i:=2) sc_common.nd rfl (Or.inl rfl) (al iE (hr.mono) rfl gO gX iy .nil ah (aa (pv 0) ac)))
   (af (ak (i:=3) sc_common.nd rfl (Or.inl rfl) (al iE (hr.mono) rfl gO gX iy .nil ah (aa (pv 1) ac)))
   (af (eX PassesOwn.never (aJ (ma (K:=K) rfl hu) (pv 3) (aV ac) (aG _))
     (af (ak (i:=4) sc_common.nd rfl (Or.inl rfl) (al iE (hr.mono) rfl gO gX iy .nil ah (aa (aH (aY (K:=K) rfl) (al nK (hr.mono) rfl mx mH nu .nil ah (aa (pv 2) (aa (pv 3) ac))) ad (λ_ _=>rfl)) ac)))
       (af (ak (i:=2) sc_common.nd rfl (Or.inl rfl) (pv 3))
       (ai (ak (i:=3) sc_common.nd rfl (Or.inl rfl) (pv 4))))))
   (ai (ay (pv 2)))))),?_⟩
  refine av ⟨_,rfl,a,xs,rfl,hA,xtr,by omega,λp1 H1 s1 hp1 e1=>?_⟩;refine av ⟨_,rfl,b,ys,rfl,s1 _ _ hB,ytr,by omega,λp2 H2 sm2 hp2 e2=>?_⟩;have s2:=s1.trans sm2;generalize aC xs=one' at hrun k e1
  generalize aC ys=other' at hrun k e2
  refine⟨λm σ' H'=>∃(po pt:Addr) (one other:List Int) (z4:Option V),σ'=[some (.ref a),some (.ref b),some (.ref po),some (.ref pt),z4]/\Same H H'/\H' po=some (.lst (one.map V.int))/\H' pt=some (.lst (other.map V.int))/\H po=none/\H pt=none/\kS m one other/\cp m one other=cp n one' other',
   ⟨_,p1,p2,one',other',none,rfl,s2,sm2 _ _ e1,e2,hp1,s1.free hp2,hrun,rfl⟩,?_⟩
  rintro m σ' H3 ⟨po,pt,one,other,z4,rfl,s3,ho,ht,fo,ft,hrun3,hcom⟩;refine⟨_,rfl,M9 _,λq hq=>?_⟩;have t4:=Same.upd_new (o:=.lst []) hq;refine⟨pt,q,other,[],rfl,rfl,SqL.of (t4 _ _ ht),SqL.of ao,_,rfl,cK (λhne=>?_) (λhe=>?_)⟩
  rotate_left
  ·have he':other=[]:=he;subst he';rw[Am]at hcom;refine⟨_,rfl,k po _ (s3.trans t4) fo ?_⟩;rw[<- hcom];exact t4 _ _ ho
  have hne':other≠[]:=hne
  obtain⟨m1,rfl⟩:∃m1,m=m1+1:=by
   cases m with
   |zero=>exact absurd hrun3 hne'
   |succ m1=>exact⟨m1,rfl⟩
  obtain⟨⟨otr,ttr,nb,bo,bt,hsz,htl⟩,hrun5⟩:=(show other=[]\/(vR one other/\kS m1 other (aC (aK one other)))from hrun3).resolve_left hne'
  have hcom5:cp m1 other (aC (aK one other))=cp n one' other':=by
   rw[<- hcom];show _=if other=[]then one else cp m1 other (aC (aK one other))
   rw[if_neg hne']
  generalize hH5:upd H3 q (.lst [])=H5 at t4 ⊢
  refine⟨λσ'' H''=>∃m',m'<m1+1/\∃(po pt:Addr) (one other:List Int) (z4:Option V),σ''=[some (.ref a),some (.ref b),some (.ref po),some (.ref pt),z4]/\Same H H''/\H'' po=some (.lst (one.map V.int))/\H'' pt=some (.lst (other.map V.int))/\H po=none/\H pt=none/\kS m' one other/\cp m' one other=cp n one' other',λ_ _ h=>h,?_⟩
  have hrl:(aK one other).length<=1000000:=by have:=fx (a:=one) hne';omega
  refine av ⟨_,rfl,_,rfl,po,pt,one,other,nb,rfl,t4 _ _ ho,t4 _ _ ht,hne',bo,bt,hsz,htl,λt q' r H8 sm8 _ _ _ _ _ _ et _ er=>?_⟩;refine⟨t,_,_,_,rfl,rfl,SqT.of et,rfl,r,_,rfl,er,eG _ _,hrl,λp9 H9 sm9 hp9 e9=>?_⟩;refine av ⟨_,rfl,?_⟩;refine⟨_,rfl,?_⟩;have t9:=(t4.trans sm8).trans sm9;exact⟨m1,N0 _,pt,p9,other,_,_,rfl,s3.trans t9,t9 _ _ ht,e9,ft,s3.free ((t4.trans sm8).free hp9),hrun5,hcom5⟩
def qD:Sp:=λvs H Q _=>∃(a b:Addr) (xs ys:List Int) (n:Nat),vs=[.ref a,.ref b]/\H a=some (.lst (xs.map V.int))/\H b=some (.lst (ys.map V.int))/\Tr xs/\Tr ys/\AllB n xs/\AllB n ys/\(xs.length+2)*(n+1)<=1000000/\ys.length<=1000000/\ys≠[]/\aK xs ys=[]/\mkL H Q (aC (bN xs ys))
theorem E3{f:Addr}{fd:FuncData}(F:Fun K "part" "part" jp f fd)(T:Txt K mg){mY:Addr}{mS:FuncData}(nU:Cal P w K mg base 2 "divided" ["first","second"] lu mY mS){mX:Addr}{mR:FuncData}(nS:Cal P w K mg base 34 "plain" ["row"] ll mX mR):FnOk P w K mg base CX0 35 f fd ["row","divisor"] qD:=by
 obtain⟨nK,mx,mH,nu⟩:=nU;obtain⟨iE,gO,gX,iy⟩:=nS;refine F.ok sc_part (λvs H Q E h=>?_) (λcdv A outer s H vs Q E hr h=>?_)
 ·obtain⟨a,b,xs,ys,n,rfl,_⟩:=h;rfl
 ·obtain⟨a,b,xs,ys,nb,rfl,hA,hB,xtr,ytr,bx,by',hsz,hyn,hy,hR,k⟩:=h;have hu:=hr.units
  refine⟨_,(af (ak (i:=2) sc_part.nd rfl (Or.inl rfl) (al nK (hr.mono) rfl mx mH nu .nil ah (aa (pv 0) (aa (pv 1) ac))))
   (af (aS (aJ (ma (K:=K) rfl hu) (aH (aY (K:=K) rfl) (pv 2) ad (λ_ _=>rfl)) (aV ac) (aG _))
     (ai rB)
     aU)
   (ai (ay (al iE (hr.mono) rfl gO gX iy .nil ah (aa (aH (aY (K:=K) rfl) (pv 2) ad (λ_ _=>rfl)) ac)))))),?_⟩
  refine av ⟨_,rfl,_,rfl,a,b,xs,ys,nb,rfl,hA,hB,hy,bx,by',hsz,hyn,λt q r H1 sm1 ft fq fr _ _ _ et eq er=>?_⟩;refine bI ⟨_,rfl,t,_,_,_,rfl,rfl,SqT.of et,rfl,M9 _,λp hp=>?_⟩;have s2:=Same.upd_new (o:=.lst []) hp;refine⟨r,p,_,[],rfl,rfl,SqL.of (s2 _ _ er),SqL.of ao,_,rfl,cK (λh=>absurd hR h) (λh=>?_)⟩;have lq:=uL (a:=xs) hy
  have hxl:xs.length<=1000000:=by have:=N8 (xs.length+2) (show 1<=nb+1 by omega);omega
  have hN:aW xs ys<=xs.length+1:=by unfold aW;omega
  have hN2:aW xs ys<=xs.length:=by have:=M5.mpr hy;unfold aW;omega
  exact⟨_,rfl,t,_,_,_,rfl,rfl,SqT.of (s2 _ _ et),rfl,q,bN xs ys,rfl,s2 _ _ eq,uJ hy xtr ytr,by omega,λp' H' sm' hp' e'=>k p' H' ((sm1.then_new hp).trans sm') ((sm1.then_new hp).free hp') e'⟩
theorem Fv{f:Addr}{fd:FuncData}(F:Fun K "added" "added" jP f fd)(T:Txt K mg){ic:Addr}{hI:FuncData}(iI:Cal P w K mg base 1 "poly" ["row"] (iU K) ic hI){uv:Addr}{tX:FuncData}(v9:Cal P w K mg base 1 "coefficient" ["row","place"] (gq K) uv tX):FnOk P w K mg base CX0 2 f fd ["first","second"] (iY K fA):=by
 obtain⟨iD,gN,gW,ix⟩:=iI;obtain⟨nM,mz,mI,nv⟩:=v9;refine F.ok sc_added (λvs H Q E h=>?_) (λcdv A outer s H vs Q E hr h=>?_)
 ·obtain⟨a,b,xs,ys,rfl,_⟩:=h;rfl
 ·obtain⟨a,b,xs,ys,rfl,hA,hB,hx,hy,k⟩:=h
  refine⟨_,(af (ak (i:=2) sc_added.nd rfl (Or.inl rfl) (aT (uX rfl) (by rfl) T.max_ PyProof.Rows.boot_max (aa (aT (cH (K:=K) rfl) (by rfl) T.len_ PySem.boot_len (aa (pv 0) ac)) (aa (aT (cH (K:=K) rfl) (by rfl) T.len_ PySem.boot_len (aa (pv 1) ac)) ac))))
   (ai (ay (al iD (hr.mono) rfl gN gW ix .nil ah (aa (fb (own:=["k"]) (fr:=["first","second"]) (js:=[0,1]) (by walk_at "comp_ok") rfl (ku rfl T.range_ (aa (pv 2) ac)) (λ_ _ _ _=>(bw (i:=0) (show List.Nodup (["k","first","second"]:List Str)from by decide +kernel) rfl (Or.inl rfl))) (λ_ _ _ _=>(aj bQ (al nM (hr.mono) rfl mz mI nv .nil ah (aa (pv 1) (aa (pv 0) ac))) (al nM (hr.mono) rfl mz mI nv .nil ah (aa (pv 2) (aa (pv 0) ac)))))) ac))))),?_⟩
  refine⟨_,rfl,a,_,rfl,.inl hA,_,rfl,b,_,rfl,.inl hB,_,_,rfl,?_⟩;rw[yY,MY,MY];have hz:max xs.length ys.length<=sizeLine:=by have:=sizeLine_eq;omega
  refine⟨_,rfl,_,rfl,(oP hz).1,(oP hz).2,uP (lo:=0) (n:=max xs.length ys.length) (λi zs σ' H'=>∃z:Option V,σ'=[z,some (.ref a),some (.ref b)]/\zs=((List.range i).map λk=>V.int (cf xs k+cf ys k))/\H=H') hz ⟨none,rfl,rfl,rfl⟩ ?_ ?_ ?_⟩
  ·rintro i zs σ' H' _ ⟨z,rfl,rfl,rfl⟩;simp
  ·rintro i zs σ' H' hi ⟨z,rfl,rfl,rfl⟩;refine⟨_,rfl,_,rfl,a,xs,i,?_,hA,_,rfl,_,rfl,b,ys,i,?_,hB,_,_,rfl,rfl,_,rfl,?_,rfl⟩
   ·show[V.ref a,V.int (0+(i:Int))]=_;rw[NO]
   ·show[V.ref b,V.int (0+(i:Int))]=_;rw[NO]
   ·rw[List.range_succ,Nu];rfl
  ·rintro zs σ' H' p ⟨z,rfl,rfl,rfl⟩ hp;refine⟨p,(List.range (max xs.length ys.length)).map λk=>cf xs k+cf ys k,rfl,SqL.of ?_,?_⟩
   ·rw[ao,N7];rfl
   ·intro p' H' sm hp' e;refine k p' H' ((Same.upd_new hp).trans sm) ((Same.upd_new hp).free hp') ?_;rw[e,Ly]
def qH:Sp:=λvs H Q _=>∃(a b:Addr) (xs ys:List Int),vs=[.ref a,.ref b]/\H a=some (.lst (xs.map V.int))/\H b=some (.lst (ys.map V.int))/\xs.length<=1000000/\ys.length<=1000000/\AllB 1000000 xs/\AllB 1000000 ys/\mkL H Q (ae xs ys)
theorem E7{f:Addr}{fd:FuncData}(F:Fun K "multiplied" "multiplied" ju f fd)(T:Txt K mg):FnOk P w K mg base CX0 1 f fd ["first","second"] qH:=by
 refine F.ok sc_multiplied (λvs H Q E h=>?_) (λcdv A outer s H vs Q E hr h=>?_)
 ·obtain⟨a,b,xs,ys,rfl,_⟩:=h;rfl
 ·obtain⟨a,b,xs,ys,rfl,hA,hB,hx,hy,bx,by',k⟩:=h;have hu:=hr.units
  refine⟨_,(af (aS (PW.pt (lP (aJ (gJ (K:=K) rfl hu) (pv 0) (aV ac) (aG _)) (rm (aJ (gJ (K:=K) rfl hu) (pv 1) (aV ac) (aG _)))))
   (ai (ay (aV ac)))
   aU)
   (af (ak (i:=2) sc_multiplied.nd rfl (Or.inl rfl) (aj rN (aV (aa ad ac)) (aj cw (aj bQ (aT (cH (K:=K) rfl) (by rfl) T.len_ PySem.boot_len (aa (pv 0) ac)) (aT (cH (K:=K) rfl) (by rfl) T.len_ PySem.boot_len (aa (pv 1) ac))) ad)))
   (af (cL PassesOwn.never rfl (rE rfl T.enumerate_ (aa (pv 0) ac)) (rG rfl (kx (bw (i:=3) sc_multiplied.nd rfl (Or.inl rfl)) (kx (bw (i:=4) sc_multiplied.nd rfl (Or.inl rfl)) rF)))
     (ai (cL PassesOwn.never rfl (rE rfl T.enumerate_ (aa (pv 1) ac)) (rG rfl (kx (bw (i:=5) sc_multiplied.nd rfl (Or.inl rfl)) (kx (bw (i:=6) sc_multiplied.nd rfl (Or.inl rfl)) rF)))
       (ai (lT (aj bQ (aH (bK (K:=K) rfl) (pv 2) (aj bQ (pv 3) (pv 5)) (λ_ _=>rfl)) (aj aO (pv 4) (pv 6))) (lX (pv 2) (aj bQ (pv 3) (pv 5)) lD))))))
   (ai (ay (pv 2)))))),?_⟩
  refine⟨_,rfl,M9 _,λp1 hp1=>?_⟩;have s1:Same H (upd H p1 (.lst [])):=Same.upd_new hp1;refine⟨a,p1,xs,[],rfl,rfl,SqL.of (s1 _ _ hA),SqL.of ao,_,rfl,?_⟩;refine aR (λh0=>?_) (λh0=>?_)
  ·refine dA ⟨M9 _,λp2 hp2=>k p2 _ (s1.then_new hp2) (s1.free hp2) ?_⟩;rw[ao];unfold ae;rw[if_pos (.inl h0)];rfl
  refine⟨_,rfl,M9 _,λp2 hp2=>?_⟩;have s2:Same H (upd (upd H p1 (.lst [])) p2 (.lst [])):=s1.then_new hp2;refine⟨b,p2,ys,[],rfl,rfl,SqL.of (s2 _ _ hB),SqL.of ao,_,rfl,?_⟩;refine aR (λh1=>?_) (λh1=>?_)
  ·refine⟨M9 _,λp3 hp3=>k p3 _ (s2.then_new hp3) (s2.free hp3) ?_⟩;rw[ao];unfold ae;rw[if_pos (.inr h1)];rfl
  generalize upd (upd H p1 (.lst [])) p2 (.lst [])=H2 at s2 ⊢
  obtain⟨la,ea⟩:∃la,xs.length=la+1:=⟨xs.length-1,by have:=M5.mpr h0;omega⟩;obtain⟨lb,eb⟩:∃lb,ys.length=lb+1:=⟨ys.length-1,by have:=M5.mpr h1;omega⟩;refine⟨(by show 1<=sizeLine;decide),λp3 hp3=>?_⟩;have s3:=s2.then_new (o:=.lst [V.int 0]) hp3;have big:=sizeLine_eq;refine⟨_,rfl,a,_,rfl,.inl (SqL.of (s3 _ _ hA)),_,rfl,b,_,rfl,.inl (SqL.of (s3 _ _ hB)),_,_,rfl,rfl,_,_,rfl,rfl,p3,_,_,rfl,rfl,ao,?_,?_,?_,λp hp=>?_⟩
  ·rw[MY,MY];omega
  ·rw[MY,MY];omega
  ·rw[MY,MY];show 1*_<=_;omega
  have en:(((xs.map V.int).length:Int)+((ys.map V.int).length:Int)-1).toNat=la+lb+1:=by rw[MY,MY];omega
  rw[en,rd];have s4:=s3.then_new (o:=.lst ((List.replicate (la+lb+1) (0:Int)).map V.int)) hp;have npa:a≠p:=s3.ne hA hp;have npb:b≠p:=s3.ne hB hp;generalize hH4:upd (upd H2 p3 (.lst [V.int 0])) p (.lst ((List.replicate (la+lb+1) (0:Int)).map V.int))=H4 at s4 ⊢
  have hp4:H4 p=some (.lst ((List.replicate (la+lb+1) (0:Int)).map V.int)):=by rw[<- hH4,ao]
  refine⟨_,rfl,a,rfl,⟨_,SqL.of (s4 _ _ hA)⟩,tJ (K:=K) (a:=a) (xs:=xs.map V.int) (λj σ' H'=>∃(acc:List Int) (z3 z4 z5 z6:Option V),σ'=[some (.ref a),some (.ref b),some (.ref p),z3,z4,z5,z6]/\SameB p H4 H'/\H' p=some (.lst (acc.map V.int))/\acc.length=la+lb+1/\∀n,n<acc.length->cf acc n=sm xs ys n j)
   ⟨List.replicate (la+lb+1) 0,none,none,none,none,rfl,SameB.refl _ _,hp4,by simp,λn _=>by rw[nh];rfl⟩ ?_ ?_ ?_⟩
  ·rintro j σ' H' _ ⟨acc,z3,z4,z5,z6,rfl,sb,_⟩;exact SqL.of (sb _ _ npa (s4 _ _ hA))
  ·rintro j x σ' H' q hj ⟨acc,z3,z4,z5,z6,rfl,sb,hpa,hal,hac⟩ hq;rw[List.getElem?_map]at hj
   have hjl:j<xs.length:=by apply Classical.byContradiction;intro hn;rw[List.getElem?_eq_none_iff.mpr (N2 hn)]at hj;cases hj
   rw[g7 hjl]at hj;obtain rfl:=Option.some.inj hj;refine⟨q,_,rfl,SqT.of ao,rfl,_,_,rfl,_,_,rfl,rfl,?_⟩;have nqp:p≠q:=aQ hpa hq;have sb1:SameB p H4 (upd H' q (.tup [.int j,.int (cf xs j)])):=sb.then_new hq
   refine⟨_,rfl,b,rfl,⟨_,SqL.of (sb1 _ _ npb (s4 _ _ hB))⟩,tJ (K:=K) (a:=b) (xs:=ys.map V.int) (λi σ' H'=>∃(acc:List Int) (z5 z6:Option V),σ'=[some (.ref a),some (.ref b),some (.ref p),some (.int j),some (.int (cf xs j)),z5,z6]/\SameB p H4 H'/\H' p=some (.lst (acc.map V.int))/\acc.length=la+lb+1/\∀n,n<acc.length->cf acc n=sm xs ys n j+(if j<=n/\n-j<i then tm xs ys n j else 0))
    ⟨acc,z5,z6,rfl,sb1,by rw[upd_ne nqp];exact hpa,hal,yL hac⟩ ?_ ?_ ?_⟩
   ·rintro i σ' H' _ ⟨acc,z5,z6,rfl,sb,_⟩;exact SqL.of (sb _ _ npb (s4 _ _ hB))
   ·rintro i x σ' H' q hi ⟨acc,z5,z6,rfl,sb,hpa,hal,hac⟩ hq;rw[List.getElem?_map]at hi
    have hil:i<ys.length:=by apply Classical.byContradiction;intro hn;rw[List.getElem?_eq_none_iff.mpr (N2 hn)]at hi;cases hi
    rw[g7 hil]at hi;obtain rfl:=Option.some.inj hi;refine⟨q,_,rfl,SqT.of ao,rfl,_,_,rfl,_,_,rfl,rfl,?_⟩;have nqp:p≠q:=aQ hpa hq;have hpa':upd H' q (.tup [.int i,.int (cf ys i)]) p=some (.lst (acc.map V.int)):=by rw[upd_ne nqp];exact hpa
    have hji:j+i<acc.length:=by omega
    have eji:((j:Nat):Int)+((i:Nat):Int)=((j+i:Nat):Int):=by omega
    refine⟨_,rfl,_,rfl,_,rfl,_,_,rfl,rfl,p,_,_,_,rfl,rfl,SqL.of hpa',kR eji hji,_,rfl,_,rfl,_,_,rfl,rfl,⟨bx.cf j,by'.cf i⟩,_,_,rfl,rfl,_,rfl,_,rfl,_,rfl,_,_,rfl,rfl,p,_,_,j+i,rfl,rfl,hpa',mK eji (by rw[MY];exact hji),?_⟩;refine⟨acc.set (j+i) (cf acc (j+i)+cf xs j*cf ys i),_,_,rfl,(sb.then_new hq).then_upd,by rw[ao,pJ],by rw[Ow];exact hal,yK hjl hil hji hac⟩
   ·rintro σ' H' ⟨acc,z5,z6,rfl,sb,hpa,hal,hac⟩;rw[MY]at hac;exact⟨acc,_,_,_,_,rfl,sb,hpa,hal,yM hac⟩
  ·rintro σ' H' ⟨acc,z3,z4,z5,z6,rfl,sb,hpa,hal,hac⟩;rw[MY]at hac;refine⟨_,rfl,k p H' (λb' o e=>sb b' o (s3.ne e hp) (s4 b' o e)) (s3.free hp) ?_⟩;rw[hpa]
   have e:acc=ae xs ys:=by
    apply cN
    ·rw[hal];unfold ae;rw[if_neg (by intro z;exact z.elim h0 h1),MY,N4];omega
    ·intro n _;rw[aI,yN (by omega) hac]
   rw[e]
def oC(C:Addr):Sp:=λvs H Q _=>∃(p q:Addr) (t b u d:Int) (i j:Nat),vs=[.ref p,.ref q]/\RA C H p t b/\RA C H q u d/\Bits 100000 t/\Bits i b/\Bits 100000 u/\Bits j d/\i+j<=9000/\0<b/\0<d/\mkR C H Q (t*d+u*b) (b*d)
theorem FK{C f:Addr}{fd:FuncData}(F:Fun K "plus" "Ratio.plus" j5 f fd)(T:Txt K mg)(R:RCI K mg C){bA:Addr}{bz:FuncData}{bC:List Value}(bF:KCal P w K mg base 2 C "Ratio" ["self","top","bottom"] (cD C) bA bz bC [.int 1]):FnOk P w K mg base CX0 4 f fd ["self","other"] (oC C):=by
 obtain⟨bn,bj,bh,bV,cu,cs⟩:=bF;refine F.ok Dc (λvs H Q E h=>?_) (λcdv A outer s H vs Q E hr h=>?_)
 ·obtain⟨p,q,t,b,u,d,i,j,rfl,_⟩:=h;rfl
 ·obtain⟨p,q,t,b,u,d,i,j,rfl,⟨dx,hp⟩,⟨dy,hq⟩,bt,bb,bu,bd,hij,hb,hd,k⟩:=h;have bb':Bits 1000000 b:=bb.mono (by omega);have bd':Bits 1000000 d:=bd.mono (by omega);refine⟨_,(ai (ay (cv bj bn (hr.mono) rfl bh bV .nil ah (aa (aj bQ (aj aO (aP (K:=K) rfl (pv 0) rfl) (aP (K:=K) rfl (pv 1) rfl)) (aj aO (aP (K:=K) rfl (pv 1) rfl) (aP (K:=K) rfl (pv 0) rfl))) (aa (aj aO (aP (K:=K) rfl (pv 0) rfl) (aP (K:=K) rfl (pv 1) rfl)) ac))))),?_⟩;refine⟨_,rfl,p,C,dx,_,_,rfl,hp,R.cl,R.nT,cF _ _,_,rfl,q,C,dy,_,_,rfl,hq,R.cl,R.nB,bM _ _,_,_,rfl,rfl,⟨bt.mono,bd'⟩,?_⟩;refine⟨_,rfl,q,C,dy,_,_,rfl,hq,R.cl,R.nT,cF _ _,_,rfl,p,C,dx,_,_,rfl,hp,R.cl,R.nB,bM _ _,_,_,rfl,rfl,⟨bu.mono,bb'⟩,_,_,rfl,rfl,?_⟩;refine⟨_,rfl,p,C,dx,_,_,rfl,hp,R.cl,R.nB,bM _ _,_,rfl,q,C,dy,_,_,rfl,hq,R.cl,R.nB,bM _ _,_,_,rfl,rfl,⟨bb',bd'⟩,?_⟩;exact cE (Nr (M8 hb hd)) ((bb.mul bd).mono hij) k
def oG(C:Addr):Sp:=λvs H Q _=>∃(p q:Addr) (t b u d:Int) (i j:Nat),vs=[.ref p,.ref q]/\RA C H p t b/\RA C H q u d/\Bits 100000 t/\Bits i b/\Bits 100000 u/\Bits j d/\i+j<=9000/\0<b/\0<d/\mkR C H Q (t*d-u*b) (b*d)
theorem FL{C f:Addr}{fd:FuncData}(F:Fun K "minus" "Ratio.minus" j6 f fd)(T:Txt K mg)(R:RCI K mg C){bA:Addr}{bz:FuncData}{bC:List Value}(bF:KCal P w K mg base 2 C "Ratio" ["self","top","bottom"] (cD C) bA bz bC [.int 1]):FnOk P w K mg base CX0 4 f fd ["self","other"] (oG C):=by
 obtain⟨bn,bj,bh,bV,cu,cs⟩:=bF;refine F.ok Dd (λvs H Q E h=>?_) (λcdv A outer s H vs Q E hr h=>?_)
 ·obtain⟨p,q,t,b,u,d,i,j,rfl,_⟩:=h;rfl
 ·obtain⟨p,q,t,b,u,d,i,j,rfl,⟨dx,hp⟩,⟨dy,hq⟩,bt,bb,bu,bd,hij,hb,hd,k⟩:=h;have bb':Bits 1000000 b:=bb.mono (by omega);have bd':Bits 1000000 d:=bd.mono (by omega);refine⟨_,(ai (ay (cv bj bn (hr.mono) rfl bh bV .nil ah (aa (aj cw (aj aO (aP (K:=K) rfl (pv 0) rfl) (aP (K:=K) rfl (pv 1) rfl)) (aj aO (aP (K:=K) rfl (pv 1) rfl) (aP (K:=K) rfl (pv 0) rfl))) (aa (aj aO (aP (K:=K) rfl (pv 0) rfl) (aP (K:=K) rfl (pv 1) rfl)) ac))))),?_⟩;refine⟨_,rfl,p,C,dx,_,_,rfl,hp,R.cl,R.nT,cF _ _,_,rfl,q,C,dy,_,_,rfl,hq,R.cl,R.nB,bM _ _,_,_,rfl,rfl,⟨bt.mono,bd'⟩,?_⟩;refine⟨_,rfl,q,C,dy,_,_,rfl,hq,R.cl,R.nT,cF _ _,_,rfl,p,C,dx,_,_,rfl,hp,R.cl,R.nB,bM _ _,_,_,rfl,rfl,⟨bu.mono,bb'⟩,_,_,rfl,rfl,?_⟩;refine⟨_,rfl,p,C,dx,_,_,rfl,hp,R.cl,R.nB,bM _ _,_,rfl,q,C,dy,_,_,rfl,hq,R.cl,R.nB,bM _ _,_,_,rfl,rfl,⟨bb',bd'⟩,?_⟩;exact cE (Nr (M8 hb hd)) ((bb.mul bd).mono hij) k
def li(C:Addr):Sp:=λvs H Q _=>∃(p q:Addr) (t b u d:Int) (i j:Nat),vs=[.ref p,.ref q]/\RA C H p t b/\RA C H q u d/\Bits 100000 t/\Bits i b/\Bits 100000 u/\Bits j d/\i+j<=9000/\0<b/\0<d/\mkR C H Q (t*u) (b*d)
theorem FJ{C f:Addr}{fd:FuncData}(F:Fun K "times" "Ratio.times" j4 f fd)(T:Txt K mg)(R:RCI K mg C){bA:Addr}{bz:FuncData}{bC:List Value}(bF:KCal P w K mg base 2 C "Ratio" ["self","top","bottom"] (cD C) bA bz bC [.int 1]):FnOk P w K mg base CX0 4 f fd ["self","other"] (li C):=by
 obtain⟨bn,bj,bh,bV,cu,cs⟩:=bF;refine F.ok Db (λvs H Q E h=>?_) (λcdv A outer s H vs Q E hr h=>?_)
 ·obtain⟨p,q,t,b,u,d,i,j,rfl,_⟩:=h;rfl
 ·obtain⟨p,q,t,b,u,d,i,j,rfl,⟨dx,hp⟩,⟨dy,hq⟩,bt,bb,bu,bd,hij,hb,hd,k⟩:=h;refine⟨_,(ai (ay (cv bj bn (hr.mono) rfl bh bV .nil ah (aa (aj aO (aP (K:=K) rfl (pv 0) rfl) (aP (K:=K) rfl (pv 1) rfl)) (aa (aj aO (aP (K:=K) rfl (pv 0) rfl) (aP (K:=K) rfl (pv 1) rfl)) ac))))),?_⟩;refine⟨_,rfl,p,C,dx,_,_,rfl,hp,R.cl,R.nT,cF _ _,_,rfl,q,C,dy,_,_,rfl,hq,R.cl,R.nT,cF _ _,_,_,rfl,rfl,⟨bt.mono,bu.mono⟩,?_⟩;refine⟨_,rfl,p,C,dx,_,_,rfl,hp,R.cl,R.nB,bM _ _,_,rfl,q,C,dy,_,_,rfl,hq,R.cl,R.nB,bM _ _,_,_,rfl,rfl,⟨bb.mono (by omega),bd.mono (by omega)⟩,?_⟩;exact cE (Nr (M8 hb hd)) ((bb.mul bd).mono hij) k
theorem zY{l:List Int}{i:Nat}{c:Int}(hi:i<l.length)(e:l[l.length-1-i]?=some c):l.drop (l.length-(i+1))=c::l.drop (l.length-i):=by
 have h:l.length-(i+1)=l.length-1-i:=by omega
 rw[h,Ph (by omega)];have h2:l.length-1-i+1=l.length-i:=by omega
 rw[h2];have h3:=List.getElem?_eq_getElem (l:=l) (i:=l.length-1-i) (by omega);rw[h3]at e;rw[Option.some.inj e]
theorem kt(n:Nat):(0:Int)<2^n:=NI (by decide)
theorem gD(n:Nat):(2:Int)^n=((2^n:Nat):Int):=by rw[O1];rfl
theorem lV{n k:Nat}(h:n<k):Bits k ((2:Int)^n):=by rw[gD];show(((2^n:Nat):Int)).natAbs<2^k;rw[Np];exact(O4 (by decide)).mpr h
theorem n6:Bits 1000000 (2:Int):=Bits.mono (j:=2) (by show(2:Int).natAbs<2^2;decide) (by decide)
def qO(C:Addr):Sp:=λvs H Q _=>∃(r wd:Addr) (r1 r2 w1 w2:Int) (kr kw:Nat),vs=[.ref r,.ref wd]/\RA C H r r1 r2/\RA C H wd w1 w2/\0<r2/\0<w1/\Bits kr r1/\Bits 100000 r2/\Bits 100000 w1/\Bits kw w2/\kr+kw<=100000/\∀n:Nat,n<=kr+kw->r1*w2<=w1*r2*2^n->(∀j:Nat,j<n->w1*r2*2^j<r1*w2)->Q (.int n) H
theorem Ff{C f:Addr}{fd:FuncData}(F:Fun K "halvings" "halvings" jB f fd)(T:Txt K mg)(R:RCI K mg C):FnOk P w K mg base CX0 1 f fd ["reach","width"] (qO C):=by
 refine F.ok sc_halvings (λvs H Q E h=>?_) (λcdv A outer s H vs Q E hr h=>?_)
 ·obtain⟨r,wd,r1,r2,w1,w2,kr,kw,rfl,_⟩:=h;rfl
 ·obtain⟨r,wd,r1,r2,w1,w2,kr,kw,rfl,⟨dr,hR⟩,⟨dw,hW⟩,hr2,hw1,br1,br2,bw1,bw2,hkk,k⟩:=h
  refine⟨_,(af (ak (i:=2) sc_halvings.nd rfl (Or.inl rfl) (aj aO (aP (K:=K) rfl (pv 0) rfl) (aP (K:=K) rfl (pv 1) rfl)))
   (af (ak (i:=3) sc_halvings.nd rfl (Or.inl rfl) (aj aO (aP (K:=K) rfl (pv 1) rfl) (aP (K:=K) rfl (pv 0) rfl)))
   (af (ak (i:=4) sc_halvings.nd rfl (Or.inl rfl) ad)
   (af (eX PassesOwn.never (aJ gI (pv 2) (pv 3) (aG _))
     (af (ak (i:=3) sc_halvings.nd rfl (Or.inl rfl) (aj aO ad (pv 3)))
       (ai (ak (i:=4) sc_halvings.nd rfl (Or.inl rfl) (aj bQ (pv 4) ad)))))
   (ai (ay (pv 4))))))),?_⟩
  refine av ⟨_,rfl,r,C,dr,_,_,rfl,hR,R.cl,R.nT,cF _ _,_,rfl,wd,C,dw,_,_,rfl,hW,R.cl,R.nB,bM _ _,_,_,rfl,rfl,⟨br1.mono (by omega),bw2.mono (by omega)⟩,?_⟩;refine av ⟨_,rfl,wd,C,dw,_,_,rfl,hW,R.cl,R.nT,cF _ _,_,rfl,r,C,dr,_,_,rfl,hR,R.cl,R.nB,bM _ _,_,_,rfl,rfl,⟨bw1.mono,br2.mono⟩,?_⟩;have bW:Bits (kr+kw) (r1*w2):=br1.mul bw2;have g0:0<w1*r2:=M8 hw1 hr2;refine av ?_;dsimp only
  generalize r1*w2=W at *
  generalize w1*r2=g at *
  show cg _ _ _ _ _
  have b0:∀n:Nat,(∀j:Nat,j<n->g*2^j<W)->n<=kr+kw:=λn hn=>by
   rcases Nat.lt_or_ge (kr+kw) n with z |z
   ·have h1:=hn (kr+kw) z
    have h2:(2:Int)^(kr+kw)<=g*2^(kr+kw):=by have:=Ny (show(1:Int)<=g by omega) (M7 (kt (kr+kw)));omega
    have h3:W.natAbs<2^(kr+kw):=bW;have h5:(W.natAbs:Int)<((2^(kr+kw):Nat):Int):=ON.mpr h3;rw[<- gD]at h5;generalize (2:Int)^(kr+kw)=Y at *
    omega
   ·exact z
  refine⟨λm σ' H'=>∃n:Nat,σ'=[some (.ref r),some (.ref wd),some (.int W),some (.int (g*2^n)),some (.int n)]/\H=H'/\m=(W-g*2^n).toNat/\∀j:Nat,j<n->g*2^j<W,⟨_,0,by rw[NT,Nw];rfl,rfl,rfl,λj hj=>absurd hj (OM _)⟩,?_⟩;rintro m σ' H' ⟨n,rfl,rfl,rfl,hj⟩;refine⟨_,rfl,_,rfl,_,_,rfl,rfl,_,rfl,aR (λhgt=>?_) (λhle=>?_)⟩
  ·have hgt':g*2^n<W:=hgt;have gp:0<g*2^n:=M8 g0 (kt n);have bg:Bits (kr+kw) (g*2^n):=bW.of_le (by omega);refine⟨λσ'' H''=>∃m',m'<(W-g*2^n).toNat/\∃n:Nat,σ''=[some (.ref r),some (.ref wd),some (.int W),some (.int (g*2^n)),some (.int n)]/\H=H''/\m'=(W-g*2^n).toNat/\∀j:Nat,j<n->g*2^j<W,λ_ _ h=>h,?_⟩;have e2:2*(g*2^n)=g*2^(n+1):=by rw[Nm];grind
   refine av ⟨_,rfl,_,_,rfl,rfl,⟨n6,bg.mono (by omega)⟩,?_⟩;refine cP ⟨_,rfl,_,_,rfl,rfl,?_⟩;refine⟨(W-g*2^(n+1)).toNat,by rw[<- e2];omega,n+1,by rw[<- e2];rfl,rfl,rfl,λj h'=>?_⟩;by_cases ej:j=n
   ·subst ej;exact hgt'
   ·exact hj j (by omega)
  ·refine⟨_,rfl,k n (b0 n hj) ?_ hj⟩;have:¬g*2^n<W:=hle;omega
theorem fG{k:Nat}{t b:Int}(hb:b≠0)(h:Bits k t):Bits k (rt t b):=h.of_le (Dn hb)
theorem eT{k:Nat}{t b:Int}(hb:b≠0)(h:Bits k b):Bits k (rb t b):=h.of_le (DG hb)
theorem pz:¬(("plus":Str)="bottom")/\¬(("plus":Str)="top"):=⟨by decide +kernel,by decide +kernel⟩
theorem yC:¬(("minus":Str)="bottom")/\¬(("minus":Str)="top"):=⟨by decide +kernel,by decide +kernel⟩
theorem px:¬(("times":Str)="bottom")/\¬(("times":Str)="top"):=⟨by decide +kernel,by decide +kernel⟩
def qV(C:Addr):Sp:=λvs H Q _=>∃(l r:Addr) (l1 l2 r1 r2 pl pc:Int) (i j n:Nat),vs=[.ref l,.ref r,.int pl,.int pc]/\RA C H l l1 l2/\RA C H r r1 r2/\0<l2/\0<r2/\0<pc/\Bits i l1/\Bits i l2/\Bits j r1/\Bits j r2/\Bits n pl/\Bits n pc/\i+(j+n)<=9000 /\
 ∀(x:Addr) (H':Hp) (x1 x2:Int),Same H H'->H x=none->RA C H' x x1 x2->0<x2->x1*(l2*r2*pc)=(l1*r2*pc+r1*l2*pl)*x2->Bits (i+(j+n)+1) x1->Bits (i+(j+n)+1) x2->Nat.gcd x1.natAbs x2.natAbs=1->Q (.ref x) H'
theorem Fu{C f:Addr}{fd:FuncData}(F:Fun K "along" "along" jO f fd)(T:Txt K mg)(R:RCI K mg C){uD:Addr}{ud:FuncData}(wg:MCal P w K mg base 4 C "plus" ["self","other"] (oC C) uD ud){m4:Addr}{mU:FuncData}(nX:MCal P w K mg base 4 C "times" ["self","other"] (li C) m4 mU){bA:Addr}{bz:FuncData}{bC:List Value}(bF:KCal P w K mg base 2 C "Ratio" ["self","top","bottom"] (cD C) bA bz bC [.int 1]):FnOk P w K mg base CX0 5 f fd ["low","reach","place","pieces"] (qV C):=by
 obtain⟨vO,rZ,vo⟩:=wg;obtain⟨nO,ml,nC⟩:=nX;obtain⟨bn,bj,bh,bV,cu,cs⟩:=bF;refine F.ok CY (λvs H Q E h=>?_) (λcdv A outer s H vs Q E hr h=>?_)
 ·obtain⟨l,r,l1,l2,r1,r2,pl,pc,i,j,n,rfl,_⟩:=h;rfl
 ·obtain⟨l,r,l1,l2,r1,r2,pl,pc,i,j,n,rfl,hL,hR,hl2,hr2,hpc,bl1,bl2,br1,br2,bpl,bpc,hijn,k⟩:=h;refine⟨_,(ai (ay (eY (pv 0) R.cl rZ vO (hr.mono) vo .nil ah (aa (eY (pv 1) R.cl ml nO (hr.mono) nC .nil ah (aa (cv bj bn (hr.mono) rfl bh bV .nil ah (aa (pv 2) (aa (pv 3) ac))) ac)) ac)))),?_⟩;obtain⟨dl,hl⟩:=id hL;obtain⟨dr,hrr⟩:=id hR;have pc0:pc≠0:=Nr hpc;refine aX ⟨_,rfl,l,dl,_,rfl,hl,fS _ _ pz.1 pz.2,_,rfl,r,dr,_,rfl,hrr,fS _ _ px.1 px.2,_,rfl,_,rfl,cE pc0 (bpc.mono (by omega)) λxa H1 s1 ha hRa=>?_⟩;have a0:0<rb pl pc:=dI pc0;have ba1:Bits n (rt pl pc):=fG pc0 bpl;have ba2:Bits n (rb pl pc):=eT pc0 bpc;have ea:=eU (t:=pl) pc0;generalize rt pl pc=a1 at *
  generalize rb pl pc=a2 at *
  refine⟨r,xa,r1,r2,a1,a2,j,n,rfl,hR.same s1,hRa,br1.mono (by omega),br2,ba1.mono (by omega),ba2,by omega,hr2,a0,λxc H2 s2 hc hRc=>?_⟩;have d0:r2*a2≠0:=Nr (M8 hr2 a0);have c0:0<rb (r1*a1) (r2*a2):=dI d0;have bc1:Bits (j+n) (rt (r1*a1) (r2*a2)):=fG d0 (br1.mul ba1);have bc2:Bits (j+n) (rb (r1*a1) (r2*a2)):=eT d0 (br2.mul ba2);have ec:=eU (t:=r1*a1) d0;generalize rt (r1*a1) (r2*a2)=c1 at *
  generalize rb (r1*a1) (r2*a2)=c2 at *
  have t2:=s1.trans s2;refine⟨l,xc,l1,l2,c1,c2,i,j+n,rfl,hL.same t2,hRc,bl1.mono (by omega),bl2,bc1.mono (by omega),bc2,hijn,hl2,c0,λxx H3 s3 hx hRx=>?_⟩;have x0:l2*c2≠0:=Nr (M8 hl2 c0);refine k xx H3 _ _ (t2.trans s3) (t2.free hx) hRx (dI x0) (Lw a0 c0 ea ec (eU x0)) ?_ ?_ (kj x0)
  ·refine(fG x0 ?_);exact Bits.add (bl1.mul bc2) ((bc1.mul bl2).mono (by omega))
  ·exact(eT x0 (bl2.mul bc2)).mono (by omega)
theorem Gq{i j:Nat}{a b c:Int}{l:List Int}(hl:AllB i l)(ha:Bits j a)(hb:Bits j b)(hc:Bits (i+j) c):AllB (i+j+1) (mb a b c l):=AllB.of_cf λn=>by
 rw[io];refine Bits.add ?_ ?_
 ·exact(ha.neg.mul (hl.cf n)).mono (by omega)
 ·split
  ·exact hc
  ·exact(hb.mul (hl.cf (n-1))).mono (by omega)
theorem wY{kv j:Nat}{m s0 s1:Int}(hm:Bits j m)(h0:Bits j s0)(h1:Bits j s1):∀{l:List Int},AllB kv l->AllB (kv+(j+1)*l.length+1) (bH m s0 s1 l)
 | [],_=>AllB.nil
 |v::l,h=>by
  have ih:=wY hm h0 h1 (l:=l) λx hx=>h x (M0 _ hx)
  have hv:=h v (M6 ..)
  have:=Gq (c:=v*m^l.length) ih h0.neg h1 ((hv.mul (ir hm l.length)).mono (by
   have:(j+1)*l.length=j*l.length+l.length:=by rw[Nat.add_mul,Nat.one_mul]
   omega))
  refine AllB.mono this ?_;rw[Nq,Nat.mul_add,Nat.mul_one];omega
theorem B2{a b c:Int}{l:List Int}(hne:l≠[])(hT:Tr (mb a b c l)):fA (ae l [-a,b]) (trim [c])=mb a b c l:=by
 refine m8 (dZ _) hT λk=>?_
 unfold fA;rw[fy,fY,fy,Nh,Gb hne,io,io];rcases k with _ |k
 ·show _+0+c=_+c;omega
 ·rw[if_neg (by omega),if_neg (by omega)];show _+cf [] k=_;rw[cb];omega
theorem Bx{m s0 s1:Int}(hs:0<s1){l:List Int}(hne:l≠[])(hl:Tr l):Tr (bH m s0 s1 l):=by
 have h1:=wX m s0 s1 l;have hlen:=iT m s0 s1 l;have hp:0<l.length:=M5.mpr hne;have h2:cf l (l.length-1)≠0:=hl _ (by omega);intro n hn;have:n=l.length-1:=by omega
 subst this;rw[h1];exact No h2 (Nr (NI hs))
theorem BC{l:List Int}(hl:Tr l){i:Nat}(h:i<l.length):Tr (l.drop i):=by
 intro n hn;rw[Oi]at hn
 have e:cf (l.drop i) n=cf l (i+n):=by unfold cf;simp[List.getD]
 rw[e];exact hl _ (by omega)
def qx(C:Addr):Sp:=λvs H Q _=>∃(a l r:Addr) (ns:List Int) (l1 l2 r1 r2:Int),vs=[.ref a,.ref l,.ref r]/\H a=some (.lst (ns.map V.int))/\RA C H l l1 l2/\RA C H r r1 r2/\Tr ns/\ns≠[]/\ns.length<=12/\AllB 1000 ns/\0<l2/\0<r1/\0<r2/\Bits 1400 l1/\Bits 1400 l2/\Bits 2900 r1/\Bits 2900 r2 /\
 ∀m s0 s1:Int,0<m->s0*l2=l1*m->s1*r2=r1*m->0<s1->AllB 60000 (bH m s0 s1 ns)->mkL H Q (bH m s0 s1 ns)
theorem EI{C f:Addr}{fd:FuncData}(F:Fun K "stretched" "stretched" ja f fd)(T:Txt K mg)(R:RCI K mg C){um:Addr}{tO:FuncData}(v3:Cal P w K mg base 2 "shared" ["row"] (oz K) um tO){JW:Addr}{Jk:FuncData}(MH:Cal P w K mg base 2 "added" ["first","second"] (iY K fA) JW Jk){JI:Addr}{IY:FuncData}(Ms:Cal P w K mg base 1 "multiplied" ["first","second"] qH JI IY){ic:Addr}{hI:FuncData}(iI:Cal P w K mg base 1 "poly" ["row"] (iU K) ic hI):FnOk P w K mg base CX0 3 f fd ["row","low","reach"] (qx C):=by
 obtain⟨vG,sv,sS,vf⟩:=v3;obtain⟨L7,GZ,HL,Lh⟩:=MH;obtain⟨LP,GL,Hy,KU⟩:=Ms;obtain⟨iD,gN,gW,ix⟩:=iI;refine F.ok sc_stretched (λvs H Q E h=>?_) (λcdv A outer s H vs Q E hr h=>?_)
 ·obtain⟨a,l,r,ns,l1,l2,r1,r2,rfl,_⟩:=h;rfl
 ·obtain⟨a,l,r,ns,l1,l2,r1,r2,rfl,hA,⟨dl,hL⟩,⟨dr,hR⟩,hT,hne,hln,hbn,hl2,hr1,hr2,bl1,bl2,br1,br2,k⟩:=h
  refine⟨_,(af (ak (i:=3) sc_stretched.nd rfl (Or.inl rfl) (aj dO (aj aO (aP (K:=K) rfl (pv 1) rfl) (aP (K:=K) rfl (pv 2) rfl)) (al vG (hr.mono) rfl sv sS vf .nil ah (aa (aV (aa (aP (K:=K) rfl (pv 1) rfl) (aa (aP (K:=K) rfl (pv 2) rfl) ac))) ac))))
   (af (ak (i:=4) sc_stretched.nd rfl (Or.inl rfl) (aj aO (aP (K:=K) rfl (pv 1) rfl) (aj dO (pv 3) (aP (K:=K) rfl (pv 1) rfl))))
   (af (ak (i:=5) sc_stretched.nd rfl (Or.inl rfl) (aj aO (aP (K:=K) rfl (pv 2) rfl) (aj dO (pv 3) (aP (K:=K) rfl (pv 2) rfl))))
   (af (ak (i:=6) sc_stretched.nd rfl (Or.inl rfl) (aV ac))
   (af (ak (i:=7) sc_stretched.nd rfl (Or.inl rfl) ad)
   (af (cL PassesOwn.never rfl (rD rfl T.reversed_ (aa (pv 0) ac)) (bw (i:=8) sc_stretched.nd rfl (Or.inl rfl))
     (af (ak (i:=6) sc_stretched.nd rfl (Or.inl rfl) (al L7 (hr.mono) rfl GZ HL Lh .nil ah (aa (al LP (hr.mono) rfl GL Hy KU .nil ah (aa (pv 6) (aa (aV (aa (pv 4) (aa (pv 5) ac))) ac))) (aa (al iD (hr.mono) rfl gN gW ix .nil ah (aa (aV (aa (aj aO (pv 8) (pv 7)) ac)) ac)) ac))))
       (ai (ak (i:=7) sc_stretched.nd rfl (Or.inl rfl) (aj aO (pv 7) (pv 3))))))
   (ai (ay (pv 6))))))))),?_⟩
  obtain⟨l',r',pl',pr',pg,el,er,em,e1,e2,pm⟩:=KK hl2 hr2 (g:=aw [l2,r2]) (by show Nat.gcd (Nat.gcd 0 l2.natAbs) r2.natAbs=_;rw[OV]);have bg:Bits 9000 ((aw [l2,r2]:Nat):Int):=Bits.mono (j:=1400) (bl2.of_le (by rw[Np];exact Nat.le_of_dvd (by omega) (by show Nat.gcd (Nat.gcd 0 l2.natAbs) r2.natAbs∣_;rw[OV];exact N5 _ _))) (by decide)
  have bl':Bits 1400 l':=bl2.of_le (by
   rw[el,Nf]
   exact OU _ (by omega))
  have br':Bits 2900 r':=br2.of_le (by
   rw[er,Nf]
   exact OU _ (by omega))
  refine av ⟨_,rfl,l,C,dl,_,_,rfl,hL,R.cl,R.nB,bM _ _,_,rfl,r,C,dr,_,_,rfl,hR,R.cl,R.nB,bM _ _,_,_,rfl,rfl,⟨bl2.mono,br2.mono⟩,?_⟩;refine⟨_,rfl,l,C,dl,_,_,rfl,hL,R.cl,R.nB,bM _ _,_,rfl,r,C,dr,_,_,rfl,hR,R.cl,R.nB,bM _ _,by show 2<=sizeLine;decide,λp0 hp0=>?_⟩;have s0':=Same.upd_new (o:=.lst [V.int l2,V.int r2]) hp0;refine⟨p0,[l2,r2],rfl,SqL.of ao,_,_,rfl,rfl,⟨pg,bg⟩,?_⟩;generalize upd H p0 (.lst [V.int l2,V.int r2])=H0 at s0' ⊢
  dsimp only
  rw[em];refine av ⟨_,rfl,l,C,dl,_,_,rfl,s0' _ _ hL,R.cl,R.nT,cF _ _,_,rfl,_,rfl,l,C,dl,_,_,rfl,s0' _ _ hL,R.cl,R.nB,bM _ _,_,_,rfl,rfl,⟨hl2,bl2.mono⟩,?_⟩;dsimp only
  rw[e1];refine⟨_,_,rfl,rfl,⟨bl1.mono,br'.mono⟩,?_⟩;refine av ⟨_,rfl,r,C,dr,_,_,rfl,s0' _ _ hR,R.cl,R.nT,cF _ _,_,rfl,_,rfl,r,C,dr,_,_,rfl,s0' _ _ hR,R.cl,R.nB,bM _ _,_,_,rfl,rfl,⟨hr2,br2.mono⟩,?_⟩;dsimp only
  rw[e2];refine⟨_,_,rfl,rfl,⟨br1.mono,bl'.mono⟩,?_⟩;have q0:l1*r'*l2=l1*(l2*r'):=by grind
  have q1:r1*l'*r2=r1*(l2*r'):=by
   calc r1*l'*r2=r1*l'*(((aw [l2,r2]:Nat):Int)*r'):=by rw[<- er]
    _=r1*((((aw [l2,r2]:Nat):Int)*l')*r'):=by grind
    _=r1*(l2*r'):=by rw[<- el]
  have q2:0<r1*l':=M8 hr1 pl';have bm:Bits 4300 (l2*r'):=bl2.mul br';have bs0:Bits 4300 (l1*r'):=bl1.mul br';have bs1:Bits 4300 (r1*l'):=br1.mul bl';dsimp only
  generalize l2*r'=m at *
  generalize l1*r'=s0 at *
  generalize r1*l'=s1 at *
  have sb:∀{l:List Int},AllB 1000 l->l.length<=12->AllB 60000 (bH m s0 s1 l):=λ{l} h hl=>(wY bm bs0 bs1 h).mono (by omega)
  refine av ⟨M9 _,λp1 hp1=>?_⟩;have s1':=s0'.then_new (o:=.lst []) hp1;have h1:upd H0 p1 (.lst []) p1=some (.lst []):=ao;have f1:H p1=none:=s0'.free hp1;generalize upd H0 p1 (.lst [])=H1 at s1' h1 ⊢
  refine av ?_;have hl:(ns.map V.int).length=ns.length:=MY _;refine⟨_,rfl,a,_,rfl,SqL.of (s1' _ _ hA),tG (K:=K) (a:=a) (xs:=ns.map V.int) (λi σ' H'=>∃(p:Addr) (z:Option V),σ'=[some (.ref a),some (.ref l),some (.ref r),some (.int m),some (.int s0),some (.int s1),some (.ref p),some (.int (m^i)),z]/\Same H H'/\H p=none/\H' p=some (.lst ((bH m s0 s1 (ns.drop (ns.length-i))).map V.int))) ⟨p1,none,by rw[NT];rfl,s1',f1,by rw[N6,List.drop_length];exact h1⟩ ?_ ?_ ?_⟩
  ·rintro i σ' H' _ ⟨p,z,rfl,sm,_⟩;exact SqL.of (sm _ _ hA)
  ·rintro i x σ' H2 hi hx ⟨p,z,rfl,s2,fp,e2'⟩;rw[hl]at hi hx;obtain⟨c,ec,rfl,hc,_⟩:=g6 hx;have bc:=hbn c hc;have hd:=zY hi ec;have len:(ns.drop (ns.length-i)).length=i:=by rw[Oi];omega
   have hbd:AllB 1000 (ns.drop (ns.length-i)):=λx hx=>hbn x (Pe hx)
   have aF:=sb hbd (by omega);have lF:(bH m s0 s1 (ns.drop (ns.length-i))).length=i:=by rw[iT,len]
   have bP:Bits 60000 (m^i):=(ir bm i).mono (by omega)
   have eF:fA (ae (bH m s0 s1 (ns.drop (ns.length-i))) [s0,s1]) (trim [c*m^i])=bH m s0 s1 (ns.drop (ns.length-(i+1))):=by
    have hT':Tr (bH m s0 s1 (ns.drop (ns.length-(i+1)))):=Bx q2 (by rw[hd];simp) (BC hT (by omega));rw[hd]at hT' ⊢
    have hT2:Tr (mb (-s0) s1 (c*m^i) (bH m s0 s1 (ns.drop (ns.length-i)))):=by have:bH m s0 s1 (c::ns.drop (ns.length-i))=mb (-s0) s1 (c*m^(ns.drop (ns.length-i)).length) (bH m s0 s1 (ns.drop (ns.length-i))):=rfl;rw[this,len]at hT';exact hT'
    show _=mb (-s0) s1 (c*m^(ns.drop (ns.length-i)).length) (bH m s0 s1 (ns.drop (ns.length-i)));rw[len];by_cases hi0:i=0
    ·subst hi0;have e0:bH m s0 s1 (ns.drop (ns.length-0))=[]:=by rw[N6,List.drop_length];rfl
     rw[e0]at hT2 ⊢;refine m8 (dZ _) hT2 λk=>?_
     unfold fA;rw[fy,fY,aI,fy,Nh];show 0+_=_;rw[NO];rfl
    ·have hn':bH m s0 s1 (ns.drop (ns.length-i))≠[]:=λz=>by rw[z]at lF;exact hi0 lF.symm
     have:=B2 (a := -s0) (b:=s1) (c:=c*m^i) hn' hT2;rw[Int.neg_neg]at this;exact this
   show cg (eP _ (eE 6)) _ _ _ _
   have bs:AllB 4300 [s0,s1]:=λx hx=>by
    simp only[Na,List.not_mem_nil,or_false]at hx;rcases hx with rfl |rfl
    ·exact bs0
    ·exact bs1
   generalize bH m s0 s1 (ns.drop (ns.length-i))=Fs at *
   refine av ⟨_,rfl,_,rfl,_,rfl,by show 2<=sizeLine;decide,λp3 hp3=>?_⟩;have s3:=s2.then_new (o:=.lst ([s0,s1].map V.int)) hp3;have e3:upd H2 p3 (.lst ([s0,s1].map V.int)) p=some (.lst (Fs.map V.int)):=(Same.upd_new hp3) _ _ e2';have h3:upd H2 p3 (.lst ([s0,s1].map V.int)) p3=some (.lst ([s0,s1].map V.int)):=ao;refine⟨p,p3,Fs,[s0,s1],rfl,e3,h3,by omega,by show 2<=1000000;decide,aF.mono,bs.mono,λp4 H4 s4 hp4 e4=>?_⟩;have t4:=s3.trans s4;refine⟨_,rfl,_,rfl,_,_,rfl,rfl,⟨bc.mono,bP.mono⟩,by show 1<=sizeLine;decide,λp5 hp5=>?_⟩;have s5:=t4.then_new (o:=.lst ([c*m^i].map V.int)) hp5;have e5:upd H4 p5 (.lst ([c*m^i].map V.int)) p4=some (.lst ((ae Fs [s0,s1]).map V.int)):=(Same.upd_new hp5) _ _ e4;have h5:upd H4 p5 (.lst ([c*m^i].map V.int)) p5=some (.lst ([c*m^i].map V.int)):=ao;refine⟨p5,[c*m^i],rfl,SqL.of h5,λp6 H6 s6 hp6 e6=>?_⟩;have t6:=s5.trans s6;refine⟨p4,p6,ae Fs [s0,s1],trim [c*m^i],rfl,SqL.of (s6 _ _ e5),SqL.of e6,?_,?_,λp7 H7 s7 hp7 e7=>?_⟩
   ·have:(ae Fs [s0,s1]).length<=1000:=by
     unfold ae;split
     ·exact M9 _
     ·rw[MY,N4];show _+2-1<=_;omega
    omega
   ·have:=sI [c*m^i];have:(trim [c*m^i]).length<=1:=this;omega
   rw[eF]at e7;refine cP ⟨_,rfl,_,rfl,_,_,rfl,rfl,⟨bP.mono,bm.mono⟩,?_⟩;refine⟨p7,some (.int c),?_,t6.trans s7,t6.free hp7,e7⟩;rw[Nm];rfl
  ·rintro σ' H' ⟨p,z,rfl,sm,fp,e⟩;rw[hl,On,OE]at e;exact⟨_,rfl,k m s0 s1 pm q0 q1 q2 (sb hbn hln) p H' sm fp e⟩
def qy:Sp:=λvs H Q _=>∃(a:Addr) (ns:List Int),vs=[.ref a]/\H a=some (.lst (ns.map V.int))/\ns.length<=1000/\AllB 500000 ns/\mkL H Q (ck ns)
theorem EK{f:Addr}{fd:FuncData}(F:Fun K "spread" "spread" jc f fd)(T:Txt K mg):FnOk P w K mg base CX0 1 f fd ["row"] qy:=by
 refine F.ok sc_spread (λvs H Q E h=>?_) (λcdv A outer s H vs Q E hr h=>?_)
 ·obtain⟨a,ns,rfl,_⟩:=h;rfl
 ·obtain⟨a,ns,rfl,hA,hn,hb,k⟩:=h;have big:=sizeLine_eq
  refine⟨_,(af (ak (i:=1) sc_spread.nd rfl (Or.inl rfl) (aV ac))
   (af (ak (i:=2) sc_spread.nd rfl (Or.inl rfl) ad)
   (af (cL PassesOwn.never rfl (rD rfl T.reversed_ (aa (pv 0) ac)) (bw (i:=3) sc_spread.nd rfl (Or.inl rfl))
     (af (d8 (lZ PySem.F.plainAttrs_list PySem.F.slot_list_append PySem.F.type_list_append mj (pv 1) (aa (aj aO (pv 2) (pv 3)) ac)))
       (ai (ak (i:=2) sc_spread.nd rfl (Or.inl rfl) (aj aO ad (pv 2))))))
   (af (d8 (yj PySem.F.plainAttrs_list PySem.F.slot_list_reverse PySem.F.type_list_reverse Gd (pv 1)))
   (ai (ay (pv 1))))))),?_⟩
  refine av ⟨M9 _,λp1 hp1=>?_⟩;have s1':=Same.upd_new (o:=.lst []) hp1;have h1:upd H p1 (.lst []) p1=some (.lst []):=ao;generalize upd H p1 (.lst [])=H1 at s1' h1 ⊢
  refine av ?_;have hl:(ns.map V.int).length=ns.length:=MY _;refine⟨_,rfl,a,_,rfl,SqL.of (s1' _ _ hA),tG (K:=K) (a:=a) (xs:=ns.map V.int) (λi σ' H'=>∃z:Option V,σ'=[some (.ref a),some (.ref p1),some (.int (2^i)),z]/\Same H H'/\H' p1=some (.lst ((ck (ns.drop (ns.length-i))).reverse.map V.int))) ⟨none,rfl,s1',by rw[N6,List.drop_length];exact h1⟩ ?_ ?_ ?_⟩
  ·rintro i σ' H' _ ⟨z,rfl,sm,_⟩;exact SqL.of (sm _ _ hA)
  ·rintro i x σ' H2 hi hx ⟨z,rfl,s2,h2⟩;rw[hl]at hi hx;obtain⟨c,ec,rfl,hc,_⟩:=g6 hx;have hd:=zY hi ec;have len:(ns.drop (ns.length-i)).length=i:=by rw[Oi];omega
   show cg (oi _) _ _ _ _;refine fH ⟨_,rfl,.inl ⟨rfl,_,SqL.of h2⟩,_,rfl,_,rfl,_,_,rfl,rfl,⟨(lV (n:=i) (k:=1001) (by omega)).mono,(hb c hc).mono⟩,p1,_,_,rfl,rfl,h2,by rw[MY,List.length_reverse,om,len];omega,?_⟩;refine cP ⟨_,rfl,_,_,rfl,rfl,⟨n6,(lV (n:=i) (k:=1001) (by omega)).mono⟩,?_⟩;refine⟨some (.int c),?_,fg s2 hp1,?_⟩
   ·show[some (V.ref a),some (V.ref p1),some (V.int (2*2^i)),some (V.int c)]=_;rw[Nm,Ni]
   ·rw[ao,hd,Gu];show some (HO.lst (((ck (ns.drop (ns.length-i))).reverse++[2^i*c]).map V.int))=some (HO.lst ((2^(ns.drop (ns.length-i)).length*c::ck (ns.drop (ns.length-i))).reverse.map V.int));rw[List.reverse_cons,len]
  ·rintro σ' H2 ⟨z,rfl,s2,h2⟩;rw[hl,On,OE]at h2;dsimp only
   refine fH ⟨_,rfl,.inl ⟨rfl,_,SqL.of h2⟩,p1,_,rfl,rfl,h2,?_⟩;refine⟨_,rfl,k p1 _ (fg s2 hp1) hp1 ?_⟩;rw[ao,<- List.map_reverse,List.reverse_reverse]
noncomputable def cY(m:List Int)(j:Nat):List Int:=m.take (m.length-1-j)++suf (m.drop (m.length-1-j))
theorem rM:∀(i:Nat) (m:List Int),db i m=m.take i++suf (m.drop i)
 |0,m=>by rw[List.take_zero,OE];rfl
 |i+1,[]=>rfl
 |i+1,c::m=>by show c::db i m=c::(m.take i++suf (m.drop i));rw[rM i m]
theorem Iv(m:List Int)(j:Nat):(cY m j).length=m.length:=by unfold cY;rw[Nk,iS,<- Nk,List.take_append_drop]
theorem Ir(m:List Int):cY m 0=m:=by
 unfold cY;rw[N6];cases hd:m.drop (m.length-1)with
 |nil =>have:m.length-1=m.length\/True:=.inr trivial;have h1:m.length<=m.length-1:=List.drop_eq_nil_iff.mp hd;have:m=[]:=Op (by omega);subst this;rfl
 |cons c r =>have hl:=congrArg List.length hd;rw[Oi,Nq]at hl;have:r=[]:=Op (by omega);subst this;show _++[c+0]=_;rw[NF,<- hd,List.take_append_drop]
theorem Iw(m:List Int){i:Nat}(h:i+1<=m.length):cY m (m.length-1-i)=db i m:=by
 unfold cY;rw[rM];have:m.length-1-(m.length-1-i)=i:=by omega
 rw[this]
theorem Iu(m:List Int){j:Nat}(h:j+2<=m.length):(cY m j).set (m.length-2-j) (cf (cY m j) (m.length-2-j)+cf (cY m j) (m.length-1-j))=cY m (j+1):=by
 have e1:m.length-1-(j+1)=m.length-2-j:=by omega
 have e2:m.length-1-j=m.length-2-j+1:=by omega
 have hk:m.length-2-j<m.length:=by omega
 unfold cY;rw[e1,e2];generalize m.length-2-j=k at hk e2
 have hd:m.drop k=m[k]::m.drop (k+1):=Ph hk;have ht:m.take (k+1)=m.take k++[m[k]]:=by rw[NX,List.getElem?_eq_getElem hk];rfl
 rw[hd,ht];have lt:(m.take k).length=k:=by rw[NV];omega
 have c1:cf (m.take k++[m[k]]++suf (m.drop (k+1))) k=m[k]:=by rw[OQ,nj (by omega),lt,On];rfl
 have c2:cf (m.take k++[m[k]]++suf (m.drop (k+1))) (k+1)=(suf (m.drop (k+1))).headD 0:=by
  rw[nj (by rw[Nk,lt];exact MZ _),Nk,lt];show cf _ (k+1-(k+1))=_;rw[On];cases suf (m.drop (k+1))with
  |nil=>rfl
  |cons _ _=>rfl
 rw[c1,c2];show _=m.take k++((m[k]+(suf (m.drop (k+1))).headD 0)::suf (m.drop (k+1)));rw[OQ,List.set_append_right _ _ (by omega),lt,On];rfl
theorem wV{M:Nat}:∀{l:List Int},(∀x∈l,x.natAbs<=M)->∀x∈suf l,x.natAbs<=l.length*M
 | [],_,x,hx=>nomatch hx
 |v::l,h,x,hx=>by
  have ih:=wV (l:=l) λx hx=>h x (M0 _ hx)
  have hv:=h v (M6 ..)
  have hh:((suf l).headD 0).natAbs<=l.length*M:=by
   cases hs:suf l with
   |nil=>show(0:Int).natAbs<=_;exact M9 _
   |cons g r=>exact ih g (by rw[hs];exact M6 ..)
  rw[Nq,Nat.add_mul,Nat.one_mul];rcases Na.mp hx with e |e
  ·subst e;exact Nd (Int.natAbs_add_le _ _) (Nd (Nat.add_le_add hv hh) (Oh (Nat.add_comm _ _)))
  ·exact Nd (ih x e) (OT _ _)
theorem Ep{i k:Nat}{m:List Int}(h:AllB i m)(hl:m.length<=16):AllB (i+4) (db k m):=by
 rw[rM];refine AllB.app (λx hx=>(h x (O2 hx)).mono (by omega)) λx hx=>?_
 have h1:=wV (M:=2^i-1) (l:=m.drop k) (λy hy=>by have:y.natAbs<2^i:=h y (Pe hy);omega) x hx;have h2:(m.drop k).length*(2^i-1)<=16*(2^i-1):=NC _ (by rw[Oi];omega);have h3:0<2^i:=N3 (by decide);show x.natAbs<2^(i+4);have h4:2^(i+4)=2^i*16:=by rw[Nat.pow_add]
 omega
theorem yO{i:Nat}{m:List Int}(h:AllB i m)(hl:m.length<=16):∀n,AllB (i+4*n) (dQ n m)
 |0=>h
 |n+1=>by have:=Ep (k:=n) (yO h hl n) (by rw[pD];exact hl);exact this.mono (by omega)
theorem Gg{i:Nat}{m:List Int}(h:AllB i m)(hl:m.length<=12):AllB (i+44) (mq m):=(yO h (by omega) _).mono (by omega)
theorem xf{i:Nat}:∀{m:List Int},AllB i m->m.length<=12->AllB (i+13) (ck m)
 | [],_,_=>AllB.nil
 |v::m,h,hl=>by
  have ih:=xf (m:=m) (λx hx=>h x (M0 _ hx)) (by rw[Nq]at hl;omega);intro x hx;rcases Na.mp hx with e |e
  ·subst e;have:=(lV (n:=m.length) (k:=13) (by rw[Nq]at hl;omega)).mul (h v (M6 ..));exact this.mono (by omega)
  ·exact ih x e
def qI:Sp:=λvs H Q _=>∃(a:Addr) (ns:List Int),vs=[.ref a]/\H a=some (.lst (ns.map V.int))/\1<=ns.length/\ns.length<=1000/\mkL H Q (mq ns)
theorem ra(l:List Int)(k:Nat)(v:Int):(l.map V.int).set k (.int v)=(l.set k v).map V.int:=by rw[List.map_set]
theorem AR{l:List Int}{k:Nat}{j:Int}(e:j=(k:Int))(h:k<l.length):atI (l.map V.int) j=some (.int (cf l k)):=by subst e;refine gd ?_;rw[List.getElem?_map,List.getElem?_eq_getElem h];show some (V.int l[k])=_;rw[AA (List.getElem?_eq_getElem h)]
theorem E8{f:Addr}{fd:FuncData}(F:Fun K "moved" "moved" jv f fd)(T:Txt K mg){dU:Addr}{dS:FuncData}(dY:Cal P w K mg base 1 "degree" ["row"] fE dU dS):FnOk P w K mg base CX0 2 f fd ["row"] qI:=by
 obtain⟨cU,cR,cS,cT⟩:=dY;refine F.ok sc_moved (λvs H Q E h=>?_) (λcdv A outer s H vs Q E hr h=>?_)
 ·obtain⟨a,ns,rfl,_⟩:=h;rfl
 ·obtain⟨a,ns,rfl,hA,hn1,hn,k⟩:=h;have big:=sizeLine_eq
  refine⟨_,(af (ak (i:=1) sc_moved.nd rfl (Or.inl rfl) (pj (qi (K:=K) rfl) (by rfl) T.list_ PyProof.Rows.boot_list (aa (pv 0) ac)))
   (af (cL PassesOwn.never rfl (ku rfl T.range_ (aa (al cU (hr.mono) rfl cR cS cT .nil ah (aa (pv 0) ac)) ac)) (bw (i:=2) sc_moved.nd rfl (Or.inl rfl))
     (ai (cL PassesOwn.never rfl (yi rfl T.range_ (aa (aj cw (al cU (hr.mono) rfl cR cS cT .nil ah (aa (pv 0) ac)) ad) (aa (aj cw (pv 2) ad) (aa (bJ bG ad) ac)))) (bw (i:=3) sc_moved.nd rfl (Or.inl rfl))
       (ai (lT (aj bQ (aH (bK (K:=K) rfl) (pv 1) (pv 3) (λ_ _=>rfl)) (aH (bK (K:=K) rfl) (pv 1) (aj bQ (pv 3) ad) (λ_ _=>rfl))) (lX (pv 1) (pv 3) lD))))))
   (ai (ay (pv 1))))),?_⟩
  refine av ⟨_,rfl,a,_,rfl,.inl (SqL.of hA),λp hp=>?_⟩;have s1':=Same.upd_new (o:=.lst (ns.map V.int)) hp;have h1:upd H p (.lst (ns.map V.int)) p=some (.lst (ns.map V.int)):=ao;generalize upd H p (.lst (ns.map V.int))=H1 at s1' h1 ⊢
  have hl:(ns.map V.int).length=ns.length:=MY _;have ed:((ns.map V.int).length:Int)-1=((ns.length-1:Nat):Int):=by rw[hl];omega
  refine⟨_,rfl,a,_,rfl,s1' _ _ hA,_,rfl,(by rw[ed];omega),(by rw[ed];omega),?_⟩;rw[ed];refine pY (lo:=0) (n:=ns.length-1) (λi σ' H'=>∃z2 z3:Option V,σ'=[some (.ref a),some (.ref p),z2,z3]/\Same H H'/\H' p=some (.lst ((dQ i ns).map V.int))) ⟨none,none,rfl,s1',h1⟩ ?_ ?_
  ·rintro i σ' H2 hi ⟨z2,z3,rfl,s2,h2⟩;have lm:(dQ i ns).length=ns.length:=pD _ _;generalize hM:dQ i ns=M at h2 lm
   obtain⟨r,er⟩:∃r,ns.length=r+2:=⟨ns.length-2,by omega⟩;have er1:ns.length-1=r+1:=by rw[er];rfl
   have er2:ns.length-2=r:=by rw[er];rfl
   have hr':r+2<=100000:=by rw[<- er];omega
   rw[er1]at hi;refine⟨_,rfl,a,_,rfl,s2 _ _ hA,_,_,rfl,rfl,_,rfl,_,_,rfl,rfl,_,rfl,(r:Int),(i:Int)-1,?_,⟨by omega,by omega,by omega,by omega⟩,?_⟩
   ·rw[ed,er1];have e1:((r+1:Nat):Int)-1=(r:Int):=by omega
    have e2:(0:Int)+(i:Int)-1=(i:Int)-1:=by omega
    dsimp only
    rw[e1,e2]
   have en:((r:Int)-((i:Int)-1)).toNat=r+1-i:=by omega
   rw[en];refine zF (λj σ' H'=>∃z3:Option V,σ'=[some (.ref a),some (.ref p),some (.int (0+(i:Int))),z3]/\Same H H'/\H' p=some (.lst ((cY M j).map V.int))) ⟨z3,rfl,s2,by rw[Ir];exact h2⟩ ?_ ?_
   ·rintro j σ' H3 hj ⟨z3,rfl,s3,h3⟩;have hj':j<=r:=by omega
    have lh:(cY M j).length=r+2:=by rw[Iv,lm,er]
    have hs:=Iu M (j:=j) (by rw[lm,er];omega);rw[lm,er1,er2]at hs;have k1:(r:Int)+(j:Int) * -1=((r-j:Nat):Int):=by omega
    have k2:(r:Int)+(j:Int) * -1+1=((r+1-j:Nat):Int):=by omega
    refine⟨_,rfl,_,rfl,p,_,_,_,rfl,rfl,SqL.of h3,AR k1 (by omega),_,rfl,_,rfl,_,_,rfl,rfl,p,_,_,_,rfl,rfl,SqL.of h3,AR k2 (by omega),_,_,rfl,rfl,_,rfl,_,rfl,p,_,_,r-j,rfl,rfl,h3,?_,?_⟩
    ·exact mK k1 (by rw[MY];omega)
    refine⟨_,rfl,fg s3 hp,?_⟩;rw[ao,ra,hs]
   ·rintro σ' H3 ⟨z3,rfl,s3,h3⟩;refine⟨_,_,rfl,s3,?_⟩
    have:cY M (r+1-i)=dQ (i+1) ns:=by rw[<- er1,<- lm,Iw M (by rw[lm,er];omega),<- hM];rfl
    rw[<- this];exact h3
  ·rintro σ' H2 ⟨z2,z3,rfl,s2,h2⟩;exact⟨_,rfl,k p H2 s2 hp h2⟩
structure RootB(ns:List Int)(ε:Int)(up:Int->Int->Prop):Prop where
 e1:ε=1\/ε = -1
 r1:∀p c,0<p->p<=c->up p c->sg (hv p c ns) = -ε
 r2:∀p c,0<p->p<=c->¬up p c->sg (hv p c ns)=ε\/sg (hv p c ns)=0
 r3:∀p c p' c',0<p->p<=c->0<p'->p'<=c'->¬up p c->p*c'<p'*c->sg (hv p' c' ns)=ε
 sc:∀p c,0<c->(up (2*p) (2*c)↔up p c)
 top:¬up 1 1
theorem Il(p c:Int)(l:List Int):sg (hv (2*p) (2*c) l)=sg (hv p c l):=by rw[pR];exact dz (NI (by decide))
def qP:Sp:=λvs H Q _=>∃(a:Addr) (ns:List Int) (e:Int) (n:Nat) (ε:Int) (up:Int->Int->Prop),vs=[.ref a,.int e,.int n]/\H a=some (.lst (ns.map V.int))/\1<=ns.length/\ns.length<=12/\AllB 60000 ns/\n<=4000/\RootB ns ε up/\e=sg (hv 1 1 ns) /\
 ∀(p:Addr) (H':Hp) (pl:Nat),Same H H'->H p=none->H' p=some (.tup [.int pl,.int (2^n)])->pl<2^n->(pl=0\/up pl (2^n))->¬up ((pl:Int)+1) (2^n)->Q (.ref p) H'
theorem Fg{f:Addr}{fd:FuncData}(F:Fun K "halved" "halved" jC f fd)(T:Txt K mg){JE:Addr}{IU:FuncData}(Mo:Cal P w K mg base 1 "spread" ["row"] qy JE IU){ia:Addr}{g8:FuncData}(iG:Cal P w K mg base 1 "whole_sign" ["value"] iV ia g8){JJ:Addr}{IZ:FuncData}(Mt:Cal P w K mg base 2 "moved" ["row"] qI JJ IZ):FnOk P w K mg base CX0 3 f fd ["row","end","steps"] qP:=by
 obtain⟨LM,GI,Hv,KR⟩:=Mo;obtain⟨iB,gL,gT,iu⟩:=iG;obtain⟨LQ,GM,Hz,KW⟩:=Mt;refine F.ok sc_halved (λvs H Q E h=>?_) (λcdv A outer s H vs Q E hr h=>?_)
 ·obtain⟨a,ns,e,n,ε,up,rfl,_⟩:=h;rfl
 ·obtain⟨a,ns,e,n,ε,up,rfl,hA,h1n,hln,hbn,hn,hB,he,k⟩:=h
  refine⟨_,(af (ak (i:=3) sc_halved.nd rfl (Or.inl rfl) ad)
   (af (ak (i:=4) sc_halved.nd rfl (Or.inl rfl) ad)
   (af (ak (i:=5) sc_halved.nd rfl (Or.inl rfl) (pv 1))
   (af (ak (i:=6) sc_halved.nd rfl (Or.inl rfl) (pv 0))
   (af (cL PassesOwn.never rfl (ku rfl T.range_ (aa (pv 2) ac)) (bw (i:=7) sc_halved.nd rfl (Or.inl rfl))
     (af (ak (i:=3) sc_halved.nd rfl (Or.inl rfl) (aj aO ad (pv 3)))
       (af (ak (i:=4) sc_halved.nd rfl (Or.inl rfl) (aj aO ad (pv 4)))
       (af (ak (i:=6) sc_halved.nd rfl (Or.inl rfl) (al LM (hr.mono) rfl GI Hv KR .nil ah (aa (pv 6) ac)))
       (af (ak (i:=8) sc_halved.nd rfl (Or.inl rfl) (al iB (hr.mono) rfl gL gT iu .nil ah (aa (aT (KC (K:=K) rfl rfl) (by rfl) T.sum_ PyProof.Rows.boot_sum (aa (pv 6) ac)) ac)))
       (ai (aS (PW.pt (fK (aJ fL (pv 8) ad (aG _)) (km (aJ fL (pv 8) (pv 5) (aG _)))))
         (af (ak (i:=3) sc_halved.nd rfl (Or.inl rfl) (aj bQ (pv 3) ad))
           (ai (ak (i:=6) sc_halved.nd rfl (Or.inl rfl) (al LQ (hr.mono) rfl GM Hz KW .nil ah (aa (pv 6) ac)))))
         (ai (ak (i:=5) sc_halved.nd rfl (Or.inl rfl) (pv 8))))))))))
   (ai (ay (dM (aa (pv 3) (aa (pv 4) ac)))))))))),?_⟩
  refine av ?_;refine av ?_;refine av ⟨_,rfl,?_⟩;refine av ⟨_,rfl,?_⟩;refine⟨_,rfl,n,rfl,by omega,by omega,pY (lo:=0) (n:=n) (λi σ' H'=>∃(p:Addr) (pl:Nat) (L:List Int) (z7 z8:Option V),σ'=[some (.ref a),some (.int e),some (.int n),some (.int pl),some (.int (2^i)),some (.int (sg (hv ((pl:Int)+1) (2^i) ns))),some (.ref p),z7,z8]/\Same H H'/\H' p=some (.lst (L.map V.int))/\L.length=ns.length/\AllB (60000+60*i) L/\(∀p q:Int,2^i*hv p q L=hv (pl*q+p) (2^i*q) ns)/\pl<2^i/\(pl=0\/up pl (2^i))/\¬up ((pl:Int)+1) (2^i)) ⟨a,0,ns,none,none,by rw[he];rfl,Same.refl _,hA,rfl,hbn,λp q=>by rw[NT,Nh,Nh];show _=hv (0*q+p) q ns;rw[NB,NO],by decide,.inl rfl,by rw[NT];exact hB.top⟩ ?_ ?_⟩
  ·rintro i σ' H1 hi ⟨p,pl,L,z7,z8,rfl,s1,h1,lL,bL,hval,hpl,hup,hnup⟩;show cg (eP _ (eE 3)) _ _ _ _;have b2i:Bits 4002 ((2:Int)^i):=lV (by omega);have p2i:=kt i;have cpl:(pl:Int)<2^i:=by rw[gD];exact ON.mpr hpl
   have bpl:Bits 4002 (pl:Int):=b2i.of_le (by rw[gD];omega);refine av ⟨_,rfl,_,_,rfl,rfl,⟨n6,bpl.mono⟩,?_⟩;refine av ⟨_,rfl,_,_,rfl,rfl,⟨n6,b2i.mono⟩,?_⟩;refine av ⟨_,rfl,p,L,rfl,h1,by omega,bL.mono (by omega),λp2 H2 s2 hp2 e2=>?_⟩;have t2:=s1.trans s2;have lS:(ck L).length=ns.length:=by rw[om,lL]
   have bS:AllB (60000+60*i+13) (ck L):=xf bL (by omega);have e2i:(2:Int)*2^i=2^(i+1):=by rw[Nm,Ni]
   have vS:∀p q:Int,2^(i+1)*hv p q (ck L)=hv (((2*pl:Nat):Int)*q+p) (2^(i+1)*q) ns:=λp q=>by
    have h3:=hval p (2*q);rw[<- zu]at h3;have h4:(2:Int)^(i+1)*hv p q (ck L)=2^i*(2*hv p q (ck L)):=by rw[Nm];grind
    rw[h4,h3]
    have h5:(pl:Int)*(2*q)+p=((2*pl:Nat):Int)*q+p:=by
     have:((2*pl:Nat):Int)=2*(pl:Int):=by omega
     rw[this];grind
    have h6:(2:Int)^i*(2*q)=2^(i+1)*q:=by rw[Nm];grind
    rw[h5,h6]
   refine av ⟨_,rfl,p2,ck L,rfl,SqL.of e2,_,rfl,?_⟩;have p2i1:=kt (i+1)
   have ethere:sg (ck L).sum=sg (hv (((2*pl:Nat):Int)+1) (2^(i+1)) ns):=by have h3:=vS 1 1;rw[Nw,Nw]at h3;rw[<- zr,<- h3,dz p2i1]
   have c2pl:(((2*pl:Nat):Int)+1)<=2^(i+1):=by rw[<- e2i];omega
   have hold:sg (hv ((pl:Int)+1) (2^i) ns)=sg (hv (2*((pl:Int)+1)) (2^(i+1)) ns):=by rw[<- e2i,Il]
   have plc:(pl:Int)+1<=2^i:=by omega
   generalize hth:sg (ck L).sum=th at ethere
   show iQ _ _ _ _ _ _;have epl:(2:Int)*(pl:Int)=((2*pl:Nat):Int):=by omega
   have n2i:2^(i+1)=2*2^i:=by rw[Om,NW]
   refine cZ (λσ' H'=>σ'=[some (.ref a),some (.int e),some (.int n),some (.int (2*(pl:Int))),some (.int (2*2^i)),some (.int (sg (hv ((pl:Int)+1) (2^i) ns))),some (.ref p2),some (.int (0+(i:Int))),some (.int th)]/\H2=H') ⟨by rw[<- hth];rfl,rfl⟩ ?_;rintro σ' H' ⟨rfl,rfl⟩;by_cases hu:up (((2*pl:Nat):Int)+1) (2^(i+1))
   ·
    have r1:=hB.r1 _ _ (by omega) c2pl hu;rw[<- ethere]at r1;have r2:=hB.r2 _ _ (by omega) plc hnup;have n0:th≠0:=by rcases hB.e1 with z |z<;>omega
    have n1:th≠sg (hv ((pl:Int)+1) (2^i) ns):=by rcases hB.e1 with z |z<;>rcases r2 with y |y<;>omega
    refine lI (fJ ⟨_,rfl,_,_,rfl,rfl,_,rfl,cK (λ_=>?_) (λh0=>absurd h0 n0)⟩);refine⟨_,rfl,_,rfl,_,_,rfl,rfl,_,rfl,cK (λ_=>?_) (λh0=>absurd h0 n1)⟩;refine av ⟨_,rfl,_,_,rfl,rfl,?_⟩;refine cP ⟨_,rfl,p2,ck L,rfl,e2,by omega,by omega,λp3 H3 s3 hp3 e3=>?_⟩;refine⟨p3,2*pl+1,mq (ck L),some (.int (0+(i:Int))),some (.int th),?_,t2.trans s3,e3,by rw[yP,lS],(Gg bS (by omega)).mono (by omega),λp q=>?_,by omega,.inr ?_,?_⟩
    ·have q1:(2:Int)*(pl:Int)+1=((2*pl+1:Nat):Int):=by omega
     have q2:((2*pl+1:Nat):Int)+1=2*((pl:Int)+1):=by omega
     rw[q2,<- hold,<- q1,<- e2i];rfl
    ·rw[Im,vS]
     have:((2*pl:Nat):Int)*q+(p+q)=((2*pl+1:Nat):Int)*q+p:=by
      have:((2*pl+1:Nat):Int)=((2*pl:Nat):Int)+1:=by omega
      rw[this];grind
     rw[this]
    ·exact hu
    ·have q2:((2*pl+1:Nat):Int)+1=2*((pl:Int)+1):=by omega
     rw[q2,<- e2i,hB.sc _ _ p2i];exact hnup
   ·
    have r2:=hB.r2 _ _ (by omega) c2pl hu;rw[<- ethere]at r2
    have r3:=hB.r3 _ _ ((pl:Int)+1) (2^i) (by omega) c2pl (by omega) plc hu (by
     have h7:(((2*pl:Nat):Int)+1)*2^i<(2*(pl:Int)+2)*2^i:=NU (by omega) p2i;have h8:((pl:Int)+1)*2^(i+1)=(2*(pl:Int)+2)*2^i:=by rw[Nm];grind
     omega)
    have low:∃(p:Addr) (q:Nat) (L':List Int) (z7 z8:Option V),[some (V.ref a),some (V.int e),some (V.int n),some (V.int (2*(pl:Int))),some (V.int (2*2^i)),some (V.int th),some (V.ref p2),some (V.int (0+(i:Int))),some (V.int th)]=[some (.ref a),some (.int e),some (.int n),some (.int q),some (.int (2^(i+1))),some (.int (sg (hv ((q:Int)+1) (2^(i+1)) ns))),some (.ref p),z7,z8]/\Same H H2/\H2 p=some (.lst (L'.map V.int))/\L'.length=ns.length/\AllB (60000+60*(i+1)) L'/\(∀p q':Int,2^(i+1)*hv p q' L'=hv (q*q'+p) (2^(i+1)*q') ns)/\q<2^(i+1)/\(q=0\/up q (2^(i+1)))/\¬up ((q:Int)+1) (2^(i+1)):=by
     refine⟨p2,2*pl,ck L,some (.int (0+(i:Int))),some (.int th),by rw[e2i,epl,ethere],t2,e2,lS,bS.mono (by omega),vS,by omega,?_,hu⟩;rcases hup with z |z
     ·exact .inl (by omega)
     ·refine .inr ?_;rw[<- epl,<- e2i,hB.sc _ _ p2i];exact z
    by_cases n0:th=0
    ·refine lI (fJ ⟨_,rfl,_,_,rfl,rfl,_,rfl,cK (λh0=>absurd n0 h0) (λ_=>?_)⟩);exact da (cP ⟨_,rfl,low⟩)
    ·have n1:th=sg (hv ((pl:Int)+1) (2^i) ns):=by
      rcases r2 with z |z
      ·rw[z,r3]
      ·exact absurd z n0
     refine lI (fJ ⟨_,rfl,_,_,rfl,rfl,_,rfl,cK (λ_=>?_) (λh0=>absurd h0 n0)⟩);refine⟨_,rfl,_,rfl,_,_,rfl,rfl,_,rfl,cK (λh0=>absurd n1 h0) (λ_=>?_)⟩;exact cP ⟨_,rfl,low⟩
  ·rintro σ' H1 ⟨p,pl,L,z7,z8,rfl,s1,h1,lL,bL,hval,hpl,hup,hnup⟩;dsimp only
   refine aX ⟨_,rfl,_,rfl,by show 2<=sizeLine;decide,λp' hp'=>?_⟩;exact k p' _ pl (s1.then_new hp') (s1.free hp') ao hpl hup hnup
structure RootU(ns:List Int)(l1 l2 h1 h2 ε:Int)(Up:Int->Int->Prop):Prop where
 e1:ε=1\/ε = -1
 r1:∀x1 x2,0<x2->l1*x2<x1*l2->x1*h2<=h1*x2->Up x1 x2->sg (hv x1 x2 ns) = -ε
 r2:∀x1 x2,0<x2->l1*x2<x1*l2->x1*h2<=h1*x2->¬Up x1 x2->sg (hv x1 x2 ns)=ε\/sg (hv x1 x2 ns)=0
 r3:∀x1 x2 y1 y2,0<x2->0<y2->l1*x2<x1*l2->y1*h2<=h1*y2->¬Up x1 x2->x1*y2<y1*x2->sg (hv y1 y2 ns)=ε
 sc:∀x1 x2 y1 y2,0<x2->0<y2->x1*y2=y1*x2->Up x1 x2->Up y1 y2
 low:Up l1 l2
 top:¬Up h1 h2
structure EndsG(k:Nat)(l1 l2 h1 h2:Int):Prop where
 l2p:0<l2
 h2p:0<h2
 bl1:Bits k l1
 bl2:Bits k l2
 bh1:Bits k h1
 bh2:Bits k h2
 lt:l1*h2<h1*l2
 gl:Nat.gcd l1.natAbs l2.natAbs=1
 gh:Nat.gcd h1.natAbs h2.natAbs=1
theorem EndsG.mono{j k:Nat}{l1 l2 h1 h2:Int}(e:EndsG j l1 l2 h1 h2)(h:j<=k:=by decide):EndsG k l1 l2 h1 h2:=⟨e.l2p,e.h2p,e.bl1.mono h,e.bl2.mono h,e.bh1.mono h,e.bh2.mono h,e.lt,e.gl,e.gh⟩
structure NarP(l1 l2 h1 h2 w1 w2:Int)(Up:Int->Int->Prop)(kb:Nat)(n pl:Nat)(x1 x2 y1 y2:Int):Prop where
 ends:EndsG kb x1 x2 y1 y2
 ux:Up x1 x2
 uy:¬Up y1 y2
 lo:l1*x2<=x1*l2
 hi:y1*h2<=h1*y2
 wide:(y1*x2-x1*y2)*w2<=w1*(x2*y2)
 pls:pl<2^n
 ex:x1*(l2*h2*2^n)=(l1*h2*2^n+(h1*l2-l1*h2)*pl)*x2
 ey:y1*(l2*h2*2^n)=(l1*h2*2^n+(h1*l2-l1*h2)*(pl+1))*y2
 big:∀j:Nat,j<n->w1*(h2*l2)*2^j<(h1*l2-l1*h2)*w2
 fit:(h1*l2-l1*h2)*w2<=w1*(h2*l2)*2^n
theorem Cv{x1 x2 y1 y2:Int}(hx:0<x2)(hy:0<y2)(e:x1*y2=y1*x2)(l:List Int):sg (hv x1 x2 l)=sg (hv y1 y2 l):=by
 have h1:=pR y2 x1 x2 l;have h2:=pR x2 y1 y2 l;have e1:y2*x1=x2*y1:=by rw[Ni y2,e,Ni]
 rw[e1,Ni y2 x2]at h1;rw[h1]at h2;have h3:=congrArg sg h2;rw[dz (NI hy),dz (NI hx)]at h3;exact h3
theorem cancel{a b c:Int}(hc:0<c)(h:a*c=b*c):a=b:=Oy (Nr hc) h
theorem kO{a b c:Int}(hc:0<c)(h:a*c<=b*c):a<=b:=Int.le_of_mul_le_mul_right h hc
theorem ip{a b c:Int}(hc:0<c)(h:a*c<b*c):a<b:=Oq h (M7 hc)
theorem AV{l1 l2 h1 h2 r1 r2 x1 x2 pc pl:Int}(hr:0<r2)(er:r1*(h2*l2)=(h1*l2-l1*h2)*r2)(e:x1*(l2*r2*pc)=(l1*r2*pc+r1*l2*pl)*x2):x1*(l2*h2*pc)=(l1*h2*pc+(h1*l2-l1*h2)*pl)*x2:=by
 refine cancel hr ?_
 calc x1*(l2*h2*pc)*r2=(x1*(l2*r2*pc))*h2:=by grind
  _=(l1*r2*pc+r1*l2*pl)*x2*h2:=by rw[e]
  _=(l1*h2*pc*r2+(r1*(h2*l2))*pl)*x2:=by grind
  _=(l1*h2*pc*r2+((h1*l2-l1*h2)*r2)*pl)*x2:=by rw[er]
  _=(l1*h2*pc+(h1*l2-l1*h2)*pl)*x2*r2:=by grind
theorem yF{l1 l2 h1 h2 w1 w2 x1 x2 y1 y2 pc pl:Int}(hl:0<l2)(hh:0<h2)(hx:0<x2)(hy:0<y2)(hpc:0<pc)(hp0:0<=pl)(hp1:pl+1<=pc)(hD:0<h1*l2-l1*h2)(ex:x1*(l2*h2*pc)=(l1*h2*pc+(h1*l2-l1*h2)*pl)*x2)(ey:y1*(l2*h2*pc)=(l1*h2*pc+(h1*l2-l1*h2)*(pl+1))*y2)(fit:(h1*l2-l1*h2)*w2<=w1*(h2*l2)*pc):x1*y2<y1*x2/\l1*x2<=x1*l2/\y1*h2<=h1*y2/\(y1*x2-x1*y2)*w2<=w1*(x2*y2):=by
 have hlh:0<l2*h2:=M8 hl hh;have hM:0<l2*h2*pc:=M8 hlh hpc;have hxy:0<x2*y2:=M8 hx hy
 have hd:(y1*x2-x1*y2)*(l2*h2*pc)=(h1*l2-l1*h2)*(x2*y2):=by
  calc (y1*x2-x1*y2)*(l2*h2*pc)=(y1*(l2*h2*pc))*x2-(x1*(l2*h2*pc))*y2:=by grind
   _=((l1*h2*pc+(h1*l2-l1*h2)*(pl+1))*y2)*x2-((l1*h2*pc+(h1*l2-l1*h2)*pl)*x2)*y2:=by rw[ex,ey]
   _=(h1*l2-l1*h2)*(x2*y2):=by grind
 have hi:y1*h2<=h1*y2:=by
  refine kO (c:=l2*pc) (M8 hl hpc) ?_;have e1:y1*h2*(l2*pc)=y1*(l2*h2*pc):=by grind
  have e2:h1*y2*(l2*pc)=(l1*h2*pc+(h1*l2-l1*h2)*pc)*y2:=by grind
  rw[e1,ey,e2];refine Ny ?_ (M7 hy);have:=Oz hp1 (M7 hD);omega
 generalize h1*l2-l1*h2=D at *
 refine⟨?_,?_,hi,?_⟩
 ·have h3:0<(y1*x2-x1*y2)*(l2*h2*pc):=by rw[hd];exact M8 hD hxy
  have h4:0<y1*x2-x1*y2:=ip hM (by rw[NB];exact h3);omega
 ·refine kO (c:=h2*pc) (M8 hh hpc) ?_;have e1:x1*l2*(h2*pc)=x1*(l2*h2*pc):=by grind
  have e2:l1*x2*(h2*pc)=l1*h2*pc*x2:=by grind
  rw[e1,ex,e2,Int.add_mul];have:0<=D*pl*x2:=NH (NH (M7 hD) hp0) (M7 hx);omega
 ·refine kO hM ?_;have e1:(y1*x2-x1*y2)*w2*(l2*h2*pc)=((y1*x2-x1*y2)*(l2*h2*pc))*w2:=by grind
  have e2:w1*(x2*y2)*(l2*h2*pc)=w1*(h2*l2)*pc*(x2*y2):=by grind
  have e3:D*(x2*y2)*w2=D*w2*(x2*y2):=by grind
  rw[e1,hd,e2,e3];exact Ny fit (M7 hxy)
def oF(C:Addr):Sp:=λvs H Q _=>∃(a l h wd:Addr) (ns:List Int) (l1 l2 h1 h2 w1 w2:Int) (k kw:Nat) (ε:Int) (Up:Int->Int->Prop),vs=[.ref a,.ref l,.ref h,.ref wd]/\H a=some (.lst (ns.map V.int))/\Tr ns/\ns≠[]/\ns.length<=12/\AllB 1000 ns/\RA C H l l1 l2/\RA C H h h1 h2/\RA C H wd w1 w2/\EndsG k l1 l2 h1 h2/\0<w1/\0<w2/\Bits kw w1/\Bits kw w2/\k<=1400/\2*k+kw<=3900/\5*k+kw<=8900/\RootU ns l1 l2 h1 h2 ε Up /\
 ∀(p x y:Addr) (H':Hp) (n pl:Nat) (x1 x2 y1 y2:Int),Same H H'->H p=none->H' p=some (.tup [.ref x,.ref y])->RA C H' x x1 x2->RA C H' y y1 y2->NarP l1 l2 h1 h2 w1 w2 Up (5*k+kw+4) n pl x1 x2 y1 y2->Q (.ref p) H'
theorem E6{C f:Addr}{fd:FuncData}(F:Fun K "narrowed" "narrowed" jt f fd)(T:Txt K mg)(R:RCI K mg C){uE:Addr}{ue:FuncData}(wj:MCal P w K mg base 4 C "minus" ["self","other"] (oG C) uE ue){JP:Addr}{Jd:FuncData}(MA:Cal P w K mg base 1 "halvings" ["reach","width"] (qO C) JP Jd){JQ:Addr}{Je:FuncData}(MB:Cal P w K mg base 3 "halved" ["row","end","steps"] qP JQ Je){JC:Addr}{IS:FuncData}(Mm:Cal P w K mg base 3 "stretched" ["row","low","reach"] (qx C) JC IS){ib:Addr}{g9:FuncData}(iH:Cal P w K mg base 2 "sign_at" ["row","ratio"] (iW C) ib g9){JV:Addr}{Jj:FuncData}(MG:Cal P w K mg base 5 "along" ["low","reach","place","pieces"] (qV C) JV Jj):FnOk P w K mg base CX0 6 f fd ["row","low","high","width"] (oF C):=by
 obtain⟨vP,r6,vp⟩:=wj;obtain⟨LX,GS,HF,Lb⟩:=MA;obtain⟨LY,GU,HG,Lc⟩:=MB;obtain⟨LK,GG,Ht,KP⟩:=Mm;obtain⟨iC,gM,gU,iw⟩:=iH;obtain⟨A4,y6,zf,AN⟩:=MG;refine F.ok sc_narrowed (λvs H Q E h=>?_) (λcdv A outer s H vs Q E hr h=>?_)
 ·obtain⟨a,l,h,wd,ns,l1,l2,h1,h2,w1,w2,k,kw,ε,Up,rfl,_⟩:=h;rfl
 ·obtain⟨a,l,h,wd,ns,l1,l2,h1,h2,w1,w2,kb,kw,ε,Up,rfl,hA,hT,hne,hln,hbn,hl,hh,hw,en,hw1,hw2,bw1,bw2,hk1,hk2,hk3,hU,k⟩:=h
  refine⟨_,(af (ak (i:=4) sc_narrowed.nd rfl (Or.inl rfl) (eY (pv 2) R.cl r6 vP (hr.mono) vp .nil ah (aa (pv 1) ac)))
   (af (ak (i:=5) sc_narrowed.nd rfl (Or.inl rfl) (al LX (hr.mono) rfl GS HF Lb .nil ah (aa (pv 4) (aa (pv 3) ac))))
   (af (aS (aJ cI (pv 5) ad (aG _))
     (ai (ay (dM (aa (pv 1) (aa (pv 2) ac)))))
     aU)
   (af (ak (i:=6) sc_narrowed.nd rfl (Or.inl rfl) (al LY (hr.mono) rfl GU HG Lc .nil ah (aa (al LK (hr.mono) rfl GG Ht KP .nil ah (aa (pv 0) (aa (pv 1) (aa (pv 4) ac)))) (aa (al iC (hr.mono) rfl gM gU iw .nil ah (aa (pv 0) (aa (pv 2) ac))) (aa (pv 5) ac)))))
   (ai (ay (dM (aa (al A4 (hr.mono) rfl y6 zf AN .nil ah (aa (pv 1) (aa (pv 4) (aa (aH (aY (K:=K) rfl) (pv 6) ad (λ_ _=>rfl)) (aa (aH (aY (K:=K) rfl) (pv 6) ad (λ_ _=>rfl)) ac))))) (aa (al A4 (hr.mono) rfl y6 zf AN .nil ah (aa (pv 1) (aa (pv 4) (aa (aj bQ (aH (aY (K:=K) rfl) (pv 6) ad (λ_ _=>rfl)) ad) (aa (aH (aY (K:=K) rfl) (pv 6) ad (λ_ _=>rfl)) ac))))) ac))))))))),?_⟩
  obtain⟨dl,hl'⟩:=id hl;obtain⟨dh,hh'⟩:=id hh;obtain⟨l2p,h2p,bl1,bl2,bh1,bh2,lt,_,_⟩:=id en;refine av ⟨_,rfl,h,dh,_,rfl,hh',fS _ _ yC.1 yC.2,_,rfl,h,l,h1,h2,l1,l2,kb,kb,rfl,hh,hl,bh1.mono (by omega),bh2,bl1.mono (by omega),bl2,by omega,h2p,l2p,λr H1 s1 fr hr1=>?_⟩;have d0:h2*l2≠0:=Nr (M8 h2p l2p);have er:=eU (t:=h1*l2-l1*h2) d0;have r2p:0<rb (h1*l2-l1*h2) (h2*l2):=dI d0;have br1:Bits (2*kb+1) (rt (h1*l2-l1*h2) (h2*l2)):=fG d0 (Bits.sub ((bh1.mul bl2).mono (by omega)) ((bl1.mul bh2).mono (by omega)));have br2:Bits (2*kb+1) (rb (h1*l2-l1*h2) (h2*l2)):=eT d0 ((bh2.mul bl2).mono (by omega));generalize rt (h1*l2-l1*h2) (h2*l2)=r1 at *
  generalize rb (h1*l2-l1*h2) (h2*l2)=r2 at *
  have hD:0<h1*l2-l1*h2:=by omega
  have hhl:0<h2*l2:=M8 h2p l2p;have r1p:0<r1:=ip hhl (by rw[NB,er];exact M8 hD r2p);have hA1:=s1 _ _ hA;have hl1:=hl.same s1;have hh1:=hh.same s1;refine av ⟨_,rfl,_,rfl,r,wd,r1,r2,w1,w2,2*kb+1,kw,rfl,hr1,hw.same s1,r2p,hw1,br1,br2.mono (by omega),bw1.mono (by omega),bw2,by omega,λn hn hle hmin=>?_⟩
  have fit:(h1*l2-l1*h2)*w2<=w1*(h2*l2)*2^n:=by
   refine kO r2p ?_
   calc (h1*l2-l1*h2)*w2*r2=((h1*l2-l1*h2)*r2)*w2:=by grind
    _=r1*(h2*l2)*w2:=by rw[er]
    _=r1*w2*(h2*l2):=by grind
    _<=w1*r2*2^n*(h2*l2):=Ny hle (M7 hhl)
    _=w1*(h2*l2)*2^n*r2:=by grind
  have bigg:∀j:Nat,j<n->w1*(h2*l2)*2^j<(h1*l2-l1*h2)*w2:=λj hj=>by
   refine ip r2p ?_
   calc w1*(h2*l2)*2^j*r2=w1*r2*2^j*(h2*l2):=by grind
    _<r1*w2*(h2*l2):=NU (hmin j hj) hhl
    _=r1*(h2*l2)*w2:=by grind
    _=(h1*l2-l1*h2)*r2*w2:=by rw[er]
    _=(h1*l2-l1*h2)*w2*r2:=by grind
  refine bI ⟨_,rfl,_,_,rfl,rfl,_,rfl,aR (λh0=>?_) (λ_=>?_)⟩
  ·obtain rfl:n=0:=by have:(n:Int)=0:=h0;omega
   refine aX ⟨_,rfl,_,rfl,by show 2<=sizeLine;decide,λp hp=>?_⟩;have sp:=Same.upd_new (o:=.tup [V.ref l,V.ref h]) hp;have ex:l1*(l2*h2*2^0)=(l1*h2*2^0+(h1*l2-l1*h2)*((0:Nat):Int))*l2:=by rw[NT];show _=(_+_*0)*_;grind
   have ey:h1*(l2*h2*2^0)=(l1*h2*2^0+(h1*l2-l1*h2)*(((0:Nat):Int)+1))*h2:=by rw[NT];show _=(_+_*(0+1))*_;grind
   have nf:=yF (w1:=w1) (w2:=w2) (pc:=2^0) l2p h2p l2p h2p (kt 0) (NR 0) (by decide) hD ex ey fit;exact k p l h _ 0 0 l1 l2 h1 h2 (s1.then_new hp) (s1.free hp) ao (hl1.same sp) (hh1.same sp) ⟨en.mono (by omega),hU.low,hU.top,NR _,NR _,nf.2.2.2,by decide,ex,ey,bigg,fit⟩
  refine av ⟨_,rfl,_,rfl,_,rfl,a,l,r,ns,l1,l2,r1,r2,rfl,hA1,hl1,hr1,hT,hne,hln,hbn,l2p,r1p,r2p,bl1.mono hk1,bl2.mono hk1,br1.mono (by omega),br2.mono (by omega),λm s0 s1' pm e0 e1 hs1 bS p2 H2 s2 hp2 eq2=>?_⟩;have t2:=s1.trans s2;refine⟨_,rfl,_,rfl,a,h,ns,h1,h2,⟨rfl,t2 _ _ hA,hh.same t2,by omega,hbn.mono,bh1.mono (by omega),bh2.mono (by omega)⟩,λH3 s3=>?_⟩;have t3:=t2.trans s3;have lp:0<l2*r2:=M8 l2p r2p
  have top:(s0+s1')*h2=h1*m:=by
   refine cancel lp ?_
   calc (s0+s1')*h2*(l2*r2)=((s0*l2)*r2+(s1'*r2)*l2)*h2:=by grind
    _=(l1*m*r2+r1*m*l2)*h2:=by rw[e0,e1]
    _=m*(l1*r2*h2+r1*(h2*l2)):=by grind
    _=m*(l1*r2*h2+(h1*l2-l1*h2)*r2):=by rw[er]
    _=h1*m*(l2*r2):=by grind
  have pt:∀p c:Int,0<p->p<=c->0<m*c/\l1*(m*c)<(s0*c+s1'*p)*l2/\(s0*c+s1'*p)*h2<=h1*(m*c):=λp c hp hc=>by
   refine⟨M8 pm (by omega),?_,?_⟩
   ·have:(s0*c+s1'*p)*l2=l1*(m*c)+s1'*p*l2:=by
     calc (s0*c+s1'*p)*l2=(s0*l2)*c+s1'*p*l2:=by grind
      _=l1*m*c+s1'*p*l2:=by rw[e0]
      _=l1*(m*c)+s1'*p*l2:=by grind
    rw[this];have:=M8 (M8 hs1 hp) l2p;omega
   ·have h3:s1'*p<=s1'*c:=Oz hc (M7 hs1);have h4:(s0*c+s1'*p)*h2<=(s0*c+s1'*c)*h2:=Ny (by omega) (M7 h2p)
    have h5:(s0*c+s1'*c)*h2=h1*(m*c):=by
     calc (s0*c+s1'*c)*h2=((s0+s1')*h2)*c:=by grind
      _=h1*m*c:=by rw[top]
      _=h1*(m*c):=by grind
    omega
  have vs:∀p c:Int,sg (hv p c (bH m s0 s1' ns))=sg (hv (s0*c+s1'*p) (m*c) ns):=λp c=>by rw[<- zt,dz pm]
  have hB:RootB (bH m s0 s1' ns) ε (λp c=>Up (s0*c+s1'*p) (m*c)):=by
   refine⟨hU.e1,λp c hp hc hu=>?_,λp c hp hc hu=>?_,λp c p' c' hp hc hp' hc' hu hlt=>?_,λp c hc=>?_,λhu=>?_⟩
   ·rw[vs];obtain⟨q1,q2,q3⟩:=pt p c hp hc;exact hU.r1 _ _ q1 q2 q3 hu
   ·rw[vs];obtain⟨q1,q2,q3⟩:=pt p c hp hc;exact hU.r2 _ _ q1 q2 q3 hu
   ·rw[vs];obtain⟨q1,q2,q3⟩:=pt p c hp hc;obtain⟨q1',q2',q3'⟩:=pt p' c' hp' hc';refine hU.r3 _ _ _ _ q1 q1' q2 q3' hu ?_;have h3:s1'*m*(p*c')<s1'*m*(p'*c):=Pl hlt (M8 hs1 pm);have e3:(s0*c+s1'*p)*(m*c')=s0*c*(m*c')+s1'*m*(p*c'):=by grind
    have e4:(s0*c'+s1'*p')*(m*c)=s0*c*(m*c')+s1'*m*(p'*c):=by grind
    omega
   ·have g1:0<m*c:=M8 pm hc;have g2:0<m*(2*c):=M8 pm (by omega);constructor
    ·exact hU.sc _ _ _ _ g2 g1 (by grind)
    ·exact hU.sc _ _ _ _ g1 g2 (by grind)
   ·refine hU.top (hU.sc _ _ _ _ (by rw[Nw];exact pm) h2p ?_ hu);rw[Nw,Nw,Nw];exact top
  have lstr:=iT m s0 s1' ns;have hn1:1<=ns.length:=M5.mpr hne;refine⟨_,rfl,p2,bH m s0 s1' ns,_,n,ε,_,rfl,s3 _ _ eq2,by omega,by omega,bS,by omega,hB,?_,λp4 H4 pl s4 hp4 e4 hpl hup hnup=>?_⟩
  ·rw[vs];refine Cv h2p (by rw[Nw];exact pm) ?_ ns;rw[Nw,Nw,Nw];exact top.symm
  have t4:=t3.trans s4;have u4:=(s2.trans s3).trans s4;have b2n:Bits (n+1) ((2:Int)^n):=lV (by omega);have cpl:(pl:Int)<2^n:=by rw[gD];exact ON.mpr hpl
  have bpl:Bits (n+1) (pl:Int):=b2n.of_le (by rw[gD];omega);have bpl1:Bits (n+1) ((pl:Int)+1):=b2n.of_le (by rw[gD];omega);have p2n:=kt n;refine aX ⟨_,rfl,_,rfl,_,rfl,p4,_,_,_,rfl,rfl,SqT.of e4,rfl,_,rfl,p4,_,_,_,rfl,rfl,SqT.of e4,rfl,l,r,l1,l2,r1,r2,pl,2^n,kb,2*kb+1,n+1,rfl,hl.same t4,hr1.same u4,l2p,r2p,p2n,bl1,bl2,br1,br2,bpl,b2n,by omega,λx H5 x1 x2 s5 hx hRx x2p ex bx1 bx2 gx=>?_⟩;have e5:=s5 _ _ e4;have t5:=t4.trans s5;have u5:=u4.trans s5;refine⟨_,rfl,_,rfl,_,rfl,p4,_,_,_,rfl,rfl,SqT.of e5,rfl,_,_,rfl,rfl,_,rfl,p4,_,_,_,rfl,rfl,SqT.of e5,rfl,l,r,l1,l2,r1,r2,pl+1,2^n,kb,2*kb+1,n+1,rfl,hl.same t5,hr1.same u5,l2p,r2p,p2n,bl1,bl2,br1,br2,bpl1,b2n,by omega,λy H6 y1 y2 s6 hy hRy y2p ey by1 by2 gy=>?_⟩;refine⟨by show 2<=sizeLine;decide,λp hp=>?_⟩;have sp:=Same.upd_new (o:=.tup [V.ref x,V.ref y]) hp;have t6:=t5.trans s6;have ex':=AV r2p er ex;have ey':=AV r2p er ey;have nf:=yF (w1:=w1) (w2:=w2) l2p h2p x2p y2p p2n (show(0:Int)<=(pl:Int) by omega) (by omega) hD ex' ey' fit
  have cross:∀(q z1 z2:Int),z1*(l2*r2*2^n)=(l1*r2*2^n+r1*l2*q)*z2->(s0*2^n+s1'*q)*z2=z1*(m*2^n):=λq z1 z2 ez=>by
   refine cancel lp ?_
   calc (s0*2^n+s1'*q)*z2*(l2*r2)=((s0*l2)*r2*2^n+(s1'*r2)*l2*q)*z2:=by grind
    _=(l1*m*r2*2^n+r1*m*l2*q)*z2:=by rw[e0,e1]
    _=m*((l1*r2*2^n+r1*l2*q)*z2):=by grind
    _=m*(z1*(l2*r2*2^n)):=by rw[ez]
    _=z1*(m*2^n)*(l2*r2):=by grind
  have hm2:0<m*2^n:=M8 pm p2n;refine k p x y _ n pl x1 x2 y1 y2 (t6.then_new hp) (t6.free hp) ao ((hRx.same s6).same sp) (hRy.same sp) ⟨⟨x2p,y2p,bx1.mono (by omega),bx2.mono (by omega),by1.mono (by omega),by2.mono (by omega),nf.1,gx,gy⟩,?_,?_,nf.2.1,nf.2.2.1,nf.2.2.2,hpl,ex',ey',bigg,fit⟩
  ·rcases hup with z |z
   ·refine hU.sc _ _ _ _ l2p x2p ?_ hU.low;rw[z]at ex';refine cancel (M8 h2p p2n) ?_
    calc l1*x2*(h2*2^n)=(l1*h2*2^n+(h1*l2-l1*h2)*((0:Nat):Int))*x2:=by show _=(_+_*0)*_;grind
     _=x1*(l2*h2*2^n):=ex'.symm
     _=x1*l2*(h2*2^n):=by grind
   ·exact hU.sc _ _ _ _ hm2 x2p (cross _ _ _ ex) z
  ·intro hu;exact hnup (hU.sc _ _ _ _ y2p hm2 (cross _ _ _ ey).symm hu)
structure NCI(K:PySem.W.Frag)(mg:Str->Option Value)(CN:Addr):Prop where
 cl:Cls K CN
 nP:NoAttr K CN "poly"
 nL:NoAttr K CN "low"
 nH:NoAttr K CN "high"
 mg:mg "Number"=some (.ref CN)
 ha:PySem.W.findIn K (.ref CN) "__class__"=some (some (.builtin "object.__class__"))
 hn:PySem.W.specialIn K (.builtin "object.__class__") "__get__"=some (some (.builtin "getset_descriptor.__get__"))
 ht:PySem.W.takesIn K (.builtin "object.__class__")=some true
 hm:PySem.W.mroIn K CN (.type "object")=some true
noncomputable def p8(p l h:Addr):List (Str×V):=cq "high" (.ref h) (cq "low" (.ref l) (cq "poly" (.ref p) []))
theorem Eh:¬(("poly":Str)="high"):=by decide +kernel
theorem Ee:¬(("poly":Str)="low"):=by decide +kernel
theorem zJ(p l h:Addr):(p8 p l h).lookup ("poly":Str)=some (.ref p):=by unfold p8;rw[eh,if_neg Eh,eh,if_neg Ee,eh,if_pos rfl]
def NA(CN:Addr)(H:Hp)(x p l h:Addr):Prop:=∃dx,H x=some (.ins CN dx (p8 p l h))
theorem NA.same{CN:Addr}{H H':Hp}{x p l h:Addr}(n:NA CN H x p l h)(s:Same H H'):NA CN H' x p l h:=let⟨dx,e⟩:=n;⟨dx,s _ _ e⟩
def oJ(CN:Addr):Sp:=λvs H Q _=>∃(x dx r l h:Addr) (ns:List V),vs=[.ref x,.ref r,.ref l,.ref h]/\H x=some (.ins CN dx [])/\H r=some (.lst ns)/\∀p,H p=none->Q .non (upd (upd H p (.lst ns)) x (.ins CN dx (p8 p l h)))
theorem FP{CN f:Addr}{fd:FuncData}(F:Fun K "__init__" "Number.__init__" kc f fd)(T:Txt K mg)(RN:NCI K mg CN):FnOk P w K mg base CX0 1 f fd ["self","row","low","high"] (oJ CN):=by
 refine F.ok Dg (λvs H Q E h=>?_) (λcdv A outer s H vs Q E hr h=>?_)
 ·obtain⟨x,dx,r,l,h,ns,rfl,_⟩:=h;rfl
 ·obtain⟨x,dx,r,l,h,ns,rfl,hx,hR,k⟩:=h
  refine⟨_,(af (lR (pv 0) (pj (qi (K:=K) rfl) (by rfl) T.list_ PyProof.Rows.boot_list (aa (pv 1) ac)) rfl)
   (af (lR (pv 0) (pv 2) rfl)
   (ai (lR (pv 0) (pv 3) rfl)))),?_⟩
  refine⟨_,rfl,r,_,rfl,.inl (SqL.of hR),λp hp=>?_⟩;have npx:x≠p:=aQ hx hp;refine⟨_,rfl,x,CN,dx,_,rfl,by rw[upd_ne npx];exact hx,RN.cl,RN.nP,by show 0<1000;decide,?_⟩;refine⟨_,rfl,_,rfl,x,CN,dx,_,rfl,ao,RN.cl,RN.nL,by show 1<1000;decide,?_⟩;refine⟨_,rfl,_,rfl,x,CN,dx,_,rfl,ao,RN.cl,RN.nH,by show 2<1000;decide,?_⟩;show Q .non (upd (upd (upd (upd H p _) x _) x _) x _);rw[nZ,nZ];exact k p hp
theorem Ct{x:Int}(h:x<0):sg x = -1:=by unfold sg;split<;>(try split)<;>omega
theorem Cs{x:Int}(h:0<x):sg x=1:=by unfold sg;split<;>(try split)<;>omega
theorem pA:(¬("against":Str)="bottom")/\¬("against":Str)="top":=⟨by decide +kernel,by decide +kernel⟩
theorem b1k{k:Nat}(h:1<=k):Bits k (1:Int):=Bits.mono (j:=1) (by show(1:Int).natAbs<2^1;decide) h
theorem zV(t:Int):dv t 1=1:=by unfold dv;rw[if_neg (by decide)];show((Nat.gcd t.natAbs 1:Nat):Int)=1;rw[OB];rfl
theorem kf(t:Int):rt t 1=t:=by have h:=kg (t:=t) (b:=1) (by decide);rw[zV,Nh]at h;exact h
theorem ki(t:Int):rb t 1=1:=by have h:=gB (t:=t) (b:=1) (by decide);rw[zV,Nh]at h;exact h
theorem zU{b:Int}(hb:0<b):dv 1 b=1:=by unfold dv;rw[if_neg (by omega)];show((Nat.gcd 1 b.natAbs:Nat):Int)=1;rw[Nat.gcd_one_left];rfl
theorem Dm{b:Int}(hb:0<b):rt 1 b=1:=by have h:=kg (t:=1) (b:=b) (by omega);rw[zU hb,Nh]at h;exact h
theorem DF{b:Int}(hb:0<b):rb 1 b=b:=by have h:=gB (t:=1) (b:=b) (by omega);rw[zU hb,Nh]at h;exact h
theorem GA{CN:Addr}{H3:Hp}{q:Addr->Hp->Prop}{E:XK}{r l h:Addr}{ns:List V}(e3:H3 r=some (.lst ns))(k:∀(x p:Addr) (H':Hp),Same H3 H'->H3 x=none->NA CN H' x p l h->H' p=some (.lst ns)->H3 p=none->q x H'):∀x dx:Addr,H3 x=none->H3 dx=none->dx≠x->oJ CN (.ref x::([.ref r,.ref l,.ref h]++[])) (upd (upd H3 dx (.own x)) x (.ins CN dx [])) (λv H2=>v=.non/\q x H2) E:=λx dx nx ndx ne=>by
 have npx:r≠x:=aQ e3 nx;have npd:r≠dx:=aQ e3 ndx;refine⟨x,dx,r,l,h,_,rfl,ao,by rw[upd_ne npx,upd_ne npd];exact e3,λq hq=>⟨rfl,?_⟩⟩;have nqx:q≠x:=λz=>by rw[z,ao]at hq;cases hq
 have nqd:q≠dx:=λz=>by rw[z,upd_ne ne,ao]at hq;cases hq
 have hq3:H3 q=none:=by rw[upd_ne nqx,upd_ne nqd]at hq;exact hq
 refine k x q _ (λc o ec=>?_) nx ⟨dx,ao⟩ (by rw[upd_ne nqx,ao]) hq3;have ncx:c≠x:=aQ ec nx;have ncd:c≠dx:=aQ ec ndx;have e4:upd (upd H3 dx (.own x)) x (.ins CN dx []) c=some o:=by rw[upd_ne ncx,upd_ne ncd];exact ec
 rw[upd_ne ncx,upd_ne (aQ e4 hq)];exact e4
theorem nE(i:Int):(if i<0 then -i else i)=(i.natAbs:Int):=by split<;>omega
def XG(C:Addr)(H:Hp)(E:XK):Prop:=∀H':Hp,Same H H'->E (.ref C) none H'
theorem XG.step{C:Addr}{H H1:Hp}{E:XK}(h:XG C H E)(s:Same H H1):XG C H1 E:=λH' s'=>h H' (s.trans s')
def Gre(ns:List Int):Prop:=∃x∈ns,(10:Int)^60*10^60<=(x.natAbs:Int)
def oB(CG:Addr):Sp:=λvs H Q E=>∃(a:Addr) (ns:List Int),vs=[.ref a]/\H a=some (.lst (ns.map V.int))/\ns.length<=1000/\(¬Gre ns->∀H',Same H H'->Q .non H')/\(Gre ns->XG CG H E)
theorem EZ{f:Addr}{fd:FuncData}(F:Fun K "refuse_great" "refuse_great" jm f fd)(T:Txt K mg){CTooGreat CNoRoot CTooHigh CRootError:Addr}(XE:EXC K mg base CTooGreat CNoRoot CTooHigh CRootError):FnOk P w K mg base (CXV P w) 1 f fd ["row"] (oB CTooGreat):=by
 refine F.okV sc_refuse_great (λvs H Q E h=>?_) (λcdv A outer s H vs Q E hr h=>?_)
 ·obtain⟨a,ns,rfl,_⟩:=h;rfl
 ·obtain⟨a,ns,rfl,hA,hl,k1,k2⟩:=h;have big:=sizeLine_eq
  refine⟨_,(af (ak (i:=1) sc_refuse_great.nd rfl (Or.inr rfl) (aj aO (aj cQ ad ad) (aj cQ ad ad)))
   (ai (aS (D0 (aT (KJ (K:=K) rfl rfl) (by rfl) T.any_ PyProof.Rows.boot_any (aa (fb (own:=["value"]) (fr:=["limit"]) (js:=[1]) (by walk_at "comp_ok") rfl (dL (K:=K) rfl (pv 0)) (λ_ _ _ _=>(bw (i:=0) (show List.Nodup (["value","limit"]:List Str)from by decide +kernel) rfl (Or.inl rfl))) (λ_ _ _ _=>(gF md (aT fz (by rfl) T.abs_ PyProof.Rows.boot_abs (aa (pv 0) ac)) (pv 1) (aG _)))) ac)) (by intro _;rfl))
     (ai (D4 (C:=CTooGreat) rfl XE.ownTooGreat PySem.F.excBase_ValueError))
     aU))),?_⟩
  have b6:Bits 1000000 ((10:Int)^60):=b60.mono;refine av ⟨_,_,rfl,rfl,⟨by decide,by decide,by decide⟩,_,_,rfl,rfl,⟨by decide,by decide,by decide⟩,_,_,rfl,rfl,⟨b6,b6⟩,?_⟩;refine lI ⟨_,rfl,a,rfl,⟨_,SqL.of hA⟩,ik (K:=K) (a:=a) (xs:=ns.map V.int) (λi ys σ' H'=>∃(z0:Option V) (bs:List Bool),σ'=[z0,some (.int (10^60*10^60))]/\ys=bs.map V.bl/\bs.length=i/\bs=(ns.take i).map (λc=>decide ((10:Int)^60*10^60<=(c.natAbs:Int)))/\H=H') (by rw[MY];omega) ⟨none,[],rfl,rfl,rfl,by rw[List.take_zero];rfl,rfl⟩ ?_ ?_ ?_⟩
  ·rintro i ys σ' H' _ ⟨z0,bs,rfl,rfl,rfl,_,rfl⟩;exact⟨SqL.of hA,by rw[MY];exact MZ _⟩
  ·rintro i x ys σ' H' hi ⟨z0,bs,rfl,rfl,rfl,hbs,rfl⟩;obtain⟨c,ec,rfl,hc,_⟩:=g6 hi;refine⟨_,rfl,_,rfl,_,rfl,_,_,rfl,rfl,?_⟩;refine⟨_,bs++[decide ((10:Int)^60*10^60<=(c.natAbs:Int))],rfl,?_,by rw[Nk];rfl,?_,rfl⟩
   ·rw[Nu];show _++[V.bl (decide ((if c<0 then -c else c)≥10^60*10^60))]=_;rw[nE];rfl
   ·rw[NX,ec,Nu,<- hbs];rfl
  rintro ys σ' H' p ⟨z0,bs,rfl,rfl,hbl,hbs,rfl⟩ hp;rw[MY,Oe]at hbs;refine⟨p,bs,rfl,SqL.of ao,?_⟩;by_cases hG:Gre ns
  ·have e:bs.any id=true:=by obtain⟨x,hx,h⟩:=hG;rw[List.any_eq_true];exact⟨true,by rw[hbs];exact Nc.mpr ⟨x,hx,decide_eq_true h⟩,rfl⟩
   rw[e];exact⟨_,rfl,dA (k2 hG _ (Same.upd_new hp))⟩
  ·have e:bs.any id=false:=by rw[List.any_eq_false];intro b hb;rw[hbs]at hb;obtain⟨x,hx,rfl⟩:=Nc.mp hb;rw[decide_eq_false λh=>hG ⟨x,hx,h⟩];decide
   rw[e];exact⟨_,rfl,da (k1 hG _ (Same.upd_new hp))⟩
theorem uM{xs ys:List Int}{x y:Nat}(hx:AllB x xs)(hy:AllB y ys):∀i,AllB (x+i*(y+1)) (aM xs ys i).1/\AllB (x+i*(y+1)) (aM xs ys i).2
 |0=>by rw[Nat.zero_mul];exact⟨AllB.zeros,hx⟩
 |i+1=>by
  obtain⟨h1,h2⟩:=uM hx hy i;have e:x+(i+1)*(y+1)=x+i*(y+1)+y+1:=by rw[Nat.succ_mul];omega
  have hs:Bits y (((RM.cf ys (ys.length-1)).natAbs:Nat):Int):=vy (hy.cf _);rw[e];show AllB _ (cG ys (aM xs ys i) _).1/\AllB _ (cG ys (aM xs ys i) _).2;unfold cG;dsimp only
  constructor
  ·intro v hv;rcases List.mem_or_eq_of_mem_set hv with h |rfl
   ·obtain⟨u,hu,rfl⟩:=Nc.mp h;exact(hs.mul (h1 u hu)).mono (by omega)
   ·exact(lC (h2.cf _)).mono (by omega)
  ·refine AllB.of_cf λn=>?_
   rw[qh];by_cases hn:n<(scL (((RM.cf ys (ys.length-1)).natAbs:Nat):Int) (aM xs ys i).2).length-1
   ·rw[if_pos hn,ba]
    have m1:Bits (x+i*(y+1)+y) ((((RM.cf ys (ys.length-1)).natAbs:Nat):Int)*RM.cf (aM xs ys i).2 n):=by have:=hs.mul (h2.cf n);rwa [Nat.add_comm]at this
    refine m1.sub ?_;by_cases hp:(xs.length+1-ys.length-1-i)<=n
    ·rw[if_pos hp];exact(lC (h2.cf _)).mul (hy.cf _)
    ·rw[if_neg hp];exact Bits.zero
   ·rw[if_neg hn];exact Bits.zero
theorem lA{n:Nat}{l:List Int}(h:AllB n l):AllB n (am l):=by
 intro y hy;obtain⟨x,hx,rfl⟩:=Nc.mp hy;obtain⟨d,hd⟩:=kH hx;by_cases hg:(aw l:Int)=0
 ·rw[hg,Int.ediv_zero];exact Bits.zero
 ·have e:x/(aw l:Int)=d:=by rw[hd];exact Pa d hg
  rw[e];refine(h x hx).of_le ?_;rw[hd,Nf];exact OU _ (NP.mpr hg)
theorem qY(l:List Int):(am l).length=l.length:=MY _
theorem Dj(n:Nat)(o:List Int):Run n [] o:=by cases n with |zero=>rfl |succ n=>exact .inl rfl
theorem Ke(n:Nat)(o:List Int):RM.Ends n [] o:=by cases n with |zero=>rfl |succ n=>exact .inl rfl
theorem gr8:gr 540 6=91260:=by decide
def Okr(xs:List Int):Prop:=Tr xs/\AllB 91260 xs/\xs.length<=7
theorem xG:∀(n:Nat) (one other:List Int) (x y s:Nat),one.length=s+1->s<=6->other.length<=s->s<n->Tr one->Tr other->AllB x one->AllB y other->x+1<=gr 540 (6-s)->y+1<=gr 540 (6-s+1)->Run n one other/\RM.Ends n one other/\∀xs∈aZ n one other,Okr xs
 |0,one,other,x,y,s,_,_,_,h,_,_,_,_,_,_=>absurd h (OM _)
 |m+1,one,other,x,y,s,hl,hs8,hol,hsm,t1,t2,b1,b2,g1,g2=>by
  have hne:one≠[]:=λz=>by rw[z]at hl;simp at hl
  have m1:gr 540 (6-s)<=91260:=by rw[<- gr8];exact eD 540 (by omega)
  have bo1:AllB 91260 one:=b1.mono (by omega)
  have bo2:AllB 91260 other:=by
   by_cases ho:other=[]
   ·rw[ho];exact AllB.nil
   ·have:=M5.mpr ho;have m2:gr 540 (6-s+1)<=91260:=by rw[<- gr8];exact eD 540 (by omega)
    exact b2.mono (by omega)
  have fit:Fit one other:=⟨t1,t2,91260,bo1,bo2,by rw[hl];omega,by omega⟩
  have eS:aZ (m+1) one other=one::aZ m other (nxt one other):=by show(if one=[]then[]else one::aZ m other (nxt one other))=_;rw[if_neg hne]
  have ok1:Okr one:=⟨t1,bo1,by omega⟩;by_cases ho:other=[]
  ·subst ho;refine⟨.inr ⟨fit,Dj _ _⟩,.inr (Ke _ _),λxs hx=>?_⟩;rw[eS,oU]at hx;rw[Nb.mp hx];exact ok1
  ·have hop:=M5.mpr ho;obtain⟨d,hd⟩:∃d,other.length=d+1:=⟨other.length-1,by omega⟩;have hN:aW one other=(s-d-1)+2:=by unfold aW;omega
   have e6:6-s+2+(s-d-1)=6-d+1:=by omega
   have rb:AllB (x+aW one other*(y+1)) (aK one other):=((uM b1 b2 (aW one other)).2).trim
   have nb:AllB (x+aW one other*(y+1)) (nxt one other):=by
    unfold nxt rst;rw[if_neg ho,oj (eG _ _)];refine lA λv hv=>?_
    obtain⟨u,hu,rfl⟩:=Nc.mp hv;have:=(rb u hu).neg
    rwa [show -1*u = -u by omega]
   have nl:(nxt one other).length<=d:=by unfold nxt rst;rw[if_neg ho,oj (eG _ _),qY,bZ];have:=fx (a:=one) ho;omega
   have nt:Tr (nxt one other):=eO (dZ _);have jump:=tD 540 (6-s) (s-d-1);rw[e6]at jump;have mm:=N8 (s-d-1+2) g2;obtain⟨r1,r2,r3⟩:=xG m other (nxt one other) y (x+aW one other*(y+1)) d hd (by omega) nl (by omega) t2 nt b2 nb (Nd g2 (eD 540 (by omega))) (by rw[hN];omega);refine⟨.inr ⟨fit,r1⟩,.inr r2,λxs hx=>?_⟩;rw[eS]at hx;rcases Na.mp hx with rfl |hx
   ·exact ok1
   ·exact r3 xs hx
theorem xM:∀(n:Nat) (one other:List Int),(aZ n one other).length<=n
 |0,_,_=>MZ _
 |n+1,one,other=>by
  show(if one=[]then[]else one::aZ n other (nxt one other)).length<=n+1;split
  ·exact M9 _
  ·have:=xM n other (nxt one other);rw[Nq];omega
theorem xw{n:Nat}{xs:List Int}(h:AllB n xs)(hl:xs.length<=9):AllB (n+4) (slopeL xs):=by intro x hx;obtain⟨k,hk,rfl⟩:=Nc.mp hx;have hk':k<xs.length-1:=List.mem_range.mp hk;have b1:Bits 4 ((k:Int)+1):=Oc (show((k:Int)+1).natAbs<=8 by omega) (by decide);exact(b1.mul (h.cf (k+1))).mono (by omega)
theorem Cd(xs:List Int):(slopeL xs).length=xs.length-1:=by unfold slopeL;rw[MY,N4]
theorem yh{n:Nat}{l:List Int}(h:AllB n l):AllB n (aC l):=by
 unfold aC cr;split
 ·intro y hy;obtain⟨x,hx,rfl⟩:=Nc.mp hy;exact(lA h x hx).neg
 ·exact lA h
theorem Iz:∀s:Nat,s<=8->1<=s->(s+3)*(gr 240 (8-s+1)+1)<=1000000
 |0,_,h=>absurd h (by decide)
 |1,_,_=>by show 4*(236400+1)<=1000000;decide
 |2,_,_=>by show 5*(97920+1)<=1000000;decide
 |3,_,_=>by show 6*(40560+1)<=1000000;decide
 |4,_,_=>by show 7*(16800+1)<=1000000;decide
 |5,_,_=>by show 8*(6960+1)<=1000000;decide
 |6,_,_=>by show 9*(2880+1)<=1000000;decide
 |7,_,_=>by show 10*(1200+1)<=1000000;decide
 |8,_,_=>by show 11*(480+1)<=1000000;decide
 |n+9,h,_=>absurd h (by omega)
theorem xH:∀(n:Nat) (one other:List Int) (x y s:Nat),one.length=s+1->s<=8->other.length<=s->s<n->Tr one->Tr other->AllB x one->AllB y other->x+1<=gr 240 (8-s)->y+1<=gr 240 (8-s+1)->kS n one other
 |0,one,other,x,y,s,_,_,_,h,_,_,_,_,_,_=>absurd h (OM _)
 |m+1,one,other,x,y,s,hl,hs8,hol,hsm,t1,t2,b1,b2,g1,g2=>by
  by_cases ho:other=[]
  ·exact .inl ho
  have hop:=M5.mpr ho;obtain⟨d,hd⟩:∃d,other.length=d+1:=⟨other.length-1,by omega⟩;have hN:aW one other=(s-d-1)+2:=by unfold aW;omega
  have e6:8-s+2+(s-d-1)=8-d+1:=by omega
  have rb:AllB (x+aW one other*(y+1)) (aK one other):=((uM b1 b2 (aW one other)).2).trim;have jump:=tD 240 (8-s) (s-d-1);rw[e6]at jump;have mm:=N8 (s-d-1+2) g2;have nl:=fx (a:=one) ho;have m0:=eD 240 (show 8-s<=8-s+1 by omega);have fit:vR one other:=⟨t1,t2,gr 240 (8-s+1),b1.mono (by omega),b2.mono (by omega),by rw[hl];exact Iz s hs8 (by omega),by omega⟩
  exact .inr ⟨fit,xH m other (aC (aK one other)) y (x+aW one other*(y+1)) d hd (by omega) (by rw[RM.plain_len];omega) (by omega) t2 (fC (eG _ _)) b2 (yh rb) (Nd g2 (eD 240 (by omega))) (by
   rw[hN];generalize (s-d-1+2)*(y+1)=z at mm ⊢
   generalize (s-d-1+2)*gr 240 (8-s+1)=z2 at mm jump
   omega)⟩
structure Made(kp:List Int)(c:Int)(us:List (List Int×Nat)):Prop where
 is:kp=whl c us
 c0:c≠0
 bc:Bits 140 c
 use:Use us
 deg:dgs id us<=2
 one:2<=kp.length
 bits:AllB 830 (fP id us)
 more:AllB 830 (mor us 1)
theorem Made.len{kp:List Int}{c:Int}{us:List (List Int×Nat)}(h:Made kp c us):kp.length<=3/\(mor us 1).length<=3/\1<=(mor us 1).length/\AllB 970 kp:=by
 have ne:∀p∈us,p.1≠[]:=λp hp=>(h.use.pri p hp).pln.ne
 have h1:=(uI id us ne).1;have h2:=(uI (·-1) us ne).1;have h3:dgs (·-1) us<=dgs id us:=Ad us λp _=>Nat.sub_le _ _
 have h4:=h.deg;refine⟨by rw[h.is,cV,bZ];omega,by unfold mor;omega,by unfold mor;omega,?_⟩;rw[h.is,cV];intro x hx;obtain⟨y,hy,rfl⟩:=Nc.mp hx;exact(h.bc.mul (h.bits y hy)).mono
theorem Made.slope{kp:List Int}{c:Int}{us:List (List Int×Nat)}(h:Made kp c us):AllB 834 (aC (slopeL kp)):=by
 have pl:=ig h.use id;have hl:=h.len.1
 have e:slopeL kp=scL c (slopeL (fP id us)):=by
  rw[h.is];refine cN ?_ λk _=>?_
  ·rw[bZ,fj,fj,cV,bZ]
  ·rw[ba,dH,dH,cV,ba];grind
 rw[e,o7 h.c0 (gk pl.tr)];exact yh (xw h.bits (by rw[h.is,cV,bZ]at hl;omega))
def oq:Sp:=λvs H Q _=>∃(a:Addr) (kp:List Int) (c:Int) (us:List (List Int×Nat)),vs=[.ref a]/\H a=some (.lst (kp.map V.int))/\Made kp c us/\mkL H Q (flt us)
theorem ED{f:Addr}{fd:FuncData}(F:Fun K "without_squares" "without_squares" iZ f fd)(T:Txt K mg){JH:Addr}{IX:FuncData}(Mr:Cal P w K mg base 35 "part" ["row","divisor"] qD JH IX){JU:Addr}{Ji:FuncData}(MF:Cal P w K mg base 35 "common" ["first","second"] qU JU Ji){uj:Addr}{tL:FuncData}(vX:Cal P w K mg base 1 "slope" ["row"] (sp1 slopeL) uj tL):FnOk P w K mg base CX0 36 f fd ["row"] oq:=by
 obtain⟨LO,GK,Hx,KT⟩:=Mr;obtain⟨L6,GY,HK,Lg⟩:=MF;obtain⟨vE,sk,sQ,vb⟩:=vX;refine F.ok CB (λvs H Q E h=>?_) (λcdv A outer s H vs Q E hr h=>?_)
 ·obtain⟨a,kp,c,us,rfl,_⟩:=h;rfl
 ·obtain⟨a,kp,c,us,rfl,hA,hM,k⟩:=h;have hu:=hr.units;have eW:=hM.is;obtain⟨tW,nW,pW⟩:=eN hM.use hM.c0;obtain⟨lW,lM,lM1,bW⟩:=hM.len;have hsl:=hM.slope;have l2':=hM.one;have eC:=wn hM.use hM.c0 (by rw[<- eW];omega);obtain⟨r1,r2⟩:=Bg hM.use hM.c0;rw[<- eW]at tW nW pW eC r1 r2;have lS:=fj kp
  refine⟨_,(af (aS (aJ (gJ (K:=K) rfl hu) (pv 0) (aV ac) (aG _))
   (ai (ay (aV ac)))
   aU)
   (ai (ay (al LO (hr.mono) rfl GK Hx KT .nil ah (aa (pv 0) (aa (al L6 (hr.mono) rfl GY HK Lg .nil ah (aa (pv 0) (aa (al vE (hr.mono) rfl sk sQ vb .nil ah (aa (pv 0) ac)) ac))) ac)))))),?_⟩
  refine bI ⟨_,rfl,M9 _,λp0 hp0=>?_⟩;have s0:Same H (upd H p0 (.lst [])):=Same.upd_new hp0;refine⟨a,p0,kp,[],rfl,rfl,SqL.of (s0 _ _ hA),SqL.of ao,_,rfl,aR (λh0=>absurd h0 nW) (λ_=>?_)⟩;generalize upd H p0 (.lst [])=H0 at s0 ⊢
  have hA0:=s0 _ _ hA;refine aX ⟨_,rfl,_,rfl,_,rfl,a,kp,rfl,hA0,by omega,bW.mono,λp1 H1 s1 hp1 e1=>?_⟩;have t1:=s0.trans s1;obtain⟨s,hs⟩:∃s,kp.length=s+1:=⟨kp.length-1,by omega⟩;refine⟨a,p1,kp,slopeL kp,20,rfl,t1 _ _ hA,e1,tW,gk tW,by omega,by omega,xH 20 (aC kp) (aC (slopeL kp)) 830 834 s (by rw[RM.plain_len];exact hs) (by omega) (by rw[RM.plain_len];omega) (by omega) (fC tW) (fC (gk tW)) (by rw[pW];exact hM.bits) hsl ?_ ?_,λp2 H2 s2 hp2 e2=>?_⟩
  ·exact Nd (show 831<=gr 240 6 by decide) (eD 240 (by omega))
  ·exact Nd (show 835<=gr 240 6 by decide) (eD 240 (by omega))
  have e2':H2 p2=some (.lst ((mor us 1).map V.int)):=by rw[<- eC];exact e2
  have t2:=t1.trans s2;refine⟨a,p2,kp,_,970,rfl,t2 _ _ hA,e2',tW,(ig hM.use _).tr,bW,hM.more.mono,by have:(kp.length+2)*(970+1)<=11*971:=NC _ (by omega);omega,by omega,(ig hM.use _).ne,r1,λp3 H3 s3 hp3 e3=>?_⟩;rw[r2]at e3;exact k p3 H3 (t2.trans s3) (t2.free hp3) e3
structure WhlB(fs:List (List Int)):Prop where
 fam:Fam fs
 l2:2<=(prQ fs).length
 l3:(prQ fs).length<=3
 bits:AllB 740 (prQ fs)
structure Whl(fs:List (List Int)):Prop where
 fam:Fam fs
 l2:2<=(prQ fs).length
 l7:(prQ fs).length<=3
 bits:AllB 400 (prQ fs)
 sh:∀f∈fs,AllB 400 (ax f)/\(ax f).length<=3
noncomputable def d6(fs:List (List Int)):List (List Int):=aZ 9 (am (prQ fs)) (am (slopeL (prQ fs)))
theorem xK{fs:List (List Int)}(hF:Fam fs)(hl:(prQ fs).length<=3){t n t' n':Int}(hn:0<n)(hn':0<n')(hlt:t*n'<t'*n):((chS (sgs t n (d6 fs))).1:Int)-(chS (sgs t' n' (d6 fs))).1=bE (aD fs) t n t' n':=by have:=Ks (N:=8) (c:=1) hF.fac hF.nd hF.ap (by decide) (P:=prQ fs) hF.one.symm (by omega) (by omega) hn hn' hlt;rw[Ax,Ax];exact this
theorem xJ{fs:List (List Int)}(hF:Fam fs)(hl:(prQ fs).length<=3)(hb:AllB 740 (prQ fs)):Run 9 (am (prQ fs)) (am (slopeL (prQ fs)))/\(∀xs∈d6 fs,xs.length<=20/\AllB 95000 xs)/\(d6 fs).length<=1000000:=by
 have hne:=hF.pln.ne;have ktr:=hF.pln.tr;have hlp:=M5.mpr hne;obtain⟨s,hs⟩:∃s,(prQ fs).length=s+1:=⟨(prQ fs).length-1,by omega⟩;obtain⟨r1,_,r3⟩:=xG 9 (am (prQ fs)) (am (slopeL (prQ fs))) 740 744 s (by rw[qY,hs]) (by omega) (by rw[qY,Cd,hs];omega) (by omega) (eO ktr) (eO (wC ktr)) (lA hb) (lA (xw hb (by omega))) (Nd (show 741<=gr 540 4 by decide) (eD 540 (by omega))) (Nd (show 745<=gr 540 4 by decide) (eD 540 (by omega)));refine⟨r1,λxs hx=>?_,?_⟩
 ·obtain⟨_,b,l⟩:=r3 xs hx;exact⟨by omega,b.mono⟩
 ·have:=xM 9 (am (prQ fs)) (am (slopeL (prQ fs)));show(aZ 9 _ _).length<=_;omega
structure EndB(k:Nat)(l1 l2 h1 h2:Int):Prop where
 l2p:0<l2
 h2p:0<h2
 bl1:Bits k l1
 bl2:Bits k l2
 bh1:Bits k h1
 bh2:Bits k h2
 gl:Nat.gcd l1.natAbs l2.natAbs=1
 gh:Nat.gcd h1.natAbs h2.natAbs=1
theorem EndB.en{k:Nat}{l1 l2 h1 h2:Int}(e:EndB k l1 l2 h1 h2)(h:l1*h2<h1*l2):EndsG k l1 l2 h1 h2:=⟨e.l2p,e.h2p,e.bl1,e.bl2,e.bh1,e.bh2,h,e.gl,e.gh⟩
noncomputable def dg(fs:List (List Int))(l1 l2 h1 h2:Int):Int:=if l1*h2<h1*l2 then bE (aD fs) l1 l2 h1 h2 else 0
def qG(C:Addr):Sp:=λvs H Q _=>∃(a l h:Addr) (fs:List (List Int)) (l1 l2 h1 h2:Int),vs=[.ref a,.ref l,.ref h]/\H a=some (.lst ((prQ fs).map V.int))/\WhlB fs/\RA C H l l1 l2/\RA C H h h1 h2/\EndB 980 l1 l2 h1 h2/\∀H',Same H H'->Q (.int (dg fs l1 l2 h1 h2)) H'
theorem Fa{C f:Addr}{fd:FuncData}(F:Fun K "many_within" "many_within" jx f fd)(T:Txt K mg)(R:RCI K mg C){uF:Addr}{uf:FuncData}(wk:MCal P w K mg base 2 C "against" ["self","other"] (oO C) uF uf){uu:Addr}{tV:FuncData}(v8:Cal P w K mg base 4 "count" ["row","low","high"] (oK C) uu tV){mV:Addr}{mP:FuncData}(nQ:Cal P w K mg base 35 "row_of" ["polynomial"] lj mV mP):FnOk P w K mg base CX0 36 f fd ["simple","low","high"] (qG C):=by
 obtain⟨vQ,r8,vq⟩:=wk;obtain⟨vK,sE,sW,vj⟩:=v8;obtain⟨nI,mv,mF,nq⟩:=nQ;refine F.ok CO (λvs H Q E h=>?_) (λcdv A outer s H vs Q E hr h=>?_)
 ·obtain⟨a,l,h,fs,l1,l2,h1,h2,rfl,_⟩:=h;rfl
 ·obtain⟨a,l,h,fs,l1,l2,h1,h2,rfl,hA,hW,hl,hh,en,k⟩:=h
  refine⟨_,(af (aS (aJ md (eY (pv 1) R.cl r8 vQ (hr.mono) vq .nil ah (aa (pv 2) ac)) ad (aG _))
   (ai (ay ad))
   aU)
   (ai (ay (al vK (hr.mono) rfl sE sW vj .nil ah (aa (al nI (hr.mono) rfl mv mF nq .nil ah (aa (pv 0) ac)) (aa (pv 1) (aa (pv 2) ac))))))),?_⟩
  have l7:=hW.l3;obtain⟨rn,rx,rl⟩:=xJ hW.fam l7 hW.bits;obtain⟨dxl,hl'⟩:=id hl;refine bI ⟨_,rfl,l,dxl,_,rfl,hl',fS _ _ pA.1 pA.2,_,rfl,l,h,l1,l2,h1,h2,rfl,hl,hh,en.bl1.mono,en.bl2.mono,en.bh1.mono,en.bh2.mono,_,_,rfl,rfl,_,rfl,aR (λhge=>?_) (λhge=>?_)⟩
  ·have hn:¬l1*h2<h1*l2:=λz=>by have:sg (l1*h2-h1*l2) = -1:=Ct (by omega);rw[this]at hge;exact absurd hge (by decide)
   have:=k H (Same.refl H);unfold dg at this
   rw[if_neg hn]at this;exact this
  have hlt:l1*h2<h1*l2:=Int.not_le.mp λz=>hge (by
   show(0:Int)<=sg (l1*h2-h1*l2);by_cases z0:l1*h2-h1*l2=0
   ·rw[z0];decide
   ·rw[Cs (by omega)];decide)
  refine aX ⟨_,rfl,a,prQ fs,9,rfl,hA,hW.fam.pln.tr,hW.bits.mono,by omega,by decide,rn,λlr ps H1 s1 hl1 hnew el hR=>?_⟩;refine⟨_,rfl,_,rfl,lr,l,h,ps,d6 fs,l1,l2,h1,h2,rfl,el,hR,hl.same s1,hh.same s1,en.bl1.mono,en.bl2.mono,en.bh1.mono,en.bh2.mono,rx,rl,λH2 s2=>?_⟩;have:=k H2 (s1.trans s2);unfold dg at this
  rw[if_pos hlt,<- xK hW.fam l7 en.l2p en.h2p hlt]at this;exact this
theorem xO{Q:Hp->Prop}{H1 H2:Hp}(e:H1=H2)(h:Q H2):Q H1:=by rw[e];exact h
def qK(C:Addr):Sp:=λvs H Q _=>∃(p q:Addr) (t b u d:Int),vs=[.ref p,.ref q]/\RA C H p t b/\RA C H q u d/\Bits 1200 t/\Bits 1200 b/\Bits 1200 u/\Bits 1200 d/\0<b/\0<d/\mkR C H Q (t*d+u*b) (2*b*d)
theorem E9{C f:Addr}{fd:FuncData}(F:Fun K "middle" "middle" jw f fd)(T:Txt K mg)(R:RCI K mg C){bA:Addr}{bz:FuncData}{bC:List Value}(bF:KCal P w K mg base 2 C "Ratio" ["self","top","bottom"] (cD C) bA bz bC [.int 1]):FnOk P w K mg base CX0 4 f fd ["low","high"] (qK C):=by
 obtain⟨bn,bj,bh,bV,cu,cs⟩:=bF;refine F.ok CM (λvs H Q E h=>?_) (λcdv A outer s H vs Q E hr h=>?_)
 ·obtain⟨p,q,t,b,u,d,rfl,_⟩:=h;rfl
 ·obtain⟨p,q,t,b,u,d,rfl,⟨dx,hp⟩,⟨dy,hq⟩,bt,bb,bu,bd,hb,hd,k⟩:=h;have b2:Bits 2 (2:Int):=by show(2:Int).natAbs<2^2;decide
  have b2b:Bits 1202 (2*b):=b2.mul bb |>.mono
  refine⟨_,(ai (ay (cv bj bn (hr.mono) rfl bh bV .nil ah (aa (aj bQ (aj aO (aP (K:=K) rfl (pv 0) rfl) (aP (K:=K) rfl (pv 1) rfl)) (aj aO (aP (K:=K) rfl (pv 1) rfl) (aP (K:=K) rfl (pv 0) rfl))) (aa (aj aO (aj aO ad (aP (K:=K) rfl (pv 0) rfl)) (aP (K:=K) rfl (pv 1) rfl)) ac))))),?_⟩;refine⟨_,rfl,p,C,dx,_,_,rfl,hp,R.cl,R.nT,cF _ _,_,rfl,q,C,dy,_,_,rfl,hq,R.cl,R.nB,bM _ _,_,_,rfl,rfl,⟨bt.mono,bd.mono⟩,?_⟩;refine⟨_,rfl,q,C,dy,_,_,rfl,hq,R.cl,R.nT,cF _ _,_,rfl,p,C,dx,_,_,rfl,hp,R.cl,R.nB,bM _ _,_,_,rfl,rfl,⟨bu.mono,bb.mono⟩,_,_,rfl,rfl,?_⟩;refine⟨_,rfl,p,C,dx,_,_,rfl,hp,R.cl,R.nB,bM _ _,_,_,rfl,rfl,⟨b2.mono,bb.mono⟩,_,rfl,q,C,dy,_,_,rfl,hq,R.cl,R.nB,bM _ _,_,_,rfl,rfl,⟨b2b.mono,bd.mono⟩,?_⟩;exact cE (Nr (M8 (by omega) hd)) ((b2b.mul bd).mono) k
theorem zl{os:List Int}{l j k:Nat}(h1:isB os l j)(h2:isB os l k):j=k:=by
 rcases Nat.lt_trichotomy j k with z |z |z
 ·obtain⟨x,hx,h⟩:=h2.2 j z;have:=h1.1 x hx;omega
 ·exact z
 ·obtain⟨x,hx,h⟩:=h1.2 k z;have:=h2.1 x hx;omega
theorem AE{ns:List Int}(h:AllB 400 ns)(hp:0<ar ns){kb:Nat}(hB:isB (ns.take (ns.length-1)) (ar ns).natAbs kb):kb<=402:=by
 rcases Nat.lt_or_ge kb 403 with z |z
 ·omega
 ·obtain⟨x,hx,h2⟩:=hB.2 402 (by omega);have h3:x.natAbs<2^400:=h x (O2 hx);have h4:2^400<=2^402-1:=by decide +kernel
  have h5:2^402-1<=(2^402-1)*(ar ns).natAbs:=Nat.le_mul_of_pos_right _ (by omega);omega
def NL(H H':Hp):Prop:=∀c o,H c=some o->(∀xs,o≠.lst xs)->H' c=some o
theorem NL.of{H H':Hp}(s:Same H H'):NL H H':=λc o e _=>s c o e
theorem NL.upd{H:Hp}{p:Addr}{xs:List V}{o:HO}(hp:H p=some (.lst xs)):NL H (upd H p o):=λc o' e hn=>by
 have:c≠p:=λz=>by rw[z,hp]at e;exact hn xs (Option.some.inj e).symm
 rw[upd_ne this];exact e
theorem NL.trans{H1 H2 H3:Hp}(a:NL H1 H2)(b:NL H2 H3):NL H1 H3:=λc o e hn=>b c o (a c o e hn) hn
theorem RA.nl{C:Addr}{H H':Hp}{p:Addr}{t b:Int}(h:RA C H p t b)(s:NL H H'):RA C H' p t b:=let⟨dx,e⟩:=h;⟨dx,s _ _ e (λ_=>by simp)⟩
structure Cel where
 q:Addr
 lo:Addr
 hi:Addr
 l1:Int
 l2:Int
 h1:Int
 h2:Int
 d:Nat
noncomputable def VV(fs:List (List Int))(t n:Int):Int:=(chS (sgs t n (d6 fs))).1
noncomputable def Cel.cn(x:Cel)(fs:List (List Int)):Int:=bE (aD fs) x.l1 x.l2 x.h1 x.h2
def Cel.inn(x:Cel)(s:List Int):Prop:=0<aq s x.l1 x.l2/\aq s x.h1 x.h2<=0
structure WtH(C:Addr)(H:Hp)(fs:List (List Int))(kb:Nat)(x:Cel):Prop where
 tup:H x.q=some (.tup [.ref x.lo,.ref x.hi,.int (VV fs x.l1 x.l2),.int (VV fs x.h1 x.h2)])
 lo:RA C H x.lo x.l1 x.l2
 hi:RA C H x.hi x.h1 x.h2
 dy:Dya (2^kb) x.d x.l1 x.l2 x.h1 x.h2
 dd:x.d<=kb+201
theorem WtH.nl{C:Addr}{H H':Hp}{fs:List (List Int)}{kb:Nat}{x:Cel}(h:WtH C H fs kb x)(s:NL H H'):WtH C H' fs kb x:=⟨s _ _ h.tup (λ_=>by simp),h.lo.nl s,h.hi.nl s,h.dy,h.dd⟩
structure FdH(C:Addr)(H:Hp)(fs:List (List Int))(kb:Nat)(x:Cel):Prop where
 tup:H x.q=some (.tup [.ref x.lo,.ref x.hi])
 lo:RA C H x.lo x.l1 x.l2
 hi:RA C H x.hi x.h1 x.h2
 dy:Dya (2^kb) x.d x.l1 x.l2 x.h1 x.h2
 dd:x.d<=kb+201
 one:x.cn fs=1
theorem FdH.nl{C:Addr}{H H':Hp}{fs:List (List Int)}{kb:Nat}{x:Cel}(h:FdH C H fs kb x)(s:NL H H'):FdH C H' fs kb x:=⟨s _ _ h.tup (λ_=>by simp),h.lo.nl s,h.hi.nl s,h.dy,h.dd,h.one⟩
theorem qb{kb d:Nat}{l1 l2 h1 h2:Int}(h:Dya (2^kb) d l1 l2 h1 h2)(hk:kb<=402)(hd:d<=kb+201):Bits 1010 l1/\Bits 1010 l2/\Bits 1010 h1/\Bits 1010 h2:=by obtain⟨⟨a,b⟩,c,e⟩:=h.bits;have hp:2^(kb+d)<2^1010:=(O4 (by decide)).mpr (by omega);exact⟨Oc a hp,Oc b hp,Oc c hp,Oc e hp⟩
theorem Kg{kb d:Nat}{l1 l2 h1 h2:Int}(h:Dya (2^kb) d l1 l2 h1 h2)(hk:kb<=402)(hd:d<=kb+201):EndsG 1010 l1 l2 h1 h2:=by obtain⟨a,b,c,e⟩:=qb h hk hd;exact⟨h.l2p,h.h2p,a,b,c,e,h.lt (NI (by decide)),h.gl,h.gh⟩
noncomputable def wgt(fs:List (List Int))(kb:Nat)(x:Cel):Nat:=1+2*((x.cn fs).toNat*(kb+201-x.d))
noncomputable def dm(fs:List (List Int))(kb:Nat)(ws:List Cel):Nat:=(ws.map (wgt fs kb)).sum
theorem iK(fs:List (List Int))(kb:Nat)(ws:List Cel)(x:Cel):dm fs kb (ws++[x])=dm fs kb ws+wgt fs kb x:=by unfold dm;rw[Nu,List.sum_append];simp
theorem qo(fs:List (List Int))(kb:Nat):∀ws:List Cel,ws.length<=dm fs kb ws
 | []=>MZ _
 |x::ws=>by have:=qo fs kb ws;show ws.length+1<=wgt fs kb x+dm fs kb ws;unfold wgt;omega
noncomputable def qs(ws:List Cel):List V:=ws.map λx=>V.ref x.q
theorem oW(ws:List Cel)(x:Cel):qs (ws++[x])=qs ws++[V.ref x.q]:=by unfold qs;rw[Nu];rfl
theorem Ar(l1 l2 h1 h2:Int):∀ls:List (List Int),bE ls l1 l2 h1 h2<=ls.length
 | []=>NR _
 |l::ls=>by rw[dj];have:=Ar l1 l2 h1 h2 ls;rw[Nq];split<;>omega
theorem xg:∀fs:List (List Int),(aD fs).length<=2*fs.length
 | []=>MZ _
 |f::fs=>by
  have:=xg fs;show(spF f++aD fs).length<=2*(fs.length+1);rw[Nk]
  have h2:(spF f).length<=2:=by unfold spF;rw[Nk];split<;>split<;>simp
  omega
theorem Jx{fs:List (List Int)}(h:Fam fs):fs.length+1<=(prQ fs).length:=by
 have hp:=h.pri;rw[h.prd];generalize hs:fs.map ax=ss at hp
 have e:fs.length=ss.length:=by rw[<- hs,MY]
 rw[e];clear e hs h
 induction ss with
 |nil=>simp[prd]
 |cons s ss ih =>
  have h1:=ih λx hx=>hp x (M0 _ hx)
  have h2:=hp s (M6 ..);have h3:Pln (prd ss):=kq ss λx hx=>(hp x (M0 _ hx)).pln
  have h4:=bR h2.pln.ne h3.ne;have h5:=h2.two;show ss.length+1+1<=(ae s (prd ss)).length;omega
def cov(s:List Int)(xs:List Cel):Prop:=∃x∈xs,x.inn s
theorem cov_snoc{s:List Int}{xs:List Cel}{x:Cel}:cov s (xs++[x])↔cov s xs\/x.inn s:=by
 constructor
 ·rintro⟨y,hy,h⟩;rcases NM.mp hy with z |z
  ·exact .inl ⟨y,z,h⟩
  ·rw[Nb.mp z]at h;exact .inr h
 ·rintro(⟨y,hy,h⟩ |h)
  ·exact⟨y,Ov _ hy,h⟩
  ·exact⟨x,by simp,h⟩
noncomputable def loR(x:Cel):Rat:=(x.l1:Rat)/(x.l2:Rat)
noncomputable def hiR(x:Cel):Rat:=(x.h1:Rat)/(x.h2:Rat)
def cO(xs:List Cel):Prop:=xs.Pairwise λx y=>hiR x<=loR y
theorem Dw{ys B:List Cel}{x:Cel}(h:cO (ys++x::B)):cO (ys++B):=List.Pairwise.sublist (List.Sublist.append_left (List.sublist_cons_self _ _) _) h
theorem Du{ys B:List Cel}{x x':Cel}(h1:loR x=loR x')(h2:hiR x=hiR x')(h:cO (ys++x::B)):cO (ys++x'::B):=by
 obtain⟨a,b,c⟩:=O0.mp h;obtain⟨b1,b2⟩:=Ob.mp b;refine O0.mpr ⟨a,Ob.mpr ⟨λz hz=>by rw[<- h2];exact b1 z hz,b2⟩,λy hy z hz=>?_⟩;rcases Na.mp hz with e |e
 ·rw[e,<- h1];exact c y hy x (M6 ..)
 ·exact c y hy z (M0 _ e)
theorem Dx{ys B:List Cel}{x l r:Cel}(h1:loR l=loR x)(h2:hiR l=loR r)(h3:hiR r=hiR x)(h4:loR l<=hiR l)(h5:loR r<=hiR r)(h:cO (ys++x::B)):cO (ys++l::r::B):=by
 obtain⟨a,b,c⟩:=O0.mp h;obtain⟨b1,b2⟩:=Ob.mp b;refine O0.mpr ⟨a,Ob.mpr ⟨λz hz=>?_,Ob.mpr ⟨λz hz=>by rw[h3];exact b1 z hz,b2⟩⟩,λy hy z hz=>?_⟩
 ·rcases Na.mp hz with e |e
  ·rw[e,h2];exact Oa
  ·rw[h2];exact Rat.le_trans h5 (by rw[h3];exact b1 z e)
 ·have hx:=c y hy x (M6 ..);rcases Na.mp hz with e |e
  ·rw[e,h1];exact hx
  rcases Na.mp e with e |e
  ·rw[e,<- h2];exact Rat.le_trans hx (by rw[<- h1];exact h4)
  ·exact c y hy z (M0 _ e)
def oN(C:Addr):Sp:=λvs H Q _=>(∃(a:Addr) (fs:List (List Int)),vs=[.ref a]/\H a=some (.lst ((prQ fs).map V.int))/\Whl fs /\
 ∀(kb:Nat) (p:Addr) (ys:List Cel) (H':Hp),kb<=402->isB ((prQ fs).take ((prQ fs).length-1)) (ar (prQ fs)).natAbs kb->Same H H'->H p=none->H' p=some (.lst (qs ys))->(∀y∈ys,FdH C H' fs kb y)->(∀s∈aD fs,cov s ys)->ys.length<=12000->cO ys->Q (.ref p) H')\/(∃(a:Addr) (ns:List Int),vs=[.ref a]/\H a=some (.lst (ns.map V.int))/\ns.length<=1/\mkL H Q [])
theorem Fq{C f:Addr}{fd:FuncData}(F:Fun K "cells" "cells" jM f fd)(T:Txt K mg)(R:RCI K mg C){dU:Addr}{dS:FuncData}(dY:Cal P w K mg base 1 "degree" ["row"] fE dU dS){mV:Addr}{mP:FuncData}(nQ:Cal P w K mg base 35 "row_of" ["polynomial"] lj mV mP){bA:Addr}{bz:FuncData}{bC:List Value}(bF:KCal P w K mg base 2 C "Ratio" ["self","top","bottom"] (cD C) bA bz bC [.int 1]){mZ:Addr}{mT:FuncData}(nV:Cal P w K mg base 1 "bound" ["row"] (lv K) mZ mT){uw:Addr}{tY:FuncData}(wa:Cal P w K mg base 3 "changes" ["row","ratio"] (oM C) uw tY){JK:Addr}{I0:FuncData}(Mu:Cal P w K mg base 4 "middle" ["low","high"] (qK C) JK I0):FnOk P w K mg base CX0 36 f fd ["row"] (oN C):=by
 obtain⟨cU,cR,cS,cT⟩:=dY;obtain⟨nI,mv,mF,nq⟩:=nQ;obtain⟨bn,bj,bh,bV,cu,cs⟩:=bF;obtain⟨iF,gP,gY,iz⟩:=nV;obtain⟨kW,kC,kE,kQ⟩:=wa;obtain⟨LR,GN,HA,KY⟩:=Mu;refine F.ok sc_cells (λvs H Q E h=>?_) (λcdv A outer s H vs Q E hr h=>?_)
 ·rcases h with⟨a,fs,rfl,_⟩ |⟨a,ns,rfl,_⟩<;>rfl
 ·obtain⟨a,rfl⟩:∃a,vs=[.ref a]:=by rcases h with⟨a,fs,rfl,_⟩ |⟨a,ns,rfl,_⟩<;>exact⟨_,rfl⟩
  have big:=sizeLine_eq
  refine⟨_,(af (aS (aJ dc (al cU (hr.mono) rfl cR cS cT .nil ah (aa (pv 0) ac)) ad (aG _))
   (ai (ay (aV ac)))
   aU)
   (af (ak (i:=1) sc_cells.nd rfl (Or.inl rfl) (al nI (hr.mono) rfl mv mF nq .nil ah (aa (pv 0) ac)))
   (af (ak (i:=2) sc_cells.nd rfl (Or.inl rfl) (cv bj bn (hr.mono) rfl bh cu cs ah (aa (al iF (hr.mono) rfl gP gY iz .nil ah (aa (pv 0) ac)) ac)))
   (af (ak (i:=3) sc_cells.nd rfl (Or.inl rfl) (cv bj bn (hr.mono) rfl bh cu cs ah (aa (bJ bG (al iF (hr.mono) rfl gP gY iz .nil ah (aa (pv 0) ac))) ac)))
   (af (ak (i:=4) sc_cells.nd rfl (Or.inl rfl) (aV (aa (dM (aa (pv 3) (aa (pv 2) (aa (al kW (hr.mono) rfl kC kE kQ .nil ah (aa (pv 1) (aa (pv 3) ac))) (aa (al kW (hr.mono) rfl kC kE kQ .nil ah (aa (pv 1) (aa (pv 2) ac))) ac))))) ac)))
   (af (ak (i:=5) sc_cells.nd rfl (Or.inl rfl) (aV ac))
   (af (eX PassesOwn.never (aJ gI (aT (cH (K:=K) rfl) (by rfl) T.len_ PySem.boot_len (aa (pv 4) ac)) ad (aG _))
     (af (ak (i:=6) sc_cells.nd rfl (Or.inl rfl) (yj PySem.F.plainAttrs_list PySem.F.slot_list_pop PySem.F.type_list_pop Ge (pv 4)))
       (af (ak (i:=7) sc_cells.nd rfl (Or.inl rfl) (aj cw (aH (aY (K:=K) rfl) (pv 6) ad (λ_ _=>rfl)) (aH (aY (K:=K) rfl) (pv 6) ad (λ_ _=>rfl))))
       (af (aS (aJ cI (pv 7) ad (aG _))
         (ai (d8 (lZ PySem.F.plainAttrs_list PySem.F.slot_list_append PySem.F.type_list_append mj (pv 5) (aa (dM (aa (aH (aY (K:=K) rfl) (pv 6) ad (λ_ _=>rfl)) (aa (aH (aY (K:=K) rfl) (pv 6) ad (λ_ _=>rfl)) ac))) ac))))
         aU)
       (ai (aS (aJ gI (pv 7) ad (aG _))
         (af (ak (i:=8) sc_cells.nd rfl (Or.inl rfl) (al LR (hr.mono) rfl GN HA KY .nil ah (aa (aH (aY (K:=K) rfl) (pv 6) ad (λ_ _=>rfl)) (aa (aH (aY (K:=K) rfl) (pv 6) ad (λ_ _=>rfl)) ac))))
           (af (ak (i:=9) sc_cells.nd rfl (Or.inl rfl) (al kW (hr.mono) rfl kC kE kQ .nil ah (aa (pv 1) (aa (pv 8) ac))))
           (af (d8 (lZ PySem.F.plainAttrs_list PySem.F.slot_list_append PySem.F.type_list_append mj (pv 4) (aa (dM (aa (pv 8) (aa (aH (aY (K:=K) rfl) (pv 6) ad (λ_ _=>rfl)) (aa (pv 9) (aa (aH (aY (K:=K) rfl) (pv 6) ad (λ_ _=>rfl)) ac))))) ac)))
           (ai (d8 (lZ PySem.F.plainAttrs_list PySem.F.slot_list_append PySem.F.type_list_append mj (pv 4) (aa (dM (aa (aH (aY (K:=K) rfl) (pv 6) ad (λ_ _=>rfl)) (aa (pv 8) (aa (aH (aY (K:=K) rfl) (pv 6) ad (λ_ _=>rfl)) (aa (pv 9) ac))))) ac)))))))
         aU))))))
   (ai (ay (pv 5)))))))))),?_⟩
  rcases h with⟨a',fs,ea,hA,hW,k⟩ |⟨a',ns,ea,hA,hl1,k⟩
  rotate_left
  ·cases ea;refine bI ⟨_,rfl,a,_,rfl,hA,_,_,rfl,rfl,_,rfl,aR (λ_=>?_) (λh0=>absurd (show((ns.map V.int).length:Int)-1<1 by rw[MY];omega) h0)⟩;exact aX ⟨M9 _,λp hp=>k p _ (Same.upd_new hp) hp ao⟩
  cases ea;have hP:=hW.fam.pln;have l7:=hW.l7;have l2':=hW.l2;have hml:((prQ fs).map V.int).length=(prQ fs).length:=MY _;obtain⟨rn,rx,rl⟩:=xJ hW.fam l7 (hW.bits.mono);refine bI ⟨_,rfl,a,_,rfl,hA,_,_,rfl,rfl,_,rfl,aR (λh0=>absurd (show(((prQ fs).map V.int).length:Int)-1<1 from h0) (by rw[hml];omega)) (λ_=>?_)⟩;refine av ⟨_,rfl,a,prQ fs,9,rfl,hA,hP.tr,hW.bits.mono,by omega,by decide,rn,λpc ps H1 s1 hpc hnew ec hR=>?_⟩;have hR':RwH H1 ps (d6 fs):=hR;refine av ⟨_,rfl,a,prQ fs,rfl,SqL.of (s1 _ _ hA),hP.tr,hP.ne,by omega,hW.bits.mono,λkb H2 hkb hB s2=>cE (t:=((2^kb:Nat):Int)) (b:=1) (by decide) (b1k (by decide)) λph H3 s3 hph hRh=>?_⟩;rw[kf,ki]at hRh;have t3:=(s1.trans s2).trans s3;refine av ⟨_,rfl,a,prQ fs,rfl,SqL.of (t3 _ _ hA),hP.tr,hP.ne,by omega,hW.bits.mono,λkb' H4 hkb' hB' s4=>?_⟩;obtain rfl:=zl hB hB';refine⟨_,rfl,cE (t := -((2^kb:Nat):Int)) (b:=1) (by decide) (b1k (by decide)) λpl H5 s5 hpl hRl=>?_⟩;rw[kf,ki]at hRl;have hk:=AE hW.bits hP.pos hB;have eB:((2^kb:Nat):Int)=(2:Int)^kb:=by rw[O1];rfl
  rw[eB]at hRh hRl;have B0:(0:Int)<2^kb:=NI (by decide);have t5:=(t3.trans s4).trans s5;have u5:=(s2.trans s3).trans (s4.trans s5);have ec5:=u5 _ _ ec;have hR5:=hR'.same u5;have hRh5:=hRh.same (s4.trans s5);have dy0:Dya (2^kb) 0 (-(2^kb)) 1 (2^kb) 1:=Dya.start;obtain⟨b1,b2,b3,b4⟩:=qb dy0 hk (by omega);refine av ⟨_,rfl,_,rfl,_,rfl,_,rfl,pc,pl,ps,d6 fs,_,_,rfl,ec5,hR5,hRl,b1.mono,b2.mono,rx,rl,λH6 s6=>?_⟩;refine⟨_,rfl,_,rfl,pc,ph,ps,d6 fs,_,_,rfl,s6 _ _ ec5,hR5.same s6,hRh5.same s6,b3.mono,b4.mono,rx,rl,λH7 s7=>⟨by show 4<=sizeLine;omega,λq0 hq0=>⟨by show 1<=sizeLine;omega,λpw hpw=>?_⟩⟩⟩;have u7:=s6.trans s7;have ec7:=u7 _ _ ec5;have hR7:=hR5.same u7;have hRl7:=hRl.same u7;have hRh7:=hRh5.same u7;have t7:=t5.trans u7;have w7:Same H7 (upd H7 q0 (.tup [.ref pl,.ref ph,.int (VV fs (-(2^kb)) 1),.int (VV fs (2^kb) 1)])):=Same.upd_new hq0;have e8:upd H7 q0 (.tup [.ref pl,.ref ph,.int (VV fs (-(2^kb)) 1),.int (VV fs (2^kb) 1)]) q0=some (.tup [.ref pl,.ref ph,.int (VV fs (-(2^kb)) 1),.int (VV fs (2^kb) 1)]):=ao;have hpw':upd H7 q0 (.tup [.ref pl,.ref ph,.int (VV fs (-(2^kb)) 1),.int (VV fs (2^kb) 1)]) pw=none:=hpw;refine av ⟨M9 _,λpf hpf=>?_⟩;have hpf':upd (upd H7 q0 (.tup [.ref pl,.ref ph,.int (VV fs (-(2^kb)) 1),.int (VV fs (2^kb) 1)])) pw (.lst [V.ref q0]) pf=none:=hpf;show cg _ _ _ _ _;refine cZ (λσ' H'=>σ'=[some (.ref a),some (.ref pc),some (.ref ph),some (.ref pl),some (.ref pw),some (.ref pf),none,none,none,none]/\upd (upd (upd H7 q0 (.tup [.ref pl,.ref ph,.int (VV fs (-(2^kb)) 1),.int (VV fs (2^kb) 1)])) pw (.lst [V.ref q0])) pf (.lst [])=H') ⟨rfl,rfl⟩ ?_;rintro σ' H10 ⟨rfl,eH10⟩;generalize upd H7 q0 (.tup [.ref pl,.ref ph,.int (VV fs (-(2^kb)) 1),.int (VV fs (2^kb) 1)])=H8 at w7 e8 hpw' hpf' eH10
  have sw:Same H8 (upd H8 pw (.lst [V.ref q0])):=Same.upd_new hpw';have sf:Same (upd H8 pw (.lst [V.ref q0])) H10:=by rw[<- eH10];exact Same.upd_new hpf'
  have s810:=sw.trans sf;have fw:H8 pw=none:=hpw';have ff:H8 pf=none:=sw.free hpf';have nwf:pw≠pf:=aQ (ao (H:=H8) (o:=.lst [V.ref q0])) hpf';have ew10:H10 pw=some (.lst [V.ref q0]):=sf _ _ ao;have ef10:H10 pf=some (.lst []):=by rw[<- eH10];exact ao
  have x0w:WtH C H10 fs kb ⟨q0,pl,ph,-(2^kb),1,2^kb,1,0⟩:=⟨s810 _ _ e8,hRl7.same (w7.trans s810),hRh7.same (w7.trans s810),dy0,M9 _⟩
  have cov0:∀s∈aD fs,cov s [⟨q0,pl,ph,-(2^kb),1,2^kb,1,0⟩]:=λs hs=>by obtain⟨z1,z2⟩:=B6 hW.fam.fac hW.fam.nd hW.fam.ap (B:=2^kb) (N3 (by decide)) hB.1 hs;rw[eB]at z1 z2;exact⟨_,Nb.mpr rfl,z2,M7 z1⟩
  clear eH10 sw sf;have hsp:=xg fs;have hfl:=Jx hW.fam
  have hm0:dm fs kb [⟨q0,pl,ph,-(2^kb),1,2^kb,1,0⟩]<=11000:=by
   show wgt fs kb _+0<=11000;unfold wgt;have h1:=Ar (-(2^kb)) 1 (2^kb) 1 (aD fs)
   have h2:(Cel.cn ⟨q0,pl,ph,-(2^kb),1,2^kb,1,0⟩ fs).toNat<=4:=by show(bE (aD fs) (-(2^kb)) 1 (2^kb) 1).toNat<=4;omega
   have h3:=Nat.mul_le_mul h2 (show kb+201-0<=603 by omega);have h4:(kb+201-(Cel.mk q0 pl ph (-(2^kb)) 1 (2^kb) 1 0).d)=kb+201-0:=rfl;rw[h4];omega
  refine⟨λm σ' H'=>∃(ws ys:List Cel) (z6 z7 z8 z9:Option V),m=dm fs kb ws/\σ'=[some (.ref a),some (.ref pc),some (.ref ph),some (.ref pl),some (.ref pw),some (.ref pf),z6,z7,z8,z9]/\Same H8 H'/\H' pw=some (.lst (qs ws))/\H' pf=some (.lst (qs ys))/\(∀x∈ws,WtH C H' fs kb x)/\(∀y∈ys,FdH C H' fs kb y)/\(∀s∈aD fs,cov s ws\/cov s ys)/\ys.length+m<=11000/\cO (ys++ws.reverse),
   ⟨_,[⟨q0,pl,ph,-(2^kb),1,2^kb,1,0⟩],[],none,none,none,none,rfl,rfl,s810,ew10,ef10,λx hx=>by rw[Nb.mp hx];exact x0w,(λy hy=>nomatch hy),λs hs=>.inl (cov0 s hs),by show 0+_<=_;omega,by show cO [_];exact List.pairwise_singleton _ _⟩,?_⟩
  clear hm0 cov0 x0w ew10 ef10 s810;rintro m σ' H' ⟨ws,ys,z6,z7,z8,z9,rfl,rfl,sm,ew,ef,hws,hys,hcov,hlen,hri⟩;have hwl:=qo fs kb ws;have hql:(qs ws).length=ws.length:=MY _;refine⟨_,rfl,pw,_,rfl,.inl (SqL.of ew),_,_,rfl,rfl,_,rfl,aR (λhgt=>?_) (λhle=>?_)⟩
  rotate_left
  ·
   have h0:ws=[]:=Of.mp (by have:¬((qs ws).length:Int)>0:=hle;rw[hql]at this;omega);subst h0;refine⟨_,rfl,k kb pf ys H' hk hB (t7.trans (w7.trans sm)) ((t7.trans w7).free ff) ef hys (λs hs=>?_) (by omega) (by rw[List.reverse_nil,OG]at hri;exact hri)⟩;rcases hcov s hs with⟨x,hx,_⟩ |z
   ·cases hx
   ·exact z
  ·have hne:ws≠[]:=λz=>by rw[z]at hql;have:((qs ws).length:Int)>0:=hgt;rw[z]at this;exact absurd this (by decide)
   obtain⟨ws',x,rfl⟩:∃ws' x,ws=ws'++[x]:=⟨ws.dropLast,ws.getLast hne,(List.dropLast_concat_getLast hne).symm⟩;rw[iK]at hlen
   replace hri:cO (ys++x::ws'.reverse):=by rw[OS]at hri;exact hri
   rw[oW]at ew;have hx:=hws x (by simp);have hw':∀y∈ws',WtH C H' fs kb y:=λy hy=>hws y (by simp[hy])
   clear hws hql hgt hne;have hwl:=qo fs kb ws';refine⟨λσ'' H''=>∃m',m'<dm fs kb (ws'++[x])/\∃(ws ys:List Cel) (z6 z7 z8 z9:Option V),m'=dm fs kb ws/\σ''=[some (.ref a),some (.ref pc),some (.ref ph),some (.ref pl),some (.ref pw),some (.ref pf),z6,z7,z8,z9]/\Same H8 H''/\H'' pw=some (.lst (qs ws))/\H'' pf=some (.lst (qs ys))/\(∀x∈ws,WtH C H'' fs kb x)/\(∀y∈ys,FdH C H'' fs kb y)/\(∀s∈aD fs,cov s ws\/cov s ys)/\ys.length+m'<=11000/\cO (ys++ws.reverse),λ_ _ h=>h,?_⟩;rw[iK];refine av ⟨_,rfl,.inl ⟨rfl,_,SqL.of ew⟩,pw,_,V.ref x.q,rfl,rfl,ew,by rw[Nk];simp,?_⟩;rw[List.dropLast_concat];have ew1:upd H' pw (.lst (qs ws')) pw=some (.lst (qs ws')):=ao;have ef1:upd H' pw (.lst (qs ws')) pf=some (.lst (qs ys)):=by rw[upd_ne (Ne.symm nwf)];exact ef
   have n1:NL H' (upd H' pw (.lst (qs ws'))):=NL.upd ew;have sm1:Same H8 (upd H' pw (.lst (qs ws'))):=fg sm fw;generalize upd H' pw (.lst (qs ws'))=K1 at ew1 ef1 n1 sm1 ⊢
   have hx1:=hx.nl n1;have hw1:∀y∈ws',WtH C K1 fs kb y:=λy hy=>(hw' y hy).nl n1
   have hy1:∀y∈ys,FdH C K1 fs kb y:=λy hy=>(hys y hy).nl n1
   clear hw' hys ew ef sm n1 hx;refine av ⟨_,rfl,x.q,_,_,_,rfl,rfl,SqT.of hx1.tup,rfl,_,rfl,x.q,_,_,_,rfl,rfl,SqT.of hx1.tup,rfl,_,_,rfl,rfl,?_⟩;have ecn:VV fs x.l1 x.l2-VV fs x.h1 x.h2=x.cn fs:=xK hW.fam l7 hx1.dy.l2p hx1.dy.h2p (hx1.dy.lt B0);dsimp only
   rw[ecn];have cn0:0<=x.cn fs:=nc _ _ _ _ _;refine lJ (λσ' H'=>∃ys:List Cel,σ'=[some (.ref a),some (.ref pc),some (.ref ph),some (.ref pl),some (.ref pw),some (.ref pf),some (.ref x.q),some (.int (x.cn fs)),z8,z9]/\Same H8 H'/\H' pw=some (.lst (qs ws'))/\H' pf=some (.lst (qs ys))/\WtH C H' fs kb x/\(∀y∈ws',WtH C H' fs kb y)/\(∀y∈ys,FdH C H' fs kb y)/\(∀s∈aD fs,cov s ws'\/(x.cn fs≠1/\x.inn s)\/cov s ys)/\ys.length+dm fs kb ws'+(if x.cn fs=1 then 0 else wgt fs kb x)<=11000/\(x.cn fs≠1->cO (ys++x::ws'.reverse))/\cO (ys++ws'.reverse)) ?_ ?_
   case refine_2 =>
    intro rest;refine⟨_,rfl,_,_,rfl,rfl,_,rfl,aR (λh1=>?_) (λh1=>?_)⟩
    ·have h1':x.cn fs=1:=h1;refine xP ⟨_,rfl,.inl ⟨rfl,_,SqL.of ef1⟩,_,rfl,x.q,_,_,_,rfl,rfl,SqT.of hx1.tup,rfl,_,rfl,x.q,_,_,_,rfl,rfl,SqT.of hx1.tup,rfl,by show 2<=sizeLine;omega,λp hp=>?_⟩;have s2:Same K1 (upd K1 p (.tup [V.ref x.lo,V.ref x.hi])):=Same.upd_new hp;have e2:upd K1 p (.tup [V.ref x.lo,V.ref x.hi]) p=some (.tup [V.ref x.lo,V.ref x.hi]):=ao;generalize upd K1 p (.tup [V.ref x.lo,V.ref x.hi])=K2 at s2 e2 ⊢
     have ef2:=s2 _ _ ef1;have hyl:(qs ys).length=ys.length:=MY _;refine⟨pf,_,_,rfl,rfl,ef2,by rw[hyl];omega,?_⟩;have n3:NL K1 (upd K2 pf (.lst (qs ys++[V.ref p]))):=(NL.of s2).trans (NL.upd ef2);have n4:NL K2 (upd K2 pf (.lst (qs ys++[V.ref p]))):=NL.upd ef2;refine rest _ _ ⟨ys++[⟨p,x.lo,x.hi,x.l1,x.l2,x.h1,x.h2,x.d⟩],rfl,fg (sm1.trans s2) ff,by rw[upd_ne nwf];exact s2 _ _ ew1,by rw[ao,oW],hx1.nl n3,λy hy=>(hw1 y hy).nl n3,λy hy=>?_,λs hs=>?_,?_,λz=>absurd h1' z,?_⟩
     ·rcases NM.mp hy with z |z
      ·exact(hy1 y z).nl n3
      ·rw[Nb.mp z];exact⟨n4 _ _ e2 (λ_=>by simp),hx1.lo.nl n3,hx1.hi.nl n3,hx1.dy,hx1.dd,h1'⟩
     ·rcases hcov s hs with z |z
      ·rcases cov_snoc.mp z with z |z
       ·exact .inl z
       ·exact .inr (.inr (cov_snoc.mpr (.inr z)))
      ·exact .inr (.inr (cov_snoc.mpr (.inl z)))
     ·rw[if_pos h1',Nk];show ys.length+1+_+0<=_;have:1<=wgt fs kb x:=by unfold wgt;omega
      omega
     ·rw[OQ];exact Du (x:=x) rfl rfl hri
    ·have h1':¬x.cn fs=1:=h1;refine rest _ _ ⟨ys,rfl,sm1,ew1,ef1,hx1,hw1,hy1,λs hs=>?_,by rw[if_neg h1'];omega,λ_=>hri,Dw hri⟩;rcases hcov s hs with z |z
     ·rcases cov_snoc.mp z with z |z
      ·exact .inl z
      ·exact .inr (.inl ⟨h1',z⟩)
     ·exact .inr (.inr z)
   clear hcov hlen hri hy1 hw1 hx1 ef1 ew1 sm1 ys;rintro σ' K3 ⟨ys,rfl,sm1,ew1,ef1,hx1,hw1,hy1,hcov,hlen,hri1,hri2⟩;refine⟨_,rfl,_,_,rfl,rfl,_,rfl,aR (λh2=>?_) (λh2=>?_)⟩
   rotate_left
   ·
    have h2':¬x.cn fs>1:=h2;refine⟨dm fs kb ws',by unfold wgt;omega,ws',ys,_,_,_,_,rfl,rfl,sm1,ew1,ef1,hw1,hy1,λs hs=>?_,by split at hlen<;>omega,hri2⟩;rcases hcov s hs with z |⟨z1,z2⟩ |z
    ·exact .inl z
    ·have:1<=x.cn fs:=Aq hs z2;omega
    ·exact .inr z
   have h2':x.cn fs>1:=h2;rw[if_neg (show ¬x.cn fs=1 by omega)]at hlen
   have hdl:x.d<kb+201:=Nat.not_le.mp λz=>by have:x.cn fs<=1:=Dya.few hW.fam.fac hW.fam.nd hW.fam.ap hx1.dy z;omega
   obtain⟨c1,c2,c3,c4⟩:=qb hx1.dy hk hx1.dd;refine av ⟨_,rfl,x.q,_,_,_,rfl,rfl,SqT.of hx1.tup,rfl,_,rfl,x.q,_,_,_,rfl,rfl,SqT.of hx1.tup,rfl,x.lo,x.hi,_,_,_,_,rfl,hx1.lo,hx1.hi,c1.mono,c2.mono,c3.mono,c4.mono,hx1.dy.l2p,hx1.dy.h2p,λpm K4 s4 hpm hRm=>?_⟩;have n0:2*x.l2*x.h2≠0:=Nr (M8 (by have:=hx1.dy.l2p;omega) hx1.dy.h2p);obtain⟨dl,dr⟩:=hx1.dy.half (dI n0) (kj n0) (eU n0);generalize rt (x.l1*x.h2+x.h1*x.l2) (2*x.l2*x.h2)=m1 at hRm dl dr
   generalize rb (x.l1*x.h2+x.h1*x.l2) (2*x.l2*x.h2)=m2 at hRm dl dr
   have hx4:=hx1.nl (NL.of s4);obtain⟨g1,g2,g3,g4⟩:=qb dl hk (by omega);have sm4:=sm1.trans s4;refine av ⟨_,rfl,_,rfl,pc,pm,ps,d6 fs,m1,m2,rfl,sm4 _ _ (w7 _ _ ec7),hR7.same (w7.trans sm4),hRm,g3.mono,g4.mono,rx,rl,λK5 s5=>?_⟩;have hx5:=hx4.nl (NL.of s5);have u5:=s4.trans s5;refine fH ⟨_,rfl,.inl ⟨rfl,_,SqL.of (u5 _ _ ew1)⟩,_,rfl,_,rfl,x.q,_,_,_,rfl,rfl,SqT.of hx5.tup,rfl,_,rfl,_,rfl,x.q,_,_,_,rfl,rfl,SqT.of hx5.tup,rfl,by show 4<=sizeLine;omega,λq1 hq1=>?_⟩;have s6:Same K5 (upd K5 q1 (.tup [V.ref pm,V.ref x.hi,V.int (VV fs m1 m2),V.int (VV fs x.h1 x.h2)])):=Same.upd_new hq1;have e6:upd K5 q1 (.tup [V.ref pm,V.ref x.hi,V.int (VV fs m1 m2),V.int (VV fs x.h1 x.h2)]) q1=some (.tup [V.ref pm,V.ref x.hi,V.int (VV fs m1 m2),V.int (VV fs x.h1 x.h2)]):=ao;refine xO (H2:=upd K5 q1 (.tup [V.ref pm,V.ref x.hi,V.int (VV fs m1 m2),V.int (VV fs x.h1 x.h2)])) rfl ?_;generalize upd K5 q1 (.tup [V.ref pm,V.ref x.hi,V.int (VV fs m1 m2),V.int (VV fs x.h1 x.h2)])=K6 at s6 e6 ⊢
   have u6:=u5.trans s6;have ew6:=u6 _ _ ew1;have ef6:=u6 _ _ ef1;have hql:(qs ws').length=ws'.length:=MY _;refine⟨pw,_,_,rfl,rfl,ew6,by rw[hql];omega,?_⟩;have ew7:upd K6 pw (.lst (qs ws'++[V.ref q1])) pw=some (.lst (qs ws'++[V.ref q1])):=ao;have ef7:upd K6 pw (.lst (qs ws'++[V.ref q1])) pf=some (.lst (qs ys)):=by rw[upd_ne (Ne.symm nwf)];exact ef6
   have n7:NL K6 (upd K6 pw (.lst (qs ws'++[V.ref q1]))):=NL.upd ew6;have sm7:Same H8 (upd K6 pw (.lst (qs ws'++[V.ref q1]))):=fg (sm1.trans u6) fw;generalize upd K6 pw (.lst (qs ws'++[V.ref q1]))=K7 at ew7 ef7 n7 sm7 ⊢
   have m5:NL K5 K7:=(NL.of s6).trans n7;have hx7:=hx5.nl m5;refine xP ⟨_,rfl,.inl ⟨rfl,_,SqL.of ew7⟩,_,rfl,x.q,_,_,_,rfl,rfl,SqT.of hx7.tup,rfl,_,rfl,_,rfl,x.q,_,_,_,rfl,rfl,SqT.of hx7.tup,rfl,_,rfl,by show 4<=sizeLine;omega,λq2 hq2=>?_⟩;have s8:Same K7 (upd K7 q2 (.tup [V.ref x.lo,V.ref pm,V.int (VV fs x.l1 x.l2),V.int (VV fs m1 m2)])):=Same.upd_new hq2;have e8':upd K7 q2 (.tup [V.ref x.lo,V.ref pm,V.int (VV fs x.l1 x.l2),V.int (VV fs m1 m2)]) q2=some (.tup [V.ref x.lo,V.ref pm,V.int (VV fs x.l1 x.l2),V.int (VV fs m1 m2)]):=ao;refine xO (H2:=upd K7 q2 (.tup [V.ref x.lo,V.ref pm,V.int (VV fs x.l1 x.l2),V.int (VV fs m1 m2)])) rfl ?_;generalize upd K7 q2 (.tup [V.ref x.lo,V.ref pm,V.int (VV fs x.l1 x.l2),V.int (VV fs m1 m2)])=K8 at s8 e8' ⊢
   have ew8:=s8 _ _ ew7;have hql8:(qs ws'++[V.ref q1]).length=ws'.length+1:=by rw[Nk,hql];rfl
   refine⟨pw,_,_,rfl,rfl,ew8,by rw[hql8];omega,?_⟩;have n9:NL K8 (upd K8 pw (.lst ((qs ws'++[V.ref q1])++[V.ref q2]))):=NL.upd ew8;have m7:NL K7 (upd K8 pw (.lst ((qs ws'++[V.ref q1])++[V.ref q2]))):=(NL.of s8).trans n9;have m6:=n7.trans m7;have mm5:=m5.trans m7;have m3:=(NL.of u5).trans mm5;have ladd:x.cn fs=(Cel.mk q2 x.lo pm x.l1 x.l2 m1 m2 (x.d+1)).cn fs+(Cel.mk q1 pm x.hi m1 m2 x.h1 x.h2 (x.d+1)).cn fs:=Kx hW.fam.q dl.l2p dl.h2p dr.h2p (dl.lt B0) (dr.lt B0)
   have wl:wgt fs kb ⟨q1,pm,x.hi,m1,m2,x.h1,x.h2,x.d+1⟩+wgt fs kb ⟨q2,x.lo,pm,x.l1,x.l2,m1,m2,x.d+1⟩<wgt fs kb x:=by
    have p1:0<=(Cel.mk q2 x.lo pm x.l1 x.l2 m1 m2 (x.d+1)).cn fs:=nc _ _ _ _ _;have p2:0<=(Cel.mk q1 pm x.hi m1 m2 x.h1 x.h2 (x.d+1)).cn fs:=nc _ _ _ _ _;unfold wgt;show 1+2*(_*(kb+201-(x.d+1)))+(1+2*(_*(kb+201-(x.d+1))))<_;generalize (Cel.mk q2 x.lo pm x.l1 x.l2 m1 m2 (x.d+1)).cn fs=A at *
    generalize (Cel.mk q1 pm x.hi m1 m2 x.h1 x.h2 (x.d+1)).cn fs=B at *
    obtain⟨A,rfl⟩:=OW p1;obtain⟨B,rfl⟩:=OW p2;obtain⟨t,ht⟩:∃t,kb+201-x.d=t+1:=⟨kb+201-x.d-1,by omega⟩;have ht':kb+201-(x.d+1)=t:=by omega
    have hc:(x.cn fs).toNat=A+B:=by omega
    rw[hc,ht,ht'];show 1+2*(B*t)+(1+2*(A*t))<1+2*((A+B)*(t+1));have e1:(A+B)*(t+1)=A*t+B*t+(A+B):=by rw[Nat.mul_succ,Nat.add_mul]
    rw[e1];omega
   refine⟨dm fs kb (ws'++[⟨q1,pm,x.hi,m1,m2,x.h1,x.h2,x.d+1⟩]++[⟨q2,x.lo,pm,x.l1,x.l2,m1,m2,x.d+1⟩]),by rw[iK,iK];omega,_,ys,_,_,_,_,rfl,rfl,fg (sm7.trans s8) fw,by rw[ao,oW,oW],by rw[upd_ne (Ne.symm nwf)];exact s8 _ _ ef7,λy hy=>?_,λy hy=>(hy1 y hy).nl m3,λs hs=>?_,by rw[iK,iK];omega,?_⟩
   ·rcases NM.mp hy with z |z
    ·rcases NM.mp z with z |z
     ·exact(hw1 y z).nl m3
     ·rw[Nb.mp z];exact⟨m6 _ _ e6 (λ_=>by simp),(hRm.same s5).nl mm5,hx5.hi.nl mm5,dr,by show x.d+1<=_;omega⟩
    ·rw[Nb.mp z];exact⟨n9 _ _ e8' (λ_=>by simp),hx5.lo.nl mm5,(hRm.same s5).nl mm5,dl,by show x.d+1<=_;omega⟩
   ·rcases hcov s hs with z |⟨_,z2⟩ |z
    ·exact .inl (cov_snoc.mpr (.inl (cov_snoc.mpr (.inl z))))
    ·rcases Ot 0 (aq s m1 m2)with v |v
     ·exact .inl (cov_snoc.mpr (.inl (cov_snoc.mpr (.inr ⟨v,z2.2⟩))))
     ·exact .inl (cov_snoc.mpr (.inr ⟨z2.1,v⟩))
    ·exact .inr z
   ·rw[OS,OS];exact Dx (x:=x) rfl rfl rfl (Nj ((gC dl.l2p dl.h2p).mpr (dl.lt B0))) (Nj ((gC dr.l2p dr.h2p).mpr (dr.lt B0))) (hri1 (by omega))
theorem sM{ns:List Int}(h:ns≠[]):atI (ns.map V.int) (-1)=some (.int (ar ns)):=by obtain⟨r,x,rfl⟩:=(cx ns).resolve_left h;rw[cM];exact AQ r x
theorem sL{k:Nat}{ns:List Int}(h:AllB k ns):Bits k (ar ns):=h.cf _
def qQ(C:Addr):Sp:=λvs H Q _=>∃(a:Addr) (fs:List (List Int)),vs=[.ref a]/\H a=some (.lst ((prQ fs).map V.int))/\Whl fs/\∀(x:Addr) (H':Hp) (kb:Nat),kb<=402->isB ((prQ fs).take ((prQ fs).length-1)) (ar (prQ fs)).natAbs kb->Same H H'->H x=none->RA C H' x 1 (8*ar (prQ fs)*2^kb)->0<8*ar (prQ fs)*(2:Int)^kb->Bits 810 (8*ar (prQ fs)*(2:Int)^kb)->Q (.ref x) H'
theorem Fi{C f:Addr}{fd:FuncData}(F:Fun K "fine_width" "fine_width" jE f fd)(T:Txt K mg)(R:RCI K mg C){bA:Addr}{bz:FuncData}{bC:List Value}(bF:KCal P w K mg base 2 C "Ratio" ["self","top","bottom"] (cD C) bA bz bC [.int 1]){mZ:Addr}{mT:FuncData}(nV:Cal P w K mg base 1 "bound" ["row"] (lv K) mZ mT):FnOk P w K mg base CX0 4 f fd ["whole"] (qQ C):=by
 obtain⟨bn,bj,bh,bV,cu,cs⟩:=bF;obtain⟨iF,gP,gY,iz⟩:=nV;refine F.ok CQ (λvs H Q E h=>?_) (λcdv A outer s H vs Q E hr h=>?_)
 ·obtain⟨a,fs,rfl,_⟩:=h;rfl
 ·obtain⟨a,fs,rfl,hA,hW,k⟩:=h;refine⟨_,(ai (ay (cv bj bn (hr.mono) rfl bh bV .nil ah (aa ad (aa (aj aO (aj aO ad (aH (bK (K:=K) rfl) (pv 0) (bJ bG ad) (λ_ _=>rfl))) (al iF (hr.mono) rfl gP gY iz .nil ah (aa (pv 0) ac))) ac))))),?_⟩;have hP:=hW.fam.pln;have l7:=hW.l7;have hb:=hW.bits;have b8:Bits 4 (8:Int):=by show(8:Int).natAbs<2^4;decide
  have hp:=hP.pos;refine aX ⟨_,rfl,_,rfl,a,_,_,_,rfl,rfl,SqL.of hA,sM hP.ne,_,_,rfl,rfl,⟨b8.mono,(sL hb).mono⟩,_,rfl,a,prQ fs,rfl,SqL.of hA,hP.tr,hP.ne,by omega,hb.mono,λkb H1 hkb hB s1=>?_⟩;have hk:=AE hb hp hB
  have b2:Bits 403 ((2^kb:Nat):Int):=by show(((2^kb:Nat):Int)).natAbs<2^403;rw[Np];exact(O4 (by decide)).mpr (by omega)
  have b3:Bits 404 (8*ar (prQ fs)):=(b8.mul (sL hb)).mono;have pk:(0:Int)<((2^kb:Nat):Int):=ON.mpr (N3 (by decide));have hD:0<8*ar (prQ fs)*((2^kb:Nat):Int):=M8 (by omega) pk;have bD:Bits 810 (8*ar (prQ fs)*((2^kb:Nat):Int)):=(b3.mul b2).mono;refine⟨_,_,rfl,rfl,⟨b3.mono,b2.mono⟩,cE (t:=1) (by omega) (bD.mono) λx H2 s2 hx hR=>?_⟩;rw[Dm hD,DF hD]at hR;have eB:((2^kb:Nat):Int)=(2:Int)^kb:=by rw[O1];rfl
  rw[eB]at hR hD bD;exact k x H2 kb hk hB (s1.trans s2) (s1.free hx) hR hD bD
def qS(C:Addr):Sp:=λvs H Q _=>∃(p:Addr) (t b:Int),vs=[.ref p]/\RA C H p t b/\0<b/\Bits 9000 b/\Q (.int (t/b)) H
theorem FM{C f:Addr}{fd:FuncData}(F:Fun K "floor" "Ratio.floor" j7 f fd)(T:Txt K mg)(R:RCI K mg C):FnOk P w K mg base CX0 1 f fd ["self"] (qS C):=by
 refine F.ok De (λvs H Q E h=>?_) (λcdv A outer s H vs Q E hr h=>?_)
 ·obtain⟨p,t,b,rfl,_⟩:=h;rfl
 ·obtain⟨p,t,b,rfl,⟨dx,hp⟩,hb,bb,k⟩:=h;refine⟨_,(ai (ay (aj dO (aP (K:=K) rfl (pv 0) rfl) (aP (K:=K) rfl (pv 0) rfl)))),?_⟩;exact⟨_,rfl,p,C,dx,_,_,rfl,hp,R.cl,R.nT,cF _ _,_,rfl,p,C,dx,_,_,rfl,hp,R.cl,R.nB,bM _ _,_,_,rfl,rfl,⟨hb,bb⟩,k⟩
theorem yD:¬(("floor":Str)="bottom")/\¬(("floor":Str)="top"):=⟨by decide +kernel,by decide +kernel⟩
theorem DO{a c:Int}(hc:0<c):rt a c/rb a c=a/c:=by
 have h0:c≠0:=by omega
 have e1:=kg (t:=a) h0;have e2:=gB (t:=a) h0
 have hp:0<dv a c:=by unfold dv;rw[if_neg (by omega)];have:=kI (t:=a) h0;omega
 have e3:dv a c*rt a c/(dv a c*rb a c)=rt a c/rb a c:=Int.mul_ediv_mul_of_pos _ _ hp;rw[e1,e2]at e3;exact e3.symm
def qw(C:Addr):Sp:=λvs H Q _=>∃(r:Addr) (c t b:Int),vs=[.int c,.ref r]/\RA C H r t b/\0<b/\Bits 10000 c/\Bits 10000 t/\Bits 8900 b/\∀H',Same H H'->Q (.int (c*t/b)) H'
theorem EG{C f:Addr}{fd:FuncData}(F:Fun K "times_floor" "times_floor" i8 f fd)(T:Txt K mg)(R:RCI K mg C){bA:Addr}{bz:FuncData}{bC:List Value}(bF:KCal P w K mg base 2 C "Ratio" ["self","top","bottom"] (cD C) bA bz bC [.int 1]){m4:Addr}{mU:FuncData}(nX:MCal P w K mg base 4 C "times" ["self","other"] (li C) m4 mU){J7:Addr}{Ju:FuncData}(MQ:MCal P w K mg base 1 C "floor" ["self"] (qS C) J7 Ju):FnOk P w K mg base CX0 5 f fd ["factor","ratio"] (qw C):=by
 obtain⟨bn,bj,bh,bV,cu,cs⟩:=bF;obtain⟨nO,ml,nC⟩:=nX;obtain⟨Mf,Gf,Lq⟩:=MQ;refine F.ok CD (λvs H Q E h=>?_) (λcdv A outer s H vs Q E hr h=>?_)
 ·obtain⟨r,c,t,b,rfl,_⟩:=h;rfl
 ·obtain⟨r,c,t,b,rfl,hR,hb,bc,bt,bb,k⟩:=h;refine⟨_,(ai (ay (El (eY (cv bj bn (hr.mono) rfl bh cu cs ah (aa (pv 0) ac)) R.cl ml nO (hr.mono) nC .nil ah (aa (pv 1) ac)) R.cl Gf Mf (hr.mono) Lq .nil ah))),?_⟩;refine aX ⟨_,rfl,cE (t:=c) (b:=1) (by decide) (b1k (by decide)) λx H1 s1 hx hX=>?_⟩;rw[kf,ki]at hX;obtain⟨dx,hX'⟩:=id hX;refine⟨x,dx,_,rfl,hX',fS _ _ px.1 px.2,_,rfl,x,r,c,1,t,b,1,8900,rfl,hX,hR.same s1,bc.mono,b1k (by decide),bt.mono,bb,by decide,by decide,hb,λy H2 s2 hy hY=>?_⟩;obtain⟨dy,hY'⟩:=id hY;have d0:1*b≠0:=by omega
  refine⟨y,dy,_,rfl,hY',fS _ _ yD.1 yD.2,y,_,_,rfl,hY,dI d0,(eT d0 (by rw[Nh];exact bb)).mono,?_⟩;rw[DO (show 0<1*b by omega),Nh];exact k H2 (s1.trans s2)
noncomputable def vl(p:Int×Int):Rat:=(p.1:Rat)/(p.2:Rat)
theorem xb{t n t' n':Int}:∀{ls:List (List Int)},(∀l∈ls,aq l t n=aq l t' n')->spr t n ls=spr t' n' ls
 | [],_=>rfl
 |l::ls,h=>by show -aq l t n*spr t n ls = -aq l t' n'*spr t' n' ls;rw[h l (M6 ..),xb λx hx=>h x (M0 _ hx)]
theorem w9{t n:Int}:∀{ls:List (List Int)},(∀l∈ls,aq l t n≠0)->spr t n ls=1\/spr t n ls = -1
 | [],_=>.inl rfl
 |l::ls,h=>by
  have h1:=h l (M6 ..);have h2:=w9 (ls:=ls) λx hx=>h x (M0 _ hx)
  show -aq l t n*spr t n ls=1 \/ -aq l t n*spr t n ls = -1;rcases fF l t n with z |z |z
  ·rw[z];omega
  ·exact absurd z h1
  ·rw[z];omega
theorem Ch{l:List Int}(hl:Spt l){t n t' n':Int}(hn:0<n)(hn':0<n')(h:t*n'<=t'*n)(hs:0<aq l t' n'):0<aq l t n:=by
 rcases Ot 0 (aq l t n)with z |z
 ·exact z
 ·exfalso;rcases Int.lt_or_eq_of_le h with y |y
  ·have:=gt hl hn hn' y z;omega
  ·rw[oR l hn hn' y]at z;omega
theorem xz{l:List Int}(hl:Spt l){l1 l2 h1 h2 x1 x2:Int}(l2p:0<l2)(h2p:0<h2)(x2p:0<x2)(lt:l1*h2<h1*l2)(hno:¬(0<aq l l1 l2/\aq l h1 h2<=0))(hx:l1*x2<x1*l2)(hx':x1*h2<=h1*x2):aq l x1 x2=aq l h1 h2/\aq l h1 h2≠0:=by
 rcases Ot 0 (aq l l1 l2)with z |z
 ·have h3:0<aq l h1 h2:=by
   rcases Ot 0 (aq l h1 h2)with y |y
   ·exact y
   ·exact absurd ⟨z,y⟩ hno
  have h4:=Ch hl x2p h2p hx' h3;rcases fF l x1 x2 with y |y |y<;>rcases fF l h1 h2 with w |w |w<;>omega
 ·have e1:=gt hl l2p x2p hx z;have e2:=gt hl l2p h2p lt z;omega
theorem Dq{fs pre post:List (List Int)}{s:List Int}{c l1 l2 h1 h2:Int}(hF:∀f∈fs,dX f)(hc:c≠0)(hsp:aD fs=pre++s::post)(l2p:0<l2)(h2p:0<h2)(lt:l1*h2<h1*l2)(hin:0<aq s l1 l2/\aq s h1 h2<=0)(hno:∀x∈pre++post,¬(0<aq x l1 l2/\aq x h1 h2<=0)) :
 ∃ε,RootU (ae [c] (aL [1] (fs.map ax))) l1 l2 h1 h2 ε (λx1 x2=>0<aq s x1 x2):=by
 have hS:∀x∈aD fs,Spt x:=λx hx=>du hF hx
 have hs:Spt s:=hS s (by rw[hsp];simp);have ho:∀x∈pre++post,Spt x:=λx hx=>hS x (by rw[hsp];simp at hx ⊢;rcases hx with h |h<;>simp[h])
 have val:∀x1 x2,0<x2->l1*x2<x1*l2->x1*h2<=h1*x2->sg (hv x1 x2 (ae [c] (aL [1] (fs.map ax))))=sg c*spr h1 h2 (pre++post) * -aq s x1 x2:=λx1 x2 x2p a b=>by
  rw[oY x2p hF,hsp,ol];show sg c*(spr x1 x2 pre*(-aq s x1 x2*spr x1 x2 post))=_;have e:spr x1 x2 (pre++post)=spr h1 h2 (pre++post):=xb λy hy=>(xz (ho y hy) l2p h2p x2p lt (hno y hy) a b).1
  rw[<- e,ol];grind
 have hu:=w9 (t:=h1) (n:=h2) (ls:=pre++post) λy hy=>(xz (ho y hy) l2p h2p h2p lt (hno y hy) lt (NR _)).2
 have hsg:sg c=1\/sg c = -1:=by
  rcases Pc hc with z |z
  ·right;unfold sg;rw[if_pos z]
  ·left;unfold sg;rw[if_neg (by omega),if_pos z]
 have e1:sg c*spr h1 h2 (pre++post)=1\/sg c*spr h1 h2 (pre++post) = -1:=by rcases hsg with z |z<;>rcases hu with y |y<;>rw[z,y]<;>decide
 generalize sg c*spr h1 h2 (pre++post)=ε at val e1
 refine⟨ε,e1,λx1 x2 x2p a b hU=>?_,λx1 x2 x2p a b hU=>?_,λx1 x2 y1 y2 x2p y2p a b hU hlt=>?_,λx1 x2 y1 y2 x2p y2p e hU=>?_,hin.1,λz=>?_⟩
 ·rw[val x1 x2 x2p a b];rcases fF s x1 x2 with z |z |z
  ·rw[z];omega
  ·rw[z]at hU;exact absurd hU (by decide)
  ·rw[z]at hU;exact absurd hU (by decide)
 ·rw[val x1 x2 x2p a b];rcases fF s x1 x2 with z |z |z
  ·exact absurd (show 0<aq s x1 x2 by omega) hU
  ·rw[z];right;omega
  ·rw[z];left;omega
 ·have hU':aq s x1 x2<=0:=Ou.mp hU;have z:=gt hs x2p y2p hlt hU'
  have a':l1*y2<y1*l2:=by
   refine ip x2p ?_;have q1:=NU a y2p;have q2:=NU hlt l2p;have e2:l1*y2*x2=l1*x2*y2:=by grind
   have e3:x1*l2*y2=x1*y2*l2:=by grind
   have e4:y1*l2*x2=y1*x2*l2:=by grind
   omega
  rw[val y1 y2 y2p a' b,z];omega
 ·show 0<aq s y1 y2;rw[<- oR s x2p y2p e];exact hU
 ·have z':0<aq s h1 h2:=z;omega
noncomputable def gR(f0:List Int):List Int:=if cf f0 1=0 then ax f0 else[]
structure Nar1(fs:List (List Int))(s0:List Int)(l1 l2 h1 h2 x1 x2 y1 y2:Int)(kb:Nat):Prop where
 ends:EndsG 5864 x1 x2 y1 y2
 ux:0<aq s0 x1 x2
 uy:aq s0 y1 y2<=0
 lo:l1*x2<=x1*l2
 hi:y1*h2<=h1*y2
 wide:(y1*x2-x1*y2)*(8*ar (prQ fs)*2^kb)<=1*(x2*y2)
def qN(C:Addr):Sp:=λvs H Q _=>∃(a p x y:Addr) (fs:List (List Int)) (f0 s0:List Int) (l1 l2 h1 h2 x1 x2 y1 y2:Int) (kb:Nat),vs=[.ref a,.ref p]/\H a=some (.lst ((prQ fs).map V.int))/\H p=some (.tup [.ref x,.ref y])/\RA C H x x1 x2/\RA C H y y1 y2/\Whl fs/\OneS fs f0 s0 l1 l2 h1 h2/\Nar1 fs s0 l1 l2 h1 h2 x1 x2 y1 y2 kb/\mkL H Q (gR f0)
theorem Fc{C f:Addr}{fd:FuncData}(F:Fun K "line_of" "line_of" jz f fd)(T:Txt K mg)(R:RCI K mg C){bA:Addr}{bz:FuncData}{bC:List Value}(bF:KCal P w K mg base 2 C "Ratio" ["self","top","bottom"] (cD C) bA bz bC [.int 1]){JA:Addr}{IQ:FuncData}(Mj:Cal P w K mg base 5 "times_floor" ["factor","ratio"] (qw C) JA IQ){uF:Addr}{uf:FuncData}(wk:MCal P w K mg base 2 C "against" ["self","other"] (oO C) uF uf){ib:Addr}{g9:FuncData}(iH:Cal P w K mg base 2 "sign_at" ["row","ratio"] (iW C) ib g9):FnOk P w K mg base CX0 6 f fd ["whole","span"] (qN C):=by
 obtain⟨bn,bj,bh,bV,cu,cs⟩:=bF;obtain⟨LH,GD,Hr,KN⟩:=Mj;obtain⟨vQ,r8,vq⟩:=wk;obtain⟨iC,gM,gU,iw⟩:=iH;refine F.ok sc_line_of (λvs H Q E h=>?_) (λcdv A outer s H vs Q E hr h=>?_)
 ·obtain⟨a,p,x,y,fs,f0,s0,l1,l2,h1,h2,x1,x2,y1,y2,kb,rfl,_⟩:=h;rfl
 ·obtain⟨a,p,x,y,fs,f0,s0,l1,l2,h1,h2,x1,x2,y1,y2,kb,rfl,hA,hp,hx,hy,hW,hO,hN,k⟩:=h
  refine⟨_,(af (ak (i:=2) sc_line_of.nd rfl (Or.inl rfl) (cv bj bn (hr.mono) rfl bh bV .nil ah (aa (al LH (hr.mono) rfl GD Hr KN .nil ah (aa (aH (bK (K:=K) rfl) (pv 0) (bJ bG ad) (λ_ _=>rfl)) (aa (aH (aY (K:=K) rfl) (pv 1) ad (λ_ _=>rfl)) ac))) (aa (aH (bK (K:=K) rfl) (pv 0) (bJ bG ad) (λ_ _=>rfl)) ac))))
   (af (aS (PW.pt (fK (aJ gI (eY (pv 2) R.cl r8 vQ (hr.mono) vq .nil ah (aa (aH (aY (K:=K) rfl) (pv 1) ad (λ_ _=>rfl)) ac)) ad (aG _)) (km (aJ cI (al iC (hr.mono) rfl gM gU iw .nil ah (aa (pv 0) (aa (pv 2) ac))) ad (aG _)))))
     (ai (ay (aV (aa (bJ bG (aP (K:=K) rfl (pv 2) rfl)) (aa (aP (K:=K) rfl (pv 2) rfl) ac)))))
     aU)
   (ai (ay (aV ac))))),?_⟩
  have big:=sizeLine_eq;have en:=hN.ends;have hb:=hW.bits;have hP:=hW.fam.pln;have l7:=hW.l7;have bl:=sL hb;have lp:=hP.pos;have B1:(1:Int)<=2^kb:=by have:=NI (n:=2) (m:=kb) (by decide);omega
  refine av ⟨_,rfl,_,rfl,a,_,_,_,rfl,rfl,SqL.of hA,sM hP.ne,_,rfl,p,_,_,_,rfl,rfl,SqT.of hp,rfl,y,ar (prQ fs),y1,y2,rfl,hy,en.h2p,bl.mono,en.bh1.mono,en.bh2.mono,λH1 s1=>?_⟩;have bm:Bits 6300 (ar (prQ fs)*y1/y2):=Bits.of_le ((bl.mul en.bh1).mono (k:=6300) (by decide)) (Int.natAbs_ediv_le_natAbs _ _);have l0:ar (prQ fs)≠0:=by omega
  have two:(gR f0=[-(rt (ar (prQ fs)*y1/y2) (ar (prQ fs))),rb (ar (prQ fs)*y1/y2) (ar (prQ fs))]/\x1*rb (ar (prQ fs)*y1/y2) (ar (prQ fs))<rt (ar (prQ fs)*y1/y2) (ar (prQ fs))*x2/\hv (rt (ar (prQ fs)*y1/y2) (ar (prQ fs))) (rb (ar (prQ fs)*y1/y2) (ar (prQ fs))) (prQ fs)=0)\/(gR f0=[]/\(x1*rb (ar (prQ fs)*y1/y2) (ar (prQ fs))<rt (ar (prQ fs)*y1/y2) (ar (prQ fs))*x2->hv (rt (ar (prQ fs)*y1/y2) (ar (prQ fs))) (rb (ar (prQ fs)*y1/y2) (ar (prQ fs))) (prQ fs)≠0)):=by
   obtain⟨u,e,b,σ,rfl,rfl,hb1,hNS,hc⟩:=hO.cases;rcases hc with⟨rfl,rfl⟩ |⟨hσ,he⟩
   ·left;have e0:gR [u,0,b]=ax [u,0,b]:=if_pos rfl;rw[e0];exact hO.line en.l2p en.h2p B1 hN.ux hN.uy en.lt hN.wide
   ·right;refine⟨if_neg (show ¬e=0 by omega),λhlt=>?_⟩;have hpos:=dI (t:=ar (prQ fs)*y1/y2) l0;have hc:=eU (t:=ar (prQ fs)*y1/y2) l0;have hfl:ar (prQ fs)*y1/y2*y2<=ar (prQ fs)*y1:=Int.ediv_mul_le _ (by have:=en.h2p;omega);generalize rt (ar (prQ fs)*y1/y2) (ar (prQ fs))=m1 at *
    generalize rb (ar (prQ fs)*y1/y2) (ar (prQ fs))=m2 at *
    generalize ar (prQ fs)*y1/y2=Z at *
    have my:m1*y2<=y1*m2:=by
     refine kO lp ?_;have:=Ny hfl (M7 hpos);have e1:m1*y2*ar (prQ fs)=Z*y2*m2:=by rw[Int.mul_right_comm,hc];grind
     have e2:y1*m2*ar (prQ fs)=ar (prQ fs)*y1*m2:=by grind
     omega
    refine hO.none rfl hNS he hpos ?_ ?_
    ·refine ip en.l2p ?_;have q1:=Ny hN.lo (M7 hpos);have q2:=NU hlt hO.l2p;have e1:l1*m2*x2=l1*x2*m2:=by grind
     have e2:x1*l2*m2=x1*m2*l2:=by grind
     have e3:m1*l2*x2=m1*x2*l2:=by grind
     omega
    ·refine kO en.h2p ?_;have q1:=Ny hN.hi (M7 hpos);have q2:=Ny my (M7 hO.h2p);have e1:m1*h2*y2=m1*y2*h2:=by grind
     have e2:y1*m2*h2=y1*h2*m2:=by grind
     have e3:h1*m2*y2=h1*y2*m2:=by grind
     omega
  generalize ar (prQ fs)*y1/y2=m at bm two ⊢
  refine⟨_,rfl,_,rfl,a,_,_,_,rfl,rfl,SqL.of (s1 _ _ hA),sM hP.ne,cE l0 (bl.mono) λr H2 s2 hr2 hR=>?_⟩;have t2:=s1.trans s2;obtain⟨dr,hR'⟩:=id hR
  have sgl:∀c d:Int,sg (c-d)>0↔d<c:=λc d=>by unfold sg;split<;>(try split)<;>constructor<;>intro z<;>omega
  refine bI (fJ ⟨_,rfl,r,dr,_,rfl,hR',fS _ _ pA.1 pA.2,_,rfl,p,_,_,_,rfl,rfl,SqT.of (t2 _ _ hp),rfl,r,x,_,_,x1,x2,rfl,hR,hx.same t2,(fG l0 bm).mono,(eT l0 bl).mono,en.bl1.mono,en.bl2.mono,_,_,rfl,rfl,_,rfl,aR (λh0=>?_) (λh0=>?_)⟩)
  ·have h0':=(sgl _ _).mp h0;refine⟨_,rfl,_,rfl,a,r,prQ fs,_,_,⟨rfl,t2 _ _ hA,hR,by omega,hb.mono,(fG l0 bm).mono,(eT l0 bl).mono⟩,λH3 s3=>⟨_,_,rfl,rfl,_,rfl,aR (λh3=>?_) (λh3=>?_)⟩⟩
   ·have h3':sg (hv (rt m (ar (prQ fs))) (rb m (ar (prQ fs))) (prQ fs))=0:=h3;rcases two with⟨z1,_,_⟩ |⟨_,z2⟩
    ·have hR3:=s3 _ _ hR';refine aX ⟨_,rfl,r,C,dr,_,_,rfl,hR3,R.cl,R.nT,cF _ _,_,rfl,_,rfl,r,C,dr,_,_,rfl,hR3,R.cl,R.nB,bM _ _,by show 2<=sizeLine;omega,λq hq=>?_⟩;refine k q _ ((t2.trans s3).then_new hq) ((t2.trans s3).free hq) ?_;rw[ao,z1];rfl
    ·exact absurd ((q5 _).mp h3') (z2 h0')
   ·rcases two with⟨_,_,z3⟩ |⟨z1,_⟩
    ·exact absurd ((q5 _).mpr z3) h3
    ·exact aX ⟨M9 _,λq hq=>k q _ ((t2.trans s3).then_new hq) ((t2.trans s3).free hq) (by rw[ao,z1];rfl)⟩
  ·rcases two with⟨_,z2,_⟩ |⟨z1,_⟩
   ·exact absurd ((sgl _ _).mpr z2) h0
   ·exact da (aX ⟨M9 _,λq hq=>k q _ (t2.then_new hq) (t2.free hq) (by rw[ao,z1];rfl)⟩)
theorem Ds{fs:List (List Int)}{l1 l2 h1 h2:Int}(hF:Fam fs)(l2p:0<l2)(h2p:0<h2)(lt:l1*h2<h1*l2)(h:bE (aD fs) l1 l2 h1 h2=1):∃s ε,s∈aD fs/\0<aq s l1 l2/\aq s h1 h2<=0/\RootU (prQ fs) l1 l2 h1 h2 ε (λt n=>0<aq s t n):=by obtain⟨pre,s,post,e,hin,hno⟩:=uS h;obtain⟨ε,hr⟩:=Dq (c:=1) hF.q (by decide) e l2p h2p lt hin hno;rw[show ae [1] (aL [1] (fs.map ax))=prQ fs from hF.one]at hr;exact⟨s,ε,by rw[e];simp,hin.1,hin.2,hr⟩
def iX:Sp:=λ_ _ _ _=>False
theorem EJ{f:Addr}{fd:FuncData}(F:Fun K "square_of" "square_of" jb f fd)(T:Txt K mg):FnOk P w K mg base CX0 1 f fd ["whole","span","other"] iX:=F.ok CF (λ_ _ _ _ h=>h.elim) (λ_ _ _ _ _ _ _ _ _ h=>h.elim)
theorem Fj{f:Addr}{fd:FuncData}(F:Fun K "divides" "divides" jF f fd)(T:Txt K mg):FnOk P w K mg base CX0 1 f fd ["divisor","row"] iX:=F.ok CS (λ_ _ _ _ h=>h.elim) (λ_ _ _ _ _ _ _ _ _ h=>h.elim)
def qL(C:Addr):Sp:=λvs H Q _=>∃(a l h:Addr) (fs:List (List Int)) (f0 s0:List Int) (l1 l2 h1 h2:Int),vs=[.ref a,.ref l,.ref h]/\H a=some (.lst ((prQ fs).map V.int))/\RA C H l l1 l2/\RA C H h h1 h2/\Whl fs/\OneS fs f0 s0 l1 l2 h1 h2/\bE (aD fs) l1 l2 h1 h2=1/\EndsG 1010 l1 l2 h1 h2/\cf f0 1=0/\mkL H Q (ax f0)
theorem Fd{C f:Addr}{fd:FuncData}(F:Fun K "least" "least" jA f fd)(T:Txt K mg){mX:Addr}{mR:FuncData}(nS:Cal P w K mg base 34 "plain" ["row"] ll mX mR){dU:Addr}{dS:FuncData}(dY:Cal P w K mg base 1 "degree" ["row"] fE dU dS){JS:Addr}{Jg:FuncData}(MD:Cal P w K mg base 4 "fine_width" ["whole"] (qQ C) JS Jg){ut:Addr}{tU:FuncData}(v7:Cal P w K mg base 6 "narrowed" ["row","low","high","width"] (oF C) ut tU){JN:Addr}{Jb:FuncData}(Mx:Cal P w K mg base 6 "line_of" ["whole","span"] (qN C) JN Jb){uz:Addr}{tZ:FuncData}(wb:Cal P w K mg base 36 "cells" ["row"] (oN C) uz tZ){JD:Addr}{IT:FuncData}(Mn:Cal P w K mg base 1 "square_of" ["whole","span","other"] iX JD IT){JT:Addr}{Jh:FuncData}(ME:Cal P w K mg base 1 "divides" ["divisor","row"] iX JT Jh){uu:Addr}{tV:FuncData}(v8:Cal P w K mg base 4 "count" ["row","low","high"] (oK C) uu tV){mV:Addr}{mP:FuncData}(nQ:Cal P w K mg base 35 "row_of" ["polynomial"] lj mV mP):FnOk P w K mg base CX0 37 f fd ["row","low","high"] (qL C):=by
 obtain⟨iE,gO,gX,iy⟩:=nS;obtain⟨cU,cR,cS,cT⟩:=dY;obtain⟨L4,GW,HI,Le⟩:=MD;obtain⟨ql,pK,pN,qj⟩:=v7;obtain⟨LV,GQ,HD,K9⟩:=Mx;obtain⟨vL,sF,sX,vk⟩:=wb;obtain⟨LL,GH,Hu,KQ⟩:=Mn;obtain⟨L5,GX,HJ,Lf⟩:=ME;obtain⟨vK,sE,sW,vj⟩:=v8;obtain⟨nI,mv,mF,nq⟩:=nQ;refine F.ok sc_least (λvs H Q E h=>?_) (λcdv A outer s H vs Q E hr h=>?_)
 ·obtain⟨a,l,h,fs,f0,s0,l1,l2,h1,h2,rfl,_⟩:=h;rfl
 ·obtain⟨a,l,h,fs,f0,s0,l1,l2,h1,h2,rfl,hA,hl,hh,hW,hO,hcn,en,hlin,k⟩:=h;have hu:=hr.units;have big:=sizeLine_eq;have hF:=hW.fam;have hP:=hF.pln;have l7:=hW.l7;have l2':=hW.l2;have hml:((prQ fs).map V.int).length=(prQ fs).length:=MY _;have pf0:=fT (hF.fac f0 hO.mem);have hL:=hP.pos
  refine⟨_,(af (ak (i:=3) sc_least.nd rfl (Or.inl rfl) (al iE (hr.mono) rfl gO gX iy .nil ah (aa (pv 0) ac)))
   (af (aS (aJ dc (al cU (hr.mono) rfl cR cS cT .nil ah (aa (pv 3) ac)) ad (aG _))
     (ai (ay (pv 3)))
     aU)
   (af (ak (i:=4) sc_least.nd rfl (Or.inl rfl) (al L4 (hr.mono) rfl GW HI Le .nil ah (aa (pv 3) ac)))
   (af (ak (i:=5) sc_least.nd rfl (Or.inl rfl) (al ql (hr.mono) rfl pK pN qj .nil ah (aa (pv 3) (aa (pv 1) (aa (pv 2) (aa (pv 4) ac))))))
   (af (ak (i:=6) sc_least.nd rfl (Or.inl rfl) (al LV (hr.mono) rfl GQ HD K9 .nil ah (aa (pv 3) (aa (pv 5) ac))))
   (af (aS (aJ (ma (K:=K) rfl hu) (pv 6) (aV ac) (aG _))
     (ai (ay (pv 6)))
     aU)
   (af (aS (aJ cI (al cU (hr.mono) rfl cR cS cT .nil ah (aa (pv 3) ac)) ad (aG _))
     (ai (ay (pv 3)))
     aU)
   (af (cL PassesOwn.never rfl (dL (K:=K) rfl (al vL (hr.mono) rfl sF sX vk .nil ah (aa (pv 3) ac))) (bw (i:=7) sc_least.nd rfl (Or.inl rfl))
     (af (ak (i:=8) sc_least.nd rfl (Or.inl rfl) (al LL (hr.mono) rfl GH Hu KQ .nil ah (aa (pv 3) (aa (pv 5) (aa (al ql (hr.mono) rfl pK pN qj .nil ah (aa (pv 3) (aa (aH (aY (K:=K) rfl) (pv 7) ad (λ_ _=>rfl)) (aa (aH (aY (K:=K) rfl) (pv 7) ad (λ_ _=>rfl)) (aa (pv 4) ac))))) ac)))))
       (ai (aS (PW.pt (fK (eV (al L5 (hr.mono) rfl GX HJ Lf .nil ah (aa (pv 8) (aa (pv 3) ac)))) (km (aJ cI (al vK (hr.mono) rfl sE sW vj .nil ah (aa (al nI (hr.mono) rfl mv mF nq .nil ah (aa (pv 8) ac)) (aa (pv 1) (aa (pv 2) ac)))) ad (aG _)))))
         (ai (ay (pv 8)))
         aU))))
   (ai (ay (pv 3))))))))))),?_⟩
  refine av ⟨_,rfl,a,prQ fs,rfl,hA,hP.tr,by omega,λp H1 s1 hp e1=>?_⟩;rw[hP.plain]at e1;refine bI ⟨_,rfl,p,_,rfl,e1,_,_,rfl,rfl,_,rfl,aR (λh0=>?_) (λh0=>?_)⟩
  ·have h0':((prQ fs).map V.int).length-(1:Int)<2:=h0;rw[hml]at h0';have e:=Bh hF hO.mem (by have:=pf0.two;omega);rw[e]at e1;exact⟨_,rfl,k p H1 s1 hp e1⟩
  refine av ⟨_,rfl,p,fs,rfl,e1,hW,λwd H2 kb hk hB s2 hwd hWd hD bD=>?_⟩;have t2:=s1.trans s2;have e2:=s2 _ _ e1;obtain⟨sx,ε,hsx,hx1,hx2,ru⟩:=Ds hF en.l2p en.h2p en.lt hcn;obtain rfl:=hO.only sx hsx hx1 hx2;refine av ⟨_,rfl,_,rfl,_,rfl,_,rfl,p,l,h,wd,prQ fs,l1,l2,h1,h2,1,8*ar (prQ fs)*2^kb,1010,810,ε,_,rfl,e2,hP.tr,hP.ne,by omega,hW.bits.mono,hl.same t2,hh.same t2,hWd,en,by decide,hD,b1k (by decide),bD,by decide,by decide,by decide,ru,λps x y H3 n pl x1 x2 y1 y2 s3 hps e3 hx hy nar=>?_⟩;have t3:=t2.trans s3;have ep3:=s3 _ _ e2;have N1:Nar1 fs sx l1 l2 h1 h2 x1 x2 y1 y2 kb:=⟨nar.ends,nar.ux,Ou.mp nar.uy,nar.lo,nar.hi,nar.wide⟩;refine av ⟨_,rfl,_,rfl,p,ps,x,y,fs,f0,sx,l1,l2,h1,h2,x1,x2,y1,y2,kb,rfl,ep3,e3,hx,hy,hW,hO,N1,λpl' H4 s4 hpl e4=>?_⟩;refine bI ⟨_,rfl,M9 _,λp0 hp0=>?_⟩;have s5:=Same.upd_new (o:=.lst []) hp0;obtain⟨u,e,b,σ,rfl,rfl,hb1,hNS,hc⟩:=hO.cases;have hne:ax [u,e,b]≠[]:=pf0.pln.ne;refine⟨pl',p0,gR [u,e,b],[],rfl,rfl,SqL.of (s5 _ _ e4),SqL.of ao,_,rfl,cK (λh3=>?_) (λh3=>?_)⟩
  ·have h3':gR [u,e,b]≠[]:=h3
   have e0:gR [u,e,b]=ax [u,e,b]:=by
    by_cases z:e=0
    ·exact if_pos z
    ·exact absurd (if_neg z) h3'
   rw[e0]at e4;exact⟨_,rfl,k pl' _ (t3.trans (s4.trans s5)) (t3.free hpl) (s5 _ _ e4)⟩
  exact absurd (show ax [u,e,b]=[]from(if_pos (show cf [u,e,b] 1=0 from hlin)).symm.trans h3) hne
structure OneW(fs:List (List Int))(f0 s0:List Int)(l1 l2 h1 h2:Int):Prop where
 whl:Whl fs
 one:OneS fs f0 s0 l1 l2 h1 h2
 cnt:bE (aD fs) l1 l2 h1 h2=1
 en:EndsG 1010 l1 l2 h1 h2
 lin:cf f0 1=0
def oE(C CN:Addr):Sp:=λvs H Q _=>∃(a l h:Addr) (fs:List (List Int)) (f0 s0:List Int) (l1 l2 h1 h2:Int),vs=[.ref a,.ref l,.ref h]/\H a=some (.lst ((prQ fs).map V.int))/\RA C H l l1 l2/\RA C H h h1 h2/\OneW fs f0 s0 l1 l2 h1 h2/\∀(x q:Addr) (H':Hp),Same H H'->H x=none->NA CN H' x q l h->H' q=some (.lst ((ax f0).map V.int))->H q=none->Q (.ref x) H'
theorem E4{C CN f:Addr}{fd:FuncData}(F:Fun K "number_in" "number_in" jq f fd)(T:Txt K mg)(R:RCI K mg C){JO:Addr}{Jc:FuncData}(Mz:Cal P w K mg base 37 "least" ["row","low","high"] (qL C) JO Jc){ib:Addr}{g9:FuncData}(iH:Cal P w K mg base 2 "sign_at" ["row","ratio"] (iW C) ib g9){ut:Addr}{tU:FuncData}(v7:Cal P w K mg base 6 "narrowed" ["row","low","high","width"] (oF C) ut tU){uE:Addr}{ue:FuncData}(wj:MCal P w K mg base 4 C "minus" ["self","other"] (oG C) uE ue){m4:Addr}{mU:FuncData}(nX:MCal P w K mg base 4 C "times" ["self","other"] (li C) m4 mU){bA:Addr}{bz:FuncData}{bC:List Value}(bF:KCal P w K mg base 2 C "Ratio" ["self","top","bottom"] (cD C) bA bz bC [.int 1]){J8:Addr}{Jv:FuncData}{Kj:List Value}(MR:KCal P w K mg base 1 CN "Number" ["self","row","low","high"] (oJ CN) J8 Jv Kj []):FnOk P w K mg base CX0 38 f fd ["simple","low","high"] (oE C CN):=by
 obtain⟨LW,GR,HE,La⟩:=Mz;obtain⟨iC,gM,gU,iw⟩:=iH;obtain⟨ql,pK,pN,qj⟩:=v7;obtain⟨vP,r6,vp⟩:=wj;obtain⟨nO,ml,nC⟩:=nX;obtain⟨bn,bj,bh,bV,cu,cs⟩:=bF;obtain⟨Mg,LC,G7,Lr,MX,MW⟩:=MR;refine F.ok sc_number_in (λvs H Q E h=>?_) (λcdv A outer s H vs Q E hr h=>?_)
 ·obtain⟨a,l,h,fs,f0,s0,l1,l2,h1,h2,rfl,_⟩:=h;rfl
 ·obtain⟨a,l,h,fs,f0,s0,l1,l2,h1,h2,rfl,hA,hl,hh,hN,k⟩:=h
  refine⟨_,(af (ak (i:=3) sc_number_in.nd rfl (Or.inl rfl) (al LW (hr.mono) rfl GR HE La .nil ah (aa (pv 0) (aa (pv 1) (aa (pv 2) ac)))))
   (af (ak (i:=4) sc_number_in.nd rfl (Or.inl rfl) (dM (aa (pv 1) (aa (pv 2) ac))))
   (af (eX PassesOwn.never (aJ cI (al iC (hr.mono) rfl gM gU iw .nil ah (aa (pv 3) (aa (aH (aY (K:=K) rfl) (pv 4) ad (λ_ _=>rfl)) ac))) ad (aG _))
     (af (ak (i:=5) sc_number_in.nd rfl (Or.inl rfl) (eY (eY (aH (aY (K:=K) rfl) (pv 4) ad (λ_ _=>rfl)) R.cl r6 vP (hr.mono) vp .nil ah (aa (aH (aY (K:=K) rfl) (pv 4) ad (λ_ _=>rfl)) ac)) R.cl ml nO (hr.mono) nC .nil ah (aa (cv bj bn (hr.mono) rfl bh bV .nil ah (aa ad (aa ad ac))) ac)))
       (ai (ak (i:=4) sc_number_in.nd rfl (Or.inl rfl) (al ql (hr.mono) rfl pK pN qj .nil ah (aa (pv 3) (aa (aH (aY (K:=K) rfl) (pv 4) ad (λ_ _=>rfl)) (aa (aH (aY (K:=K) rfl) (pv 4) ad (λ_ _=>rfl)) (aa (pv 5) ac)))))))))
   (ai (ay (cv LC Mg (hr.mono) rfl G7 Lr .nil ah (aa (pv 3) (aa (aH (aY (K:=K) rfl) (pv 4) ad (λ_ _=>rfl)) (aa (aH (aY (K:=K) rfl) (pv 4) ad (λ_ _=>rfl)) ac))))))))),?_⟩
  obtain⟨bS,lS⟩:=hN.whl.sh f0 hN.one.mem;refine av ⟨_,rfl,_,rfl,_,rfl,a,l,h,fs,f0,s0,l1,l2,h1,h2,rfl,hA,hl,hh,hN.whl,hN.one,hN.cnt,hN.en,hN.lin,λp H1 s1 hp e1=>?_⟩;refine av ⟨_,rfl,_,rfl,by show 2<=sizeLine;decide,λps hps=>?_⟩;have s2:=s1.then_new (o:=.tup [V.ref l,V.ref h]) hps;have q2:upd H1 ps (.tup [V.ref l,V.ref h]) ps=some (.tup [V.ref l,V.ref h]):=ao;have e2:=(Same.upd_new (o:=.tup [V.ref l,V.ref h]) hps) _ _ e1;generalize upd H1 ps (.tup [V.ref l,V.ref h])=H2 at s2 q2 e2 ⊢
  refine⟨λm σ' H'=>m=0/\(∃z5:Option V,σ'=[some (.ref a),some (.ref l),some (.ref h),some (.ref p),some (.ref ps),z5])/\H2=H',⟨0,rfl,⟨none,rfl⟩,rfl⟩,?_⟩;rintro m σ' H' ⟨rfl,⟨z5,rfl⟩,rfl⟩;refine⟨_,rfl,_,rfl,ps,_,_,_,rfl,rfl,SqT.of q2,rfl,p,l,ax f0,l1,l2,⟨rfl,e2,hl.same s2,by omega,bS.mono,hN.en.bl1.mono,hN.en.bl2.mono⟩,λH3 s3=>⟨_,_,rfl,rfl,_,rfl,aR (λh0=>absurd h0 hN.one.low) (λ_=>?_)⟩⟩;have q3:=s3 _ _ q2;have e3:=s3 _ _ e2;have t3:=s2.trans s3;dsimp only
  refine aX ⟨_,rfl,_,rfl,ps,_,_,_,rfl,rfl,SqT.of q3,rfl,_,rfl,ps,_,_,_,rfl,rfl,SqT.of q3,rfl,GA e3 λx q H4 s4 hx hNA hq hqn=>?_⟩;exact k x q H4 (t3.trans s4) (t3.free hx) hNA hq (t3.free hqn)
def XV(C:Addr)(att:Str)(v:Int)(H:Hp)(E:XK):Prop:=∀(H':Hp) (dx:Addr),Same H H'->H' dx=some (.xd [(att,V.int v)])->E (.ref C) (some dx) H'
theorem XV.step{C:Addr}{att:Str}{v:Int}{H H1:Hp}{E:XK}(h:XV C att v H E)(s:Same H H1):XV C att v H1 E:=λH' dx s' e=>h H' dx (s.trans s') e
theorem FI{CTooHigh f:Addr}{fd:FuncData}(F:Fun K "__init__" "TooHigh.__init__" j3 f fd)(T:Txt K mg)(hX:XCls K CTooHigh)(hN:NoAttr K CTooHigh "degree"):FnOk P w K mg base CX0 1 f fd ["self","degree"] (lg CTooHigh "degree"):=by
 refine F.ok Da (λvs H Q E h=>?_) (λcdv A outer s H vs Q E hr h=>?_)
 ·obtain⟨e,v,rfl,_⟩:=h;rfl
 ·obtain⟨e,v,rfl,he,k⟩:=h;refine⟨_,(ai (x6 (pv 0) (pv 1) rfl)),?_⟩;exact⟨_,rfl,_,rfl,e,CTooHigh,rfl,he,hX,hN,λdx h1 h2=>k dx h1 h2⟩
theorem FQ{CNoRoot f:Addr}{fd:FuncData}(F:Fun K "__init__" "NoRoot.__init__" ke f fd)(T:Txt K mg)(hX:XCls K CNoRoot)(hN:NoAttr K CNoRoot "many"):FnOk P w K mg base CX0 1 f fd ["self","many"] (lg CNoRoot "many"):=by
 refine F.ok Dh (λvs H Q E h=>?_) (λcdv A outer s H vs Q E hr h=>?_)
 ·obtain⟨e,v,rfl,_⟩:=h;rfl
 ·obtain⟨e,v,rfl,he,k⟩:=h;refine⟨_,(ai (x6 (pv 0) (pv 1) rfl)),?_⟩;exact⟨_,rfl,_,rfl,e,CNoRoot,rfl,he,hX,hN,λdx h1 h2=>k dx h1 h2⟩
def oA(CT:Addr):Sp:=λvs H Q E=>∃i:Int,vs=[.int i]/\(i<=8->Q .non H)/\(8<i->XV CT "degree" i H E)
theorem EY{CTooHigh f:Addr}{fd:FuncData}(F:Fun K "refuse_high" "refuse_high" jl f fd)(T:Txt K mg){J6:Addr}{Jt:FuncData}(C_TooHigh:XCal P w K mg base 1 CTooHigh "TooHigh" "degree" ["self","degree"] J6 Jt):FnOk P w K mg base (CXV P w) 3 f fd ["height"] (oA CTooHigh):=by
 obtain⟨tH,hHIGHEST⟩:=T.HIGHEST_;refine F.okV CL (λvs H Q E h=>?_) (λcdv A outer s H vs Q E hr h=>?_)
 ·obtain⟨i,rfl,_⟩:=h;rfl
 ·obtain⟨i,rfl,k1,k2⟩:=h
  refine⟨_,(ai (aS (aJ gI (pv 0) (pi (v:=.int 8) rfl hHIGHEST ⟨_,rfl⟩) (aG _))
   (ai (rA (C:=CTooHigh) rfl C_TooHigh.ow PySem.F.excBase_ValueError C_TooHigh.ok (hr.mono) C_TooHigh.bd C_TooHigh.kp (aa (pv 0) ac)))
   aU)),?_⟩
  refine lI ⟨_,rfl,_,_,rfl,rfl,_,rfl,aR (λh=>?_) (λh=>?_)⟩
  ·have h':i>8:=h;exact⟨_,rfl,_,rfl,λd hd=>k2 (by omega) _ d (Same.upd_new hd) ao⟩
  ·have h':¬i>8:=h;exact k1 (by omega)
theorem zm{os:List Int}{l k k':Nat}(h:isB os l k)(h':isB os l k'):k=k':=zl h h'
def NbE(C:Addr)(H:Hp)(lo:V)(d l1 l2:Int):Prop:=(lo=.non/\l1=d/\l2=1)\/∃p,lo=.ref p/\RA C H p l1 l2
def eQ(C CN CR CG:Addr):Sp:=λvs H Q E=>∃(a:Addr) (lo hi:V) (kp:List Int) (c:Int) (us:List (List Int×Nat)) (fs:List (List Int)) (l1 l2 h1 h2:Int) (kb:Nat),vs=[.ref a,lo,hi]/\H a=some (.lst (kp.map V.int))/\Made kp c us/\flt us=prQ fs/\WhlB fs/\isB (kp.take (kp.length-1)) (ar kp).natAbs kb/\NbE C H lo (-((2^kb:Nat):Int)) l1 l2/\NbE C H hi ((2^kb:Nat):Int) h1 h2/\EndB 980 l1 l2 h1 h2 /\
    (dg fs l1 l2 h1 h2≠1->XV CR "many" (dg fs l1 l2 h1 h2) H E) /\
    (dg fs l1 l2 h1 h2=1->Gre (prQ fs)->XG CG H E) /\
    (dg fs l1 l2 h1 h2=1->¬Gre (prQ fs)->∃f0 s0,OneW fs f0 s0 l1 l2 h1 h2/\∀(x q l h:Addr) (H':Hp),Same H H'->H x=none->NA CN H' x q l h->RA C H' l l1 l2->RA C H' h h1 h2->H' q=some (.lst ((ax f0).map V.int))->H q=none->Q (.ref x) H')
theorem E5{C CN CNoRoot CTooHigh CTooGreat f:Addr}{dV:Value}{fd:FuncData}(F:FunD K "number" "number" jr dV f fd)(T:Txt K mg)(R:RCI K mg C){uo:Addr}{tQ:FuncData}(v4:CalV P w K mg base 3 "refuse_high" ["height"] (oA CTooHigh) uo tQ){dU:Addr}{dS:FuncData}(dY:Cal P w K mg base 1 "degree" ["row"] fE dU dS){bA:Addr}{bz:FuncData}{bC:List Value}(bF:KCal P w K mg base 2 C "Ratio" ["self","top","bottom"] (cD C) bA bz bC [.int 1]){mZ:Addr}{mT:FuncData}(nV:Cal P w K mg base 1 "bound" ["row"] (lv K) mZ mT){ui:Addr}{tK:FuncData}(vW:Cal P w K mg base 36 "without_squares" ["row"] oq ui tK){JL:Addr}{I9:FuncData}(Mv:Cal P w K mg base 36 "many_within" ["simple","low","high"] (qG C) JL I9){uq:Addr}{tR:FuncData}(v5:CalV P w K mg base 1 "refuse_great" ["row"] (oB CTooGreat) uq tR){ur:Addr}{tT:FuncData}(v6:Cal P w K mg base 38 "number_in" ["simple","low","high"] (oE C CN) ur tT){uG:Addr}{ug:FuncData}(C_NoRoot:XCal P w K mg base 1 CNoRoot "NoRoot" "many" ["self","many"] uG ug):FnOk P w K mg base (CXV P w) 39 f fd ["row","low","high"] (eQ C CN CNoRoot CTooGreat):=by
 obtain⟨vH,sy,sT,vg⟩:=v4;obtain⟨cU,cR,cS,cT⟩:=dY;obtain⟨bn,bj,bh,bV,cu,cs⟩:=bF;obtain⟨iF,gP,gY,iz⟩:=nV;obtain⟨vD,sj,sP,va⟩:=vW;obtain⟨LS,GO,HB,KZ⟩:=Mv;obtain⟨vI,sC,sU,vh⟩:=v5;obtain⟨vJ,sD,sV,vi⟩:=v6;refine F.okV sc_number (λvs H Q E h=>?_) (λcdv A outer s H vs Q E hr h=>?_)
 ·obtain⟨a,lo,hi,kp,c,us,fs,l1,l2,h1,h2,kb,rfl,_⟩:=h;rfl
 ·obtain⟨a,lo,hi,kp,c,us,fs,l1,l2,h1,h2,kb,rfl,hA,hM,hfl,hW,hB,hlo,hhi,en,kN,kG,k1⟩:=h;have hml:(kp.map V.int).length=kp.length:=MY _;have l9:=hM.len.1;have l2':=hM.one
  refine⟨_,(af (d8 (al vH (hr.mono) rfl sy sT vg .nil (fc (λ_ _ _ z=>z)) (aa (al cU (hr.mono) rfl cR cS cT .nil ah (aa (pv 0) ac)) ac)))
   (af (aS (aJ dc (al cU (hr.mono) rfl cR cS cT .nil ah (aa (pv 0) ac)) ad (aG _))
     (ai (rA (C:=CNoRoot) rfl C_NoRoot.ow PySem.F.excBase_ValueError C_NoRoot.ok (hr.mono) C_NoRoot.bd C_NoRoot.kp (aa ad ac)))
     aU)
   (af (ak (i:=3) sc_number.nd rfl (Or.inl rfl) (rJ (aJ yn (pv 1) ky (aG _)) (cv bj bn (hr.mono) rfl bh cu cs ah (aa (bJ bG (al iF (hr.mono) rfl gP gY iz .nil ah (aa (pv 0) ac))) ac)) (pv 1)))
   (af (ak (i:=4) sc_number.nd rfl (Or.inl rfl) (rJ (aJ yn (pv 2) ky (aG _)) (cv bj bn (hr.mono) rfl bh cu cs ah (aa (al iF (hr.mono) rfl gP gY iz .nil ah (aa (pv 0) ac)) ac)) (pv 2)))
   (af (ak (i:=5) sc_number.nd rfl (Or.inl rfl) (al vD (hr.mono) rfl sj sP va .nil ah (aa (pv 0) ac)))
   (af (ak (i:=6) sc_number.nd rfl (Or.inl rfl) (al LS (hr.mono) rfl GO HB KZ .nil ah (aa (pv 5) (aa (pv 3) (aa (pv 4) ac)))))
   (af (aS (aJ fL (pv 6) ad (aG _))
     (ai (rA (C:=CNoRoot) rfl C_NoRoot.ow PySem.F.excBase_ValueError C_NoRoot.ok (hr.mono) C_NoRoot.bd C_NoRoot.kp (aa (pv 6) ac)))
     aU)
   (af (d8 (al vI (hr.mono) rfl sC sU vh .nil (fc (λ_ _ _ z=>z)) (aa (pv 5) ac)))
   (ai (ay (al vJ (hr.mono) rfl sD sV vi .nil ah (aa (pv 5) (aa (pv 3) (aa (pv 4) ac)))))))))))))),?_⟩
  refine fH ⟨_,rfl,a,_,rfl,hA,_,rfl,λh8=>?_,λh8=>?_⟩
  rotate_left
  ·rw[hml]at h8;omega
  refine bI ⟨_,rfl,a,_,rfl,hA,_,_,rfl,rfl,_,rfl,aR (λh0=>absurd (show((kp.map V.int).length:Int)-1<1 from h0) (by rw[hml];omega)) (λh0=>?_)⟩;have l3:=hW.l3;obtain⟨tW,nW,_⟩:=eN hM.use hM.c0;rw[<- hM.is]at tW nW;have bW:=hM.len.2.2.2;refine gz (λσ' H'=>∃l:Addr,σ'=[some (.ref a),some lo,some hi,some (.ref l),none,none,none]/\Same H H'/\RA C H' l l1 l2) ?_ (λrest=>?_)
  rotate_left
  ·refine cP ⟨_,rfl,rfl,_,rfl,?_⟩;rcases hlo with⟨rfl,rfl,rfl⟩ |⟨p,rfl,hp⟩
   ·refine dA ⟨_,rfl,a,kp,rfl,SqL.of hA,tW,nW,by omega,bW.mono,λk H2 hk hk' s2=>?_⟩;obtain rfl:=zm hB hk';refine⟨_,rfl,cE (t := -((2^kb:Nat):Int)) (b:=1) (by decide) (b1k (by decide)) λpl H5 s5 hpl hRl=>?_⟩;rw[kf,ki]at hRl;exact rest _ _ ⟨pl,rfl,s2.trans s5,hRl⟩
   ·rw[decide_eq_false (by simp)];exact da ⟨_,rfl,rest _ _ ⟨p,rfl,Same.refl H,hp⟩⟩
  rintro σ' H1 ⟨l,rfl,s1,hl⟩;refine gz (λσ' H'=>∃h:Addr,σ'=[some (.ref a),some lo,some hi,some (.ref l),some (.ref h),none,none]/\Same H1 H'/\RA C H' h h1 h2) ?_ (λrest=>?_)
  rotate_left
  ·refine cP ⟨_,rfl,rfl,_,rfl,?_⟩;rcases hhi with⟨rfl,rfl,rfl⟩ |⟨p,rfl,hp⟩
   ·refine dA ⟨_,rfl,a,kp,rfl,SqL.of (s1 _ _ hA),tW,nW,by omega,bW.mono,λk H2 hk hk' s2=>?_⟩;obtain rfl:=zm hB hk';refine cE (t:=((2^kb:Nat):Int)) (b:=1) (by decide) (b1k (by decide)) λpl H5 s5 hpl hRl=>?_
    rw[kf,ki]at hRl;exact rest _ _ ⟨pl,rfl,s2.trans s5,hRl⟩
   ·rw[decide_eq_false (by simp)];exact da ⟨_,rfl,rest _ _ ⟨p,rfl,Same.refl H1,hp.same s1⟩⟩
  rintro σ' H2 ⟨h,rfl,s2,hh⟩;have t2:=s1.trans s2;have hl2:=hl.same s2;refine av ⟨_,rfl,a,kp,c,us,rfl,t2 _ _ hA,hM,λpw H3 s3 hpw e3=>?_⟩;rw[hfl]at e3;refine av ⟨_,rfl,_,rfl,_,rfl,pw,l,h,fs,l1,l2,h1,h2,rfl,e3,hW,hl2.same s3,hh.same s3,en,λH4 s4=>?_⟩;have e4:=s4 _ _ e3;have t4:=(t2.trans s3).trans s4;refine bI ⟨_,rfl,_,_,rfl,rfl,_,rfl,cK (λhn=>?_) (λhn=>?_)⟩
  ·exact⟨_,rfl,_,rfl,λd hd=>kN hn _ d (t4.then_new hd) ao⟩
  refine fH ⟨_,rfl,pw,prQ fs,rfl,e4,by omega,λhG H5 s5=>?_,λhG=>(kG hn hG).step t4⟩;obtain⟨f0,s0,hO,k⟩:=k1 hn hG;have t5:=t4.trans s5;have u5:=(s3.trans s4).trans s5;refine aX ⟨_,rfl,_,rfl,_,rfl,pw,l,h,fs,f0,s0,l1,l2,h1,h2,rfl,s5 _ _ e4,hl2.same u5,hh.same u5,hO,λx q H6 s6 hx hNA hq hqn=>?_⟩;exact k x q l h H6 (t5.trans s6) (t5.free hx) hNA (hl2.same (u5.trans s6)) (hh.same (u5.trans s6)) hq (t5.free hqn)
theorem kD{t b:Int}(hb:0<b)(hg:Nat.gcd t.natAbs b.natAbs=1):ax [t,0,b]=[-t,b]:=by
 have hr:aN t 0 b=[-t,b]:=by unfold aN;rw[if_pos rfl]
 show aC (aN t 0 b)=_;rw[hr];refine Pln.plain ⟨(tr_snoc (r:=[-t])).mpr (by omega),by simp,?_,hb⟩;show aw [-t,b]=1;unfold aw;rw[fR,fR,pX,OV,Int.natAbs_neg];exact hg
theorem yA{k:Int}(hk:1<=k):ax [0,-k,1]=[k,0,1]:=by
 have hr:aN 0 (-k) 1=[k,0,1]:=by unfold aN;rw[if_neg (by omega)];simp
 show aC (aN 0 (-k) 1)=_;rw[hr];refine Pln.plain ⟨(tr_snoc (r:=[k,0])).mpr (by decide),by simp,?_,(by decide:(0:Int)<1)⟩;show aw [k,0,1]=1;unfold aw;rw[fR,fR,fR,pX];exact OB _
theorem kJ{t b:Int}(h:1<=b):FacG [t,0,b]:=⟨t,0,b,rfl,trivial,trivial,trivial,trivial,h,trivial,.inl (NR _)⟩
theorem Ha{x:Int}(h:(x.natAbs:Int)<10^60*10^60):Bits 400 x:=by
 have h2:(10:Int)^60*10^60<=((2^400:Nat):Int):=by decide +kernel
 show x.natAbs<2^400;generalize (10:Int)^60*10^60=Y at h h2
 generalize 2^400=Z at h2 ⊢
 omega
theorem pp{ns:List Int}(h:¬Gre ns):AllB 400 ns:=λx hx=>Ha (Int.not_le.mp λz=>h ⟨x,hx,z⟩)
theorem iA{k:Nat}{x y:Int}(h1:Bits k x)(h2:Bits k y):AllB k [x,y]:=λz hz=>by
 rcases Na.mp hz with rfl |hz
 ·exact h1
 ·rw[Nb.mp hz];exact h2
structure Lin(t b:Int):Prop where
 b1:1<=b
 g:Nat.gcd t.natAbs b.natAbs=1
 bt:Bits 735 t
 bb:Bits 735 b
theorem Lin.fam{t b:Int}(h:Lin t b):Fam [[t,0,b]]:=⟨λf hf=>by rw[Nb.mp hf];exact kJ h.b1,by simp,by
 have:aD [[t,0,b]]=[[t,0,b,1]]:=by show spF [t,0,b]++[]=_;rw[fD];rfl
 rw[this];exact List.pairwise_singleton _ _⟩
theorem Lin.pr{t b:Int}(h:Lin t b):prQ [[t,0,b]]=[-t,b]:=by rw[lU h.fam];exact kD (by have:=h.b1;omega) h.g
theorem Lin.sp{t b:Int}:aD [[t,0,b]]=[[t,0,b,1]]:=by show spF [t,0,b]++[]=_;rw[fD];rfl
theorem Lin.whlB{t b:Int}(h:Lin t b):WhlB [[t,0,b]]:=⟨h.fam,by rw[h.pr];exact MZ 2,by rw[h.pr];exact(by decide:2<=3),by rw[h.pr];exact iA (h.bt.neg.mono) (h.bb.mono)⟩
theorem Lin.whl{t b:Int}(h:Lin t b)(hG:¬Gre (prQ [[t,0,b]])):Whl [[t,0,b]]:=by have hb:=pp hG;refine⟨h.fam,h.whlB.l2,h.whlB.l3,hb,λf hf=>?_⟩;rw[Nb.mp hf,<- lU h.fam];exact⟨hb,h.whlB.l3⟩
theorem Lin.one{t b:Int}(h:Lin t b){l1 l2 h1 h2:Int}(en:EndB 980 l1 l2 h1 h2)(hl:l1*b<t*l2)(hh:t*h2<=h1*b):dg [[t,0,b]] l1 l2 h1 h2=1/\(¬Gre (prQ [[t,0,b]])->OneW [[t,0,b]] [t,0,b] [t,0,b,1] l1 l2 h1 h2):=by
 have hb:=h.b1
 have lt:l1*h2<h1*l2:=by
  refine ip (show 0<b by omega) ?_;have q1:=NU hl en.h2p;have q2:=Ny hh (M7 en.l2p);have e1:l1*h2*b=l1*b*h2:=by grind
  have e2:h1*l2*b=h1*b*l2:=by grind
  have e3:t*l2*h2=t*h2*l2:=by grind
  omega
 have i1:0<aq [t,0,b,1] l1 l2:=side_line.mpr (by rw[Ni];exact hl);have i2:aq [t,0,b,1] h1 h2<=0:=Ou.mp λz=>by have:=side_line.mp z;rw[Ni]at this;omega
 have cn:bE (aD [[t,0,b]]) l1 l2 h1 h2=1:=by rw[Lin.sp,dj,if_pos ⟨i1,i2⟩];rfl
 refine⟨by unfold dg;rw[if_pos lt];exact cn,λhG=>⟨h.whl hG,⟨h.fam,Nb.mpr rfl,by rw[fD];simp,en.l2p,en.h2p,lt,⟨i1,i2⟩,λs hs _ _=>?_⟩,cn,(en.en lt).mono,rfl⟩⟩;rw[Lin.sp]at hs;exact Nb.mp hs
theorem Lin.zero{t b:Int}{l1 l2 h1 h2:Int}(hl:t*l2<=l1*b):dg [[t,0,b]] l1 l2 h1 h2=0:=by
 unfold dg;split
 ·rw[Lin.sp,dj,if_neg (λz=>by have:=side_line.mp z.1;rw[Ni]at this;omega)];rfl
 ·rfl
def qR(C CN CG:Addr):Sp:=λvs H Q E=>∃(r:Addr) (t b:Int),vs=[.ref r]/\RA C H r t b/\Lin t b/\(Gre [-t,b]->XG CG H E)/\(¬Gre [-t,b]->∀(x q:Addr) (H':Hp),Same H H'->(∃l h,NA CN H' x q l h)->H' q=some (.lst ([-t,b].map V.int))->Q (.ref x) H')
theorem Dr{kp:List Int}{t n:Int}{B:Nat}(hk:kp≠[])(tr:Tr kp)(hn:0<n)(hB:1<=B)(hb:∀x∈kp.take (kp.length-1),x.natAbs<=(B-1)*(ar kp).natAbs)(hz:hv t n kp=0) : -((B:Nat):Int)*n<t/\t<(B:Nat)*n:=by
 have key:¬B*n.toNat<=t.natAbs:=λh=>by
  obtain⟨os,z,e⟩:=(cx kp).resolve_left hk;have hl:ar kp≠0:=gS tr hk;rw[e]at hb hz;rw[e,cM]at hl;rw[cM]at hb;have ht2:(os++[z]).take ((os++[z]).length-1)=os:=by simp
  rw[ht2]at hb;have hc:=uW (n:=n.toNat) (by omega) hB h z os hb;rw[Int.toNat_of_nonneg (M7 hn),hz]at hc;have h1:0<z.natAbs:=NP.mpr hl;have h2:0<n.toNat^(os.length+1):=N3 (by omega);have h3:=Nat.mul_pos h1 h2;simp at hc
  omega
 have e:((B*n.toNat:Nat):Int)=(B:Nat)*n:=by rw[OJ,Int.toNat_of_nonneg (M7 hn)]
 have : -((B:Nat):Int)*n = -((B:Nat)*n):=Int.neg_mul _ _;omega
theorem Ho{kp:List Int}(h:AllB 970 kp)(tW:Tr kp)(nW:kp≠[]){kb:Nat}(hB:isB (kp.take (kp.length-1)) (ar kp).natAbs kb):kb<=972:=by
 rcases Nat.lt_or_ge kb 973 with z |z
 ·omega
 ·obtain⟨x,hx,h2⟩:=hB.2 972 (by omega);have h3:x.natAbs<2^970:=h x (O2 hx);have h4:2^970<=2^972-1:=by decide +kernel
  have h5:2^972-1<=(2^972-1)*(ar kp).natAbs:=Nat.le_mul_of_pos_right _ (NP.mpr (gS tW nW));omega
theorem y9{t b:Int}(h:Lin t b){m:Nat}(hm:1<=m):Use [([-t,b],m)]:=⟨λp hp=>by
 rw[Nb.mp hp];have:=fT (kJ (t:=t) h.b1);rw[kD (by have:=h.b1;omega) h.g]at this
 exact this,λp hp=>by rw[Nb.mp hp];exact hm,by simp⟩
theorem pM{t b:Int}(h:Lin t b)(m:Nat):flt [([-t,b],m)]=prQ [[t,0,b]]:=by rw[h.pr];show ae (pw [-t,b] 1) [1]=_;rw[cz,dJ]
theorem tf(os:List Int){l:Nat}(hl:0<l):∃k,isB os l k:=by
 have up:∃k,∀x∈os,x.natAbs<=(2^k-1)*l:=by
  induction os with
  |nil=>exact⟨0,λx hx=>(nomatch hx)⟩
  |cons y os ih =>
   obtain⟨k,hk⟩:=ih;refine⟨k+y.natAbs,λx hx=>?_⟩;have le:y.natAbs<2^y.natAbs:=Nat.lt_two_pow_self;have p1:2^k<=2^(k+y.natAbs):=OR (by decide) (OT _ _);have p2:2^y.natAbs<=2^(k+y.natAbs):=OR (by decide) (Nat.le_add_left _ _);rcases Na.mp hx with rfl |hx
   ·have:(2^(k+x.natAbs)-1)*1<=(2^(k+x.natAbs)-1)*l:=N8 _ hl;omega
   ·exact Nd (hk x hx) (NC _ (by omega))
 obtain⟨k,hk⟩:=up;clear hl
 induction k with
 |zero=>exact⟨0,hk,λj hj=>absurd hj (OM _)⟩
 |succ k ih =>
  by_cases h:∀x∈os,x.natAbs<=(2^k-1)*l
  ·exact ih h
  ·refine⟨k+1,hk,λj hj=>?_⟩;obtain⟨x,hx⟩:=Classical.not_forall.mp h;obtain⟨hm,hn⟩:=Classical.not_imp.mp hx;refine⟨x,hm,?_⟩;have:(2^j-1)*l<=(2^k-1)*l:=NC _ (by have:=OR (n:=2) (by decide) (Nat.lt_succ_iff.mp hj);omega);omega
theorem rS{C CN CR CG:Addr}{t b c:Int}{m:Nat}{kp:List Int}(h:Lin t b)(hM:Made kp c [([-t,b],m)])(hm:1<=m){H:Hp}{a:Addr}{lo hi:V}{Q:VK}{E:XK}(hA:H a=some (.lst (kp.map V.int)))
 (ends:(lo=.non/\hi=.non)\/∃(p q:Addr) (l1 l2 h1 h2:Int),lo=.ref p/\hi=.ref q/\RA C H p l1 l2/\RA C H q h1 h2/\EndB 980 l1 l2 h1 h2/\l1*b<t*l2/\t*h2<=h1*b)
 (kG:Gre [-t,b]->XG CG H E) (k:¬Gre [-t,b]->∀(x q:Addr) (H':Hp),Same H H'->(∃l h,NA CN H' x q l h)->H' q=some (.lst ([-t,b].map V.int))->Q (.ref x) H'):eQ C CN CR CG [.ref a,lo,hi] H Q E:=by
 have hb:=h.b1;obtain⟨tW,nW,_⟩:=eN hM.use hM.c0;rw[<- hM.is]at tW nW;obtain⟨kb,hB⟩:=tf (kp.take (kp.length-1)) (l:=(ar kp).natAbs) (NP.mpr (gS tW nW));have hk:=Ho hM.len.2.2.2 tW nW hB
 have z0:hv t b [-t,b]=0:=by show -t*b^2+t*(b*b^1+t*0)=0;grind
 have zk:hv t b kp=0:=by
  rw[hM.is,cV,tq]
  have:hv t b (fP id [([-t,b],m)])=0:=by
   show hv t b (ae (pw [-t,b] m) [1])=0;rw[cz];obtain⟨j,rfl⟩:∃j,m=j+1:=⟨m-1,by omega⟩;show hv t b (ae [-t,b] (pw [-t,b] j))=0;have q:=mM t b (a:=[-t,b]) (b:=pw [-t,b] j) (rq (by simp) j).2 (by simp);rw[z0,NB]at q;rcases Int.mul_eq_zero.mp q with y |y
   ·omega
   ·exact y
  rw[this,Nx]
 obtain⟨r1,r2⟩:=Dr nW tW (show 0<b by omega) Nat.one_le_two_pow hB.1 zk
 have bB:Bits 980 ((2^kb:Nat):Int):=by show((2^kb:Nat):Int).natAbs<2^980;rw[Np];exact Nat.pow_lt_pow_right (by decide) (by omega)
 have o1:Bits 980 (1:Int):=b1k (by decide);rcases ends with⟨rfl,rfl⟩ |⟨p,q,l1,l2,h1,h2,rfl,rfl,hp,hq,en,i1,i2⟩
 ·have en:EndB 980 (-((2^kb:Nat):Int)) 1 ((2^kb:Nat):Int) 1:=⟨by decide,by decide,bB.neg,o1,bB,o1,OB _,OB _⟩;obtain⟨y1,y2⟩:=h.one en (by omega) (by omega);refine⟨a,.non,.non,kp,c,_,[[t,0,b]],_,_,_,_,kb,rfl,hA,hM,pM h m,h.whlB,hB,.inl ⟨rfl,rfl,rfl⟩,.inl ⟨rfl,rfl,rfl⟩,en,λz=>absurd y1 z,λ_ hG=>kG (by rw[<- h.pr];exact hG),λ_ hG=>⟨_,_,y2 hG,λx q l h' H' s hx hNA _ _ e _=>?_⟩⟩;rw[kD (by omega) h.g]at e;exact k (by rw[<- h.pr];exact hG) x q H' s ⟨l,h',hNA⟩ e
 ·obtain⟨y1,y2⟩:=h.one en i1 i2;refine⟨a,_,_,kp,c,_,[[t,0,b]],l1,l2,h1,h2,kb,rfl,hA,hM,pM h m,h.whlB,hB,.inr ⟨p,rfl,hp⟩,.inr ⟨q,rfl,hq⟩,en,λz=>absurd y1 z,λ_ hG=>kG (by rw[<- h.pr];exact hG),λ_ hG=>⟨_,_,y2 hG,λx q l h' H' s hx hNA _ _ e _=>?_⟩⟩;rw[kD (by omega) h.g]at e;exact k (by rw[<- h.pr];exact hG) x q H' s ⟨l,h',hNA⟩ e
theorem y3{t b:Int}(h:Lin t b):Made [-t,b] 1 [([-t,b],1)]:=by
 have hb:=h.b1;have e:fP id [([-t,b],1)]=[-t,b]:=by show ae (pw [-t,b] 1) [1]=_;rw[cz,dJ]
 have bl:AllB 830 ([-t,b]:List Int):=iA (h.bt.neg.mono) (h.bb.mono);refine⟨by rw[cV,e];show _=[1 * -t,1*b];rw[Nh,Nh],by decide,b1k (by decide),y9 h (MZ _),by show 1*(2-1)+0<=2;decide,MZ 2,by rw[e];exact bl,?_⟩;show AllB 830 (ae (pw [-t,b] 0) [1]);rw[cz]
 exactλx hx=>by rw[Nb.mp hx];exact b1k (by decide)
theorem Fh{C CN CNoRoot CTooGreat f:Addr}{fd:FuncData}(F:Fun K "fraction" "fraction" jD f fd)(T:Txt K mg)(R:RCI K mg C){ie:Addr}{hJ:FuncData}(iJ:CalVE P w K mg base 39 "number" ["row","low","high"] (eQ C CN CNoRoot CTooGreat) ie hJ):FnOk P w K mg base (CXV P w) 40 f fd ["ratio"] (qR C CN CTooGreat):=by
 obtain⟨gg,fO,fQ,kP,vt,nD⟩:=iJ;refine F.okV CP (λvs H Q E h=>?_) (λcdv A outer s H vs Q E hr h=>?_)
 ·obtain⟨r,t,b,rfl,_⟩:=h;rfl
 ·obtain⟨r,t,b,rfl,⟨dx,hr'⟩,h,kG,k⟩:=h;refine⟨_,(ai (ay (al (dvs:=[.non,.non]) gg (hr.mono) rfl fO fQ nD (.cons rfl (.cons rfl (.nil))) (fc (λ_ _ _ z=>z)) (aa (aV (aa (bJ bG (aP (K:=K) rfl (pv 0) rfl)) (aa (aP (K:=K) rfl (pv 0) rfl) ac))) ac)))),?_⟩;refine aX ⟨_,rfl,r,C,dx,_,_,rfl,hr',R.cl,R.nT,cF _ _,_,rfl,_,rfl,r,C,dx,_,_,rfl,hr',R.cl,R.nB,bM _ _,by show 2<=sizeLine;decide,λp hp=>?_⟩;have s1:=Same.upd_new (o:=.lst [V.int (-t),V.int b]) hp;exact rS h (y3 h) (MZ _) (ao (o:=.lst ([-t,b].map V.int))) (.inl ⟨rfl,rfl⟩) (λhG=>(kG hG).step s1) λhG x q H' s' n e=>k hG x q H' (s1.trans s') n e
def NmH(C CN:Addr)(H:Hp)(fs:List (List Int))(x:Addr)(y:Cel):Prop:=∃(q:Addr) (f0 s0:List Int),NA CN H x q y.lo y.hi/\H q=some (.lst ((ax f0).map V.int))/\OneS fs f0 s0 y.l1 y.l2 y.h1 y.h2
theorem NmH.same{C CN:Addr}{H H':Hp}{fs:List (List Int)}{x:Addr}{y:Cel}(h:NmH C CN H fs x y)(s:Same H H'):NmH C CN H' fs x y:=let⟨q,f0,s0,a,b,f⟩:=h;⟨q,f0,s0,a.same s,s _ _ b,f⟩
def NsH(C CN:Addr)(H:Hp)(fs:List (List Int))(xs:List Addr)(ys:List Cel):Prop:=xs.length=ys.length/\∀(i:Nat) (x:Addr) (y:Cel),xs[i]?=some x->ys[i]?=some y->NmH C CN H fs x y
def gm(C CN CG:Addr):Sp:=λvs H Q E=>∃(a:Addr) (kp:List Int) (c:Int) (us:List (List Int×Nat)) (fs:List (List Int)),vs=[.ref a]/\H a=some (.lst (kp.map V.int))/\Made kp c us/\flt us=prQ fs/\(prQ fs).length<=3/\(Gre (prQ fs)->XG CG H E) /\
 (¬Gre (prQ fs)->Whl fs/\(∀f∈fs,∀s∈spF f,cf f 1=0)/\∀(p:Addr) (H':Hp) (xs:List Addr) (ys:List Cel),Same H H'->H p=none->H' p=some (.lst (xs.map V.ref))->NsH C CN H' fs xs ys->cO ys->(∀s∈aD fs,cov s ys)->Q (.ref p) H')
theorem EW{C CN CTooHigh CTooGreat f:Addr}{fd:FuncData}(F:Fun K "roots" "roots" jk f fd)(T:Txt K mg)(R:RCI K mg C){uo:Addr}{tQ:FuncData}(v4:CalV P w K mg base 3 "refuse_high" ["height"] (oA CTooHigh) uo tQ){dU:Addr}{dS:FuncData}(dY:Cal P w K mg base 1 "degree" ["row"] fE dU dS){ui:Addr}{tK:FuncData}(vW:Cal P w K mg base 36 "without_squares" ["row"] oq ui tK){uq:Addr}{tR:FuncData}(v5:CalV P w K mg base 1 "refuse_great" ["row"] (oB CTooGreat) uq tR){uz:Addr}{tZ:FuncData}(wb:Cal P w K mg base 36 "cells" ["row"] (oN C) uz tZ){ur:Addr}{tT:FuncData}(v6:Cal P w K mg base 38 "number_in" ["simple","low","high"] (oE C CN) ur tT):FnOk P w K mg base (CXV P w) 39 f fd ["row"] (gm C CN CTooGreat):=by
 obtain⟨vH,sy,sT,vg⟩:=v4;obtain⟨cU,cR,cS,cT⟩:=dY;obtain⟨vD,sj,sP,va⟩:=vW;obtain⟨vI,sC,sU,vh⟩:=v5;obtain⟨vL,sF,sX,vk⟩:=wb;obtain⟨vJ,sD,sV,vi⟩:=v6;refine F.okV sc_roots (λvs H Q E h=>?_) (λcdv A outer s H vs Q E hr h=>?_)
 ·obtain⟨a,kp,c,us,fs,rfl,_⟩:=h;rfl
 ·obtain⟨a,kp,c,us,fs,rfl,hA,hM,hfl,h3,kG,kk⟩:=h;have big:=sizeLine_eq;have hml:(kp.map V.int).length=kp.length:=MY _;have l9:=hM.len.1
  refine⟨_,(af (d8 (al vH (hr.mono) rfl sy sT vg .nil (fc (λ_ _ _ z=>z)) (aa (al cU (hr.mono) rfl cR cS cT .nil ah (aa (pv 0) ac)) ac)))
   (af (ak (i:=1) sc_roots.nd rfl (Or.inr rfl) (al vD (hr.mono) rfl sj sP va .nil ah (aa (pv 0) ac)))
   (af (d8 (al vI (hr.mono) rfl sC sU vh .nil (fc (λ_ _ _ z=>z)) (aa (pv 1) ac)))
   (ai (ay (fb (own:=["cell"]) (fr:=["simple"]) (js:=[1]) (by walk_at "comp_ok") rfl (dL (K:=K) rfl (al vL (hr.mono) rfl sF sX vk .nil ah (aa (pv 1) ac))) (λ_ _ _ _=>(bw (i:=0) (show List.Nodup (["cell","simple"]:List Str)from by decide +kernel) rfl (Or.inl rfl))) (λ_ _ _ _=>(al vJ (hr.mono) rfl sD sV vi .nil ah (aa (pv 1) (aa (aH (aY (K:=K) rfl) (pv 0) ad (λ_ _=>rfl)) (aa (aH (aY (K:=K) rfl) (pv 0) ad (λ_ _=>rfl)) ac))))))))))),?_⟩
  refine fH ⟨_,rfl,a,_,rfl,hA,_,rfl,λh8=>?_,λh8=>?_⟩
  rotate_left
  ·rw[hml]at h8;omega
  refine av ⟨_,rfl,a,kp,c,us,rfl,hA,hM,λpw H1 s1 hpw e1=>?_⟩;rw[hfl]at e1;refine fH ⟨_,rfl,pw,prQ fs,rfl,e1,by omega,λhG H2 s2=>?_,λhG=>(kG hG).step s1⟩;obtain⟨hW,hlin,k⟩:=kk hG;have t2:=s1.trans s2;have e2:=s2 _ _ e1;refine aX ⟨_,rfl,.inl ⟨pw,fs,rfl,e2,hW,λkb pc ys H3 hkb hB s3 hpc ec hys hcov hyl hri=>?_⟩⟩;have t3:=t2.trans s3;have hql:(qs ys).length=ys.length:=MY _;refine⟨pc,rfl,⟨_,SqL.of ec⟩,ik (K:=K) (a:=pc) (xs:=qs ys) (λi vs σ' H'=>∃(z0:Option V) (xs:List Addr),σ'=[z0,some (.ref pw)]/\vs=xs.map V.ref/\Same H3 H'/\xs.length=i/\∀(j:Nat) (x:Addr) (y:Cel),xs[j]?=some x->ys[j]?=some y->NmH C CN H' fs x y) (by rw[hql];omega) ⟨none,[],rfl,rfl,Same.refl _,rfl,λj x y h=>by simp at h⟩ ?_ ?_ ?_⟩
  ·rintro i vs σ' H' _ ⟨z0,xs,rfl,rfl,sm,hxl,_⟩;exact⟨SqL.of (sm _ _ ec),by rw[MY,hxl];exact MZ _⟩
  ·rintro i z vs σ' H' hi ⟨z0,xs,rfl,rfl,sm,hxl,hN⟩
   have hil:i<ys.length:=by apply Classical.byContradiction;intro hn;rw[List.getElem?_eq_none_iff.mpr (by rw[hql];omega)]at hi;cases hi
   have ey:ys[i]?=some ys[i]:=List.getElem?_eq_getElem hil
   have hz:z=V.ref ys[i].q:=by
    unfold qs at hi
    rw[List.getElem?_map,ey]at hi;exact(Option.some.inj hi).symm
   subst hz;have hcm:ys[i]∈ys:=Od hil;generalize ys[i]=c at ey hcm
   have hcf:=(hys c hcm).nl (NL.of sm);have dE:=Kg hcf.dy hkb hcf.dd;obtain⟨f0,s0,hO⟩:=EB hW.fam dE.l2p dE.h2p dE.lt hcf.one;refine⟨_,rfl,_,rfl,c.q,_,_,_,rfl,rfl,SqT.of hcf.tup,rfl,_,rfl,c.q,_,_,_,rfl,rfl,SqT.of hcf.tup,rfl,pw,c.lo,c.hi,fs,f0,s0,c.l1,c.l2,c.h1,c.h2,rfl,(s3.trans sm) _ _ e2,hcf.lo,hcf.hi,⟨hW,hO,hcf.one,dE,hlin f0 hO.mem s0 hO.sp⟩,λx q H4 s4 hx hNA hq hqn=>?_⟩;refine⟨_,xs++[x],rfl,by rw[Nu];rfl,sm.trans s4,by rw[Nk,hxl];rfl,λj x' y' h1 h2=>?_⟩;by_cases hj:j<xs.length
   ·rw[List.getElem?_append_left hj]at h1;exact(hN j x' y' h1 h2).same s4
   ·rw[List.getElem?_append_right (by omega)]at h1;by_cases h0:j-xs.length=0
    ·rw[h0]at h1;obtain rfl:x=x':=by simpa using h1
     have ej:j=i:=by omega
     subst ej;rw[ey]at h2;cases h2;exact⟨q,f0,s0,hNA,hq,hO⟩
    ·rw[List.getElem?_eq_none_iff.mpr (by simp;omega)]at h1;cases h1
  ·rintro vs σ' H' p ⟨z0,xs,rfl,rfl,sm,hxl,hN⟩ hp;rw[hql]at hxl;have sp:=Same.upd_new (o:=.lst (xs.map V.ref)) hp;exact k p _ xs ys ((t3.trans sm).then_new hp) ((t3.trans sm).free hp) ao ⟨hxl,λj x y h1 h2=>(hN j x y h1 h2).same sp⟩ hri hcov
theorem FH{f:Addr}{fd:FuncData}(F:Fun K "_law_cell_at" "_law_cell_at" jZ f fd)(T:Txt K mg):FnOk P w K mg base CX0 1 f fd ["_law_script","_law_k"] (gq K):=by
 refine F.ok C4 (λvs H Q E h=>?_) (λcdv A outer s H vs Q E hr h=>?_)
 ·obtain⟨a,ns,k,rfl,_⟩:=h;rfl
 ·obtain⟨a,ns,n,rfl,hS,k⟩:=h
  refine⟨_,(af (aS (aJ dc (pv 1) (aT (cH (K:=K) rfl) (by rfl) T.len_ PySem.boot_len (aa (pv 0) ac)) (aG _))
   (ai (ay (aH (bK (K:=K) rfl) (pv 0) (pv 1) (λ_ _=>rfl))))
   aU)
   (ai (ay ad))),?_⟩
  refine⟨_,rfl,_,rfl,a,_,rfl,.inl hS,_,_,rfl,rfl,_,rfl,?_⟩;refine aR (λh1=>?_) (λh1=>?_)
  ·rw[MY]at h1;have h2:n<ns.length:=by omega
   refine⟨_,rfl,_,rfl,a,_,_,_,rfl,rfl,hS,gd (v:=.int (ns.getD n 0)) ?_,k⟩;rw[List.getElem?_map,List.getElem?_eq_getElem h2];simp[List.getD,h2]
  ·rw[MY]at h1;have h2:ns.length<=n:=by omega
   have e:ns.getD n 0=0:=by simp[List.getD,List.getElem?_eq_none_iff.mpr h2]
   rw[e]at k;exact k
def ot:Sp:=λvs H Q _=>∃i:Int,vs=[.int i]/\Q (.bl true) H
theorem Fw{f:Addr}{fd:FuncData}(F:Fun K "_law_whole" "_law_whole" jQ f fd)(T:Txt K mg):FnOk P w K mg base CX0 1 f fd ["_law_found"] ot:=by
 refine F.ok CZ (λvs H Q E h=>?_) (λcdv A outer s H vs Q E hr h=>?_)
 ·obtain⟨i,rfl,_⟩:=h;rfl
 ·obtain⟨i,rfl,k⟩:=h;refine⟨_,(ai (ay (gH (aT (iq (K:=K) rfl) (by rfl) T.isinstance_ PyProof.Rows.boot_isinstance (aa (pv 0) (aa (gG (v:=.ty "int") (by rfl) T.int_ PyProof.Rows.boot_int (by rfl)) ac))) (lY (rH (aT (iq (K:=K) rfl) (by rfl) T.isinstance_ PyProof.Rows.boot_isinstance (aa (pv 0) (aa (gG (v:=.ty "bool") (by rfl) T.bool_ PyProof.Rows.boot_bool (by rfl)) ac)))))))),?_⟩;refine aX (gA (gw ⟨_,rfl,kF (.int i) (k:=true) (by rfl) ⟨_,rfl,dA ?_⟩⟩));refine rf (gw ⟨_,rfl,kF (.int i) (k:=false) (by rfl) ⟨_,rfl,?_⟩⟩);exact k
def qT:Sp:=λvs H Q _=>∃x y:Int,vs=[.int x,.int y]/\0<=x/\0<=y/\Q (.int (Nat.gcd x.natAbs y.natAbs:Nat)) H
theorem FG{f:Addr}{fd:FuncData}(F:Fun K "_law_divisor" "_law_divisor" jY f fd)(T:Txt K mg):FnOk P w K mg base CX0 1 f fd ["_law_one","_law_other"] qT:=by
 refine F.ok sc__law_divisor (λvs H Q E h=>?_) (λcdv A outer s H vs Q E hr h=>?_)
 ·obtain⟨a,b,rfl,_⟩:=h;rfl
 ·obtain⟨a,b,rfl,ha,h0,k⟩:=h
  refine⟨_,(af (eX PassesOwn.never (aJ fL (pv 1) ad (aG _))
   (af (ak (i:=2) sc__law_divisor.nd rfl (Or.inl rfl) (aj dN (pv 0) (pv 1)))
     (af (ak (i:=0) sc__law_divisor.nd rfl (Or.inl rfl) (pv 1))
     (ai (ak (i:=1) sc__law_divisor.nd rfl (Or.inl rfl) (pv 2))))))
   (ai (ay (pv 0)))),?_⟩
  refine⟨λm σ' H'=>∃(x y:Int) (z:Option V),σ'=[some (.int x),some (.int y),z]/\H=H'/\0<=x/\0<=y/\y.natAbs=m/\Nat.gcd x.natAbs y.natAbs=Nat.gcd a.natAbs b.natAbs,⟨_,_,_,none,rfl,rfl,ha,h0,rfl,rfl⟩,?_⟩;rintro m σ' H' ⟨x,y,z,rfl,rfl,hx,hy,rfl,hg⟩;refine⟨_,rfl,_,_,rfl,rfl,_,rfl,?_⟩;refine cK (λhn=>?_) (λh0=>?_)
  ·have hp:0<y:=by have:y≠0:=hn;omega
   refine⟨λσ'' H''=>∃m',m'<y.natAbs/\∃(x' y':Int) (z:Option V),σ''=[some (.int x'),some (.int y'),z]/\H=H''/\0<=x'/\0<=y'/\y'.natAbs=m'/\Nat.gcd x'.natAbs y'.natAbs=Nat.gcd a.natAbs b.natAbs,λ_ _ h=>h,?_⟩;refine⟨_,rfl,_,rfl,_,_,rfl,rfl,hp,?_⟩;refine⟨_,rfl,?_⟩;refine⟨_,rfl,?_⟩;have h1:=OC x (Nr hp);have h2:=OD x hp;exact⟨(x%y).natAbs,by omega,y,x%y,_,rfl,rfl,hy,h1,rfl,by rw[zB hx hp];exact hg⟩
  ·have e:(y:Int)=0:=h0;subst e;refine⟨_,rfl,?_⟩
   have e2:(x:Int)=((Nat.gcd a.natAbs b.natAbs:Nat):Int):=by rw[<- hg];show x=((Nat.gcd x.natAbs 0:Nat):Int);rw[Nat.gcd_zero_right];omega
   rw[e2];exact k
def qC:Sp:=λvs H Q _=>∃(a:Addr) (ns:List Int),vs=[.ref a]/\H a=some (.lst (ns.map V.int))/\Q (.bl true) H
theorem FA{f:Addr}{fd:FuncData}(F:Fun K "_law_poly" "_law_poly" jT f fd)(T:Txt K mg){uA:Addr}{ua:FuncData}(wc:Cal P w K mg base 1 "_law_whole" ["_law_found"] ot uA ua):FnOk P w K mg base CX0 2 f fd ["_law_found"] qC:=by
 obtain⟨vM,sG,sY,vm⟩:=wc;refine F.ok sc__law_poly (λvs H Q E h=>?_) (λcdv A outer s H vs Q E hr h=>?_)
 ·obtain⟨a,ns,rfl,_⟩:=h;rfl
 ·obtain⟨a,ns,rfl,hA,k⟩:=h
  refine⟨_,(af (aS (kn (eV (aT (iq (K:=K) rfl) (by rfl) T.isinstance_ PyProof.Rows.boot_isinstance (aa (pv 0) (aa (gG (v:=.ty "list") (by rfl) T.list_ PyProof.Rows.boot_list (by rfl)) ac)))))
   (ai (ay cW))
   aU)
   (af (cL PassesOwn.never rfl (dL (K:=K) rfl (pv 0)) (bw (i:=1) sc__law_poly.nd rfl (Or.inl rfl))
     (ai (aS (kn (eV (al vM (hr.mono) rfl sG sY vm .nil ah (aa (pv 1) ac))))
       (ai (ay cW))
       aU)))
   (ai (ay cW)))),?_⟩
  refine bI (lH (rj (gw ⟨_,rfl,kF (.lst hA) (k:=true) (by rfl) ⟨_,rfl,da ?_⟩⟩)));refine⟨_,rfl,a,rfl,⟨_,SqL.of hA⟩,tI (K:=K) (a:=a) (xs:=ns.map V.int) (λi σ' H'=>∃z:Option V,σ'=[some (.ref a),z]/\H=H') ⟨none,rfl,rfl⟩ ?_ ?_ ?_⟩
  ·rintro i σ' H' _ ⟨z,rfl,rfl⟩;exact SqL.of hA
  ·rintro i x σ' H' hi ⟨z,rfl,rfl⟩;obtain⟨y,_,rfl,_,_⟩:=g6 hi;exact⟨_,rfl,_,rfl,_,rfl,da ⟨_,rfl,rfl⟩⟩
  ·rintro σ' H' ⟨z,rfl,rfl⟩;exact k
def qv:Sp:=λvs H Q _=>∃(a b:Addr) (xs ys:List Int),vs=[.ref a,.ref b]/\H a=some (.lst (xs.map V.int))/\H b=some (.lst (ys.map V.int))/\xs≠[]/\ys≠[]/\xs.length<=1000/\ys.length<=1000/\AllB 1000000 xs/\AllB 1000000 ys/\mkL H Q (ae xs ys)
theorem Fy{f:Addr}{fd:FuncData}(F:Fun K "_law_times" "_law_times" jS f fd)(T:Txt K mg):FnOk P w K mg base CX0 1 f fd ["_law_one","_law_other"] qv:=by
 refine F.ok sc__law_times (λvs H Q E h=>?_) (λcdv A outer s H vs Q E hr h=>?_)
 ·obtain⟨a,b,xs,ys,rfl,_⟩:=h;rfl
 ·obtain⟨a,b,xs,ys,rfl,hA,hB,hx0,hy0,hx,hy,bx,by',k⟩:=h;have big:=sizeLine_eq
  refine⟨_,(af (ak (i:=2) sc__law_times.nd rfl (Or.inl rfl) (aj rN (aV (aa ad ac)) (aj cw (aj bQ (aT (cH (K:=K) rfl) (by rfl) T.len_ PySem.boot_len (aa (pv 0) ac)) (aT (cH (K:=K) rfl) (by rfl) T.len_ PySem.boot_len (aa (pv 1) ac))) ad)))
   (af (cL PassesOwn.never rfl (ku rfl T.range_ (aa (aT (cH (K:=K) rfl) (by rfl) T.len_ PySem.boot_len (aa (pv 0) ac)) ac)) (bw (i:=3) sc__law_times.nd rfl (Or.inl rfl))
     (ai (cL PassesOwn.never rfl (ku rfl T.range_ (aa (aT (cH (K:=K) rfl) (by rfl) T.len_ PySem.boot_len (aa (pv 1) ac)) ac)) (bw (i:=4) sc__law_times.nd rfl (Or.inl rfl))
       (ai (lT (aj bQ (aH (bK (K:=K) rfl) (pv 2) (aj bQ (pv 3) (pv 4)) (λ_ _=>rfl)) (aj aO (aH (bK (K:=K) rfl) (pv 0) (pv 3) (λ_ _=>rfl)) (aH (bK (K:=K) rfl) (pv 1) (pv 4) (λ_ _=>rfl)))) (lX (pv 2) (aj bQ (pv 3) (pv 4)) lD))))))
   (ai (ay (pv 2))))),?_⟩
  have hlx:(xs.map V.int).length=xs.length:=MY _;have hly:(ys.map V.int).length=ys.length:=MY _;obtain⟨la,ea⟩:∃la,xs.length=la+1:=⟨xs.length-1,by have:=M5.mpr hx0;omega⟩;obtain⟨lb,eb⟩:∃lb,ys.length=lb+1:=⟨ys.length-1,by have:=M5.mpr hy0;omega⟩;have en:((xs.map V.int).length:Int)+((ys.map V.int).length:Int)-1=((la+lb+1:Nat):Int):=by rw[hlx,hly];omega
  refine av ⟨by show 1<=sizeLine;omega,λp2 hp2=>?_⟩;have s0:=Same.upd_new (o:=.lst [V.int 0]) hp2;refine⟨_,rfl,a,_,rfl,.inl (SqL.of (s0 _ _ hA)),_,rfl,b,_,rfl,.inl (SqL.of (s0 _ _ hB)),_,_,rfl,rfl,_,_,rfl,rfl,?_⟩;dsimp only
  rw[en];refine⟨p2,_,_,rfl,rfl,ao,by omega,by omega,by show 1*_<=_;omega,λp hp=>?_⟩;rw[show((la+lb+1:Nat):Int).toNat=la+lb+1 from rfl,rd];have s4:=s0.then_new (o:=.lst ((List.replicate (la+lb+1) (0:Int)).map V.int)) hp;have hp0:=s0.free hp;have npa:a≠p:=aQ hA hp0;have npb:b≠p:=aQ hB hp0;have hp4:upd (upd H p2 (.lst [V.int 0])) p (.lst ((List.replicate (la+lb+1) (0:Int)).map V.int)) p=some (.lst ((List.replicate (la+lb+1) (0:Int)).map V.int)):=ao;generalize upd (upd H p2 (.lst [V.int 0])) p (.lst ((List.replicate (la+lb+1) (0:Int)).map V.int))=H4 at s4 hp4 ⊢
  refine⟨_,rfl,a,_,rfl,.inl (SqL.of (s4 _ _ hA)),_,rfl,by rw[hlx];omega,by rw[hlx];omega,?_⟩;rw[hlx]
  refine pY (lo:=0) (n:=xs.length) (λj σ' H'=>∃(acc:List Int) (z3 z4:Option V),σ'=[some (.ref a),some (.ref b),some (.ref p),z3,z4]/\SameB p H4 H'/\H' p=some (.lst (acc.map V.int))/\acc.length=la+lb+1/\∀n,n<acc.length->cf acc n=sm xs ys n j)
   ⟨List.replicate (la+lb+1) 0,none,none,rfl,SameB.refl _ _,hp4,by simp,λn _=>by rw[nh];rfl⟩ ?_ ?_
  ·rintro j σ' H' hjl ⟨acc,z3,z4,rfl,sb,hpa,hal,hac⟩;have hA':=sb _ _ npa (s4 _ _ hA);have hB':=sb _ _ npb (s4 _ _ hB);refine⟨_,rfl,b,_,rfl,.inl (SqL.of hB'),_,rfl,by rw[hly];omega,by rw[hly];omega,?_⟩;rw[hly]
   refine pY (lo:=0) (n:=ys.length) (λi σ' H'=>∃(acc:List Int) (z4:Option V),σ'=[some (.ref a),some (.ref b),some (.ref p),some (.int (0+(j:Int))),z4]/\SameB p H4 H'/\H' p=some (.lst (acc.map V.int))/\acc.length=la+lb+1/\∀n,n<acc.length->cf acc n=sm xs ys n j+(if j<=n/\n-j<i then tm xs ys n j else 0))
    ⟨acc,z4,rfl,sb,hpa,hal,yL hac⟩ ?_ ?_
   ·rintro i σ' H' hil ⟨acc,z4,rfl,sb,hpa,hal,hac⟩;have hA':=sb _ _ npa (s4 _ _ hA);have hB':=sb _ _ npb (s4 _ _ hB);have hji:j+i<acc.length:=by omega
    have eji:(0+((j:Nat):Int))+(0+((i:Nat):Int))=((j+i:Nat):Int):=by omega
    have e0:∀x:Nat,(0:Int)+((x:Nat):Int)=((x:Nat):Int):=λx=>by omega
    refine⟨_,rfl,_,rfl,_,rfl,_,_,rfl,rfl,p,_,_,_,rfl,rfl,SqL.of hpa,kR eji hji,_,rfl,_,rfl,a,_,_,_,rfl,rfl,SqL.of hA',kR (e0 j) hjl,_,rfl,_,rfl,b,_,_,_,rfl,rfl,SqL.of hB',kR (e0 i) hil,_,_,rfl,rfl,⟨bx.cf j,by'.cf i⟩,_,_,rfl,rfl,_,rfl,_,rfl,_,rfl,_,_,rfl,rfl,p,_,_,j+i,rfl,rfl,hpa,mK eji (by rw[MY];exact hji),?_⟩;exact⟨acc.set (j+i) (cf acc (j+i)+cf xs j*cf ys i),_,rfl,sb.then_upd,by rw[ao,pJ],by rw[Ow];exact hal,yK hjl hil hji hac⟩
   ·rintro σ' H' ⟨acc,z4,rfl,sb,hpa,hal,hac⟩;exact⟨acc,_,_,rfl,sb,hpa,hal,yM hac⟩
  ·rintro σ' H' ⟨acc,z3,z4,rfl,sb,hpa,hal,hac⟩;refine⟨_,rfl,k p H' (λb' o e=>sb b' o (aQ e hp0) (s4 b' o e)) hp0 ?_⟩;rw[hpa]
   have e:acc=ae xs ys:=by
    apply cN
    ·rw[hal];unfold ae;rw[if_neg (by intro z;exact z.elim hx0 hy0),MY,N4];omega
    ·intro n _;rw[aI,yN (by omega) hac]
   rw[e]
theorem Ag{x y:Cel}(hx:0<x.h2)(hy:0<y.l2)(h:hiR x<=loR y):x.h1*y.l2<=y.l1*x.h2:=Ou.mp λz=>by have:loR y<hiR x:=(gC hy hx).mpr z;exact absurd h (Rat.not_le.mpr this)
theorem G8{a b c d:Int}(hb:0<b)(hd:0<d)(h1:Nat.gcd a.natAbs b.natAbs=1)(h2:Nat.gcd c.natAbs d.natAbs=1)(e:a*d=c*b):a=c/\b=d:=by
 have e':a.natAbs*d.natAbs=c.natAbs*b.natAbs:=by have:=congrArg Int.natAbs e;rwa [Nf,Nf]at this
 have d1:b.natAbs∣d.natAbs:=Nat.Coprime.dvd_of_dvd_mul_left (k:=b.natAbs) (m:=a.natAbs) (by rw[Nat.Coprime,Ox];exact h1) ⟨c.natAbs,by rw[e',NW]⟩;have d2:d.natAbs∣b.natAbs:=Nat.Coprime.dvd_of_dvd_mul_left (k:=d.natAbs) (m:=c.natAbs) (by rw[Nat.Coprime,Ox];exact h2) ⟨a.natAbs,by rw[<- e',NW]⟩;have e2:=Nat.dvd_antisymm d1 d2;have e3:b=d:=by omega
 subst e3;exact⟨Oy (by omega) e,rfl⟩
theorem Dz{t b c:Int}(h:Lin t b)(hc:0<c):rt (c*t) (c*b)=t/\rb (c*t) (c*b)=b:=by
 have hb:=h.b1;have n0:c*b≠0:=No (by omega) (by omega);refine G8 (dI n0) (by omega) (kj n0) h.g ?_;have e:=eU (t:=c*t) n0;refine Oy (a:=c) (by omega) ?_;have e1:rt (c*t) (c*b)*b*c=rt (c*t) (c*b)*(c*b):=by grind
 rw[e1,e];grind
def ou(CN:Addr):Sp:=λvs H Q _=>∃(x q l h b:Addr) (ns:List Int),vs=[.ref x,.ref b]/\NA CN H x q l h/\H q=some (.lst (ns.map V.int))/\H b=some (.lst (ns.map V.int))/\Q (.bl true) H
theorem Fx{CN f:Addr}{fd:FuncData}(F:Fun K "_law_told" "_law_told" jR f fd)(T:Txt K mg)(RN:NCI K mg CN){JZ:Addr}{Jn:FuncData}(MK:Cal P w K mg base 2 "_law_poly" ["_law_found"] qC JZ Jn):FnOk P w K mg base CX0 3 f fd ["_law_found","_law_due"] (ou CN):=by
 obtain⟨Ma,G2,HP,Lk⟩:=MK;refine F.ok C0 (λvs H Q E h=>?_) (λcdv A outer s H vs Q E hr h=>?_)
 ·obtain⟨x,q,l,h,b,ns,rfl,_⟩:=h;rfl
 ·obtain⟨x,q,l,h,b,ns,rfl,⟨dx,hx⟩,hq,hb,k⟩:=h;have hu:=hr.units;refine⟨_,(ai (ay (gH (aT (iq (K:=K) rfl) (by rfl) T.isinstance_ PyProof.Rows.boot_isinstance (aa (pv 0) (aa (pi (v:=.ref CN) rfl RN.mg rfl) ac))) (gH (al Ma (hr.mono) rfl G2 HP Lk .nil ah (aa (aP (K:=K) rfl (pv 0) rfl) ac)) (lY (gF (gJ (K:=K) rfl hu) (aP (K:=K) rfl (pv 0) rfl) (pv 1) (aG _))))))),?_⟩;refine aX (gA (gw ⟨_,rfl,HY (.ins hx RN.cl RN.ha RN.hn RN.ht RN.hm) (k:=true) (by unfold PySem.W.kitOne;rw[if_pos (by simp)]) ⟨_,rfl,dA ?_⟩⟩));refine gA ⟨_,rfl,x,CN,dx,_,_,rfl,hx,RN.cl,RN.nP,zJ _ _ _,q,ns,rfl,hq,_,rfl,dA ?_⟩;refine⟨_,rfl,x,CN,dx,_,_,rfl,hx,RN.cl,RN.nP,zJ _ _ _,_,rfl,q,b,ns,ns,rfl,rfl,SqL.of hq,SqL.of hb,?_⟩;rw[decide_eq_true rfl];exact k
structure Ask(C:Addr)(H:Hp)(kind:Int)(a sp:Addr)(t b c:Int)(m:Nat)(kp:List Int)(p q:Addr)(l1 l2 h1 h2:Int):Prop where
 k0:0<=kind
 k3:kind<=3
 lin:Lin t b
 ka:H a=some (.lst (kp.map V.int))
 made:Made kp c [([-t,b],m)]
 m1:1<=m
 two:2<=kind->kp=[c * -t,c*b]/\0<c
 tup:H sp=some (.tup [.ref p,.ref q])
 lo:RA C H p l1 l2
 hi:RA C H q h1 h2
 en:EndB 980 l1 l2 h1 h2
 il:l1*b<t*l2
 ih:t*h2<=h1*b
theorem Ask.same{C:Addr}{H H':Hp}{kind:Int}{a sp:Addr}{t b c:Int}{m:Nat}{kp:List Int}{p q:Addr}{l1 l2 h1 h2:Int}(h:Ask C H kind a sp t b c m kp p q l1 l2 h1 h2)(s:Same H H'):Ask C H' kind a sp t b c m kp p q l1 l2 h1 h2:=⟨h.k0,h.k3,h.lin,s _ _ h.ka,h.made,h.m1,h.two,s _ _ h.tup,h.lo.same s,h.hi.same s,h.en,h.il,h.ih⟩
def ln(C CN CG:Addr):Sp:=λvs H Q E=>∃(kind:Int) (a sp:Addr) (t b c:Int) (m:Nat) (kp:List Int) (p q:Addr) (l1 l2 h1 h2:Int),vs=[.int kind,.ref a,.ref sp]/\Ask C H kind a sp t b c m kp p q l1 l2 h1 h2/\(Gre [-t,b]->XG CG H E)/\(¬Gre [-t,b]->∀(x q:Addr) (H':Hp),Same H H'->(∃l h,NA CN H' x q l h)->H' q=some (.lst ([-t,b].map V.int))->Q (.ref x) H')
theorem EC{C CN:Addr}{H:Hp}{t b:Int}{xs:List Addr}{ys:List Cel}(hN:NsH C CN H [[t,0,b]] xs ys)(hri:cO ys)(hcv:∀s∈aD [[t,0,b]],cov s ys):∃x y,xs=[x]/\ys=[y]/\NmH C CN H [[t,0,b]] x y:=by
 have sp:[t,0,b,1]∈aD [[t,0,b]]:=by rw[Lin.sp];simp
 have nm:∀y∈ys,∃x f0 s0,OneS [[t,0,b]] f0 s0 y.l1 y.l2 y.h1 y.h2/\x∈xs:=λy hy=>by
  obtain⟨i,hi,ei⟩:=List.mem_iff_getElem.mp hy;have hx:i<xs.length:=by rw[hN.1];exact hi
  obtain⟨q,f0,s0,_,_,hO⟩:=hN.2 i xs[i] ys[i] (List.getElem?_eq_getElem hx) (List.getElem?_eq_getElem hi);rw[ei]at hO;exact⟨_,f0,s0,hO,Od hx⟩
 have in0:∀y∈ys,0<y.l2/\0<y.h2/\0<aq [t,0,b,1] y.l1 y.l2/\aq [t,0,b,1] y.h1 y.h2<=0:=λy hy=>by obtain⟨x,f0,s0,hO,_⟩:=nm y hy;have hs:s0∈aD [[t,0,b]]:=Os.mpr ⟨f0,hO.mem,hO.sp⟩;rw[Lin.sp]at hs;have:=Nb.mp hs;have hi:=hO.inn;rw[this]at hi;exact⟨hO.l2p,hO.h2p,hi.1,hi.2⟩
 match ys,hri,in0,hN,hcv _ sp with
 | [],_,_,_,⟨y,hy,_⟩=>cases hy
 | [y],_,_,hN,_ =>have hl:xs.length=1:=hN.1;obtain⟨x,rfl⟩:=O9.mp hl;exact⟨x,y,rfl,rfl,hN.2 0 x y rfl rfl⟩
 |y::y'::ys,hri,in0,_,_ =>
  exfalso;have hB:=(Ob.mp hri).1 y' (M6 ..);obtain⟨_,h2p,_,i2⟩:=in0 y (M6 ..);obtain⟨l2p,_,i1,_⟩:=in0 y' (M0 _ (M6 ..));have hx:=Ag h2p l2p hB;have j1:=side_line.mp i1;have j2:¬b*y.h1<t*y.h2:=λz=>by have:=side_line.mpr z;omega
  have q1:=NU j1 h2p;have q2:=Ny (Ou.mp j2) (M7 l2p);rcases Ot 0 b with hb |hb
  ·have q3:=Oz hx (M7 hb);have e1:b*(y'.l1*y.h2)=b*y'.l1*y.h2:=by grind
   have e2:b*(y.h1*y'.l2)=b*y.h1*y'.l2:=by grind
   have e3:t*y'.l2*y.h2=t*y.h2*y'.l2:=by grind
   omega
  ·obtain⟨_,f0,s0,hO,_⟩:=nm y (M6 ..);have hb1:=(uh (hO.fam.fac [t,0,b] (Nb.mpr rfl))).1;omega
theorem FF{C CN CNoRoot CTooGreat f:Addr}{fd:FuncData}(F:Fun K "_law_made" "_law_made" jX f fd)(T:Txt K mg)(R:RCI K mg C){ie:Addr}{hJ:FuncData}(iJ:CalVE P w K mg base 39 "number" ["row","low","high"] (eQ C CN CNoRoot CTooGreat) ie hJ){JR:Addr}{Jf:FuncData}(MC:CalV P w K mg base 40 "fraction" ["ratio"] (qR C CN CTooGreat) JR Jf){mW:Addr}{mQ:FuncData}(nR:CalV P w K mg base 39 "roots" ["row"] (gm C CN CTooGreat) mW mQ){bA:Addr}{bz:FuncData}{bC:List Value}(bF:KCal P w K mg base 2 C "Ratio" ["self","top","bottom"] (cD C) bA bz bC [.int 1]):FnOk P w K mg base (CXV P w) 41 f fd ["_law_kind","_law_kp","_law_span"] (ln C CN CTooGreat):=by
 obtain⟨gg,fO,fQ,kP,vt,nD⟩:=iJ;obtain⟨LZ,GV,HH,Ld⟩:=MC;obtain⟨nJ,mw,mG,nr⟩:=nR;obtain⟨bn,bj,bh,bV,cu,cs⟩:=bF;refine F.okV sc__law_made (λvs H Q E h=>?_) (λcdv A outer s H vs Q E hr h=>?_)
 ·obtain⟨kind,a,sp,t,b,c,m,kp,p,q,l1,l2,h1,h2,rfl,_⟩:=h;rfl
 ·obtain⟨kind,a,sp,t,b,c,m,kp,p,q,l1,l2,h1,h2,rfl,h,kG,k⟩:=h;have big:=sizeLine_eq;have hb:=h.lin.b1
  refine⟨_,(af (aS (aJ cI (pv 0) ad (aG _))
   (ai (ay (al gg (hr.mono) rfl fO fQ kP .nil (fc (λ_ _ _ z=>z)) (aa (pv 1) (aa (aH (aY (K:=K) rfl) (pv 2) ad (λ_ _=>rfl)) (aa (aH (aY (K:=K) rfl) (pv 2) ad (λ_ _=>rfl)) ac))))))
   aU)
   (af (aS (aJ cI (pv 0) ad (aG _))
     (ai (ay (al (dvs:=[.non,.non]) gg (hr.mono) rfl fO fQ nD (.cons rfl (.cons rfl (.nil))) (fc (λ_ _ _ z=>z)) (aa (pv 1) ac))))
     aU)
   (af (aS (aJ cI (pv 0) ad (aG _))
     (ai (ay (al LZ (hr.mono) rfl GV HH Ld .nil (fc (λ_ _ _ z=>z)) (aa (cv bj bn (hr.mono) rfl bh bV .nil ah (aa (bJ bG (aH (bK (K:=K) rfl) (pv 1) ad (λ_ _=>rfl))) (aa (aH (bK (K:=K) rfl) (pv 1) ad (λ_ _=>rfl)) ac))) ac))))
     aU)
   (af (ak (i:=3) sc__law_made.nd rfl (Or.inl rfl) (al nJ (hr.mono) rfl mw mG nr .nil (fc (λ_ _ _ z=>z)) (aa (pv 1) ac)))
   (af (aS (PW.pt (lP (kn (eV (aT (iq (K:=K) rfl) (by rfl) T.isinstance_ PyProof.Rows.boot_isinstance (aa (pv 3) (aa (gG (v:=.ty "list") (by rfl) T.list_ PyProof.Rows.boot_list (by rfl)) ac))))) (rm (aJ fL (aT (cH (K:=K) rfl) (by rfl) T.len_ PySem.boot_len (aa (pv 3) ac)) ad (aG _)))))
     (ai (ay ky))
     aU)
   (ai (ay (aH (bK (K:=K) rfl) (pv 3) ad (λ_ _=>rfl))))))))),?_⟩
  refine bI ⟨_,rfl,_,_,rfl,rfl,_,rfl,aR (λz=>?_) (λz0=>?_)⟩
  ·exact aX ⟨_,rfl,_,rfl,sp,_,_,_,rfl,rfl,SqT.of h.tup,rfl,_,rfl,sp,_,_,_,rfl,rfl,SqT.of h.tup,rfl,rS h.lin h.made h.m1 h.ka (.inr ⟨p,q,l1,l2,h1,h2,rfl,rfl,h.lo,h.hi,h.en,h.il,h.ih⟩) kG k⟩
  have z0':¬kind=0:=z0;refine bI ⟨_,rfl,_,_,rfl,rfl,_,rfl,aR (λz=>?_) (λz1=>?_)⟩
  ·exact aX ⟨_,rfl,rS h.lin h.made h.m1 h.ka (.inl ⟨rfl,rfl⟩) kG k⟩
  have z1':¬kind=1:=z1;obtain⟨ekp,hc⟩:=h.two (by have:=h.k0;omega);refine bI ⟨_,rfl,_,_,rfl,rfl,_,rfl,aR (λz=>?_) (λz2=>?_)⟩
  ·have e0:atI (kp.map V.int) 0=some (.int (c * -t)):=by rw[ekp];rfl
   have e1:atI (kp.map V.int) 1=some (.int (c*b)):=by rw[ekp];rfl
   obtain⟨r1,r2⟩:=Dz h.lin hc;have bc:Bits 140 c:=h.made.bc;refine aX ⟨_,rfl,a,_,_,_,rfl,rfl,SqL.of h.ka,e0,_,rfl,_,rfl,a,_,_,_,rfl,rfl,SqL.of h.ka,e1,cE (t := -(c * -t)) (b:=c*b) (No (by omega) (by omega)) ((bc.mul h.lin.bb).mono) λr H1 s1 hr1 hR=>?_⟩;rw[show -(c * -t)=c*t by grind,r1,r2]at hR;exact⟨r,t,b,rfl,hR,h.lin,λhG=>(kG hG).step s1,λhG x q H' s' n e=>k hG x q H' (s1.trans s') n e⟩
  refine av ⟨_,rfl,a,kp,c,_,[[t,0,b]],rfl,h.ka,h.made,pM h.lin m,h.lin.whlB.l3,λhG=>kG (by rw[<- h.lin.pr];exact hG),λhG=>⟨h.lin.whl hG,λf hf s hs=>by rw[Nb.mp hf];rfl,λpf H1 xs ys s1 hpf ef hN hri hcv=>?_⟩⟩;obtain⟨x,y,rfl,rfl,q1,f0,s0,na,eq,hO⟩:=EC hN hri hcv;refine bI (oV (lH (rj (gw ⟨_,rfl,kF (.lst ef) (k:=true) (by rfl) ⟨_,rfl,da ?_⟩⟩))));refine⟨_,rfl,pf,_,rfl,.inl (SqL.of ef),_,_,rfl,rfl,_,rfl,cK (λz=>absurd rfl z) (λ_=>?_)⟩;refine aX ⟨_,rfl,pf,_,_,_,rfl,rfl,SqL.of ef,rfl,?_⟩;have ef0:f0=[t,0,b]:=Nb.mp hO.mem;rw[ef0,kD (by omega) h.lin.g]at eq;exact k (by rw[<- h.lin.pr];exact hG) x q1 H1 s1 ⟨_,_,na⟩ eq
def qB(C:Addr):Sp:=λvs H Q _=>∃(kind:Int) (a sp:Addr) (t b c:Int) (m:Nat) (kp:List Int) (p q:Addr) (l1 l2 h1 h2:Int),vs=[.int kind,.ref a,.ref sp]/\Ask C H kind a sp t b c m kp p q l1 l2 h1 h2/\Gre [-t,b]/\∀H',Q (.bl true) H'
theorem Fz{C CN f:Addr}{fd:FuncData}(F:Fun K "_law_refused" "_law_refused" gv f fd)(T:Txt K mg)(R:RCI K mg C){CTooGreat CNoRoot CTooHigh CRootError:Addr}(XE:EXC K mg base CTooGreat CNoRoot CTooHigh CRootError){uC:Addr}{uc:FuncData}(wf:CalV P w K mg base 41 "_law_made" ["_law_kind","_law_kp","_law_span"] (ln C CN CTooGreat) uC uc):FnOk P w K mg base CX0 42 f fd ["_law_kind","_law_kp","_law_span"] (qB C):=by
 obtain⟨vN,sH,sZ,vn⟩:=wf;refine F.ok sc__law_refused (λvs H Q E h=>?_) (λcdv A outer s H vs Q E hr h=>?_)
 ·obtain⟨kind,a,sp,t,b,c,m,kp,p,q,l1,l2,h1,h2,rfl,_⟩:=h;rfl
 ·obtain⟨kind,a,sp,t,b,c,m,kp,p,q,l1,l2,h1,h2,rfl,h,hG,kk⟩:=h;have hu2:(A.deeper (PyProof.Rows.envOfC "_law_refused" (ag gv) s.heap.objs.size f cdv)).units+66<cLine:=by have:=hr.un;omega
  refine⟨_,(af (ak (i:=3) sc__law_refused.nd rfl (Or.inl rfl) (aV ac))
   (af (D2 rfl rfl (lN vN (hr.mono) (λ_=>rfl) sH sZ vn .nil (λ_=>(aa (pv 0) (aa (pv 1) (aa (pv 2) ac))))) (λ_ _=>rfl) XE.mgRootError sc__law_refused.nd (i:=4) rfl rfl (λea oe=>(ai (ak (i:=3) sc__law_refused.nd rfl (Or.inl rfl) (aV (aa (aT uY (by rfl) T.isinstance_ PyProof.Rows.boot_isinstance (aa (pv 4) (aa (gG (v:=.ty "ValueError") (by rfl) T.ValueError_ PyProof.Rows.boot_ValueError (by rfl)) ac))) (aa (aT uY (by rfl) T.isinstance_ PyProof.Rows.boot_isinstance (aa (pv 4) (aa (pi (v:=.ref CTooGreat) rfl XE.mgTooGreat rfl) ac))) (aa (aT uY (by rfl) T.isinstance_ PyProof.Rows.boot_isinstance (aa (pv 4) (aa (pi (v:=.ref CNoRoot) rfl XE.mgNoRoot rfl) ac))) ac))))))))
   (ai (ay (gF (Ez (K:=K) rfl hu2) (pv 3) (aV (aa cW (aa cW (aa cW ac)))) (aG _)))))),?_⟩
  refine av ⟨M9 _,λp0 hp0=>?_⟩;have s0:=Same.upd_new (o:=.lst []) hp0;show cg _ _ _ _ _;refine cZ (λσ' H'=>σ'=[some (.int kind),some (.ref a),some (.ref sp),some (.ref p0),none]/\Same H H') ⟨rfl,s0⟩ ?_;rintro σ' H1 ⟨rfl,s1⟩;refine gz (λσ' H'=>∃pk:Addr,σ'=[some (.int kind),some (.ref a),some (.ref sp),some (.ref pk),none]/\H' pk=some (.lst ([true,true,false].map V.bl))) ?_ (λrest=>?_)
  rotate_left
  ·refine⟨_,rfl,_,rfl,_,rfl,?_⟩;refine kh ?_;change ln C CN CTooGreat _ H1 _ _;refine⟨kind,a,sp,t,b,c,m,kp,p,q,l1,l2,h1,h2,rfl,h.same s1,λ_ H' s'=>⟨XE.hit_TooGreat_RootError,λea oe vs ce de fe he=>?_⟩,λz=>absurd hG z⟩;refine cP (DC (rh (rg ⟨_,rfl,HZ ce XE.clsTooGreat XE.is_TooGreat_ValueError ?_⟩)));refine rh (rg ⟨_,rfl,zi ce XE.clsTooGreat XE.is_TooGreat_TooGreat ?_⟩);refine rh (rg ⟨_,rfl,zi ce XE.clsTooGreat XE.is_TooGreat_NoRoot ?_⟩);refine kh ⟨by show 3<=sizeLine;decide,λpk hpk=>?_⟩;exact rest _ _ ⟨pk,rfl,ao⟩
  rintro σ' H2 ⟨pk,rfl,ek⟩;refine aX ⟨_,rfl,by show 3<=sizeLine;decide,λpb hpb=>?_⟩;exact⟨pk,pb,_,rfl,rfl,SqL.of ((Same.upd_new hpb) _ _ ek),SqL.of (ao (o:=.lst ([true,true,false].map V.bl))),kk _⟩
def qJ(C:Addr):Sp:=λvs H Q _=>∃(a sp:Addr) (t b c:Int) (m:Nat) (kp:List Int) (p q:Addr) (h1 h2:Int),vs=[.ref a,.ref sp]/\Lin t b/\H a=some (.lst (kp.map V.int))/\Made kp c [([-t,b],m)]/\H sp=some (.tup [.ref p,.ref q])/\RA C H q h1 h2/\0<h2/\Bits 740 h1/\Bits 740 h2/\Nat.gcd h1.natAbs h2.natAbs=1/\t*h2<=h1*b/\∀H',Same H H'->Q (.bl true) H'
theorem FE{C CN f:Addr}{fd:FuncData}(F:Fun K "_law_missed" "_law_missed" jW f fd)(T:Txt K mg)(R:RCI K mg C){CTooGreat CNoRoot CTooHigh CRootError:Addr}(XE:EXC K mg base CTooGreat CNoRoot CTooHigh CRootError){ie:Addr}{hJ:FuncData}(iJ:CalVE P w K mg base 39 "number" ["row","low","high"] (eQ C CN CNoRoot CTooGreat) ie hJ){uD:Addr}{ud:FuncData}(wg:MCal P w K mg base 4 C "plus" ["self","other"] (oC C) uD ud){bA:Addr}{bz:FuncData}{bC:List Value}(bF:KCal P w K mg base 2 C "Ratio" ["self","top","bottom"] (cD C) bA bz bC [.int 1]){uA:Addr}{ua:FuncData}(wc:Cal P w K mg base 1 "_law_whole" ["_law_found"] ot uA ua){uG:Addr}{ug:FuncData}(C_NoRoot:XCal P w K mg base 1 CNoRoot "NoRoot" "many" ["self","many"] uG ug):FnOk P w K mg base CX0 42 f fd ["_law_kp","_law_span"] (qJ C):=by
 obtain⟨gg,fO,fQ,kP,vt,nD⟩:=iJ;obtain⟨vO,rZ,vo⟩:=wg;obtain⟨bn,bj,bh,bV,cu,cs⟩:=bF;obtain⟨vM,sG,sY,vm⟩:=wc;refine F.ok sc__law_missed (λvs H Q E h=>?_) (λcdv A outer s H vs Q E hr h=>?_)
 ·obtain⟨a,sp,t,b,c,m,kp,p,q,h1,h2,rfl,_⟩:=h;rfl
 ·obtain⟨a,sp,t,b,c,m,kp,p,q,h1,h2,rfl,hL,hA,hM,ht,hq,h2p,b1,b2,hg,hi,kk⟩:=h
  refine⟨_,(af (ak (i:=2) sc__law_missed.nd rfl (Or.inl rfl) ky)
   (af (ak (i:=3) sc__law_missed.nd rfl (Or.inl rfl) cW)
   (af (D1 rfl rfl (lN gg (hr.mono) (λ_=>rfl) fO fQ kP .nil (λ_=>(aa (pv 0) (aa (aH (aY (K:=K) rfl) (pv 1) ad (λ_ _=>rfl)) (aa (eY (aH (aY (K:=K) rfl) (pv 1) ad (λ_ _=>rfl)) R.cl rZ vO (hr.mono) vo .nil ah (aa (cv bj bn (hr.mono) rfl bh cu cs ah (aa ad ac)) ac)) ac))))) (λ_ _=>rfl) XE.mgNoRoot (λ_ _=>rfl) XE.mgTooGreat sc__law_missed.nd (i:=4) rfl rfl (λea oe=>(ai (ak (i:=2) sc__law_missed.nd rfl (Or.inl rfl) (Ei (pv 4) rfl)))) (λea oe=>(ai (ak (i:=3) sc__law_missed.nd rfl (Or.inl rfl) cW))))
   (ai (ay (gH (rH (pv 3)) (gH (al vM (hr.mono) rfl sG sY vm .nil ah (aa (pv 2) ac)) (lY (gF cI (pv 2) ad (aG _)))))))))),?_⟩
  refine av (av ?_);show cg _ _ _ _ _;refine cZ (λσ' H'=>σ'=[some (.ref a),some (.ref sp),some .non,some (.bl false),none]/\H=H') ⟨rfl,rfl⟩ ?_;rintro σ' H1 ⟨rfl,rfl⟩;obtain⟨dq,hq'⟩:=id hq;obtain⟨tW,nW,_⟩:=eN hM.use hM.c0;rw[<- hM.is]at tW nW;obtain⟨kb,hB⟩:=tf (kp.take (kp.length-1)) (l:=(ar kp).natAbs) (NP.mpr (gS tW nW));refine gz (λσ' H'=>σ'=[some (.ref a),some (.ref sp),some (.int 0),some (.bl false),none]/\Same H H') ?_ (λrest=>?_)
  rotate_left
  ·refine⟨_,rfl,_,rfl,sp,_,_,_,rfl,rfl,SqT.of ht,rfl,_,rfl,sp,_,_,_,rfl,rfl,SqT.of ht,rfl,q,dq,_,rfl,hq',fS _ _ pz.1 pz.2,cE (t:=1) (b:=1) (by decide) (b1k (by decide)) λr H2 s2 hr2 hR=>?_⟩;rw[kf,ki]at hR;refine⟨q,r,h1,h2,1,1,740,1,rfl,hq.same s2,hR,b1.mono,b2,b1k (by decide),b1k (by decide),by decide,h2p,by decide,λr2 H3 s3 hr3 hR3=>?_⟩;have n0:h2*1≠0:=by omega
   have t3:=s2.trans s3;refine kh ?_;change eQ C CN CNoRoot CTooGreat _ H3 _ _;have bs:Bits 742 (h1*1+1*h2):=by rw[Nw,Nh];exact(b1.add b2).mono
   refine⟨a,.ref q,.ref r2,kp,c,_,[[t,0,b]],h1,h2,_,_,kb,rfl,t3 _ _ hA,hM,pM hL m,hL.whlB,hB,.inr ⟨q,rfl,hq.same t3⟩,.inr ⟨r2,rfl,hR3⟩,⟨h2p,dI n0,b1.mono,b2.mono,(fG n0 bs).mono,(eT n0 (by rw[Nw];exact b2)).mono,hg,kj n0⟩,λ_=>?_,λz=>absurd (Lin.zero hi) (by rw[z];decide),λz=>absurd (Lin.zero hi) (by rw[z];decide)⟩;rw[Lin.zero hi];intro H' dx s' ed;refine .inl ⟨XE.hit_NoRoot_NoRoot,λea oe vs ce de fe he=>?_⟩;have lk:([(("many":Str),V.int 0)]:List (Str×V)).lookup ("many":Str)=some (V.int 0):=by simp[List.lookup]
   refine cP ⟨_,rfl,_,dx,vs,_,_,rfl,ce,de,fe,C_NoRoot.xc,C_NoRoot.ec,C_NoRoot.na,ed,lk,?_⟩;exact rest _ _ ⟨rfl,t3.trans s'⟩
  rintro σ' H2 ⟨rfl,s2⟩;refine aX (gA (rf ⟨_,rfl,_,rfl,_,rfl,dA ?_⟩));refine gA ⟨_,rfl,_,rfl,_,rfl,dA ⟨_,rfl,_,_,rfl,rfl,?_⟩⟩;have:=kk H2 s2;simpa using this
def qE:Sp:=λvs H Q _=>∃L:Int,vs=[.int L]/\1<=L/\Bits 402 L/\∀H',Q (.bl true) H'
theorem FX{L:Int}(h:1<=L):Fam [[0,-L,1]]/\prQ [[0,-L,1]]=[L,0,1]/\aD [[0,-L,1]]=[]:=by
 have sp:aD [[0,-L,1]]=[]:=by show((if 0 <= -L then _ else[])++(if 0 < -L then _ else[]))++[]=_;rw[if_neg (by omega),if_neg (by omega)];rfl
 have hF:Fam [[0,-L,1]]:=⟨λf hf=>by rw[Nb.mp hf];exact⟨0,-L,1,rfl,trivial,trivial,trivial,trivial,by decide,trivial,.inl (by omega)⟩,by simp,by rw[sp];exact List.Pairwise.nil⟩;exact⟨hF,by rw[lU hF];exact yA h,sp⟩
theorem zy{x y:Int}(h:Gre [x,y,1]):(10:Int)^60*10^60<=(x.natAbs:Int)\/(10:Int)^60*10^60<=(y.natAbs:Int):=by
 obtain⟨z,hz,e⟩:=h;have:z=x\/z=y\/z=1:=by simpa using hz
 rcases this with rfl |rfl |rfl
 ·exact .inl e
 ·exact .inr e
 ·exact absurd e (by decide +kernel)
theorem FC{C CN f:Addr}{fd:FuncData}(F:Fun K "_law_no_root" "_law_no_root" jU f fd)(T:Txt K mg)(R:RCI K mg C){CTooGreat CNoRoot CTooHigh CRootError:Addr}(XE:EXC K mg base CTooGreat CNoRoot CTooHigh CRootError){mW:Addr}{mQ:FuncData}(nR:CalV P w K mg base 39 "roots" ["row"] (gm C CN CTooGreat) mW mQ):FnOk P w K mg base CX0 40 f fd ["_law_last"] qE:=by
 obtain⟨nJ,mw,mG,nr⟩:=nR;refine F.ok sc__law_no_root (λvs H Q E h=>?_) (λcdv A outer s H vs Q E hr h=>?_)
 ·obtain⟨L,rfl,_⟩:=h;rfl
 ·obtain⟨L,rfl,hL,bL,kk⟩:=h;have hu:=hr.units;obtain⟨hF,hpr,hsp⟩:=FX hL;have b6:Bits 1000000 ((10:Int)^60):=b60.mono
  have bl:∀k,402<=k->AllB k ([L,0,1]:List Int):=λk hk x hx=>by
   have:x=L\/x=0\/x=1:=by simpa using hx
   rcases this with rfl |rfl |rfl
   ·exact bL.mono hk
   ·exact Bits.zero
   ·exact b1k (by omega)
  have pri:Pri ([L,0,1]:List Int):=by have:=fT (hF.fac _ (Nb.mpr rfl));rw[yA hL]at this;exact this
  have eI:fP id [(([L,0,1]:List Int),1)]=[L,0,1]:=by show ae (pw [L,0,1] 1) [1]=_;rw[cz,dJ]
  have hM:Made [L,0,1] 1 [(([L,0,1]:List Int),1)]:=by
   refine⟨by rw[cV,eI];show _=[1*L,1*0,1*1];simp,by decide,b1k (by decide),⟨λp hp=>by rw[Nb.mp hp];exact pri,λp hp=>by rw[Nb.mp hp];exact MZ _,by simp⟩,by show 1*(3-1)+0<=2;decide,by show 2<=3;decide,by rw[eI];exact bl 830 (by decide),?_⟩;show AllB 830 (ae (pw [L,0,1] 0) [1]);rw[cz]
   exactλx hx=>by rw[Nb.mp hx];exact b1k (by decide)
  have hfl:flt [(([L,0,1]:List Int),1)]=prQ [[0,-L,1]]:=by rw[hpr];show ae (pw [L,0,1] 1) [1]=_;rw[cz,dJ]
  have hgr:Gre (prQ [[0,-L,1]])↔(10:Int)^60*10^60<=L:=by
   rw[hpr];constructor
   ·intro h;rcases zy h with z |z
    ·rw[Int.natAbs_of_nonneg (by omega)]at z;exact z
    ·exact absurd z (by decide +kernel)
   ·intro h;exact⟨L,by simp,by rw[Int.natAbs_of_nonneg (by omega)];exact h⟩
  refine⟨_,(af (ak (i:=1) sc__law_no_root.nd rfl (Or.inl rfl) ky)
   (af (ak (i:=2) sc__law_no_root.nd rfl (Or.inl rfl) cW)
   (af (x8 rfl rfl (rK (lN nJ (hr.mono) (λ_=>rfl) mw mG nr .nil (λ_=>(aa (aV (aa (pv 0) (aa ad (aa ad ac)))) ac))) sc__law_no_root.nd (i:=1) rfl (Or.inl rfl)) (λ_ _=>rfl) XE.mgTooGreat (λea oe=>(ai (ak (i:=2) sc__law_no_root.nd rfl (Or.inl rfl) cW))))
   (af (aS (aJ md (pv 0) (aj aO (aj cQ ad ad) (aj cQ ad ad)) (aG _))
     (ai (ay (pv 2)))
     aU)
   (ai (ay (gH (rH (pv 2)) (gH (aT (iq (K:=K) rfl) (by rfl) T.isinstance_ PyProof.Rows.boot_isinstance (aa (pv 1) (aa (gG (v:=.ty "list") (by rfl) T.list_ PyProof.Rows.boot_list (by rfl)) ac))) (lY (gF (gJ (K:=K) rfl hu) (pv 1) (aV ac) (aG _))))))))))),?_⟩
  refine av (av ?_);show cg _ _ _ _ _;refine cZ (λσ' H'=>σ'=[some (.int L),some .non,some (.bl false)]/\H=H') ⟨rfl,rfl⟩ ?_;rintro σ' H1 ⟨rfl,rfl⟩;refine gz (λσ' H'=>(Gre (prQ [[0,-L,1]])/\σ'=[some (.int L),some .non,some (.bl true)])\/(¬Gre (prQ [[0,-L,1]])/\∃pf,σ'=[some (.int L),some (.ref pf),some (.bl false)]/\H' pf=some (.lst []))) ?_ (λrest=>?_)
  rotate_left
  ·refine⟨_,rfl,by show 3<=sizeLine;decide,λpl hpl=>?_⟩;have s1:=Same.upd_new (o:=.lst [V.int L,V.int 0,V.int 1]) hpl;refine kh ?_;change gm C CN CTooGreat _ (upd H pl (.lst [V.int L,V.int 0,V.int 1])) _ _;refine⟨pl,[L,0,1],1,_,[[0,-L,1]],rfl,ao,hM,hfl,by rw[hpr];exact(by decide:3<=3),λhG H' s'=>⟨XE.hit_TooGreat_TooGreat,λea oe vs ce de fe he=>?_⟩,λhG=>⟨⟨hF,by rw[hpr];show 2<=3;decide,by rw[hpr];exact(by decide:3<=3),pp hG,λf hf=>by rw[Nb.mp hf,<- lU hF];exact⟨pp hG,by rw[hpr];exact(by decide:3<=3)⟩⟩,λf hf s hs=>?_,λp H' xs ys s' hp e hN hri hcv=>?_⟩⟩
   ·exact rest _ _ (.inl ⟨hG,rfl⟩)
   ·exfalso;have:s∈aD [[0,-L,1]]:=Os.mpr ⟨f,hf,hs⟩;rw[hsp]at this;cases this
   ·have hy:ys=[]:=by
     cases ys with
     |nil=>rfl
     |cons y ys =>
      cases xs with
      |nil=>exact absurd hN.1 (by simp)
      |cons x xs =>obtain⟨q,f0,s0,_,_,hO⟩:=hN.2 0 x y rfl rfl;have:s0∈aD [[0,-L,1]]:=Os.mpr ⟨f0,hO.mem,hO.sp⟩;rw[hsp]at this;cases this
    have hx:xs=[]:=Of.mp (by rw[hN.1,hy];rfl);rw[hx]at e;exact rest _ _ (.inr ⟨hG,p,rfl,e⟩)
  intro σ' H2 h2;refine bI ⟨_,(by rcases h2 with⟨_,rfl⟩ |⟨_,pf,rfl,_⟩<;>rfl),_,_,rfl,rfl,⟨by decide,by decide,by decide⟩,_,_,rfl,rfl,⟨by decide,by decide,by decide⟩,_,_,rfl,rfl,⟨b6,b6⟩,_,_,rfl,rfl,_,rfl,aR (λhg=>?_) (λhg=>?_)⟩
  ·have hG:=hgr.mpr hg;rcases h2 with⟨_,rfl⟩ |⟨z,_⟩
   ·exact aX ⟨_,rfl,kk _⟩
   ·exact absurd hG z
  ·rcases h2 with⟨z,_⟩ |⟨_,pf,rfl,ef⟩
   ·exact absurd (hgr.mp z) hg
   ·refine aX (gA (rf ⟨_,rfl,_,rfl,_,rfl,dA ?_⟩));refine gA (gw ⟨_,rfl,kF (.lst ef) (k:=true) (by rfl) ⟨_,rfl,dA ?_⟩⟩);refine⟨_,rfl,M9 _,λp5 hp5=>?_⟩;refine⟨pf,p5,[],[],rfl,rfl,SqL.of ((Same.upd_new hp5) _ _ ef),SqL.of ao,?_⟩;exact kk _
theorem yZ{α β:Type}{I:α->β->Prop}{B:α->α->Prop}{L:β->β->Prop}:∀(ys:List α) (ss:List β),ys.Pairwise B->ss.Pairwise L->(∀y∈ys,∃s∈ss,I y s)->(∀y∈ys,∀s∈ss,∀s'∈ss,I y s->I y s'->¬L s s')->(∀s∈ss,∃y∈ys,I y s)->(∀y∈ys,∀y'∈ys,∀s∈ss,∀s'∈ss,B y y'->L s s'->I y s'->I y' s->False)->(∀y∈ys,∀y'∈ys,∀s∈ss,B y y'->I y s->I y' s->False) ->
 ys.length=ss.length/\∀(i:Nat) (y:α) (s:β),ys[i]?=some y->ss[i]?=some s->I y s
 | [],[],_,_,_,_,_,_,_=>⟨rfl,λi y s h=>by simp at h⟩
 | [],s::ss,_,_,_,_,h3,_,_=>by obtain⟨y,hy,_⟩:=h3 s (M6 ..);cases hy
 |y::ys,[],_,_,h1,_,_,_,_=>by obtain⟨s,hs,_⟩:=h1 y (M6 ..);cases hs
 |y::ys,s::ss,hy,hs,h1,h2,h3,h4,h5=>by
  obtain⟨yb,yr⟩:=Ob.mp hy;obtain⟨sb,sr⟩:=Ob.mp hs;have my:=M6 (a:=y) (l:=ys);have ms:=M6 (a:=s) (l:=ss)
  have hin:I y s:=by
   obtain⟨y',hy',hi⟩:=h3 s ms;rcases Na.mp hy' with z |z
   ·rw[<- z];exact hi
   ·exfalso;obtain⟨s',hs',hi'⟩:=h1 y my;rcases Na.mp hs' with v |v
    ·rw[v]at hi';exact h5 y my y' hy' s ms (yb y' z) hi' hi
    ·exact h4 y my y' hy' s ms s' hs' (yb y' z) (sb s' v) hi' hi
  obtain⟨el,ei⟩:=yZ ys ss yr sr (λy' hy'=>by
   obtain⟨s',hs',hi'⟩:=h1 y' (M0 _ hy');rcases Na.mp hs' with v |v
   ·rw[v]at hi';exact(h5 y my y' (M0 _ hy') s ms (yb y' hy') hin hi').elim
   ·exact⟨s',v,hi'⟩)
   (λy' hy' a ha b hb=>h2 y' (M0 _ hy') a (M0 _ ha) b (M0 _ hb))
   (λs' hs'=>by
     obtain⟨y',hy',hi'⟩:=h3 s' (M0 _ hs');rcases Na.mp hy' with v |v
     ·rw[v]at hi';exact(h2 y my s ms s' (M0 _ hs') hin hi' (sb s' hs')).elim
     ·exact⟨y',v,hi'⟩)
   (λa ha b hb c hc d hd=>h4 a (M0 _ ha) b (M0 _ hb) c (M0 _ hc) d (M0 _ hd))
   (λa ha b hb c hc=>h5 a (M0 _ ha) b (M0 _ hb) c (M0 _ hc))
  refine⟨by rw[Nq,Nq,el],λi z t e1 e2=>?_⟩;cases i with
  |zero=>simp at e1 e2;rw[<- e1,<- e2];exact hin
  |succ j=>exact ei j z t (by simpa using e1) (by simpa using e2)
theorem wA(far:Int):ae [-1,1] [-far,1]=[far,-1-far,1]:=by
 refine cN rfl λk hk=>?_
 rw[aI];have hk':k<3:=hk
 match k,hk' with
 |0,_=>show(0:Int)+_+_=far;simp[tm,cf]
 |1,_=>show(0:Int)+_+_ = -1-far;simp[tm,cf];omega
 |2,_=>show(0:Int)+_+_=1;simp[tm,cf]
theorem sh1(t:Int):ax [t,0,1]=[-t,1]:=kD (by decide) (OB _)
theorem iO(far:Int):aD [[1,0,1],[far,0,1]]=[[1,0,1,1],[far,0,1,1]]:=by show spF [1,0,1]++(spF [far,0,1]++[])=_;rw[fD,fD];rfl
theorem at1{u t n:Int}:0<aq [u,0,1,1] t n↔t<u*n:=by rw[side_line,Nh]
theorem n5{far:Int}(h:2<=far):Fam [[1,0,1],[far,0,1]]/\prQ [[1,0,1],[far,0,1]]=[far,-1-far,1]:=by
 have hF:Fam [[1,0,1],[far,0,1]]:=by
  refine⟨λf hf=>?_,?_,?_⟩
  ·rcases Na.mp hf with z |z
   ·rw[z];exact kJ (by decide)
   ·rw[Nb.mp z];exact kJ (by decide)
  ·show[ax [1,0,1],ax [far,0,1]].Nodup;rw[sh1,sh1];simp;omega
  ·rw[iO];refine List.pairwise_pair.mpr λA B D hD hw a1 a2=>?_
   have j1:=at1.mp a1.1;have j2:¬B<far*D:=λz=>by have:=at1.mpr z;have:=a2.2;omega
   have d0:(2:Int)^200>128:=by decide +kernel
   generalize (2:Int)^200=X at hD d0
   have q:=Ny h (show 0<=D by omega);omega
 refine⟨hF,?_⟩;rw[hF.prd];show ae (ax [1,0,1]) (ae (ax [far,0,1]) [1])=_;rw[cz,sh1,sh1,wA]
noncomputable def usT(far:Int):List (List Int×Nat):=[([-1,1],1),([-far,1],1)]
theorem Bk{far:Int}(h:2<=far)(hb:Bits 402 far):Made [far,-1-far,1] 1 (usT far)/\flt (usT far)=prQ [[1,0,1],[far,0,1]]:=by
 obtain⟨hF,hpr⟩:=n5 h
 have eI:∀g:Nat->Nat,g 1=1->fP g (usT far)=[far,-1-far,1]:=λg hg=>by show ae (pw [-1,1] (g 1)) (ae (pw [-far,1] (g 1)) [1])=_;rw[hg,cz,dJ,dJ,wA]
 have b3:AllB 830 ([far,-1-far,1]:List Int):=λx hx=>by
  have:x=far\/x = -1-far\/x=1:=by simpa using hx
  rcases this with rfl |rfl |rfl
  ·exact hb.mono
  ·exact Bits.mono (Bits.sub (k:=402) (Bits.mono (j:=1) (by show(-1:Int).natAbs<2^1;decide) (by decide)) hb) (by decide)
  ·exact b1k (by decide)
 have pri:∀p∈usT far,Pri p.1:=λp hp=>by
  rcases Na.mp hp with z |z
  ·rw[z];have:=fT (kJ (t:=1) (b:=1) (by decide));rwa [sh1]at this
  ·rw[Nb.mp z];have:=fT (kJ (t:=far) (b:=1) (by decide));rwa [sh1]at this
 refine⟨⟨?_,by decide,b1k (by decide),⟨pri,λp hp=>?_,?_⟩,(by show 1*(2-1)+(1*(2-1)+0)<=2;decide),(by show 2<=3;decide),by rw[eI id rfl];exact b3,?_⟩,?_⟩
 ·rw[cV,eI id rfl];show _=[1*far,1*(-1-far),1*1];rw[Nh,Nh];rfl
 ·rcases Na.mp hp with z |z
  ·rw[z];exact MZ _
  ·rw[Nb.mp z];exact MZ _
 ·show[[-1,1],[-far,1]].Nodup;simp;omega
 ·show AllB 830 (ae (pw [-1,1] 0) (ae (pw [-far,1] 0) [1]));rw[cz];show AllB 830 (ae [1] [1]);rw[cz]
  exactλx hx=>by rw[Nb.mp hx];exact b1k (by decide)
 ·rw[hpr];exact eI yu rfl
theorem Bl{far:Int}(h:2<=far):Gre (prQ [[1,0,1],[far,0,1]])↔(10:Int)^60*10^60<=1+far:=by
 rw[(n5 h).2];generalize hY:(10:Int)^60*10^60=Y;constructor
 ·intro z;have:=zy z;rw[hY]at this;omega
 ·intro z;exact⟨-1-far,by simp,by rw[hY];omega⟩
theorem wz{far:Int}(h:2<=far)(hG:¬Gre (prQ [[1,0,1],[far,0,1]])):Whl [[1,0,1],[far,0,1]]:=by
 obtain⟨hF,hpr⟩:=n5 h;have hb:=pp hG;refine⟨hF,by rw[hpr];show 2<=3;decide,by rw[hpr];exact MZ 3,hb,λf hf=>?_⟩;have b1:Bits 400 far:=by rw[hpr]at hb;exact hb far (by simp)
 rcases Na.mp hf with z |z
 ·rw[z,sh1];exact⟨iA (Bits.mono (j:=1) (by show(-1:Int).natAbs<2^1;decide) (by decide)) (b1k (by decide)),(by show 2<=3;decide)⟩
 ·rw[Nb.mp z,sh1];exact⟨iA b1.neg (b1k (by decide)),(by show 2<=3;decide)⟩
theorem qq{far:Int}(h:2<=far){f0 s0:List Int}{l1 l2 h1 h2:Int}(hO:OneS [[1,0,1],[far,0,1]] f0 s0 l1 l2 h1 h2)(u:Int)(hu:u=1\/u=far)(a:0<aq [u,0,1,1] l1 l2)(b:aq [u,0,1,1] h1 h2<=0):f0=[u,0,1]:=by
 have hm:[u,0,1,1]∈aD [[1,0,1],[far,0,1]]:=by rw[iO];rcases hu with rfl |rfl<;>simp
 have e:=hO.only _ hm a b;have hs:=hO.sp;rw[<- e]at hs;exact B9 (hO.fam.q f0 hO.mem) hs
theorem Bm{C CN:Addr}{H:Hp}{far:Int}(h:2<=far){xs:List Addr}{ys:List Cel}(hN:NsH C CN H [[1,0,1],[far,0,1]] xs ys)(hri:cO ys)(hcv:∀s∈aD [[1,0,1],[far,0,1]],cov s ys):xs.length=2/\∀(i:Nat) (x:Addr) (u:Int),xs[i]?=some x->[1,far][i]?=some u->∃q l h,NA CN H x q l h/\H q=some (.lst ([-u,1].map V.int)):=by
 have nm:∀y∈ys,∃f0 s0,OneS [[1,0,1],[far,0,1]] f0 s0 y.l1 y.l2 y.h1 y.h2:=λy hy=>by
  obtain⟨i,hi,ei⟩:=List.mem_iff_getElem.mp hy;have hx:i<xs.length:=by rw[hN.1];exact hi
  obtain⟨q,f0,s0,_,_,hO⟩:=hN.2 i xs[i] ys[i] (List.getElem?_eq_getElem hx) (List.getElem?_eq_getElem hi);rw[ei]at hO;exact⟨f0,s0,hO⟩
 have two:∀u∈[1,far],u=1\/u=far:=λu hu=>by simpa using hu
 have low:∀{x y:Cel} {u v:Int},0<x.h2->0<y.l2->hiR x<=loR y->aq [u,0,1,1] x.h1 x.h2<=0->0<aq [v,0,1,1] y.l1 y.l2->u<v:=λ{x y u v} hx hy hB a b=>by
  have c:=Ag hx hy hB;have j1:=at1.mp b;have j2:¬x.h1<u*x.h2:=λz=>by have:=at1.mpr z;omega
  have q1:=NU j1 hx;have q2:=Ny (Ou.mp j2) (M7 hy);have e1:u*x.h2*y.l2=u*(x.h2*y.l2):=by grind
  have e2:v*y.l2*x.h2=v*(x.h2*y.l2):=by grind
  exact Oq (a:=x.h2*y.l2) (by omega) (M7 (M8 hx hy))
 have key:ys.length=[1,far].length/\∀(i:Nat) (y:Cel) (u:Int),ys[i]?=some y->[1,far][i]?=some u->0<aq [u,0,1,1] y.l1 y.l2/\aq [u,0,1,1] y.h1 y.h2<=0:=by
  refine yZ (I:=λ(y:Cel) (u:Int)=>0<aq [u,0,1,1] y.l1 y.l2/\aq [u,0,1,1] y.h1 y.h2<=0) (B:=λx y=>hiR x<=loR y) (L:=λ(u v:Int)=>u<v) ys [1,far] hri (by simp;omega) (λy hy=>?_) (λy hy u hu v hv a b c=>?_) (λu hu=>?_) (λy hy y' hy' u hu v hv hB hL a b=>?_) (λy hy y' hy' u hu hB a b=>?_)
  ·obtain⟨f0,s0,hO⟩:=nm y hy;have hs:s0∈aD [[1,0,1],[far,0,1]]:=Os.mpr ⟨f0,hO.mem,hO.sp⟩;rw[iO]at hs;rcases Na.mp hs with z |z
   ·exact⟨1,by simp,by rw[<- z];exact hO.inn⟩
   ·exact⟨far,by simp,by rw[<- Nb.mp z];exact hO.inn⟩
  ·obtain⟨f0,s0,hO⟩:=nm y hy;have e1:=qq h hO u (two u hu) a.1 a.2;have e2:=qq h hO v (two v hv) b.1 b.2;rw[e1]at e2;have:u=v:=by simpa using e2
   omega
  ·exact hcv [u,0,1,1] (by rw[iO];rcases two u hu with rfl |rfl<;>simp)
  ·obtain⟨f0,s0,hO⟩:=nm y hy;obtain⟨f1,s1,hO'⟩:=nm y' hy';have:=low hO.h2p hO'.l2p hB a.2 b.1;omega
  ·obtain⟨f0,s0,hO⟩:=nm y hy;obtain⟨f1,s1,hO'⟩:=nm y' hy';have:=low hO.h2p hO'.l2p hB a.2 b.1;omega
 obtain⟨el,em⟩:=key;refine⟨by rw[hN.1,el];rfl,λi x u h1 h2=>?_⟩;have hi:i<ys.length:=by rw[el];exact(List.getElem?_eq_some_iff.mp h2).1
 have gy:ys[i]?=some ys[i]:=List.getElem?_eq_getElem hi;obtain⟨a,b⟩:=em i _ u gy h2;obtain⟨q,f0,s0,na,eq,hO⟩:=hN.2 i x _ h1 gy;rw[qq h hO u (two u (List.mem_of_getElem? h2)) a b,sh1]at eq;exact⟨q,_,_,na,eq⟩
def qF:Sp:=λvs H Q _=>∃far kind:Int,vs=[.int far,.int kind]/\2<=far/\Bits 402 far/\0<=kind/\kind<=1/\∀H',Q (.bl true) H'
def Tld(CN:Addr)(H:Hp)(xs:List Addr)(far kind:Int):Prop:=(xs.length:Int)=1+kind/\∀(i:Nat) (x:Addr) (u:Int),xs[i]?=some x->[1,far][i]?=some u->∃q l h,NA CN H x q l h/\H q=some (.lst ([-u,1].map V.int))
theorem FD{C CN f:Addr}{fd:FuncData}(F:Fun K "_law_near_one" "_law_near_one" jV f fd)(T:Txt K mg)(R:RCI K mg C){CTooGreat CNoRoot CTooHigh CRootError:Addr}(XE:EXC K mg base CTooGreat CNoRoot CTooHigh CRootError){ie:Addr}{hJ:FuncData}(iJ:CalVE P w K mg base 39 "number" ["row","low","high"] (eQ C CN CNoRoot CTooGreat) ie hJ){bA:Addr}{bz:FuncData}{bC:List Value}(bF:KCal P w K mg base 2 C "Ratio" ["self","top","bottom"] (cD C) bA bz bC [.int 1]){mW:Addr}{mQ:FuncData}(nR:CalV P w K mg base 39 "roots" ["row"] (gm C CN CTooGreat) mW mQ){uB:Addr}{ub:FuncData}(we:Cal P w K mg base 3 "_law_told" ["_law_found","_law_due"] (ou CN) uB ub):FnOk P w K mg base CX0 42 f fd ["_law_far","_law_kind"] qF:=by
 obtain⟨gg,fO,fQ,kP,vt,nD⟩:=iJ;obtain⟨bn,bj,bh,bV,cu,cs⟩:=bF;obtain⟨nJ,mw,mG,nr⟩:=nR;obtain⟨qm,pL,pO,qk⟩:=we;refine F.ok sc__law_near_one (λvs H Q E h=>?_) (λcdv A outer s H vs Q E hr h=>?_)
 ·obtain⟨far,kind,rfl,_⟩:=h;rfl
 ·obtain⟨far,kind,rfl,hf,bf,k0,k1,kk⟩:=h;have hu:=hr.units;have b6:Bits 1000000 ((10:Int)^60):=b60.mono;obtain⟨hF,hpr⟩:=n5 hf;obtain⟨hM,hfl⟩:=Bk hf bf;have hgr:=Bl hf;have h3:(prQ [[1,0,1],[far,0,1]]).length=3:=by rw[hpr];rfl
  have b74:AllB 740 (prQ [[1,0,1],[far,0,1]]):=by
   rw[hpr];intro x hx;have:x=far\/x = -1-far\/x=1:=by simpa using hx
   rcases this with rfl |rfl |rfl
   ·exact bf.mono
   ·exact Bits.mono (Bits.sub (k:=402) (Bits.mono (j:=1) (by show(-1:Int).natAbs<2^1;decide) (by decide)) bf) (by decide)
   ·exact b1k (by decide)
  refine⟨_,(af (ak (i:=2) sc__law_near_one.nd rfl (Or.inl rfl) ky)
   (af (ak (i:=3) sc__law_near_one.nd rfl (Or.inl rfl) cW)
   (af (ak (i:=4) sc__law_near_one.nd rfl (Or.inl rfl) (aV (aa (pv 0) (aa (aj cw (bJ bG ad) (pv 0)) (aa ad ac)))))
   (af (x8 rfl rfl (Eo (λ_=>(aJ cI (pv 1) ad (aG _))) (rK (DX (lN gg (hr.mono) (λ_=>rfl) fO fQ kP .nil (λ_=>(aa (pv 4) (aa (cv bj bn (hr.mono) rfl bh cu cs ah (aa ad ac)) (aa (cv bj bn (hr.mono) rfl bh bV .nil ah (aa ad (aa ad ac))) ac)))))) sc__law_near_one.nd (i:=2) rfl (Or.inl rfl)) (rK (lN nJ (hr.mono) (λ_=>rfl) mw mG nr .nil (λ_=>(aa (pv 4) ac))) sc__law_near_one.nd (i:=2) rfl (Or.inl rfl))) (λ_ _=>rfl) XE.mgTooGreat (λea oe=>(ai (ak (i:=3) sc__law_near_one.nd rfl (Or.inl rfl) cW))))
   (af (aS (aJ md (aj bQ ad (pv 0)) (aj aO (aj cQ ad ad) (aj cQ ad ad)) (aG _))
     (ai (ay (pv 3)))
     aU)
   (af (aS (PW.pt (lP (eV (pv 3)) (lP (kn (eV (aT (iq (K:=K) rfl) (by rfl) T.isinstance_ PyProof.Rows.boot_isinstance (aa (pv 2) (aa (gG (v:=.ty "list") (by rfl) T.list_ PyProof.Rows.boot_list (by rfl)) ac))))) (lP (aJ fL (aT (cH (K:=K) rfl) (by rfl) T.len_ PySem.boot_len (aa (pv 2) ac)) (aj bQ ad (pv 1)) (aG _)) (rm (kn (eV (al qm (hr.mono) rfl pL pO qk .nil ah (aa (aH (bK (K:=K) rfl) (pv 2) ad (λ_ _=>rfl)) (aa (aV (aa (bJ bG ad) (aa ad ac))) ac))))))))))
     (ai (ay cW))
     aU)
   (ai (ay (Ek (gF cI (pv 1) ad (aG _)) (lY (al qm (hr.mono) rfl pL pO qk .nil ah (aa (aH (bK (K:=K) rfl) (pv 2) ad (λ_ _=>rfl)) (aa (aV (aa (bJ bG (pv 0)) (aa ad ac))) ac))))))))))))),?_⟩
  refine av (av (av ⟨_,rfl,_,rfl,_,rfl,_,_,rfl,rfl,by show 3<=sizeLine;decide,λpk hpk=>?_⟩));have s1:=Same.upd_new (o:=.lst [V.int far,V.int (-1-far),V.int 1]) hpk;have ek:upd H pk (.lst [V.int far,V.int (-1-far),V.int 1]) pk=some (.lst (([far,-1-far,1]:List Int).map V.int)):=ao;show cg _ _ _ _ _;refine cZ (λσ' H'=>σ'=[some (.int far),some (.int kind),some .non,some (.bl false),some (.ref pk)]/\upd H pk (.lst [V.int far,V.int (-1-far),V.int 1])=H') ⟨rfl,rfl⟩ ?_;rintro σ' H1 ⟨rfl,rfl⟩;generalize upd H pk (.lst [V.int far,V.int (-1-far),V.int 1])=H1 at ek ⊢
  refine gz (λσ' H'=>(Gre (prQ [[1,0,1],[far,0,1]])/\σ'=[some (.int far),some (.int kind),some .non,some (.bl true),some (.ref pk)])\/(¬Gre (prQ [[1,0,1],[far,0,1]])/\∃(pf:Addr) (xs:List Addr),σ'=[some (.int far),some (.int kind),some (.ref pf),some (.bl false),some (.ref pk)]/\H' pf=some (.lst (xs.map V.ref))/\Tld CN H' xs far kind)) ?_ (λrest=>?_)
  rotate_left
  ·refine⟨_,rfl,_,_,rfl,rfl,_,rfl,aR (λz=>?_) (λz=>?_)⟩
   ·have z':kind=0:=z;refine⟨_,rfl,cE (t:=0) (b:=1) (by decide) (b1k (by decide)) λr1 H2 s2 hr1 hR1=>cE (t:=3) (b:=2) (by decide) (Bits.mono (j:=2) (by show(2:Int).natAbs<2^2;decide) (by decide)) λr2 H3 s3 hr2 hR2=>?_⟩;have e1:rt 0 1=0/\rb 0 1=1/\rt 3 2=3/\rb 3 2=2:=by decide +kernel
    rw[e1.1,e1.2.1]at hR1;rw[e1.2.2.1,e1.2.2.2]at hR2;have t3:=s2.trans s3;have en:EndB 980 0 1 3 2:=⟨by decide,by decide,Bits.zero,b1k (by decide),Bits.mono (j:=2) (by show(3:Int).natAbs<2^2;decide) (by decide),Bits.mono (j:=2) (by show(2:Int).natAbs<2^2;decide) (by decide),by decide,by decide⟩;have i1:0<aq [1,0,1,1] 0 1:=at1.mpr (by decide);have i2:aq [1,0,1,1] 3 2<=0:=Ou.mp λz=>absurd (at1.mp z) (by decide)
    have i3:0<aq [far,0,1,1] 3 2:=at1.mpr (by omega)
    have cn:bE (aD [[1,0,1],[far,0,1]]) 0 1 3 2=1:=by rw[iO,dj,if_pos ⟨i1,i2⟩,dj,if_neg (λz=>by have:=z.2;omega)];rfl
    have mn:dg [[1,0,1],[far,0,1]] 0 1 3 2=1:=by unfold dg;rw[if_pos (by decide)];exact cn
    obtain⟨tW,nW,_⟩:=eN hM.use hM.c0;rw[<- hM.is]at tW nW;obtain⟨kb,hB⟩:=tf (([far,-1-far,1]:List Int).take (([far,-1-far,1]:List Int).length-1)) (l:=(ar [far,-1-far,1]).natAbs) (NP.mpr (gS tW nW));refine kh ?_;change eQ C CN CNoRoot CTooGreat _ H3 _ _;refine⟨pk,.ref r1,.ref r2,[far,-1-far,1],1,_,[[1,0,1],[far,0,1]],0,1,3,2,kb,rfl,t3 _ _ ek,hM,hfl,⟨hF,by omega,by omega,b74⟩,hB,.inr ⟨r1,rfl,hR1.same s3⟩,.inr ⟨r2,rfl,hR2⟩,en,λz=>absurd mn z,λ_ hG H' s'=>⟨XE.hit_TooGreat_TooGreat,λea oe vs ce de fe he=>?_⟩,λ_ hG=>⟨[1,0,1],[1,0,1,1],⟨wz hf hG,⟨hF,by simp,by rw[fD];simp,by decide,by decide,by decide,⟨i1,i2⟩,λs hs a b=>?_⟩,cn,(en.en (by decide)).mono,rfl⟩,λx q l h H' s' hx na _ _ eq _=>?_⟩⟩
    ·exact rest _ _ (.inl ⟨hG,rfl⟩)
    ·rw[iO]at hs;rcases Na.mp hs with y |y
     ·exact y
     ·rw[Nb.mp y]at b;omega
    ·rw[sh1]at eq;intro pf hpf;have sf:=Same.upd_new (o:=.lst [V.ref x]) hpf;refine rest _ _ (.inr ⟨hG,pf,[x],rfl,ao,by rw[z'];rfl,λi y u h1 h2=>?_⟩)
     match i,h1,h2 with
     |0,h1,h2 =>
      obtain rfl:x=y:=by simpa using h1
      obtain rfl:1=u:=by simpa using h2
      exact⟨q,l,h,na.same sf,sf _ _ eq⟩
   ·have z':kind=1:=by have:¬kind=0:=z;omega
    refine⟨_,rfl,?_⟩;refine kh ?_;change gm C CN CTooGreat _ H1 _ _;refine⟨pk,[far,-1-far,1],1,_,[[1,0,1],[far,0,1]],rfl,ek,hM,hfl,by omega,λhG H' s'=>⟨XE.hit_TooGreat_TooGreat,λea oe vs ce de fe he=>?_⟩,λhG=>⟨wz hf hG,λf hf' s hs=>?_,λp H' xs ys s' hp e hN hri hcv=>?_⟩⟩
    ·exact rest _ _ (.inl ⟨hG,rfl⟩)
    ·rcases Na.mp hf' with y |y
     ·rw[y];rfl
     ·rw[Nb.mp y];rfl
    ·obtain⟨y1,y2⟩:=Bm hf hN hri hcv;exact rest _ _ (.inr ⟨hG,p,xs,rfl,e,by rw[y1,z'];rfl,y2⟩)
  intro σ' H2 h2;refine bI ⟨.int far,(by rcases h2 with⟨_,rfl⟩ |⟨_,pf,xs,rfl,_⟩<;>rfl),_,_,rfl,rfl,_,_,rfl,rfl,⟨by decide,by decide,by decide⟩,_,_,rfl,rfl,⟨by decide,by decide,by decide⟩,_,_,rfl,rfl,⟨b6,b6⟩,_,_,rfl,rfl,_,rfl,aR (λhg=>?_) (λhg=>?_)⟩
  ·have hG:=hgr.mpr hg;rcases h2 with⟨_,rfl⟩ |⟨z,_⟩
   ·exact aX ⟨_,rfl,kk _⟩
   ·exact absurd hG z
  rcases h2 with⟨z,_⟩ |⟨_,pf,xs,rfl,ef,hl,hT⟩
  ·exact absurd (hgr.mp z) hg
  have hxm:((xs.map V.ref).length:Int)=1+kind:=by rw[MY];exact hl
  have h0:0<xs.length:=by omega
  have g0:xs[0]?=some xs[0]:=List.getElem?_eq_getElem h0;obtain⟨q0,l0,hh0,na0,eq0⟩:=hT 0 xs[0] 1 g0 rfl;generalize xs[0]=x0 at g0 na0
  refine bI (oV ⟨_,rfl,_,rfl,da ?_⟩);refine oV (lH (rj (gw ⟨_,rfl,kF (.lst ef) (k:=true) (by rfl) ⟨_,rfl,da ?_⟩⟩)));refine oV ⟨_,rfl,pf,_,rfl,.inl (SqL.of ef),_,rfl,_,_,rfl,rfl,_,_,rfl,rfl,_,rfl,cK (λz=>absurd hxm z) (λ_=>?_)⟩;refine lH ⟨_,rfl,pf,_,_,_,rfl,rfl,SqL.of ef,(show atI (xs.map V.ref) ((0:Nat):Int)=some (.ref x0)from gd (by rw[List.getElem?_map,g0];rfl)),_,rfl,by show 2<=sizeLine;decide,λpb hpb=>?_⟩;have s3:=Same.upd_new (o:=.lst [V.int (-1),V.int 1]) hpb;refine⟨x0,q0,l0,hh0,pb,[-1,1],rfl,na0.same s3,s3 _ _ eq0,ao,_,rfl,da ?_⟩;refine aX (DB ⟨_,rfl,_,_,rfl,rfl,_,rfl,aR (λ_=>kk _) (λhk=>?_)⟩);have hk':kind=1:=by have:¬kind=0:=hk;omega
  have h1:1<xs.length:=by omega
  have g1:xs[1]?=some xs[1]:=List.getElem?_eq_getElem h1;obtain⟨q1,l1,hh1,na1,eq1⟩:=hT 1 xs[1] far g1 rfl;generalize xs[1]=x1 at g1 na1
  have ef3:=s3 _ _ ef;refine⟨_,rfl,pf,_,_,_,rfl,rfl,SqL.of ef3,(show atI (xs.map V.ref) ((1:Nat):Int)=some (.ref x1)from gd (by rw[List.getElem?_map,g1];rfl)),_,rfl,_,rfl,by show 2<=sizeLine;decide,λpc hpc=>?_⟩;have s4:=Same.upd_new (o:=.lst [V.int (-far),V.int 1]) hpc;exact⟨x1,q1,l1,hh1,pc,[-far,1],rfl,(na1.same s3).same s4,s4 _ _ (s3 _ _ eq1),ao,kk _⟩
theorem b40:Bits 140 (10^40):=by show((10:Int)^40).natAbs<2^140;decide +kernel
theorem bsm{k:Nat}{n:Int}(h:n.natAbs<8)(hk:3<=k):Bits k n:=Bits.mono (j:=3) h hk
theorem sm9(n:Int)(h0:0<=n)(h:n<2000):Bits 9000 n:=Bits.mono (j:=11) (by show n.natAbs<2^11;omega) (by decide)
theorem G9{top bottom:Int}(h1:1<=bottom)(bt:Bits 735 top)(bb:Bits 735 bottom):∃(g:Nat) (T B:Int),Nat.gcd top.natAbs bottom.natAbs=g/\0<g/\(g:Int)<=bottom/\top=g*T/\bottom=g*B/\Lin T B /\ -top/(g:Int) = -T/\bottom/(g:Int)=B:=by
 obtain⟨g,hg⟩:∃g,Nat.gcd top.natAbs bottom.natAbs=g:=⟨_,rfl⟩;have gp:0<g:=by rw[<- hg];exact Nat.gcd_pos_of_pos_right _ (by omega)
 have d1:(g:Int)∣top:=Og.mpr (by rw[<- hg];exact N5 _ _);have d2:(g:Int)∣bottom:=Og.mpr (by rw[<- hg];exact Oo _ _);obtain⟨x,hx⟩:=d1;obtain⟨y,hy⟩:=d2;have g0:(g:Int)≠0:=by omega
 have n1:top.natAbs=g*x.natAbs:=by rw[hx,Nf,Np]
 have n2:bottom.natAbs=g*y.natAbs:=by rw[hy,Nf,Np]
 have m1:1*x.natAbs<=g*x.natAbs:=NC _ gp;have m2:1*y.natAbs<=g*y.natAbs:=NC _ gp
 have yp:0<y:=by
  rcases Ot 0 y with z |z
  ·exact z
  ·have:=Int.mul_nonpos_of_nonneg_of_nonpos (show 0<=(g:Int) by omega) z;omega
 have m3:g*1<=g*y.natAbs:=N8 _ (by omega);have hh:g*Nat.gcd x.natAbs y.natAbs=g:=by rw[<- Nat.gcd_mul_left,<- n1,<- n2];exact hg
 refine⟨g,x,y,hg,gp,by omega,hx,hy,⟨by omega,Pf gp (by omega),bt.of_le (by omega),bb.of_le (by omega)⟩,?_,?_⟩
 ·rw[hx,<- Int.mul_neg];exact Pa _ g0
 ·rw[hy];exact Pa _ g0
theorem Ix{T B:Int}(hb:1<=B):(10:Int)^60*10^60<=(if B>((-T).natAbs:Int)then B else((-T).natAbs:Int))↔Gre [-T,B]:=by
 constructor
 ·intro h;split at h
  ·exact⟨B,by simp,by rw[Int.natAbs_of_nonneg (by omega)];exact h⟩
  ·exact⟨-T,by simp,h⟩
 ·rintro⟨x,hx,h⟩;generalize (10:Int)^60*10^60=Y at h
  have:x = -T\/x=B:=by simpa using hx
  rcases this with rfl |rfl
  ·split<;>omega
  ·split<;>omega
theorem zR{top bottom T B s:Int}{g:Nat}(gp:0<g)(h1:1<=bottom)(bt:Bits 735 top)(bb:Bits 735 bottom)(ht:top=g*T)(hb:bottom=g*B)(hs:s=1\/s = -1):0<rb (top+s) bottom/\Bits 740 (rt (top+s) bottom)/\Bits 740 (rb (top+s) bottom)/\Nat.gcd (rt (top+s) bottom).natAbs (rb (top+s) bottom).natAbs=1/\(s=1->T*rb (top+s) bottom<rt (top+s) bottom*B)/\(s = -1->rt (top+s) bottom*B<T*rb (top+s) bottom):=by
 have n0:bottom≠0:=by omega
 have bs:Bits 735 s:=by rcases hs with rfl |rfl<;>exact bsm (by decide) (by decide)
 have e:=eU (t:=top+s) n0;have rp:=dI (t:=top+s) n0;refine⟨rp,(fG n0 (bt.add bs)).mono,(eT n0 bb).mono,kj n0,?_,?_⟩
 all_goals
  generalize rt (top+s) bottom=x at *
  generalize rb (top+s) bottom=y at *
  intro hs1;subst hs1;refine ip (c:=(g:Int)) (by omega) ?_;have e1:x*B*g=x*bottom:=by rw[hb];grind
  have e2:T*y*g=top*y:=by rw[ht];grind
  rw[e1,e2,e];have e3:=Int.add_mul top 1 y;have e4:=Int.add_mul top (-1) y;omega
theorem Hf{T B m:Int}(h:Lin T B)(m1:1<=m)(bm:Bits 140 m):Made [-T*m,B*m] m [([-T,B],1)]:=by
 have q:=y3 h;have e:[-T*m,B*m]=scL m [-T,B]:=by show _=[m * -T,m*B];rw[Ni,Ni B]
 refine⟨?_,by omega,bm,q.use,q.deg,MZ 2,q.bits,q.more⟩;have e2:fP id [([-T,B],1)]=[-T,B]:=by show ae (pw [-T,B] 1) [1]=_;rw[cz,dJ]
 rw[e,cV,e2]
theorem DY(p:List Int):pw p 2=ae p p:=by show ae p (pw p 1)=_;rw[dJ]
theorem B3(T B:Int):ae [-T,B] [-T,B]=[T*T,-2*(T*B),B*B]:=by
 refine cN rfl λk hk=>?_
 rw[aI];have hk':k<3:=hk
 match k,hk' with
 |0,_=>show(0:Int)+_+_=T*T;simp[tm,cf];grind
 |1,_=>show(0:Int)+_+_ = -2*(T*B);simp[tm,cf];grind
 |2,_=>show(0:Int)+_+_=B*B;simp[tm,cf]
theorem w5(T B m:Int):ae [-T*m,B*m] [-T,B]=scL m [T*T,-2*(T*B),B*B]:=by
 refine cN rfl λk hk=>?_
 rw[aI];have hk':k<3:=hk
 match k,hk' with
 |0,_=>show(0:Int)+_+_=m*(T*T);simp[tm,cf];grind
 |1,_=>show(0:Int)+_+_=m*(-2*(T*B));simp[tm,cf];grind
 |2,_=>show(0:Int)+_+_=m*(B*B);simp[tm,cf];grind
theorem He{T B m:Int}(h:Lin T B)(m1:1<=m)(bm:Bits 140 m)(bT:Bits 412 T)(bB:Bits 412 B):Made (ae [-T*m,B*m] [-T,B]) m [([-T,B],2)]:=by
 have e:fP id [([-T,B],2)]=[T*T,-2*(T*B),B*B]:=by show ae (pw [-T,B] 2) [1]=_;rw[cz,DY,B3]
 refine⟨by rw[w5,cV,e],by omega,bm,y9 h (by decide),by show 2*(2-1)+0<=2;decide,by rw[w5];show 2<=3;decide,?_,?_⟩
 ·rw[e];intro x hx;have:x=T*T\/x = -2*(T*B)\/x=B*B:=by simpa using hx
  rcases this with rfl |rfl |rfl
  ·exact(bT.mul bT).mono
  ·exact Bits.mono (Bits.mul (bsm (k:=3) (n := -2) (by decide) (by decide)) (bT.mul bB)) (by decide)
  ·exact(bB.mul bB).mono
 ·show AllB 830 (ae (pw [-T,B] 1) [1]);rw[cz,dJ];exact iA (bT.neg.mono) (bB.mono)
theorem BD(c:Int):2<=(10:Int)^60*10^60+c%10-6/\Bits 399 ((10:Int)^60*10^60+c%10-6):=by
 have h0:=OC c (b:=10) (by decide);have h1:=OD c (b:=10) (by decide);have y0:(10:Int)^60*10^60≥8:=by decide +kernel
 have y1:(10:Int)^60*10^60+3<((2^399:Nat):Int):=by decide +kernel
 refine⟨by generalize (10:Int)^60*10^60=Y at *;omega,?_⟩;show Int.natAbs _<2^399;generalize (10:Int)^60*10^60=Y at *
 generalize 2^399=Z at *
 omega
theorem KL{v:V}(h:v∈[V.int 1,V.int 3,V.int 7,V.int ((10:Int)^50*10^50)]):∃b:Int,v=.int b/\1<=b/\Bits 333 b:=by
 have:v=.int 1\/v=.int 3\/v=.int 7\/v=.int ((10:Int)^50*10^50):=by simpa using h
 rcases this with rfl |rfl |rfl |rfl
 ·exact⟨1,rfl,by decide,b1k (by decide)⟩
 ·exact⟨3,rfl,by decide,bsm (by decide) (by decide)⟩
 ·exact⟨7,rfl,by decide,bsm (by decide) (by decide)⟩
 ·exact⟨_,rfl,by decide +kernel,by show Int.natAbs _<2^333;decide +kernel⟩
theorem Jy{v:V}{b:Int}(hb:1<=b)(bb:Bits 333 b)(h:v∈[V.int 1,V.int (-1),V.int b,V.int (-1-b)]):∃f:Int,v=.int f/\f≠0/\Bits 334 f:=by
 have:v=.int 1\/v=.int (-1)\/v=.int b\/v=.int (-1-b):=by simpa using h
 rcases this with rfl |rfl |rfl |rfl
 ·exact⟨1,rfl,by decide,b1k (by decide)⟩
 ·exact⟨-1,rfl,by decide,bsm (by decide) (by decide)⟩
 ·exact⟨b,rfl,by omega,bb.mono⟩
 ·exact⟨_,rfl,by omega,Bits.sub (k:=333) (bsm (by decide) (by decide)) bb⟩
theorem B4{t tt:Int}{g:Nat}(gp:0<g)(et:t=g*tt)(h:(t.natAbs:Int)<(10:Int)^64*10^60):Bits 412 tt:=by
 have n1:t.natAbs=g*tt.natAbs:=by rw[et,Nf,Np]
 have m1:1*tt.natAbs<=g*tt.natAbs:=NC _ gp;have h2:(10:Int)^64*10^60<=((2^412:Nat):Int):=by decide +kernel
 show tt.natAbs<2^412;generalize (10:Int)^64*10^60=Y at h h2
 generalize 2^412=Z at h2 ⊢
 omega
theorem Gc(x:Int):1<=1+x%10^40/\Bits 140 (1+x%10^40):=by have h0:=OC x (b:=10^40) (by decide);have h1:=OD x (b:=10^40) (by decide);exact⟨by omega,AG (by omega) (by omega) b40⟩
theorem Fe{C CN f:Addr}{fd:FuncData}(F:Fun K "law" "law" eR f fd)(T:Txt K mg)(R:RCI K mg C){CTooGreat:Addr}{J5:Addr}{Js:FuncData}(MP:Cal P w K mg base 1 "_law_cell_at" ["_law_script","_law_k"] (gq K) J5 Js){J0:Addr}{Jo:FuncData}(ML:Cal P w K mg base 40 "_law_no_root" ["_law_last"] qE J0 Jo){J1:Addr}{Jp:FuncData}(MM:Cal P w K mg base 42 "_law_near_one" ["_law_far","_law_kind"] qF J1 Jp){J3:Addr}{Jr:FuncData}(MO:Cal P w K mg base 1 "_law_divisor" ["_law_one","_law_other"] qT J3 Jr){bA:Addr}{bz:FuncData}{bC:List Value}(bF:KCal P w K mg base 2 C "Ratio" ["self","top","bottom"] (cD C) bA bz bC [.int 1]){JX:Addr}{Jl:FuncData}(MI:Cal P w K mg base 1 "_law_times" ["_law_one","_law_other"] qv JX Jl){J2:Addr}{Jq:FuncData}(MN:Cal P w K mg base 42 "_law_missed" ["_law_kp","_law_span"] (qJ C) J2 Jq){JY:Addr}{Jm:FuncData}(MJ:Cal P w K mg base 42 "_law_refused" ["_law_kind","_law_kp","_law_span"] (qB C) JY Jm){uB:Addr}{ub:FuncData}(we:Cal P w K mg base 3 "_law_told" ["_law_found","_law_due"] (ou CN) uB ub){uC:Addr}{uc:FuncData}(wf:CalV P w K mg base 41 "_law_made" ["_law_kind","_law_kp","_law_span"] (ln C CN CTooGreat) uC uc):FnOk P w K mg base CX0 43 f fd ["_law_script"] (oH K):=by
 obtain⟨nN,mC,mJ,ny⟩:=MP;obtain⟨Mb,G3,HQ,Ll⟩:=ML;obtain⟨Mc,G4,HR,Lm⟩:=MM;obtain⟨Me,G6,HU,Lo⟩:=MO;obtain⟨bn,bj,bh,bV,cu,cs⟩:=bF;obtain⟨L8,G0,HM,Li⟩:=MI;obtain⟨Md,G5,HS,Ln⟩:=MN;obtain⟨L9,G1,HN,Lj⟩:=MJ;obtain⟨qm,pL,pO,qk⟩:=we;obtain⟨vN,sH,sZ,vn⟩:=wf;refine F.ok sc_law (λvs H Q E h=>?_) (λcdv A outer s H vs Q E hr h=>?_)
 ·obtain⟨a,ns,rfl,_⟩:=h;rfl
 ·obtain⟨a,ns,rfl,hS,hlen,k⟩:=h;have big:=sizeLine_eq;have hu:=hr.units;have b6:Bits 1000000 ((10:Int)^60):=b60.mono;have b5:Bits 1000000 ((10:Int)^50):=Bits.mono (j:=167) (by show Int.natAbs _<2^167;decide +kernel) (by decide)
  refine⟨_,(af (ak (i:=1) sc_law.nd rfl (Or.inl rfl) (al nN (hr.mono) rfl mC mJ ny .nil ah (aa (pv 0) (aa ad ac))))
   (af (ak (i:=2) sc_law.nd rfl (Or.inl rfl) (aj cw (aj bQ (aj aO (aj cQ ad ad) (aj cQ ad ad)) (aj dN (pv 1) ad)) ad))
   (af (aS (aJ cI (aj dN (aj dO (pv 1) ad) ad) ad (aG _))
     (ai (ay (al Mb (hr.mono) rfl G3 HQ Ll .nil ah (aa (pv 2) ac))))
     aU)
   (af (aS (aJ cI (aj dN (aj dO (pv 1) ad) ad) ad (aG _))
     (ai (ay (al Mc (hr.mono) rfl G4 HR Lm .nil ah (aa (pv 2) (aa (aj dN (al nN (hr.mono) rfl mC mJ ny .nil ah (aa (pv 0) (aa ad ac))) ad) ac)))))
     aU)
   (af (ak (i:=3) sc_law.nd rfl (Or.inl rfl) (aH (bK (K:=K) rfl) (aV (aa ad (aa ad (aa ad (aa (aj aO (aj cQ ad ad) (aj cQ ad ad)) ac))))) (aj dN (aj dO (pv 1) ad) ad) (λ_ _=>rfl)))
   (af (ak (i:=2) sc_law.nd rfl (Or.inl rfl) (aj aO (pv 2) (aH (bK (K:=K) rfl) (aV (aa ad (aa (bJ bG ad) (aa (pv 3) (aa (aj cw (bJ bG ad) (pv 3)) ac))))) (aj dN (aj dO (pv 1) ad) ad) (λ_ _=>rfl))))
   (af (ak (i:=4) sc_law.nd rfl (Or.inl rfl) (al Me (hr.mono) rfl G6 HU Lo .nil ah (aa (aT fz (by rfl) T.abs_ PyProof.Rows.boot_abs (aa (pv 2) ac)) (aa (pv 3) ac))))
   (af (ak (i:=5) sc_law.nd rfl (Or.inl rfl) (aV (aa (aj dO (bJ bG (pv 2)) (pv 4)) (aa (aj dO (pv 3) (pv 4)) ac))))
   (af (ak (i:=6) sc_law.nd rfl (Or.inl rfl) (gF md (aT (uX rfl) (by rfl) T.max_ PyProof.Rows.boot_max (aa (aT fz (by rfl) T.abs_ PyProof.Rows.boot_abs (aa (aH (bK (K:=K) rfl) (pv 5) ad (λ_ _=>rfl)) ac)) (aa (aH (bK (K:=K) rfl) (pv 5) ad (λ_ _=>rfl)) ac))) (aj aO (aj cQ ad ad) (aj cQ ad ad)) (aG _)))
   (af (ak (i:=7) sc_law.nd rfl (Or.inl rfl) (dM (aa (cv bj bn (hr.mono) rfl bh bV .nil ah (aa (aj cw (pv 2) ad) (aa (pv 3) ac))) (aa (cv bj bn (hr.mono) rfl bh bV .nil ah (aa (aj bQ (pv 2) ad) (aa (pv 3) ac))) ac))))
   (af (ak (i:=8) sc_law.nd rfl (Or.inl rfl) (aj dN (al nN (hr.mono) rfl mC mJ ny .nil ah (aa (pv 0) (aa ad ac))) ad))
   (af (D3 (i:=9) sc_law.nd rfl (Or.inl rfl) (own:=["_law_one"]) (fr:=["_law_script"]) (js:=[0]) (by walk_at "comp_ok") rfl (dL (K:=K) rfl (pv 5)) (λ_ _ _ _=>(bw (i:=0) (show List.Nodup (["_law_one","_law_script"]:List Str)from by decide +kernel) rfl (Or.inl rfl))) (λ_ _ _ _=>(aj aO (pv 0) (aj bQ ad (aj dN (al nN (hr.mono) rfl mC mJ ny .nil ah (aa (pv 1) (aa ad ac))) (aj cQ ad ad))))) (by rfl))
   (af (aS (PW.pt (fK (aJ dc (pv 8) ad (aG _)) (fK (aJ cI (aj dN (aj dO (al nN (hr.mono) rfl mC mJ ny .nil ah (aa (pv 0) (aa ad ac))) ad) ad) ad (aG _)) (fK (aJ dc (pv 3) ad (aG _)) (km (aJ dc (aT fz (by rfl) T.abs_ PyProof.Rows.boot_abs (aa (pv 2) ac)) (aj aO (aj cQ ad ad) (aj cQ ad ad)) (aG _)))))))
     (ai (ak (i:=9) sc_law.nd rfl (Or.inl rfl) (al L8 (hr.mono) rfl G0 HM Li .nil ah (aa (pv 9) (aa (pv 5) ac)))))
     aU)
   (af (aS (kn (eV (al Md (hr.mono) rfl G5 HS Ln .nil ah (aa (pj (qi (K:=K) rfl) (by rfl) T.list_ PyProof.Rows.boot_list (aa (pv 9) ac)) (aa (pv 7) ac)))))
     (ai (ay cW))
     aU)
   (af (aS (eV (pv 6))
     (ai (ay (al L9 (hr.mono) rfl G1 HN Lj .nil ah (aa (pv 8) (aa (pv 9) (aa (pv 7) ac))))))
     aU)
   (ai (ay (al qm (hr.mono) rfl pL pO qk .nil ah (aa (al vN (hr.mono) rfl sH sZ vn .nil Er (aa (pv 8) (aa (pv 9) (aa (pv 7) ac)))) (aa (pv 5) ac)))))))))))))))))))),?_⟩
  refine av ⟨_,rfl,a,ns,0,rfl,hS,?_⟩;obtain⟨c,hc⟩:∃c,ns.getD 0 0=c:=⟨_,rfl⟩;rw[hc];refine av ⟨_,_,rfl,rfl,⟨by decide,by decide,by decide⟩,_,_,rfl,rfl,⟨by decide,by decide,by decide⟩,_,_,rfl,rfl,⟨b6,b6⟩,_,rfl,_,_,rfl,rfl,(by show(0:Int)<10;decide),_,_,rfl,rfl,_,_,rfl,rfl,?_⟩;obtain⟨t2,bt⟩:=BD c;obtain⟨t0,ht0⟩:∃t0,(10:Int)^60*10^60+c%10-6=t0:=⟨_,rfl⟩;show cg _ _ _ _ _;refine cZ (λσ' H'=>σ'=[some (.ref a),some (.int c),some (.int t0),none,none,none,none,none,none,none]/\H=H') ⟨by rw[<- ht0];rfl,rfl⟩ ?_;rintro σ' H1 ⟨rfl,rfl⟩;rw[ht0]at t2 bt;refine bI ⟨_,rfl,_,_,rfl,rfl,⟨by decide,sm9 10 (by decide) (by decide)⟩,_,_,rfl,rfl,(by show(0:Int)<8;decide),_,_,rfl,rfl,_,rfl,aR (λ_=>?_) (λ_=>?_)⟩
  ·exact aX ⟨_,rfl,t0,rfl,by omega,bt.mono,λH'=>k H'⟩
  refine bI ⟨_,rfl,_,_,rfl,rfl,⟨by decide,sm9 10 (by decide) (by decide)⟩,_,_,rfl,rfl,(by show(0:Int)<8;decide),_,_,rfl,rfl,_,rfl,aR (λ_=>?_) (λ_=>?_)⟩
  ·have m0:=OC (ns.getD 1 0) (b:=2) (by decide);have m1:=OD (ns.getD 1 0) (b:=2) (by decide);exact aX ⟨_,rfl,_,rfl,a,ns,1,rfl,hS,_,_,rfl,rfl,(by show(0:Int)<2;decide),t0,_,rfl,t2,bt.mono,m0,by omega,λH'=>k H'⟩
  refine av ⟨_,_,rfl,rfl,⟨by decide,by decide,by decide⟩,_,_,rfl,rfl,⟨by decide,by decide,by decide⟩,_,_,rfl,rfl,⟨b5,b5⟩,by show 4<=sizeLine;decide,λpl hpl=>?_⟩;have s1:=Same.upd_new (o:=.lst [V.int 1,V.int 3,V.int 7,V.int ((10:Int)^50*10^50)]) hpl;have el:upd H pl (.lst [V.int 1,V.int 3,V.int 7,V.int ((10:Int)^50*10^50)]) pl=some (.lst [V.int 1,V.int 3,V.int 7,V.int ((10:Int)^50*10^50)]):=ao;obtain⟨v,hv,ev⟩:=AS (xs:=[V.int 1,V.int 3,V.int 7,V.int ((10:Int)^50*10^50)]) (n:=4) rfl (by decide) (c/80);obtain⟨b,rfl,hb1,bb⟩:=KL hv;refine⟨_,rfl,_,_,rfl,rfl,⟨by decide,sm9 80 (by decide) (by decide)⟩,_,_,rfl,rfl,(by show(0:Int)<4;decide),pl,_,_,_,rfl,rfl,SqL.of el,ev,?_⟩;show cg _ _ _ _ _;refine cZ (λσ' H'=>σ'=[some (.ref a),some (.int c),some (.int t0),some (.int b),none,none,none,none,none,none]/\Same H H') ⟨rfl,s1⟩ ?_;clear s1 el hv ev;rintro σ' H1 ⟨rfl,s1⟩;refine av ⟨_,rfl,_,rfl,_,rfl,_,rfl,_,rfl,_,_,rfl,rfl,by show 4<=sizeLine;decide,λpl hpl=>?_⟩;have s2:=Same.upd_new (o:=.lst [V.int 1,V.int (-1),V.int b,V.int (-1-b)]) hpl;have el:upd H1 pl (.lst [V.int 1,V.int (-1),V.int b,V.int (-1-b)]) pl=some (.lst [V.int 1,V.int (-1),V.int b,V.int (-1-b)]):=ao;obtain⟨v,hv,ev⟩:=AS (xs:=[V.int 1,V.int (-1),V.int b,V.int (-1-b)]) (n:=4) rfl (by decide) (c/320);obtain⟨m,rfl,hm0,bm⟩:=Jy hb1 bb hv;refine⟨_,rfl,_,_,rfl,rfl,⟨by decide,sm9 320 (by decide) (by decide)⟩,_,_,rfl,rfl,(by show(0:Int)<4;decide),pl,_,_,_,rfl,rfl,SqL.of el,ev,_,_,rfl,rfl,⟨bt.mono,bm.mono⟩,?_⟩;have btt:Bits 735 (t0*m):=(bt.mul bm).mono;have t2n:=s1.trans s2;show cg _ _ _ _ _;refine cZ (λσ' H'=>∃t:Int,σ'=[some (.ref a),some (.int c),some (.int t),some (.int b),none,none,none,none,none,none]/\Same H H'/\Bits 735 t) ⟨_,rfl,t2n,btt⟩ ?_;clear s1 s2 t2n el hv ev btt hm0 bm hpl t2 bt ht0;rintro σ' H1 ⟨t,rfl,s1,bt⟩;obtain⟨g,tt,tb,hg,gp,gb,et,eb,hL,e1,e2⟩:=G9 hb1 bt (bb.mono);refine av ⟨_,rfl,_,rfl,_,rfl,_,_,rfl,by rw[nE];omega,by omega,?_⟩;rw[nE,Np,hg];have bg:Bits 9000 (g:Int):=(AG (by omega) gb bb).mono;refine av ⟨_,rfl,_,rfl,_,rfl,_,_,rfl,rfl,⟨by omega,bg⟩,_,rfl,_,rfl,_,_,rfl,rfl,⟨by omega,bg⟩,by show 2<=sizeLine;decide,λpd hpd=>?_⟩;have s2:=s1.then_new (o:=.lst [V.int (-t/g),V.int (b/g)]) hpd;have ed:upd H1 pd (.lst [V.int (-t/g),V.int (b/g)]) pd=some (.lst ([-tt,tb].map V.int)):=by rw[ao,e1,e2];rfl
  show cg _ _ _ _ _;refine cZ (λσ' H'=>σ'=[some (.ref a),some (.int c),some (.int t),some (.int b),some (.int g),some (.ref pd),none,none,none,none]/\upd H1 pd (.lst [V.int (-t/g),V.int (b/g)])=H') ⟨rfl,rfl⟩ ?_;rintro σ' H2 ⟨rfl,rfl⟩;generalize upd H1 pd (.lst [V.int (-t/g),V.int (b/g)])=H2 at s2 ed ⊢
  clear hpd s1 e1 e2 hg;refine av ⟨_,rfl,pd,_,_,_,rfl,rfl,SqL.of ed,rfl,_,rfl,_,rfl,pd,_,_,_,rfl,rfl,SqL.of ed,rfl,_,_,rfl,_,_,rfl,rfl,⟨by decide,by decide,by decide⟩,_,_,rfl,rfl,⟨by decide,by decide,by decide⟩,_,_,rfl,rfl,⟨b6,b6⟩,_,_,rfl,rfl,?_⟩;rw[nE];have hgr:=Ix (T:=tt) hL.b1;show cg _ _ _ _ _;refine cZ (λσ' H'=>∃gb:Bool,σ'=[some (.ref a),some (.int c),some (.int t),some (.int b),some (.int g),some (.ref pd),some (.bl gb),none,none,none]/\H2=H'/\(gb=true↔Gre [-tt,tb])) ⟨_,rfl,rfl,by rw[decide_eq_true_iff];exact hgr⟩ ?_;clear hgr;rintro σ' H3 ⟨gb,rfl,rfl,hG⟩;refine av ⟨_,rfl,_,_,rfl,rfl,_,rfl,cE (t:=t-1) (b:=b) (by omega) (bb.mono) λr1 H3 s3 hr1 hR1=>⟨_,rfl,_,_,rfl,rfl,_,rfl,cE (t:=t+1) (b:=b) (by omega) (bb.mono) λr2 H4 s4 hr2 hR2=>⟨by show 2<=sizeLine;decide,λps hps=>?_⟩⟩⟩;rw[Int.sub_eq_add_neg]at hR1;obtain⟨lp,bl1,bl2,gl,_,il⟩:=zR gp hb1 bt (bb.mono) et eb (s := -1) (.inr rfl);obtain⟨hp,bh1,bh2,gh,ih,_⟩:=zR gp hb1 bt (bb.mono) et eb (s:=1) (.inl rfl);have il:=il rfl;have ih:=ih rfl;generalize rt (t + -1) b=l1 at hR1 bl1 gl il
  generalize rb (t + -1) b=l2 at hR1 lp bl2 gl il
  generalize rt (t+1) b=h1 at hR2 bh1 gh ih
  generalize rb (t+1) b=h2 at hR2 hp bh2 gh ih
  have en:EndB 980 l1 l2 h1 h2:=⟨lp,hp,bl1.mono,bl2.mono,bh1.mono,bh2.mono,gl,gh⟩;have s5:=(s2.trans (s3.trans s4)).then_new (o:=.tup [V.ref r1,V.ref r2]) hps;have sp:=Same.upd_new (o:=.tup [V.ref r1,V.ref r2]) hps;have ep:upd H4 ps (.tup [V.ref r1,V.ref r2]) ps=some (.tup [V.ref r1,V.ref r2]):=ao;have hR1':=(hR1.same s4).same sp;have hR2':=hR2.same sp;have ed5:=sp _ _ (s4 _ _ (s3 _ _ ed));have m0:=OC (ns.getD 1 0) (b:=4) (by decide);have m1:=OD (ns.getD 1 0) (b:=4) (by decide);obtain⟨kd,hkd⟩:∃kd,ns.getD 1 0%4=kd:=⟨_,rfl⟩;rw[hkd]at m0 m1;obtain⟨mm1,bmm⟩:=Gc (ns.getD 2 0);obtain⟨m,hm⟩:∃m,1+ns.getD 2 0%10^40=m:=⟨_,rfl⟩;rw[hm]at mm1 bmm;refine av ⟨_,rfl,a,ns,1,rfl,s5.seq hS,_,_,rfl,rfl,(by show(0:Int)<4;decide),?_⟩;show cg _ _ _ _ _;refine cZ (λσ' H'=>σ'=[some (.ref a),some (.int c),some (.int t),some (.int b),some (.int g),some (.ref pd),some (.bl gb),some (.ref ps),some (.int kd),none]/\upd H4 ps (.tup [V.ref r1,V.ref r2])=H') ⟨by rw[<- hkd];rfl,rfl⟩ ?_;rintro σ' H5 ⟨rfl,rfl⟩;generalize upd H4 ps (.tup [V.ref r1,V.ref r2])=H5 at s5 sp ep hR1' hR2' ed5 ⊢
  clear sp hps hR1 hR2 hr1 hr2 s3 s4 s2 ed;have hkl:([-tt,tb].map V.int).length=2:=rfl;have bb1:AllB 800 [-tt,tb]:=iA (hL.bt.neg.mono) (hL.bb.mono);refine av ⟨_,rfl,pd,rfl,⟨_,SqL.of ed5⟩,ik (K:=K) (a:=pd) (xs:=[-tt,tb].map V.int) (λi ys σ' H'=>∃(z0:Option V),σ'=[z0,some (.ref a)]/\ys=((([-tt,tb]:List Int).take i).map λx=>x*m).map V.int/\H5=H') (by rw[hkl];omega) ⟨none,rfl,rfl,rfl⟩ ?_ ?_ ?_⟩
  ·rintro i ys σ' H' _ ⟨z0,rfl,rfl,rfl⟩;exact⟨SqL.of ed5,by rw[MY,MY,NV];exact O3 _ _⟩
  ·rintro i x ys σ' H' hi ⟨z0,rfl,rfl,rfl⟩;obtain⟨y,_,rfl,hy,ey⟩:=g6 hi;refine⟨_,rfl,_,rfl,a,ns,2,rfl,s5.seq hS,_,_,rfl,rfl,⟨by decide,by decide,by decide⟩,_,_,rfl,rfl,(by show(0:Int)<10^40;decide),_,_,rfl,rfl,_,_,rfl,rfl,⟨(bb1 y hy).mono,by show Bits 1000000 (1+ns.getD 2 0%10^40);rw[hm];exact bmm.mono⟩,_,rfl,?_,rfl⟩;show _++[V.int (y*(1+ns.getD 2 0%10^40))]=_;rw[ey,hm];simp
  rintro ys σ' H' pk ⟨z0,rfl,rfl,rfl⟩ hpk;have s6:=Same.upd_new (o:=.lst ([-tt*m,tb*m].map V.int)) hpk;have ek:upd H5 pk (.lst ([-tt*m,tb*m].map V.int)) pk=some (.lst ([-tt*m,tb*m].map V.int)):=ao;show cg _ _ _ _ _;refine cZ (λσ' H'=>σ'=[some (.ref a),some (.int c),some (.int t),some (.int b),some (.int g),some (.ref pd),some (.bl gb),some (.ref ps),some (.int kd),some (.ref pk)]/\upd H5 pk (.lst ([-tt*m,tb*m].map V.int))=H') ⟨rfl,rfl⟩ ?_;rintro σ' H6 ⟨rfl,rfl⟩;generalize upd H5 pk (.lst ([-tt*m,tb*m].map V.int))=H6 at s6 ek ⊢
  clear hpk;have stay:∃(pk':Addr) (kp:List Int) (n:Nat),([some (.ref a),some (.int c),some (.int t),some (.int b),some (.int g),some (.ref pd),some (.bl gb),some (.ref ps),some (.int kd),some (.ref pk)]:St)=[some (.ref a),some (.int c),some (.int t),some (.int b),some (.int g),some (.ref pd),some (.bl gb),some (.ref ps),some (.int kd),some (.ref pk')]/\Same H5 H6/\H6 pk'=some (.lst (kp.map V.int))/\Made kp m [([-tt,tb],n)]/\1<=n/\(2<=kd->kp=[m * -tt,m*tb]):=⟨pk,_,1,rfl,s6,ek,Hf hL mm1 bmm,MZ _,λ_=>by rw[Ni,Ni tb]⟩;have b64:Bits 1000000 ((10:Int)^64):=Bits.mono (j:=213) (by show Int.natAbs _<2^213;decide +kernel) (by decide);refine lJ (λσ' H'=>∃(pk:Addr) (kp:List Int) (n:Nat),σ'=[some (.ref a),some (.int c),some (.int t),some (.int b),some (.int g),some (.ref pd),some (.bl gb),some (.ref ps),some (.int kd),some (.ref pk)]/\Same H5 H'/\H' pk=some (.lst (kp.map V.int))/\Made kp m [([-tt,tb],n)]/\1<=n/\(2<=kd->kp=[m * -tt,m*tb])) ?_ (λrest=>fJ ⟨_,rfl,_,_,rfl,rfl,_,rfl,aR (λh1=>fJ ⟨_,rfl,a,ns,1,rfl,(s5.trans s6).seq hS,_,_,rfl,rfl,⟨by decide,sm9 4 (by decide) (by decide)⟩,_,_,rfl,rfl,(by show(0:Int)<2;decide),_,_,rfl,rfl,_,rfl,aR (λ_=>fJ ⟨_,rfl,_,_,rfl,rfl,_,rfl,aR (λh3=>⟨_,rfl,_,rfl,_,_,rfl,rfl,⟨by decide,by decide,by decide⟩,_,_,rfl,rfl,⟨by decide,by decide,by decide⟩,_,_,rfl,rfl,⟨b64,b6⟩,_,_,rfl,rfl,_,rfl,aR (λh4=>?_) (λ_=>?_)⟩) (λ_=>?_)⟩) (λ_=>?_)⟩) (λ_=>?_)⟩)
  rotate_left
  ·have h1':kd<2:=h1;have h3':b<8:=h3;rw[nE]at h4;have bT:=B4 gp et h4;have n2:b.natAbs=g*tb.natAbs:=by rw[eb,Nf,Np]
   have q1:1*tb.natAbs<=g*tb.natAbs:=NC _ gp;have bB:Bits 412 tb:=bsm (by omega) (by decide);have bk:AllB 1000000 [-tt*m,tb*m]:=iA ((bT.neg.mul bmm).mono) ((bB.mul bmm).mono);exact cP ⟨_,rfl,_,rfl,pk,pd,[-tt*m,tb*m],[-tt,tb],rfl,ek,s6 _ _ ed5,by simp,by simp,by show 2<=1000;decide,by show 2<=1000;decide,bk,bb1.mono,λp H7 s7 hp7 e7=>rest _ _ ⟨p,_,2,rfl,s6.trans s7,e7,He hL mm1 bmm bT bB,by decide,λz=>absurd z (by omega)⟩⟩
  ·exact rest _ _ stay
  ·exact rest _ _ stay
  ·exact rest _ _ stay
  ·exact rest _ _ stay
  clear stay ek s6 pk H6;rintro σ' H6 ⟨pk,kp,n,rfl,s6,ek,hM,n1,hk2⟩;have A:Ask C H6 kd pk ps tt tb m n kp r1 r2 l1 l2 h1 h2:=⟨m0,by omega,hL,ek,hM,n1,λz=>⟨hk2 z,by omega⟩,s6 _ _ ep,hR1'.same s6,hR2'.same s6,en,il,by omega⟩;refine bI (lH ⟨_,rfl,pk,_,rfl,.inl (SqL.of ek),λl hl=>?_⟩);have s7:=Same.upd_new (o:=.lst (kp.map V.int)) hl;have A7:=A.same s7;refine⟨_,rfl,l,ps,tt,tb,m,n,kp,r1,r2,h1,h2,rfl,hL,ao,hM,A7.tup,A7.hi,hp,bh1,bh2,gh,A7.ih,λH8 s8=>⟨_,rfl,da ?_⟩⟩;have A8:=A7.same s8;have ed8:=s8 _ _ (s7 _ _ (s6 _ _ ed5));clear A A7;cases gb with
  |true=>exact bI ⟨_,rfl,_,rfl,dA (aX ⟨_,rfl,_,rfl,_,rfl,kd,pk,ps,tt,tb,m,n,kp,r1,r2,l1,l2,h1,h2,rfl,A8,hG.mp rfl,λH'=>k H'⟩)⟩
  |false=>exact bI ⟨_,rfl,_,rfl,da (aX ⟨_,rfl,_,rfl,_,rfl,kd,pk,ps,tt,tb,m,n,kp,r1,r2,l1,l2,h1,h2,rfl,A8,λz=>absurd (hG.mpr z) (by decide),λ_ x q H9 s9 hx eq=>hx.elim λlx hx=>hx.elim λhh na=>⟨_,rfl,x,q,lx,hh,pd,[-tt,tb],rfl,na,eq,s9 _ _ ed8,k _⟩⟩)⟩
end
theorem all_mk{l:PySem.W.OpenLaw}{w:World}{K:PySem.W.Frag}{h:Heap}{mg:Str->Option Value}{fa CC1 CC2 CTooGreat CNoRoot CTooHigh CRootError f1 f2 f3 f4 dt4 f5 f6 f7 f8 f9 f10 f11 f12 f13 f14 f15 f16 f17 f18 f19 f20 f21 f22 f23 f24 f25 f26 f27 f28 f29 f30 f31 f32 f33 f34 f35 f36 f37 f38 f39 f40 f41 f42 f43 f44 f45 f46 f47 f48 f49 f50 f51 f52 f53 f54 dt54 f55 f56 f57 f58 f59 f60 f61 f62 f63 f64 f65 f66 f67 f68:Addr}(X:K.In h)(G:h.Ns mainGlobals mg)(hfa:mg "law"=some (.ref fa))
 {od1 an1 od2 an2 od3 an3 od4 an4 odt4 od5 an5 od6 an6 od7 an7 od8 an8 od9 an9 od10 an10 od11 an11 od12 an12 od13 an13 od14 an14 od15 an15 od16 an16 od17 an17 od18 an18 od19 an19 od20 an20 od21 an21 od22 an22 od23 an23 od24 an24 od25 an25 od26 an26 od27 an27 od28 an28 od29 an29 od30 an30 od31 an31 od32 an32 od33 an33 od34 an34 od35 an35 od36 an36 od37 an37 od38 an38 od39 an39 od40 an40 od41 an41 od42 an42 od43 an43 od44 an44 od45 an45 od46 an46 od47 an47 od48 an48 od49 an49 od50 an50 od51 an51 od52 an52 od53 an53 od54 an54 odt54 od55 an55 od56 an56 od57 an57 od58 an58 od59 an59 od60 an60 od61 an61 od62 an62 od63 an63 od64 an64 od65 an65 od66 an66 od67 an67 od68 an68:Option Addr} {sl1 sl2 sl3 sl4 slt4 sl5 sl6 sl7 sl8 sl9 sl10 sl11 sl12 sl13 sl14 sl15 sl16 sl17 sl18 sl19 sl20 sl21 sl22 sl23 sl24 sl25 sl26 sl27 sl28 sl29 sl30 sl31 sl32 sl33 sl34 sl35 sl36 sl37 sl38 sl39 sl40 sl41 sl42 sl43 sl44 sl45 sl46 sl47 sl48 sl49 sl50 sl51 sl52 sl53 sl54 slt54 sl55 sl56 sl57 sl58 sl59 sl60 sl61 sl62 sl63 sl64 sl65 sl66 sl67 sl68:Array (Option Value)} {oc1 kV1 dc1 pm1 cd1 ct1 oc2 kV2 dc2 pm2 cd2 ct2 oc3 kV3 dc3 pm3 cd3 ct3 oc4 kV4 dc4 pm4 cd4 ct4 oct4 oc5 kV5 dc5 pm5 cd5 ct5 oc6 kV6 dc6 pm6 cd6 ct6 oc7 kV7 dc7 pm7 cd7 ct7 oc8 kV8 dc8 pm8 cd8 ct8 oc9 kV9 dc9 pm9 cd9 ct9 oc10 kV10 dc10 pm10 cd10 ct10 oc11 kV11 dc11 pm11 cd11 ct11 oc12 kV12 dc12 pm12 cd12 ct12 oc13 kV13 dc13 pm13 cd13 ct13 oc14 kV14 dc14 pm14 cd14 ct14 oc15 kV15 dc15 pm15 cd15 ct15 oc16 kV16 dc16 pm16 cd16 ct16 oc17 kV17 dc17 pm17 cd17 ct17 oc18 kV18 dc18 pm18 cd18 ct18 oc19 kV19 dc19 pm19 cd19 ct19 oc20 kV20 dc20 pm20 cd20 ct20 oc21 kV21 dc21 pm21 cd21 ct21 oc22 kV22 dc22 pm22 cd22 ct22 oc23 kV23 dc23 pm23 cd23 ct23 oc24 kV24 dc24 pm24 cd24 ct24 oc25 kV25 dc25 pm25 cd25 ct25 oc26 kV26 dc26 pm26 cd26 ct26 oc27 kV27 dc27 pm27 cd27 ct27 oc28 kV28 dc28 pm28 cd28 ct28 oc29 kV29 dc29 pm29 cd29 ct29 oc30 kV30 dc30 pm30 cd30 ct30 oc31 kV31 dc31 pm31 cd31 ct31 oc32 kV32 dc32 pm32 cd32 ct32 oc33 kV33 dc33 pm33 cd33 ct33 oc34 kV34 dc34 pm34 cd34 ct34 oc35 kV35 dc35 pm35 cd35 ct35 oc36 kV36 dc36 pm36 cd36 ct36 oc37 kV37 dc37 pm37 cd37 ct37 oc38 kV38 dc38 pm38 cd38 ct38 oc39 kV39 dc39 pm39 cd39 ct39 oc40 kV40 dc40 pm40 cd40 ct40 oc41 kV41 dc41 pm41 cd41 ct41 oc42 kV42 dc42 pm42 cd42 ct42 oc43 kV43 dc43 pm43 cd43 ct43 oc44 kV44 dc44 pm44 cd44 ct44 oc45 kV45 dc45 pm45 cd45 ct45 oc46 kV46 dc46 pm46 cd46 ct46 oc47 kV47 dc47 pm47 cd47 ct47 oc48 kV48 dc48 pm48 cd48 ct48 oc49 kV49 dc49 pm49 cd49 ct49 oc50 kV50 dc50 pm50 cd50 ct50 oc51 kV51 dc51 pm51 cd51 ct51 oc52 kV52 dc52 pm52 cd52 ct52 oc53 kV53 dc53 pm53 cd53 ct53 oc54 kV54 dc54 pm54 cd54 ct54 oct54 oc55 kV55 dc55 pm55 cd55 ct55 oc56 kV56 dc56 pm56 cd56 ct56 oc57 kV57 dc57 pm57 cd57 ct57 oc58 kV58 dc58 pm58 cd58 ct58 oc59 kV59 dc59 pm59 cd59 ct59 oc60 kV60 dc60 pm60 cd60 ct60 oc61 kV61 dc61 pm61 cd61 ct61 oc62 kV62 dc62 pm62 cd62 ct62 oc63 kV63 dc63 pm63 cd63 ct63 oc64 kV64 dc64 pm64 cd64 ct64 oc65 kV65 dc65 pm65 cd65 ct65 oc66 kV66 dc66 pm66 cd66 ct66 oc67 kV67 dc67 pm67 cd67 ct67 oc68 kV68 dc68 pm68 cd68 ct68:Value} {nt4:Nat} {tk4_0:Tok} {nt54:Nat} {tk_HIGHEST:Tok}
 (aC1:PySem.W.nsIn K mainGlobals "Ratio"=some (some (.ref CC1)))
 (pg1:PySem.W.plainGet K CC1 Str.empty=true)
 (hd1:PySem.W.hasDictIn K CC1=true)
 (po1:PySem.W.plainOver K CC1=true)
 (sa1:PySem.W.findIn K (.ref CC1) "__setattr__"=some (some (.builtin "object.__setattr__")))
 (mk1:PySem.W.makesIn K CC1=true)
 (kc1:PySem.W.keepIn K (.ref CC1)=true)
 (n1_top:PySem.W.findIn K (.ref CC1) "top"=some none)
 (n1_bottom:PySem.W.findIn K (.ref CC1) "bottom"=some none)
 (ha1:PySem.W.findIn K (.ref CC1) "__class__"=some (some (.builtin "object.__class__")))
 (hn1:PySem.W.specialIn K (.builtin "object.__class__") "__get__"=some (some (.builtin "getset_descriptor.__get__")))
 (ht1:PySem.W.takesIn K (.builtin "object.__class__")=some true)
 (hm1:PySem.W.mroIn K CC1 (.type "object")=some true)
 (aC2:PySem.W.nsIn K mainGlobals "Number"=some (some (.ref CC2)))
 (pg2:PySem.W.plainGet K CC2 Str.empty=true)
 (hd2:PySem.W.hasDictIn K CC2=true)
 (po2:PySem.W.plainOver K CC2=true)
 (sa2:PySem.W.findIn K (.ref CC2) "__setattr__"=some (some (.builtin "object.__setattr__")))
 (mk2:PySem.W.makesIn K CC2=true)
 (kc2:PySem.W.keepIn K (.ref CC2)=true)
 (n2_poly:PySem.W.findIn K (.ref CC2) "poly"=some none)
 (n2_low:PySem.W.findIn K (.ref CC2) "low"=some none)
 (n2_high:PySem.W.findIn K (.ref CC2) "high"=some none)
 (ha2:PySem.W.findIn K (.ref CC2) "__class__"=some (some (.builtin "object.__class__")))
 (hn2:PySem.W.specialIn K (.builtin "object.__class__") "__get__"=some (some (.builtin "getset_descriptor.__get__")))
 (ht2:PySem.W.takesIn K (.builtin "object.__class__")=some true)
 (hm2:PySem.W.mroIn K CC2 (.type "object")=some true)
 (aETooGreat:PySem.W.nsIn K mainGlobals "TooGreat"=some (some (.ref CTooGreat)))
 (aENoRoot:PySem.W.nsIn K mainGlobals "NoRoot"=some (some (.ref CNoRoot)))
 (aETooHigh:PySem.W.nsIn K mainGlobals "TooHigh"=some (some (.ref CTooHigh)))
 (aERootError:PySem.W.nsIn K mainGlobals "RootError"=some (some (.ref CRootError)))
 (xBTooGreat:PySem.W.excIn K CTooGreat [.type "ValueError",.type "Exception",.type "BaseException",.type "object"] "ValueError.__new__"=true)
 (e0TooGreat:PySem.W.findIn K (.ref CTooGreat) "__getattribute__"=some (some (.builtin "BaseException.__getattribute__")))
 (e1TooGreat:PySem.W.findIn K (.ref CTooGreat) "__getattr__"=some none)
 (e2TooGreat:PySem.W.mroIn K CTooGreat (.type "BaseException")=some true)
 (e3TooGreat:PySem.W.findIn K (.ref CTooGreat) "__class__"=some (some (.builtin "object.__class__")))
 (e4TooGreat:PySem.W.specialIn K (.builtin "object.__class__") "__get__"=some (some (.builtin "getset_descriptor.__get__")))
 (e5TooGreat:PySem.W.takesIn K (.builtin "object.__class__")=some true)
 (e6TooGreat:PySem.W.mroIn K CTooGreat (.type "object")=some true)
 (e0NoRoot:PySem.W.findIn K (.ref CNoRoot) "__getattribute__"=some (some (.builtin "BaseException.__getattribute__")))
 (e1NoRoot:PySem.W.findIn K (.ref CNoRoot) "__getattr__"=some none)
 (e2NoRoot:PySem.W.mroIn K CNoRoot (.type "BaseException")=some true)
 (e3NoRoot:PySem.W.findIn K (.ref CNoRoot) "__class__"=some (some (.builtin "object.__class__")))
 (e4NoRoot:PySem.W.specialIn K (.builtin "object.__class__") "__get__"=some (some (.builtin "getset_descriptor.__get__")))
 (e5NoRoot:PySem.W.takesIn K (.builtin "object.__class__")=some true)
 (e6NoRoot:PySem.W.mroIn K CNoRoot (.type "object")=some true)
 (e0TooHigh:PySem.W.findIn K (.ref CTooHigh) "__getattribute__"=some (some (.builtin "BaseException.__getattribute__")))
 (e1TooHigh:PySem.W.findIn K (.ref CTooHigh) "__getattr__"=some none)
 (e2TooHigh:PySem.W.mroIn K CTooHigh (.type "BaseException")=some true)
 (e3TooHigh:PySem.W.findIn K (.ref CTooHigh) "__class__"=some (some (.builtin "object.__class__")))
 (e4TooHigh:PySem.W.specialIn K (.builtin "object.__class__") "__get__"=some (some (.builtin "getset_descriptor.__get__")))
 (e5TooHigh:PySem.W.takesIn K (.builtin "object.__class__")=some true)
 (e6TooHigh:PySem.W.mroIn K CTooHigh (.type "object")=some true)
 (yXNoRoot:qa K CNoRoot f25 iM "ValueError.__new__"=true)
 (yCNoRoot:nY K CNoRoot=true)
 (yKNoRoot:PySem.W.keepIn K (.ref CNoRoot)=true)
 (yNNoRoot:PySem.W.findIn K (.ref CNoRoot) "many"=some none)
 (yXTooHigh:qa K CTooHigh f26 iM "ValueError.__new__"=true)
 (yCTooHigh:nY K CTooHigh=true)
 (yKTooHigh:PySem.W.keepIn K (.ref CTooHigh)=true)
 (yNTooHigh:PySem.W.findIn K (.ref CTooHigh) "degree"=some none)
 (xh_TooGreat_RootError:PySem.W.exmOne K (.ref CTooGreat) (.ref CRootError)=some true)
 (xh_TooGreat_TooGreat:PySem.W.exmOne K (.ref CTooGreat) (.ref CTooGreat)=some true)
 (xh_NoRoot_NoRoot:PySem.W.exmOne K (.ref CNoRoot) (.ref CNoRoot)=some true)
 (xh_TooGreat_NoRoot:PySem.W.exmOne K (.ref CTooGreat) (.ref CNoRoot)=some false)
 (xi_TooGreat_ValueError:PySem.W.kitOne K (.ref CTooGreat) (.type "ValueError")=some true)
 (xi_TooGreat_TooGreat:PySem.W.kitOne K (.ref CTooGreat) (.ref CTooGreat)=some true)
 (xi_TooGreat_NoRoot:PySem.W.kitOne K (.ref CTooGreat) (.ref CNoRoot)=some false)
 (a1:PySem.W.nsIn K mainGlobals "shared_by_two"=some (some (.ref f1)))
 (l1:K.lookup f1=some ⟨oc1,od1,.func (PySem.W.fnOf "shared_by_two" "shared_by_two" (aB jf) (aA jf) (ag jf) .none kV1 dc1 pm1 an1 cd1 ct1),sl1⟩) (c1:PySem.W.codeIn K cd1 "shared_by_two"=true) (k1:PySem.W.keepIn K (.ref f1)=true)
 (a2:PySem.W.nsIn K mainGlobals "shared"=some (some (.ref f2)))
 (l2:K.lookup f2=some ⟨oc2,od2,.func (PySem.W.fnOf "shared" "shared" (aB jg) (aA jg) (ag jg) .none kV2 dc2 pm2 an2 cd2 ct2),sl2⟩) (c2:PySem.W.codeIn K cd2 "shared"=true) (k2:PySem.W.keepIn K (.ref f2)=true)
 (a3:PySem.W.nsIn K mainGlobals "whole_sign"=some (some (.ref f3)))
 (l3:K.lookup f3=some ⟨oc3,od3,.func (PySem.W.fnOf "whole_sign" "whole_sign" (aB i6) (aA i6) (ag i6) .none kV3 dc3 pm3 an3 cd3 ct3),sl3⟩) (c3:PySem.W.codeIn K cd3 "whole_sign"=true) (k3:PySem.W.keepIn K (.ref f3)=true)
 (a4:PySem.W.findIn K (.ref CC1) "__init__"=some (some (.ref f4))) (i4:PySem.W.isFn K (.ref f4)=true)
 (l4:K.lookup f4=some ⟨oc4,od4,.func (PySem.W.fnOf "__init__" "Ratio.__init__" (aB j9) (aA j9) (ag j9) (.ref dt4) kV4 dc4 pm4 an4 cd4 ct4),sl4⟩) (c4:PySem.W.codeIn K cd4 "Ratio.__init__"=true) (k4:PySem.W.keepIn K (.ref f4)=true)
 (t4:K.lookup dt4=some ⟨oct4,odt4,.seq #[.int 1 tk4_0] nt4,slt4⟩)
 (a5:PySem.W.findIn K (.ref CC1) "against"=some (some (.ref f5))) (i5:PySem.W.isFn K (.ref f5)=true)
 (l5:K.lookup f5=some ⟨oc5,od5,.func (PySem.W.fnOf "against" "Ratio.against" (aB j8) (aA j8) (ag j8) .none kV5 dc5 pm5 an5 cd5 ct5),sl5⟩) (c5:PySem.W.codeIn K cd5 "Ratio.against"=true) (k5:PySem.W.keepIn K (.ref f5)=true)
 (a6:PySem.W.nsIn K mainGlobals "poly"=some (some (.ref f6)))
 (l6:K.lookup f6=some ⟨oc6,od6,.func (PySem.W.fnOf "poly" "poly" (aB jn) (aA jn) (ag jn) .none kV6 dc6 pm6 an6 cd6 ct6),sl6⟩) (c6:PySem.W.codeIn K cd6 "poly"=true) (k6:PySem.W.keepIn K (.ref f6)=true)
 (a7:PySem.W.nsIn K mainGlobals "degree"=some (some (.ref f7)))
 (l7:K.lookup f7=some ⟨oc7,od7,.func (PySem.W.fnOf "degree" "degree" (aB jH) (aA jH) (ag jH) .none kV7 dc7 pm7 an7 cd7 ct7),sl7⟩) (c7:PySem.W.codeIn K cd7 "degree"=true) (k7:PySem.W.keepIn K (.ref f7)=true)
 (a8:PySem.W.nsIn K mainGlobals "coefficient"=some (some (.ref f8)))
 (l8:K.lookup f8=some ⟨oc8,od8,.func (PySem.W.fnOf "coefficient" "coefficient" (aB jK) (aA jK) (ag jK) .none kV8 dc8 pm8 an8 cd8 ct8),sl8⟩) (c8:PySem.W.codeIn K cd8 "coefficient"=true) (k8:PySem.W.keepIn K (.ref f8)=true)
 (a9:PySem.W.nsIn K mainGlobals "taken"=some (some (.ref f9)))
 (l9:K.lookup f9=some ⟨oc9,od9,.func (PySem.W.fnOf "taken" "taken" (aB i9) (aA i9) (ag i9) .none kV9 dc9 pm9 an9 cd9 ct9),sl9⟩) (c9:PySem.W.codeIn K cd9 "taken"=true) (k9:PySem.W.keepIn K (.ref f9)=true)
 (a10:PySem.W.nsIn K mainGlobals "slope"=some (some (.ref f10)))
 (l10:K.lookup f10=some ⟨oc10,od10,.func (PySem.W.fnOf "slope" "slope" (aB jd) (aA jd) (ag jd) .none kV10 dc10 pm10 an10 cd10 ct10),sl10⟩) (c10:PySem.W.codeIn K cd10 "slope"=true) (k10:PySem.W.keepIn K (.ref f10)=true)
 (a11:PySem.W.nsIn K mainGlobals "shrunk"=some (some (.ref f11)))
 (l11:K.lookup f11=some ⟨oc11,od11,.func (PySem.W.fnOf "shrunk" "shrunk" (aB gu) (aA gu) (ag gu) .none kV11 dc11 pm11 an11 cd11 ct11),sl11⟩) (c11:PySem.W.codeIn K cd11 "shrunk"=true) (k11:PySem.W.keepIn K (.ref f11)=true)
 (a12:PySem.W.nsIn K mainGlobals "plain"=some (some (.ref f12)))
 (l12:K.lookup f12=some ⟨oc12,od12,.func (PySem.W.fnOf "plain" "plain" (aB jo) (aA jo) (ag jo) .none kV12 dc12 pm12 an12 cd12 ct12),sl12⟩) (c12:PySem.W.codeIn K cd12 "plain"=true) (k12:PySem.W.keepIn K (.ref f12)=true)
 (a13:PySem.W.nsIn K mainGlobals "scaled"=some (some (.ref f13)))
 (l13:K.lookup f13=some ⟨oc13,od13,.func (PySem.W.fnOf "scaled" "scaled" (aB jh) (aA jh) (ag jh) .none kV13 dc13 pm13 an13 cd13 ct13),sl13⟩) (c13:PySem.W.codeIn K cd13 "scaled"=true) (k13:PySem.W.keepIn K (.ref f13)=true)
 (a14:PySem.W.nsIn K mainGlobals "lowered"=some (some (.ref f14)))
 (l14:K.lookup f14=some ⟨oc14,od14,.func (PySem.W.fnOf "lowered" "lowered" (aB jy) (aA jy) (ag jy) .none kV14 dc14 pm14 an14 cd14 ct14),sl14⟩) (c14:PySem.W.codeIn K cd14 "lowered"=true) (k14:PySem.W.keepIn K (.ref f14)=true)
 (a15:PySem.W.nsIn K mainGlobals "divided"=some (some (.ref f15)))
 (l15:K.lookup f15=some ⟨oc15,od15,.func (PySem.W.fnOf "divided" "divided" (aB jG) (aA jG) (ag jG) .none kV15 dc15 pm15 an15 cd15 ct15),sl15⟩) (c15:PySem.W.codeIn K cd15 "divided"=true) (k15:PySem.W.keepIn K (.ref f15)=true)
 (a16:PySem.W.nsIn K mainGlobals "value_parts"=some (some (.ref f16)))
 (l16:K.lookup f16=some ⟨oc16,od16,.func (PySem.W.fnOf "value_parts" "value_parts" (aB i7) (aA i7) (ag i7) .none kV16 dc16 pm16 an16 cd16 ct16),sl16⟩) (c16:PySem.W.codeIn K cd16 "value_parts"=true) (k16:PySem.W.keepIn K (.ref f16)=true)
 (a17:PySem.W.nsIn K mainGlobals "sign_at"=some (some (.ref f17)))
 (l17:K.lookup f17=some ⟨oc17,od17,.func (PySem.W.fnOf "sign_at" "sign_at" (aB je) (aA je) (ag je) .none kV17 dc17 pm17 an17 cd17 ct17),sl17⟩) (c17:PySem.W.codeIn K cd17 "sign_at"=true) (k17:PySem.W.keepIn K (.ref f17)=true)
 (a18:PySem.W.nsIn K mainGlobals "row_from"=some (some (.ref f18)))
 (l18:K.lookup f18=some ⟨oc18,od18,.func (PySem.W.fnOf "row_from" "row_from" (aB jj) (aA jj) (ag jj) .none kV18 dc18 pm18 an18 cd18 ct18),sl18⟩) (c18:PySem.W.codeIn K cd18 "row_from"=true) (k18:PySem.W.keepIn K (.ref f18)=true)
 (a19:PySem.W.nsIn K mainGlobals "row_of"=some (some (.ref f19)))
 (l19:K.lookup f19=some ⟨oc19,od19,.func (PySem.W.fnOf "row_of" "row_of" (aB ji) (aA ji) (ag ji) .none kV19 dc19 pm19 an19 cd19 ct19),sl19⟩) (c19:PySem.W.codeIn K cd19 "row_of"=true) (k19:PySem.W.keepIn K (.ref f19)=true)
 (a20:PySem.W.nsIn K mainGlobals "changes"=some (some (.ref f20)))
 (l20:K.lookup f20=some ⟨oc20,od20,.func (PySem.W.fnOf "changes" "changes" (aB jL) (aA jL) (ag jL) .none kV20 dc20 pm20 an20 cd20 ct20),sl20⟩) (c20:PySem.W.codeIn K cd20 "changes"=true) (k20:PySem.W.keepIn K (.ref f20)=true)
 (a21:PySem.W.nsIn K mainGlobals "count"=some (some (.ref f21)))
 (l21:K.lookup f21=some ⟨oc21,od21,.func (PySem.W.fnOf "count" "count" (aB jI) (aA jI) (ag jI) .none kV21 dc21 pm21 an21 cd21 ct21),sl21⟩) (c21:PySem.W.codeIn K cd21 "count"=true) (k21:PySem.W.keepIn K (.ref f21)=true)
 (a22:PySem.W.nsIn K mainGlobals "bound"=some (some (.ref f22)))
 (l22:K.lookup f22=some ⟨oc22,od22,.func (PySem.W.fnOf "bound" "bound" (aB jN) (aA jN) (ag jN) .none kV22 dc22 pm22 an22 cd22 ct22),sl22⟩) (c22:PySem.W.codeIn K cd22 "bound"=true) (k22:PySem.W.keepIn K (.ref f22)=true)
 (a23:PySem.W.nsIn K mainGlobals "common"=some (some (.ref f23)))
 (l23:K.lookup f23=some ⟨oc23,od23,.func (PySem.W.fnOf "common" "common" (aB jJ) (aA jJ) (ag jJ) .none kV23 dc23 pm23 an23 cd23 ct23),sl23⟩) (c23:PySem.W.codeIn K cd23 "common"=true) (k23:PySem.W.keepIn K (.ref f23)=true)
 (a24:PySem.W.nsIn K mainGlobals "part"=some (some (.ref f24)))
 (l24:K.lookup f24=some ⟨oc24,od24,.func (PySem.W.fnOf "part" "part" (aB jp) (aA jp) (ag jp) .none kV24 dc24 pm24 an24 cd24 ct24),sl24⟩) (c24:PySem.W.codeIn K cd24 "part"=true) (k24:PySem.W.keepIn K (.ref f24)=true)
 (a25:PySem.W.findIn K (.ref CNoRoot) "__init__"=some (some (.ref f25)))
 (l25:K.lookup f25=some ⟨oc25,od25,.func (PySem.W.fnOf "__init__" "NoRoot.__init__" (aB ke) (aA ke) (ag ke) .none kV25 dc25 pm25 an25 cd25 ct25),sl25⟩) (c25:PySem.W.codeIn K cd25 "NoRoot.__init__"=true) (k25:PySem.W.keepIn K (.ref f25)=true)
 (a26:PySem.W.findIn K (.ref CTooHigh) "__init__"=some (some (.ref f26)))
 (l26:K.lookup f26=some ⟨oc26,od26,.func (PySem.W.fnOf "__init__" "TooHigh.__init__" (aB j3) (aA j3) (ag j3) .none kV26 dc26 pm26 an26 cd26 ct26),sl26⟩) (c26:PySem.W.codeIn K cd26 "TooHigh.__init__"=true) (k26:PySem.W.keepIn K (.ref f26)=true)
 (a27:PySem.W.nsIn K mainGlobals "refuse_high"=some (some (.ref f27)))
 (l27:K.lookup f27=some ⟨oc27,od27,.func (PySem.W.fnOf "refuse_high" "refuse_high" (aB jl) (aA jl) (ag jl) .none kV27 dc27 pm27 an27 cd27 ct27),sl27⟩) (c27:PySem.W.codeIn K cd27 "refuse_high"=true) (k27:PySem.W.keepIn K (.ref f27)=true)
 (a28:PySem.W.nsIn K mainGlobals "without_squares"=some (some (.ref f28)))
 (l28:K.lookup f28=some ⟨oc28,od28,.func (PySem.W.fnOf "without_squares" "without_squares" (aB iZ) (aA iZ) (ag iZ) .none kV28 dc28 pm28 an28 cd28 ct28),sl28⟩) (c28:PySem.W.codeIn K cd28 "without_squares"=true) (k28:PySem.W.keepIn K (.ref f28)=true)
 (a29:PySem.W.findIn K (.ref CC2) "__init__"=some (some (.ref f29))) (i29:PySem.W.isFn K (.ref f29)=true)
 (l29:K.lookup f29=some ⟨oc29,od29,.func (PySem.W.fnOf "__init__" "Number.__init__" (aB kc) (aA kc) (ag kc) .none kV29 dc29 pm29 an29 cd29 ct29),sl29⟩) (c29:PySem.W.codeIn K cd29 "Number.__init__"=true) (k29:PySem.W.keepIn K (.ref f29)=true)
 (a30:PySem.W.nsIn K mainGlobals "fine_width"=some (some (.ref f30)))
 (l30:K.lookup f30=some ⟨oc30,od30,.func (PySem.W.fnOf "fine_width" "fine_width" (aB jE) (aA jE) (ag jE) .none kV30 dc30 pm30 an30 cd30 ct30),sl30⟩) (c30:PySem.W.codeIn K cd30 "fine_width"=true) (k30:PySem.W.keepIn K (.ref f30)=true)
 (a31:PySem.W.findIn K (.ref CC1) "floor"=some (some (.ref f31))) (i31:PySem.W.isFn K (.ref f31)=true)
 (l31:K.lookup f31=some ⟨oc31,od31,.func (PySem.W.fnOf "floor" "Ratio.floor" (aB j7) (aA j7) (ag j7) .none kV31 dc31 pm31 an31 cd31 ct31),sl31⟩) (c31:PySem.W.codeIn K cd31 "Ratio.floor"=true) (k31:PySem.W.keepIn K (.ref f31)=true)
 (a32:PySem.W.nsIn K mainGlobals "middle"=some (some (.ref f32)))
 (l32:K.lookup f32=some ⟨oc32,od32,.func (PySem.W.fnOf "middle" "middle" (aB jw) (aA jw) (ag jw) .none kV32 dc32 pm32 an32 cd32 ct32),sl32⟩) (c32:PySem.W.codeIn K cd32 "middle"=true) (k32:PySem.W.keepIn K (.ref f32)=true)
 (a33:PySem.W.nsIn K mainGlobals "cells"=some (some (.ref f33)))
 (l33:K.lookup f33=some ⟨oc33,od33,.func (PySem.W.fnOf "cells" "cells" (aB jM) (aA jM) (ag jM) .none kV33 dc33 pm33 an33 cd33 ct33),sl33⟩) (c33:PySem.W.codeIn K cd33 "cells"=true) (k33:PySem.W.keepIn K (.ref f33)=true)
 (a34:PySem.W.nsIn K mainGlobals "divides"=some (some (.ref f34)))
 (l34:K.lookup f34=some ⟨oc34,od34,.func (PySem.W.fnOf "divides" "divides" (aB jF) (aA jF) (ag jF) .none kV34 dc34 pm34 an34 cd34 ct34),sl34⟩) (c34:PySem.W.codeIn K cd34 "divides"=true) (k34:PySem.W.keepIn K (.ref f34)=true)
 (a35:PySem.W.nsIn K mainGlobals "added"=some (some (.ref f35)))
 (l35:K.lookup f35=some ⟨oc35,od35,.func (PySem.W.fnOf "added" "added" (aB jP) (aA jP) (ag jP) .none kV35 dc35 pm35 an35 cd35 ct35),sl35⟩) (c35:PySem.W.codeIn K cd35 "added"=true) (k35:PySem.W.keepIn K (.ref f35)=true)
 (a36:PySem.W.nsIn K mainGlobals "multiplied"=some (some (.ref f36)))
 (l36:K.lookup f36=some ⟨oc36,od36,.func (PySem.W.fnOf "multiplied" "multiplied" (aB ju) (aA ju) (ag ju) .none kV36 dc36 pm36 an36 cd36 ct36),sl36⟩) (c36:PySem.W.codeIn K cd36 "multiplied"=true) (k36:PySem.W.keepIn K (.ref f36)=true)
 (a37:PySem.W.findIn K (.ref CC1) "plus"=some (some (.ref f37))) (i37:PySem.W.isFn K (.ref f37)=true)
 (l37:K.lookup f37=some ⟨oc37,od37,.func (PySem.W.fnOf "plus" "Ratio.plus" (aB j5) (aA j5) (ag j5) .none kV37 dc37 pm37 an37 cd37 ct37),sl37⟩) (c37:PySem.W.codeIn K cd37 "Ratio.plus"=true) (k37:PySem.W.keepIn K (.ref f37)=true)
 (a38:PySem.W.findIn K (.ref CC1) "minus"=some (some (.ref f38))) (i38:PySem.W.isFn K (.ref f38)=true)
 (l38:K.lookup f38=some ⟨oc38,od38,.func (PySem.W.fnOf "minus" "Ratio.minus" (aB j6) (aA j6) (ag j6) .none kV38 dc38 pm38 an38 cd38 ct38),sl38⟩) (c38:PySem.W.codeIn K cd38 "Ratio.minus"=true) (k38:PySem.W.keepIn K (.ref f38)=true)
 (a39:PySem.W.findIn K (.ref CC1) "times"=some (some (.ref f39))) (i39:PySem.W.isFn K (.ref f39)=true)
 (l39:K.lookup f39=some ⟨oc39,od39,.func (PySem.W.fnOf "times" "Ratio.times" (aB j4) (aA j4) (ag j4) .none kV39 dc39 pm39 an39 cd39 ct39),sl39⟩) (c39:PySem.W.codeIn K cd39 "Ratio.times"=true) (k39:PySem.W.keepIn K (.ref f39)=true)
 (a40:PySem.W.nsIn K mainGlobals "times_floor"=some (some (.ref f40)))
 (l40:K.lookup f40=some ⟨oc40,od40,.func (PySem.W.fnOf "times_floor" "times_floor" (aB i8) (aA i8) (ag i8) .none kV40 dc40 pm40 an40 cd40 ct40),sl40⟩) (c40:PySem.W.codeIn K cd40 "times_floor"=true) (k40:PySem.W.keepIn K (.ref f40)=true)
 (a41:PySem.W.nsIn K mainGlobals "square_of"=some (some (.ref f41)))
 (l41:K.lookup f41=some ⟨oc41,od41,.func (PySem.W.fnOf "square_of" "square_of" (aB jb) (aA jb) (ag jb) .none kV41 dc41 pm41 an41 cd41 ct41),sl41⟩) (c41:PySem.W.codeIn K cd41 "square_of"=true) (k41:PySem.W.keepIn K (.ref f41)=true)
 (a42:PySem.W.nsIn K mainGlobals "line_of"=some (some (.ref f42)))
 (l42:K.lookup f42=some ⟨oc42,od42,.func (PySem.W.fnOf "line_of" "line_of" (aB jz) (aA jz) (ag jz) .none kV42 dc42 pm42 an42 cd42 ct42),sl42⟩) (c42:PySem.W.codeIn K cd42 "line_of"=true) (k42:PySem.W.keepIn K (.ref f42)=true)
 (a43:PySem.W.nsIn K mainGlobals "halvings"=some (some (.ref f43)))
 (l43:K.lookup f43=some ⟨oc43,od43,.func (PySem.W.fnOf "halvings" "halvings" (aB jB) (aA jB) (ag jB) .none kV43 dc43 pm43 an43 cd43 ct43),sl43⟩) (c43:PySem.W.codeIn K cd43 "halvings"=true) (k43:PySem.W.keepIn K (.ref f43)=true)
 (a44:PySem.W.nsIn K mainGlobals "stretched"=some (some (.ref f44)))
 (l44:K.lookup f44=some ⟨oc44,od44,.func (PySem.W.fnOf "stretched" "stretched" (aB ja) (aA ja) (ag ja) .none kV44 dc44 pm44 an44 cd44 ct44),sl44⟩) (c44:PySem.W.codeIn K cd44 "stretched"=true) (k44:PySem.W.keepIn K (.ref f44)=true)
 (a45:PySem.W.nsIn K mainGlobals "spread"=some (some (.ref f45)))
 (l45:K.lookup f45=some ⟨oc45,od45,.func (PySem.W.fnOf "spread" "spread" (aB jc) (aA jc) (ag jc) .none kV45 dc45 pm45 an45 cd45 ct45),sl45⟩) (c45:PySem.W.codeIn K cd45 "spread"=true) (k45:PySem.W.keepIn K (.ref f45)=true)
 (a46:PySem.W.nsIn K mainGlobals "moved"=some (some (.ref f46)))
 (l46:K.lookup f46=some ⟨oc46,od46,.func (PySem.W.fnOf "moved" "moved" (aB jv) (aA jv) (ag jv) .none kV46 dc46 pm46 an46 cd46 ct46),sl46⟩) (c46:PySem.W.codeIn K cd46 "moved"=true) (k46:PySem.W.keepIn K (.ref f46)=true)
 (a47:PySem.W.nsIn K mainGlobals "halved"=some (some (.ref f47)))
 (l47:K.lookup f47=some ⟨oc47,od47,.func (PySem.W.fnOf "halved" "halved" (aB jC) (aA jC) (ag jC) .none kV47 dc47 pm47 an47 cd47 ct47),sl47⟩) (c47:PySem.W.codeIn K cd47 "halved"=true) (k47:PySem.W.keepIn K (.ref f47)=true)
 (a48:PySem.W.nsIn K mainGlobals "along"=some (some (.ref f48)))
 (l48:K.lookup f48=some ⟨oc48,od48,.func (PySem.W.fnOf "along" "along" (aB jO) (aA jO) (ag jO) .none kV48 dc48 pm48 an48 cd48 ct48),sl48⟩) (c48:PySem.W.codeIn K cd48 "along"=true) (k48:PySem.W.keepIn K (.ref f48)=true)
 (a49:PySem.W.nsIn K mainGlobals "narrowed"=some (some (.ref f49)))
 (l49:K.lookup f49=some ⟨oc49,od49,.func (PySem.W.fnOf "narrowed" "narrowed" (aB jt) (aA jt) (ag jt) .none kV49 dc49 pm49 an49 cd49 ct49),sl49⟩) (c49:PySem.W.codeIn K cd49 "narrowed"=true) (k49:PySem.W.keepIn K (.ref f49)=true)
 (a50:PySem.W.nsIn K mainGlobals "many_within"=some (some (.ref f50)))
 (l50:K.lookup f50=some ⟨oc50,od50,.func (PySem.W.fnOf "many_within" "many_within" (aB jx) (aA jx) (ag jx) .none kV50 dc50 pm50 an50 cd50 ct50),sl50⟩) (c50:PySem.W.codeIn K cd50 "many_within"=true) (k50:PySem.W.keepIn K (.ref f50)=true)
 (a51:PySem.W.nsIn K mainGlobals "refuse_great"=some (some (.ref f51)))
 (l51:K.lookup f51=some ⟨oc51,od51,.func (PySem.W.fnOf "refuse_great" "refuse_great" (aB jm) (aA jm) (ag jm) .none kV51 dc51 pm51 an51 cd51 ct51),sl51⟩) (c51:PySem.W.codeIn K cd51 "refuse_great"=true) (k51:PySem.W.keepIn K (.ref f51)=true)
 (a52:PySem.W.nsIn K mainGlobals "least"=some (some (.ref f52)))
 (l52:K.lookup f52=some ⟨oc52,od52,.func (PySem.W.fnOf "least" "least" (aB jA) (aA jA) (ag jA) .none kV52 dc52 pm52 an52 cd52 ct52),sl52⟩) (c52:PySem.W.codeIn K cd52 "least"=true) (k52:PySem.W.keepIn K (.ref f52)=true)
 (a53:PySem.W.nsIn K mainGlobals "number_in"=some (some (.ref f53)))
 (l53:K.lookup f53=some ⟨oc53,od53,.func (PySem.W.fnOf "number_in" "number_in" (aB jq) (aA jq) (ag jq) .none kV53 dc53 pm53 an53 cd53 ct53),sl53⟩) (c53:PySem.W.codeIn K cd53 "number_in"=true) (k53:PySem.W.keepIn K (.ref f53)=true)
 (a54:PySem.W.nsIn K mainGlobals "number"=some (some (.ref f54)))
 (l54:K.lookup f54=some ⟨oc54,od54,.func (PySem.W.fnOf "number" "number" (aB jr) (aA jr) (ag jr) (.ref dt54) kV54 dc54 pm54 an54 cd54 ct54),sl54⟩) (c54:PySem.W.codeIn K cd54 "number"=true) (k54:PySem.W.keepIn K (.ref f54)=true)
 (t54:K.lookup dt54=some ⟨oct54,odt54,.seq #[.none,.none] nt54,slt54⟩)
 (a55:PySem.W.nsIn K mainGlobals "fraction"=some (some (.ref f55)))
 (l55:K.lookup f55=some ⟨oc55,od55,.func (PySem.W.fnOf "fraction" "fraction" (aB jD) (aA jD) (ag jD) .none kV55 dc55 pm55 an55 cd55 ct55),sl55⟩) (c55:PySem.W.codeIn K cd55 "fraction"=true) (k55:PySem.W.keepIn K (.ref f55)=true)
 (a56:PySem.W.nsIn K mainGlobals "roots"=some (some (.ref f56)))
 (l56:K.lookup f56=some ⟨oc56,od56,.func (PySem.W.fnOf "roots" "roots" (aB jk) (aA jk) (ag jk) .none kV56 dc56 pm56 an56 cd56 ct56),sl56⟩) (c56:PySem.W.codeIn K cd56 "roots"=true) (k56:PySem.W.keepIn K (.ref f56)=true)
 (a57:PySem.W.nsIn K mainGlobals "_law_cell_at"=some (some (.ref f57)))
 (l57:K.lookup f57=some ⟨oc57,od57,.func (PySem.W.fnOf "_law_cell_at" "_law_cell_at" (aB jZ) (aA jZ) (ag jZ) .none kV57 dc57 pm57 an57 cd57 ct57),sl57⟩) (c57:PySem.W.codeIn K cd57 "_law_cell_at"=true) (k57:PySem.W.keepIn K (.ref f57)=true)
 (a58:PySem.W.nsIn K mainGlobals "_law_whole"=some (some (.ref f58)))
 (l58:K.lookup f58=some ⟨oc58,od58,.func (PySem.W.fnOf "_law_whole" "_law_whole" (aB jQ) (aA jQ) (ag jQ) .none kV58 dc58 pm58 an58 cd58 ct58),sl58⟩) (c58:PySem.W.codeIn K cd58 "_law_whole"=true) (k58:PySem.W.keepIn K (.ref f58)=true)
 (a59:PySem.W.nsIn K mainGlobals "_law_divisor"=some (some (.ref f59)))
 (l59:K.lookup f59=some ⟨oc59,od59,.func (PySem.W.fnOf "_law_divisor" "_law_divisor" (aB jY) (aA jY) (ag jY) .none kV59 dc59 pm59 an59 cd59 ct59),sl59⟩) (c59:PySem.W.codeIn K cd59 "_law_divisor"=true) (k59:PySem.W.keepIn K (.ref f59)=true)
 (a60:PySem.W.nsIn K mainGlobals "_law_poly"=some (some (.ref f60)))
 (l60:K.lookup f60=some ⟨oc60,od60,.func (PySem.W.fnOf "_law_poly" "_law_poly" (aB jT) (aA jT) (ag jT) .none kV60 dc60 pm60 an60 cd60 ct60),sl60⟩) (c60:PySem.W.codeIn K cd60 "_law_poly"=true) (k60:PySem.W.keepIn K (.ref f60)=true)
 (a61:PySem.W.nsIn K mainGlobals "_law_times"=some (some (.ref f61)))
 (l61:K.lookup f61=some ⟨oc61,od61,.func (PySem.W.fnOf "_law_times" "_law_times" (aB jS) (aA jS) (ag jS) .none kV61 dc61 pm61 an61 cd61 ct61),sl61⟩) (c61:PySem.W.codeIn K cd61 "_law_times"=true) (k61:PySem.W.keepIn K (.ref f61)=true)
 (a62:PySem.W.nsIn K mainGlobals "_law_told"=some (some (.ref f62)))
 (l62:K.lookup f62=some ⟨oc62,od62,.func (PySem.W.fnOf "_law_told" "_law_told" (aB jR) (aA jR) (ag jR) .none kV62 dc62 pm62 an62 cd62 ct62),sl62⟩) (c62:PySem.W.codeIn K cd62 "_law_told"=true) (k62:PySem.W.keepIn K (.ref f62)=true)
 (a63:PySem.W.nsIn K mainGlobals "_law_made"=some (some (.ref f63)))
 (l63:K.lookup f63=some ⟨oc63,od63,.func (PySem.W.fnOf "_law_made" "_law_made" (aB jX) (aA jX) (ag jX) .none kV63 dc63 pm63 an63 cd63 ct63),sl63⟩) (c63:PySem.W.codeIn K cd63 "_law_made"=true) (k63:PySem.W.keepIn K (.ref f63)=true)
 (a64:PySem.W.nsIn K mainGlobals "_law_refused"=some (some (.ref f64)))
 (l64:K.lookup f64=some ⟨oc64,od64,.func (PySem.W.fnOf "_law_refused" "_law_refused" (aB gv) (aA gv) (ag gv) .none kV64 dc64 pm64 an64 cd64 ct64),sl64⟩) (c64:PySem.W.codeIn K cd64 "_law_refused"=true) (k64:PySem.W.keepIn K (.ref f64)=true)
 (a65:PySem.W.nsIn K mainGlobals "_law_missed"=some (some (.ref f65)))
 (l65:K.lookup f65=some ⟨oc65,od65,.func (PySem.W.fnOf "_law_missed" "_law_missed" (aB jW) (aA jW) (ag jW) .none kV65 dc65 pm65 an65 cd65 ct65),sl65⟩) (c65:PySem.W.codeIn K cd65 "_law_missed"=true) (k65:PySem.W.keepIn K (.ref f65)=true)
 (a66:PySem.W.nsIn K mainGlobals "_law_no_root"=some (some (.ref f66)))
 (l66:K.lookup f66=some ⟨oc66,od66,.func (PySem.W.fnOf "_law_no_root" "_law_no_root" (aB jU) (aA jU) (ag jU) .none kV66 dc66 pm66 an66 cd66 ct66),sl66⟩) (c66:PySem.W.codeIn K cd66 "_law_no_root"=true) (k66:PySem.W.keepIn K (.ref f66)=true)
 (a67:PySem.W.nsIn K mainGlobals "_law_near_one"=some (some (.ref f67)))
 (l67:K.lookup f67=some ⟨oc67,od67,.func (PySem.W.fnOf "_law_near_one" "_law_near_one" (aB jV) (aA jV) (ag jV) .none kV67 dc67 pm67 an67 cd67 ct67),sl67⟩) (c67:PySem.W.codeIn K cd67 "_law_near_one"=true) (k67:PySem.W.keepIn K (.ref f67)=true)
 (a68:PySem.W.nsIn K mainGlobals "law"=some (some (.ref f68)))
 (l68:K.lookup f68=some ⟨oc68,od68,.func (PySem.W.fnOf "law" "law" (aB eR) (aA eR) (ag eR) .none kV68 dc68 pm68 an68 cd68 ct68),sl68⟩) (c68:PySem.W.codeIn K cd68 "law"=true) (k68:PySem.W.keepIn K (.ref f68)=true)
 (z0:PySem.W.nsIn K mainGlobals "abs"=some none)
 (z1:PySem.W.nsIn K mainGlobals "len"=some none)
 (z2:PySem.W.nsIn K mainGlobals "max"=some none)
 (z3:PySem.W.nsIn K mainGlobals "range"=some none)
 (z4:PySem.W.nsIn K mainGlobals "enumerate"=some none)
 (z5:PySem.W.nsIn K mainGlobals "reversed"=some none)
 (z6:PySem.W.nsIn K mainGlobals "list"=some none)
 (z7:PySem.W.nsIn K mainGlobals "sum"=some none)
 (z8:PySem.W.nsIn K mainGlobals "any"=some none)
 (z9:PySem.W.nsIn K mainGlobals "isinstance"=some none)
 (z10:PySem.W.nsIn K mainGlobals "int"=some none)
 (z11:PySem.W.nsIn K mainGlobals "bool"=some none)
 (z12:PySem.W.nsIn K mainGlobals "ValueError"=some none)
 (aI_HIGHEST:PySem.W.nsIn K mainGlobals "HIGHEST"=some (some (.int 8 tk_HIGHEST)))
 (hTr:l.prog.given.tree=none)
 : ∃fd:FuncData,(∀(s:Shared) (v:Value),BindsTo s fd ⟨[v],[]⟩ [("_law_script",v)])/\∀base:Heap,K.In base->base.Ns mainGlobals mg->base.NoSeer->FnOk l.prog w K mg base CX0 43 fa fd ["_law_script"] (oH K):=by
 have e:=hfa.symm.trans (PySem.W.mg_of X G a68);cases e;have T:Txt K mg:=⟨PySem.W.mg_none_of X G z0,PySem.W.mg_none_of X G z1,PySem.W.mg_none_of X G z2,PySem.W.mg_none_of X G z3,PySem.W.mg_none_of X G z4,PySem.W.mg_none_of X G z5,PySem.W.mg_none_of X G z6,PySem.W.mg_none_of X G z7,PySem.W.mg_none_of X G z8,PySem.W.mg_none_of X G z9,PySem.W.mg_none_of X G z10,PySem.W.mg_none_of X G z11,PySem.W.mg_none_of X G z12,⟨_,PySem.W.mg_of X G aI_HIGHEST⟩⟩;have R1:RCI K mg CC1:=⟨⟨pg1,hd1,po1,sa1⟩,n1_top,n1_bottom,PySem.W.mg_of X G aC1,ha1,hn1,ht1,hm1⟩;have R2:NCI K mg CC2:=⟨⟨pg2,hd2,po2,sa2⟩,n2_poly,n2_low,n2_high,PySem.W.mg_of X G aC2,ha2,hn2,ht2,hm2⟩;have F1:=aE (st:=jf) l1 c1 k1;have b1:=F1.binds (ps:=["one","other"]) λ_ _ _ _ _ _ us hl=>match us,hl with | [_,_],_=>rfl
 have F2:=aE (st:=jg) l2 c2 k2;have b2:=F2.binds (ps:=["row"]) λ_ _ _ _ _ _ us hl=>match us,hl with | [_],_=>rfl
 have F3:=aE (st:=i6) l3 c3 k3;have b3:=F3.binds (ps:=["value"]) λ_ _ _ _ _ _ us hl=>match us,hl with | [_],_=>rfl
 have F4:=zD (st:=j9) l4 c4 k4;have b4:=FunD.bindsD (ps:=["self","top","bottom"]) (ds:=[]) (tup:=[.int 1 tk4_0]) 3 F4 t4 rfl rfl λ_ _ _ _ _ _ us hl=>match us,hl with | [_,_,_],_=>⟨_,rfl,rfl⟩
 have bD4:=FunD.bindsD (ps:=["self","top","bottom"]) (ds:=[.int 1 tk4_0]) (tup:=[.int 1 tk4_0]) 2 F4 t4 rfl rfl λ_ _ _ _ _ _ us hl=>match us,hl with | [_,_],_=>⟨_,rfl,rfl⟩
 have F5:=aE (st:=j8) l5 c5 k5;have b5:=F5.binds (ps:=["self","other"]) λ_ _ _ _ _ _ us hl=>match us,hl with | [_,_],_=>rfl
 have F6:=aE (st:=jn) l6 c6 k6;have b6:=F6.binds (ps:=["row"]) λ_ _ _ _ _ _ us hl=>match us,hl with | [_],_=>rfl
 have F7:=aE (st:=jH) l7 c7 k7;have b7:=F7.binds (ps:=["row"]) λ_ _ _ _ _ _ us hl=>match us,hl with | [_],_=>rfl
 have F8:=aE (st:=jK) l8 c8 k8;have b8:=F8.binds (ps:=["row","place"]) λ_ _ _ _ _ _ us hl=>match us,hl with | [_,_],_=>rfl
 have F9:=aE (st:=i9) l9 c9 k9;have b9:=F9.binds (ps:=["first","second"]) λ_ _ _ _ _ _ us hl=>match us,hl with | [_,_],_=>rfl
 have F10:=aE (st:=jd) l10 c10 k10;have b10:=F10.binds (ps:=["row"]) λ_ _ _ _ _ _ us hl=>match us,hl with | [_],_=>rfl
 have F11:=aE (st:=gu) l11 c11 k11;have b11:=F11.binds (ps:=["row"]) λ_ _ _ _ _ _ us hl=>match us,hl with | [_],_=>rfl
 have F12:=aE (st:=jo) l12 c12 k12;have b12:=F12.binds (ps:=["row"]) λ_ _ _ _ _ _ us hl=>match us,hl with | [_],_=>rfl
 have F13:=aE (st:=jh) l13 c13 k13;have b13:=F13.binds (ps:=["row","factor"]) λ_ _ _ _ _ _ us hl=>match us,hl with | [_,_],_=>rfl
 have F14:=aE (st:=jy) l14 c14 k14;have b14:=F14.binds (ps:=["row","second","place","lead"]) λ_ _ _ _ _ _ us hl=>match us,hl with | [_,_,_,_],_=>rfl
 have F15:=aE (st:=jG) l15 c15 k15;have b15:=F15.binds (ps:=["first","second"]) λ_ _ _ _ _ _ us hl=>match us,hl with | [_,_],_=>rfl
 have F16:=aE (st:=i7) l16 c16 k16;have b16:=F16.binds (ps:=["row","top","bottom"]) λ_ _ _ _ _ _ us hl=>match us,hl with | [_,_,_],_=>rfl
 have F17:=aE (st:=je) l17 c17 k17;have b17:=F17.binds (ps:=["row","ratio"]) λ_ _ _ _ _ _ us hl=>match us,hl with | [_,_],_=>rfl
 have F18:=aE (st:=jj) l18 c18 k18;have b18:=F18.binds (ps:=["first","second"]) λ_ _ _ _ _ _ us hl=>match us,hl with | [_,_],_=>rfl
 have F19:=aE (st:=ji) l19 c19 k19;have b19:=F19.binds (ps:=["polynomial"]) λ_ _ _ _ _ _ us hl=>match us,hl with | [_],_=>rfl
 have F20:=aE (st:=jL) l20 c20 k20;have b20:=F20.binds (ps:=["row","ratio"]) λ_ _ _ _ _ _ us hl=>match us,hl with | [_,_],_=>rfl
 have F21:=aE (st:=jI) l21 c21 k21;have b21:=F21.binds (ps:=["row","low","high"]) λ_ _ _ _ _ _ us hl=>match us,hl with | [_,_,_],_=>rfl
 have F22:=aE (st:=jN) l22 c22 k22;have b22:=F22.binds (ps:=["row"]) λ_ _ _ _ _ _ us hl=>match us,hl with | [_],_=>rfl
 have F23:=aE (st:=jJ) l23 c23 k23;have b23:=F23.binds (ps:=["first","second"]) λ_ _ _ _ _ _ us hl=>match us,hl with | [_,_],_=>rfl
 have F24:=aE (st:=jp) l24 c24 k24;have b24:=F24.binds (ps:=["row","divisor"]) λ_ _ _ _ _ _ us hl=>match us,hl with | [_,_],_=>rfl
 have F25:=aE (st:=ke) l25 c25 k25;have b25:=F25.binds (ps:=["self","many"]) λ_ _ _ _ _ _ us hl=>match us,hl with | [_,_],_=>rfl
 have F26:=aE (st:=j3) l26 c26 k26;have b26:=F26.binds (ps:=["self","degree"]) λ_ _ _ _ _ _ us hl=>match us,hl with | [_,_],_=>rfl
 have F27:=aE (st:=jl) l27 c27 k27;have b27:=F27.binds (ps:=["height"]) λ_ _ _ _ _ _ us hl=>match us,hl with | [_],_=>rfl
 have F28:=aE (st:=iZ) l28 c28 k28;have b28:=F28.binds (ps:=["row"]) λ_ _ _ _ _ _ us hl=>match us,hl with | [_],_=>rfl
 have F29:=aE (st:=kc) l29 c29 k29;have b29:=F29.binds (ps:=["self","row","low","high"]) λ_ _ _ _ _ _ us hl=>match us,hl with | [_,_,_,_],_=>rfl
 have F30:=aE (st:=jE) l30 c30 k30;have b30:=F30.binds (ps:=["whole"]) λ_ _ _ _ _ _ us hl=>match us,hl with | [_],_=>rfl
 have F31:=aE (st:=j7) l31 c31 k31;have b31:=F31.binds (ps:=["self"]) λ_ _ _ _ _ _ us hl=>match us,hl with | [_],_=>rfl
 have F32:=aE (st:=jw) l32 c32 k32;have b32:=F32.binds (ps:=["low","high"]) λ_ _ _ _ _ _ us hl=>match us,hl with | [_,_],_=>rfl
 have F33:=aE (st:=jM) l33 c33 k33;have b33:=F33.binds (ps:=["row"]) λ_ _ _ _ _ _ us hl=>match us,hl with | [_],_=>rfl
 have F34:=aE (st:=jF) l34 c34 k34;have b34:=F34.binds (ps:=["divisor","row"]) λ_ _ _ _ _ _ us hl=>match us,hl with | [_,_],_=>rfl
 have F35:=aE (st:=jP) l35 c35 k35;have b35:=F35.binds (ps:=["first","second"]) λ_ _ _ _ _ _ us hl=>match us,hl with | [_,_],_=>rfl
 have F36:=aE (st:=ju) l36 c36 k36;have b36:=F36.binds (ps:=["first","second"]) λ_ _ _ _ _ _ us hl=>match us,hl with | [_,_],_=>rfl
 have F37:=aE (st:=j5) l37 c37 k37;have b37:=F37.binds (ps:=["self","other"]) λ_ _ _ _ _ _ us hl=>match us,hl with | [_,_],_=>rfl
 have F38:=aE (st:=j6) l38 c38 k38;have b38:=F38.binds (ps:=["self","other"]) λ_ _ _ _ _ _ us hl=>match us,hl with | [_,_],_=>rfl
 have F39:=aE (st:=j4) l39 c39 k39;have b39:=F39.binds (ps:=["self","other"]) λ_ _ _ _ _ _ us hl=>match us,hl with | [_,_],_=>rfl
 have F40:=aE (st:=i8) l40 c40 k40;have b40:=F40.binds (ps:=["factor","ratio"]) λ_ _ _ _ _ _ us hl=>match us,hl with | [_,_],_=>rfl
 have F41:=aE (st:=jb) l41 c41 k41;have b41:=F41.binds (ps:=["whole","span","other"]) λ_ _ _ _ _ _ us hl=>match us,hl with | [_,_,_],_=>rfl
 have F42:=aE (st:=jz) l42 c42 k42;have b42:=F42.binds (ps:=["whole","span"]) λ_ _ _ _ _ _ us hl=>match us,hl with | [_,_],_=>rfl
 have F43:=aE (st:=jB) l43 c43 k43;have b43:=F43.binds (ps:=["reach","width"]) λ_ _ _ _ _ _ us hl=>match us,hl with | [_,_],_=>rfl
 have F44:=aE (st:=ja) l44 c44 k44;have b44:=F44.binds (ps:=["row","low","reach"]) λ_ _ _ _ _ _ us hl=>match us,hl with | [_,_,_],_=>rfl
 have F45:=aE (st:=jc) l45 c45 k45;have b45:=F45.binds (ps:=["row"]) λ_ _ _ _ _ _ us hl=>match us,hl with | [_],_=>rfl
 have F46:=aE (st:=jv) l46 c46 k46;have b46:=F46.binds (ps:=["row"]) λ_ _ _ _ _ _ us hl=>match us,hl with | [_],_=>rfl
 have F47:=aE (st:=jC) l47 c47 k47;have b47:=F47.binds (ps:=["row","end","steps"]) λ_ _ _ _ _ _ us hl=>match us,hl with | [_,_,_],_=>rfl
 have F48:=aE (st:=jO) l48 c48 k48;have b48:=F48.binds (ps:=["low","reach","place","pieces"]) λ_ _ _ _ _ _ us hl=>match us,hl with | [_,_,_,_],_=>rfl
 have F49:=aE (st:=jt) l49 c49 k49;have b49:=F49.binds (ps:=["row","low","high","width"]) λ_ _ _ _ _ _ us hl=>match us,hl with | [_,_,_,_],_=>rfl
 have F50:=aE (st:=jx) l50 c50 k50;have b50:=F50.binds (ps:=["simple","low","high"]) λ_ _ _ _ _ _ us hl=>match us,hl with | [_,_,_],_=>rfl
 have F51:=aE (st:=jm) l51 c51 k51;have b51:=F51.binds (ps:=["row"]) λ_ _ _ _ _ _ us hl=>match us,hl with | [_],_=>rfl
 have F52:=aE (st:=jA) l52 c52 k52;have b52:=F52.binds (ps:=["row","low","high"]) λ_ _ _ _ _ _ us hl=>match us,hl with | [_,_,_],_=>rfl
 have F53:=aE (st:=jq) l53 c53 k53;have b53:=F53.binds (ps:=["simple","low","high"]) λ_ _ _ _ _ _ us hl=>match us,hl with | [_,_,_],_=>rfl
 have F54:=zD (st:=jr) l54 c54 k54;have b54:=FunD.bindsD (ps:=["row","low","high"]) (ds:=[]) (tup:=[.none,.none]) 3 F54 t54 rfl rfl λ_ _ _ _ _ _ us hl=>match us,hl with | [_,_,_],_=>⟨_,rfl,rfl⟩
 have bD54:=FunD.bindsD (ps:=["row","low","high"]) (ds:=[.none,.none]) (tup:=[.none,.none]) 1 F54 t54 rfl rfl λ_ _ _ _ _ _ us hl=>match us,hl with | [_],_=>⟨_,rfl,rfl⟩
 have F55:=aE (st:=jD) l55 c55 k55;have b55:=F55.binds (ps:=["ratio"]) λ_ _ _ _ _ _ us hl=>match us,hl with | [_],_=>rfl
 have F56:=aE (st:=jk) l56 c56 k56;have b56:=F56.binds (ps:=["row"]) λ_ _ _ _ _ _ us hl=>match us,hl with | [_],_=>rfl
 have F57:=aE (st:=jZ) l57 c57 k57;have b57:=F57.binds (ps:=["_law_script","_law_k"]) λ_ _ _ _ _ _ us hl=>match us,hl with | [_,_],_=>rfl
 have F58:=aE (st:=jQ) l58 c58 k58;have b58:=F58.binds (ps:=["_law_found"]) λ_ _ _ _ _ _ us hl=>match us,hl with | [_],_=>rfl
 have F59:=aE (st:=jY) l59 c59 k59;have b59:=F59.binds (ps:=["_law_one","_law_other"]) λ_ _ _ _ _ _ us hl=>match us,hl with | [_,_],_=>rfl
 have F60:=aE (st:=jT) l60 c60 k60;have b60:=F60.binds (ps:=["_law_found"]) λ_ _ _ _ _ _ us hl=>match us,hl with | [_],_=>rfl
 have F61:=aE (st:=jS) l61 c61 k61;have b61:=F61.binds (ps:=["_law_one","_law_other"]) λ_ _ _ _ _ _ us hl=>match us,hl with | [_,_],_=>rfl
 have F62:=aE (st:=jR) l62 c62 k62;have b62:=F62.binds (ps:=["_law_found","_law_due"]) λ_ _ _ _ _ _ us hl=>match us,hl with | [_,_],_=>rfl
 have F63:=aE (st:=jX) l63 c63 k63;have b63:=F63.binds (ps:=["_law_kind","_law_kp","_law_span"]) λ_ _ _ _ _ _ us hl=>match us,hl with | [_,_,_],_=>rfl
 have F64:=aE (st:=gv) l64 c64 k64;have b64:=F64.binds (ps:=["_law_kind","_law_kp","_law_span"]) λ_ _ _ _ _ _ us hl=>match us,hl with | [_,_,_],_=>rfl
 have F65:=aE (st:=jW) l65 c65 k65;have b65:=F65.binds (ps:=["_law_kp","_law_span"]) λ_ _ _ _ _ _ us hl=>match us,hl with | [_,_],_=>rfl
 have F66:=aE (st:=jU) l66 c66 k66;have b66:=F66.binds (ps:=["_law_last"]) λ_ _ _ _ _ _ us hl=>match us,hl with | [_],_=>rfl
 have F67:=aE (st:=jV) l67 c67 k67;have b67:=F67.binds (ps:=["_law_far","_law_kind"]) λ_ _ _ _ _ _ us hl=>match us,hl with | [_,_],_=>rfl
 have F68:=aE (st:=eR) l68 c68 k68;have b68:=F68.binds (ps:=["_law_script"]) λ_ _ _ _ _ _ us hl=>match us,hl with | [_],_=>rfl
 refine⟨PySem.W.fnOf "law" "law" (aB eR) (aA eR) (ag eR) .none kV68 dc68 pm68 an68 cd68 ct68,λs v=>.of_eq rfl,λbase KB GB hNS=>?_⟩;have XE:EXC K mg base CTooGreat CNoRoot CTooHigh CRootError:=⟨PySem.W.mg_of X G aETooGreat,PySem.W.mg_of X G aENoRoot,PySem.W.mg_of X G aETooHigh,PySem.W.mg_of X G aERootError,Et KB GB aETooGreat xBTooGreat,⟨uT e6TooGreat,e0TooGreat,e1TooGreat,e2TooGreat,e3TooGreat,e4TooGreat,e5TooGreat,e6TooGreat⟩,xh_TooGreat_RootError,xh_TooGreat_TooGreat,xh_NoRoot_NoRoot,xh_TooGreat_NoRoot,xi_TooGreat_ValueError,xi_TooGreat_TooGreat,xi_TooGreat_NoRoot⟩;have C1:Cal l.prog w K mg base 1 "shared_by_two" ["one","other"] sp2 _ _:=⟨ER F1 T  ,PySem.W.mg_of X G a1,k1,b1⟩;have C2:Cal l.prog w K mg base 2 "shared" ["row"] (oz K) _ _:=⟨ES F2 T  C1,PySem.W.mg_of X G a2,k2,b2⟩;have C3:Cal l.prog w K mg base 1 "whole_sign" ["value"] iV _ _:=⟨EE F3 T  ,PySem.W.mg_of X G a3,k3,b3⟩;have K1:KCal l.prog w K mg base 2 CC1 "Ratio" ["self","top","bottom"] (cD CC1) _ _ _ [.int 1]:=⟨FO F4 T R1 C1,⟨mk1,a4,i4,kc1⟩,PySem.W.mg_of X G aC1,b4,bD4,.cons ⟨_,rfl⟩ .nil⟩;have C5:MCal l.prog w K mg base 2 CC1 "against" ["self","other"] (oO CC1) _ _:=⟨FN F5 T R1 C3,⟨a5,i5,k5⟩,b5⟩;have C6:Cal l.prog w K mg base 1 "poly" ["row"] (iU K) _ _:=⟨E1 F6 T  ,PySem.W.mg_of X G a6,k6,b6⟩;have C7:Cal l.prog w K mg base 1 "degree" ["row"] fE _ _:=⟨Fl F7 T  ,PySem.W.mg_of X G a7,k7,b7⟩;have C8:Cal l.prog w K mg base 1 "coefficient" ["row","place"] (gq K) _ _:=⟨Fo F8 T  ,PySem.W.mg_of X G a8,k8,b8⟩;have C9:Cal l.prog w K mg base 2 "taken" ["first","second"] (iY K cj) _ _:=⟨EH F9 T  C6 C8,PySem.W.mg_of X G a9,k9,b9⟩;have C10:Cal l.prog w K mg base 1 "slope" ["row"] (sp1 slopeL) _ _:=⟨EN F10 T  ,PySem.W.mg_of X G a10,k10,b10⟩;have C11:Cal l.prog w K mg base 33 "shrunk" ["row"] oy _ _:=⟨EQ F11 T  hNS hTr C2,PySem.W.mg_of X G a11,k11,b11⟩;have C12:Cal l.prog w K mg base 34 "plain" ["row"] ll _ _:=⟨E2 F12 T  C11,PySem.W.mg_of X G a12,k12,b12⟩;have C13:Cal l.prog w K mg base 1 "scaled" ["row","factor"] qz _ _:=⟨ET F13 T  ,PySem.W.mg_of X G a13,k13,b13⟩;have C14:Cal l.prog w K mg base 1 "lowered" ["row","second","place","lead"] qM _ _:=⟨Fb F14 T  ,PySem.W.mg_of X G a14,k14,b14⟩;have C15:Cal l.prog w K mg base 2 "divided" ["first","second"] lu _ _:=⟨Fk F15 T  C3 C7 C13 C14 C6,PySem.W.mg_of X G a15,k15,b15⟩;have C16:Cal l.prog w K mg base 1 "value_parts" ["row","top","bottom"] qu _ _:=⟨EF F16 T  ,PySem.W.mg_of X G a16,k16,b16⟩;have C17:Cal l.prog w K mg base 2 "sign_at" ["row","ratio"] (iW CC1) _ _:=⟨EO F17 T R1 C16 C3,PySem.W.mg_of X G a17,k17,b17⟩;have C18:Cal l.prog w K mg base 34 "row_from" ["first","second"] qA _ _:=⟨EV F18 T  C11 C15 C9,PySem.W.mg_of X G a18,k18,b18⟩;have C19:Cal l.prog w K mg base 35 "row_of" ["polynomial"] lj _ _:=⟨EU F19 T  C18 C10,PySem.W.mg_of X G a19,k19,b19⟩;have C20:Cal l.prog w K mg base 3 "changes" ["row","ratio"] (oM CC1) _ _:=⟨Fp F20 T R1 C17,PySem.W.mg_of X G a20,k20,b20⟩;have C21:Cal l.prog w K mg base 4 "count" ["row","low","high"] (oK CC1) _ _:=⟨Fm F21 T R1 C20,PySem.W.mg_of X G a21,k21,b21⟩;have C22:Cal l.prog w K mg base 1 "bound" ["row"] (lv K) _ _:=⟨Ft F22 T  ,PySem.W.mg_of X G a22,k22,b22⟩;have C23:Cal l.prog w K mg base 35 "common" ["first","second"] qU _ _:=⟨Fn F23 T  C12 C15,PySem.W.mg_of X G a23,k23,b23⟩;have C24:Cal l.prog w K mg base 35 "part" ["row","divisor"] qD _ _:=⟨E3 F24 T  C15 C12,PySem.W.mg_of X G a24,k24,b24⟩;have C25:XCal l.prog w K mg base 1 CNoRoot "NoRoot" "many" ["self","many"] _ _:=⟨FQ F25 T (XCls.of yCNoRoot) yNNoRoot,yl KB GB aENoRoot yXNoRoot,yKNoRoot,b25,XCls.of yCNoRoot,⟨uT e6NoRoot,e0NoRoot,e1NoRoot,e2NoRoot,e3NoRoot,e4NoRoot,e5NoRoot,e6NoRoot⟩,yNNoRoot⟩;have C26:XCal l.prog w K mg base 1 CTooHigh "TooHigh" "degree" ["self","degree"] _ _:=⟨FI F26 T (XCls.of yCTooHigh) yNTooHigh,yl KB GB aETooHigh yXTooHigh,yKTooHigh,b26,XCls.of yCTooHigh,⟨uT e6TooHigh,e0TooHigh,e1TooHigh,e2TooHigh,e3TooHigh,e4TooHigh,e5TooHigh,e6TooHigh⟩,yNTooHigh⟩;have C27:CalV l.prog w K mg base 3 "refuse_high" ["height"] (oA CTooHigh) _ _:=⟨EY F27 T  C26,PySem.W.mg_of X G a27,k27,b27⟩;have C28:Cal l.prog w K mg base 36 "without_squares" ["row"] oq _ _:=⟨ED F28 T  C24 C23 C10,PySem.W.mg_of X G a28,k28,b28⟩;have K2:KCal l.prog w K mg base 1 CC2 "Number" ["self","row","low","high"] (oJ CC2) _ _ _ []:=⟨FP F29 T R2 ,⟨mk2,a29,i29,kc2⟩,PySem.W.mg_of X G aC2,b29,b29,.nil⟩;have C30:Cal l.prog w K mg base 4 "fine_width" ["whole"] (qQ CC1) _ _:=⟨Fi F30 T R1 K1 C22,PySem.W.mg_of X G a30,k30,b30⟩;have C31:MCal l.prog w K mg base 1 CC1 "floor" ["self"] (qS CC1) _ _:=⟨FM F31 T R1 ,⟨a31,i31,k31⟩,b31⟩;have C32:Cal l.prog w K mg base 4 "middle" ["low","high"] (qK CC1) _ _:=⟨E9 F32 T R1 K1,PySem.W.mg_of X G a32,k32,b32⟩;have C33:Cal l.prog w K mg base 36 "cells" ["row"] (oN CC1) _ _:=⟨Fq F33 T R1 C7 C19 K1 C22 C20 C32,PySem.W.mg_of X G a33,k33,b33⟩;have C34:Cal l.prog w K mg base 1 "divides" ["divisor","row"] iX _ _:=⟨Fj F34 T  ,PySem.W.mg_of X G a34,k34,b34⟩;have C35:Cal l.prog w K mg base 2 "added" ["first","second"] (iY K fA) _ _:=⟨Fv F35 T  C6 C8,PySem.W.mg_of X G a35,k35,b35⟩;have C36:Cal l.prog w K mg base 1 "multiplied" ["first","second"] qH _ _:=⟨E7 F36 T  ,PySem.W.mg_of X G a36,k36,b36⟩;have C37:MCal l.prog w K mg base 4 CC1 "plus" ["self","other"] (oC CC1) _ _:=⟨FK F37 T R1 K1,⟨a37,i37,k37⟩,b37⟩;have C38:MCal l.prog w K mg base 4 CC1 "minus" ["self","other"] (oG CC1) _ _:=⟨FL F38 T R1 K1,⟨a38,i38,k38⟩,b38⟩;have C39:MCal l.prog w K mg base 4 CC1 "times" ["self","other"] (li CC1) _ _:=⟨FJ F39 T R1 K1,⟨a39,i39,k39⟩,b39⟩;have C40:Cal l.prog w K mg base 5 "times_floor" ["factor","ratio"] (qw CC1) _ _:=⟨EG F40 T R1 K1 C39 C31,PySem.W.mg_of X G a40,k40,b40⟩;have C41:Cal l.prog w K mg base 1 "square_of" ["whole","span","other"] iX _ _:=⟨EJ F41 T  ,PySem.W.mg_of X G a41,k41,b41⟩;have C42:Cal l.prog w K mg base 6 "line_of" ["whole","span"] (qN CC1) _ _:=⟨Fc F42 T R1 K1 C40 C5 C17,PySem.W.mg_of X G a42,k42,b42⟩;have C43:Cal l.prog w K mg base 1 "halvings" ["reach","width"] (qO CC1) _ _:=⟨Ff F43 T R1 ,PySem.W.mg_of X G a43,k43,b43⟩;have C44:Cal l.prog w K mg base 3 "stretched" ["row","low","reach"] (qx CC1) _ _:=⟨EI F44 T R1 C2 C35 C36 C6,PySem.W.mg_of X G a44,k44,b44⟩;have C45:Cal l.prog w K mg base 1 "spread" ["row"] qy _ _:=⟨EK F45 T  ,PySem.W.mg_of X G a45,k45,b45⟩;have C46:Cal l.prog w K mg base 2 "moved" ["row"] qI _ _:=⟨E8 F46 T  C7,PySem.W.mg_of X G a46,k46,b46⟩;have C47:Cal l.prog w K mg base 3 "halved" ["row","end","steps"] qP _ _:=⟨Fg F47 T  C45 C3 C46,PySem.W.mg_of X G a47,k47,b47⟩;have C48:Cal l.prog w K mg base 5 "along" ["low","reach","place","pieces"] (qV CC1) _ _:=⟨Fu F48 T R1 C37 C39 K1,PySem.W.mg_of X G a48,k48,b48⟩;have C49:Cal l.prog w K mg base 6 "narrowed" ["row","low","high","width"] (oF CC1) _ _:=⟨E6 F49 T R1 C38 C43 C47 C44 C17 C48,PySem.W.mg_of X G a49,k49,b49⟩;have C50:Cal l.prog w K mg base 36 "many_within" ["simple","low","high"] (qG CC1) _ _:=⟨Fa F50 T R1 C5 C21 C19,PySem.W.mg_of X G a50,k50,b50⟩;have C51:CalV l.prog w K mg base 1 "refuse_great" ["row"] (oB CTooGreat) _ _:=⟨EZ F51 T  XE ,PySem.W.mg_of X G a51,k51,b51⟩;have C52:Cal l.prog w K mg base 37 "least" ["row","low","high"] (qL CC1) _ _:=⟨Fd F52 T  C12 C7 C30 C49 C42 C33 C41 C34 C21 C19,PySem.W.mg_of X G a52,k52,b52⟩;have C53:Cal l.prog w K mg base 38 "number_in" ["simple","low","high"] (oE CC1 CC2) _ _:=⟨E4 F53 T R1 C52 C17 C49 C38 C39 K1 K2,PySem.W.mg_of X G a53,k53,b53⟩;have bH54:=FunD.bindsD (ps:=["row","low","high"]) (ds:=[.none]) (tup:=[.none,.none]) 2 F54 t54 rfl rfl λ_ _ _ _ _ _ us hl=>match us,hl with | [_,_],_=>⟨_,rfl,rfl⟩
 have C54:CalVE l.prog w K mg base 39 "number" ["row","low","high"] (eQ CC1 CC2 CNoRoot CTooGreat) _ _:=⟨E5 F54 T R1 C27 C7 K1 C22 C28 C50 C51 C53 C25,PySem.W.mg_of X G a54,k54,b54,bH54,bD54⟩;have C55:CalV l.prog w K mg base 40 "fraction" ["ratio"] (qR CC1 CC2 CTooGreat) _ _:=⟨Fh F55 T R1 C54,PySem.W.mg_of X G a55,k55,b55⟩;have C56:CalV l.prog w K mg base 39 "roots" ["row"] (gm CC1 CC2 CTooGreat) _ _:=⟨EW F56 T R1 C27 C7 C28 C51 C33 C53,PySem.W.mg_of X G a56,k56,b56⟩;have C57:Cal l.prog w K mg base 1 "_law_cell_at" ["_law_script","_law_k"] (gq K) _ _:=⟨FH F57 T  ,PySem.W.mg_of X G a57,k57,b57⟩;have C58:Cal l.prog w K mg base 1 "_law_whole" ["_law_found"] ot _ _:=⟨Fw F58 T  ,PySem.W.mg_of X G a58,k58,b58⟩;have C59:Cal l.prog w K mg base 1 "_law_divisor" ["_law_one","_law_other"] qT _ _:=⟨FG F59 T  ,PySem.W.mg_of X G a59,k59,b59⟩;have C60:Cal l.prog w K mg base 2 "_law_poly" ["_law_found"] qC _ _:=⟨FA F60 T  C58,PySem.W.mg_of X G a60,k60,b60⟩;have C61:Cal l.prog w K mg base 1 "_law_times" ["_law_one","_law_other"] qv _ _:=⟨Fy F61 T  ,PySem.W.mg_of X G a61,k61,b61⟩;have C62:Cal l.prog w K mg base 3 "_law_told" ["_law_found","_law_due"] (ou CC2) _ _:=⟨Fx F62 T R2 C60,PySem.W.mg_of X G a62,k62,b62⟩;have C63:CalV l.prog w K mg base 41 "_law_made" ["_law_kind","_law_kp","_law_span"] (ln CC1 CC2 CTooGreat) _ _:=⟨FF F63 T R1 C54 C55 C56 K1,PySem.W.mg_of X G a63,k63,b63⟩;have C64:Cal l.prog w K mg base 42 "_law_refused" ["_law_kind","_law_kp","_law_span"] (qB CC1) _ _:=⟨Fz F64 T R1 XE C63,PySem.W.mg_of X G a64,k64,b64⟩;have C65:Cal l.prog w K mg base 42 "_law_missed" ["_law_kp","_law_span"] (qJ CC1) _ _:=⟨FE F65 T R1 XE C54 C37 K1 C58 C25,PySem.W.mg_of X G a65,k65,b65⟩;have C66:Cal l.prog w K mg base 40 "_law_no_root" ["_law_last"] qE _ _:=⟨FC F66 T R1 XE C56,PySem.W.mg_of X G a66,k66,b66⟩;have C67:Cal l.prog w K mg base 42 "_law_near_one" ["_law_far","_law_kind"] qF _ _:=⟨FD F67 T R1 XE C54 K1 C56 C62,PySem.W.mg_of X G a67,k67,b67⟩;exact Fe F68 T R1 C57 C66 C67 C59 K1 C61 C65 C64 C62 C63
theorem walk{l:PySem.W.OpenLaw}{q:Program}{loose:List Str}{XP:(Str->Option Value)->Heap->Prop}{YP:World->Heap->Prop}{d:DefRec}{K:Params->PySem.W.Frag}(hi:PyProof.Rows.importsNone q=true)(hn:l.most=some 63)(hdf:d.params.defaults=[])
 (hY:∀(w:World) (h:Heap),YP w h->(K w.params).In h)
 (F:∀(w:World) (mg:Str->Option Value) (fa:Addr) (h:Heap),(K w.params).In h->h.Ns mainGlobals mg->mg d.name=some (.ref fa) ->
   ∃fd:FuncData,(∀(s:Shared) (u:Value),BindsTo s fd ⟨[u],[]⟩ [("_law_script",u)])/\∀base:Heap,(K w.params).In base->base.Ns mainGlobals mg->base.NoSeer->FnOk l.prog w (K w.params) mg base CX0 43 fa fd ["_law_script"] (oH (K w.params))) :
 PySem.W.WalkO q loose XP YP l.row.toRowW d [] (λf vs=>PySem.call f vs) :=
 L2.walk_ofS (n:=63) (k:=43) (x:="_law_script") (CX:=λ_=>CX0) (sp:=λw=>oH (K w.params)) hi hn (by decide) hdf ⟨rfl,by decide,by decide⟩ hY F (λ_ _ a ns hl _ hS=>⟨a,ns,rfl,hS,hl,λ_=>rfl⟩) λ_ _ _ _ _ z=>z
section
end
end R44
open PySem PySem.W PyProof.Rows
set_option maxRecDepth 100000 in
set_option maxHeartbeats 0 in
theorem PySem.Challenge.cw_rootspan_k44_too_great_holds : PySem.Challenge.rw_rootspan_k44_too_great.Holds := by
 w_on;o_law;k_head;(case hw=>w_witness2)
 k_fill
 refine R44.walk (l:=PySem.Challenge.rw_rootspan_k44_too_great) (by decide +kernel) rfl rfl (λw h Y=>PySem.W.kIn_of Y) ?F
 case F =>
  intro w mg fa h KX G hmg
  refine' R44.all_mk KX G hmg ?aC1 ?pg1 ?hd1 ?po1 ?sa1 ?mk1 ?kc1 ?n1_top ?n1_bottom ?ha1 ?hn1 ?ht1 ?hm1 ?aC2 ?pg2 ?hd2 ?po2 ?sa2 ?mk2 ?kc2 ?n2_poly ?n2_low ?n2_high ?ha2 ?hn2 ?ht2 ?hm2 ?aETooGreat ?aENoRoot ?aETooHigh ?aERootError ?xBTooGreat ?e0TooGreat ?e1TooGreat ?e2TooGreat ?e3TooGreat ?e4TooGreat ?e5TooGreat ?e6TooGreat ?e0NoRoot ?e1NoRoot ?e2NoRoot ?e3NoRoot ?e4NoRoot ?e5NoRoot ?e6NoRoot ?e0TooHigh ?e1TooHigh ?e2TooHigh ?e3TooHigh ?e4TooHigh ?e5TooHigh ?e6TooHigh ?yXNoRoot ?yCNoRoot ?yKNoRoot ?yNNoRoot ?yXTooHigh ?yCTooHigh ?yKTooHigh ?yNTooHigh ?xh_TooGreat_RootError ?xh_TooGreat_TooGreat ?xh_NoRoot_NoRoot ?xh_TooGreat_NoRoot ?xi_TooGreat_ValueError ?xi_TooGreat_TooGreat ?xi_TooGreat_NoRoot ?a1 ?l1 ?c1 ?k1 ?a2 ?l2 ?c2 ?k2 ?a3 ?l3 ?c3 ?k3 ?a4 ?i4 ?l4 ?c4 ?k4 ?t4 ?a5 ?i5 ?l5 ?c5 ?k5 ?a6 ?l6 ?c6 ?k6 ?a7 ?l7 ?c7 ?k7 ?a8 ?l8 ?c8 ?k8 ?a9 ?l9 ?c9 ?k9 ?a10 ?l10 ?c10 ?k10 ?a11 ?l11 ?c11 ?k11 ?a12 ?l12 ?c12 ?k12 ?a13 ?l13 ?c13 ?k13 ?a14 ?l14 ?c14 ?k14 ?a15 ?l15 ?c15 ?k15 ?a16 ?l16 ?c16 ?k16 ?a17 ?l17 ?c17 ?k17 ?a18 ?l18 ?c18 ?k18 ?a19 ?l19 ?c19 ?k19 ?a20 ?l20 ?c20 ?k20 ?a21 ?l21 ?c21 ?k21 ?a22 ?l22 ?c22 ?k22 ?a23 ?l23 ?c23 ?k23 ?a24 ?l24 ?c24 ?k24 ?a25 ?l25 ?c25 ?k25 ?a26 ?l26 ?c26 ?k26 ?a27 ?l27 ?c27 ?k27 ?a28 ?l28 ?c28 ?k28 ?a29 ?i29 ?l29 ?c29 ?k29 ?a30 ?l30 ?c30 ?k30 ?a31 ?i31 ?l31 ?c31 ?k31 ?a32 ?l32 ?c32 ?k32 ?a33 ?l33 ?c33 ?k33 ?a34 ?l34 ?c34 ?k34 ?a35 ?l35 ?c35 ?k35 ?a36 ?l36 ?c36 ?k36 ?a37 ?i37 ?l37 ?c37 ?k37 ?a38 ?i38 ?l38 ?c38 ?k38 ?a39 ?i39 ?l39 ?c39 ?k39 ?a40 ?l40 ?c40 ?k40 ?a41 ?l41 ?c41 ?k41 ?a42 ?l42 ?c42 ?k42 ?a43 ?l43 ?c43 ?k43 ?a44 ?l44 ?c44 ?k44 ?a45 ?l45 ?c45 ?k45 ?a46 ?l46 ?c46 ?k46 ?a47 ?l47 ?c47 ?k47 ?a48 ?l48 ?c48 ?k48 ?a49 ?l49 ?c49 ?k49 ?a50 ?l50 ?c50 ?k50 ?a51 ?l51 ?c51 ?k51 ?a52 ?l52 ?c52 ?k52 ?a53 ?l53 ?c53 ?k53 ?a54 ?l54 ?c54 ?k54 ?t54 ?a55 ?l55 ?c55 ?k55 ?a56 ?l56 ?c56 ?k56 ?a57 ?l57 ?c57 ?k57 ?a58 ?l58 ?c58 ?k58 ?a59 ?l59 ?c59 ?k59 ?a60 ?l60 ?c60 ?k60 ?a61 ?l61 ?c61 ?k61 ?a62 ?l62 ?c62 ?k62 ?a63 ?l63 ?c63 ?k63 ?a64 ?l64 ?c64 ?k64 ?a65 ?l65 ?c65 ?k65 ?a66 ?l66 ?c66 ?k66 ?a67 ?l67 ?c67 ?k67 ?a68 ?l68 ?c68 ?k68 ?z0 ?z1 ?z2 ?z3 ?z4 ?z5 ?z6 ?z7 ?z8 ?z9 ?z10 ?z11 ?z12 ?aI_HIGHEST rfl
  (case aC1=>k_is)
  (case pg1=>k_is)
  (case hd1=>k_is)
  (case po1=>k_is)
  (case sa1=>k_is)
  (case mk1=>k_is)
  (case kc1=>k_is)
  (case n1_top=>k_is)
  (case n1_bottom=>k_is)
  (case ha1=>k_is)
  (case hn1=>k_is)
  (case ht1=>k_is)
  (case hm1=>k_is)
  (case aC2=>k_is)
  (case pg2=>k_is)
  (case hd2=>k_is)
  (case po2=>k_is)
  (case sa2=>k_is)
  (case mk2=>k_is)
  (case kc2=>k_is)
  (case n2_poly=>k_is)
  (case n2_low=>k_is)
  (case n2_high=>k_is)
  (case ha2=>k_is)
  (case hn2=>k_is)
  (case ht2=>k_is)
  (case hm2=>k_is)
  (case aETooGreat=>k_is)
  (case aENoRoot=>k_is)
  (case aETooHigh=>k_is)
  (case aERootError=>k_is)
  (case xBTooGreat=>k_exc)
  (case e0TooGreat=>k_is)
  (case e1TooGreat=>k_is)
  (case e2TooGreat=>k_is)
  (case e3TooGreat=>k_is)
  (case e4TooGreat=>k_is)
  (case e5TooGreat=>k_is)
  (case e6TooGreat=>k_is)
  (case e0NoRoot=>k_is)
  (case e1NoRoot=>k_is)
  (case e2NoRoot=>k_is)
  (case e3NoRoot=>k_is)
  (case e4NoRoot=>k_is)
  (case e5NoRoot=>k_is)
  (case e6NoRoot=>k_is)
  (case e0TooHigh=>k_is)
  (case e1TooHigh=>k_is)
  (case e2TooHigh=>k_is)
  (case e3TooHigh=>k_is)
  (case e4TooHigh=>k_is)
  (case e5TooHigh=>k_is)
  (case e6TooHigh=>k_is)
  (case yCNoRoot=>first |rfl |with_unfolding_all rfl)
  (case yKNoRoot=>k_is)
  (case yNNoRoot=>k_is)
  (case yCTooHigh=>first |rfl |with_unfolding_all rfl)
  (case yKTooHigh=>k_is)
  (case yNTooHigh=>k_is)
  (case xh_TooGreat_RootError=>kts_exm)
  (case xh_TooGreat_TooGreat=>kts_exm)
  (case xh_NoRoot_NoRoot=>kts_exm)
  (case xh_TooGreat_NoRoot=>kts_exm)
  (case xi_TooGreat_ValueError=>kit_is)
  (case xi_TooGreat_TooGreat=>kit_is)
  (case xi_TooGreat_NoRoot=>kit_is)
  (case a1=>k_is)
  (case l1=>k_is)
  (case c1=>k_is)
  (case k1=>k_is)
  (case a2=>k_is)
  (case l2=>k_is)
  (case c2=>k_is)
  (case k2=>k_is)
  (case a3=>k_is)
  (case l3=>k_is)
  (case c3=>k_is)
  (case k3=>k_is)
  (case a4=>k_is)
  (case i4=>k_is)
  (case l4=>k_is)
  (case c4=>k_is)
  (case k4=>k_is)
  (case t4=>k_is)
  (case a5=>k_is)
  (case i5=>k_is)
  (case l5=>k_is)
  (case c5=>k_is)
  (case k5=>k_is)
  (case a6=>k_is)
  (case l6=>k_is)
  (case c6=>k_is)
  (case k6=>k_is)
  (case a7=>k_is)
  (case l7=>k_is)
  (case c7=>k_is)
  (case k7=>k_is)
  (case a8=>k_is)
  (case l8=>k_is)
  (case c8=>k_is)
  (case k8=>k_is)
  (case a9=>k_is)
  (case l9=>k_is)
  (case c9=>k_is)
  (case k9=>k_is)
  (case a10=>k_is)
  (case l10=>k_is)
  (case c10=>k_is)
  (case k10=>k_is)
  (case a11=>k_is)
  (case l11=>k_is)
  (case c11=>k_is)
  (case k11=>k_is)
  (case a12=>k_is)
  (case l12=>k_is)
  (case c12=>k_is)
  (case k12=>k_is)
  (case a13=>k_is)
  (case l13=>k_is)
  (case c13=>k_is)
  (case k13=>k_is)
  (case a14=>k_is)
  (case l14=>k_is)
  (case c14=>k_is)
  (case k14=>k_is)
  (case a15=>k_is)
  (case l15=>k_is)
  (case c15=>k_is)
  (case k15=>k_is)
  (case a16=>k_is)
  (case l16=>k_is)
  (case c16=>k_is)
  (case k16=>k_is)
  (case a17=>k_is)
  (case l17=>k_is)
  (case c17=>k_is)
  (case k17=>k_is)
  (case a18=>k_is)
  (case l18=>k_is)
  (case c18=>k_is)
  (case k18=>k_is)
  (case a19=>k_is)
  (case l19=>k_is)
  (case c19=>k_is)
  (case k19=>k_is)
  (case a20=>k_is)
  (case l20=>k_is)
  (case c20=>k_is)
  (case k20=>k_is)
  (case a21=>k_is)
  (case l21=>k_is)
  (case c21=>k_is)
  (case k21=>k_is)
  (case a22=>k_is)
  (case l22=>k_is)
  (case c22=>k_is)
  (case k22=>k_is)
  (case a23=>k_is)
  (case l23=>k_is)
  (case c23=>k_is)
  (case k23=>k_is)
  (case a24=>k_is)
  (case l24=>k_is)
  (case c24=>k_is)
  (case k24=>k_is)
  (case a25=>k_is)
  (case l25=>k_is)
  (case c25=>k_is)
  (case k25=>k_is)
  (case a26=>k_is)
  (case l26=>k_is)
  (case c26=>k_is)
  (case k26=>k_is)
  (case a27=>k_is)
  (case l27=>k_is)
  (case c27=>k_is)
  (case k27=>k_is)
  (case a28=>k_is)
  (case l28=>k_is)
  (case c28=>k_is)
  (case k28=>k_is)
  (case a29=>k_is)
  (case i29=>k_is)
  (case l29=>k_is)
  (case c29=>k_is)
  (case k29=>k_is)
  (case a30=>k_is)
  (case l30=>k_is)
  (case c30=>k_is)
  (case k30=>k_is)
  (case a31=>k_is)
  (case i31=>k_is)
  (case l31=>k_is)
  (case c31=>k_is)
  (case k31=>k_is)
  (case a32=>k_is)
  (case l32=>k_is)
  (case c32=>k_is)
  (case k32=>k_is)
  (case a33=>k_is)
  (case l33=>k_is)
  (case c33=>k_is)
  (case k33=>k_is)
  (case a34=>k_is)
  (case l34=>k_is)
  (case c34=>k_is)
  (case k34=>k_is)
  (case a35=>k_is)
  (case l35=>k_is)
  (case c35=>k_is)
  (case k35=>k_is)
  (case a36=>k_is)
  (case l36=>k_is)
  (case c36=>k_is)
  (case k36=>k_is)
  (case a37=>k_is)
  (case i37=>k_is)
  (case l37=>k_is)
  (case c37=>k_is)
  (case k37=>k_is)
  (case a38=>k_is)
  (case i38=>k_is)
  (case l38=>k_is)
  (case c38=>k_is)
  (case k38=>k_is)
  (case a39=>k_is)
  (case i39=>k_is)
  (case l39=>k_is)
  (case c39=>k_is)
  (case k39=>k_is)
  (case a40=>k_is)
  (case l40=>k_is)
  (case c40=>k_is)
  (case k40=>k_is)
  (case a41=>k_is)
  (case l41=>k_is)
  (case c41=>k_is)
  (case k41=>k_is)
  (case a42=>k_is)
  (case l42=>k_is)
  (case c42=>k_is)
  (case k42=>k_is)
  (case a43=>k_is)
  (case l43=>k_is)
  (case c43=>k_is)
  (case k43=>k_is)
  (case a44=>k_is)
  (case l44=>k_is)
  (case c44=>k_is)
  (case k44=>k_is)
  (case a45=>k_is)
  (case l45=>k_is)
  (case c45=>k_is)
  (case k45=>k_is)
  (case a46=>k_is)
  (case l46=>k_is)
  (case c46=>k_is)
  (case k46=>k_is)
  (case a47=>k_is)
  (case l47=>k_is)
  (case c47=>k_is)
  (case k47=>k_is)
  (case a48=>k_is)
  (case l48=>k_is)
  (case c48=>k_is)
  (case k48=>k_is)
  (case a49=>k_is)
  (case l49=>k_is)
  (case c49=>k_is)
  (case k49=>k_is)
  (case a50=>k_is)
  (case l50=>k_is)
  (case c50=>k_is)
  (case k50=>k_is)
  (case a51=>k_is)
  (case l51=>k_is)
  (case c51=>k_is)
  (case k51=>k_is)
  (case a52=>k_is)
  (case l52=>k_is)
  (case c52=>k_is)
  (case k52=>k_is)
  (case a53=>k_is)
  (case l53=>k_is)
  (case c53=>k_is)
  (case k53=>k_is)
  (case a54=>k_is)
  (case l54=>k_is)
  (case c54=>k_is)
  (case k54=>k_is)
  (case t54=>k_is)
  (case a55=>k_is)
  (case l55=>k_is)
  (case c55=>k_is)
  (case k55=>k_is)
  (case a56=>k_is)
  (case l56=>k_is)
  (case c56=>k_is)
  (case k56=>k_is)
  (case a57=>k_is)
  (case l57=>k_is)
  (case c57=>k_is)
  (case k57=>k_is)
  (case a58=>k_is)
  (case l58=>k_is)
  (case c58=>k_is)
  (case k58=>k_is)
  (case a59=>k_is)
  (case l59=>k_is)
  (case c59=>k_is)
  (case k59=>k_is)
  (case a60=>k_is)
  (case l60=>k_is)
  (case c60=>k_is)
  (case k60=>k_is)
  (case a61=>k_is)
  (case l61=>k_is)
  (case c61=>k_is)
  (case k61=>k_is)
  (case a62=>k_is)
  (case l62=>k_is)
  (case c62=>k_is)
  (case k62=>k_is)
  (case a63=>k_is)
  (case l63=>k_is)
  (case c63=>k_is)
  (case k63=>k_is)
  (case a64=>k_is)
  (case l64=>k_is)
  (case c64=>k_is)
  (case k64=>k_is)
  (case a65=>k_is)
  (case l65=>k_is)
  (case c65=>k_is)
  (case k65=>k_is)
  (case a66=>k_is)
  (case l66=>k_is)
  (case c66=>k_is)
  (case k66=>k_is)
  (case a67=>k_is)
  (case l67=>k_is)
  (case c67=>k_is)
  (case k67=>k_is)
  (case a68=>k_is)
  (case l68=>k_is)
  (case c68=>k_is)
  (case k68=>k_is)
  (case z0=>k_is)
  (case z1=>k_is)
  (case z2=>k_is)
  (case z3=>k_is)
  (case z4=>k_is)
  (case z5=>k_is)
  (case z6=>k_is)
  (case z7=>k_is)
  (case z8=>k_is)
  (case z9=>k_is)
  (case z10=>k_is)
  (case z11=>k_is)
  (case z12=>k_is)
  (case aI_HIGHEST=>k_is)
  (case yXNoRoot=>first |rfl |with_unfolding_all rfl)
  (case yXTooHigh=>first |rfl |with_unfolding_all rfl)
