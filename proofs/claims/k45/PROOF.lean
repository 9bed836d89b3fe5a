import PyProof.Rows.All
import Wide.All
import OpenK.AllK
import Wide.FinOn
import Lean
import PyProof.EqAt
import PyProof.EqKinds
import PyProof.TupleCall
import PySem.Challenge.RW_rootspan_k45_all_roots
set_option Elab.async false
set_option linter.all false
set_option maxRecDepth 100000
local macro_rules | `(tactic|omega)=>`(tactic|first |lia |omega (splitDisjunctions:=true))
noncomputable section
namespace Al
def MI:=@List.length_map
def MJ:=@Nat.le_refl
def MK:=@List.mem_cons_of_mem
def ML:=@Int.mul_pos
def MM:=@List.mem_cons
def MN:=@Int.le_of_lt
def MO:=@List.mem_singleton
def MP:=@List.mem_cons_self
def MQ:=@Nat.zero_le
def MR:=@List.length_pos_iff
def MS:=@Rat.intCast_mul
def MT:=@Rat.le_of_lt
def MU:=@Rat.intCast_lt_intCast
def MV:=@Nat.le_trans
def MW:=@List.mem_map
def MX:=@List.length_append
def MY:=@Int.natAbs_mul
def MZ:=@Int.mul_nonneg
def M0:=@Int.mul_ne_zero
def M5:=@Rat.mul_pos
def M6:=@Rat.div_mul_cancel
def M7:=@Nat.ne_of_lt
def M8:=@Int.mul_zero
def M9:=@Rat.mul_nonneg
def Na:=@Rat.le_refl
def Nb:=@List.mem_append
def Nc:=@List.size_toArray
def Nd:=@Nat.lt_of_lt_of_le
def Nf:=@Int.pow_succ
def Ng:=@Int.mul_assoc
def Nh:=@List.length_cons
def Ni:=@Int.one_mul
def Nj:=@Int.mul_comm
def Nk:=@Int.ne_of_gt
def Nl:=@List.map_append
def Nm:=@Int.natAbs_natCast
def Nn:=@Int.zero_mul
def No:=@Rat.mul_le_mul_of_nonneg_left
def Np:=@Int.mul_le_mul_of_nonneg_right
def Nq:=@List.mem_append_right
def Nr:=@Int.le_refl
def Nt:=@Int.mul_one
def Nu:=@List.take_add_one
def Nv:=@Rat.mul_le_mul_of_nonneg_right
def Nw:=@List.map_cons
def Nx:=@List.length_take
def Ny:=@Int.zero_add
def Nz:=@Nat.mul_le_mul_right
def NB:=@Int.pow_pos
def NC:=@Nat.lt_irrefl
def ND:=@List.getElem_mem
def NE:=@Int.add_zero
def NF:=@Int.lt_or_le
def NG:=@Rat.le_total
def NH:=@Rat.ne_of_gt
def NI:=@List.mem_append_left
def NJ:=@List.length_drop
def NK:=@Int.natCast_mul
def NM:=@Int.mul_eq_zero
def NO:=@Int.mul_lt_mul_of_pos_right
def NP:=@List.take_length
def NQ:=@Int.pow_zero
def NR:=@List.map_map
def NT:=@Int.not_lt
def NU:=@Rat.not_lt
def NV:=@Int.add_comm
def NW:=@List.pairwise_cons
def NX:=@Rat.intCast_le_intCast
def NY:=@Nat.lt_succ_self
def NZ:=@Nat.le_of_not_lt
def N0:=@Nat.pow_pos
def N2:=@List.length_range
def N3:=@Nat.sub_zero
def N4:=@Nat.mul_le_mul
def N5:=@List.mem_flatMap
def N6:=@Int.emod_nonneg
def N7:=@Int.emod_lt_of_pos
def N8:=@Bool.false_ne_true
def N9:=@List.nodup_cons
def Oa:=@Nat.mul_comm
def Ob:=@Nat.lt_of_le_of_lt
def Oc:=@Nat.gcd_dvd_left
def Od:=@Int.lt_of_mul_lt_mul_right
def Oe:=@Nat.mul_le_mul_left
def Of:=@Int.not_le
def Og:=@Int.mul_le_mul_of_nonneg_left
def Oh:=@Rat.not_le
def Oi:=@Nat.le_of_eq
def Oj:=@List.append_nil
def Ol:=@List.replicate_succ
def Om:=@List.lookup_cons
def On:=@Nat.pow_succ
def Oo:=@Nat.sub_self
def Op:=@List.length_eq_zero_iff
def Oq:=@Int.natAbs_pos
def Os:=@List.eq_nil_of_length_eq_zero
def Ot:=@Int.lt_or_gt_of_ne
def Ou:=@Rat.mul_comm
def Ov:=@Nat.le_of_lt
def Ow:=@List.length_set
def Ox:=@List.append_assoc
def Oy:=@Nat.gcd_dvd_right
def Oz:=@Int.ofNat_dvd_left
def OA:=@Int.eq_of_mul_eq_mul_right
def OB:=@Nat.add_mul
def OC:=@Int.mul_le_mul
def OD:=@List.pairwise_append
def OE:=@Rat.intCast_neg
def OF:=@Int.natCast_pow
def OG:=@List.drop_zero
def OH:=@Int.ofNat_lt
def OI:=@Int.mul_neg_of_neg_of_pos
def OJ:=@Int.eq_ofNat_of_zero_le
def OK:=@List.map_congr_left
def OL:=@Nat.dvd_trans
def OM:=@Int.natAbs_sub_le
def ON:=@Int.mul_pos_of_neg_of_neg
def OO:=@Rat.intCast_add
def OP:=@Rat.intCast_inj
def OQ:=@List.append_of_mem
def OR:=@Rat.le_trans
def OS:=@Rat.intCast_sub
def OT:=@List.mem_map_of_mem
def OU:=@List.mem_of_mem_drop
def OV:=@Nat.not_lt_zero
def OW:=@List.not_mem_nil
def OX:=@List.mem_range
def OY:=@List.flatten_cons
def OZ:=@List.length_nil
def O0:=@List.reverse_append
def O1:=@Int.natAbs_dvd_natAbs
def O2:=@Nat.le_mul_of_pos_left
def O3:=@Int.natAbs_pow
def O4:=@Nat.add_le_add
def O5:=@Int.lt_or_eq_of_le
def O6:=@List.mem_of_mem_take
def O7:=@Nat.min_le_left
def O8:=@Nat.pow_lt_pow_iff_right
def O9:=@List.filterMap_cons
def Pa:=@List.length_replicate
def Pb:=@Int.mul_nonneg_of_nonpos_of_nonpos
def Pc:=@List.drop_eq_getElem_cons
def Pd:=@Int.mul_neg_of_pos_of_neg
def Pe:=@Int.natCast_nonneg
def Pf:=@List.take_append_drop
def Ph:=@Int.lt_of_mul_lt_mul_left
def Pi:=@Int.eq_of_mul_eq_mul_left
def Pj:=@Nat.le_of_mul_le_mul_left
def Pk:=@Int.mul_lt_mul_of_pos_left
def Pl:=@Rat.mul_lt_mul_of_pos_right
def Pm:=@Int.natAbs_ediv_le_natAbs
end Al
open Al
abbrev Ex:=List Int
namespace PySem.W.Fast
def tw3959183140063015476:=()
def tw7111890835930744647:=()
def tw7729006744915414383:=()
def tw12356925108355978579:=()
def tw13844507843168630713:=()
def tw15522497208812931171:=()
def tw11736532362710793058:=()
def tw8194026350473966953:=()
def tw17577809651933058395:=()
def tw6823806111124109973:=()
def tw8435418264415855941:=()
def tw15623383489020405294:=()
def tw12482826897092551453:=()
def tw17029430274909591354:=()
def tw3992304398722896984:=()
def tw13570564865754977553:=()
def tw11365149186629161417:=()
def tw10108890390617612630:=()
def tw12772428087882405062:=()
def tw9361237552984316647:=()
def tw5886101096695451448:=()
def tw16826955219963955831:=()
def tw3396552778799076658:=()
def tw16682058142985322948:=()
def tw1963066784567927750:=()
def tw3784807587922036311:=()
def tw14603278087503738873:=()
def tw8957339138440675551:=()
def tw10038386655892986862:=()
def tw10691592215467068927:=()
def tw7256493192451041608:=()
def tw4917107580165942263:=()
def tw14053545835694554777:=()
def tw11066834464682426644:=()
def tw4798119700873748773:=()
def tw6422830370850924636:=()
def tw2968124161753718843:=()
def tw13487969257969066200:=()
def tw9816143507295920277:=()
def tw1757518504808204529:=()
def tw683602532880363630:=()
def tw7175278302816815661:=()
def tw7270236671063824140:=()
def tw13952215813469402098:=()
def tw11663737720362980831:=()
def tw15660697000685854615:=()
def tw16955541551007875884:=()
def tw489614480357541735:=()
def tw8171721095346194585:=()
def tw5806805121790202950:=()
def tw7777512213935674137:=()
def tw16739272225941998670:=()
def tw15800337490333360664:=()
def tw13535866633804454144:=()
def tw3944774576333573709:=()
def tw11591224942729911027:=()
def tw6090716883768669528:=()
def tw11661888418802966486:=()
def tw4925306387166135475:=()
def tw14939413156166703984:=()
def tw1724273666049859916:=()
def tw6948391929668727425:=()
def tw4440120624112100232:=()
def tw9508370963590667718:=()
def tw4268323840167767275:=()
def tw12524876379537363046:=()
def tw16216551200630248775:=()
def tw1943471853510621303:=()
def tw12751559852992277469:=()
def tw15642174315265406319:=()
def tw8126246758037942766:=()
def tw277597785320533522:=()
def tw6733695769958686218:=()
def tw17424631215035307013:=()
def tw6281603714009921879:=()
def tw6516726906116187384:=()
def tw17735483889042745136:=()
def tw10645221190575794627:=()
def tw3494624101000142434:=()
def tw6292147041129518107:=()
def tw1901288188616944566:=()
def tw620688301110008416:=()
def tw7709379304593971873:=()
def tw13886526085100962739:=()
def tw542651015598330241:=()
def tw17457052296728107216:=()
def tw13225349148666270957:=()
def tw2274294799453548736:=()
def tw435161403004627115:=()
def tw10292783798974019637:=()
def tw10910061432592882048:=()
def tw15908048280739519039:=()
def tw14221799765995523721:=()
def tw16117801737485910982:=()
def tw7379632819058971272:=()
def tw12543236191392500240:=()
def tw16049038667864653166:=()
def tw16479496793513961138:=()
def tw560199980163436146:=()
def tw7156355636524064419:=()
def tw18300865904451646638:=()
def tw14303664845163801819:=()
def tw8930580355371328697:=()
def tw4713298751544214235:=()
def tw5296700129692165338:=()
def tw8026819526050504772:=()
def tw16578812152371003157:=()
def tw8738734685514261209:=()
def tw2476875327526201427:=()
def tw15025366002376216420:=()
def tw10020861371629897714:=()
def tw2201062427420369741:=()
def tw5604201682202074802:=()
def tw15413075722832123396:=()
def tw1244276799889944994:=()
def tw18439250076659211152:=()
def tw6832938131854384842:=()
def tw1764771594077004395:=()
def tw7284243518146349262:=()
def tw11163244114267541615:=()
def tw4606385311260209493:=()
def tw12249968803985650085:=()
def tw15710393152799351663:=()
def tw7427268611623159264:=()
def tw9091075845380752108:=()
def tw10683412835800766685:=()
def tw7284124092839514813:=()
def tw4364466418878178299:=()
def tw5142323561005874028:=()
def tw13695304547347463878:=()
def tw16258832211476303471:=()
def tw18309900784573665277:=()
def tw15254954043416532638:=()
def tw7286665227060736050:=()
def tw4282440072003882027:=()
def tw6699678984576012455:=()
def tw15391795215866781502:=()
def tw879289018985417316:=()
def tw870337756172824760:=()
def tw15622697900210743462:=()
def tw14355434442522786939:=()
def tw16022516786934335089:=()
def tw9309522664233783319:=()
def tw11150899852445134840:=()
def tw1759690405739367993:=()
def tw3295596442360351366:=()
def tw16343552355357292999:=()
def tw2602912854888709997:=()
def tw15009709608671080905:=()
def tw13069612522939686829:=()
def tw3865577156351143388:=()
def tw3308014673875723770:=()
def tw6893390935501610979:=()
def tw16493958332090693483:=()
def tw6488306506423154408:=()
def tw8563731734543346400:=()
def tw13412585182123755232:=()
def tw10177651075451576416:=()
def tw13657104947831683889:=()
def tw11205981298387667476:=()
def tw1001547491273407361:=()
def tw9286724293574726805:=()
def tw13988223207409320857:=()
def tw7761105788083306332:=()
def tw13274182265203520606:=()
def tw7817737295305378041:=()
def tw10715535649107610322:=()
def tw1652639856645764901:=()
def tw17922205924225514064:=()
def tw12364895865837607930:=()
def tw1617411817101034347:=()
def tw16211980400238162280:=()
def tw15791805893923697771:=()
def tw8079204042667787971:=()
def tw12243201320399565474:=()
def tw10330309385031749074:=()
def tw15710572110112136649:=()
def tw4728825207048790563:=()
def tw8200592287948042703:=()
def tw17834702602514372818:=()
def tw4557725446613142187:=()
def tw15328702796606942055:=()
def tw5061866330878237276:=()
def tw18343409945344074115:=()
def tw3230792449165720737:=()
def tw16588174775656376306:=()
def tw11525032496303646337:=()
def tw15818889997280636811:=()
def tw1817674806133390483:=()
def tw11985502379443044740:=()
def tw2554609018417913094:=()
def tw2442306298055080316:=()
def tw8475098659974514434:=()
def tw962754518527538227:=()
def tw230426083792417923:=()
def tw3776396682788938396:=()
def tw3340719438015955218:=()
def tw15870010509919142007:=()
def tw1064076900789511254:=()
def tw2516965033856065071:=()
def tw8158919337391737879:=()
def tw13853343941811224560:=()
def tw12576055934536994646:=()
def tw9297872280889537373:=()
def tw14740606318507372592:=()
end PySem.W.Fast
namespace L2
open PySem PySem.Spec PyProof.Rows
abbrev Key:=Sum Int Str
noncomputable def zl:Key->Value->Bool
 |.inl k,v=>Value.isInt k v
 |.inr x,v=>Value.isStrOf x v
noncomputable def Hv(w:World):Key->Int
 |.inl k=>hashInt k
 |.inr x=>hashStr w x
theorem gF:∀{k:Key} {v:Value},zl k v=true->(∃i t,k=Sum.inl i/\v=Value.int i t)\/(∃x t,k=Sum.inr x/\v=Value.str x t)
 |.inl i,v,h=>by obtain⟨t,e⟩:=Value.isInt_shape (k:=i) (v:=v) h;exact .inl ⟨i,t,rfl,e⟩
 |.inr x,v,h=>by obtain⟨t,e⟩:=Value.isStrOf_shape (x:=x) (v:=v) h;exact .inr ⟨x,t,rfl,e⟩
theorem Hu(a b:Int):decide ((Sum.inl a:Key)=Sum.inl b)=(a == b):=by
 by_cases e:a=b
 ·subst e;simp
 ·have h:¬(Sum.inl a:Key)=Sum.inl b:=λq=>e (Sum.inl.inj q)
  rw[decide_eq_false h];exact(beq_eq_false_iff_ne.mpr e).symm
theorem Hr(a b:Str):decide ((Sum.inr a:Key)=Sum.inr b)=decide (a=b):=by
 by_cases e:a=b
 ·subst e;simp
 ·have h:¬(Sum.inr a:Key)=Sum.inr b:=λq=>e (Sum.inr.inj q)
  rw[decide_eq_false h,decide_eq_false e]
theorem Ht(a:Int)(b:Str):decide ((Sum.inl a:Key)=Sum.inr b)=false:=decide_eq_false (λq=>nomatch q)
theorem Hs(a:Str)(b:Int):decide ((Sum.inr a:Key)=Sum.inl b)=false:=decide_eq_false (λq=>nomatch q)
noncomputable def sv(prog:Program)(w:World):PySem.KeyKind prog w Key where
 is:=zl
 hash:=Hv w
 inj:=λv a b ha hb=>by
  rcases gF ha with⟨i,t,rfl,rfl⟩ |⟨x,t,rfl,rfl⟩
  ·rcases gF hb with⟨j,u,rfl,e⟩ |⟨y,u,rfl,e⟩
   ·injection e with e1 _;rw[e1]
   ·exact nomatch e
  ·rcases gF hb with⟨j,u,rfl,e⟩ |⟨y,u,rfl,e⟩
   ·exact nomatch e
   ·injection e with e1 _;rw[e1]
 byValue:=λk v h=>by rcases gF h with⟨i,t,rfl,rfl⟩ |⟨x,t,rfl,rfl⟩<;>rfl
 pyHash:=λhv h=>by
  rcases gF hv with⟨i,t,rfl,rfl⟩ |⟨x,t,rfl,rfl⟩
  ·exact wpAny_pyHash_int h
  ·exact wpAny_pyHash_str h
 eqBool:=λhu hv h=>by
  rcases gF hu with⟨i,t,rfl,rfl⟩ |⟨x,t,rfl,rfl⟩
  ·rcases gF hv with⟨j,u,rfl,rfl⟩ |⟨y,u,rfl,rfl⟩
   ·rw[Hu]at h;exact wpAny_eqBool_int h
   ·rw[Ht]at h;exact SeqAt.EqAt.int_str i t y u _ _ _ _ h
  ·rcases gF hv with⟨j,u,rfl,rfl⟩ |⟨y,u,rfl,rfl⟩
   ·rw[Hs]at h;exact SeqAt.EqAt.str_int x t j u _ _ _ _ h
   ·rw[Hr]at h;exact wpAny_eqBool_str h
 «strs»:=λk x t v h=>by
  rcases gF h with⟨i,u,rfl,e⟩ |⟨y,u,rfl,e⟩
  ·exact nomatch e
  ·injection e with e1 _
   subst e1;cases v<;>rfl
inductive V where
 |non |bl (b:Bool) |int (i:Int) |str (x:Str) |byt (b:Array UInt8) |flt (b:UInt64) |ref (a:Addr) |ty (n:String)
 deriving DecidableEq
noncomputable def RelV:V->Value->Prop
 |.non,u=>u=Value.none
 |.bl b,u=>u=Value.bool b
 |.int i,u=>∃t,u=Value.int i t
 |.str x,u=>∃t,u=Value.str x t
 |.byt b,u=>∃t,u=Value.bytes b t
 |.flt b,u=>∃t,u=Value.float b t
 |.ref a,u=>u=Value.ref a
 |.ty n,u=>u=Value.type n
abbrev Vals:List V->List Value->Prop:=Paired RelV
theorem Vals.length{xs:List V}{us:List Value}(r:Vals xs us):xs.length=us.length:=Paired.length r
theorem Vals.get:∀{xs:List V} {us:List Value} {i:Nat} {x:V},Vals xs us->xs[i]?=some x->∃u,us[i]?=some u/\RelV x u
 |_,_,_,_,.nil,e=>by simp at e
 |_,_,0,_,.cons r _,e=>by simp at e;subst e;exact⟨_,rfl,r⟩
 |_,_,i+1,x,.cons _ t,e=>by obtain⟨u,h1,h2⟩:=Vals.get (i:=i) (x:=x) t (by simpa using e);exact⟨u,by simpa using h1,h2⟩
theorem Vals.set{x:V}{u:Value}(r:RelV x u):∀{xs:List V} {us:List Value} (i:Nat),Vals xs us->Vals (xs.set i x) (us.set i u)
 |_,_,_,.nil=>.nil
 |_,_,0,.cons _ t=>.cons r t
 |_,_,i+1,.cons q t=>.cons q (Vals.set r i t)
theorem Vals.append:∀{xs ys:List V} {us ws:List Value},Vals xs us->Vals ys ws->Vals (xs++ys) (us++ws)
 |_,_,_,_,.nil,s=>s
 |_,_,_,_,.cons r t,s=>.cons r (Vals.append t s)
theorem Vals.take:∀{xs:List V} {us:List Value} (n:Nat),Vals xs us->Vals (xs.take n) (us.take n)
 |_,_,0,_=>.nil
 |_,_,_+1,.nil=>.nil
 |_,_,n+1,.cons r t=>.cons r (Vals.take n t)
theorem Vals.drop:∀{xs:List V} {us:List Value} (n:Nat),Vals xs us->Vals (xs.drop n) (us.drop n)
 |_,_,0,r=>r
 |_,_,_+1,.nil=>.nil
 |_,_,n+1,.cons _ t=>Vals.drop n t
theorem Vals.none_of:∀{xs:List V} {us:List Value} {i:Nat},Vals xs us->xs[i]?=none->us[i]?=none:=λ{xs us i} r e=>by have h1:=r.length;have h2:xs.length<=i:=List.getElem?_eq_none_iff.mp e;exact List.getElem?_eq_none_iff.mpr (by omega)
noncomputable def RelO:Option V->Option Value->Prop
 |some v,some u=>RelV v u
 |none,none=>True
 |_,_=>False
noncomputable def KV{κ:Type}:List (κ×V)->List (κ×Value)->Prop:=Paired λ(p:κ×V) (q:κ×Value)=>p.1=q.1/\RelV p.2 q.2
noncomputable def kV:Key->V
 |.inl i=>.int i
 |.inr x=>.str x
inductive HO where
 |lst (xs:List V)
 |tup (xs:List V)
 |dK (kvs:List (Key×V)) |dT (kvs:List (List Key×V))
 |set (S:Int->Bool) (n:Nat)
 |ins (C dx:Addr) (fs:List (Str×V))
 |own (x:Addr)
 |xd (fs:List (Str×V))
 |met (f x:Addr)
 |rng (lo hi:Int)
 |frz (o:Obj) (u:HO)
 |tbl (ps:Array Value)
 |ext (φ:Heap->Prop)
abbrev Hp:=Addr->Option HO
noncomputable def upd(H:Hp)(a:Addr)(o:HO):Hp:=λb=>if b=a then some o else H b
theorem ap{H:Hp}{a:Addr}{o:HO}:upd H a o a=some o:=by unfold upd;rw[if_pos rfl]
theorem upd_ne{H:Hp}{a b:Addr}{o:HO}(h:b≠a):upd H a o b=H b:=by unfold upd;rw[if_neg h]
theorem lJ{H:Hp}{a:Addr}{o u:HO}:upd (upd H a o) a u=upd H a u:=by funext b;unfold upd;split<;>rfl
theorem aN{H:Hp}{a b:Addr}{o:HO}(h:H a=some o)(h':H b=none):a≠b:=by intro e;subst e;rw[h]at h';cases h'
section
variable (P:Program)(w:World)
noncomputable def ObjOk(H:Hp)(h:Heap)(a:Addr):HO->Prop
 |.lst xs=>xs.length<=sizeLine/\∃(its:List Value) (n:Nat),Vals xs its/\h.get? a=some { cls:=.type "list",data:=.seq its.toArray n }
 |.tup xs=>xs.length<=sizeLine/\∃its:List Value,Vals xs its/\IsTup h a its.toArray
 |.dK kvs=>kvs.length<=sizeLine/\(a == sysModules)=false/\∃vs,KV kvs vs/\h.DictOf (sv P w) a vs
 |.dT kvs=>kvs.length<=sizeLine/\(a == sysModules)=false/\∃xs:List (List Key×Addr×Value),
  Paired (λ(p:List Key×V) (q:List Key×Addr×Value)=>p.1=q.1/\H q.2.1=some (.tup (p.1.map kV))/\RelV p.2 q.2.2) kvs xs /\
  ∃o es ep,h.get? a=some o/\o.ExactDict/\o.data=.dict es ep/\es.toList=xs.map (entryOfKey (tupleKind (sv P w)))/\(xs.map (·.1)).Nodup
 |.set S n=>h.SetOf (intKind P w) a S n
 |.ins C dx fs=>H dx=some (.own a)/\fs.length<=1000/\dx≠a/\h.get? a=some (PySem.W.instObj C dx) /\
  ∃mA,h.Ns1 dx mA/\(∀f,RelO (fs.lookup f) (mA f))/\PySem.Within mA (fs.map (·.1))
 |.own _=>∃o,h.get? a=some o
 |.xd fs=>∃mA,h.Ns1 a mA/\∀f,RelO (fs.lookup f) (mA f)
 |.rng lo hi=>∃t u v,h.get? a=some { cls:=.type "range",data:=.fields #[.int lo t,.int hi u,.int 1 v] }
 |.frz o u=>h.get? a=some o/\ObjOk H h a u
 |.tbl ps=>h.get? a=some { cls:=.none,data:=.fields ps }
 |.met f x=>h.get? a=some (PySem.W.methodObj (.ref f) (.ref x))
 |.ext φ=>φ h/\(∃o,h.get? a=some o)/\∀h1 h2:Heap,φ h1->(∀o,h1.get? a=some o->h2.get? a=some o)->φ h2
def HOk(H:Hp)(h:Heap):Prop:=∀a o,H a=some o->ObjOk P w H h a o
end
section
variable {P:Program}{w:World}{H H':Hp}{h h':Heap}{a:Addr}{o:HO}
theorem ObjOk.lt(x:ObjOk P w H h a o):a<h.objs.size:=by
 cases o with
 |lst xs=>obtain⟨_,_,_,_,e⟩:=x;exact Heap.lt_size e
 |tup xs=>obtain⟨_,_,_,p⟩:=x;exact p.lt
 |dK kvs=>obtain⟨_,_,_,_,o,_,_,e,_⟩:=x;exact Heap.lt_size e
 |dT kvs=>obtain⟨_,_,_,_,o,_,_,e,_⟩:=x;exact Heap.lt_size e
 |set S n=>obtain⟨o,_,_,_,e,_⟩:=x;exact Heap.lt_size e
 |ins C dx fs=>obtain⟨_,_,_,e,_⟩:=x;exact Heap.lt_size e
 |own y=>obtain⟨_,e⟩:=x;exact Heap.lt_size e
 |xd fs=>obtain⟨_,⟨_,_,_,e,_⟩,_⟩:=x;exact Heap.lt_size e
 |rng lo hi=>obtain⟨_,_,_,e⟩:=x;exact Heap.lt_size e
 |frz ob u=>obtain⟨e,_⟩:=x;exact Heap.lt_size e
 |tbl ps=>exact Heap.lt_size (show h.get? a=some _ from x)
 |met f y=>exact Heap.lt_size (show h.get? a=some _ from x)
 |ext φ=>obtain⟨_,⟨_,e⟩,_⟩:=x;exact Heap.lt_size e
theorem Paired.mapP{α β:Type}{F G:α->β->Prop}:∀{l₁:List α} {l₂:List β},Paired F l₁ l₂->(∀a b,F a b->G a b)->Paired G l₁ l₂
 |_,_,.nil,_=>.nil
 |_,_,.cons r t,f=>.cons (f _ _ r) (Paired.mapP t f)
theorem ObjOk.stay(x:ObjOk P w H h a o)(k:∀b u,(b=a\/H b=some (.own a))->h.get? b=some u->h'.get? b=some u)
 (ho:∀b,H b=some (.own a)->H' b=some (.own a)) (ht:∀b xs,H b=some (.tup xs)->H' b=some (.tup xs)):ObjOk P w H' h' a o:=by
 induction o with
 |lst xs=>obtain⟨z,its,n,r,e⟩:=x;exact⟨z,its,n,r,k _ _ (.inl rfl) e⟩
 |tup xs=>obtain⟨z,its,r,ob,e,c⟩:=x;exact⟨z,its,r,ob,k _ _ (.inl rfl) e,c⟩
 |dK kvs=>obtain⟨z,y,vs,r,ob,es,ep,e,c⟩:=x;exact⟨z,y,vs,r,ob,es,ep,k _ _ (.inl rfl) e,c⟩
 |dT kvs =>obtain⟨z,y,xs,r,ob,es,ep,e,c⟩:=x;exact⟨z,y,xs,Paired.mapP r λp q z=>⟨z.1,ht _ _ z.2.1,z.2.2⟩,ob,es,ep,k _ _ (.inl rfl) e,c⟩
 |set S n=>obtain⟨ob,es,ep,t,e,c⟩:=x;exact⟨ob,es,ep,t,k _ _ (.inl rfl) e,c⟩
 |ins C dx fs =>obtain⟨d,z,ne,e,mA,⟨od,es,ep,e2,c⟩,r⟩:=x;exact⟨ho _ d,z,ne,k _ _ (.inl rfl) e,mA,⟨od,es,ep,k _ _ (.inr d) e2,c⟩,r⟩
 |own y=>obtain⟨ob,e⟩:=x;exact⟨ob,k _ _ (.inl rfl) e⟩
 |xd fs=>obtain⟨mA,⟨od,es,ep,e,c⟩,r⟩:=x;exact⟨mA,⟨od,es,ep,k _ _ (.inl rfl) e,c⟩,r⟩
 |rng lo hi=>obtain⟨t,u,v,e⟩:=x;exact⟨t,u,v,k _ _ (.inl rfl) e⟩
 |frz ob u ih=>obtain⟨e,q⟩:=x;exact⟨k _ _ (.inl rfl) e,ih q⟩
 |tbl ps =>have e:h.get? a=some { cls:=.none,data:=.fields ps }:=x;show h'.get? a=some { cls:=.none,data:=.fields ps };exact k a _ (.inl rfl) e
 |met f y =>have e:h.get? a=some (PySem.W.methodObj (.ref f) (.ref y)):=x;show h'.get? a=some (PySem.W.methodObj (.ref f) (.ref y));exact k a _ (.inl rfl) e
 |ext φ=>obtain⟨p,⟨o,e⟩,st⟩:=x;exact⟨st _ _ p λo q=>k _ _ (.inl rfl) q,⟨o,k _ _ (.inl rfl) e⟩,st⟩
theorem HOk.lt(x:HOk P w H h)(e:H a=some o):a<h.objs.size:=(x a o e).lt
theorem HOk.fresh(x:HOk P w H h)(e:h.objs.size<=a):H a=none:=by
 cases q:H a with
 |none=>rfl
 |some u=>exact absurd (Nd (x.lt q) e) (NC _)
theorem HOk.kept(x:HOk P w H h)(k:∀b u,h.get? b=some u->h'.get? b=some u):HOk P w H h':=λa o e =>(x a o e).stay (λb u _ q=>k b u q) (λ_ q=>q) λ_ _ q=>q
theorem HOk.laid(x:HOk P w H h)(k:∀b u,h.get? b=some u->h'.get? b=some u)(hp:h.objs.size<=a)(new:ObjOk P w (upd H a o) h' a o):HOk P w (upd H a o) h':=λb u e=>by
 have hn:=x.fresh hp;by_cases hb:b=a
 ·subst hb;rw[ap]at e;cases e;exact new
 ·rw[upd_ne hb]at e;exact(x b u e).stay (λc v _ q=>k c v q) (λc q=>by rw[upd_ne (aN q hn)];exact q) λc xs q=>by rw[upd_ne (aN q hn)];exact q
end
def Rd(H:Hp)(a:Addr)(u:HO):Prop:=H a=some u\/∃o,H a=some (.frz o u)
theorem Rd.of{H:Hp}{a:Addr}{u:HO}(h:H a=some u):Rd H a u:=.inl h
theorem Rd.ok{P:Program}{w:World}{H:Hp}{h:Heap}{a:Addr}{u:HO}(r:Rd H a u)(x:HOk P w H h):ObjOk P w H h a u:=by
 rcases r with r |⟨o,r⟩
 ·exact x a u r
 ·obtain⟨_,q⟩:=x a _ r;exact q
noncomputable def Mut:Option HO->Prop
 |some (.lst _)=>True
 |some (.dK _)=>True
 |some (.dT _)=>True
 |some (.set _ _)=>True
 |some (.ins _ _ _)=>True
 |some (.ext _)=>True
 |_=>False
section
variable {P:Program}{w:World}{H:Hp}{h h':Heap}{x e:Addr}{o':HO}
theorem HOk.write(ok:HOk P w H h)(mu:Mut (H x))(he:e=x\/H e=some (.own x))(k:∀b u,b≠e->h.get? b=some u->h'.get? b=some u)(heo:∃u,h'.get? e=some u)
 (new:ObjOk P w (upd H x o') h' x o'):HOk P w (upd H x o') h':=λb u q=>by
 have nown:∀c y,H c=some (.own y)->c≠x:=λc y r z=>by subst z;rw[r]at mu;exact mu
 have ntup:∀c xs,H c=some (.tup xs)->c≠x:=λc xs r z=>by subst z;rw[r]at mu;exact mu
 by_cases hb:b=x
 ·subst hb;rw[ap]at q;cases q;exact new
 ·rw[upd_ne hb]at q;by_cases hbe:b=e
  ·have q':H b=some (.own x):=by
    rcases he with z |z
    ·exact absurd (hbe.trans z) hb
    ·rw[hbe];exact z
   rw[q]at q';cases q';obtain⟨v,hv⟩:=heo;exact⟨v,by rw[hbe];exact hv⟩
  ·refine(ok b u q).stay (λc v hc r=>k c v ?_ r) (λc r=>by rw[upd_ne (nown c b r)];exact r) λc xs r=>by rw[upd_ne (ntup c xs r)];exact r
   rcases hc with rfl |hc
   ·exact hbe
   ·rintro rfl;rcases he with z |z
    ·exact nown c b hc z
    ·rw[hc]at z;cases z;exact hb rfl
end
structure Un(fs ex:List Addr)(H H':Hp)(h h':Heap):Prop where
 keep:∀b o,h.get? b=some o->H b=none->b∉fs->b∉ex->h'.get? b=some o
 slot:∀b o,h.get? b=some o->H b=none->b∈fs->b∉ex->∃sl,h'.get? b=some { o with slots:=sl }
 free:∀b o,h.get? b=some o->H b=none->b∉ex->H' b=none
 there:∀b o,h.get? b=some o->b∉ex->∃o',h'.get? b=some o'
 tups:∀b xs,H b=some (.tup xs)->H' b=some (.tup xs)
 frzs:∀b o u,H b=some (.frz o u)->H' b=some (.frz o u)
 tbls:∀b ps,H b=some (.tbl ps)->∃more,H' b=some (.tbl (ps++more))
section
variable {fs fs' ex ex':List Addr}{H H1 H2:Hp}{h h1 h2 h':Heap}{a x e:Addr}{o:HO}
theorem Un.any(u:Un fs ex H H1 h h1){b:Addr}{ob:Obj}(q:h.get? b=some ob)(n:H b=none)(hx:b∉ex):∃sl,h1.get? b=some { ob with slots:=sl }:=by
 by_cases hb:b∈fs
 ·exact u.slot b ob q n hb hx
 ·exact⟨ob.slots,u.keep b ob q n hb hx⟩
theorem Un.trans(a:Un fs ex H H1 h h1)(b:Un fs ex H1 H2 h1 h2):Un fs ex H H2 h h2 where
 keep:=λc ob q n hc hx=>b.keep c ob (a.keep c ob q n hc hx) (a.free c ob q n hx) hc hx
 slot:=λc ob q n hc hx=>by obtain⟨sl,e1⟩:=a.slot c ob q n hc hx;obtain⟨sl',e2⟩:=b.slot c _ e1 (a.free c ob q n hx) hc hx;exact⟨sl',e2⟩
 free:=λc ob q n hx=>by obtain⟨o',e1⟩:=a.there c ob q hx;exact b.free c o' e1 (a.free c ob q n hx) hx
 there:=λc ob q hx=>by obtain⟨o',e1⟩:=a.there c ob q hx;exact b.there c o' e1 hx
 tups:=λc xs q=>b.tups c xs (a.tups c xs q)
 frzs:=λc ob xs q=>b.frzs c ob xs (a.frzs c ob xs q)
 tbls:=λc ps q=>by obtain⟨m1,e1⟩:=a.tbls c ps q;obtain⟨m2,e2⟩:=b.tbls c _ e1;exact⟨m1++m2,by rw[e2,Array.append_assoc]⟩
theorem Un.kept(k:∀b u,h.get? b=some u->h'.get? b=some u):Un fs ex H H h h' :=
 ⟨λb ob q _ _ _=>k b ob q,λb ob q _ _ _=>⟨ob.slots,k b ob q⟩,λ_ _ _ n _=>n,λb ob q _=>⟨ob,k b ob q⟩,λ_ _ q=>q,λ_ _ _ q=>q,λ_ ps q=>⟨#[],by rw[q];simp⟩⟩
theorem Un.refl:Un fs ex H H h h:=Un.kept λ_ _ q=>q
theorem Un.laid(k:∀b u,h.get? b=some u->h'.get? b=some u)(hp:h.objs.size<=a)(hn:H a=none):Un fs ex H (upd H a o) h h' where
 keep:=λb u q _ _ _=>k b u q
 slot:=λb u q _ _ _=>⟨u.slots,k b u q⟩
 free:=λb u q n _=>by rw[upd_ne (M7 (Nd (Heap.lt_size q) hp))];exact n
 there:=λb u q _=>⟨u,k b u q⟩
 tups:=λb xs q=>by rw[upd_ne (aN q hn)];exact q
 frzs:=λb u xs q=>by rw[upd_ne (aN q hn)];exact q
 tbls:=λb ps q=>⟨#[],by rw[upd_ne (aN q hn),q];simp⟩
theorem Un.write(mu:Mut (H x))(he:e=x\/H e=some (.own x))(k:∀b u,b≠e->h.get? b=some u->h'.get? b=some u)(heo:∃u,h'.get? e=some u):Un fs ex H (upd H x o) h h':=by
 have hx:∀b,H b=none->b≠x:=λb n z=>by subst z;rw[n]at mu;exact mu
 have hb:∀b,H b=none->b≠e:=λb n z=>by
  subst z;rcases he with r |r
  ·exact hx b n r
  ·rw[n]at r;cases r
 have hm:∀b u,H b=some u->¬Mut (some u)->b≠x:=λb u q nm z=>by subst z;rw[q]at mu;exact nm mu
 refine⟨λb u q n _ _=>k b u (hb b n) q,λb u q n _ _=>⟨u.slots,k b u (hb b n) q⟩,λb u q n _=>by rw[upd_ne (hx b n)];exact n,λb u q _=>?_,
  λb xs q=>by rw[upd_ne (hm b _ q λz=>z)];exact q,λb u xs q=>by rw[upd_ne (hm b _ q λz=>z)];exact q,λb ps q=>⟨#[],by rw[upd_ne (hm b _ q λz=>z),q];simp⟩⟩
 by_cases hbe:b=e
 ·subst hbe;exact heo
 ·exact⟨u,k b u hbe q⟩
theorem Un.mono(u:Un fs ex H H1 h h1)(hs:∀b∈fs,b∈fs')(hx:∀b∈ex,b∈ex'):Un fs' ex' H H1 h h1 :=
 ⟨λb ob q n hb he=>u.keep b ob q n (λz=>hb (hs b z)) λz=>he (hx b z),λ_ _ q n _ he=>u.any q n λz=>he (hx _ z),λb ob q n he=>u.free b ob q n λz=>he (hx b z),λb ob q he=>u.there b ob q λz=>he (hx b z),u.tups,u.frzs,u.tbls⟩
end
noncomputable def trk(h:Heap)(H:Hp):List Addr:=(List.range h.objs.size).filter λa=>(H a).isSome
noncomputable def fJ(h:Heap)(H:Hp):Heap:=PySem.W.hideAll h (trk h H)
theorem HS(h:Heap)(H:Hp):(fJ h H).objs.size=h.objs.size:=PySem.W.hideAll_size _ _
theorem HU{h:Heap}{H:Hp}{b:Addr}{o:Obj}(e:h.get? b=some o)(n:H b=none):(fJ h H).get? b=some o :=
 PySem.W.hideAll_get _ e λhm=>by have q:(H b).isSome=true:=(List.mem_filter.mp hm).2;rw[n]at q;simp at q
theorem Gu{h:Heap}{H:Hp}{b:Addr}{o:Obj}(e:(fJ h H).get? b=some o):h.get? b=some o/\H b=none:=by
 have e':h.get? b=some o:=PySem.W.of_hideAll (trk h H) e;refine⟨e',?_⟩;cases q:H b with
 |none=>rfl
 |some x =>have hm:b∈trk h H:=List.mem_filter.mpr ⟨OX.mpr (Heap.lt_size e'),by simp[q]⟩;have z:(fJ h H).get? b=none:=PySem.W.hideAll_none (trk h H) hm;rw[z]at e;cases e
noncomputable def Kb(g h:Heap)(L:Addr):List (Addr×Obj):=(List.range h.objs.size).filterMap λa=>if a=L\/(g.get? a).isSome=true then none else(h.get? a).map λo=>(a,o)
noncomputable def rest(g h:Heap)(L d:Addr):List (Addr×Obj):=(Kb g h L).filter λp=>decide (p.1≠d)
structure Mod(K:PySem.W.Frag)(mg:Str->Option Value)(base:Heap):Prop where
 kin:K.In base
 glob:base.Ns mainGlobals mg
 blt:∃mb,base.Ns builtinsNs mb/\∀x:Str,x≠"__name__"->mb x=bootBuiltins x
 nolimit:base.NoLimit
structure Cx where
 prog:Program
 w:World
 K:PySem.W.Frag
 mg:Str->Option Value
 base:Heap
 A:Around
 N:List Str
 s₀:Shared
 H₀:Hp
 env:Env
 outer:List Env
 stack:List Env
 ex:List Addr
 fn:Str->Bool
 calm:Bool
 pn:List (Addr×Obj)
 xe:Value->Shared->Prop
noncomputable def frs(l:List Env):List Addr:=l.filterMap (·.frame)
abbrev Cx.fs(X:Cx):List Addr:=frs X.outer
def Vis(sc:Scope)(x:Str):Prop:=sc.names.lookup x=some .local\/sc.names.lookup x=some .cell\/sc.names.lookup x=some .free
def Loc(sc:Scope)(x:Str):Prop:=sc.names.lookup x=some .local\/sc.names.lookup x=some .cell
noncomputable def Kg(env:Env)(h:Heap)(m:Str->Option Value)(x:Str)(u:Value):Prop :=
 (env.kindOf x=some .local/\m x=some u)\/((env.kindOf x=some .cell\/env.kindOf x=some .free)/\∃c,env.cells.lookup x=some c/\h.IsCell c (some u))
structure Cx.Ok(X:Cx):Prop where
 mod:Mod X.K X.mg X.base
 kind:X.env.scope.kind=.function
 glob:X.env.globals=mainGlobals
 blt:X.env.builtins=builtinsNs
 above:X.s₀.heap.objs.size<=X.env.locals
 inj:∀x y c,X.env.cells.lookup x=some c->X.env.cells.lookup y=some c->x=y
 has:∀x,(X.env.kindOf x=some .cell\/X.env.kindOf x=some .free)->∃c,X.env.cells.lookup x=some c
 cab:∀x c,X.fn x=true->X.env.cells.lookup x=some c->X.s₀.heap.objs.size<=c
 hd:X.calm=true->X.A.handled=none
 frames:X.A.frames=some X.stack
 stk:X.stack=X.outer\/(X.stack=X.env::X.outer/\X.env.frame=some X.env.locals)
 exf:∀b∈X.ex,b≠X.env.locals/\∀x c,X.env.cells.lookup x=some c->c≠b
 bs:∀b o,X.base.get? b=some o->X.s₀.heap.get? b=some o/\X.H₀ b=none
 bsz:X.base.objs.size<=X.s₀.heap.objs.size
 noex:∀b o,X.base.get? b=some o->b∉X.ex
 exfs:∀b∈X.ex,b∉X.fs
 funs:X.s₀.heap.FunFrames X.base X.outer
 frf:∀b∈X.fs,X.H₀ b=none
structure Inv(X:Cx)(pins:List (Addr×Obj))(σ:List (Option V))(H:Hp)(s:Shared):Prop where
 ok:X.Ok
 os:s.os=X.s₀.os
 bare:AllBare s.gens
 base:Un X.fs X.ex X.H₀ H X.s₀.heap s.heap
 loc:∃m,s.heap.Ns X.env.locals m/\∀(i:Nat) (x:Str) (v:V),X.N[i]?=some x->σ[i]?=some (some v)->Vis X.env.scope x->∃u,RelV v u/\Kg X.env s.heap m x u
 cell:∀x c,X.env.cells.lookup x=some c->∃v,s.heap.IsCell c v
 free:H X.env.locals=none
 freeC:∀x c,X.env.cells.lookup x=some c->H c=none
 pin:∀p∈X.pn++pins,s.heap.get? p.1=some p.2/\H p.1=none/\p.1≠X.env.locals/\p.1∉X.fs/\∀v,p.2.data≠.cell v
 hok:HOk X.prog X.w H s.heap
 len:σ.length=X.N.length
section
variable {X:Cx}{pins:List (Addr×Obj)}{σ:List (Option V)}{H H':Hp}{s:Shared}{h':Heap}
theorem Cx.Ok.nofr(ok:X.Ok){b:Addr}{o:Obj}(e:X.base.get? b=some o):b∉X.fs:=λhb=>by have:=(ok.funs.mem hb).1;rw[e]at this;cases this
theorem Inv.bs(I:Inv X pins σ H s):∀b o,X.base.get? b=some o->s.heap.get? b=some o/\H b=none:=λb o e =>⟨I.base.keep b o (I.ok.bs b o e).1 (I.ok.bs b o e).2 (I.ok.nofr e) (I.ok.noex b o e),I.base.free b o (I.ok.bs b o e).1 (I.ok.bs b o e).2 (I.ok.noex b o e)⟩
theorem Inv.bk(I:Inv X pins σ H s):∀b o,X.base.get? b=some o->s.heap.get? b=some o:=λb o e=>(I.bs b o e).1
theorem Inv.mod(I:Inv X pins σ H s):Mod X.K X.mg X.base:=I.ok.mod
theorem Inv.kIn(I:Inv X pins σ H s):X.K.In s.heap:=I.ok.mod.kin.keeps I.bk
theorem Inv.nolimit(I:Inv X pins σ H s):s.heap.NoLimit:=I.ok.mod.nolimit.keeps I.bk
theorem Inv.fr(I:Inv X pins σ H s):∃m,Fr X.base X.env.locals s.heap m :=
 let⟨m,hn,_⟩:=I.loc
 ⟨m,hn,I.bk,MV I.ok.bsz I.ok.above⟩
theorem Inv.lt(I:Inv X pins σ H s):X.env.locals<s.heap.objs.size:=let⟨_,hn,_⟩:=I.loc;hn.lt
theorem Inv.sz(I:Inv X pins σ H s):X.s₀.heap.objs.size<=s.heap.objs.size:=MV I.ok.above (Ov I.lt)
theorem Inv.nofs(I:Inv X pins σ H s){a:Addr}(h:s.heap.objs.size<=a):a∉X.fs:=λhb=>by obtain⟨_,o,ho,_⟩:=I.ok.funs.mem hb;exact absurd (Nd (Heap.lt_size ho) (MV I.sz h)) (NC _)
theorem Inv.cne(I:Inv X pins σ H s):∀x c,X.env.cells.lookup x=some c->c≠X.env.locals:=λx c e z=>by obtain⟨v,o,ho,hd⟩:=I.cell x c e;obtain⟨m,⟨o',es,ep,ho',hd',_⟩,_⟩:=I.loc;rw[z,ho']at ho;cases ho;rw[hd']at hd;cases hd
theorem Inv.funs(I:Inv X pins σ H s):s.heap.FunFrames X.base X.outer:=by
 have all:∀(l:List Env),(∀b∈frs l,b∈X.fs)->X.s₀.heap.FunFrames X.base l->s.heap.FunFrames X.base l:=by
  intro l
  induction l with
  |nil=>intro _ _;trivial
  |cons env r ih =>
   intro hs hl;obtain⟨hk,⟨L,o,hf,hn,ho,hd⟩,hr⟩:=hl;have hL:L∈X.fs:=hs L (by unfold frs;rw[O9,hf];exact MP);obtain⟨sl,e⟩:=I.base.slot L o ho (I.ok.frf L hL) hL λz=>I.ok.exfs L z hL
   exact⟨hk,⟨L,_,hf,hn,e,hd⟩,ih (λb hb=>hs b (by unfold frs;rw[O9,hf];exact MK _ hb)) hr⟩
 exact all X.outer (λ_ hb=>hb) I.ok.funs
theorem Inv.stack(I:Inv X pins σ H s):s.heap.FunFrames X.base X.stack:=by
 rcases I.ok.stk with e |⟨e,hf⟩
 ·rw[e];exact I.funs
 ·rw[e];obtain⟨m,hn,_⟩:=I.loc;refine .cons (by rw[I.ok.kind];decide) hf hn ?_ I.funs;exact Heap.get?_none_of_le (MV I.ok.bsz I.ok.above)
theorem Inv.stkSub(I:Inv X pins σ H s):∀b∈frs X.stack,b∈X.env.locals::X.fs:=λb hb=>by
 rcases I.ok.stk with e |⟨e,hf⟩
 ·rw[e]at hb;exact MK _ hb
 ·rw[e]at hb;unfold frs at hb
  rw[O9,hf]at hb;exact hb
theorem Inv.stkFree(I:Inv X pins σ H s):∀b∈frs X.stack,H b=none:=λb hb=>by
 rcases MM.mp (I.stkSub b hb)with e |hb
 ·rw[e];exact I.free
 ·obtain⟨_,o,ho,_⟩:=I.ok.funs.mem hb;exact I.base.free b o ho (I.ok.frf b hb) λz=>I.ok.exfs b z hb
theorem Inv.step{g':Array GenState}{t':Nat}{d':Drawn}{ch:List Addr}(I:Inv X pins σ H s)
 (hch:∀b∈ch,(b∈X.ex\/X.s₀.heap.objs.size<=b)/\b≠X.env.locals/\(∀x c,X.env.cells.lookup x=some c->c≠b)/\∀p∈X.pn++pins,p.1≠b)
 (keep:∀b o,b≠X.env.locals->b∉X.fs->b∉ch->s.heap.get? b=some o->H b=none->h'.get? b=some o)
 (slot:∀b o,b≠X.env.locals->b∈X.fs->b∉ch->s.heap.get? b=some o->H b=none->∃sl,h'.get? b=some { o with slots:=sl }) (free:∀b o,b∉ch->s.heap.get? b=some o->H b=none->H' b=none)
 (there:∀b o,b∉ch->s.heap.get? b=some o->∃o',h'.get? b=some o')
 (tups:∀b xs,H b=some (.tup xs)->H' b=some (.tup xs)) (frzs:∀b o u,H b=some (.frz o u)->H' b=some (.frz o u)) (tbls:∀b ps,H b=some (.tbl ps)->∃more,H' b=some (.tbl (ps++more)))
 (ns:∀m,s.heap.Ns X.env.locals m->h'.Ns X.env.locals m) (hok:HOk X.prog X.w H' h') (hg:AllBare g') :
 Inv X pins σ H' { s with heap:=h',gens:=g',drawn:=d',toks:=t' }:=by
 have neL:∀b o,X.s₀.heap.get? b=some o->b≠X.env.locals:=λb o e=>M7 (Nd (Heap.lt_size e) I.ok.above)
 have neC:∀b o,X.s₀.heap.get? b=some o->b∉X.ex->b∉ch:=λb o e hx hb=>by
  rcases(hch b hb).1 with z |z
  ·exact hx z
  ·exact absurd (Nd (Heap.lt_size e) z) (NC _)
 have cellK:∀x c,X.env.cells.lookup x=some c->∀v,s.heap.IsCell c v->h'.IsCell c v:=λx c e v ⟨o,ho,hd⟩=>by
  have nch:c∉ch:=λz=>(hch c z).2.2.1 x c e rfl
  by_cases hc:c∈X.fs
  ·obtain⟨sl,q⟩:=slot c o (I.cne x c e) hc nch ho (I.freeC x c e);exact⟨_,q,hd⟩
  ·exact⟨o,keep c o (I.cne x c e) hc nch ho (I.freeC x c e),hd⟩
 refine⟨I.ok,I.os,hg,⟨λb o e n hb hx=>?_,λb o e n hb hx=>?_,λb o e n hx=>?_,λb o e hx=>?_,λb xs e=>tups b xs (I.base.tups b xs e),λb o xs e=>frzs b o xs (I.base.frzs b o xs e),λb ps e=>?_⟩,?_,λx c e=>?_,?_,λx c e=>?_,λp hp=>?_,hok,I.len⟩
 ·exact keep b o (neL b o e) hb (neC b o e hx) (I.base.keep b o e n hb hx) (I.base.free b o e n hx)
 ·obtain⟨sl,e1⟩:=I.base.slot b o e n hb hx;obtain⟨sl',e2⟩:=slot b _ (neL b o e) hb (neC b o e hx) e1 (I.base.free b o e n hx);exact⟨sl',e2⟩
 ·obtain⟨o',e1⟩:=I.base.there b o e hx;exact free b o' (neC b o e hx) e1 (I.base.free b o e n hx)
 ·obtain⟨o',e1⟩:=I.base.there b o e hx;exact there b o' (neC b o e hx) e1
 ·obtain⟨m1,e1⟩:=I.base.tbls b ps e;obtain⟨m2,e2⟩:=tbls b _ e1;exact⟨m1++m2,by rw[e2,Array.append_assoc]⟩
 ·obtain⟨m,hn,hl⟩:=I.loc;refine⟨m,ns m hn,λi x v e1 e2 e3=>?_⟩;obtain⟨u,r,l⟩:=hl i x v e1 e2 e3;refine⟨u,r,?_⟩;rcases l with l |⟨k,c,e,z⟩
  ·exact .inl l
  ·exact .inr ⟨k,c,e,cellK x c e _ z⟩
 ·obtain⟨v,z⟩:=I.cell x c e;exact⟨v,cellK x c e v z⟩
 ·obtain⟨m,⟨o,_,_,ho,_⟩,_⟩:=I.loc;exact free _ o (λz=>(hch _ z).2.1 rfl) ho I.free
 ·obtain⟨v,o,ho,hd⟩:=I.cell x c e;exact free c o (λz=>(hch c z).2.2.1 x c e rfl) ho (I.freeC x c e)
 ·obtain⟨e,n,ne,nf,d⟩:=I.pin p hp;have nch:p.1∉ch:=λz=>(hch p.1 z).2.2.2 p hp rfl
  exact⟨keep p.1 p.2 ne nf nch e n,free p.1 p.2 nch e n,ne,nf,d⟩
theorem Inv.un{t':Nat}(I:Inv X pins σ H s)(u:Un X.fs [] H H' s.heap h')(hok:HOk X.prog X.w H' h'):Inv X pins σ H' { s with heap:=h',toks:=t' }:=by
 obtain⟨m,⟨o,es,ep,ho,r⟩,_⟩:=id I.loc;obtain⟨sl,hL⟩:=u.any ho I.free (by simp)
 exact I.step (g':=s.gens) (d':=s.drawn) (ch:=[]) (λ_ z=>nomatch z) (λb o _ hb _ e n=>u.keep b o e n hb (by simp)) (λb o _ hb _ e n=>u.slot b o e n hb (by simp)) (λb o _ e n=>u.free b o e n (by simp)) (λb o _ e=>u.there b o e (by simp)) u.tups u.frzs u.tbls (λm' hm=>by
  obtain⟨o',es',ep',ho',r'⟩:=hm;rw[ho]at ho';cases ho'
  exact⟨_,es',ep',hL,r'⟩) hok I.bare
theorem Inv.call{g':Array GenState}{t':Nat}{d':Drawn}{ch:List Addr}(I:Inv X pins σ H s)(u:Un (frs X.stack) ch H H' s.heap h')(hok:HOk X.prog X.w H' h')(hg:AllBare g')
 (hch:∀b∈ch,(b∈X.ex\/X.s₀.heap.objs.size<=b)/\b≠X.env.locals/\(∀x c,X.env.cells.lookup x=some c->c≠b)/\∀p∈X.pn++pins,p.1≠b) :
 Inv X pins σ H' { s with heap:=h',gens:=g',drawn:=d',toks:=t' }:=by
 obtain⟨m,⟨o,es,ep,ho,r⟩,_⟩:=id I.loc;obtain⟨sl,hL⟩:=u.any ho I.free λz=>(hch _ z).2.1 rfl
 exact I.step (ch:=ch) hch (λb o hL hb hc e n=>u.keep b o e n (λz=>(MM.mp (I.stkSub b z)).elim hL hb) hc) (λb o _ _ hc e n=>u.any e n hc) (λb o hc e n=>u.free b o e n hc) (λb o hc e=>u.there b o e hc) u.tups u.frzs u.tbls (λm' hm=>by
  obtain⟨o',es',ep',ho',r'⟩:=hm;rw[ho]at ho';cases ho'
  exact⟨_,es',ep',hL,r'⟩) hok hg
theorem Inv.turned{t':Nat}{it:Addr}(I:Inv X pins σ H s)(k:∀b o,b≠it->s.heap.get? b=some o->h'.get? b=some o)(hn:H it=none)(hL:it≠X.env.locals)
 (h1:it∈X.ex\/X.s₀.heap.objs.size<=it) (h2:∀x c,X.env.cells.lookup x=some c->c≠it) (h3:∀p∈X.pn++pins,p.1≠it):Inv X pins σ H { s with heap:=h',toks:=t' }:=by
 have nit:∀b u,H b=some u->b≠it:=λb u e z=>by rw[z,hn]at e;cases e
 refine I.step (g':=s.gens) (d':=s.drawn) (ch:=[it]) (λb hb=>?_) (λb o _ _ hc e _=>k b o (λz=>hc (by simp[z])) e) (λb o _ _ hc e _=>⟨o.slots,k b o (λz=>hc (by simp[z])) e⟩) (λ_ _ _ _ n=>n)
  (λb o hc e=>⟨o,k b o (λz=>hc (by simp[z])) e⟩) (λ_ _ e=>e) (λ_ _ _ e=>e) (λb ps e=>⟨#[],by rw[e];simp⟩) (λm hm=>?_) (λb u e=>?_) I.bare
 ·have e:b=it:=by simpa using hb
  subst e;exact⟨h1,hL,h2,h3⟩
 ·obtain⟨o,es,ep,ho,r⟩:=hm;exact⟨o,es,ep,k _ o (Ne.symm hL) ho,r⟩
 ·refine(I.hok b u e).stay (λc v hc q=>k c v ?_ q) (λ_ q=>q) λ_ _ q=>q
  rcases hc with z |z
  ·rw[z];exact nit b u e
  ·exact nit c _ z
theorem Inv.tok(I:Inv X pins σ H s)(t:Nat):Inv X pins σ H { s with toks:=t }:=I.un (h':=s.heap) (t':=t) Un.refl I.hok
theorem Inv.kept{t':Nat}(I:Inv X pins σ H s)(k:∀b u,s.heap.get? b=some u->h'.get? b=some u):Inv X pins σ H { s with heap:=h',toks:=t' }:=I.un (Un.kept k) (I.hok.kept k)
theorem Inv.laid{a:Addr}{o:HO}{t':Nat}(I:Inv X pins σ H s)(k:∀b u,s.heap.get? b=some u->h'.get? b=some u)(hp:s.heap.objs.size<=a)(new:ObjOk X.prog X.w (upd H a o) h' a o) :
 Inv X pins σ (upd H a o) { s with heap:=h',toks:=t' }:=I.un (Un.laid k hp (I.hok.fresh hp)) (I.hok.laid k hp new)
theorem Inv.write{x e:Addr}{o:HO}{t':Nat}(I:Inv X pins σ H s)(mu:Mut (H x))(he:e=x\/H e=some (.own x))(k:∀b u,b≠e->s.heap.get? b=some u->h'.get? b=some u)(heo:∃u,h'.get? e=some u)
 (new:ObjOk X.prog X.w (upd H x o) h' x o):Inv X pins σ (upd H x o) { s with heap:=h',toks:=t' }:=I.un (Un.write mu he k heo) (I.hok.write mu he k heo new)
theorem Inv.pins_of{pins':List (Addr×Obj)}(I:Inv X pins σ H s)(h:∀p∈pins',s.heap.get? p.1=some p.2/\H p.1=none/\p.1≠X.env.locals/\p.1∉X.fs/\∀v,p.2.data≠.cell v):Inv X pins' σ H s :=
 ⟨I.ok,I.os,I.bare,I.base,I.loc,I.cell,I.free,I.freeC,λp hp=>(Nb.mp hp).elim (λz=>I.pin p (NI _ z)) (h p),I.hok,I.len⟩
theorem rZ{N:List Str}(hN:N.Nodup){i j:Nat}{x:Str}(a:N[i]?=some x)(b:N[j]?=some x):i=j:=by obtain⟨h1,e1⟩:=List.getElem?_eq_some_iff.mp a;obtain⟨h2,e2⟩:=List.getElem?_eq_some_iff.mp b;exact(List.getElem_inj hN).mp (e1.trans e2.symm)
theorem vR{M:Model}{A:Around}{E:Value->Shared->Prop}{i:Nat}{x:Str}{v:V}{u:Value}{Q:Unit->Shared->Prop}(I:Inv X pins σ H s)(hN:X.N.Nodup)(hi:X.N[i]?=some x)(hx:Loc X.env.scope x)(r:RelV v u)
 (h:∀s',Inv X pins (σ.set i (some v)) H s'->(∃a,Heap.SameBut a s.heap s'.heap/\(a=X.env.locals\/X.env.cells.lookup x=some a))->Q () s') (hf:X.fn x=true\/X.env.scope.names.lookup x=some .local:=by first |exact .inl rfl |exact .inr rfl |assumption):wpAny M A (storeName X.env x u) Q E s:=by
 obtain⟨m,hn,hl⟩:=id I.loc;have hcls:(X.env.scope.kind == .class || (X.env.scope.kind == .module&&X.env.locals != X.env.globals))=false:=by rw[I.ok.kind];rfl
 have hiσ:i<σ.length:=by rw[I.len];exact(List.getElem?_eq_some_iff.mp hi).1
 have cne:=I.cne
 have tracked:∀{a:Addr} {h':Heap},(∃o,s.heap.get? a=some o/\H a=none)->Heap.SameBut a s.heap h'->HOk X.prog X.w H h':=λ{a h'} ha hs b ob e=>by
  obtain⟨_,_,hfree⟩:=ha;refine(I.hok b ob e).stay (λc w' hc q=>(hs.2 c ?_).trans q) (λ_ q=>q) λ_ _ q=>q
  rintro rfl;rcases hc with rfl |hc
  ·rw[hfree]at e;cases e
  ·rw[hfree]at hc;cases hc
 rcases hx with hk |hk
 ·refine wpAny_storeName_local hk hn (λh' hn' hs=>?_) hcls;obtain⟨oL,_,_,hoL,_⟩:=id hn;refine h _ ⟨I.ok,I.os,I.bare,⟨λb o e n hb hx=>?_,λb o e n hb hx=>?_,I.base.free,λb o e hx=>?_,I.base.tups,I.base.frzs,I.base.tbls⟩,⟨_,hn',λj y v' e1 e2 e3=>?_⟩,λy c e=>?_,I.free,I.freeC,λp hp=>?_,tracked ⟨oL,hoL,I.free⟩ hs,by simpa using I.len⟩ ⟨_,hs,.inl rfl⟩
  ·exact(hs.2 b (M7 (Nd (Heap.lt_size e) I.ok.above))).trans (I.base.keep b o e n hb hx)
  ·obtain⟨sl,e1⟩:=I.base.slot b o e n hb hx;exact⟨sl,(hs.2 b (M7 (Nd (Heap.lt_size e) I.ok.above))).trans e1⟩
  ·obtain⟨o',e1⟩:=I.base.there b o e hx;exact⟨o',(hs.2 b (M7 (Nd (Heap.lt_size e) I.ok.above))).trans e1⟩
  ·by_cases hj:j=i
   ·subst hj;rw[hi]at e1;cases e1;rw[List.getElem?_set_self hiσ]at e2;cases e2;exact⟨u,r,.inl ⟨hk,by simp⟩⟩
   ·rw[List.getElem?_set_ne (Ne.symm hj)]at e2;obtain⟨u',r',q⟩:=hl j y v' e1 e2 e3;refine⟨u',r',?_⟩;rcases q with⟨k,e⟩ |⟨k,c,e,z⟩
    ·refine .inl ⟨k,?_⟩;have:y≠x:=λe=>hj (rZ hN e1 (e ▸ hi))
     simp[this,e]
    ·exact .inr ⟨k,c,e,z.sameBut hs (cne y c e)⟩
  ·obtain⟨w',z⟩:=I.cell y c e;exact⟨w',z.sameBut hs (cne y c e)⟩
  ·obtain⟨e,n,ne,nf,d⟩:=I.pin p hp;exact⟨(hs.2 p.1 ne).trans e,n,ne,nf,d⟩
 ·have hfn:X.fn x=true:=by
   rcases hf with z |z
   ·exact z
   ·rw[z]at hk;cases hk
  obtain⟨c,hc⟩:=I.ok.has x (.inl hk);obtain⟨w',z⟩:=I.cell x c hc;refine wpAny_storeName_cell I.ok.kind hk hc z (λh' hc' hs=>?_);obtain⟨oc,hoc,hocd⟩:=id z;refine h { s with heap:=h' } ⟨I.ok,I.os,I.bare,⟨λb o e n hb hx=>?_,λb o e n hb hx=>?_,I.base.free,λb o e hx=>?_,I.base.tups,I.base.frzs,I.base.tbls⟩,⟨m,hn.sameBut hs (Ne.symm (cne x c hc)),λj y v' e1 e2 e3=>?_⟩,λy c' e=>?_,I.free,I.freeC,λp hp=>?_,tracked ⟨oc,hoc,I.freeC x c hc⟩ hs,by simpa using I.len⟩ ⟨c,hs,.inr hc⟩
  ·exact(hs.2 b (M7 (Nd (Heap.lt_size e) (I.ok.cab x c hfn hc)))).trans (I.base.keep b o e n hb hx)
  ·obtain⟨sl,e1⟩:=I.base.slot b o e n hb hx;exact⟨sl,(hs.2 b (M7 (Nd (Heap.lt_size e) (I.ok.cab x c hfn hc)))).trans e1⟩
  ·obtain⟨o',e1⟩:=I.base.there b o e hx;exact⟨o',(hs.2 b (M7 (Nd (Heap.lt_size e) (I.ok.cab x c hfn hc)))).trans e1⟩
  ·by_cases hj:j=i
   ·subst hj;rw[hi]at e1;cases e1;rw[List.getElem?_set_self hiσ]at e2;cases e2;exact⟨u,r,.inr ⟨.inl hk,c,hc,hc'⟩⟩
   ·rw[List.getElem?_set_ne (Ne.symm hj)]at e2;obtain⟨u',r',q⟩:=hl j y v' e1 e2 e3;refine⟨u',r',?_⟩;rcases q with q |⟨k,c',e,z'⟩
    ·exact .inl q
    ·refine .inr ⟨k,c',e,z'.sameBut hs ?_⟩;rintro rfl;exact hj (rZ hN e1 (I.ok.inj _ _ _ e hc ▸ hi))
  ·by_cases hcc:c'=c
   ·subst hcc;exact⟨_,hc'⟩
   ·obtain⟨w2,z2⟩:=I.cell y c' e;exact⟨w2,z2.sameBut hs hcc⟩
  ·obtain⟨e,n,ne,nf,d⟩:=I.pin p hp;refine⟨(hs.2 p.1 ?_).trans e,n,ne,nf,d⟩;intro q;rw[q,hoc]at e;have q':oc=p.2:=Option.some.inj e;exact d w' (by rw[<- q'];exact hocd)
theorem oJ{M:Model}{A:Around}{E:Value->Shared->Prop}{i:Nat}{x:Str}{v:V}{u:Value}{Q:Unit->Shared->Prop}(I:Inv X pins σ H s)(hN:X.N.Nodup)(hi:X.N[i]?=some x)(hx:Loc X.env.scope x)(r:RelV v u)
 (h:∀s',Inv X pins (σ.set i (some v)) H s'->Q () s') (hf:X.fn x=true\/X.env.scope.names.lookup x=some .local:=by first |exact .inl rfl |exact .inr rfl |assumption):wpAny M A (storeName X.env x u) Q E s :=
 vR I hN hi hx r (λs' I' _=>h s' I') hf
theorem Inv.call'{s':Shared}{ch:List Addr}(I:Inv X pins σ H s)(ho:s'.os=s.os)(u:Un (frs X.stack) ch H H' s.heap s'.heap)(hok:HOk X.prog X.w H' s'.heap)(hg:AllBare s'.gens)
 (hch:∀b∈ch,(b∈X.ex\/X.s₀.heap.objs.size<=b)/\b≠X.env.locals/\(∀x c,X.env.cells.lookup x=some c->c≠b)/\∀p∈X.pn++pins,p.1≠b):Inv X pins σ H' s':=by
 obtain⟨h',g',d',t',o'⟩:=s';have e:o'=s.os:=ho;subst e;exact I.call (g':=g') (t':=t') (d':=d') u hok hg hch
end
abbrev XK:=Value->Option Addr->Hp->Prop
abbrev St:=List (Option V)
abbrev VK:=V->Hp->Prop
abbrev TE:=St->Hp->VK->Prop
abbrev TT:=St->Hp->(Bool->Hp->Prop)->Prop
abbrev TA:=St->Hp->(List V->Hp->Prop)->Prop
structure Ends where
 nx:St->Hp->Prop
 rt:VK
 bk:St->Hp->Prop:=λ_ _=>False
 ct:St->Hp->Prop:=λ_ _=>False
abbrev TS:=Ends->St->Hp->Prop
def EP(X:Cx)(pins:List (Addr×Obj))(σ:St)(Q:VK)(u:Value)(s':Shared):Prop:=∃v H',Inv X pins σ H' s'/\RelV v u/\Q v H'
def TP(X:Cx)(pins:List (Addr×Obj))(σ:St)(Q:Bool->Hp->Prop)(b:Bool)(s':Shared):Prop:=∃H',Inv X pins σ H' s'/\Q b H'
def AP(X:Cx)(pins:List (Addr×Obj))(σ:St)(Q:List V->Hp->Prop)(us:List Value)(s':Shared):Prop:=∃vs H',Inv X pins σ H' s'/\Vals vs us/\Q vs H'
noncomputable def SP(X:Cx)(pins:List (Addr×Obj))(D:Ends)(f:Flow)(s':Shared):Prop :=
 match f with
 |.next=>∃σ' H',Inv X pins σ' H' s'/\D.nx σ' H'
 |.brk=>∃σ' H',Inv X pins σ' H' s'/\D.bk σ' H'
 |.cont=>∃σ' H',Inv X pins σ' H' s'/\D.ct σ' H'
 |.ret u=>∃v σ' H',Inv X pins σ' H' s'/\RelV v u/\D.rt v H'
noncomputable def PE(X:Cx)(e:Expr)(t:TE):Prop :=
 ∀(pins:List (Addr×Obj)) (s:Shared) (σ:St) (H:Hp) (Q:VK),Inv X pins σ H s->t σ H Q->wpAny (model X.prog X.w) X.A (eval e X.env) (EP X pins σ Q) X.xe s
noncomputable def PT(X:Cx)(e:Expr)(t:TT):Prop :=
 ∀(pins:List (Addr×Obj)) (s:Shared) (σ:St) (H:Hp) (Q:Bool->Hp->Prop),Inv X pins σ H s->t σ H Q->wpAny (model X.prog X.w) X.A (isTrue e X.env (eval e X.env)) (TP X pins σ Q) X.xe s
noncomputable def PW(X:Cx)(e:Expr)(t:TT):Prop :=
 ∀(whole:Sem Value) (pins:List (Addr×Obj)) (s:Shared) (σ:St) (H:Hp) (Q:Bool->Hp->Prop),Inv X pins σ H s->t σ H Q->wpAny (model X.prog X.w) X.A (isTrue e X.env whole) (TP X pins σ Q) X.xe s
theorem PW.pt{X:Cx}{e:Expr}{t:TT}(h:PW X e t):PT X e t:=h _
noncomputable def PA(X:Cx)(es:List Expr)(t:TA):Prop :=
 ∀(pos:Pos) (pins:List (Addr×Obj)) (s:Shared) (σ:St) (H:Hp) (Q:List V->Hp->Prop),Inv X pins σ H s->t σ H Q->wpAny (model X.prog X.w) X.A (spliced (backTo pos (starEach es X.env))) (AP X pins σ Q) X.xe s
noncomputable def PS(X:Cx)(st:Stmt)(t:TS):Prop :=
 ∀(pins:List (Addr×Obj)) (s:Shared) (σ:St) (H:Hp) (D:Ends),Inv X pins σ H s->t D σ H->wpAny (model X.prog X.w) X.A (exec st X.env) (SP X pins D) X.xe s
noncomputable def PSs(X:Cx)(st:List Stmt)(t:TS):Prop :=
 ∀(pins:List (Addr×Obj)) (s:Shared) (σ:St) (H:Hp) (D:Ends),Inv X pins σ H s->t D σ H->wpAny (model X.prog X.w) X.A (execs st X.env) (SP X pins D) X.xe s
theorem thn{α:Type}{t:Sem α}{Q Q':α->Shared->Prop}{M:Model}{A:Around}{E:Value->Shared->Prop}{s:Shared}(h:wpAny M A t Q E s)(hQ:∀a s,Q a s->Q' a s):wpAny M A t Q' E s:=wpAny_mono h hQ λ_ _ x=>x
section
variable {X:Cx}
def vB(i:Nat):TE:=λσ H Q=>∃v,σ[i]?=some (some v)/\Q v H
def tC(v:V):TE:=λ_ H Q=>Q v H
theorem EH{i:Nat}{x:Str}{pos:Pos}(hN:X.N[i]?=some x)(hv:Vis X.env.scope x)(hd:(x == ("__debug__":Str))=false:=by decide)(hcd:(x == ("__classdict__":Str))=false:=by decide):PE X (.Name x pos) (vB i):=by
 intro pins s σ H Q I h;obtain⟨v,e,h⟩:=h;obtain⟨m,hn,hl⟩:=I.loc;obtain⟨u,r,l⟩:=hl i x v hN e hv;have fin:EP X pins σ Q u s:=⟨v,H,I,r,h⟩;rcases l with⟨hk,hm⟩ |⟨hk,c,hc,hcell⟩
 ·exact wpAny_Name (wpAny_loadName_local I.ok.kind hk hn hm fin) hd
 ·rcases hk with hk |hk
  ·exact wpAny_Name (wpAny_loadName_cell I.ok.kind hk hc hcell fin) hd
  ·exact wpAny_Name (wpAny_loadName_free I.ok.kind hk hc hcell fin hcd) hd
theorem ad{i j pos}:PE X (.Constant (.int i) j pos) (tC (.int i)):=λ_ _ _ H _ I h=>wpAny_Constant_int ⟨.int i,H,I.tok _,⟨_,rfl⟩,h⟩
theorem gw{b j pos}:PE X (.Constant (.bool b) j pos) (tC (.bl b)):=λ_ _ _ H _ I h=>Constant_bool ⟨.bl b,H,I,rfl,h⟩
theorem yj{j pos}:PE X (.Constant .none j pos) (tC .non):=λ_ _ _ H _ I h=>Constant_none ⟨.non,H,I,rfl,h⟩
def Gl(X:Cx)(x:Str):Prop:=X.env.kindOf x=some .globalImplicit
theorem jE{E:Value->Shared->Prop}{pins:List (Addr×Obj)}{s:Shared}{σ:St}{H:Hp}{x:Str}{u:Value}{pos:Pos}{Q:Value->Shared->Prop}(I:Inv X pins σ H s)(hg:Gl X x)(hm:X.mg x=some u)(h:Q u s)
 (hd:(x == ("__debug__":Str))=false:=by decide):wpAny (model X.prog X.w) X.A (eval (.Name x pos) X.env) Q E s :=
 Calls.Name_function_global I.ok.kind hg (Calls.loadGlobal_global (by rw[I.ok.glob];exact I.mod.glob.keeps I.bk) hm h) hd
theorem gE{E:Value->Shared->Prop}{pins:List (Addr×Obj)}{s:Shared}{σ:St}{H:Hp}{x:Str}{u:Value}{pos:Pos}{Q:Value->Shared->Prop}(I:Inv X pins σ H s)(hg:Gl X x)(hm:X.mg x=none)(hv:bootBuiltins x=some u)(h:Q u s)
 (hn:x≠"__name__":=by decide) (hd:(x == ("__debug__":Str))=false:=by decide):wpAny (model X.prog X.w) X.A (eval (.Name x pos) X.env) Q E s:=by
 obtain⟨mb,h1,h2⟩:=I.mod.blt;exact Calls.Name_function_global I.ok.kind hg (Calls.loadGlobal_builtin (by rw[I.ok.glob];exact I.mod.glob.keeps I.bk) hm (by rw[I.ok.blt];exact h1.keeps I.bk) ((h2 x hn).trans hv) h) hd
theorem rQ{x:Str}{v:V}{u:Value}{pos:Pos}(hg:Gl X x)(hm:X.mg x=some u)(r:RelV v u)(hd:(x == ("__debug__":Str))=false:=by decide):PE X (.Name x pos) (tC v) :=
 λ_ _ _ H _ I h=>jE I hg hm ⟨v,H,I,r,h⟩ hd
theorem jv{x:Str}{v:V}{u:Value}{pos:Pos}(hg:Gl X x)(hm:X.mg x=none)(hv:bootBuiltins x=some u)(r:RelV v u)(hn:x≠"__name__":=by decide)(hd:(x == ("__debug__":Str))=false:=by decide):PE X (.Name x pos) (tC v) :=
 λ_ _ _ H _ I h=>gE I hg hm hv ⟨v,H,I,r,h⟩ hn hd
variable {a b:Expr}{ta tb:TE}{pos:Pos}
def tB(t:TE):TT:=λσ H Q=>t σ H λx H1=>∃c,x=.bl c/\Q c H1
theorem dU{e:Expr}{t:TE}(h:PE X e t)(he:∀whole,isTrue e X.env whole=(do let v <- whole;standAt e.pos;holding [v] (truthy v)):=by intro _;rfl):PT X e (tB t):=by intro pins s σ H Q I hw;refine isTrue_plain (thn (h pins s σ H _ I hw) λv s1 ⟨x,H1,I1,r1,q1⟩=>?_) (he _);obtain⟨d,rfl,q⟩:=q1;cases r1;exact wpAny_truthy_bool ⟨H1,I1,q⟩
variable {tA tB':TT}{rest:List Expr}
def vL(t u:TT):TT:=λσ H Q=>t σ H λc H1=>if c=true then u σ H1 Q else Q false H1
def tOr(t u:TT):TT:=λσ H Q=>t σ H λc H1=>if c=true then Q true H1 else u σ H1 Q
def vG(t:TT):TT:=λσ H Q=>t σ H λc H1=>Q (!c) H1
theorem fA(ha:PT X a tA):PW X (.BoolOp .And [a] pos) tA:=by
 intro wh pins s σ H Q I h;refine isTrue_and (thn (ha pins s σ H Q I h) λc s1 e=>?_);cases c with
 |true=>exact isTrue_and_nil e
 |false=>exact e
theorem iF(ha:PT X a tA):PW X (.BoolOp .Or [a] pos) tA:=by
 intro wh pins s σ H Q I h;refine isTrue_or (thn (ha pins s σ H Q I h) λc s1 e=>?_);cases c with
 |false=>exact isTrue_or_nil e
 |true=>exact e
theorem fB(ha:PT X a tA)(hb:PW X (.BoolOp .And (b::rest) pos) tB'):PW X (.BoolOp .And (a::b::rest) pos) (vL tA tB'):=by
 intro wh pins s σ H Q I h;refine isTrue_and (thn (ha pins s σ H _ I h) λc s1 ⟨H1,I1,q1⟩=>?_);cases c with
 |true=>exact hb wh pins s1 σ H1 Q I1 q1
 |false=>exact⟨H1,I1,q1⟩
theorem fz(ha:PT X a tA)(hb:PW X (.BoolOp .Or (b::rest) pos) tB'):PW X (.BoolOp .Or (a::b::rest) pos) (tOr tA tB'):=by
 intro wh pins s σ H Q I h;refine isTrue_or (thn (ha pins s σ H _ I h) λc s1 ⟨H1,I1,q1⟩=>?_);cases c with
 |true=>exact⟨H1,I1,q1⟩
 |false=>exact hb wh pins s1 σ H1 Q I1 q1
theorem eQ(ha:PT X a tA):PT X (.UnaryOp .Not a pos) (vG tA):=by intro pins s σ H Q I h;exact isTrue_not (ha pins s σ H (λc H1=>Q (!c) H1) I h)
def vK(ta tb:TE):TE:=λσ H Q=>ta σ H λx H1=>∃c,x=.bl c/\if c=true then tb σ H1 Q else Q (.bl false) H1
def vE(ta tb:TE):TE:=λσ H Q=>ta σ H λx H1=>∃c,x=.bl c/\if c=true then Q (.bl true) H1 else tb σ H1 Q
def vF(ta:TE):TE:=λσ H Q=>ta σ H λx H1=>∃c,x=.bl c/\Q (.bl (!c)) H1
theorem iI{op}{t:TE}(h:PE X a t):PE X (.BoolOp op [a] pos) t:=λpins s σ H Q I hw=>BoolOp_one (h pins s σ H Q I hw)
theorem kL(ha:PE X a ta)(hb:PE X (.BoolOp .And (b::rest) pos) tb):PE X (.BoolOp .And (a::b::rest) pos) (vK ta tb):=by
 intro pins s σ H Q I h;refine BoolOp_and (thn (ha pins s σ H _ I h) λv s1 ⟨x,H1,I1,r1,q1⟩=>?_);obtain⟨c,rfl,q1⟩:=q1;cases r1;refine wpAny_truthy_bool ?_;cases c with
 |true=>exact hb pins s1 σ H1 Q I1 q1
 |false=>exact⟨.bl false,H1,I1,rfl,q1⟩
theorem rP(ha:PE X a ta)(hb:PE X (.BoolOp .Or (b::rest) pos) tb):PE X (.BoolOp .Or (a::b::rest) pos) (vE ta tb):=by
 intro pins s σ H Q I h;refine BoolOp_or (thn (ha pins s σ H _ I h) λv s1 ⟨x,H1,I1,r1,q1⟩=>?_);obtain⟨c,rfl,q1⟩:=q1;cases r1;refine wpAny_truthy_bool ?_;cases c with
 |false=>exact hb pins s1 σ H1 Q I1 q1
 |true=>exact⟨.bl true,H1,I1,rfl,q1⟩
theorem EI(ha:PE X a ta):PE X (.UnaryOp .Not a pos) (vF ta):=by intro pins s σ H Q I h;refine UnaryOp_ (thn (ha pins s σ H _ I h) λv s1 ⟨x,H1,I1,r1,q1⟩=>?_);obtain⟨c,rfl,q1⟩:=q1;cases r1;exact not_of (wpAny_truthy_bool ⟨.bl (!c),H1,I1,rfl,q1⟩)
def tIf(t:TT)(ta tb:TE):TE:=λσ H Q=>t σ H λc H1=>if c=true then ta σ H1 Q else tb σ H1 Q
theorem EN{c:Expr}(hc:PT X c tA)(ha:PE X a ta)(hb:PE X b tb):PE X (.IfExp c a b pos) (tIf tA ta tb):=by
 intro pins s σ H Q I h;refine wpAny_IfExp (thn (hc pins s σ H _ I h) λd s1 ⟨H1,I1,q1⟩=>?_);cases d with
 |true=>exact ha pins s1 σ H1 Q I1 q1
 |false=>exact hb pins s1 σ H1 Q I1 q1
end
noncomputable def SqL(K:PySem.W.Frag)(H:Hp)(a:Addr)(xs:List V):Prop :=
 Rd H a (.lst xs) \/
  ∃(o:Obj) (its:Array Value) (n:Nat),K.lookup a=some o/\o.cls=.type "list"/\o.dict=none/\o.data=.seq its n/\its.size<=sizeLine/\Vals xs its.toList
noncomputable def SqT(K:PySem.W.Frag)(H:Hp)(a:Addr)(xs:List V):Prop :=
 Rd H a (.tup xs) \/
  ∃(o:Obj) (its:Array Value) (n:Nat),K.lookup a=some o/\o.cls=.type "tuple"/\o.data=.seq its n/\its.size<=sizeLine/\Vals xs its.toList
noncomputable def Kd:Value->Option V
 |.none=>some .non
 |.bool b=>some (.bl b)
 |.int i _=>some (.int i)
 |.str x _=>some (.str x)
 |.bytes b _=>some (.byt b)
 |.float b _=>some (.flt b)
 |.ref a=>some (.ref a)
 |.type n=>some (.ty n)
 |_=>none
theorem RelV.abs{x:V}{u:Value}(r:RelV x u):Kd u=some x:=by
 cases x with
 |non=>cases r;rfl
 |bl _=>cases r;rfl
 |int _=>obtain⟨t,rfl⟩:=r;rfl
 |str _=>obtain⟨t,rfl⟩:=r;rfl
 |byt _=>obtain⟨t,rfl⟩:=r;rfl
 |flt _=>obtain⟨t,rfl⟩:=r;rfl
 |ref _=>cases r;rfl
 |ty _=>cases r;rfl
theorem RelV.inj{x y:V}{u:Value}(r:RelV x u)(q:RelV y u):x=y:=Option.some.inj (r.abs.symm.trans q.abs)
theorem Vals.inj:∀{xs ys:List V} {us:List Value},Vals xs us->Vals ys us->xs=ys
 |_,_,_,.nil,.nil=>rfl
 |_,_,_,.cons r t,.cons r' t'=>by rw[r.inj r',Vals.inj t t']
section
variable {X:Cx}{pins:List (Addr×Obj)}{σ:St}{H:Hp}{s:Shared}{a:Addr}{xs ys:List V}
theorem SqL.of{K:PySem.W.Frag}(h:H a=some (.lst xs)):SqL K H a xs:=.inl (.inl h)
theorem SqT.of{K:PySem.W.Frag}(h:H a=some (.tup xs)):SqT K H a xs:=.inl (.inl h)
theorem Inv.list(I:Inv X pins σ H s)(h:SqL X.K H a xs):∃its:List Value,Vals xs its/\PlainL s.heap a its.toArray/\xs.length<=sizeLine:=by
 rcases h with h |⟨o,its,n,hk,hc,hd,hs,hz,r⟩
 ·obtain⟨z,its,n,r,e⟩:=h.ok I.hok;exact⟨its,r,⟨_,n,e,rfl,rfl,rfl⟩,z⟩
 ·refine⟨its.toList,r,⟨o,n,I.kIn a o hk,hc,hd,by simpa using hs⟩,?_⟩;have e:=r.length;simp only[Array.length_toList]at e;omega
theorem Inv.tuple(I:Inv X pins σ H s)(h:SqT X.K H a xs):∃its:List Value,Vals xs its/\IsTup s.heap a its.toArray/\xs.length<=sizeLine:=by
 rcases h with h |⟨o,its,n,hk,hc,hs,hz,r⟩
 ·obtain⟨z,its,r,p⟩:=h.ok I.hok;exact⟨its,r,p,z⟩
 ·refine⟨its.toList,r,⟨o,I.kIn a o hk,hc,n,by simpa using hs⟩,?_⟩;have e:=r.length;simp only[Array.length_toList]at e;omega
theorem Inv.list_inj(I:Inv X pins σ H s)(h:SqL X.K H a xs)(h':SqL X.K H a ys):xs=ys:=by
 obtain⟨its,r,⟨o,n,e,_,_,d⟩,_⟩:=I.list h;obtain⟨its',r',⟨o',n',e',_,_,d'⟩,_⟩:=I.list h';rw[e]at e';cases e';rw[d]at d'
 injection d' with d1 _
 have:its=its':=by simpa using congrArg Array.toList d1
 subst this;exact r.inj r'
theorem Inv.tuple_inj(I:Inv X pins σ H s)(h:SqT X.K H a xs)(h':SqT X.K H a ys):xs=ys:=by
 obtain⟨its,r,⟨o,e,_,n,d⟩,_⟩:=I.tuple h;obtain⟨its',r',⟨o',e',_,n',d'⟩,_⟩:=I.tuple h';rw[e]at e';cases e';rw[d]at d'
 injection d' with d1 _
 have:its=its':=by simpa using congrArg Array.toList d1
 subst this;exact r.inj r'
end
abbrev Cx.wish(X:Cx)(E:Value->Shared->Prop):Cx:={ X with xe:=E }
abbrev Cx.nox(X:Cx):Cx:=X.wish λ_ _=>False
theorem Cx.Ok.wish{X:Cx}(ok:X.Ok)(E:Value->Shared->Prop):(X.wish E).Ok :=
 ⟨ok.mod,ok.kind,ok.glob,ok.blt,ok.above,ok.inj,ok.has,ok.cab,ok.hd,ok.frames,ok.stk,ok.exf,ok.bs,ok.bsz,ok.noex,ok.exfs,ok.funs,ok.frf⟩
theorem Cx.Ok.unwish{X:Cx}{E:Value->Shared->Prop}(ok:(X.wish E).Ok):X.Ok :=
 ⟨ok.mod,ok.kind,ok.glob,ok.blt,ok.above,ok.inj,ok.has,ok.cab,ok.hd,ok.frames,ok.stk,ok.exf,ok.bs,ok.bsz,ok.noex,ok.exfs,ok.funs,ok.frf⟩
section
variable {X:Cx}{pins:List (Addr×Obj)}{σ:St}{H:Hp}{s:Shared}{E:Value->Shared->Prop}
theorem Inv.wish(I:Inv X pins σ H s)(E:Value->Shared->Prop):Inv (X.wish E) pins σ H s:=⟨I.ok.wish E,I.os,I.bare,I.base,I.loc,I.cell,I.free,I.freeC,I.pin,I.hok,I.len⟩
theorem Inv.unwish(I:Inv (X.wish E) pins σ H s):Inv X pins σ H s:=⟨I.ok.unwish,I.os,I.bare,I.base,I.loc,I.cell,I.free,I.freeC,I.pin,I.hok,I.len⟩
theorem SP.unwish{D:Ends}{f:Flow}{s':Shared}(h:SP (X.wish E) pins D f s'):SP X pins D f s':=by
 cases f with
 |next=>obtain⟨σ',H',I,q⟩:=h;exact⟨σ',H',I.unwish,q⟩
 |brk=>obtain⟨σ',H',I,q⟩:=h;exact⟨σ',H',I.unwish,q⟩
 |cont=>obtain⟨σ',H',I,q⟩:=h;exact⟨σ',H',I.unwish,q⟩
 |ret u=>obtain⟨v,σ',H',I,r,q⟩:=h;exact⟨v,σ',H',I.unwish,r,q⟩
theorem PE.nox{e:Expr}{t:TE}(h:PE X.nox e t):PE X e t:=λpins s σ H Q I hw =>wpAny_mono (h pins s σ H Q (I.wish _) hw) (λ_ _ ⟨v,H',I',r,q⟩=>⟨v,H',I'.unwish,r,q⟩) λ_ _ z=>False.elim z
theorem PT.nox{e:Expr}{t:TT}(h:PT X.nox e t):PT X e t:=λpins s σ H Q I hw =>wpAny_mono (h pins s σ H Q (I.wish _) hw) (λ_ _ ⟨H',I',q⟩=>⟨H',I'.unwish,q⟩) λ_ _ z=>False.elim z
theorem PSs.nox{st:List Stmt}{t:TS}(h:PSs X.nox st t):PSs X st t:=λpins s σ H D I hw =>wpAny_mono (h pins s σ H D (I.wish _) hw) (λ_ _ q=>q.unwish) λ_ _ z=>False.elim z
end
section
variable {X:Cx}{st:Stmt}{rest:List Stmt}{t u:TS}{e:Expr}{te:TE}{pos:Pos}
def oF:TS:=λD σ H=>D.nx σ H
def cN(t u:TS):TS:=λD σ H=>t { D with nx:=u D } σ H
theorem aS:PSs X [] oF:=λ_ _ σ H _ I h=>wpAny_execs_nil ⟨σ,H,I,h⟩
theorem ag(h1:PS X st t)(h2:PSs X rest u):PSs X (st::rest) (cN t u):=by
 intro pins s σ H D I h;refine wpAny_execs_cons (thn (h1 pins s σ H { D with nx:=u D } I h) λf s1 q=>?_);cases f with
 |next =>obtain⟨σ',H',I',q⟩:=q;exact h2 pins s1 σ' H' D I' q
 |ret v=>exact q
 |brk=>exact q
 |cont=>exact q
theorem aj(h1:PS X st t):PSs X [st] t:=by
 intro pins s σ H D I h;refine wpAny_execs_cons (thn (h1 pins s σ H D I h) λf s1 q=>?_);cases f with
 |next=>exact wpAny_execs_nil q
 |ret v=>exact q
 |brk=>exact q
 |cont=>exact q
theorem Inv.quiet{pins:List (Addr×Obj)}{σ:St}{H:Hp}{s:Shared}(I:Inv X pins σ H s):interactive X.env=false:=by simp[interactive,I.ok.kind]
def lT(te:TE):TS:=λD σ H=>te σ H λ_ H1=>D.nx σ H1
theorem dq(he:PE X e te)(hs:swapsWith e none pos.line X.env=pure false:=by rfl):PS X (.Expr e pos) (lT te):=by intro pins s σ H D I h;exact wpAny_Expr_any (thn (he pins s σ H _ I h) λv s1 ⟨x,H1,I1,r1,q1⟩=>⟨σ,H1,I1,q1⟩) I.quiet hs
def vD(te:TE):TS:=λD σ H=>te σ H D.rt
theorem aC(he:PE X e te):PS X (.Return (some e) pos) (vD te):=by intro pins s σ H D I h;exact wpAny_Return_some (thn (he pins s σ H _ I h) λv s1 ⟨x,H1,I1,r1,q1⟩=>⟨x,σ,H1,I1,r1,q1⟩)
def gT(c:TT)(t u:TS):TS:=λD σ H=>c σ H λb H1=>if b=true then t D σ H1 else u D σ H1
theorem aR{c:Expr}{a b:List Stmt}{tc:TT}(hc:PT X c tc)(ha:PSs X a t)(hb:PSs X b u):PS X (.If c a b pos) (gT tc t u):=by
 intro pins s σ H D I h;refine wpAny_If (thn (hc pins s σ H _ I h) λd s1 ⟨H1,I1,q1⟩=>?_);cases d with
 |true=>exact ha pins s1 σ H1 D I1 q1
 |false=>exact hb pins s1 σ H1 D I1 q1
def Cf:TS:=λ_ _ _=>False
theorem mP:PS X st Cf:=λ_ _ _ _ _ _ h=>h.elim
end
abbrev TG:=V->St->Hp->(St->Hp->Prop)->Prop
abbrev TGs:=List V->St->Hp->(St->Hp->Prop)->Prop
noncomputable def PG(X:Cx)(target:Expr)(t:TG):Prop :=
 ∀(pins:List (Addr×Obj)) (s:Shared) (σ:St) (H:Hp) (v:V) (u:Value) (Q:St->Hp->Prop),Inv X pins σ H s->RelV v u->t v σ H Q ->
  wpAny (model X.prog X.w) X.A (assign target X.env u) (λ_ s'=>∃σ' H',Inv X pins σ' H' s'/\Q σ' H') X.xe s
noncomputable def PGs(X:Cx)(ts:List Expr)(t:TGs):Prop :=
 ∀(pins:List (Addr×Obj)) (s:Shared) (σ:St) (H:Hp) (vs:List V) (us:List Value) (Q:St->Hp->Prop),Inv X pins σ H s->Vals vs us->t vs σ H Q ->
  wpAny (model X.prog X.w) X.A (assignInOrder ((assignEach ts X.env).map (·.2)) us) (λ_ s'=>∃σ' H',Inv X pins σ' H' s'/\Q σ' H') X.xe s
abbrev uG:=V->V->V->Hp->(Hp->Prop)->Prop
noncomputable def Bh(X:Cx)(t:uG):Prop :=
 ∀(pins:List (Addr×Obj)) (s:Shared) (σ:St) (H:Hp) (o i v:V) (ov iv u:Value) (Q:Hp->Prop),Inv X pins σ H s->RelV o ov->RelV i iv->RelV v u->t o i v H Q ->
  wpAny (model X.prog X.w) X.A (setItem ov iv u) (λ_ s'=>∃H',Inv X pins σ H' s'/\Q H') X.xe s
section
variable {X:Cx}{pos:Pos}
def eh(i:Nat):TG:=λv σ H Q=>Q (σ.set i (some v)) H
theorem dG{i:Nat}{x:Str}(hN:X.N.Nodup)(hi:X.N[i]?=some x)(hx:Loc X.env.scope x)(hf:X.fn x=true\/X.env.scope.names.lookup x=some .local:=by first |exact .inl rfl |exact .inr rfl |assumption):PG X (.Name x pos) (eh i):=by intro pins s σ H v u Q I r h;exact wpAny_assign_Name (oJ I hN hi hx r (λs' I'=>⟨_,H,I',h⟩) hf)
noncomputable def Iq:TGs:=λvs σ H Q=>vs=[]/\Q σ H
noncomputable def Ir(t:TG)(u:TGs):TGs:=λvs σ H Q=>∃v r,vs=v::r/\t v σ H λσ' H'=>u r σ' H' Q
theorem gt:PGs X [] Iq:=by intro pins s σ H vs us Q I r h;obtain⟨e,h⟩:=h;subst e;cases r;exact assignInOrder_nil ⟨σ,H,I,h⟩
theorem bI{e:Expr}{es:List Expr}{t:TG}{u:TGs}(h1:PG X e t)(h2:PGs X es u)
 (hs:(assignEach (e::es) X.env).map (·.2)=assign e X.env::(assignEach es X.env).map (·.2):=by rfl):PGs X (e::es) (Ir t u):=by
 intro pins s σ H vs us Q I r h;obtain⟨v,vr,e1,h⟩:=h;subst e1;cases r with
 |cons r rr =>rw[hs];refine assignInOrder_cons (thn (h1 pins s σ H _ _ _ I r h) λ_ s1 ⟨σ1,H1,I1,q1⟩=>?_);exact h2 pins s1 σ1 H1 _ _ Q I1 rr q1
def Im(K:PySem.W.Frag)(n:Nat)(t:TGs):TG:=λv σ H Q=>∃a xs,v=.ref a/\SqT K H a xs/\xs.length=n/\t xs σ H Q
theorem gu{es:List Expr}{k:Nat}{t:TGs}{n:Nat}(hc:X.calm=true)(h:PGs X es t)
 (hn:(assignEach es X.env).length=n:=by rfl) (hst:(assignEach es X.env).findIdx? (·.1)=none:=by rfl):PG X (.Tuple es k pos) (Im X.K n t):=by
 intro pins s σ H v u Q I r hw;obtain⟨a,xs,e1,hq,hl,hw⟩:=hw;subst e1;cases r;obtain⟨its,rv,ht,hz⟩:=I.tuple hq;refine assign_Tuple_tuple (I.ok.hd hc) ht (by simp[hn,<- hl,rv.length]) hst λh' hx=>?_
 have I1:Inv X pins σ H { s with heap:=h' }:=I.kept (t':=s.toks) λb o e=>hx b o (M7 (Heap.lt_size e)) e
 exact h pins _ σ H xs _ Q I1 (by simpa using rv) hw
def Io(to ti:TE)(t:uG):TG:=λv σ H Q=>to σ H λo H1=>ti σ H1 λi H2=>t o i v H2 λH3=>Q σ H3
theorem kJ{o i:Expr}{to ti:TE}{t:uG}(ho:PE X o to)(hi:PE X i ti)(hs:Bh X t)
 (ha:∀v,assign (.Subscript o i pos) X.env v=(do
   let ov <- holding [v] (eval o X.env)
   let iv <- holding [v,ov] (eval i X.env)
   standAt pos
   holding [v,ov,iv] (setItem ov iv v)
   release [v,ov,iv] []):=by intro _;rfl):PG X (.Subscript o i pos) (Io to ti t):=by
 intro pins s σ H v u Q I r h;rw[ha];refine wpAny_bind (wpAny_holding (thn (ho pins s σ H _ I h) λov s1 ⟨x,H1,I1,r1,q1⟩=>?_));refine wpAny_bind (wpAny_holding (thn (hi pins s1 σ H1 _ I1 q1) λiv s2 ⟨y,H2,I2,r2,q2⟩=>?_));refine wpAny_bind (wpAny_standAt (wpAny_bind (wpAny_holding (thn (hs pins s2 σ H2 x y v ov iv u _ I2 r1 r2 r q2) λ_ s3 ⟨H3,I3,q3⟩=>?_))));exact wpAny_release ⟨σ,H3,I3,q3⟩
def fY(te:TE)(g:TG):TS:=λD σ H=>te σ H λx H1=>g x σ H1 D.nx
theorem eT{tg e:Expr}{te:TE}{g:TG}(he:PE X e te)(hg:PG X tg g)(hs:swapsWithSole [tg] e pos.line X.env=pure false:=by rfl)(hw:swappedStores [tg] e X.env=pure none:=by rfl)
 (h1:(assignEach [tg] X.env).map (·.2)=[assign tg X.env]:=by rfl):PS X (.Assign [tg] e pos) (fY te g):=by
 intro pins s σ H D I h;refine wpAny_Assign_stores (thn (he pins s σ H _ I h) λv s1 ⟨x,H1,I1,r1,q1⟩=>?_) hs hw;rw[h1];exact thn (hg pins s1 σ H1 x v _ I1 r1 q1) λ_ s2 q=>q
theorem El{i:Nat}{x:Str}{e:Expr}{te:TE}{pos':Pos}(hN:X.N.Nodup)(hi:X.N[i]?=some x)(hx:Loc X.env.scope x)(he:PE X e te)(hs:swapsWith e (some (.Name x pos')) pos.line X.env=pure false:=by rfl)(hf:X.fn x=true\/X.env.scope.names.lookup x=some .local:=by first |exact .inl rfl |exact .inr rfl |assumption) :
 PS X (.Assign [.Name x pos'] e pos) (fY te (eh i)):=by
 intro pins s σ H D I h;refine wpAny_Assign_Name (thn (he pins s σ H _ I h) λv s1 ⟨y,H1,I1,r1,q1⟩=>?_) hs;exact oJ I1 hN hi hx r1 (λs2 I2=>⟨_,H1,I2,q1⟩) hf
end
section
variable {X:Cx}{pos:Pos}
def B9(c:TT)(tb:TS):TS:=λD σ H=>∃W:Nat->St->Hp->Prop,(∃m,W m σ H)/\∀m σ H,W m σ H ->
 c σ H λb H1=>if b=true then ∃N:St->Hp->Prop,(∀σ' H',N σ' H'->∃m',m'<m/\W m' σ' H')/\tb { D with nx:=N,ct:=N,bk:=D.nx } σ H1 else D.nx σ H1
theorem eR{c:Expr}{body:List Stmt}{tc:TT}{tb:TS}(hp:PassesOwn (model X.prog X.w) X.A X.env X.xe)(hc:PT X c tc)(hb:PSs X body tb):PS X (.While c body [] pos) (B9 tc tb):=by
 intro pins s σ H D I h;obtain⟨W,⟨m0,w0⟩,turn⟩:=h;refine wpAny_While (codeAny_whileLoop (λn s'=>∃σ' H',Inv X pins σ' H' s'/\W n σ' H') ?_ m0 ⟨σ,H,I,w0⟩);rintro n s1 ⟨σ1,H1,I1,w1⟩;refine wpAny_passesOwn hp (thn (hc pins s1 σ1 H1 _ I1 (turn n σ1 H1 w1)) λb s2 ⟨H2,I2,q2⟩=>?_);cases b with
 |true =>
  obtain⟨N,hN,q2⟩:=q2;rw[if_pos rfl];refine wpAny_passesOwn hp (thn (hb pins s2 σ1 H2 _ I2 q2) λf s3 q3=>?_);cases f with
  |next =>obtain⟨σ3,H3,I3,n3⟩:=q3;obtain⟨m',hm,w3⟩:=hN σ3 H3 n3;exact⟨m',hm,σ3,H3,I3,w3⟩
  |cont =>obtain⟨σ3,H3,I3,n3⟩:=q3;obtain⟨m',hm,w3⟩:=hN σ3 H3 n3;exact⟨m',hm,σ3,H3,I3,w3⟩
  |brk=>exact q3
  |ret v=>exact q3
 |false =>rw[if_neg N8];exact wpAny_execs_nil ⟨σ1,H2,I2,q2⟩
end
structure It where
 go:Nat->Hp->Prop
 yld:Nat->Hp->V->Hp->Prop
 stop:Nat->Hp->Prop
noncomputable def fT(X:Cx)(pins:List (Addr×Obj))(H:Hp)(b:Addr):Prop :=
 H b=none/\b≠X.env.locals/\b∉X.fs/\(b∈X.ex\/X.s₀.heap.objs.size<=b)/\(∀x c,X.env.cells.lookup x=some c->c≠b)/\∀p∈X.pn++pins,p.1≠b
theorem Inv.fpOk{X:Cx}{pins:List (Addr×Obj)}{σ:St}{H H':Hp}{s:Shared}{b:Addr}(I:Inv X pins σ H s)(hb:s.heap.objs.size<=b)(hn:H' b=none):fT X pins H' b:=by
 refine⟨hn,Nat.ne_of_gt (Nd I.lt hb),I.nofs hb,.inr (MV I.sz hb),λx c e z=>?_,λp hp z=>?_⟩
 ·obtain⟨v,q⟩:=I.cell x c e;exact absurd (Nd q.lt (by rw[z];exact hb)) (NC _)
 ·exact absurd (Nd (Heap.lt_size (I.pin p hp).1) (by rw[z];exact hb)) (NC _)
structure Turn(P:Program)(w:World)(K:PySem.W.Frag)(tg:Expr)(J:It)(fp:List Addr)(it:Addr)(tn:Nat->Heap->Prop):Prop where
 mem:it∈fp
 obj:∀i h,tn i h->∀b∈fp,∃o,h.get? b=some o/\∀v,o.data≠.cell v
 keep:∀i h h',tn i h->(∀b∈fp,∀o,h.get? b=some o->h'.get? b=some o)->tn i h'
 item:∀(X:Cx),X.prog=P->X.w=w->X.K=K->X.calm=true->∀(i:Nat) (pins:List (Addr×Obj)) (s:Shared) (σ:St) (H:Hp) (E:Value->Shared->Prop),Inv X pins σ H s->(∀b∈fp,fT X pins H b)->tn i s.heap->J.go i H ->
  wpAny (model P w) X.A (pyNext (.ref it)) (λr s1=>∃u,r=some u /\
   wpAny (model P w) X.A (letOwnedTupleGo tg (.ref it) u) (λ_ s2=>∃x H',Inv X pins σ H' s2/\RelV x u/\J.yld i H x H'/\tn (i+1) s2.heap/\∀b∈fp,H' b=none) E s1) E s
 done:∀(X:Cx),X.prog=P->X.w=w->X.K=K->X.calm=true->∀(i:Nat) (pins:List (Addr×Obj)) (s:Shared) (σ:St) (H:Hp) (E:Value->Shared->Prop),Inv X pins σ H s->(∀b∈fp,fT X pins H b)->tn i s.heap->J.stop i H ->
  wpAny (model P w) X.A (pyNext (.ref it)) (λr s1=>r=none/\Inv X pins σ H s1) E s
 self:∀(A:Around) (i:Nat) (s:Shared) (Q:Value->Shared->Prop) (E:Value->Shared->Prop),tn i s.heap->Q (.ref it) s->wpAny (model P w) A (pyIter (.ref it)) Q E s
abbrev TI:=St->Hp->(It->Hp->Prop)->Prop
noncomputable def PIE(X:Cx)(pins:List (Addr×Obj))(σ:St)(tg:Expr)(R:It->Hp->Prop)(itv:Value)(s2:Shared):Prop :=
 ∃(it:Addr) (fp:List Addr) (tn:Nat->Heap->Prop) (J:It) (H':Hp),itv=.ref it/\Inv X pins σ H' s2/\Turn X.prog X.w X.K tg J fp it tn/\tn 0 s2.heap/\(∀b∈fp,fT X pins H' b)/\R J H'
noncomputable def PI(X:Cx)(tg iter:Expr)(wi:TI):Prop :=
 ∀(pins:List (Addr×Obj)) (s:Shared) (σ:St) (H:Hp) (R:It->Hp->Prop),Inv X pins σ H s->wi σ H R ->
  wpAny (model X.prog X.w) X.A (eval iter X.env) (λv s1=>wpAny (model X.prog X.w) X.A (pyIter v) (PIE X pins σ tg R) X.xe s1) X.xe s
theorem k8{M:Model}{A:Around}{E:Value->Shared->Prop}{s:Shared}{tg:Expr}{it:Addr}{u:Value}{o:Obj}{n:String}{vs:Array Value}{Q:Unit->Shared->Prop}(ho:s.heap.get? it=some o)(hc:o.cls=.type n)(hd:o.data=.fields vs)
 (hn:["enumerate","zip","dict_itemiterator","dict_reverseitemiterator","odict_iterator","itertools.zip_longest","itertools.pairwise"].contains n=false) (hQ:Q () s):wpAny M A (letOwnedTupleGo tg (.ref it) u) Q E s:=by
 unfold letOwnedTupleGo
 cases tg<;>first
  |exact wpAny_pure hQ
  | (cases u<;>first
      |exact wpAny_pure hQ
      | (refine wpAny_bind (wpAny_load ho ?_)
         rw[hc,hd];show wpAny M A (if(["enumerate","zip","dict_itemiterator","dict_reverseitemiterator","odict_iterator","itertools.zip_longest","itertools.pairwise"].contains n&&vs[0]? == some (rawInt _))=true then _ else _) Q E s;rw[if_neg (by intro h;rw[hn,Bool.false_and]at h;cases h)]
         exact wpAny_pure hQ))
noncomputable def Itl(K:PySem.W.Frag)(a:Addr):It :=
 ⟨λi H=>∃xs x,SqL K H a xs/\xs[i]?=some x,λi H x H'=>H'=H/\∀xs,SqL K H a xs->xs[i]?=some x,λi H=>∃xs,SqL K H a xs/\xs.length<=i⟩
noncomputable def Itt(K:PySem.W.Frag)(a:Addr):It :=
 ⟨λi H=>∃xs x,SqT K H a xs/\xs[i]?=some x,λi H x H'=>H'=H/\∀xs,SqT K H a xs->xs[i]?=some x,λi H=>∃xs,SqT K H a xs/\xs.length<=i⟩
noncomputable def Itr(lo:Int)(n:Nat):It:=⟨λi _=>i<n,λi H x H'=>H'=H/\x=.int (lo+i),λi _=>n<=i⟩
theorem BM{P:Program}{w:World}{K:PySem.W.Frag}{tg:Expr}(a it:Addr):Turn P w K tg (Itl K a) [it] it (λi h=>h.IsListIter it a i) where
 mem:=by simp
 obj:=λi h st b hb=>by
  have e:b=it:=by simpa using hb
  subst e;obtain⟨o,e,c,d⟩:=st;exact⟨o,e,λv z=>by rw[d]at z;cases z⟩
 keep:=λi h h' st k=>st.at λo e=>k it (by simp) o e
 item:=by
  intro X hP hw hK hc i pins s σ H E I hf st hg;subst hP hw hK;obtain⟨xs,x,hq,hx⟩:=hg;obtain⟨its,rv,p,hz⟩:=I.list hq;obtain⟨u,hu,ru⟩:=rv.get hx;obtain⟨f0,f1,f2,f3,f4,f5⟩:=hf it (by simp);refine wpAny_pyNext_list_item st p.isList (x:=u) (by simpa using hu) λh' st' sb=>?_
  have I1:Inv X pins σ H { s with heap:=h' }:=I.turned (t':=s.toks) (λb o hb e=>(sb.2 b hb).trans e) f0 f1 f3 f4 f5;obtain⟨o,e,c,d⟩:=id st';exact⟨u,rfl,k8 (s:={ s with heap:=h' }) e c d (by decide) ⟨x,H,I1,ru,⟨rfl,λys hy=>by rw[I.list_inj hy hq];exact hx⟩,st',λb hb=>(hf b hb).1⟩⟩
 done:=by intro X hP hw hK hc i pins s σ H E I hf st hg;subst hP hw hK;obtain⟨xs,hq,hx⟩:=hg;obtain⟨its,rv,p,hz⟩:=I.list hq;obtain⟨f0,f1,f2,f3,f4,f5⟩:=hf it (by simp);have hl:=rv.length;exact wpAny_pyNext_list_end (I.ok.hd hc) st p.isList (by simp;omega) λh' eb=>⟨rfl,I.turned (t':=s.toks) (λb o hb e=>eb b o hb e) f0 f1 f3 f4 f5⟩
 self:=λ_ _ _ _ _ st h=>wpAny_pyIter_listiter st h
theorem BI{P:Program}{w:World}{K:PySem.W.Frag}{tg:Expr}(a it:Addr):Turn P w K tg (Itt K a) [it] it (λi h=>h.IsTupleIter it a i) where
 mem:=by simp
 obj:=λi h st b hb=>by
  have e:b=it:=by simpa using hb
  subst e;obtain⟨o,e,c,d⟩:=st;exact⟨o,e,λv z=>by rw[d]at z;cases z⟩
 keep:=λi h h' st k=>st.at λo e=>k it (by simp) o e
 item:=by
  intro X hP hw hK hc i pins s σ H E I hf st hg;subst hP hw hK;obtain⟨xs,x,hq,hx⟩:=hg;obtain⟨its,rv,p,hz⟩:=I.tuple hq;obtain⟨u,hu,ru⟩:=rv.get hx;obtain⟨f0,f1,f2,f3,f4,f5⟩:=hf it (by simp);refine wpAny_pyNext_tuple_item st (show s.heap.IsTuple a its.toArray from p) (x:=u) (by simpa using hu) λh' st' sb=>?_
  have I1:Inv X pins σ H { s with heap:=h' }:=I.turned (t':=s.toks) (λb o hb e=>(sb.2 b hb).trans e) f0 f1 f3 f4 f5;obtain⟨o,e,c,d⟩:=id st';exact⟨u,rfl,k8 (s:={ s with heap:=h' }) e c d (by decide) ⟨x,H,I1,ru,⟨rfl,λys hy=>by rw[I.tuple_inj hy hq];exact hx⟩,st',λb hb=>(hf b hb).1⟩⟩
 done:=by intro X hP hw hK hc i pins s σ H E I hf st hg;subst hP hw hK;obtain⟨xs,hq,hx⟩:=hg;obtain⟨its,rv,p,hz⟩:=I.tuple hq;obtain⟨f0,f1,f2,f3,f4,f5⟩:=hf it (by simp);have hl:=rv.length;exact wpAny_pyNext_tuple_end (I.ok.hd hc) st (show s.heap.IsTuple a its.toArray from p) (by simp;omega) λh' eb=>⟨rfl,I.turned (t':=s.toks) (λb o hb e=>eb b o hb e) f0 f1 f3 f4 f5⟩
 self:=λ_ _ _ _ _ st h=>wpAny_pyIter_tupleiter st h
theorem BL{P:Program}{w:World}{K:PySem.W.Frag}{tg:Expr}(it:Addr)(lo:Int)(n:Nat):Turn P w K tg (Itr lo n) [it] it (λi h=>IsRangeIter h it (lo+(i:Nat)*1) ((n:Int)-(i:Nat)) 1) where
 mem:=by simp
 obj:=λi h st b hb=>by
  have e:b=it:=by simpa using hb
  subst e
  exact⟨_,st,λv z=>by
   have z':Data.fields _=Data.cell v:=z
   cases z'⟩
 keep:=λi h h' st k=>k it (by simp) _ st
 item:=by
  intro X hP hw hK hc i pins s σ H E I hf st hg;subst hP hw hK;obtain⟨f0,f1,f2,f3,f4,f5⟩:=hf it (by simp);have W:=Walks.range (prog:=X.prog) (w:=X.w) (I.ok.hd hc) it lo 1 n;refine W.item i s _ _ hg st λv h' tk hv st' kk=>?_
  obtain⟨t,rfl⟩:=hv;have I1:Inv X pins σ H { s with heap:=h',toks:=tk }:=I.turned (λb o hb e=>kk b o (by simpa using hb) e) f0 f1 f3 f4 f5;refine⟨_,rfl,k8 (s:={ s with heap:=h',toks:=tk }) (n:="range_iterator") st' rfl rfl (by decide) ⟨.int (lo+i),H,I1,⟨t,?_⟩,⟨rfl,rfl⟩,st',λb hb=>(hf b hb).1⟩⟩;rw[Nt]
 done:=by intro X hP hw hK hc i pins s σ H E I hf st hg;subst hP hw hK;obtain⟨f0,f1,f2,f3,f4,f5⟩:=hf it (by simp);exact wpAny_pyNext_range_end (I.ok.hd hc) st (by have:n<=i:=hg;omega) λh' eb=>⟨rfl,I.turned (t':=s.toks) (λb o hb e=>eb b o hb e) f0 f1 f3 f4 f5⟩
 self:=λ_ _ _ _ _ st h=>wpAny_pyIter_rangeiter st h
section
variable {X:Cx}{tg:Expr}
def zA(K:PySem.W.Frag)(tl:TE):TI:=λσ H R=>tl σ H λx H1=>∃a,x=.ref a/\(∃xs,SqL K H1 a xs)/\R (Itl K a) H1
def zz(K:PySem.W.Frag)(tl:TE):TI:=λσ H R=>tl σ H λx H1=>∃a,x=.ref a/\(∃xs,SqT K H1 a xs)/\R (Itt K a) H1
theorem EE{l:Expr}{tl:TE}(hl:PE X l tl):PI X tg l (zA X.K tl):=by
 intro pins s σ H R I h;refine thn (hl pins s σ H _ I h) λv s1 ⟨x,H1,I1,r1,q1⟩=>?_
 obtain⟨a,e,⟨xs,hq⟩,q⟩:=q1;subst e;cases r1;obtain⟨its,rv,p,hz⟩:=I1.list hq;refine wpAny_pyIter_list p.isList ?_;refine⟨s1.heap.objs.size,[s1.heap.objs.size],_,_,H1,rfl,I1.kept (t':=s1.toks) λb o e=>Heap.get?_push_of_some _ e,BM a _,⟨_,Heap.get?_push_size _ rfl,rfl,rfl⟩,λb hb=>?_,q⟩;have e:b=s1.heap.objs.size:=by simpa using hb
 subst e;exact I1.fpOk (MJ _) (I1.hok.fresh (MJ _))
theorem EC{l:Expr}{tl:TE}(hl:PE X l tl):PI X tg l (zz X.K tl):=by
 intro pins s σ H R I h;refine thn (hl pins s σ H _ I h) λv s1 ⟨x,H1,I1,r1,q1⟩=>?_
 obtain⟨a,e,⟨xs,hq⟩,q⟩:=q1;subst e;cases r1;obtain⟨its,rv,p,hz⟩:=I1.tuple hq;refine wpAny_pyIter_tuple (show s1.heap.IsTuple a its.toArray from p) ?_;refine⟨s1.heap.objs.size,[s1.heap.objs.size],_,_,H1,rfl,I1.kept (t':=s1.toks) λb o e=>Heap.get?_push_of_some _ e,BI a _,⟨_,Heap.get?_push_size _ rfl,rfl,rfl⟩,λb hb=>?_,q⟩;have e:b=s1.heap.objs.size:=by simpa using hb
 subst e;exact I1.fpOk (MJ _) (I1.hok.fresh (MJ _))
theorem xT{pins:List (Addr×Obj)}{σ:St}{H:Hp}{s:Shared}{R:It->Hp->Prop}{E:Value->Shared->Prop}{lo hi:Int}{t u v:Tok}{tk:Nat}(I:Inv X pins σ H s)(h1 : -(2^62)<=lo)(h2:lo<2^62)(h3 : -(2^62)<=hi)(h4:hi<2^62)
 (q:R (Itr lo (hi-lo).toNat) H):wpAny (model X.prog X.w) X.A (pyIter (.ref s.heap.objs.size)) (PIE X pins σ tg R) E { s with heap:=s.heap.push { cls:=.type "range",data:=.fields #[.int lo t,.int hi u,.int 1 v] },toks:=tk }:=by
 refine wpAny_pyIter_range (IsRange.new ..) (small_one h1 h2 h3 h4) ?_;have I1:Inv X pins σ H { s with heap:=s.heap.push { cls:=.type "range",data:=.fields #[.int lo t,.int hi u,.int 1 v] },toks:=tk }:=I.kept λb o e=>Heap.get?_push_of_some _ e
 refine⟨(s.heap.push { cls:=.type "range",data:=.fields #[.int lo t,.int hi u,.int 1 v] }).objs.size,[(s.heap.push { cls:=.type "range",data:=.fields #[.int lo t,.int hi u,.int 1 v] }).objs.size],_,_,H,rfl,
  I1.kept (t':=tk) λb o e=>Heap.get?_push_of_some _ e,BL _ lo (hi-lo).toNat,?_,λb hb=>?_,q⟩
 ·have e1:lo+((0:Nat):Int)*1=lo:=by simp
  have e2:(((hi-lo).toNat:Nat):Int)-((0:Nat):Int)=Builtin.Range.rangeSize lo hi 1:=by rw[rangeSize_one];split<;>omega
  show IsRangeIter _ _ (lo+((0:Nat):Int)*1) ((((hi-lo).toNat:Nat):Int)-((0:Nat):Int)) 1;rw[e1,e2];exact Heap.get?_push_size _ rfl
 ·have e:b=(s.heap.push { cls:=.type "range",data:=.fields #[.int lo t,.int hi u,.int 1 v] }).objs.size:=by simpa using hb
  subst e;exact I1.fpOk (MJ _) (I1.hok.fresh (MJ _))
def HM(ta:TA):TI:=λσ H R=>ta σ H λvs H1=>∃j:Int,vs=[.int j] /\ -(2^62)<=j/\j<2^62/\R (Itr 0 j.toNat) H1
def HL(ta:TA):TI:=λσ H R=>ta σ H λvs H1=>∃i j:Int,vs=[.int i,.int j]/\(-(2^62)<=i/\i<2^62 /\ -(2^62)<=j/\j<2^62)/\R (Itr i (j-i).toNat) H1
theorem g6{a:Expr}{ta:TA}{p pos:Pos}(hg:Gl X "range")(hm:X.mg "range"=none)(ha:PA X [a] ta)(hs:starEach [a] X.env=[(false,eval a X.env)]:=by rfl):PI X tg (.Call (.Name "range" p) [a] [] pos) (HM ta):=by
 intro pins s σ H R I h;refine Call_ (gE I hg hm boot_range (PyProof.Rows.callWith_type1 (thn (ha pos pins s σ H _ I h) λus s1 ⟨vs,H1,I1,r1,q1⟩=>?_) hs rfl));obtain⟨j,e,q1,q2,q⟩:=q1;subst e;cases r1 with
 |cons r rr =>cases rr;obtain⟨t,rfl⟩:=r;exact call_range_1 (xT I1 (by omega) (by omega) q1 q2 (by simpa using q))
theorem ED{a b:Expr}{ta:TA}{p pos:Pos}(hg:Gl X "range")(hm:X.mg "range"=none)(ha:PA X [a,b] ta)(hs:starEach [a,b] X.env=[(false,eval a X.env),(false,eval b X.env)]:=by rfl)(hs2:starEach [b] X.env=[(false,eval b X.env)]:=by rfl) :
 PI X tg (.Call (.Name "range" p) [a,b] [] pos) (HL ta):=by
 intro pins s σ H R I h;refine Call_ (gE I hg hm boot_range (PyProof.Rows.callWith_type1 (thn (ha pos pins s σ H _ I h) λus s1 ⟨vs,H1,I1,r1,q1⟩=>?_) (by rw[hs,hs2]) (by rw[hs2];rfl)));obtain⟨i,j,e,⟨q1,q2,q3,q4⟩,q⟩:=q1;subst e;cases r1 with
 |cons r rr =>
  cases rr with
  |cons r' rr =>cases rr;obtain⟨t,rfl⟩:=r;obtain⟨t',rfl⟩:=r';exact call_range_2 (xT I1 q1 q2 q3 q4 q)
def Ci(wi:TI)(g:TG)(tb:TS):TS:=λD σ H=>wi σ H λJ H1=>∃W:Nat->Nat->St->Hp->Prop,(∃m,W 0 m σ H1)/\∀i m σ H,W i m σ H ->
 (J.stop i H/\D.nx σ H)\/(J.go i H/\∃N:St->Hp->Prop,(∀σ' H',N σ' H'->∃m',m'<m/\W (i+1) m' σ' H')/\∀x H',J.yld i H x H'->g x σ H' λσ2 H2=>tb { D with nx:=N,ct:=N,bk:=D.nx } σ2 H2)
noncomputable def mU(fp:List Addr)(h:Heap):List (Addr×Obj):=fp.filterMap λb=>(h.get? b).map λo=>(b,o)
theorem nj{fp:List Addr}{h:Heap}{b:Addr}{o:Obj}(hb:b∈fp)(e:h.get? b=some o):(b,o)∈mU fp h:=List.mem_filterMap.mpr ⟨b,hb,by rw[e];rfl⟩
theorem Gs{fp:List Addr}{h:Heap}{p:Addr×Obj}(hp:p∈mU fp h):p.1∈fp/\h.get? p.1=some p.2:=by
 obtain⟨b,hb,e⟩:=List.mem_filterMap.mp hp;cases q:h.get? b with
 |none=>rw[q]at e;cases e
 |some o =>rw[q]at e;have e':(b,o)=p:=Option.some.inj e;subst e';exact⟨hb,q⟩
theorem Inv.pinned{pins:List (Addr×Obj)}{σ:St}{H:Hp}{s:Shared}{fp:List Addr}(I:Inv X pins σ H s)(hf:∀b∈fp,fT X pins H b)(ho:∀b∈fp,∃o,s.heap.get? b=some o/\∀v,o.data≠.cell v):Inv X (pins++mU fp s.heap) σ H s :=
 I.pins_of λp hp=>(Nb.mp hp).elim (λz=>I.pin p (Nq _ z)) λz=>by obtain⟨hb,e⟩:=Gs z;obtain⟨f0,f1,f2,_⟩:=hf p.1 hb;obtain⟨o,e',d⟩:=ho p.1 hb;rw[e]at e';cases e';exact⟨e,f0,f1,f2,d⟩
theorem Inv.unpinned{pins pl:List (Addr×Obj)}{σ:St}{H:Hp}{s:Shared}(I:Inv X (pins++pl) σ H s):Inv X pins σ H s:=I.pins_of λp hp=>I.pin p (Nq _ (NI _ hp))
theorem cw{iter:Expr}{body:List Stmt}{wi:TI}{g:TG}{tb:TS}{pos:Pos}(hp:PassesOwn (model X.prog X.w) X.A X.env X.xe)(hc:X.calm=true)(hi:PI X tg iter wi)(hg:PG X tg g)(hb:PSs X body tb)
 (hs:∀x,foldedSetIterable iter X.env x=pure x:=by intro _;rfl):PS X (.For tg iter body [] pos) (Ci wi g tb):=by
 intro pins s σ H D I h;refine wpAny_For (thn (hi pins s σ H _ I h) λv s1 h1=>thn h1 λitv s2 h2=>?_) hs;obtain⟨it,fp,tn,J,H2,e,I2,T,st2,f2,W,⟨m0,w0⟩,turn⟩:=h2;subst e;have stat:∀{H':Hp},(∀b∈fp,H' b=none)->∀b∈fp,fT X pins H' b:=λhn b hb=>⟨hn b hb,(f2 b hb).2⟩
 refine codeAny_forLoop_any (λn s'=>∃i σ' H',Inv X pins σ' H' s'/\tn i s'.heap/\(∀b∈fp,H' b=none)/\W i n σ' H') ?_ m0 ⟨0,σ,H2,I2,st2,λb hb=>(f2 b hb).1,w0⟩;rintro n s3 ⟨i,σ3,H3,I3,st3,fr3,w3⟩;rcases turn i n σ3 H3 w3 with⟨stop,qn⟩ |⟨go,N,hN,step⟩
 ·refine wpAny_passesOwn hp (thn (T.done X rfl rfl rfl hc i pins s3 σ3 H3 X.xe I3 (stat fr3) st3 stop) λr s4 ⟨hr,I4⟩=>?_);subst hr;exact wpAny_execs_nil ⟨σ3,H3,I4,qn⟩
 ·refine wpAny_passesOwn hp (thn (T.item X rfl rfl rfl hc i pins s3 σ3 H3 X.xe I3 (stat fr3) st3 go) λr s4 ⟨u,hr,h4⟩=>?_);subst hr;refine wpAny_passesOwn hp (thn h4 λ_ s5 ⟨x,H5,I5,r5,y5,st5,fr5⟩=>?_);have I5':=I5.pinned (stat fr5) (T.obj _ _ st5);refine wpAny_passesOwn hp (thn (hg _ s5 σ3 H5 x u _ I5' r5 (step x H5 y5)) λ_ s6 ⟨σ6,H6,I6,q6⟩=>?_);refine wpAny_passesOwn hp (thn (hb _ s6 σ6 H6 _ I6 q6) λf s7 q7=>?_)
  have again:∀{σ7:St} {H7:Hp},Inv X (pins++mU fp s5.heap) σ7 H7 s7->N σ7 H7->∃m,m<n/\∃i σ' H',Inv X pins σ' H' s7/\tn i s7.heap/\(∀b∈fp,H' b=none)/\W i m σ' H':=λ{σ7 H7} I7 n7=>by obtain⟨m',hm,w7⟩:=hN σ7 H7 n7;refine⟨m',hm,i+1,σ7,H7,I7.unpinned,T.keep _ _ _ st5 λb hb o e=>(I7.pin (b,o) (Nq _ (Nq _ (nj hb e)))).1,λb hb=>?_,w7⟩;obtain⟨o,e,d⟩:=T.obj _ _ st5 b hb;exact(I7.pin (b,o) (Nq _ (Nq _ (nj hb e)))).2.1
  cases f with
  |next=>obtain⟨σ7,H7,I7,n7⟩:=q7;exact again I7 n7
  |cont=>obtain⟨σ7,H7,I7,n7⟩:=q7;exact again I7 n7
  |brk=>obtain⟨σ7,H7,I7,q7⟩:=q7;exact⟨σ7,H7,I7.unpinned,q7⟩
  |ret v=>obtain⟨x7,σ7,H7,I7,r7,q7⟩:=q7;exact⟨x7,σ7,H7,I7.unpinned,r7,q7⟩
end
theorem iT{K:PySem.W.Frag}{a:Addr}{xs:List V}{g:TG}{tb:TS}{D:Ends}{σ:St}{H:Hp}(Pv:Nat->St->Hp->Prop)(h0:Pv 0 σ H)(hl:∀i σ H,i<=xs.length->Pv i σ H->SqL K H a xs)
 (hs:∀i x σ H,xs[i]?=some x->Pv i σ H->g x σ H λσ2 H2=>tb { D with nx:=Pv (i+1),ct:=Pv (i+1),bk:=D.nx } σ2 H2) (hd:∀σ H,Pv xs.length σ H->D.nx σ H) :
 ∃W:Nat->Nat->St->Hp->Prop,(∃m,W 0 m σ H)/\∀i m σ H,W i m σ H ->
  ((Itl K a).stop i H/\D.nx σ H)\/((Itl K a).go i H/\∃N:St->Hp->Prop,(∀σ' H',N σ' H'->∃m',m'<m/\W (i+1) m' σ' H')/\∀x H',(Itl K a).yld i H x H'->g x σ H' λσ2 H2=>tb { D with nx:=N,ct:=N,bk:=D.nx } σ2 H2):=by
 refine⟨λi m σ H=>m=xs.length-i/\i<=xs.length/\Pv i σ H,⟨xs.length,by simp,MQ _,h0⟩,?_⟩;rintro i m σ H ⟨rfl,hi,p⟩;have q:=hl i σ H hi p;by_cases hlt:i<xs.length
 ·refine .inr ⟨⟨xs,xs[i],q,by simp[hlt]⟩,Pv (i+1),λσ' H' p'=>⟨xs.length-(i+1),by omega,rfl,hlt,p'⟩,λx H' y=>?_⟩;obtain⟨e,y⟩:=y;subst e;exact hs i x σ _ (y xs q) p
 ·have e:i=xs.length:=by omega
  subst e;exact .inl ⟨⟨xs,q,MJ _⟩,hd σ H p⟩
theorem Iv{K:PySem.W.Frag}{a:Addr}{xs:List V}{g:TG}{tb:TS}{D:Ends}{σ:St}{H:Hp}(Pv:Nat->St->Hp->Prop)(h0:Pv 0 σ H)(hl:∀i σ H,i<=xs.length->Pv i σ H->SqT K H a xs)
 (hs:∀i x σ H,xs[i]?=some x->Pv i σ H->g x σ H λσ2 H2=>tb { D with nx:=Pv (i+1),ct:=Pv (i+1),bk:=D.nx } σ2 H2) (hd:∀σ H,Pv xs.length σ H->D.nx σ H) :
 ∃W:Nat->Nat->St->Hp->Prop,(∃m,W 0 m σ H)/\∀i m σ H,W i m σ H ->
  ((Itt K a).stop i H/\D.nx σ H)\/((Itt K a).go i H/\∃N:St->Hp->Prop,(∀σ' H',N σ' H'->∃m',m'<m/\W (i+1) m' σ' H')/\∀x H',(Itt K a).yld i H x H'->g x σ H' λσ2 H2=>tb { D with nx:=N,ct:=N,bk:=D.nx } σ2 H2):=by
 refine⟨λi m σ H=>m=xs.length-i/\i<=xs.length/\Pv i σ H,⟨xs.length,by simp,MQ _,h0⟩,?_⟩;rintro i m σ H ⟨rfl,hi,p⟩;have q:=hl i σ H hi p;by_cases hlt:i<xs.length
 ·refine .inr ⟨⟨xs,xs[i],q,by simp[hlt]⟩,Pv (i+1),λσ' H' p'=>⟨xs.length-(i+1),by omega,rfl,hlt,p'⟩,λx H' y=>?_⟩;obtain⟨e,y⟩:=y;subst e;exact hs i x σ _ (y xs q) p
 ·have e:i=xs.length:=by omega
  subst e;exact .inl ⟨⟨xs,q,MJ _⟩,hd σ H p⟩
theorem jJ{lo:Int}{n:Nat}{g:TG}{tb:TS}{D:Ends}{σ:St}{H:Hp}(Pv:Nat->St->Hp->Prop)(h0:Pv 0 σ H)
 (hs:∀i σ H,i<n->Pv i σ H->g (.int (lo+i)) σ H λσ2 H2=>tb { D with nx:=Pv (i+1),ct:=Pv (i+1),bk:=D.nx } σ2 H2) (hd:∀σ H,Pv n σ H->D.nx σ H) :
 ∃W:Nat->Nat->St->Hp->Prop,(∃m,W 0 m σ H)/\∀i m σ H,W i m σ H ->
  ((Itr lo n).stop i H/\D.nx σ H)\/((Itr lo n).go i H/\∃N:St->Hp->Prop,(∀σ' H',N σ' H'->∃m',m'<m/\W (i+1) m' σ' H')/\∀x H',(Itr lo n).yld i H x H'->g x σ H' λσ2 H2=>tb { D with nx:=N,ct:=N,bk:=D.nx } σ2 H2):=by
 refine⟨λi m σ H=>m=n-i/\i<=n/\Pv i σ H,⟨n,by simp,MQ _,h0⟩,?_⟩;rintro i m σ H ⟨rfl,hi,p⟩;by_cases hlt:i<n
 ·refine .inr ⟨hlt,Pv (i+1),λσ' H' p'=>⟨n-(i+1),by omega,rfl,hlt,p'⟩,λx H' y=>?_⟩;obtain⟨e,y⟩:=y;subst e y;exact hs i σ _ hlt p
 ·have e:i=n:=by omega
  subst e;exact .inl ⟨MJ _,hd σ H p⟩
abbrev R2:=V->V->Hp->VK->Prop
noncomputable def OpR(X:Cx)(f:Value->Value->Sem Value)(r:R2):Prop :=
 ∀(pins:List (Addr×Obj)) (s:Shared) (σ:St) (H:Hp) (x y:V) (v u:Value) (Q:VK),Inv X pins σ H s->RelV x v->RelV y u->r x y H Q ->
  wpAny (model X.prog X.w) X.A (f v u) (EP X pins σ Q) X.xe s
noncomputable def UnR(X:Cx)(f:Value->Sem Value)(r:V->Hp->VK->Prop):Prop :=
 ∀(pins:List (Addr×Obj)) (s:Shared) (σ:St) (H:Hp) (x:V) (v:Value) (Q:VK),Inv X pins σ H s->RelV x v->r x H Q ->
  wpAny (model X.prog X.w) X.A (f v) (EP X pins σ Q) X.xe s
noncomputable def CallR(X:Cx)(f:Value)(r:List V->Hp->VK->Prop):Prop :=
 ∀(pins:List (Addr×Obj)) (s:Shared) (σ:St) (H:Hp) (xs:List V) (us:List Value) (Q:VK),Inv X pins σ H s->Vals xs us->r xs H Q ->
  wpAny (model X.prog X.w) X.A (call f us) (EP X pins σ Q) X.xe s
noncomputable def Ke(X:Cx)(r:V->Hp->(Bool->Hp->Prop)->Prop):Prop :=
 ∀(pins:List (Addr×Obj)) (s:Shared) (σ:St) (H:Hp) (x:V) (v:Value) (Q:Bool->Hp->Prop),Inv X pins σ H s->RelV x v->r x H Q ->
  wpAny (model X.prog X.w) X.A (truthy v) (TP X pins σ Q) X.xe s
def tOp(r:R2)(ta tb:TE):TE:=λσ H Q=>ta σ H λx H1=>tb σ H1 λy H2=>r x y H2 Q
def tUn(r:V->Hp->VK->Prop)(ta:TE):TE:=λσ H Q=>ta σ H λx H1=>r x H1 Q
def rI(C:Int->Int->Prop)(g:Int->Int->V):R2:=λx y H Q=>∃i j,x=.int i/\y=.int j/\C i j/\Q (g i j) H
def rI0(g:Int->Int->V):R2:=λx y H Q=>∃i j,x=.int i/\y=.int j/\Q (g i j) H
noncomputable def rU(g:Int->V):V->Hp->VK->Prop:=λx H Q=>∃i,x=.int i/\Q (g i) H
section
variable {X:Cx}{a b c:Expr}{ta tb tc:TE}{pos:Pos}
theorem uw(ha:PE X a ta)(hb:PE X b tb){pins:List (Addr×Obj)}{s:Shared}{σ:St}{H:Hp}{R:V->V->Hp->Prop}(I:Inv X pins σ H s)
 (h:ta σ H λx H1=>tb σ H1 λy H2=>R x y H2) {Q:Value->Shared->Prop} {f:Value->Value->Sem Value}
 (hf:∀v u s2 x y H2,Inv X pins σ H2 s2->RelV x v->RelV y u->R x y H2->wpAny (model X.prog X.w) X.A (f v u) Q X.xe s2) :
 wpAny (model X.prog X.w) X.A (eval a X.env) (λv s₁=>wpAny (model X.prog X.w) X.A (eval b X.env) (λu s₂=>wpAny (model X.prog X.w) X.A (f v u) Q X.xe s₂) X.xe s₁) X.xe s:=by
 refine thn (ha pins s σ H _ I h) λv s1 ⟨x,H1,I1,r1,q1⟩=>?_
 refine thn (hb pins s1 σ H1 _ I1 q1) λu s2 ⟨y,H2,I2,r2,q2⟩=>?_
 exact hf v u s2 x y H2 I2 r1 r2 q2
theorem ai{op:Operator}{r:R2}(ho:OpR X (binaryOp op) r)(ha:PE X a ta)(hb:PE X b tb):PE X (.BinOp a op b pos) (tOp r ta tb):=by intro pins s σ H Q I h;exact wpAny_BinOp (uw ha hb I h λv u s2 x y H2 I2 rx ry q=>ho pins s2 σ H2 x y v u Q I2 rx ry q)
theorem bC{op:UnaryOp}{r:V->Hp->VK->Prop}(ho:UnR X (unaryOp op) r)(ha:PE X a ta):PE X (.UnaryOp op a pos) (tUn r ta):=by intro pins s σ H Q I h;exact UnaryOp_ (thn (ha pins s σ H _ I h) λv s1 ⟨x,H1,I1,r1,q1⟩=>ho pins s1 σ H1 x v Q I1 r1 q1)
theorem opI{f:Value->Value->Sem Value}{C:Int->Int->Prop}{g:Int->Int->Int}
 (rule:∀(i j:Int) (t u:Tok) (s:Shared) (Q:Value->Shared->Prop) (E:Value->Shared->Prop),C i j->Q (.int (g i j) s.toks) { s with toks:=s.toks+1 }->wpAny (model X.prog X.w) X.A (f (.int i t) (.int j u)) Q E s) :
 OpR X f (rI C λi j=>.int (g i j)):=by
 intro pins s σ H x y v u Q I rx ry h;obtain⟨i,j,rfl,rfl,hc,q⟩:=h;obtain⟨t,rfl⟩:=rx;obtain⟨t',rfl⟩:=ry;exact rule i j t t' s _ _ hc ⟨.int (g i j),H,I.tok _,⟨_,rfl⟩,q⟩
theorem yv{f:Value->Value->Sem Value}{g:Int->Int->Int}
 (rule:∀(i j:Int) (t u:Tok) (s:Shared) (Q:Value->Shared->Prop) (E:Value->Shared->Prop),Q (.int (g i j) s.toks) { s with toks:=s.toks+1 }->wpAny (model X.prog X.w) X.A (f (.int i t) (.int j u)) Q E s) :
 OpR X f (rI0 λi j=>.int (g i j)):=by
 intro pins s σ H x y v u Q I rx ry h;obtain⟨i,j,rfl,rfl,q⟩:=h;obtain⟨t,rfl⟩:=rx;obtain⟨t',rfl⟩:=ry;exact rule i j t t' s _ _ ⟨.int (g i j),H,I.tok _,⟨_,rfl⟩,q⟩
theorem jw{f:Value->Value->Sem Value}{g:Int->Int->Bool}
 (rule:∀(i j:Int) (t u:Tok) (s:Shared) (Q:Value->Shared->Prop) (E:Value->Shared->Prop),Q (.bool (g i j)) s->wpAny (model X.prog X.w) X.A (f (.int i t) (.int j u)) Q E s) :
 OpR X f (rI0 λi j=>.bl (g i j)):=by
 intro pins s σ H x y v u Q I rx ry h;obtain⟨i,j,rfl,rfl,q⟩:=h;obtain⟨t,rfl⟩:=rx;obtain⟨t',rfl⟩:=ry;exact rule i j t t' s _ _ ⟨.bl (g i j),H,I,rfl,q⟩
def KY(i j:Int):Prop:=0<=j/\j<=1000000/\i.natAbs<2^64
def CMul(i j:Int):Prop:=(-(2^64)<i/\i<2^64)\/(-(2^64)<j/\j<2^64)
theorem CMul.ok{i j:Int}(h:CMul i j):IntMulOk i j:=by
 rcases h with⟨h1,h2⟩ |⟨h1,h2⟩
 ·exact .of_left (intBits_le_64 h1 h2)
 ·exact .of_right (intBits_le_64 h1 h2)
theorem bH:OpR X (binaryOp .Add) (rI0 λi j=>.int (i+j)):=yv λ_ _ _ _ _ _ _ q=>add_int q
theorem bQ:OpR X (binaryOp .Sub) (rI0 λi j=>.int (i-j)):=yv λ_ _ _ _ _ _ _ q=>sub_int q
theorem EV:OpR X (binaryOp .Mod) (rI (λ_ j=>0<j) λi j=>.int (i%j)):=opI λi j _ _ _ _ _ hc q=>by have h1:(0:Int)<j:=hc;exact mod_int' (by omega) (by rw[Int.fmod_eq_emod_of_nonneg i (by omega)];exact q)
theorem mW:OpR X (binaryOp .Pow) (rI KY λi j=>.int (i^j.toNat)):=opI λ_ _ _ _ _ _ _ hc q=>pow_int_small hc.1 hc.2.1 hc.2.2 q
theorem unI{f:Value->Sem Value}{g:Int->Int}
 (rule:∀(i:Int) (t:Tok) (s:Shared) (Q:Value->Shared->Prop) (E:Value->Shared->Prop),Q (.int (g i) s.toks) { s with toks:=s.toks+1 }->wpAny (model X.prog X.w) X.A (f (.int i t)) Q E s) :
 UnR X f (rU λi=>.int (g i)):=by
 intro pins s σ H x v Q I rx h;obtain⟨i,rfl,q⟩:=h;obtain⟨t,rfl⟩:=rx;exact rule i t s _ _ ⟨.int (g i),H,I.tok _,⟨_,rfl⟩,q⟩
theorem bA:UnR X (unaryOp .USub) (rU λi=>.int (-i)):=unI λ_ _ _ _ _ q=>neg_int q
end
section
variable {X:Cx}{a b c:Expr}{ta tb tc:TE}{pos:Pos}
theorem cT:OpR X (compareOp .Lt) (rI0 λi j=>.bl (decide (i<j))):=jw λ_ _ _ _ _ _ _ q=>lt_int q
theorem rW:OpR X (compareOp .LtE) (rI0 λi j=>.bl (decide (i<=j))):=jw λ_ _ _ _ _ _ _ q=>le_int q
theorem cQ:OpR X (compareOp .Gt) (rI0 λi j=>.bl (decide (j<i))):=jw λ_ _ _ _ _ _ _ q=>gt_int q
theorem mX:OpR X (compareOp .GtE) (rI0 λi j=>.bl (decide (j<=i))):=jw λ_ _ _ _ _ _ _ q=>ge_int q
theorem OpR.or{f:Value->Value->Sem Value}{r r':R2}(h:OpR X f r)(h':OpR X f r'):OpR X f (λx y H Q=>r x y H Q\/r' x y H Q):=by
 intro pins s σ H x y v u Q I rx ry q;rcases q with q |q
 ·exact h pins s σ H x y v u Q I rx ry q
 ·exact h' pins s σ H x y v u Q I rx ry q
theorem yD(b:Expr){op:CmpOp}(h:op≠.In:=by decide)(h2:op≠.NotIn:=by decide):behindInMarks op b=false:=by
 have e1:(op == CmpOp.In)=false:=by cases op<;>first |rfl |exact absurd rfl h
 have e2:(op == CmpOp.NotIn)=false:=by cases op<;>first |rfl |exact absurd rfl h2
 cases b<;>simp[behindInMarks,e1,e2]
theorem EQ{op:CmpOp}{r:R2}(ho:OpR X (compareOp op) r)(ha:PE X a ta)(hb:PE X b tb)(hm:behindInMarks op b=false):PE X (.Compare a [op] [b] pos) (tOp r ta tb):=by intro pins s σ H Q I h;exact wpAny_Compare1 (uw ha hb I h λv u s2 x y H2 I2 rx ry q=>ho pins s2 σ H2 x y v u Q I2 rx ry q) hm
def vC(t:TE):TT:=λσ H Q=>t σ H λx H'=>∃k,x=.bl k/\Q k H'
theorem Eh{op:CmpOp}{r:R2}(ho:OpR X (compareOp op) r)(ha:PE X a ta)(hb:PE X b tb)(hm:behindInMarks op b=false):PT X (.Compare a [op] [b] pos) (vC (tOp r ta tb)):=by
 intro pins s σ H Q I h
 refine wpAny_isTrue_Compare1 (thn (ha pins s σ H _ I h) λv s1 ⟨x,H1,I1,r1,q1⟩=>thn (hb pins s1 σ H1 _ I1 q1) λu s2 ⟨y,H2,I2,r2,q2⟩ =>thn (ho pins s2 σ H2 x y v u _ I2 r1 r2 q2) λc s3 ⟨z,H3,I3,r3,k,e,q3⟩=>?_) hm
 subst e;cases r3;exact wpAny_truthy_bool ⟨H3,I3,q3⟩
noncomputable def Bf(K:PySem.W.Frag)(x:V)(H:Hp)(k:Bool):Prop :=
 match x with
 |.non=>k=false
 |.bl b=>k=b
 |.int i=>k=(i != 0)
 |.str y=>y.length<=sizeLine/\k=((y.length:Int) != 0)
 |.byt y=>y.size<=sizeLine/\k=((y.size:Int) != 0)
 |.ref p=>(∃xs,SqL K H p xs/\k=!xs.isEmpty)\/(∃xs,SqT K H p xs/\k=!xs.isEmpty)\/∃kvs,H p=some (.dK kvs)/\k=!kvs.isEmpty
 |_=>False
theorem HE{κ:Type}{kvs:List (κ×V)}{vs:List (κ×Value)}(r:KV kvs vs):(!vs.isEmpty)=!kvs.isEmpty:=by cases r<;>rfl
theorem zo{xs:List V}{its:List Value}(r:Vals xs its):(!its.toArray.isEmpty)=!xs.isEmpty:=by cases r<;>simp
theorem kT:(sizeLine:Nat)<2^63:=by rw[sizeLine_eq];decide
theorem BO:Ke X (λx H Q=>∃k,Bf X.K x H k/\Q k H):=by
 intro pins s σ H x v Q I rx h;obtain⟨k,e,q⟩:=h;have hl:=kT;have hs:sizeLine=16777216:=sizeLine_eq;cases x with
 |non =>cases rx;have e':k=false:=e;subst e';exact truthy_none ⟨H,I,q⟩
 |bl b =>cases rx;have e':k=b:=e;subst e';exact wpAny_truthy_bool ⟨H,I,q⟩
 |int i =>obtain⟨t,rfl⟩:=rx;have e':k=(i != 0):=e;subst e';exact PySem.P.truthy_int ⟨H,I,q⟩
 |str y =>obtain⟨t,rfl⟩:=rx;obtain⟨hy,e'⟩:y.length<=sizeLine/\k=((y.length:Int) != 0):=e;subst e';exact PySem.P.truthy_str (by omega) ⟨H,I.tok _,q⟩
 |byt y =>obtain⟨t,rfl⟩:=rx;obtain⟨hy,e'⟩:y.size<=sizeLine/\k=((y.size:Int) != 0):=e;subst e';exact PySem.W.truthy_bytes (by omega) ⟨H,I.tok _,q⟩
 |ref p =>
  cases rx;have e':(∃xs,SqL X.K H p xs/\k=!xs.isEmpty)\/(∃xs,SqT X.K H p xs/\k=!xs.isEmpty)\/∃kvs,H p=some (.dK kvs)/\k=!kvs.isEmpty:=e;rcases e' with⟨xs,hx,e'⟩ |⟨xs,hx,e'⟩ |⟨kvs,hx,e'⟩
  ·subst e';obtain⟨its,r,pl,hz⟩:=I.list hx;have hlen:=r.length;exact wpAny_truthy_list pl.isList (by simp only[Nc];omega) ⟨H,I.tok _,by rw[zo r];exact q⟩
  ·subst e';obtain⟨its,r,pl,hz⟩:=I.tuple hx;have hlen:=r.length;exact truthy_tuple pl (by simp only[Nc];omega) ⟨H,I.tok _,by rw[zo r];exact q⟩
  ·subst e';obtain⟨hz,hS,vs,r,m⟩:kvs.length<=sizeLine/\(p == sysModules)=false/\∃vs,KV kvs vs/\s.heap.DictOf (sv X.prog X.w) p vs:=I.hok p _ hx;have hlen:kvs.length=vs.length:=Paired.length r;exact wpAny_truthy_dict hS m (by omega) ⟨H,I.tok _,by rw[HE r];exact q⟩
 |_=>exact(show False from e).elim
theorem Eg(ha:PE X a ta)(he:∀whole,isTrue a X.env whole=(do let v <- whole;standAt a.pos;holding [v] (truthy v))) :
 PT X a (λσ H Q=>ta σ H λx H'=>∃k,Bf X.K x H' k/\Q k H'):=by
 intro pins s σ H Q I h;exact isTrue_plain (thn (ha pins s σ H _ I h) λv s1 ⟨x,H1,I1,r1,q1⟩=>BO pins s1 σ H1 x v Q I1 r1 q1) (he _)
theorem gR{x:V}{us:List Value}(r:Vals [x] us):∃u,us=[u]/\RelV x u:=by
 cases r with
 |cons r1 r2=>cases r2;exact⟨_,rfl,r1⟩
theorem BE{x y:V}{us:List Value}(r:Vals [x,y] us):∃u w',us=[u,w']/\RelV x u/\RelV y w':=by
 cases r with
 |cons r1 r2 =>
  cases r2 with
  |cons r3 r4=>cases r4;exact⟨_,_,rfl,r1,r3⟩
theorem ij:CallR X (.builtin "abs") (λxs H Q=>∃i,xs=[.int i]/\Q (.int (if i<0 then -i else i)) H):=by intro pins s σ H xs us Q I r h;obtain⟨i,rfl,q⟩:=h;obtain⟨u,rfl,t,rfl⟩:=gR r;exact call_abs_int λu tk=>⟨.int (if i<0 then -i else i),H,I.tok _,⟨_,rfl⟩,q⟩
theorem AR(hc:X.calm=true):CallR X (.builtin "max") (λxs H Q=>∃i j,xs=[.int i,.int j]/\Q (.int (if j>i then j else i)) H):=by
 intro pins s σ H xs us Q I r h;obtain⟨i,j,rfl,q⟩:=h;obtain⟨u,w',rfl,⟨t,rfl⟩,⟨t',rfl⟩⟩:=BE r;refine max_two_ints (I.ok.hd hc) λh' tk k=>⟨_,H,I.kept k,?_,q⟩
 by_cases hj:j>i
 ·rw[if_pos hj,if_pos hj];exact⟨_,rfl⟩
 ·rw[if_neg hj,if_neg hj];exact⟨_,rfl⟩
theorem oa:CallR X (.type "int") (λxs H Q=>(∃i,xs=[.int i]/\Q (.int i) H)\/∃k,xs=[.bl k]/\Q (.int (if k then 1 else 0)) H):=by
 intro pins s σ H xs us Q I r h;rcases h with⟨i,rfl,q⟩ |⟨k,rfl,q⟩
 ·obtain⟨u,rfl,t,rfl⟩:=gR r;exact call_int_int ⟨.int i,H,I,⟨_,rfl⟩,q⟩
 ·obtain⟨u,rfl,r1⟩:=gR r;cases r1;exact call_int_bool ⟨.int (if k then 1 else 0),H,I.tok _,⟨_,rfl⟩,q⟩
end
structure ObjM(h:Heap)(x dx C:Addr)(mA:Str->Option Value):Prop where
 obj:h.get? x=some (PySem.W.instObj C dx)
 ns:h.Ns1 dx mA
 ne:dx≠x
theorem zd{h:Heap}{dx:Addr}{mA:Str->Option Value}(n:h.Ns1 dx mA):∃od,h.get? dx=some od/\∀name,PySem.W.lookIn name od=some (mA name):=by
 obtain⟨o,es,ep,ho,hd,hk,_,hm⟩:=n;refine⟨o,ho,λname=>?_⟩;have e:=hm name;unfold nsFind findBy at e
 rw[<- Array.find?_toList]at e;unfold PySem.W.lookIn;rw[hd];dsimp only
 split
 ·rename_i y q
  rw[q]at e;exact congrArg some e
 ·rename_i q
  rw[q]at e
  have a:es.toList.any (·.refKey)=false:=by rw[List.any_eq_false];intro y hy;obtain⟨z,t,hkey⟩:=hk y (Array.mem_toList_iff.mp hy);simp[DictEntry.refKey,hkey]
  have a':¬es.toList.any (·.refKey)=true:=by rw[a];exact N8
  rw[if_neg a'];exact congrArg some e
theorem ObjM.look{h:Heap}{x dx C:Addr}{mA:Str->Option Value}(I:ObjM h x dx C mA):∃od,PySem.W.InstAt h x (PySem.W.instObj C dx) C (some od)/\∀name,PySem.W.lookIn name od=some (mA name) :=
 let⟨od,ho,hl⟩:=zd I.ns
 ⟨od,⟨I.obj,rfl,rfl,ho⟩,hl⟩
section
variable {prog:Program}{w:World}{A:Around}{E:Value->Shared->Prop}{s:Shared}{K:PySem.W.Frag}{x dx C f:Addr}{mA:Str->Option Value}{name:Str}{v:Value}
theorem Ih{expr:Bool}{Q:Value->Shared->Prop}(X:K.In s.heap)(I:ObjM s.heap x dx C mA)(hg:PySem.W.plainGet K C name=true)(hh:PySem.W.hasDictIn K C=true)
 (ha:PySem.W.findIn K (.ref C) name=some none) (hv:mA name=some v) (hv':PySem.W.handedIn v=true) (h:Q v { s with toks:=s.toks+1 }) :
 wpAny (model prog w) A (getAttr (.ref x) name expr) Q E s:=by
 obtain⟨od,J,hl⟩:=I.look;exact PySem.W.get_value X J (PySem.W.plainGet_of hg).1 (PySem.W.findObj_own hh ha rfl (by rw[hl,hv])) hv' h
theorem Ig{pl:Sem Bool}{Q:Value×List Value->Shared->Prop}(X:K.In s.heap)(I:ObjM s.heap x dx C mA)(hg:PySem.W.plainGet K C name=true)
 (hf:PySem.W.findIn K (.ref C) name=some (some (.ref f))) (ht:PySem.W.isFn K (.ref f)=true) (hv:mA name=none) (h:Q (.ref f,[.ref x]) s) :
 wpAny (model prog w) A (getMethod (.ref x) name pl) Q E s:=by
 obtain⟨od,J,hl⟩:=I.look;exact PySem.W.method_fn X J (PySem.W.plainGet_of hg).1 (PySem.W.plainGet_of hg).2 hf (beq_iff_eq.mp ht) (by show(PySem.W.lookIn name od).map (·.isSome)=some false;rw[hl,hv];rfl) h
theorem pH{ns:List Str}{Q:Unit->Shared->Prop}(X:K.In s.heap)(I:ObjM s.heap x dx C mA)
 (hs:PySem.W.findIn K (.ref C) "__setattr__"=some (some (.builtin "object.__setattr__"))) (hp:PySem.W.plainOver K C=true) (ht:PySem.W.takerIn K C name=some none) (hh:PySem.W.hasDictIn K C=true)
 (hw:PySem.Within mA ns) (hsz:ns.length<=sizeLine)
 (h:∀h',ObjM h' x dx C (λy=>if y=name then some v else mA y)->Heap.SameBut dx s.heap h'->Q () { s with heap:=h',toks:=s.toks+2 }) :
 wpAny (model prog w) A (setAttr (.ref x) name v) Q E s:=by
 obtain⟨od,J,hl⟩:=I.look;refine PySem.W.set_plain X J hs (PySem.W.osa_open (s:={ s with toks:=s.toks+1 }) (r:=none) X J hp ht λb=>?_);obtain⟨cd,hc,hd'⟩:=PySem.W.any_some hh;have hx:s.heap.get? x=some ⟨.ref C,some dx,.plain,#[]⟩:=I.obj;refine wpAny_bind (wpAny_pure (wpAny_bind (wpAny_bind (wpAny_loadPart hx (wpAny_bind (PySem.W.Looks.here (s:={ s with toks:=s.toks+1 }) (PySem.W.looks_clsIn X hc) ?_))))));rw[hd'];refine wpAny_pure (a:=some dx) (wpAny_bind (wpAny_pure (wpAny_bind ?_)));refine wpAny_nsSet1 (s:={ s with toks:=s.toks+1 }) I.ns λh' hn2 hs2=>?_
 obtain⟨oD,esD,epD,hoD,hdD,hcD⟩:=hn2.count (PySem.Within.cons name v hw);refine wpAny_bind (wpAny_lookBehind hoD (by rw[hdD];exact pastItsLine_dict (MV hcD (by rw[Nh];omega))) ?_);exact wpAny_pure (h _ ⟨(hs2.2 _ (Ne.symm I.ne)).trans I.obj,hn2,I.ne⟩ hs2)
theorem Hf{R:Result->Shared->Prop}{vs:List Value}{kw:List (Str×Value)}(X:K.In s.heap)(hm:PySem.W.makesIn K C=true)
 (hi:PySem.W.findIn K (.ref C) "__init__"=some (some (.ref f))) (hf:PySem.W.typeIn K (.ref f)=some (.type "function"))
 (h:codeAny (model prog w) (A.under (.builtin "type.__call__" ⟨.ref C::vs,kw⟩)) (.call (.ref f) ⟨.ref (s.heap.objs.size+1)::vs,kw⟩) (PySem.W.InitBack (s.heap.objs.size+1) R)
   { s with heap:=(s.heap.push PySem.W.emptyDict).push (PySem.W.instObj C s.heap.objs.size) }) :
 codeAny (model prog w) A (.call (.ref C) ⟨vs,kw⟩) R s:=by
 obtain⟨hh,g,d,t,os⟩:=s;exact PySem.W.make_core (PySem.W.makes_of X hm) (PySem.W.looks_findIn X hi) (λself=>PySem.W.bind_fn X self hf) (.inl rfl) h
end
noncomputable def cE(f:Str)(v:V):List (Str×V)->List (Str×V)
 | []=>[(f,v)]
 | (g,x)::r=>if g=f then(g,v)::r else(g,x)::cE f v r
theorem dL(f g:Str)(v:V):∀fs:List (Str×V),(cE f v fs).lookup g=if g=f then some v else fs.lookup g
 | []=>by
  show List.lookup g [(f,v)]=_;by_cases h:g=f
  ·have hb:(g == f)=true:=beq_iff_eq.mpr h;simp only[List.lookup,hb,if_pos h]
  ·have hb:(g == f)=false:=beq_eq_false_iff_ne.mpr h;simp only[List.lookup,hb,if_neg h]
 | (k,x)::r=>by
  have ih:=dL f g v r;rw[show cE f v ((k,x)::r)=(if k=f then(k,v)::r else(k,x)::cE f v r)from rfl];by_cases hk:k=f
  ·rw[if_pos hk];by_cases h:g=k
   ·have hb:(g == k)=true:=beq_iff_eq.mpr h;simp only[List.lookup,hb,if_pos (h.trans hk)]
   ·have hb:(g == k)=false:=beq_eq_false_iff_ne.mpr h;simp only[List.lookup,hb,if_neg (λe:g=f=>h (e.trans hk.symm))]
  ·rw[if_neg hk];by_cases h:g=k
   ·have hb:(g == k)=true:=beq_iff_eq.mpr h;simp only[List.lookup,hb,if_neg (λe:g=f=>hk (h.symm.trans e))]
   ·have hb:(g == k)=false:=beq_eq_false_iff_ne.mpr h;simp only[List.lookup,hb];exact ih
theorem sN(f:Str)(v:V):∀fs:List (Str×V),f∈(cE f v fs).map (·.1)/\∀g,g∈fs.map (·.1)->g∈(cE f v fs).map (·.1)
 | []=>⟨by simp[cE],λg h=>by simp at h⟩
 | (k,x)::r=>by
  obtain⟨i1,i2⟩:=sN f v r;rw[show cE f v ((k,x)::r)=(if k=f then(k,v)::r else(k,x)::cE f v r)from rfl];by_cases hk:k=f
  ·rw[if_pos hk];subst hk;exact⟨by simp,λg h=>by simpa using h⟩
  ·rw[if_neg hk];refine⟨?_,λg h=>?_⟩
   ·rw[Nw];exact MK _ i1
   ·rw[Nw]at h ⊢;rcases MM.mp h with e |e
    ·exact MM.mpr (.inl e)
    ·exact MK _ (i2 g e)
theorem zf(f:Str)(v:V):∀fs:List (Str×V),(cE f v fs).length<=fs.length+1
 | []=>by simp[cE]
 | (k,x)::r=>by
  have ih:=zf f v r;rw[show cE f v ((k,x)::r)=(if k=f then(k,v)::r else(k,x)::cE f v r)from rfl];by_cases hk:k=f
  ·rw[if_pos hk,Nh,Nh];omega
  ·rw[if_neg hk,Nh,Nh];omega
theorem RelO.some_of{v:V}{o:Option Value}(r:RelO (some v) o):∃u,o=some u/\RelV v u:=by
 cases o with
 |none=>exact(show False from r).elim
 |some u=>exact⟨u,rfl,r⟩
theorem RelO.none_of{o:Option Value}(r:RelO none o):o=none:=by
 cases o with
 |none=>rfl
 |some u=>exact(show False from r).elim
theorem zJ{v:V}{u:Value}(r:RelV v u):PySem.W.handedIn u=true:=by
 cases v with
 |non=>cases(show u=Value.none from r);rfl
 |bl b=>cases(show u=Value.bool b from r);rfl
 |int i=>obtain⟨t,e⟩:=(show ∃t,u=Value.int i t from r);cases e;rfl
 |str x=>obtain⟨t,e⟩:=(show ∃t,u=Value.str x t from r);cases e;rfl
 |byt b=>obtain⟨t,e⟩:=(show ∃t,u=Value.bytes b t from r);cases e;rfl
 |flt b=>obtain⟨t,e⟩:=(show ∃t,u=Value.float b t from r);cases e;rfl
 |ref a=>cases(show u=Value.ref a from r);rfl
 |ty n=>cases(show u=Value.type n from r);rfl
section
variable {P:Program}{w:World}{H H':Hp}{h h':Heap}{a C dx:Addr}{fs fs':List (Str×V)}
theorem nD(hok:HOk P w H h)(e:H a=some (.ins C dx fs)):∃mA,ObjM h a dx C mA/\(∀f,RelO (fs.lookup f) (mA f))/\PySem.Within mA (fs.map (·.1))/\fs.length<=1000/\H dx=some (.own a):=by obtain⟨d,z,ne,ob,mA,n,r,q⟩:=(show ObjOk P w H h a (.ins C dx fs)from hok a _ e);exact⟨mA,⟨ob,n,ne⟩,r,q,z,d⟩
end
structure Cls(K:PySem.W.Frag)(C:Addr):Prop where
 pg:PySem.W.plainGet K C Str.empty=true
 hd:PySem.W.hasDictIn K C=true
 po:PySem.W.plainOver K C=true
 sa:PySem.W.findIn K (.ref C) "__setattr__"=some (some (.builtin "object.__setattr__"))
theorem Cls.get{K:PySem.W.Frag}{C:Addr}(c:Cls K C)(f:Str):PySem.W.plainGet K C f=true:=c.pg
def NoAttr(K:PySem.W.Frag)(C:Addr)(f:Str):Prop:=PySem.W.findIn K (.ref C) f=some none
theorem NoAttr.taker{K:PySem.W.Frag}{C:Addr}{f:Str}(n:NoAttr K C f):PySem.W.takerIn K C f=some none:=by unfold PySem.W.takerIn;rw[show PySem.W.findIn K (.ref C) f=some none from n];rfl
structure Meth(K:PySem.W.Frag)(C:Addr)(m:Str)(f:Addr):Prop where
 at_:PySem.W.findIn K (.ref C) m=some (some (.ref f))
 fn:PySem.W.isFn K (.ref f)=true
 kp:PySem.W.keepIn K (.ref f)=true
section
variable {X:Cx}{pins:List (Addr×Obj)}{σ:St}{H:Hp}{s:Shared}{a C dx:Addr}{fs:List (Str×V)}{f:Str}{v:V}{A:Around}{E:Value->Shared->Prop}
theorem Ie{b:Bool}{Q:Value->Shared->Prop}(I:Inv X pins σ H s)(e:H a=some (.ins C dx fs))(c:Cls X.K C)(n:NoAttr X.K C f)(l:fs.lookup f=some v)
 (h:∀u s',Inv X pins σ H s'->RelV v u->Q u s'):wpAny (model X.prog X.w) A (getAttr (.ref a) f b) Q E s:=by
 obtain⟨mA,O,r,_,_,_⟩:=nD I.hok e;obtain⟨u,hu,ru⟩:=RelO.some_of (v:=v) (o:=mA f) (by rw[<- l];exact r f);exact Ih I.kIn O (c.get f) c.hd n hu (zJ ru) (h u _ (I.tok _) ru)
theorem zK{m:Str}{g:Addr}{pl:Sem Bool}{Q:Value×List Value->Shared->Prop}(I:Inv X pins σ H s)(e:H a=some (.ins C dx fs))(c:Cls X.K C)(k:Meth X.K C m g)(l:fs.lookup m=none)
 (h:Q (.ref g,[.ref a]) s):wpAny (model X.prog X.w) A (getMethod (.ref a) m pl) Q E s:=by
 obtain⟨mA,O,r,_,_,_⟩:=nD I.hok e;have hn:mA m=none:=RelO.none_of (by rw[<- l];exact r m);exact Ig I.kIn O (c.get m) k.at_ k.fn hn h
theorem CV{y:V}{u:Value}{Q:Unit->Shared->Prop}(I:Inv X pins σ H s)(e:H a=some (.ins C dx fs))(c:Cls X.K C)(n:NoAttr X.K C f)(hl:fs.length<1000)(ry:RelV y u)
 (h:∀s',Inv X pins σ (upd H a (.ins C dx (cE f y fs))) s'->Q () s'):wpAny (model X.prog X.w) A (setAttr (.ref a) f u) Q E s:=by
 obtain⟨mA,O,r,wi,_,ho⟩:=nD I.hok e;have hz:(fs.map (·.1)).length<=sizeLine:=by rw[MI,sizeLine_eq];omega
 refine pH I.kIn O c.sa c.po n.taker c.hd wi hz λh' O' sb=>h _ ?_
 have hd:∃o,h'.get? dx=some o:=let⟨o,_,_,e',_⟩:=O'.ns;⟨o,e'⟩;refine I.write (x:=a) (e:=dx) (by rw[e];exact True.intro) (.inr ho) (λb q hb z=>(sb.2 b hb).trans z) hd ?_;refine⟨by rw[upd_ne O.ne];exact ho,?_,O.ne,O'.obj,_,O'.ns,λg=>?_,λg hg=>?_⟩
 ·have:=zf f y fs;omega
 ·show RelO ((cE f y fs).lookup g) (if g=f then some u else mA g);rw[dL];by_cases q:g=f
  ·rw[if_pos q,if_pos q];exact ry
  ·rw[if_neg q,if_neg q];exact r g
 ·by_cases q:g=f
  ·rw[q];exact(sN f y fs).1
  ·refine(sN f y fs).2 g (wi g λz=>hg ?_);show(if g=f then some u else mA g)=none;rw[if_neg q];exact z
theorem Inv.made(I:Inv X pins σ H s):Inv X pins σ (upd (upd H s.heap.objs.size (.own (s.heap.objs.size+1))) (s.heap.objs.size+1) (.ins C s.heap.objs.size []))
 { s with heap:=(s.heap.push PySem.W.emptyDict).push (PySem.W.instObj C s.heap.objs.size) }:=by
 have e1:(s.heap.push PySem.W.emptyDict).get? s.heap.objs.size=some PySem.W.emptyDict:=Heap.get?_push_size s.heap rfl
 have e2:((s.heap.push PySem.W.emptyDict).push (PySem.W.instObj C s.heap.objs.size)).get? (s.heap.objs.size+1)=some (PySem.W.instObj C s.heap.objs.size):=by
  have:=Heap.get?_push_size (s.heap.push PySem.W.emptyDict) (o:=PySem.W.instObj C s.heap.objs.size) rfl
  rwa [Heap.size_push]at this
 have e3:(s.heap.push PySem.W.emptyDict).Ns s.heap.objs.size (λ_=>none):=⟨PySem.W.emptyDict,#[],_,e1,rfl,(λe he=>absurd he (by simp)),λ_=>rfl⟩;have I1:=I.laid (a:=s.heap.objs.size) (o:=.own (s.heap.objs.size+1)) (h':=s.heap.push PySem.W.emptyDict) (t':=s.toks) (λb u q=>Heap.get?_push_of_some _ q) (MJ _) ⟨_,e1⟩;refine I1.laid (a:=s.heap.objs.size+1) (o:=.ins C s.heap.objs.size []) (t':=s.toks) (λb u q=>Heap.get?_push_of_some _ q) (Oi (Heap.size_push _ _)) ?_;have ne:s.heap.objs.size≠s.heap.objs.size+1:=M7 (NY _);refine⟨by rw[upd_ne ne,ap],MQ _,ne,e2,λ_=>none,(Heap.Ns1.of_empty e3).at λo q=>Heap.get?_push_of_some _ q,λ_=>True.intro,λy hy=>absurd rfl hy⟩
theorem A4{prog:Program}{w:World}{env:Env}{e:Expr}{f:Str}{pos:Pos}{s:Shared}{Q:Value->Shared->Prop}(hb:attributeBase e f env (eval e env)=eval e env)
 (h:wpAny (model prog w) A (eval e env) (λo s₁=>wpAny (model prog w) A (getAttr o f true) Q E s₁) E s):wpAny (model prog w) A (eval (.Attribute e f pos) env) Q E s :=
 Attribute_any_ h (by rw[arm_eval_Attribute,hb])
end
def vI(K:PySem.W.Frag)(ta:TE)(f:Str):TE:=λσ H Q=>ta σ H λx H1=>∃a C dx fs v,x=.ref a/\H1 a=some (.ins C dx fs)/\Cls K C/\NoAttr K C f/\fs.lookup f=some v/\Q v H1
def Dy(K:PySem.W.Frag)(ta tv:TE)(f:Str):TS:=λD σ H=>tv σ H λy H1=>ta σ H1 λx H2=>∃a C dx fs,x=.ref a/\H2 a=some (.ins C dx fs)/\Cls K C/\NoAttr K C f/\fs.length<1000 /\
 D.nx σ (upd H2 a (.ins C dx (cE f y fs)))
section
variable {X:Cx}{o e value:Expr}{f:Str}{pos pos' tpos:Pos}{ta tv:TE}
theorem EO(he:PE X e ta)(hb:attributeBase e f X.env (eval e X.env)=eval e X.env):PE X (.Attribute e f pos) (vI X.K ta f):=by intro pins s σ H Q I h;refine A4 hb (thn (he pins s σ H _ I h) λu s1 ⟨x,H1,I1,rx,a,C,dx,fs,v,ex,ea,c,n,l,q⟩=>?_);subst ex;obtain rfl:u=Value.ref a:=rx;exact Ie I1 ea c n l λu' s2 I2 ru=>⟨v,H1,I2,ru,q⟩
theorem kE(ha:PE X o ta)(hv:PE X value tv)(hs:swapsWith value (some (.Attribute o f pos')) pos.line X.env=pure false):PS X (.Assign [.Attribute o f pos'] value pos) (Dy X.K ta tv f):=by intro pins s σ H D I h;refine plainObj_wpAny_Assign_Attribute (thn (hv pins s σ H _ I h) λu s1 ⟨y,H1,I1,ry,q⟩=>thn (ha pins s1 σ H1 _ I1 q) λov s2 ⟨x,H2,I2,rx,a,C,dx,fs,ex,ea,c,n,l,q2⟩=>?_) hs;subst ex;obtain rfl:ov=Value.ref a:=rx;exact CV I2 ea c n l ry λs3 I3=>⟨σ,_,I3,q2⟩
end
section
variable {X:Cx}{pins:List (Addr×Obj)}{σ:St}{H:Hp}{s:Shared}{A:Around}{E:Value->Shared->Prop}{Q:Value->Shared->Prop}{c:Value}{b:Bool}
inductive TyOf(K:PySem.W.Frag)(H:Hp):V->Value->Prop where
 |non:TyOf K H .non (.type "NoneType")
 |bl (x:Bool):TyOf K H (.bl x) (.type "bool")
 |int (i:Int):TyOf K H (.int i) (.type "int")
 |str (x:Str):TyOf K H (.str x) (.type "str")
 |flt (x:UInt64):TyOf K H (.flt x) (.type "float")
 |lst {a:Addr} {xs:List V} (e:H a=some (.lst xs)):TyOf K H (.ref a) (.type "list")
 |frz {a:Addr} {o:Obj} {xs:List V} (e:H a=some (.frz o (.lst xs))):TyOf K H (.ref a) (.type "list")
 |tup {a:Addr} {xs:List V} (e:H a=some (.tup xs)):TyOf K H (.ref a) (.type "tuple")
 |dK {a:Addr} {kvs:List (Key×V)} (e:H a=some (.dK kvs)):TyOf K H (.ref a) (.type "dict")
 |dT {a:Addr} {kvs:List (List Key×V)} (e:H a=some (.dT kvs)):TyOf K H (.ref a) (.type "dict")
 |ins {a C dx:Addr} {fs:List (Str×V)} (e:H a=some (.ins C dx fs)) (cl:Cls K C) (ha:PySem.W.findIn K (.ref C) "__class__"=some (some (.builtin "object.__class__")))
  (hn:PySem.W.specialIn K (.builtin "object.__class__") "__get__"=some (some (.builtin "getset_descriptor.__get__"))) (htk:PySem.W.takesIn K (.builtin "object.__class__")=some true)
  (hm:PySem.W.mroIn K C (.type "object")=some true):TyOf K H (.ref a) (.ref C)
theorem HD{x:V}{u t:Value}(I:Inv X pins σ H s)(rx:RelV x u)(ty:TyOf X.K H x t)(e:PySem.W.kitOne X.K t c=some b)(h:∀tk,Q (.bool b) { s with toks:=tk }) :
 wpAny (model X.prog X.w) A (call (.builtin "isinstance") [u,c]) Q E s:=by
 cases ty with
 |non=>cases(show u=Value.none from rx);exact PySem.W.kia_one PySem.W.kitx_none I.kIn True.intro e (λz=>nomatch z) h
 |bl y=>cases(show u=Value.bool y from rx);exact PySem.W.kia_one PySem.W.kitx_bool I.kIn True.intro e (λz=>nomatch z) h
 |int i=>obtain⟨t,q⟩:=(show ∃t,u=Value.int i t from rx);cases q;exact PySem.W.kia_one PySem.W.kitx_int I.kIn True.intro e (λz=>nomatch z) h
 |str y=>obtain⟨t,q⟩:=(show ∃t,u=Value.str y t from rx);cases q;exact PySem.W.kia_one PySem.W.kitx_str I.kIn True.intro e (λz=>nomatch z) h
 |flt y=>obtain⟨t,q⟩:=(show ∃t,u=Value.float y t from rx);cases q;exact PySem.W.kia_one PySem.W.kitx_float I.kIn True.intro e (λz=>nomatch z) h
 | @lst a xs ea =>cases(show u=Value.ref a from rx);obtain⟨_,_,n,_,h1⟩:=(show ObjOk X.prog X.w H s.heap a (.lst xs)from I.hok a _ ea);exact PySem.W.kia_one PySem.W.kitx_list I.kIn ⟨_,h1,rfl⟩ e (λz=>nomatch z) h
 | @frz a ob xs ea =>cases(show u=Value.ref a from rx);obtain⟨_,_,_,n,_,h1⟩:=(show ObjOk X.prog X.w H s.heap a (.frz ob (.lst xs))from I.hok a _ ea);exact PySem.W.kia_one PySem.W.kitx_list I.kIn ⟨_,h1,rfl⟩ e (λz=>nomatch z) h
 | @tup a xs ea =>cases(show u=Value.ref a from rx);obtain⟨_,_,_,p⟩:=(show ObjOk X.prog X.w H s.heap a (.tup xs)from I.hok a _ ea);obtain⟨o,h1,h2,_⟩:=p;exact PySem.W.kia_one PySem.W.kitx_tuple I.kIn ⟨o,h1,h2⟩ e (λz=>nomatch z) h
 | @dK a kvs ea =>cases(show u=Value.ref a from rx);obtain⟨_,_,vs,_,p⟩:=(show ObjOk X.prog X.w H s.heap a (.dK kvs)from I.hok a _ ea);obtain⟨o,es,ep,h1,h2,_⟩:=p;exact PySem.W.kia_one PySem.W.kitx_dict I.kIn ⟨o,h1,h2.1⟩ e (λz=>nomatch z) h
 | @dT a kvs ea =>cases(show u=Value.ref a from rx);obtain⟨_,_,xs,_,o,es,ep,h1,h2,_⟩:=(show ObjOk X.prog X.w H s.heap a (.dT kvs)from I.hok a _ ea);exact PySem.W.kia_one PySem.W.kitx_dict I.kIn ⟨o,h1,h2.1⟩ e (λz=>nomatch z) h
 | @ins a C dx fs ea cl ha hn htk hm =>cases(show u=Value.ref a from rx);obtain⟨mA,O,_⟩:=nD I.hok ea;obtain⟨od,J,_⟩:=O.look;exact PySem.W.kia_one (PySem.W.kitx_own (cl.get _) cl.hd ha hn htk hm) I.kIn J e (λz=>nomatch z) h
end
structure Room(k:Nat)(A:Around):Prop where
 hd:A.handled=none
 dp:A.depth+3*k+5<recursionLimit
 un:A.units+16*k+200<cLine
theorem Room.mono{j k:Nat}{A:Around}(r:Room k A)(h:j<=k:=by decide):Room j A:=⟨r.hd,by have:=r.dp;omega,by have:=r.un;omega⟩
theorem Room.deeper{k:Nat}{A:Around}(r:Room (k+1) A)(env:Env):Room k (A.deeper env) :=
 ⟨r.hd,by have:=r.dp;show A.depth+1+3*k+5<_;omega,by have:=r.un;show A.units+3+16*k+200<_;omega⟩
theorem Room.in1{k:Nat}{A:Around}(r:Room (k+1) A):Room k A.in1 :=
 ⟨r.hd,by have:=r.dp;show A.depth+3*k+5<_;omega,by have:=r.un;show A.units+1+16*k+200<_;omega⟩
theorem Hg{A:Around}{C:Addr}{us:List Value}{kw:List (Str×Value)}:(A.under (.builtin "type.__call__" ⟨.ref C::us,kw⟩)).depth=A.depth+1:=by first |rfl |simp[Around.under,Code.weight,Code.isCreation,Code.isGuard,Code.isCaller,Code.frames,Code.isFrame,guardIds]
theorem He{A:Around}{C:Addr}{us:List Value}{kw:List (Str×Value)}:(A.under (.builtin "type.__call__" ⟨.ref C::us,kw⟩)).units=A.units+1:=by first |rfl |simp[Around.under,Code.cUnits,Code.frames,Code.isFrame]
theorem Room.make{k:Nat}{A:Around}(r:Room (k+1) A)(C:Addr)(us:List Value)(kw:List (Str×Value)):Room k (A.under (.builtin "type.__call__" ⟨.ref C::us,kw⟩)) :=
 ⟨r.hd,by have:=r.dp;rw[Hg];omega,by have:=r.un;rw[He];omega⟩
theorem Room.depth{k:Nat}{A:Around}(r:Room k A):A.depth<recursionLimit:=by have:=r.dp;omega
theorem Room.units{k:Nat}{A:Around}(r:Room k A):A.units+64<cLine:=by have:=r.un;omega
def lR:TA:=λ_ H Q=>Q [] H
def oG(ta:TE)(tr:TA):TA:=λσ H Q=>ta σ H λx H1=>tr σ H1 λxs H2=>Q (x::xs) H2
section
variable {X:Cx}{e:Expr}{es:List Expr}{te:TE}{t:TA}{pos:Pos}
theorem ac:PA X [] lR:=λ_ _ _ _ H Q I h=>Calls.spliced_nil ⟨[],H,I,.nil,h⟩
theorem aa(ha:PE X e te)(hr:PA X es t)(hs:starEach (e::es) X.env=(false,eval e X.env)::starEach es X.env:=by rfl):PA X (e::es) (oG te t):=by intro pos pins s σ H Q I h;rw[hs];show wpAny _ _ (spliced ((false,eval e X.env)::backTo pos (starEach es X.env))) _ _ s;refine Calls.spliced_cons (thn (ha pins s σ H _ I h) λu s1 ⟨x,H1,I1,r1,q1⟩=>?_);exact thn (hr pos pins s1 σ H1 _ I1 q1) λus s2 ⟨xs,H2,I2,r2,q2⟩=>⟨x::xs,H2,I2,.cons r1 r2,q2⟩
def Ca(t:TA):TE:=λσ H Q=>t σ H λxs H1=>xs.length<=sizeLine/\∀p,H1 p=none->Q (.ref p) (upd H1 p (.tup xs))
def Ch(t:TA):TE:=λσ H Q=>t σ H λxs H1=>xs.length<=sizeLine/\∀p,H1 p=none->Q (.ref p) (upd H1 p (.lst xs))
theorem cZ{x1}(h:PA X es t):PE X (.Tuple es x1 pos) (Ca t):=by intro pins s σ H Q I hq;refine wpAny_Tuple_spliced (thn (h pos pins s σ H _ I hq) λus s1 ⟨xs,H1,I1,r,z,q⟩=>⟨by rw[<- r.length];exact z,?_⟩);have hf:H1 s1.heap.objs.size=none:=I1.hok.fresh (MJ _);refine⟨.ref s1.heap.objs.size,upd H1 s1.heap.objs.size (.tup xs),I1.laid (t':=s1.toks) (λb u e=>Heap.get?_push_of_some _ e) (MJ _) ?_,rfl,q _ hf⟩;exact⟨z,us,r,⟨_,Heap.get?_push_size _ rfl,rfl,_,rfl⟩⟩
theorem aP(h:PA X es t):PE X (.List es pos) (Ch t):=by intro pins s σ H Q I hq;refine wpAny_List_spliced (thn (h pos pins s σ H _ I hq) λus s1 ⟨xs,H1,I1,r,z,q⟩=>⟨by rw[<- r.length];exact z,?_⟩);have hf:H1 s1.heap.objs.size=none:=I1.hok.fresh (MJ _);refine⟨.ref s1.heap.objs.size,upd H1 s1.heap.objs.size (.lst xs),I1.laid (t':=s1.toks) (λb u e=>Heap.get?_push_of_some _ e) (MJ _) ?_,rfl,q _ hf⟩;exact⟨z,us,0,r,Heap.get?_push_size _ rfl⟩
end
abbrev Sp:=List V->Hp->VK->XK->Prop
abbrev CXT:=List Env->Hp->Shared->XK->Value->Shared->Prop
structure Env0(P:Program)(w:World)(K:PySem.W.Frag)(mg:Str->Option Value)(base:Heap)(A:Around)(outer:List Env)(s:Shared)(H:Hp):Prop where
 frames:A.frames=some outer
 mod:Mod K mg base
 bs:∀b o,base.get? b=some o->s.heap.get? b=some o/\H b=none
 bsz:base.objs.size<=s.heap.objs.size
 funs:s.heap.FunFrames base outer
 frf:∀b∈frs outer,H b=none
 hok:HOk P w H s.heap
 bare:AllBare s.gens
noncomputable def CE(outer:List Env)(P:Program)(w:World)(H:Hp)(s:Shared)(Q:VK)(u:Value)(s':Shared):Prop :=
 ∃v H',s'.os=s.os/\AllBare s'.gens/\Un (frs outer) [] H H' s.heap s'.heap/\HOk P w H' s'.heap/\RelV v u/\Q v H'
noncomputable def CR(CX:CXT)(outer:List Env)(P:Program)(w:World)(H:Hp)(s:Shared)(Q:VK)(E:XK)(r:Result)(s':Shared):Prop :=
 match r with
 |.ok (.ret u)=>CE outer P w H s Q u s'
 |.ok _=>False
 |.error e=>CX outer H s E e s'
structure FnOk(P:Program)(w:World)(K:PySem.W.Frag)(mg:Str->Option Value)(base:Heap)(CX:CXT)(k:Nat)(f:Addr)(fd:FuncData)(ps:List Str)(sp:Sp):Prop where
 len:∀vs H Q E,sp vs H Q E->vs.length=ps.length
 run:∀(A:Around) (outer:List Env) (s:Shared) (H:Hp) (args:Args) (us:List Value) (vs:List V) (Q:VK) (E:XK),Room k A->Env0 P w K mg base A outer s H->BindsTo s fd args (ps.zip us)->Vals vs us->sp vs H Q E ->
  codeAny (model P w) A (.call (.ref f) args) (CR CX outer P w H s Q E) s
theorem FnOk.mono{P:Program}{w:World}{K:PySem.W.Frag}{mg:Str->Option Value}{base:Heap}{CX:CXT}{j k:Nat}{f:Addr}{fd:FuncData}{ps:List Str}{sp:Sp}(F:FnOk P w K mg base CX j f fd ps sp)(h:j<=k:=by decide) :
 FnOk P w K mg base CX k f fd ps sp:=⟨F.len,λA outer s H args us vs Q E hr=>F.run A outer s H args us vs Q E (hr.mono h)⟩
theorem Env0.make{P:Program}{w:World}{K:PySem.W.Frag}{mg:Str->Option Value}{base:Heap}{A:Around}{outer:List Env}{s:Shared}{H:Hp}(e:Env0 P w K mg base A outer s H)(C:Addr)(us:List Value)(kw:List (Str×Value)) :
 Env0 P w K mg base (A.under (.builtin "type.__call__" ⟨.ref C::us,kw⟩)) outer s H:=⟨by first |exact e.frames | (simpa[Around.under,Code.envs,Code.isFrame,pushEnvs]using e.frames),e.mod,e.bs,e.bsz,e.funs,e.frf,e.hok,e.bare⟩
section
variable {X:Cx}{pins:List (Addr×Obj)}{σ:St}{H:Hp}{s s':Shared}
theorem Inv.env0(I:Inv X pins σ H s):Env0 X.prog X.w X.K X.mg X.base X.A X.stack s H :=
 ⟨I.ok.frames,I.ok.mod,I.bs,MV I.ok.bsz I.sz,I.stack,I.stkFree,I.hok,I.bare⟩
theorem Inv.after{Q:VK}{u:Value}(I:Inv X pins σ H s)(h:CE X.stack X.prog X.w H s Q u s'):EP X pins σ Q u s':=by obtain⟨v,H',os,bare,un,hok,r,q⟩:=h;obtain⟨hh,g,d,t,os'⟩:=s';obtain rfl:os'=s.os:=os;exact⟨v,H',I.call (h':=hh) (g':=g) (d':=d) (t':=t) (ch:=[]) un hok bare (λb z=>absurd z (by simp)),r,q⟩
end
def oH(sp:Sp)(dvs:List V)(E:XK)(t:TA):TE:=λσ H Q=>t σ H λvs H1=>sp (vs++dvs) H1 Q E
def vH(C:Addr)(m:Str)(sp:Sp)(dvs:List V)(E:XK)(ta:TE)(t:TA):TE:=λσ H Q=>ta σ H λx H1=>∃a dx fs,x=.ref a/\H1 a=some (.ins C dx fs)/\fs.lookup m=none /\
 t σ H1 λvs H2=>sp (x::(vs++dvs)) H2 Q E
def Cg(C:Addr)(sp:Sp)(dvs:List V)(E:XK)(t:TA):TE:=λσ H Q=>t σ H λvs H1=>∀x dx,H1 x=none->H1 dx=none->dx≠x ->
 sp (.ref x::(vs++dvs)) (upd (upd H1 dx (.own x)) x (.ins C dx [])) (λv H2=>v=.non/\Q (.ref x) H2) E
noncomputable def Binds(K:PySem.W.Frag)(fd:FuncData)(ps:List Str)(ds:List Value):Prop :=
 ∀(s:Shared) (us:List Value),K.In s.heap->(us++ds).length=ps.length->BindsTo s fd ⟨us,[]⟩ (ps.zip (us++ds))
theorem Binds.all{K:PySem.W.Frag}{fd:FuncData}{ps:List Str}(h:∀us:List Value,us.length=ps.length->bindArgs fd ⟨us,[]⟩=pure (ps.zip us)):Binds K fd ps []:=λs us _ hl=>by rw[Oj]at hl ⊢;exact .of_eq (h us hl)
def gO(CX:CXT)(X:Cx)(E:XK):Prop:=∀(pins:List (Addr×Obj)) (σ:St) (H:Hp) (s:Shared) (e:Value) (s':Shared),Inv X pins σ H s->CX X.stack H s E e s'->X.xe e s'
section
variable {X:Cx}{CX:CXT}{k:Nat}{f C:Addr}{fd:FuncData}{ps:List Str}{sp:Sp}{dvs:List V}{ds:List Value}{E:XK}{x m:Str}{p pos apos:Pos}{e o:Expr}{es:List Expr}{ta:TE}{t:TA}
theorem rg{pins:List (Addr×Obj)}{σ:St}{H:Hp}{s:Shared}{Q:VK}{us:List Value}{vs:List V}(F:FnOk X.prog X.w X.K X.mg X.base CX k f fd ps sp)(hr:Room k X.A)(hb:Binds X.K fd ps ds)(hd:Vals dvs ds)(hx:gO CX X E)
 (I:Inv X pins σ H s) (r:Vals vs us) (h:sp (vs++dvs) H Q E):wpAny (model X.prog X.w) X.A (call (.ref f) us) (EP X pins σ Q) X.xe s:=by
 have r2:Vals (vs++dvs) (us++ds):=r.append hd;have hl:(us++ds).length=ps.length:=by rw[<- r2.length];exact F.len _ _ _ _ h
 refine wpAny_call (codeAny_mono (F.run X.A X.stack s H ⟨us,[]⟩ (us++ds) (vs++dvs) Q E hr I.env0 (hb s us I.kIn hl) r2 h) λr s' hq=>?_);cases r with
 |error e=>exact hx pins σ H s e s' I hq
 |ok fl =>
  cases fl with
  |ret u=>exact I.after hq
  |next=>exact False.elim hq
  |brk=>exact False.elim hq
  |cont=>exact False.elim hq
theorem kK(F:FnOk X.prog X.w X.K X.mg X.base CX k f fd ps sp)(hr:Room k X.A)(hg:Gl X x)(hm:X.mg x=some (.ref f))(hk:PySem.W.keepIn X.K (.ref f)=true)(hb:Binds X.K fd ps ds)(hd:Vals dvs ds)(hx:gO CX X E)
 (ha:PA X (e::es) t) (hdb:(x == ("__debug__":Str))=false:=by decide) (he:starEach (e::es) X.env=(false,eval e X.env)::starEach es X.env:=by rfl) (hpl:(backTo pos (starEach es X.env)).any (·.1)=false:=by rfl) :
 PE X (.Call (.Name x p) (e::es) [] pos) (oH sp dvs E t):=by
 intro pins s σ H Q I h;refine wpAny_Call_Name_kw (jE I hg hm ?_ hdb);refine PySem.W.callWith_K (h₀:=X.base) I.ok.mod.kin hk (thn (ha pos pins s σ H _ I h) λus s1 ⟨vs,H1,I1,r,q⟩=>⟨I1.kIn,?_⟩) he hpl;exact rg F hr hb hd hx I1 r q
theorem du{pl:Sem Bool}(he:PE X o ta)(c:Cls X.K C)(hm:Meth X.K C m f)(F:FnOk X.prog X.w X.K X.mg X.base CX k f fd ps sp)(hr:Room k X.A)(hb:Binds X.K fd ps ds)(hd:Vals dvs ds)(hx:gO CX X E)(ha:PA X (e::es) t)
 (hst:starEach (e::es) X.env=(false,eval e X.env)::starEach es X.env:=by rfl) (hpl:(backTo pos (starEach es X.env)).any (·.1)=false:=by rfl)
 (ht:eval (.Call (.Attribute o m apos) (e::es) [] pos) X.env=(do
   let ov <- eval o X.env
   standAt apos.atName
   let(f,first) <- holding [ov] (getMethod ov m pl)
   callWith pos f first (backTo pos (starEach (e::es) X.env)) (backToKw pos (keywordEach [] X.env))):=by rfl) :
 PE X (.Call (.Attribute o m apos) (e::es) [] pos) (vH C m sp dvs E ta t):=by
 intro pins s σ H Q I h;refine PySem.W.methodCall_KW (pl:=pl) (thn (he pins s σ H _ I h) λu s1 ⟨x,H1,I1,rx,a,dx,fs,ex,ea,l,q⟩=>?_) ht;subst ex;obtain rfl:u=Value.ref a:=rx;refine zK I1 ea c hm l ?_;refine PySem.W.callWith_K (first:=[.ref a]) (h₀:=X.base) I.ok.mod.kin hm.kp (thn (ha pos pins s1 σ H1 _ I1 q) λus s2 ⟨vs,H2,I2,r,q2⟩=>⟨I2.kIn,?_⟩) hst hpl;exact rg (us:=.ref a::us) (vs:=.ref a::vs) F hr hb hd hx I2 (.cons rfl r) q2
theorem EJ{pl:Sem Bool}(he:PE X o ta)(c:Cls X.K C)(hm:Meth X.K C m f)(F:FnOk X.prog X.w X.K X.mg X.base CX k f fd ps sp)(hr:Room k X.A)(hb:Binds X.K fd ps ds)(hd:Vals dvs ds)(hx:gO CX X E)
 (ht:eval (.Call (.Attribute o m apos) [] [] pos) X.env=(do
   let ov <- eval o X.env
   standAt apos.atName
   let(f,first) <- holding [ov] (getMethod ov m pl)
   callWith pos f first (backTo pos (starEach [] X.env)) (backToKw pos (keywordEach [] X.env))):=by rfl) :
 PE X (.Call (.Attribute o m apos) [] [] pos) (vH C m sp dvs E ta lR):=by
 intro pins s σ H Q I h;refine PySem.W.methodCall_KW (pl:=pl) (thn (he pins s σ H _ I h) λu s1 ⟨x,H1,I1,rx,a,dx,fs,ex,ea,l,q⟩=>?_) ht;subst ex;obtain rfl:u=Value.ref a:=rx;refine zK I1 ea c hm l ?_;exact PySem.W.callWith_K0 (first:=[.ref a]) I1.kIn hm.kp (rg (us:=[.ref a]) (vs:=[.ref a]) F hr hb hd hx I1 (.cons rfl .nil) q)
structure Mk(K:PySem.W.Frag)(C f:Addr):Prop where
 makes:PySem.W.makesIn K C=true
 init:PySem.W.findIn K (.ref C) "__init__"=some (some (.ref f))
 fn:PySem.W.isFn K (.ref f)=true
 kp:PySem.W.keepIn K (.ref C)=true
theorem Dz{pins:List (Addr×Obj)}{σ:St}{H:Hp}{s:Shared}{Q:VK}{us:List Value}{vs:List V}(M:Mk X.K C f)(F:FnOk X.prog X.w X.K X.mg X.base CX k f fd ps sp)(hr:Room (k+1) X.A)(hb:Binds X.K fd ps ds)(hd:Vals dvs ds)
 (hx:gO CX X E) (I:Inv X pins σ H s) (r:Vals vs us)
 (h:∀x dx,H x=none->H dx=none->dx≠x->sp (.ref x::(vs++dvs)) (upd (upd H dx (.own x)) x (.ins C dx [])) (λv H2=>v=.non/\Q (.ref x) H2) E) :
 wpAny (model X.prog X.w) X.A (call (.ref C) us) (EP X pins σ Q) X.xe s:=by
 have hq:=h (s.heap.objs.size+1) s.heap.objs.size (I.hok.fresh (Nat.le_succ _)) (I.hok.fresh (MJ _)) (M7 (NY _));have I2:=Inv.made (C:=C) I;have r2:Vals (V.ref (s.heap.objs.size+1)::(vs++dvs)) (Value.ref (s.heap.objs.size+1)::(us++ds)):=.cons rfl (r.append hd)
 have hl:(Value.ref (s.heap.objs.size+1)::us++ds).length=ps.length:=by have e:=r2.length;rw[F.len _ _ _ _ hq]at e;exact e.symm
 refine wpAny_call (Hf (f:=f) I.kIn M.makes M.init (beq_iff_eq.mp M.fn) (codeAny_mono (F.run _ X.stack _ _ ⟨Value.ref (s.heap.objs.size+1)::us,[]⟩ (Value.ref (s.heap.objs.size+1)::(us++ds)) _ _ E (hr.make C us [])
  (I2.env0.make C us []) (hb _ (Value.ref (s.heap.objs.size+1)::us) I2.kIn hl) r2 hq) λr s' hq'=>?_))
 cases r with
 |error e=>exact hx pins σ _ _ e s' I2 hq'
 |ok fl =>
  cases fl with
  |ret u =>obtain⟨v,H',I3,rv,ev,q3⟩:=I2.after hq';subst ev;exact⟨rv,⟨V.ref (s.heap.objs.size+1),H',I3,rfl,q3⟩⟩
  |next=>exact False.elim hq'
  |brk=>exact False.elim hq'
  |cont=>exact False.elim hq'
theorem dW(M:Mk X.K C f)(F:FnOk X.prog X.w X.K X.mg X.base CX k f fd ps sp)(hr:Room (k+1) X.A)(hg:Gl X x)(hm:X.mg x=some (.ref C))(hb:Binds X.K fd ps ds)(hd:Vals dvs ds)(hx:gO CX X E)
 (ha:PA X (e::es) t) (hdb:(x == ("__debug__":Str))=false:=by decide) (he:starEach (e::es) X.env=(false,eval e X.env)::starEach es X.env:=by rfl) (hpl:(backTo pos (starEach es X.env)).any (·.1)=false:=by rfl) :
 PE X (.Call (.Name x p) (e::es) [] pos) (Cg C sp dvs E t):=by
 intro pins s σ H Q I h;refine wpAny_Call_Name_kw (jE I hg hm ?_ hdb);refine PySem.W.callWith_K (h₀:=X.base) I.ok.mod.kin M.kp (thn (ha pos pins s σ H _ I h) λus s1 ⟨vs,H1,I1,r,q⟩=>⟨I1.kIn,?_⟩) he hpl;exact Dz M F hr hb hd hx I1 r q
end
section
variable {X:Cx}{CX:CXT}{k:Nat}{f C:Addr}{fd:FuncData}{ps ks:List Str}{sp:Sp}{E:XK}{x m:Str}{p pos apos kpos:Pos}{e o:Expr}{es:List Expr}{kws:List Keyword}{te ta:TE}{t tk:TA}{nm:Option Str}
variable {g:List Value->List Value->List Value}{gV:List V->List V->List V}
end
structure FnScope(N P:List Str)(sc:Scope):Prop where
 kind:sc.kind=.function
 co:sc.isCoroutine=false
 gen:sc.isGenerator=false
 nd:N.Nodup
 pre:N.take P.length=P
 par:∀x∈P,sc.names.lookup x=some .local\/sc.names.lookup x=some .cell
 nofree:∀y∈sc.names,y.2≠.free
theorem AV{kindOf:Str->Option NameKind}{x:Str}:∀{binds:List (Str×Value)} {m:Str->Option Value},(∀v,(x,v)∉binds)->bindL kindOf binds m x=m x
 | [],_,_=>rfl
 | (n,v)::r,m,h=>by
  unfold bindL;rw[AV λw hw=>h w (MK _ hw)];split
  ·have:x≠n:=by rintro rfl;exact h v MP
   simp[this]
  ·rfl
theorem AX{kindOf:Str->Option NameKind}{x:Str}:∀{binds:List (Str×Value)} {m:Str->Option Value},(∀v,(x,v)∉binds)->bindC kindOf binds m x=m x
 | [],_,_=>rfl
 | (n,v)::r,m,h=>by
  unfold bindC;rw[AX λw hw=>h w (MK _ hw)];split
  ·rfl
  ·have:x≠n:=by rintro rfl;exact h v MP
   simp[this]
theorem AW{kindOf:Str->Option NameKind}{x:Str}{v:Value}:∀{P:List Str} {vs:List Value} {i:Nat} {m:Str->Option Value},P.Nodup->P[i]?=some x->vs[i]?=some v->kindOf x=some .local ->
 bindL kindOf (P.zip vs) m x=some v
 | [],_,_,_,_,h,_,_=>by simp at h
 |_::_,[],_,_,_,_,h,_=>by simp at h
 |p::P,w::vs,0,m,nd,h1,h2,hk=>by
  simp at h1 h2;subst h1;subst h2
  show bindL kindOf ((p,w)::P.zip vs) m p=_;unfold bindL;rw[AV λv hv=>(N9.mp nd).1 (List.of_mem_zip hv).1,if_pos hk];simp
 |p::P,w::vs,i+1,m,nd,h1,h2,hk=>by show bindL kindOf ((p,w)::P.zip vs) m x=_;unfold bindL;exact AW (i:=i) (N9.mp nd).2 (by simpa using h1) (by simpa using h2) hk
theorem AY{kindOf:Str->Option NameKind}{x:Str}{v:Value}:∀{P:List Str} {vs:List Value} {i:Nat} {m:Str->Option Value},P.Nodup->P[i]?=some x->vs[i]?=some v->kindOf x≠some .local ->
 bindC kindOf (P.zip vs) m x=some v
 | [],_,_,_,_,h,_,_=>by simp at h
 |_::_,[],_,_,_,_,h,_=>by simp at h
 |p::P,w::vs,0,m,nd,h1,h2,hk=>by
  simp at h1 h2;subst h1;subst h2
  show bindC kindOf ((p,w)::P.zip vs) m p=_;unfold bindC;rw[AX λv hv=>(N9.mp nd).1 (List.of_mem_zip hv).1,if_neg hk];simp
 |p::P,w::vs,i+1,m,nd,h1,h2,hk=>by show bindC kindOf ((p,w)::P.zip vs) m x=_;unfold bindC;exact AY (i:=i) (N9.mp nd).2 (by simpa using h1) (by simpa using h2) hk
noncomputable def start(N:List Str)(vs:List V):St:=vs.map some++List.replicate (N.length-vs.length) none
noncomputable def bX(CX:CXT)(P:Program)(w:World)(K:PySem.W.Frag)(mg:Str->Option Value)(base:Heap)(N:List Str)(qual:Str)(scope:Scope)(f:Addr)(cd:Value)(A:Around)(outer:List Env)(s:Shared)(H:Hp)(E:XK):Cx where
 prog:=P
 w:=w
 K:=K
 mg:=mg
 base:=base
 A:=A.deeper (envOfC qual scope s.heap.objs.size f cd)
 N:=N
 s₀:=s
 H₀:=H
 env:=envOfC qual scope s.heap.objs.size f cd
 outer:=outer
 stack:=envOfC qual scope s.heap.objs.size f cd::outer
 ex:=[]
 calm:=true
 fn:=λ_=>true
 pn:=[]
 xe:=λe s'=>wpAny (model P w) (A.deeper (envOfC qual scope s.heap.objs.size f cd)) (leaving (envOfC qual scope s.heap.objs.size f cd) e) (λ_ s''=>CX outer H s E e s'') (λe' s''=>CX outer H s E e' s'') s'
theorem AN{sc:Scope}{n:Nat}{x:Str}(h:sc.names.lookup x=some .cell):∃c,(cellsFrom n sc.names []).lookup x=some c:=by have q:=PySem.W.cellsFrom_some sc.names n [] (.inl h);exact Option.isSome_iff_exists.mp q
theorem HG{CX:CXT}{P:Program}{w:World}{K:PySem.W.Frag}{mg:Str->Option Value}{base:Heap}{N ps:List Str}{qual:Str}{scope:Scope}{f:Addr}{cd:Value}{A:Around}{outer:List Env}{s s1:Shared}{H:Hp}{E:XK}{us:List Value}{vs:List V}
 (S:FnScope N ps scope) (hd:A.handled=none) (e0:Env0 P w K mg base A outer s H) (hl:vs.length=ps.length) (r:Vals vs us)
 (x:InCallC s s.heap.objs.size (bindL (envOfC qual scope s.heap.objs.size f cd).kindOf (ps.zip us) λ_=>none) (cellsFrom (s.heap.objs.size+1) scope.names []) (bindC (envOfC qual scope s.heap.objs.size f cd).kindOf (ps.zip us) λ_=>none) s1) :
 Inv (bX CX P w K mg base N qual scope f cd A outer s H E) [] (start N vs) H s1:=by
 have hpl:ps.length<=N.length:=by have:=congrArg List.length S.pre;rw[Nx]at this;omega
 obtain⟨h1,tk,rfl,hk⟩:=x.done;have noA:∀b:Addr,b∉(bX CX P w K mg base N qual scope f cd A outer s H E).ex:=λb z=>absurd (show b∈([]:List Addr)from z) (by simp)
 refine⟨⟨e0.mod,S.kind,rfl,rfl,MJ _,λy z c h1 h2=>?_,λy hy=>?_,λy c _ h=>?_,λ_=>hd,Around.frames_deeper e0.frames,.inr ⟨rfl,rfl⟩,λb z=>absurd z (noA b),e0.bs,e0.bsz,λb _ _=>noA b,λb z=>absurd z (noA b),e0.funs,e0.frf⟩,
  rfl,e0.bare,Un.kept hk,⟨_,x.toInCall.ns,λi y v h1 h2 h3=>?_⟩,λy c h=>⟨_,x.cell y c h⟩,e0.hok.fresh (MJ _),λy c h=>?_,λp hp=>absurd (show p∈([]:List (Addr×Obj))from hp) (by simp),e0.hok.kept hk,?_⟩
 ·exact name_of_addr x.apart (PySem.mem_of_lookup h1) (PySem.mem_of_lookup h2)
 ·have hy:scope.names.lookup y=some .cell\/scope.names.lookup y=some .free:=hy;rcases hy with hy |hy
  ·exact AN hy
  ·exact absurd rfl (S.nofree _ (PySem.mem_of_lookup hy))
 ·exact Ov (x.above y c (PySem.mem_of_lookup h))
 ·have hi:i<vs.length:=by
   unfold start at h2
   by_cases hi:i<vs.length
   ·exact hi
   ·rw[List.getElem?_append_right (by simpa using hi)]at h2;rw[List.getElem?_replicate]at h2;split at h2<;>cases h2
  have ha:vs[i]?=some v:=by
   unfold start at h2
   rw[List.getElem?_append_left (by simpa using hi),List.getElem?_map]at h2;cases e:vs[i]? with
   |none=>rw[e]at h2;cases h2
   |some a=>rw[e]at h2;cases h2;rfl
  obtain⟨u,hu,rv⟩:=r.get ha
  have hp:ps[i]?=some y:=by rw[<- S.pre,List.getElem?_take_of_lt (by omega)];exact h1
  have ndP:ps.Nodup:=by rw[<- S.pre];exact S.nd.sublist (List.take_sublist _ _)
  refine⟨u,rv,?_⟩;rcases S.par y (List.mem_of_getElem? hp)with k |k
  ·exact .inl ⟨k,AW ndP hp hu k⟩
  ·obtain⟨c,e⟩:=AN (n:=s.heap.objs.size+1) k;refine .inr ⟨.inl k,c,e,?_⟩;have q:=x.cell y c e;rw[AY ndP hp hu (by show scope.names.lookup y≠_;rw[k];decide)]at q;exact q
 ·exact e0.hok.fresh (Ov (x.above y c (PySem.mem_of_lookup h)))
 ·unfold start;show _=N.length;rw[MX,MI,Pa];omega
theorem nK{CX:CXT}{P:Program}{w:World}{K:PySem.W.Frag}{mg:Str->Option Value}{base:Heap}{k:Nat}{f:Addr}{name qual:Str}{params:Arguments}{body:List Stmt}{scope:Scope}{dV kV doc pm cdv ct oc:Value}{an od:Option Addr}
 {osl:Array (Option Value)} {N ps:List Str} {sp:Sp} (lk:K.lookup f=some ⟨oc,od,.func (PySem.W.fnOf name qual params body scope dV kV doc pm an cdv ct),osl⟩) (hcd:PySem.W.codeIn K cdv qual=true) (S:FnScope N ps scope)
 (len:∀vs H Q E,sp vs H Q E->vs.length=ps.length)
 (hbody:∀(A:Around) (outer:List Env) (s:Shared) (H:Hp) (vs:List V) (Q:VK) (E:XK),Room k (A.deeper (envOfC qual scope s.heap.objs.size f cdv))->sp vs H Q E ->
   ∃t,PSs (bX CX P w K mg base N qual scope f cdv A outer s H E) body t/\t { nx:=λ_ H'=>Q .non H',rt:=Q } (start N vs) H) :
 FnOk P w K mg base CX (k+1) f (PySem.W.fnOf name qual params body scope dV kV doc pm an cdv ct) ps sp:=by
 refine⟨len,λA outer s H args us vs Q E hr e0 hb r hsp=>?_⟩;have hl:=len _ _ _ _ hsp;have KX:K.In s.heap:=e0.mod.kin.keeps λb o e=>(e0.bs b o e).1
 have lim:s.heap.NoLimit:=e0.mod.nolimit.keeps λb o e=>(e0.bs b o e).1
 have hkind:∀y∈ps.zip us,scope.names.lookup y.1=some .local\/(scope.names.lookup y.1=some .cell/\((cellsFrom (s.heap.objs.size+1) scope.names []).lookup y.1).isSome=true):=λ⟨n,v⟩ hy=>by
  rcases S.par n (List.of_mem_zip hy).1 with q |q
  ·exact .inl q
  ·exact .inr ⟨q,PySem.W.cellsFrom_some _ _ _ (.inl q)⟩
 refine codeAny_call_function hr.depth (KX _ _ lk) rfl S.co S.gen rfl (PySem.W.codeRec_of KX hcd) (hb _ _ _ _ ?_);refine wpAny_newFunctionEnv_cells S.kind hkind λenv he s1 x=>?_
 subst he;refine⟨lim.keeps x.toInCall.keep,codeAny_func ?_⟩;obtain⟨t,ht,hq⟩:=hbody A outer s H vs Q E (hr.deeper _) hsp;have I:Inv (bX CX P w K mg base N qual scope f cdv A outer s H E) [] (start N vs) H s1:=HG S hr.hd e0 hl r x;refine wpAny_mono (ht [] s1 (start N vs) H _ I hq) (λfl s' hs=>?_) λe s' hs=>hs
 have fin:∀{σ':St} {H':Hp} {v:V} {u:Value},Inv (bX CX P w K mg base N qual scope f cdv A outer s H E) [] σ' H' s'->RelV v u->Q v H'->CE outer P w H s Q u s' :=
  λ{σ' H' v u} J rv q=>⟨v,H',J.os,J.bare,J.base,J.hok,rv,q⟩
 cases fl with
 |ret u =>obtain⟨v,σ',H',J,rv,q⟩:=hs;exact fin J rv q
 |next =>obtain⟨σ',H',J,q⟩:=hs;exact fin (v:=V.non) (u:=Value.none) J rfl q
 |brk =>obtain⟨_,_,_,q⟩:=hs;exact False.elim q
 |cont =>obtain⟨_,_,_,q⟩:=hs;exact False.elim q
section
variable {X:Cx}{x:Str}{p pos:Pos}{e:Expr}{es:List Expr}{t:TA}{id T:String}{r:List V->Hp->VK->Prop}
def tCB(r:List V->Hp->VK->Prop)(t:TA):TE:=λσ H Q=>t σ H λvs H1=>r vs H1 Q
theorem cF(hc:CallR X (.builtin id) r)(hg:Gl X x)(hm:X.mg x=none)(hv:bootBuiltins x=some (.builtin id))(ha:PA X (e::es) t)(hn:x≠"__name__":=by decide)(hdb:(x == ("__debug__":Str))=false:=by decide)
 (he:starEach (e::es) X.env=(false,eval e X.env)::starEach es X.env:=by rfl) (hpl:(backTo pos (starEach es X.env)).any (·.1)=false:=by rfl):PE X (.Call (.Name x p) (e::es) [] pos) (tCB r t):=by
 intro pins s σ H Q I h;refine wpAny_Call_Name_kw (gE I hg hm hv ?_ hn hdb);exact PyProof.Rows.callWith_builtin1 (thn (ha pos pins s σ H _ I h) λus s1 ⟨vs,H1,I1,r1,q1⟩=>hc pins s1 σ H1 vs us Q I1 r1 q1) he hpl
theorem gv(hc:CallR X (.type T) r)(hg:Gl X x)(hm:X.mg x=none)(hv:bootBuiltins x=some (.type T))(ha:PA X (e::es) t)(hn:x≠"__name__":=by decide)(hdb:(x == ("__debug__":Str))=false:=by decide)
 (he:starEach (e::es) X.env=(false,eval e X.env)::starEach es X.env:=by rfl) (hpl:(backTo pos (starEach es X.env)).any (·.1)=false:=by rfl):PE X (.Call (.Name x p) (e::es) [] pos) (tCB r t):=by
 intro pins s σ H Q I h;refine wpAny_Call_Name_kw (gE I hg hm hv ?_ hn hdb);exact PyProof.Rows.callWith_type1 (thn (ha pos pins s σ H _ I h) λus s1 ⟨vs,H1,I1,r1,q1⟩=>hc pins s1 σ H1 vs us Q I1 r1 q1) he hpl
end
end L2
namespace HT
open PySem PyProof.Rows
section
open PySem.SeqAt
open PySem.AutoSeq1 (wpAny_loadPart')
open PySem.MeetsSeq PySem.MeetsSeq2 PySem.MeetsSeq3
end
section
variable {prog:Program}{w:World}{A:Around}{E:Value->Shared->Prop}{s:Shared}
noncomputable def sIx(n d:Nat):Option Int->Nat
 |none=>d
 |some v=>if v<0 then(v+(n:Int)).toNat else min v.toNat n
theorem sIx_none(n d:Nat):sIx n d none=d:=rfl
theorem sIx_nat(n d k:Nat):sIx n d (some (k:Int))=min k n:=by show(if(k:Int)<0 then((k:Int)+(n:Int)).toNat else min (k:Int).toNat n)=min k n;rw[if_neg (by omega),Int.toNat_natCast]
end
end HT
namespace L2
open PySem PySem.Spec PyProof.Rows
abbrev TO:=St->Hp->(Option Int->Hp->Prop)->Prop
noncomputable def PO(X:Cx)(e:Option Expr)(t:TO):Prop :=
 ∀(pins:List (Addr×Obj)) (s:Shared) (σ:St) (H:Hp) (Q:Option Int->Hp->Prop),Inv X pins σ H s->t σ H Q ->
  wpAny (model X.prog X.w) X.A (evalPart e X.env) (λu s'=>∃o H',Inv X pins σ H' s'/\IsPart u o/\Q o H') X.xe s
noncomputable def Ce:TO:=λ_ H Q=>Q none H
noncomputable def Cd(t:TE):TO:=λσ H Q=>t σ H λx H1=>∃i,x=.int i/\Q (some i) H1
theorem jG{ns:Ex}:∀{us:List Value},Vals (ns.map V.int) us->IntsAre us ns:=by
 induction ns with
 |nil=>intro us r;rw[List.map_nil]at r;cases r;exact .nil
 |cons n ns ih =>
  intro us r;rw[Nw]at r;cases r with
  |cons r1 r2 =>obtain⟨t,e⟩:=r1;subst e;exact .cons n t (ih r2)
section
variable {X:Cx}{e:Expr}{te:TE}{lo hi:Option Expr}{tl th:TO}{pos p2:Pos}
theorem mT:PO X none Ce:=by intro pins s σ H Q I h;rw[evalPart_none];exact wpAny_pure ⟨none,H,I,.none,h⟩
theorem mS(h:PE X e te):PO X (some e) (Cd te):=by
 intro pins s σ H Q I hw;rw[evalPart_some];refine thn (h pins s σ H _ I hw) λu s1 ⟨x,H1,I1,r1,q1⟩=>?_
 obtain⟨i,rfl,q⟩:=q1;obtain⟨t,rfl⟩:=r1;exact⟨some i,H1,I1,.int i t,q⟩
noncomputable def SlR(X:Cx)(r:V->Option Int->Option Int->Hp->VK->Prop):Prop :=
 ∀(pins:List (Addr×Obj)) (s:Shared) (σ:St) (H:Hp) (x:V) (v vl vu:Value) (lo hi:Option Int) (sl:Addr) (Q:VK),Inv X pins σ H s->RelV x v->s.heap.IsSliceOf sl vl vu .none->IsPart vl lo->IsPart vu hi->r x lo hi H Q ->
  ∃T id,typeLookup (.type T) "__getitem__"=pure (some (.builtin id))/\s.TypeIs v T/\wpAny (model X.prog X.w) X.A (getItem v (.ref sl)) (EP X pins σ Q) X.xe s
theorem SlR.or{r r':V->Option Int->Option Int->Hp->VK->Prop}(h:SlR X r)(h':SlR X r'):SlR X (λx lo hi H Q=>r x lo hi H Q\/r' x lo hi H Q):=by
 intro pins s σ H x v vl vu lo hi sl Q I rx hs pl pu q;rcases q with q |q
 ·exact h pins s σ H x v vl vu lo hi sl Q I rx hs pl pu q
 ·exact h' pins s σ H x v vl vu lo hi sl Q I rx hs pl pu q
def tSl(r:V->Option Int->Option Int->Hp->VK->Prop)(te:TE)(tl th:TO):TE:=λσ H Q=>te σ H λx H1=>tl σ H1 λl H2=>th σ H2 λu H3=>r x l u H3 Q
theorem mV{r:V->Option Int->Option Int->Hp->VK->Prop}(hr:SlR X r)(he:PE X e te)(hl:PO X lo tl)(hu:PO X hi th):PE X (.Subscript e (.Slice lo hi none p2) pos) (tSl r te tl th):=by
 intro pins s σ H Q I h;refine Subscript_ (thn (he pins s σ H _ I h) λv s1 ⟨x,H1,I1,r1,q1⟩=>?_);refine wpAny_Slice (thn (hl pins s1 σ H1 _ I1 q1) λvl s2 ⟨l,H2,I2,pl,q2⟩=>thn (hu pins s2 σ H2 _ I2 q2) λvu s3 ⟨u,H3,I3,pu,q3⟩=>?_);rw[evalPart_none];refine wpAny_pure ?_;have I4:Inv X pins σ H3 { s3 with heap:=s3.heap.push { cls:=.type "slice",data:=.fields #[vl,vu,.none] } }:=I3.kept (t':=s3.toks) λb ob q=>Heap.get?_push_of_some _ q
 obtain⟨T,id,hT,ht,hg⟩:=hr pins { s3 with heap:=s3.heap.push { cls:=.type "slice",data:=.fields #[vl,vu,.none] } } σ H3 x v vl vu l u s3.heap.objs.size Q I4 r1 (Heap.IsSliceOf.new ..) pl pu q3;show wpAny (model X.prog X.w) X.A (subscriptTail e (.Slice lo hi none p2) v (.ref s3.heap.objs.size)) (EP X pins σ Q) X.xe { s3 with heap:=s3.heap.push { cls:=.type "slice",data:=.fields #[vl,vu,.none] } };exact tail_any (ops:=[.ref s3.heap.objs.size,v]) ht hT hg (by with_unfolding_all rfl)
noncomputable def ib(xs:List V)(lo hi:Option Int):List V:=(xs.drop (HT.sIx xs.length 0 lo)).take (HT.sIx xs.length xs.length hi-HT.sIx xs.length 0 lo)
theorem JA(xs:List V)(lo hi:Option Int):(ib xs lo hi).length<=xs.length:=by unfold ib;rw[Nx,NJ];omega
end
noncomputable def ixN(n:Nat)(i:Int):Option Nat:=if 0<=i then(if i<n then some i.toNat else none)else if -(n:Int)<=i then some (i+n).toNat else none
noncomputable def atI{α:Type}(xs:List α)(i:Int):Option α:=(ixN xs.length i).bind λj=>xs[j]?
theorem zm{n:Nat}{i:Int}{j:Nat}(h:ixN n i=some j):seqIndex? i n=some j/\j<n /\ -(n:Int)<=i/\i<n:=by
 unfold ixN at h
 by_cases h0:0<=i
 ·rw[if_pos h0]at h;by_cases h1:i<n
  ·rw[if_pos h1]at h;have e:i.toNat=j:=Option.some.inj h;exact⟨by rw[seqIndex_of h0 h1,e],by omega,by omega,h1⟩
  ·rw[if_neg h1]at h;cases h
 ·rw[if_neg h0]at h;by_cases h1 : -(n:Int)<=i
  ·rw[if_pos h1]at h;have e:(i+n).toNat=j:=Option.some.inj h;exact⟨by rw[seqIndex_neg (by omega) h1,e],by omega,h1,by omega⟩
  ·rw[if_neg h1]at h;cases h
theorem A7{α:Type}{xs:List α}{i:Int}{v:α}(h:atI xs i=some v):∃j,seqIndex? i xs.length=some j/\xs[j]?=some v/\j<xs.length /\ -(xs.length:Int)<=i/\i<xs.length:=by
 unfold atI at h
 cases e:ixN xs.length i with
 |none=>rw[e]at h;cases h
 |some j =>rw[e]at h;obtain⟨h1,h2,h3,h4⟩:=zm e;exact⟨j,h1,h,h2,h3,h4⟩
theorem fQ{α:Type}{xs:List α}{j:Nat}{v:α}(h:xs[j]?=some v):atI xs (j:Int)=some v:=by
 have hj:j<xs.length:=(List.getElem?_eq_some_iff.mp h).1
 have e:ixN xs.length (j:Int)=some j:=by unfold ixN;rw[if_pos (by omega),if_pos (by omega)];simp
 unfold atI;rw[e];exact h
theorem uD{α:Type}(xs:List α)(v:α):atI (xs++[v]) (-1)=some v:=by
 have hl:(xs++[v]).length=xs.length+1:=by simp
 have e:ixN (xs++[v]).length (-1)=some xs.length:=by
  unfold ixN;rw[hl,if_neg (by decide),if_pos (by omega)]
  congr 1
  omega
 unfold atI;rw[e];show(xs++[v])[xs.length]?=some v;simp
def uI(b:Expr):Prop:=∀o i,subscripted b false o i=operate [o,i] (getItem o i)
noncomputable def IxR(X:Cx)(r:R2):Prop :=
 ∀(value slice:Expr) (pins:List (Addr×Obj)) (s:Shared) (σ:St) (H:Hp) (x y:V) (v u:Value) (Q:VK),Inv X pins σ H s->RelV x v->RelV y u->r x y H Q ->
  subscripted slice false v u=operate [v,u] (getItem v u)->wpAny (model X.prog X.w) X.A (subscriptTail value slice v u) (EP X pins σ Q) X.xe s
noncomputable def MtR(X:Cx)(id:String)(r:V->List V->Hp->VK->Prop):Prop :=
 ∀(pins:List (Addr×Obj)) (s:Shared) (σ:St) (H:Hp) (x:V) (xs:List V) (v:Value) (us:List Value) (Q:VK),Inv X pins σ H s->RelV x v->Vals xs us->r x xs H Q ->
  wpAny (model X.prog X.w) X.A (call (.builtin id) (v::us)) (EP X pins σ Q) X.xe s
section
variable {X:Cx}{a b:Expr}{ta tb:TE}{pos:Pos}
theorem IxR.or{r r':R2}(h:IxR X r)(h':IxR X r'):IxR X (λx y H Q=>r x y H Q\/r' x y H Q):=by
 intro value slice pins s σ H x y v u Q I rx ry q hs;rcases q with q |q
 ·exact h value slice pins s σ H x y v u Q I rx ry q hs
 ·exact h' value slice pins s σ H x y v u Q I rx ry q hs
theorem MtR.or{id:String}{r r':V->List V->Hp->VK->Prop}(h:MtR X id r)(h':MtR X id r'):MtR X id (λx xs H Q=>r x xs H Q\/r' x xs H Q):=by
 intro pins s σ H x xs v us Q I rx rs q;rcases q with q |q
 ·exact h pins s σ H x xs v us Q I rx rs q
 ·exact h' pins s σ H x xs v us Q I rx rs q
theorem yk{r:R2}(hr:IxR X r)(ha:PE X a ta)(hb:PE X b tb)(hs:uI b):PE X (.Subscript a b pos) (tOp r ta tb):=by intro pins s σ H Q I h;exact Subscript_ (uw ha hb I h λv u s2 x y H2 I2 rx ry q=>hr a b pins s2 σ H2 x y v u Q I2 rx ry q (hs _ _))
def rG(K:PySem.W.Frag):R2:=λx y H Q=>∃p xs i v,x=.ref p/\y=.int i/\SqL K H p xs/\atI xs i=some v/\Q v H
def rF(K:PySem.W.Frag):R2:=λx y H Q=>∃p xs i v,x=.ref p/\y=.int i/\SqT K H p xs/\atI xs i=some v/\Q v H
theorem HC:IxR X (rG X.K):=by
 intro value slice pins s σ H x y v u Q I rx ry h hs;obtain⟨p,xs,i,z,rfl,rfl,hq,he,q⟩:=h;cases rx;obtain⟨t,rfl⟩:=ry;obtain⟨its,r,pl,hz⟩:=I.list hq;obtain⟨j,h1,h2,h3,h4,h5⟩:=A7 he;obtain⟨w,ew,rw'⟩:=r.get h2;have hl:=r.length;have hn:=kT;have fin:EP X pins σ Q w s:=⟨z,H,I,rw',q⟩;by_cases h0:0<=i
 ·have hj:i.toNat=j:=by rw[seqIndex_of h0 h5]at h1;exact Option.some.inj h1
  exact item_listR pl.isList h0 (by omega) (by rw[hj];simpa using ew) fin hs
 ·have hj:(i+(its.toArray.size:Int)).toNat=j:=by rw[seqIndex_neg (by omega) h4]at h1;rw[Nc,<- hl];exact Option.some.inj h1
  exact subscriptTail_builtinR (x:=w) pl.isList.typeIs slot_list_getitem.lookup
   (wpAny_getItem_list_neg (Q:=λr s'=>r=w/\EP X pins σ Q r s') pl.isList (by omega) (by rw[Nc]<;>omega) (by omega) (by rw[hj];simpa using ew) ⟨rfl,fin⟩) hs
theorem HA:IxR X (rF X.K):=by
 intro value slice pins s σ H x y v u Q I rx ry h hs;obtain⟨p,xs,i,z,rfl,rfl,hq,he,q⟩:=h;cases rx;obtain⟨t,rfl⟩:=ry;obtain⟨its,r,pl,hz⟩:=I.tuple hq;obtain⟨j,h1,h2,h3,h4,h5⟩:=A7 he;obtain⟨w,ew,rw'⟩:=r.get h2;have hl:=r.length;have hn:=kT;have fin:EP X pins σ Q w s:=⟨z,H,I,rw',q⟩
 exact subscriptTail_builtinR (x:=w) pl.typeIs slot_tuple_getitem.lookup
  (getItem_tuple (j:=j) (Q:=λr s'=>r=w/\EP X pins σ Q r s') pl (by omega) (by omega) (by rw[Nc,<- hl];exact h1) (by simpa using ew) ⟨rfl,fin⟩) hs
theorem Hd(its:List Value)(n j:Nat)(u:Value):Obj.mapSeq (·.setIfInBounds j u) { cls:=.type "list",data:=.seq its.toArray n }={ cls:=.type "list",data:=.seq (its.set j u).toArray n }:=by simp[Obj.mapSeq]
theorem Inv.lst{pins:List (Addr×Obj)}{σ:St}{H:Hp}{s:Shared}{p:Addr}{xs:List V}(I:Inv X pins σ H s)(h:H p=some (.lst xs)) :
 ∃(its:List Value) (n:Nat),Vals xs its/\s.heap.get? p=some { cls:=.type "list",data:=.seq its.toArray n }/\xs.length<=sizeLine:=by
 obtain⟨z,its,n,r,e⟩:=I.hok p _ h;exact⟨its,n,r,e,z⟩
theorem Inv.lstUpd{pins:List (Addr×Obj)}{σ:St}{H:Hp}{s:Shared}{p:Addr}{xs ys:List V}{its its':List Value}{n n':Nat}{f:Obj->Obj}(I:Inv X pins σ H s)(h:H p=some (.lst xs))
 (ho:s.heap.get? p=some { cls:=.type "list",data:=.seq its.toArray n }) (hf:f { cls:=.type "list",data:=.seq its.toArray n }={ cls:=.type "list",data:=.seq its'.toArray n' }) (r:Vals ys its') (hz:ys.length<=sizeLine) (t:Nat) :
 Inv X pins σ (upd H p (.lst ys)) { s with heap:=s.heap.update p f,toks:=t }:=by
 have e:(s.heap.update p f).get? p=some { cls:=.type "list",data:=.seq its'.toArray n' }:=by rw[Heap.get?_update_self f ho (by rw[hf]<;>rfl),hf]
 refine I.write (x:=p) (e:=p) (by rw[h];trivial) (.inl rfl) (λb u hb q=>(Heap.get?_update_other _ _ (Ne.symm hb)).trans q) ⟨_,e⟩ ?_;exact⟨hz,its',n',r,e⟩
noncomputable def D6:V->V->V->Hp->(Hp->Prop)->Prop:=λo i v H Q=>∃p xs k j,o=.ref p/\i=.int k/\H p=some (.lst xs)/\ixN xs.length k=some j/\Q (upd H p (.lst (xs.set j v)))
theorem kh:Bh X D6:=by
 intro pins s σ H o i v ov iv u Q I ro ri rv h;obtain⟨p,xs,k,j,rfl,rfl,hp,hj,q⟩:=h;cases ro;obtain⟨t,rfl⟩:=ri;obtain⟨its,n,r,ho,hz⟩:=I.lst hp;obtain⟨h1,h2,h3,h4⟩:=zm hj;have hl:=r.length;have hn:=kT
 have I':Inv X pins σ (upd H p (.lst (xs.set j v))) { s with heap:=s.heap.update p (Obj.mapSeq (·.setIfInBounds j u)) } :=
  I.lstUpd hp ho (Hd its n j u) (r.set rv j) (by rw[Ow];exact hz) s.toks
 by_cases h0:0<=k
 ·have hk:k.toNat=j:=by rw[seqIndex_of h0 h4]at h1;exact Option.some.inj h1
  exact PySem.W.ki_setAt ho h0 (by omega) (by rw[Nc,<- hl];exact h4) (by rw[hk];exact⟨_,I',q⟩)
 ·have hk:(k+(its.toArray.size:Int)).toNat=j:=by rw[seqIndex_neg (by omega) h3]at h1;rw[Nc,<- hl];exact Option.some.inj h1
  exact PySem.W.ki_setBack ho (by omega) (by rw[Nc,<- hl];exact h3) (by omega) (by rw[hk];exact⟨_,I',q⟩)
theorem Cy(lo hi:Option Int)(n:Nat):(sliceBounds lo hi none n).1=((HT.sIx n 0 lo:Nat):Int)/\(sliceBounds lo hi none n).2.1=((HT.sIx n n hi:Nat):Int)/\(sliceBounds lo hi none n).2.2=1:=by
 refine⟨?_,?_,rfl⟩
 ·cases lo with
  |none=>simp[sliceBounds,HT.sIx]
  |some i =>
   simp only[sliceBounds,HT.sIx,Option.getD_none,show(1:Int)>0 by decide,if_true];by_cases h:i<0
   ·simp only[h,if_true]<;>omega
   ·simp only[h,if_false]<;>omega
 ·cases hi with
  |none=>simp[sliceBounds,HT.sIx]
  |some i =>
   simp only[sliceBounds,HT.sIx,Option.getD_none,show(1:Int)>0 by decide,if_true];by_cases h:i<0
   ·simp only[h,if_true]<;>omega
   ·simp only[h,if_false]<;>omega
theorem Cz(its:List Value)(lo hi:Option Int):slicePick its.toArray lo hi none=((its.drop (HT.sIx its.length 0 lo)).take (HT.sIx its.length its.length hi-HT.sIx its.length 0 lo)).toArray:=by obtain⟨h1,h2,h3⟩:=Cy lo hi its.toArray.size;unfold slicePick;rw[h1,h2,h3];simp only[sliceRange_one,pick_run,Nc]<;>rfl
noncomputable def rE(K:PySem.W.Frag):V->Option Int->Option Int->Hp->VK->Prop:=λx lo hi H Q=>∃a xs,x=.ref a/\SqL K H a xs/\∀p,H p=none->Q (.ref p) (upd H p (.lst (ib xs lo hi)))
theorem CA:SlR X (rE X.K):=by intro pins s σ H x v vl vu lo hi sl Q I rx hs pl pu h;obtain⟨a,xs,rfl,hx,q⟩:=h;cases rx;obtain⟨its,r,ht,hz⟩:=I.list hx;have hlen:=r.length;refine⟨"list",_,slot_list_getitem.lookup,ht.isList.typeIs,?_⟩;refine wpAny_getItem_list_slice ht.isList hs pl pu .none (by simp) ?_ (by rw[Nc]<;>omega);rw[Cz,<- hlen];refine⟨.ref s.heap.objs.size,_,I.laid (t':=s.toks) (o:=.lst (ib xs lo hi)) (λb ob q=>Heap.get?_push_of_some _ q) (MJ _) ?_,rfl,q _ (I.hok.fresh (MJ _))⟩;exact⟨MV (JA xs lo hi) hz,_,0,(r.drop (HT.sIx xs.length 0 lo)).take (HT.sIx xs.length xs.length hi-HT.sIx xs.length 0 lo),Heap.get?_push_size _ rfl⟩
theorem JU:CallR X (.builtin "len") (λxs H Q=>∃p ys,xs=[.ref p]/\(SqL X.K H p ys\/SqT X.K H p ys)/\Q (.int ys.length) H):=by
 intro pins s σ H xs us Q I r h;obtain⟨p,ys,rfl,hq,q⟩:=h;obtain⟨u,rfl,rx⟩:=gR r;cases rx;have hn:=kT;rcases hq with hq |hq
 ·obtain⟨its,r',pl,hz⟩:=I.list hq;have hlen:=r'.length;exact Calls.call_len_list pl.isList (by simp only[Nc]<;>omega) ⟨.int ys.length,H,I.tok _,⟨s.toks+1,by rw[Nc,hlen]⟩,q⟩
 ·obtain⟨its,r',pl,hz⟩:=I.tuple hq;have hlen:=r'.length;exact len_tuple pl (by simp only[Nc]<;>omega) ⟨.int ys.length,H,I.tok _,⟨s.toks+1,by rw[Nc,hlen]⟩,q⟩
theorem CallR.or{f:Value}{r r':List V->Hp->VK->Prop}(h:CallR X f r)(h':CallR X f r'):CallR X f (λxs H Q=>r xs H Q\/r' xs H Q):=by
 intro pins s σ H xs us Q I rs q;rcases q with q |q
 ·exact h pins s σ H xs us Q I rs q
 ·exact h' pins s σ H xs us Q I rs q
theorem JT:CallR X (.type "list") (λxs H Q=>∃p ys,xs=[.ref p]/\(SqL X.K H p ys\/SqT X.K H p ys)/\∀l,H l=none->Q (.ref l) (upd H l (.lst ys))):=by
 intro pins s σ H xs us Q I r h;obtain⟨p,ys,rfl,hq,q⟩:=h;obtain⟨u,rfl,rx⟩:=gR r;cases rx
 have fin:∀(its:List Value),Vals ys its->ys.length<=sizeLine->∀(h':Heap) (c':Nat),(∀b o',s.heap.get? b=some o'->h'.get? b=some o') ->
  h'.get? s.heap.objs.size=some { cls:=.type "list",dict:=none,data:=.seq its.toArray c',slots:=#[] }->EP X pins σ Q (.ref s.heap.objs.size) { s with heap:=h' }:=λits r' hz h' c' kp e =>
  ⟨.ref s.heap.objs.size,_,I.laid (t':=s.toks) kp (MJ _) (show ObjOk X.prog X.w _ h' _ (.lst ys)from⟨hz,its,c',r',e⟩),rfl,q _ (I.hok.fresh (MJ _))⟩
 rcases hq with hq |hq
 ·obtain⟨its,r',pl,hz⟩:=I.list hq;have hlen:=r'.length;obtain⟨o,ho,hc,n,hd⟩:=pl.isList;exact call_list_seq p (.inl rfl) ho hc hd (λh' c' kp e=>fin its r' hz h' c' kp e) (by simp only[Nc]<;>omega)
 ·obtain⟨its,r',pl,hz⟩:=I.tuple hq;have hlen:=r'.length;obtain⟨o,ho,hc,n,hd⟩:=pl;exact call_list_seq p (.inr rfl) ho hc hd (λh' c' kp e=>fin its r' hz h' c' kp e) (by simp only[Nc]<;>omega)
def tyV(K:PySem.W.Frag)(T:String)(x:V)(H:Hp):Prop:=match x with
 |.str _=>T="str"
 |.int _=>T="int"
 |.ref p=>(T="list"/\∃xs,SqL K H p xs)\/(T="tuple"/\∃o,K.lookup p=some o/\o.cls=.type "tuple"/\o.dict=none) \/
  (T="dict"/\((∃kvs,H p=some (.dK kvs))\/∃kvs,H p=some (.dT kvs)))\/(T="set"/\∃S n,H p=some (.set S n))
 |_=>False
theorem vw{pins:List (Addr×Obj)}{σ:St}{H:Hp}{s:Shared}{T:String}{x:V}{v:Value}(I:Inv X pins σ H s)(r:RelV x v)(ty:tyV X.K T x H) :
 s.TypeIs v T/\∀a,v=.ref a->∃ob,s.heap.get? a=some ob/\ob.dict=none:=by
 cases x with
 |str z =>obtain⟨t,rfl⟩:=r;cases(show T="str" from ty);exact⟨typeIs_str s z t,λ_ e=>nomatch e⟩
 |int i =>obtain⟨t,rfl⟩:=r;cases(show T="int" from ty);exact⟨typeIs_int s i t,λ_ e=>nomatch e⟩
 |ref p =>
  cases r;rcases ty with⟨rfl,xs,hq⟩ |⟨rfl,o,hk,hc,hd⟩ |⟨rfl,hk⟩ |⟨rfl,S,n,hk⟩
  ·obtain⟨its,_,pl,_⟩:=I.list hq;refine⟨pl.isList.typeIs,λa e=>?_⟩;cases e;obtain⟨o,n,e,c,hd,_⟩:=pl;exact⟨o,e,hd⟩
  ·refine⟨⟨o,I.kIn p o hk,hc⟩,λa e=>?_⟩;cases e;exact⟨o,I.kIn _ o hk,hd⟩
  ·have z:∃o,s.heap.get? p=some o/\o.ExactDict:=by
    rcases hk with⟨kvs,hk⟩ |⟨kvs,hk⟩
    ·obtain⟨_,_,_,_,o,_,_,e,ex,_⟩:=I.hok p _ hk;exact⟨o,e,ex⟩
    ·obtain⟨_,_,_,_,o,_,_,e,ex,_⟩:=I.hok p _ hk;exact⟨o,e,ex⟩
   obtain⟨o,e,ex⟩:=z;refine⟨⟨o,e,ex.1⟩,λa e2=>?_⟩;cases e2;exact⟨o,e,ex.2.1⟩
  ·obtain⟨o,_,_,_,e,ex,_⟩:=I.hok p _ hk;refine⟨⟨o,e,ex.1⟩,λa e2=>?_⟩;cases e2;exact⟨o,e,ex.2.1⟩
 |_=>exact False.elim ty
def Cj(K:PySem.W.Frag)(T:String)(r:V->List V->Hp->VK->Prop)(to:TE):TE:=λσ H Q=>to σ H λx H1=>tyV K T x H1/\r x [] H1 Q
def tBM(K:PySem.W.Frag)(T:String)(r:V->List V->Hp->VK->Prop)(to:TE)(t:TA):TE:=λσ H Q=>to σ H λx H1=>tyV K T x H1/\t σ H1 λxs H2=>r x xs H2 Q
variable {o e:Expr}{es:List Expr}{to:TE}{t:TA}{name:Str}{apos cpos:Pos}{T id:String}{r:V->List V->Hp->VK->Prop}
theorem yl(pa:PlainAttrs T)(slot:Slot T name id)(hty:typeOf (.builtin id)=pure (.type "method_descriptor"))(hm:MtR X id r)(ho:PE X o to)
 (hbase:attributeBase o name X.env (eval o X.env)=eval o X.env:=by rfl) (hline:(apos.endLine == cpos.line)=true:=by rfl):PE X (.Call (.Attribute o name apos) [] [] cpos) (Cj X.K T r to):=by
 intro pins s σ H Q I h;refine wpAny_Call_method0_late hbase hline (thn (ho pins s σ H _ I h) λv s1 ⟨x,H1,I1,r1,ty,q1⟩=>?_);obtain⟨h1,h2⟩:=vw I1 r1 ty;exact⟨T,id,pa,slot,hty,h1,h2,Calls.callWith_builtin rfl (PySem.evalArgs_none (hm pins s1 σ H1 x [] v [] Q I1 r1 .nil q1))⟩
theorem yn(pa:PlainAttrs T)(slot:Slot T name id)(hty:typeOf (.builtin id)=pure (.type "method_descriptor"))(hm:MtR X id r)(ho:PE X o to)(ha:PA X (e::es) t)
 (hbase:attributeBase o name X.env (eval o X.env)=eval o X.env:=by rfl)
 (hfew:((backTo cpos (starEach (e::es) X.env)).all (λx=>!x.1)&&(backToKw cpos (keywordEach [] X.env)).all (λx=>x.1.isSome)
   && decide ((e::es).length+([]:List Keyword).length+(if([]:List Keyword).isEmpty then 0 else 1)<30))=true:=by rfl)
 (hline:(apos.endLine == cpos.line)=true:=by rfl) (hs:starEach (e::es) X.env=(false,eval e X.env)::starEach es X.env:=by rfl) (hplain:(backTo cpos (starEach es X.env)).any (·.1)=false:=by rfl) :
 PE X (.Call (.Attribute o name apos) (e::es) [] cpos) (tBM X.K T r to t):=by
 intro pins s σ H Q I h;refine wpAny_Call_method_late hbase hfew hline rfl (thn (ho pins s σ H _ I h) λv s1 ⟨x,H1,I1,r1,ty,q1⟩=>?_);obtain⟨h1,h2⟩:=vw I1 r1 ty;refine⟨T,id,pa,slot,hty,h1,h2,?_⟩;have hA:=ha cpos pins s1 σ H1 _ I1 q1;rw[hs]at hA ⊢;refine Calls.callWith_builtin (by show(false || (backTo cpos (starEach es X.env)).any (·.1))=false;rw[hplain]<;>rfl) (Calls.evalArgs_plain ?_);exact thn hA λus s2 ⟨vs,H2,I2,r2,q2⟩=>hm pins s2 σ H2 x vs v us Q I2 r1 r2 q2
end
noncomputable def MtM(X:Cx)(id:String)(r:V->List V->Hp->VK->Prop):Prop :=
 ∀(pins:List (Addr×Obj)) (s:Shared) (σ:St) (H:Hp) (x:V) (xs:List V) (v:Value) (us:List Value) (Q:VK),Inv X pins σ H s->RelV x v->Vals xs us->r x xs H Q ->
  wpAny (model X.prog X.w) X.A (call (.builtin id) (v::us)) (EP X pins σ Q) X.xe s
theorem Vals.one:∀{x:V} {us:List Value},Vals [x] us->∃u,us=[u]/\RelV x u
 |_,_,.cons r .nil=>⟨_,rfl,r⟩
theorem Vals.two:∀{x y:V} {us:List Value},Vals [x,y] us->∃u v,us=[u,v]/\RelV x u/\RelV y v
 |_,_,_,.cons r (.cons q .nil)=>⟨_,_,rfl,r,q⟩
theorem Vals.zero:∀{us:List Value},Vals [] us->us=[]
 |_,.nil=>rfl
theorem Vals.dropLast{xs:List V}{us:List Value}(h:Vals xs us):Vals xs.dropLast us.dropLast:=by
 induction h with
 |nil=>exact .nil
 |cons r t ih =>
  cases t with
  |nil=>exact .nil
  |cons q t'=>exact .cons r ih
theorem Vals.eraseIdx:∀{xs:List V} {us:List Value} (i:Nat),Vals xs us->Vals (xs.eraseIdx i) (us.eraseIdx i)
 |_,_,_,.nil=>.nil
 |_,_,0,.cons _ t=>t
 |_,_,i+1,.cons r t=>.cons r (Vals.eraseIdx i t)
theorem Vals.reverse{xs:List V}{us:List Value}(h:Vals xs us):Vals xs.reverse us.reverse:=by
 induction h with
 |nil=>exact .nil
 |cons r t ih=>rw[List.reverse_cons,List.reverse_cons];exact Vals.append ih (.cons r .nil)
theorem Vals.rep{xs:List V}{us:List Value}(h:Vals xs us):∀k:Nat,Vals (List.replicate k xs).flatten (List.replicate k us).flatten
 |0=>.nil
 |k+1=>by rw[Ol,Ol,OY,OY];exact Vals.append h (Vals.rep h k)
theorem Jp{α:Type}(l:List α):l.eraseIdx (l.length-1)=l.dropLast:=by
 induction l with
 |nil=>rfl
 |cons a r ih =>
  cases r with
  |nil=>rfl
  |cons b r =>
   have e:(a::b::r).length-1=((b::r).length-1)+1:=by have h1:(a::b::r).length=r.length+2:=rfl;have h2:(b::r).length=r.length+1:=rfl;omega
   rw[e,List.eraseIdx_cons_succ,ih]
   all_goals rfl
theorem zQ(its:List Value):∀(k:Nat) (acc:List Value),
 List.foldl (λx1 x2=>x1++x2) acc.toArray (List.replicate k its.toArray)=(acc++(List.replicate k its).flatten).toArray
 |0,acc=>by simp
 |k+1,acc=>by
  have e:acc.toArray++its.toArray=(acc++its).toArray:=by simp
  have e2:(acc++its)++(List.replicate k its).flatten=acc++(List.replicate (k+1) its).flatten:=by rw[Ol,OY,Ox]
  rw[<- e2,<- zQ its k (acc++its),<- e,Ol,List.foldl_cons]
section
variable {X:Cx}{pins:List (Addr×Obj)}{σ:St}{H:Hp}{s:Shared}{l b:Addr}{xs ys zs:List V}
theorem Inv.lset{its its':List Value}{n:Nat}{f:Array Value->Array Value}{t':Nat}(I:Inv X pins σ H s)(hH:H l=some (.lst xs))
 (e:s.heap.get? l=some { cls:=.type "list",data:=.seq its.toArray n }) (hf:f its.toArray=its'.toArray) (hv:Vals ys its') (hz:ys.length<=sizeLine) :
 Inv X pins σ (upd H l (.lst ys)) { s with heap:=s.heap.update l (Obj.mapSeq f),toks:=t' }:=by
 have q:=PySem.IsL.update e f;rw[hf]at q;refine I.write (x:=l) (e:=l) (by rw[hH];exact trivial) (.inl rfl) (λb' u hb hu=>(Heap.get?_update_other s.heap (Obj.mapSeq f) (Ne.symm hb)).trans hu) ⟨_,q⟩ ?_;exact⟨hz,its',_,hv,q⟩
theorem Inv.lnew{its:List Value}{t':Nat}(I:Inv X pins σ H s)(hv:Vals ys its)(hz:ys.length<=sizeLine) :
 Inv X pins σ (upd H s.heap.objs.size (.lst ys)) { s with heap:=s.heap.push { cls:=.type "list",data:=.seq its.toArray },toks:=t' } :=
 I.laid (λ_ _ q=>Heap.get?_push_of_some _ q) (MJ _) ⟨hz,its,0,hv,Heap.get?_push_size _ rfl⟩
theorem Inv.fresh(I:Inv X pins σ H s):H s.heap.objs.size=none:=I.hok.fresh (MJ _)
theorem Inv.lstM(I:Inv X pins σ H s)(hH:H l=some (.lst xs)):xs.length<=sizeLine/\∃(its:List Value) (n:Nat),Vals xs its/\xs.length=its.length/\s.heap.get? l=some { cls:=.type "list",data:=.seq its.toArray n }:=by obtain⟨z,its,n,r,e⟩:=I.hok l _ hH;exact⟨z,its,n,r,r.length,e⟩
theorem GC{n:Nat}(h:n<=sizeLine):Builtin.List.listTooLong n=false:=by unfold Builtin.List.listTooLong;exact decide_eq_false (by omega)
end
section
variable {X:Cx}
noncomputable def x5:V->List V->Hp->VK->Prop:=λx vs H Q=>∃l xs y,x=.ref l/\vs=[y]/\H l=some (.lst xs)/\xs.length<sizeLine/\Q .non (upd H l (.lst (xs++[y])))
theorem GQ:MtM X "list.append" x5:=by intro pins s σ H x vs v us Q I rx rv h;obtain⟨l,xs,y,rfl,rfl,hH,hz,q⟩:=h;cases rx;obtain⟨u,rfl,ru⟩:=rv.one;obtain⟨z,its,n,r,hl,e⟩:=I.lstM hH;refine call_meets F.slot_list_append ⟨_,e,rfl⟩ F.entry_list_append (F.args_list_append_2 _ _) (PySem.list_append l its.toArray n u (by rw[Nc];omega)) ⟨e,?_⟩;refine⟨.non,_,I.lset (its':=its++[u]) hH e (by simp) (r.append (.cons ru .nil)) ?_,rfl,q⟩;rw[MX,List.length_singleton];omega
noncomputable def D9:V->List V->Hp->VK->Prop:=λx vs H Q=>∃l xs y,x=.ref l/\vs=[]/\H l=some (.lst xs)/\xs[xs.length-1]?=some y/\Q y (upd H l (.lst xs.dropLast))
theorem GO:MtM X "list.pop" D9:=by
 intro pins s σ H x vs v us Q I rx rv h;obtain⟨l,xs,y,rfl,rfl,hH,hy,q⟩:=h;cases rx;have hus:=rv.zero;subst hus;obtain⟨z,its,n,r,hl,e⟩:=I.lstM hH;obtain⟨u,hu,ru⟩:=r.get hy
 have hy':its.toArray[its.toArray.size-1]?=some u:=by show its.toArray[its.length-1]?=some u;rw[<- Array.getElem?_toList,<- hl];exact hu
 refine call_meets F.slot_list_pop ⟨_,e,rfl⟩ F.entry_list_pop (F.args_list_pop_1 _) (MeetsSeq.list_pop_last l its.toArray n u hy' (by rw[Nc];omega)) ⟨e,?_⟩;refine⟨y,_,I.lset (its':=its.dropLast) hH e ?_ r.dropLast ?_,ru,q⟩
 ·show its.toArray.eraseIdxIfInBounds (its.toArray.size-1)=its.dropLast.toArray;rw[Nc,List.eraseIdxIfInBounds_toArray,Jp]
 ·rw[List.length_dropLast];omega
noncomputable def D7:V->List V->Hp->VK->Prop:=λx vs H Q=>∃l xs,x=.ref l/\vs=[]/\H l=some (.lst xs)/\Q .non (upd H l (.lst xs.reverse))
theorem GN:MtM X "list.reverse" D7:=by intro pins s σ H x vs v us Q I rx rv h;obtain⟨l,xs,rfl,rfl,hH,q⟩:=h;cases rx;have hus:=rv.zero;subst hus;obtain⟨z,its,n,r,hl,e⟩:=I.lstM hH;refine call_meets F.slot_list_reverse ⟨_,e,rfl⟩ F.entry_list_reverse (F.args_list_reverse_1 _) (AutoSeq1.list_reverse_list_0 l its.toArray n (by rw[Nc];omega)) ⟨e,?_⟩;refine⟨.non,_,I.lset (its':=its.reverse) hH e (by simp) r.reverse ?_,rfl,q⟩;rw[List.length_reverse];omega
def D8:R2:=λx y H Q=>∃l k xs,x=.ref l/\y=.int k/\H l=some (.lst xs) /\ -(2^63)<=k/\k<2^63/\xs.length*k.toNat<=sizeLine /\
 ∀p,H p=none->Q (.ref p) (upd H p (.lst (List.replicate k.toNat xs).flatten))
theorem Hm{α:Type}(xs:List α)(k:Nat):(List.replicate k xs).flatten.length=k*xs.length:=by
 induction k with
 |zero=>simp
 |succ k ih=>rw[Ol,OY,MX,ih,Nat.succ_mul,Nat.add_comm]
theorem rV:OpR X (binaryOp .Mult) D8:=by
 intro pins s σ H x y v u Q I rx ry h;obtain⟨l,k,xs,rfl,rfl,hH,h1,h2,hz,q⟩:=h;cases rx;obtain⟨t,rfl⟩:=ry;obtain⟨z,its,n,r,hl,e⟩:=I.lstM hH;have hlen:its.toArray.size*k.toNat<=sizeLine:=by rw[Nc,<- hl];exact hz
 have hcap:¬its.toArray.size*k.toNat>(2^63-1)/8:=by
  have:(sizeLine:Nat)<=(2^63-1)/8:=by decide
  omega
 have hfit:¬(!Builtin.List.listFitsIndex k)=true:=by rw[fitsIndex_both h1 h2];exact N8
 have hlong:¬Builtin.List.listTooLong (its.toArray.size*k.toNat)=true:=by rw[GC hlen];exact N8
 have hnew:List.foldl (λx1 x2=>x1++x2) #[] (List.replicate (if its.toArray.isEmpty=true then 0 else k.toNat) its.toArray)=(List.replicate k.toNat its).flatten.toArray:=by
  have f0:∀m:Nat,List.foldl (λx1 x2=>x1++x2) #[] (List.replicate m its.toArray)=(List.replicate m its).flatten.toArray:=λm=>by have:=zQ its m [];rw[List.nil_append]at this;exact this
  rw[f0];cases its with
  |nil=>simp
  |cons a r'=>rw[if_neg (by simp)]
 refine wpAny_binaryOp_repeat_ref (T:="list") (U:="int") (by decide) ⟨_,e,rfl⟩ (λs'=>typeIs_int s' k t) noFill_list_mul F.fills_int_mul F.slot_int_rmul repeat_list F.slot_int_index.lookup
  (call_meets F.slot_int_rmul (typeIs_int s k t) F.entry_int_rmul (F.args_int_rmul_2 _ _) (int___rmul___int_list k t l its.toArray n)
    ⟨e,rfl,⟨_,e,rfl⟩,call_meets F.slot_list_mul ⟨_,e,rfl⟩ F.entry_list_mul (F.args_list_mul_2 _ _) (AutoListH.list___mul___list_int_3 l its.toArray n k t hfit hcap hlong) ⟨e,?_⟩⟩)
 rw[hnew];exact⟨.ref _,_,I.lnew (t':=s.toks) (r.rep k.toNat) (by rw[Hm,Oa];exact hz),rfl,q _ I.fresh⟩
end
section
variable {prog:Program}{w:World}{A:Around}{E:Value->Shared->Prop}{s:Shared}
end
section
variable {X:Cx}
end
end L2
namespace Att
open PySem PySem.W PySem.Calls PyProof.Rows
theorem HH{P:Params}{h:Heap}:∀(ns:Ex) (vs:List Value),WellAll P h vs (ns.map WData.int)->IntsAre vs ns:=by
 intro ns
 induction ns with
 |nil =>intro vs w;rw[List.map_nil]at w;cases w;exact .nil
 |cons n ns ih =>
  intro vs w;rw[Nw]at w;cases w with
  |cons a b =>cases a;exact .cons _ _ (ih _ b)
theorem CW{l:OpenLaw}{n:Nat}(hn:l.most=some n){P:Params}{h:Heap}{args:List WData}{vals:List Value}
 (hpre:l.row.toRowW.claim.pre args=true) (hwl:WellAll P h vals args) :
 ∃a vs ns,vals=[Value.ref a]/\args=[WData.list (ns.map WData.int)]/\h.get? a=some { cls:=.type "list",data:=.seq vs.toArray }/\IntsAre vs ns/\ns.length<=n:=by
 have hsh:WShape.hasAll [] args [.list .int]=true:=(pre_splitW hpre).1;have hc:l.pre.holds [] { args:=args }=true:=(pre_splitW hpre).2;obtain⟨d,r,rfl,h1,h2⟩:=hasAllW_cons hsh;obtain rfl:=hasAllW_nil h2;obtain⟨xs,rfl,h3⟩:=hasW_list h1;obtain⟨ns,rfl⟩:=items_int h3
 have hlen:ns.length<=n:=by
  unfold OpenLaw.pre at hc
  have h4:(WTm.not (.lt (.lit (.int (n:Int))) (.len (.arg 0)))).holds [] { args:=[.list (ns.map .int)] }=true:=by have h4:=(holds_andW hc).1;rw[hn]at h4;exact h4
  have h5:=condW_of h4 (w_not (w_lt w_lit (w_len_list (w_arg rfl))));rw[MI]at h5;refine NZ λq=>?_
  have q':(n:Int)<((ns.length:Nat):Int):=by omega
  first
   | (rw[decide_eq_true q']at h5;exact absurd h5 (by decide))
   | (simp at h5;omega)
 cases hwl with
 |cons w1 w2 =>
  cases w2;cases w1 with
  |list ho hall=>exact⟨_,_,ns,rfl,rfl,ho,HH ns _ hall,hlen⟩
theorem Ev(l:OpenLaw)(args:List WData):l.row.toRowW.claim.post args (.bool true) args=true :=
 postW_of (r:=l.row.toRowW) (X:=(true == true))
  (show WShape.has [] (.bool true) .bool=true by first |rfl |decide |simp[WShape.has,WShape.arms,WShape.armsAll])
  (show(WTm.eq .res (.lit (.bool true))).value [] { args:=args,res:=some (.bool true),after:=args }=some (.bool (true == true))from w_eq_bool (w_res rfl) w_lit) rfl
theorem attach_call{l:OpenLaw}{n:Nat}{q:Program}{loose:List Str}{XP:(Str->Option Value)->Heap->Prop}{YP:World->Heap->Prop}{d:DefRec}
 (hn:l.most=some n) (hdf:d.params.defaults=[])
 (call:∀(w:World) (s₀ s₁:Shared) (mg mb:Str->Option Value) (fa:Addr) (o:Obj) (pm cd doc:Value) (a:Addr) (vs:List Value) (ns:Ex),
   Ground q loose [] XP w s₀ mg mb s₁.heap->YP w s₁.heap ->
   s₁.heap.get? fa=some o->o.data=.func (docDef d.name d.params d.body d.scope pm cd doc)->s₁.heap.CodeRec cd d.name->mg d.name=some (.ref fa) ->
   s₁.heap.get? a=some { cls:=.type "list",data:=.seq vs.toArray }->IntsAre vs ns->ns.length<=n->s₁.gens=#[] ->
   codeAny (model l.prog w) callerA (.call (.ref fa) ⟨[.ref a],[]⟩) (λr s'=>r=.ok (.ret (.bool true))/\OldK s₁.heap s'.heap/\s'.os=s₁.os/\AllBare s'.gens) s₁) :
 WalkO q loose XP YP l.row.toRowW d [] (λf vs=>PySem.call f vs):=by
 intro w s₀ s₁ mg mb G Y fa o pm cd doc dV kV ho hd hcd hD hmg hg args vals as hpre hlay hrd hwl hlo;obtain rfl:dV=.none:=Dflts.none hD hdf;obtain rfl:kV=.none:=Dflts.noKw hD;obtain⟨a,vs,ns,rfl,rfl,hobj,hints,hlen⟩:=CW hn hpre hwl;refine enter_call (codeAny_mono (call w s₀ s₁ mg mb fa o pm cd doc a vs ns G Y ho (fd_plain hd) hcd hmg hobj hints hlen hg) λr s' hq=>?_);obtain⟨rfl,h2,h3,h4⟩:=hq;exact⟨.inl ⟨.bool true,.bool true,[],rfl,λ_=>rfl,.bool true,Ev l _,λ_=>⟨List.Pairwise.nil,λ_ hm=>(nomatch hm)⟩⟩,h2,h3,h4⟩
section
variable {prog:Program}{w:World}{A:Around}{E:Value->Shared->Prop}{s:Shared}{K:Frag}
end
end Att
namespace L2
open PySem PySem.Spec PyProof.Rows
theorem vk:∀{vs:List Value} {ns:Ex},IntsAre vs ns->Vals (ns.map V.int) vs
 |_,_,.nil=>.nil
 |_,_,.cons n t h=>.cons ⟨t,rfl⟩ (vk h)
def uJ(H:Hp):Prop:=∀b,H b=none\/∃o xs,H b=some (.frz o (.lst xs))
noncomputable def g9(s:Stmt)(j:Nat):Stmt:=match s with
 |.ClassDef _ _ _ body _ _ _ _ _ _ _=>body.getD j (.Pass ⟨0,0,0,0⟩)
 |_=>.Pass ⟨0,0,0,0⟩
noncomputable def dB(s:Stmt):Arguments:=match s with
 |.FunctionDef _ a _ _ _ _ _ _ _ _=>a
 |_=>{ posonlyargs:=[],args:=[],vararg:=none,kwonlyargs:=[],kw_defaults:=[],kwarg:=none,defaults:=[] }
noncomputable def cW(s:Stmt):List Stmt:=match s with
 |.FunctionDef _ _ b _ _ _ _ _ _ _=>b
 |_=>[]
noncomputable def aA(s:Stmt):Scope:=match s with
 |.FunctionDef _ _ _ _ _ _ sc _ _ _=>sc
 |_=>{ kind:=.function,names:=[],isGenerator:=false,isCoroutine:=false }
abbrev CX0:CXT:=λ_ _ _ _ _ _=>False
abbrev E0:XK:=λ_ _ _=>False
theorem bU{X:Cx}:gO CX0 X E0:=λ_ _ _ _ _ _ _ h=>h.elim
structure Fun(K:PySem.W.Frag)(x qual:Str)(st:Stmt)(f:Addr)(fd:FuncData):Prop where
 ex:∃(oc:Value) (od:Option Addr) (kV doc pm:Value) (an:Option Addr) (cdv ct:Value) (osl:Array (Option Value)),
  fd=PySem.W.fnOf x qual (dB st) (cW st) (aA st) .none kV doc pm an cdv ct/\K.lookup f=some ⟨oc,od,.func fd,osl⟩/\PySem.W.codeIn K cdv qual=true
 kp:PySem.W.keepIn K (.ref f)=true
section
variable {P:Program}{w:World}{K:PySem.W.Frag}{mg:Str->Option Value}{base:Heap}
theorem Fun.ok{x qual:Str}{st:Stmt}{f:Addr}{fd:FuncData}{N ps:List Str}{k:Nat}{sp:Sp}(F:Fun K x qual st f fd)(S:FnScope N ps (aA st))(len:∀vs H Q E,sp vs H Q E->vs.length=ps.length)
 (hbody:∀(cdv:Value) (A:Around) (outer:List Env) (s:Shared) (H:Hp) (vs:List V) (Q:VK) (E:XK),Room k (A.deeper (envOfC qual (aA st) s.heap.objs.size f cdv))->sp vs H Q E ->
   ∃t,PSs (bX CX0 P w K mg base N qual (aA st) f cdv A outer s H E).nox (cW st) t/\t { nx:=λ_ H'=>Q .non H',rt:=Q } (start N vs) H):FnOk P w K mg base CX0 (k+1) f fd ps sp:=by
 obtain⟨oc,od,kV,doc,pm,an,cdv,ct,osl,rfl,lk,hcd⟩:=F.ex;refine nK lk hcd S len λA outer s H vs Q E hr hsp=>?_
 obtain⟨t,h,q⟩:=hbody cdv A outer s H vs Q E hr hsp;exact⟨t,h.nox,q⟩
theorem Fun.binds{x qual:Str}{st:Stmt}{f:Addr}{fd:FuncData}{ps:List Str}(F:Fun K x qual st f fd)
 (h:∀(kV doc pm:Value) (an:Option Addr) (cdv ct:Value) (us:List Value),us.length=ps.length->bindArgs (PySem.W.fnOf x qual (dB st) (cW st) (aA st) .none kV doc pm an cdv ct) ⟨us,[]⟩=pure (ps.zip us)):Binds K fd ps []:=by
 obtain⟨oc,od,kV,doc,pm,an,cdv,ct,osl,rfl,lk,hcd⟩:=F.ex;exact .all (h kV doc pm an cdv ct)
theorem tj{x qual:Str}{st:Stmt}{f:Addr}{oc:Value}{od an:Option Addr}{osl:Array (Option Value)}{kV doc pm cdv ct:Value}(l:K.lookup f=some ⟨oc,od,.func (PySem.W.fnOf x qual (dB st) (cW st) (aA st) .none kV doc pm an cdv ct),osl⟩)
 (c:PySem.W.codeIn K cdv qual=true) (k:PySem.W.keepIn K (.ref f)=true):Fun K x qual st f (PySem.W.fnOf x qual (dB st) (cW st) (aA st) .none kV doc pm an cdv ct):=⟨⟨oc,od,kV,doc,pm,an,cdv,ct,osl,rfl,l,c⟩,k⟩
end
section
variable {X:Cx}
theorem pv(i:Nat){x:Str}{pos:Pos}(hN:X.N[i]?=some x:=by rfl)(hv:Vis X.env.scope x:=by first |exact Or.inl rfl |exact Or.inr (Or.inl rfl) |exact Or.inr (Or.inr rfl))(hd:(x == ("__debug__":Str))=false:=by decide)
 (hcd:(x == ("__classdict__":Str))=false:=by decide):PE X (.Name x pos) (vB i):=EH hN hv hd hcd
end
def Same(H H':Hp):Prop:=∀b o,H b=some o->H' b=some o
theorem Same.refl(H:Hp):Same H H:=λ_ _ h=>h
theorem Same.trans{H H1 H2:Hp}(a:Same H H1)(b:Same H1 H2):Same H H2:=λc o h=>b c o (a c o h)
theorem Same.free{H H':Hp}(e:Same H H'){l:Addr}(h:H' l=Option.none):H l=Option.none:=by
 cases q:H l with
 |none=>rfl
 |some o =>rw[e l o q]at h;cases h
theorem Same.seq{K:PySem.W.Frag}{H H':Hp}{a:Addr}{xs:List V}(e:Same H H')(h:SqL K H a xs):SqL K H' a xs:=by
 rcases h with(h |⟨o,h⟩) |h
 ·exact .inl (.inl (e _ _ h))
 ·exact .inl (.inr ⟨o,e _ _ h⟩)
 ·exact .inr h
end L2
set_option maxHeartbeats 4000000
namespace L2
open PySem PySem.Spec PyProof.Rows
noncomputable def fM(X:Cx)(N:List Str)(scope:Scope)(cl:List (Str×Addr))(C:Addr)(s₀:Shared)(H₀:Hp)(ex:List Addr):Cx where
 prog:=X.prog
 w:=X.w
 K:=X.K
 mg:=X.mg
 base:=X.base
 A:=X.A
 N:=N
 s₀:=s₀
 H₀:=H₀
 env:=compEnvC scope cl C X.env
 outer:=X.stack
 stack:=X.stack
 ex:=ex
 fn:=λ_=>false
 calm:=X.calm
 pn:=[]
 xe:=λ_ _=>False
structure CompOk(X:Cx)(fr:List Str)(js:List Nat)(scope:Scope)(cl:List (Str×Addr)):Prop where
 clos:closureFor scope X.env=pure cl
 cell:∀y∈scope.names,y.2≠.cell
 kind:scope.kind=.function
 names:∀y∈scope.names,y.2=.local->scope.names.lookup y.1=some .local
 clin:∀p∈cl,X.env.cells.lookup p.1=some p.2
 has:scope.names.all (λp=>p.2 != .free || (cl.lookup p.1).isSome)=true
 fre:Paired (λ(x:Str) (j:Nat)=>X.N[j]?=some x/\(X.env.scope.names.lookup x=some .cell\/X.env.scope.names.lookup x=some .free)/\scope.names.lookup x=some .free) fr js
theorem rq{env:Env}{x:Str}{k':NameKind}:∀{names:List (Str×NameKind)},
 (names.map λ(n,k)=>if(k == NameKind.free&&env.scope.kind == .function&&env.kindOf n == some .cell)then(n,NameKind.cell)else(n,k)).lookup x=some k' ->
 ∃k,names.lookup x=some k/\(k'=k\/(k=.free/\k'=.cell))
 | [],h=>by simp at h
 | (n,k)::r,h=>by
  have ih:=@rq env x k' r;change List.lookup x ((if(k == NameKind.free&&env.scope.kind == .function&&env.kindOf n == some .cell)=true then(n,NameKind.cell)else(n,k))::_)=_ at h
  by_cases hc:(k == NameKind.free&&env.scope.kind == .function&&env.kindOf n == some .cell)=true
  ·rw[if_pos hc]at h;cases hx:x == n with
   |true =>simp only[Om,hx]at h ⊢;cases h;refine⟨k,rfl,.inr ⟨?_,rfl⟩⟩;simp only[Bool.and_eq_true,beq_iff_eq]at hc;exact hc.1.1
   |false =>simp only[Om,hx]at h ⊢;exact ih h
  ·rw[if_neg hc]at h;cases hx:x == n with
   |true =>simp only[Om,hx]at h ⊢;cases h;exact⟨_,rfl,.inl rfl⟩
   |false =>simp only[Om,hx]at h ⊢;exact ih h
theorem xS{env:Env}{x:Str}:∀{names:List (Str×NameKind)},names.lookup x=some .free ->
 (names.map λ(n,k)=>if(k == NameKind.free&&env.scope.kind == .function&&env.kindOf n == some .cell)then(n,NameKind.cell)else(n,k)).lookup x=some .cell \/
 (names.map λ(n,k)=>if(k == NameKind.free&&env.scope.kind == .function&&env.kindOf n == some .cell)then(n,NameKind.cell)else(n,k)).lookup x=some .free
 | [],h=>by simp at h
 | (n,k)::r,h=>by
  have ih:=@xS env x r;show List.lookup x ((if(k == NameKind.free&&env.scope.kind == .function&&env.kindOf n == some .cell)=true then(n,NameKind.cell)else(n,k))::_)=_\/List.lookup x ((if(k == NameKind.free&&env.scope.kind == .function&&env.kindOf n == some .cell)=true then(n,NameKind.cell)else(n,k))::_)=_;by_cases hc:(k == NameKind.free&&env.scope.kind == .function&&env.kindOf n == some .cell)=true
  ·rw[if_pos hc];cases hx:x == n with
   |true=>simp only[Om,hx];exact .inl trivial
   |false=>simp only[Om,hx]at h ⊢;exact ih h
  ·rw[if_neg hc];cases hx:x == n with
   |true =>simp only[Om,hx]at h ⊢;cases h;exact .inr rfl
   |false=>simp only[Om,hx]at h ⊢;exact ih h
noncomputable def iR(n:Nat)(js:List Nat)(σ:St):St:=List.replicate n none++js.map λj=>(σ[j]?).join
def uN(n:Nat)(js:List Nat)(g:TG)(te:TE)(σ:St)(Q:VK)(J:It)(H1:Hp):Prop:=∃W:Nat->Nat->List V->St->Hp->Prop,(∃m,W 0 m [] (iR n js σ) H1) /\
 ∀i m ys σ' H',W i m ys σ' H' ->
  (J.stop i H'/\∀p,H' p=none->Q (.ref p) (upd H' p (.lst ys))) \/
  (J.go i H'/\ys.length<sizeLine/\∃N:V->St->Hp->Prop,(∀y σ'' H'',N y σ'' H''->∃m',m'<m/\W (i+1) m' (ys++[y]) σ'' H'')/\∀x H2,J.yld i H' x H2->g x σ' H2 λσ3 H3=>te σ3 H3 λy H4=>N y σ3 H4)
def vJ(n:Nat)(js:List Nat)(wi:TI)(g:TG)(te:TE):TE:=λσ H Q=>wi σ H λJ H1=>uN n js g te σ Q J H1
noncomputable def Kl(X:Cx)(pins:List (Addr×Obj))(σ:St)(Q:VK)(D C:Addr)(s':Shared):Prop :=
 ∃H2,Inv X pins σ H2 s'/\Q (.ref D) H2/\H2 C=none/\C≠X.env.locals/\X.s₀.heap.objs.size<=C/\(∀x c,X.env.cells.lookup x=some c->c≠C)/\(∀p∈X.pn++pins,p.1≠C)/\∃m,s'.heap.Ns C m
section
variable {X:Cx}{own fr:List Str}{js:List Nat}{scope:Scope}{cl:List (Str×Addr)}{elt target iter:Expr}{pos:Pos}{wi:TI}{g:TG}{te:TE}
theorem ig(O:CompOk X fr js scope cl){x:Str}{c:Addr}(e:cl.lookup x=some c):X.env.cells.lookup x=some c:=O.clin (x,c) (PySem.mem_of_lookup e)
theorem Aq{pins:List (Addr×Obj)}{σ:St}{H:Hp}{s:Shared}{fp:List Addr}{C:Addr}(O:CompOk X fr js scope cl)(I:Inv X pins σ H s)(hC:s.heap.objs.size<=C)(hf:∀b∈fp,fT X pins H b)(ho:∀b∈fp,b<s.heap.objs.size) :
 (fM X (own++fr) scope cl C s H fp).Ok:=by
 refine⟨I.ok.mod,O.kind,I.ok.glob,I.ok.blt,hC,λx y c h1 h2=>I.ok.inj x y c (ig O h1) (ig O h2),λx hx=>?_,λx c h=>(by cases h),I.ok.hd,I.ok.frames,.inl rfl,λb hb=>?_,I.bs,?_,λb o e hb=>?_,λb hb hb'=>?_,I.stack,I.stkFree⟩
 ·have key:scope.names.lookup x=some .free:=by
   have hx':(scope.names.map λ(n,k)=>if(k == NameKind.free&&X.env.scope.kind == .function&&X.env.kindOf n == some .cell)then(n,NameKind.cell)else(n,k)).lookup x=some .cell \/
    (scope.names.map λ(n,k)=>if(k == NameKind.free&&X.env.scope.kind == .function&&X.env.kindOf n == some .cell)then(n,NameKind.cell)else(n,k)).lookup x=some .free:=hx
   rcases hx' with h |h
   ·obtain⟨k,e,z⟩:=rq h;rcases z with z |⟨z,_⟩
    ·subst z;exact absurd rfl (O.cell _ (PySem.mem_of_lookup e))
    ·subst z;exact e
   ·obtain⟨k,e,z⟩:=rq h;rcases z with z |⟨_,z⟩
    ·subst z;exact e
    ·cases z
  have hm:=List.all_eq_true.mp O.has _ (PySem.mem_of_lookup key);have hs:(cl.lookup x).isSome=true:=by simpa using hm
  exact Option.isSome_iff_exists.mp hs
 ·obtain⟨f0,f1,f2,f3,f4,f5⟩:=hf b hb;exact⟨M7 (Nd (ho b hb) hC),λx c e=>f4 x c (ig O e)⟩
 ·exact MV I.ok.bsz I.sz
 ·obtain⟨f0,f1,f2,f3,f4,f5⟩:=hf b hb;rcases f3 with z |z
  ·exact I.ok.noex b o e z
  ·exact absurd (Nd (Heap.lt_size e) (MV I.ok.bsz z)) (NC _)
 ·obtain⟨f0,f1,f2,f3,f4,f5⟩:=hf b hb;rcases MM.mp (I.stkSub b hb')with z |z
  ·exact f1 z
  ·exact f2 z
theorem Paired.idx{α β:Type}{F:α->β->Prop}:∀{l₁:List α} {l₂:List β},Paired F l₁ l₂->∀(i:Nat) (a:α) (b:β),l₁[i]?=some a->l₂[i]?=some b->F a b
 |_,_,.nil,_,_,_,h,_=>by simp at h
 |_,_,.cons r _,0,a,b,h1,h2=>by simp at h1 h2;subst h1;subst h2;exact r
 |_,_,.cons _ t,i+1,a,b,h1,h2=>Paired.idx t i a b (by simpa using h1) (by simpa using h2)
theorem Jz{pins:List (Addr×Obj)}{σ:St}{H:Hp}{s s':Shared}{fp:List Addr}{C:Addr}{m:Str->Option Value}(O:CompOk X fr js scope cl)(hl:fr.length=js.length)(I:Inv X pins σ H s)(hC:s.heap.objs.size<=C)(hf:∀b∈fp,fT X pins H b)
 (ho:∀b∈fp,b<s.heap.objs.size) (os:s'.os=s.os) (hg:s'.gens=s.gens) (old:∀b o,s.heap.get? b=some o->s'.heap.get? b=some o) (hn:s'.heap.Ns C m) :
 Inv (fM X (own++fr) scope cl C s H fp) [] (iR own.length js σ) H s':=by
 refine⟨Aq O I hC hf ho,os,by rw[hg];exact I.bare,Un.kept old,⟨m,hn,λi x v e1 e2 e3=>?_⟩,λx c e=>?_,I.hok.fresh hC,λx c e=>I.freeC x c (ig O e),λp hp=>absurd (show p∈([]:List (Addr×Obj))from hp) (by simp),I.hok.kept old,?_⟩
 ·unfold iR at e2
  have e1':(own++fr)[i]?=some x:=e1;by_cases hi:i<own.length
  ·rw[List.getElem?_append_left (by simpa using hi),List.getElem?_replicate]at e2;split at e2<;>cases e2
  ·have hi':own.length<=i:=NZ hi;rw[List.getElem?_append_right (by simpa using hi'),Pa,List.getElem?_map]at e2;rw[List.getElem?_append_right hi']at e1';cases ej:js[i-own.length]? with
   |none=>rw[ej]at e2;cases e2
   |some j =>
    rw[ej]at e2;have e2':(σ[j]?).join=some v:=Option.some.inj e2
    have eσ:σ[j]?=some (some v):=by
     cases q:σ[j]? with
     |none=>rw[q]at e2';cases e2'
     |some o=>rw[q]at e2';simp at e2';rw[e2']
    obtain⟨hN,hk,hs⟩:=Paired.idx O.fre _ x j e1' ej;obtain⟨mo,hmo,hlo⟩:=I.loc;have vis:Vis X.env.scope x:=hk.elim (λz=>.inr (.inl z)) λz=>.inr (.inr z)
    obtain⟨u,r,l⟩:=hlo j x v hN eσ vis;refine⟨u,r,.inr ⟨xS hs,?_⟩⟩;have hm:=List.all_eq_true.mp O.has _ (PySem.mem_of_lookup hs);have hs':(cl.lookup x).isSome=true:=by simpa using hm
    obtain⟨c,ec⟩:=Option.isSome_iff_exists.mp hs';refine⟨c,ec,?_⟩;rcases l with⟨k,_⟩ |⟨_,c',e',z⟩
    ·have k':X.env.scope.names.lookup x=some .local:=k;rcases hk with q |q<;>(rw[q]at k';cases k')
    ·have:=ig O ec;rw[e']at this;cases this;obtain⟨oc,hoc,hd⟩:=z;exact⟨oc,old _ _ hoc,hd⟩
 ·obtain⟨v,oc,hoc,hd⟩:=I.cell x c (ig O e);exact⟨v,oc,old _ _ hoc,hd⟩
 ·unfold iR;show _=(own++fr).length;rw[MX,MX,Pa,MI,hl]
theorem Un.adopt{fs ex:List Addr}{H H1:Hp}{h h1:Heap}{a:Addr}{o:HO}(u:Un fs ex H H1 h h1)(ha:h.objs.size<=a)(hn:H a=none):Un fs ex H (upd H1 a o) h h1 where
 keep:=u.keep
 slot:=u.slot
 free:=λb ob q n hx=>by rw[upd_ne (M7 (Nd (Heap.lt_size q) ha))];exact u.free b ob q n hx
 there:=u.there
 tups:=λb xs q=>by rw[upd_ne (aN q hn)];exact u.tups b xs q
 frzs:=λb ob xs q=>by rw[upd_ne (aN q hn)];exact u.frzs b ob xs q
 tbls:=λb ps q=>by rw[upd_ne (aN q hn)];exact u.tbls b ps q
theorem HOk.adopt{P:Program}{w:World}{H:Hp}{h:Heap}{a:Addr}{o:HO}(x:HOk P w H h)(hn:H a=none)(new:ObjOk P w (upd H a o) h a o):HOk P w (upd H a o) h:=λb u e=>by
 by_cases hb:b=a
 ·subst hb;rw[ap]at e;cases e;exact new
 ·rw[upd_ne hb]at e;exact(x b u e).stay (λc v _ q=>q) (λc q=>by rw[upd_ne (aN q hn)];exact q) λc xs q=>by rw[upd_ne (aN q hn)];exact q
theorem Av{pins:List (Addr×Obj)}{σ:St}{H:Hp}{s:Shared}{fp:List Addr}{it:Addr}{tn:Nat->Heap->Prop}{J:It}{E:Value->Shared->Prop}{Q:VK}{RR:Value->Addr->Result->Shared->Prop}(O:CompOk X fr js scope cl)(hl:fr.length=js.length)(hcm:X.calm=true)
 (I:Inv X pins σ H s) (T:Turn X.prog X.w X.K target J fp it tn) (st:tn 0 s.heap) (hf:∀b∈fp,fT X pins H b)
 (hg:∀C s₀ H₀ ex,PG (fM X (own++fr) scope cl C s₀ H₀ ex) target g) (he:∀C s₀ H₀ ex,PE (fM X (own++fr) scope cl C s₀ H₀ ex) elt te)
 (W:Nat->Nat->List V->St->Hp->Prop) {m0:Nat} (w0:W 0 m0 [] (iR own.length js σ) H)
 (turn:∀i m ys σ' H',W i m ys σ' H' ->
   (J.stop i H'/\∀p,H' p=none->Q (.ref p) (upd H' p (.lst ys))) \/
   (J.go i H'/\ys.length<sizeLine/\∃N:V->St->Hp->Prop,(∀y σ'' H'',N y σ'' H''->∃m',m'<m/\W (i+1) m' (ys++[y]) σ'' H'')/\∀x H2,J.yld i H' x H2->g x σ' H2 λσ3 H3=>te σ3 H3 λy H4=>N y σ3 H4))
 (hRR:∀D C s',Kl X pins σ Q D C s'->RR (.ref D) C (.ok .next) s') :
 wpAny (model X.prog X.w) X.A (newList []) (λacc s₃=>wpAny (model X.prog X.w) X.A (newFunctionEnv scope X.env.globals cl [] X.env.qual none .none (some X.env)) (λcenv s₄ =>
  codeAny (model X.prog X.w) X.A (.compStart (.ListComp elt [⟨target,iter,[],0⟩] scope pos) 0 (.ref it) acc { cenv with scope:=relabel scope X.env }) (RR acc cenv.locals) s₄) E s₃) E s:=by
 refine wpAny_newObj_type (wpAny_newFunctionEnv O.cell (by intro y hy;simp at hy) (λh₁ hns₁ hsb₁=>?_) O.kind);dsimp only at hns₁ hsb₁ ⊢
 generalize hH2:s.heap.push { cls:=.type "list",dict:=none,data:=.seq ([]:List Value).toArray }=H2 at hns₁ hsb₁ ⊢
 have hCs:H2.objs.size=s.heap.objs.size+1:=by rw[<- hH2,Heap.size_push]
 have hDC:s.heap.objs.size≠H2.objs.size:=by rw[hCs];exact M7 (NY _)
 have hCge:s.heap.objs.size<=H2.objs.size:=by rw[hCs];exact Nat.le_succ _
 have below:∀b,b<s.heap.objs.size->b≠H2.objs.size/\b≠s.heap.objs.size:=λb hb=>⟨by rw[hCs];exact M7 (Nat.lt_succ_of_lt hb),M7 hb⟩
 have old:∀b o,s.heap.get? b=some o->h₁.get? b=some o:=λb o e=>hsb₁.extBut b o (below b (Heap.lt_size e)).1 (Heap.get?_push_of_some _ (hH2 ▸ Heap.get?_push_of_some _ e))
 have hacc:h₁.get? s.heap.objs.size=some { cls:=.type "list",data:=.seq ([]:List Value).toArray 0 }:=hsb₁.extBut _ _ hDC (Heap.get?_push_of_some _ (hH2 ▸ Heap.get?_push_size _ rfl));have ho:∀b∈fp,b<s.heap.objs.size:=λb hb=>by obtain⟨o,e,_⟩:=T.obj 0 _ st b hb;exact Heap.lt_size e
 generalize hDe:s.heap.objs.size=D at *
 generalize hCe:H2.objs.size=C at *
 let X':Cx:=fM X (own++fr) scope cl C s H fp
 have ok':X'.Ok:=Aq O I (by rw[hDe];exact hCge) hf (by rw[hDe];exact ho)
 have hDfs:D∉X'.fs:=by
  intro z;rcases MM.mp (I.stkSub D z)with q |q
  ·exact absurd I.lt (by rw[<- q,hDe];exact NC _)
  ·exact I.nofs (Oi hDe) q
 have hDfp:∀b∈fp,D≠b:=λb hb z=>absurd (ho b hb) (by rw[z];exact NC _)
 have hDcell:∀x c,cl.lookup x=some c->c≠D:=λx c e z=>by obtain⟨v,q⟩:=I.cell x c (ig O e);exact absurd q.lt (by rw[z,hDe];exact NC _)
 have fpok:∀{H':Hp} {pins':List (Addr×Obj)},(∀p∈pins',p.1=D)->(∀b∈fp,H' b=none)->∀b∈fp,fT X' pins' H' b:=λ{H' pins'} hp hn b hb=>by
  obtain⟨f0,f1,f2,f3,f4,f5⟩:=hf b hb;refine⟨hn b hb,(below b (ho b hb)).1,λz=>?_,.inl hb,λx c e=>f4 x c (ig O e),λp hp'=>?_⟩
  ·rcases MM.mp (I.stkSub b z)with q |q
   ·exact f1 q
   ·exact f2 q
  ·have hp'':p∈pins':=by simpa[X',fM]using hp'
   rw[hp p hp''];exact hDfp b hb
 have loop:∀s₃:Shared,s₃={ s with heap:=h₁,toks:=s.toks+([]:List (Str×Value)).length } ->
  codeAny (model X.prog X.w) X.A (.compLoop (.ListComp elt [⟨target,iter,[],0⟩] scope pos) 0 (.ref it) (.ref D) (compEnvC scope cl C X.env)) (RR (.ref D) C) s₃:=by
  rintro s₃ rfl
  refine PySem.W.kcp_loop (λk s'=>∃i σ' H' ys its nn,Inv X' [] σ' H' s'/\tn i s'.heap/\(∀b∈fp,H' b=none)/\H' D=none/\s'.heap.get? D=some { cls:=.type "list",data:=.seq (its:List Value).toArray nn }/\Vals ys its/\ys.length<=sizeLine/\W i k ys σ' H') ?_ m0
   ⟨0,_,H,[],[],0,Jz O hl I (by rw[hDe];exact hCge) hf (by rw[hDe];exact ho) rfl rfl (by intro b o e;exact old b o e) hns₁,T.keep _ _ _ st λb _ o e=>old b o e,λb hb=>(hf b hb).1,I.hok.fresh (Oi hDe),hacc,.nil,MQ _,w0⟩
  rintro k s' ⟨i,σ',H',ys,its,nn,I',st',hfn,hDn,hDo,rv,hz,w⟩;have hlen:=rv.length;have hpD:∀p∈[(D,({ cls:=.type "list",data:=.seq its.toArray nn }:Obj))],p.1=D:=λp hp=>by rw[MO.mp hp]
  have Ip:Inv X' [(D,({ cls:=.type "list",data:=.seq its.toArray nn }:Obj))] σ' H' s':=I'.pins_of λp hp=>by rw[MO.mp hp];exact⟨hDo,hDn,hDC,hDfs,λv z=>by cases z⟩
  rcases turn i k ys σ' H' w with⟨stop,fin⟩ |⟨go,hlt,N,hN,step⟩
  ·refine wpAny_mono (T.done X' rfl rfl rfl hcm i _ s' σ' H' (λ_ _=>False) Ip (fpok hpD hfn) st' stop) (λr s4 ⟨hr,I4⟩=>?_) λ_ _ z=>False.elim z
   subst hr;refine hRR D C s4 ?_;have hD4:s4.heap.get? D=some { cls:=.type "list",data:=.seq its.toArray nn }:=(I4.pin _ (Nq _ (MO.mpr rfl))).1;have un:Un (frs X.stack) fp H (upd H' D (.lst ys)) s.heap s4.heap:=Un.adopt I4.base (Oi hDe) (I.hok.fresh (Oi hDe));have hok:HOk X.prog X.w (upd H' D (.lst ys)) s4.heap:=HOk.adopt I4.hok hDn ⟨hz,its,nn,rv,hD4⟩;refine⟨upd H' D (.lst ys),I.call' I4.os un hok I4.bare λb hb=>?_,fin D hDn,?_,?_,?_,λx c e z=>?_,λp hp z=>?_,?_⟩
   ·obtain⟨f0,f1,f2,f3,f4,f5⟩:=hf b hb;exact⟨f3,f1,f4,f5⟩
   ·rw[upd_ne (Ne.symm hDC)];exact I4.free
   ·exact Nat.ne_of_gt (Nd I.lt (by rw[hDe];exact hCge))
   ·exact MV I.sz (by rw[hDe];exact hCge)
   ·obtain⟨v,q⟩:=I.cell x c e;exact absurd (Nd q.lt (by rw[hDe,z];exact hCge)) (NC _)
   ·exact absurd (Nd (Heap.lt_size (I.pin p hp).1) (by rw[hDe,z];exact hCge)) (NC _)
   ·obtain⟨m',hn',_⟩:=I4.loc;exact⟨m',hn'⟩
  ·refine wpAny_mono (T.item X' rfl rfl rfl hcm i _ s' σ' H' (λ_ _=>False) Ip (fpok hpD hfn) st' go) (λr s4 ⟨u,hr,h4⟩=>?_) λ_ _ z=>False.elim z
   subst hr;refine wpAny_mono h4 (λ_ s5 ⟨x,H5,I5,r5,y5,st5,fr5⟩=>?_) λ_ _ z=>False.elim z
   have I5':=I5.pinned (fpok hpD fr5) (T.obj _ _ st5);refine wpAny_mono (hg C s H fp _ s5 σ' H5 x u _ I5' r5 (step x H5 y5)) (λ_ s6 ⟨σ6,H6,I6,q6⟩=>?_) λ_ _ z=>False.elim z
   refine wpAny_mono (he C s H fp _ s6 σ6 H6 _ I6 q6) (λv s7 ⟨y,H7,I7,r7,n7⟩=>?_) λ_ _ z=>False.elim z
   obtain⟨m',hm',w7⟩:=hN y σ6 H7 n7;have hD7:=I7.pin (D,{ cls:=.type "list",data:=.seq its.toArray nn }) (Nq _ (NI _ (MO.mpr rfl)));refine append_at hD7.1 (λh8 sb hD8=>?_) (by rw[Nc,<- hlen];exact hz);have I7':Inv X' [] σ6 H7 s7:=I7.pins_of λp hp=>absurd hp (by simp)
   have I8:Inv X' [] σ6 H7 { s7 with heap:=h8 }:=I7'.turned (t':=s7.toks) (it:=D) (λb o hb e=>(sb.2 b hb).trans e) hD7.2.1 hDC (.inr (Oi hDe)) hDcell (λp hp=>absurd (show p∈([]:List (Addr×Obj))from hp) (by simp));refine⟨m',hm',i+1,σ6,H7,ys++[y],its++[v],nn+1,I8,T.keep _ _ _ st5 λb hb o e=>?_,λb hb=>?_,hD7.2.1,?_,rv.append (.cons r7 .nil),?_,w7⟩
   ·exact(sb.2 b (λz=>hDfp b hb z.symm)).trans (I7.pin (b,o) (Nq _ (Nq _ (nj hb e)))).1
   ·obtain⟨o,e,d⟩:=T.obj _ _ st5 b hb;exact(I7.pin (b,o) (Nq _ (Nq _ (nj hb e)))).2.1
   ·rw[hD8,List.push_toArray]
   ·rw[MX,List.length_singleton];exact hlt
 exact codeAny_compStart_list (loop _ rfl) (T.self _ 0 _ _ _ (T.keep _ _ _ st λb _ o e=>old b o e) (loop _ rfl))
theorem eV(O:CompOk X fr js scope cl)(hcm:X.calm=true)(hi:PI X target iter wi)(hg:∀C s₀ H₀ ex,PG (fM X (own++fr) scope cl C s₀ H₀ ex) target g)(he:∀C s₀ H₀ ex,PE (fM X (own++fr) scope cl C s₀ H₀ ex) elt te)
 (hs:∀x,foldedSetIterable iter X.env x=pure x:=by intro _;rfl):PE X (.ListComp elt [⟨target,iter,[],0⟩] scope pos) (vJ own.length js wi g te):=by
 intro pins s σ H Q I h;rw[eval_ListComp];refine wpAny_comprehension_free (use:=none) rfl hs O.clos O.kind O.names (thn (hi pins s σ H _ I h) λx s1 h1=>thn h1 λitv s2 h2=>?_);obtain⟨it,fp,tn,J,H2,rfl,I2,T,st,hf,W,⟨m0,w0⟩,turn⟩:=h2;refine Av (RR:=λacc C=>compPost (model X.prog X.w) X.A X.xe none (EP X pins σ Q) acc C) O (Paired.length O.fre) hcm I2 T st hf hg he W w0 turn ?_;rintro D C s' ⟨H3,I3,q,c1,c2,c3,c4,c5,m,hn⟩;exact⟨m,hn,λh' sb=>⟨.ref D,H3,I3.turned (t':=s'.toks) (it:=C) (λb o hb e=>(sb.2 b hb).trans e) c1 c2 (.inr c3) c4 c5,rfl,q⟩⟩
theorem Ek{i:Nat}{y:Str}{py spos:Pos}(hN:X.N.Nodup)(hy:X.N[i]?=some y)(hly:Loc X.env.scope y)(O:CompOk X fr js scope cl)(hcm:X.calm=true)(hi:PI X target iter wi)(hg:∀C s₀ H₀ ex,PG (fM X (own++fr) scope cl C s₀ H₀ ex) target g)
 (he:∀C s₀ H₀ ex,PE (fM X (own++fr) scope cl C s₀ H₀ ex) elt te) (hsw:swapsWith (.ListComp elt [⟨target,iter,[],0⟩] scope pos) (some (.Name y py)) spos.line X.env=pure true)
 (hf:X.fn y=true\/X.env.scope.names.lookup y=some .local:=by first |exact .inl rfl |exact .inr rfl |assumption) (hs:∀x,foldedSetIterable iter X.env x=pure x:=by intro _;rfl) :
 PS X (.Assign [.Name y py] (.ListComp elt [⟨target,iter,[],0⟩] scope pos) spos) (fY (vJ own.length js wi g te) (eh i)):=by
 intro pins s σ H D I h;rw[exec_Assign_Name_used _ _ _ _ hsw];refine wpAny_bind (wpAny_standAt (wpAny_bind ?_));show wpAny _ X.A (do let _ <- comprehension (.ListComp elt [⟨target,iter,[],0⟩] scope pos) scope X.env _ (newList []) false (eval iter X.env) (some (assign (.Name y py) X.env))) _ _ s
 refine wpAny_bind (wpAny_mono (wpAny_comprehension_free (use:=some (assign (.Name y py) X.env)) (Q:=λ_ s'=>SP X pins D .next s') rfl hs O.clos O.kind O.names
  (thn (hi pins s σ H _ I h) λx s1 h1=>thn h1 λitv s2 h2=>?_)) (λ_ s' hq=>wpAny_pure (wpAny_pure hq)) λ_ _ e=>e)
 obtain⟨it,fp,tn,J,H2,rfl,I2,T,st,hfp,W,⟨m0,w0⟩,turn⟩:=h2;refine Av (Q:=λx H1=>eh i x σ H1 D.nx) (RR:=λacc C=>compPost (model X.prog X.w) X.A X.xe (some (assign (.Name y py) X.env)) (λ_ s'=>SP X pins D .next s') acc C) O (Paired.length O.fre) hcm I2 T st hfp hg he W w0 turn ?_;rintro DD C s' ⟨H3,I3,q,c1,c2,c3,c4,c5,m,hn⟩;show wpAny _ _ (assign (.Name y py) X.env (.ref DD)) _ _ s';refine wpAny_assign_Name (vR I3 hN hy hly (v:=.ref DD) rfl (λs4 I4 ⟨a,sb,ha⟩=>?_) hf)
 have hCa:C≠a:=by
  rcases ha with rfl |ha
  ·exact c2
  ·exactλz=>c4 y a ha z.symm
 refine⟨m,hn.sameBut sb hCa,λh' sb'=>⟨_,H3,I4.turned (t':=s4.toks) (it:=C) (λb o hb e=>(sb'.2 b hb).trans e) c1 c2 (.inr c3) c4 c5,q⟩⟩
end
theorem fN{n:Nat}{js:List Nat}{K:PySem.W.Frag}{a:Addr}{xs:List V}{g:TG}{te:TE}{σ0:St}{H:Hp}{Q:VK}(Pv:Nat->List V->St->Hp->Prop)(hz:xs.length<=sizeLine)(h0:Pv 0 [] (iR n js σ0) H)(hl:∀i ys σ H,i<=xs.length->Pv i ys σ H->SqL K H a xs/\ys.length<=i)
 (hs:∀i x ys σ H,xs[i]?=some x->Pv i ys σ H->g x σ H λσ2 H2=>te σ2 H2 λy H3=>Pv (i+1) (ys++[y]) σ2 H3) (hd:∀ys σ H p,Pv xs.length ys σ H->H p=none->Q (.ref p) (upd H p (.lst ys))) :
 uN n js g te σ0 Q (Itl K a) H:=by
 refine⟨λi m ys σ H=>m=xs.length-i/\i<=xs.length/\Pv i ys σ H,⟨xs.length,by simp,MQ _,h0⟩,?_⟩;rintro i m ys σ H ⟨rfl,hi,p⟩;obtain⟨q,hy⟩:=hl i ys σ H hi p;by_cases hlt:i<xs.length
 ·refine .inr ⟨⟨xs,xs[i],q,by simp[hlt]⟩,by omega,λy σ'' H''=>Pv (i+1) (ys++[y]) σ'' H'',λy σ' H' p'=>⟨xs.length-(i+1),by omega,rfl,hlt,p'⟩,λx H' y=>?_⟩;obtain⟨e,y⟩:=y;subst e;exact hs i x ys σ _ (y xs q) p
 ·have e:i=xs.length:=by omega
  subst e;exact .inl ⟨⟨xs,q,MJ _⟩,λr hr=>hd ys σ H r p hr⟩
theorem uk{k:Nat}{js:List Nat}{lo:Int}{n:Nat}{g:TG}{te:TE}{σ0:St}{H:Hp}{Q:VK}(Pv:Nat->List V->St->Hp->Prop)(hz:n<=sizeLine)(h0:Pv 0 [] (iR k js σ0) H)(hl:∀i ys σ H,i<=n->Pv i ys σ H->ys.length<=i)
 (hs:∀i ys σ H,i<n->Pv i ys σ H->g (.int (lo+i)) σ H λσ2 H2=>te σ2 H2 λy H3=>Pv (i+1) (ys++[y]) σ2 H3) (hd:∀ys σ H p,Pv n ys σ H->H p=none->Q (.ref p) (upd H p (.lst ys))) :
 uN k js g te σ0 Q (Itr lo n) H:=by
 refine⟨λi m ys σ H=>m=n-i/\i<=n/\Pv i ys σ H,⟨n,by simp,MQ _,h0⟩,?_⟩;rintro i m ys σ H ⟨rfl,hi,p⟩;have hy:=hl i ys σ H hi p;by_cases hlt:i<n
 ·refine .inr ⟨hlt,by omega,λy σ'' H''=>Pv (i+1) (ys++[y]) σ'' H'',λy σ' H' p'=>⟨n-(i+1),by omega,rfl,hlt,p'⟩,λx H' y=>?_⟩;obtain⟨e,y⟩:=y;subst e y;exact hs i ys σ _ hlt p
 ·have e:i=n:=by omega
  subst e;exact .inl ⟨MJ _,λr hr=>hd ys σ H r p hr⟩
def Bits(k:Nat)(i:Int):Prop:=i.natAbs<2^k
theorem Bits.mono{j k:Nat}{i:Int}(h:Bits j i)(hk:j<=k:=by decide):Bits k i:=Nd h (Nat.pow_le_pow_right (by decide) hk)
theorem Bits.mul{j k:Nat}{a b:Int}(ha:Bits j a)(hb:Bits k b):Bits (j+k) (a*b):=by
 unfold Bits at *
 rw[MY,Nat.pow_add];exact Nat.mul_lt_mul_of_lt_of_lt ha hb
theorem Bits.add{k:Nat}{a b:Int}(ha:Bits k a)(hb:Bits k b):Bits (k+1) (a+b):=by
 unfold Bits at *
 have:=Int.natAbs_add_le a b;rw[On];omega
theorem Bits.neg{k:Nat}{a:Int}(ha:Bits k a):Bits k (-a):=by unfold Bits at *;rwa [Int.natAbs_neg]
theorem Bits.sub{k:Nat}{a b:Int}(ha:Bits k a)(hb:Bits k b):Bits (k+1) (a-b):=by rw[Int.sub_eq_add_neg];exact ha.add hb.neg
theorem Bits.of_le{k:Nat}{a b:Int}(hb:Bits k b)(h:a.natAbs<=b.natAbs):Bits k a:=Ob h hb
theorem Bits.zero{k:Nat}:Bits k 0:=N0 (by decide)
theorem Bits.log{k:Nat}{i:Int}(h:Bits k i)(hk:0<k):i.natAbs.log2<k:=by
 by_cases h0:i.natAbs=0
 ·rw[h0];simpa using hk
 ·exact(Nat.log2_lt h0).mpr h
theorem Bits.int{k:Nat}{i:Int}(h:Bits k i)(hk:k<=1000000):Builtin.Int.intBits i<=2^20:=by
 have e:(2:Nat)^20=1048576:=by decide
 unfold Builtin.Int.intBits;split
 ·exact MQ _
 ·rename_i hn
  have h0:i.natAbs≠0:=by intro z;have:i=0:=Int.natAbs_eq_zero.mp z;exact hn (by simp[this])
  have:=(Nat.log2_lt h0).mpr h;omega
section
variable {X:Cx}{a b:Expr}{ta tb:TE}{pos:Pos}
def KZ(i j:Int):Prop:=Bits 1000000 i/\Bits 1000000 j
theorem aI:OpR X (binaryOp .Mult) (rI KZ λi j=>.int (i*j)):=opI λ_ _ _ _ _ _ _ hc q=>mul_int q (.of_bits (hc.1.int (MJ _)) (hc.2.int (MJ _)))
theorem ci:OpR X (binaryOp .Mod) (rI (λ_ j=>0<j) λi j=>.int (i%j)):=EV
def K0(_ j:Int):Prop:=0<j/\Bits 9000 j
theorem cG:OpR X (binaryOp .FloorDiv) (rI K0 λi j=>.int (i/j)):=opI λi j _ _ _ _ _ hc q=>by refine floordiv_int (Nk hc.1) ?_ (.inl (PyProof.noPylong_of_log2 (hc.2.log (by decide))));rw[Int.fdiv_eq_ediv_of_nonneg _ (MN hc.1)];exact q
def K9(_ j:Int):Prop:=j≠0/\Bits 9000 j
theorem yu:OpR X (binaryOp .FloorDiv) (rI K9 λi j=>.int (i.fdiv j)):=opI λ_ _ _ _ _ _ _ hc q=>floordiv_int hc.1 q (.inl (PyProof.noPylong_of_log2 (hc.2.log (by decide))))
theorem cU:OpR X (compareOp .Eq) (rI0 λi j=>.bl (decide (i=j))):=jw λ_ _ _ _ _ _ _ q=>eq_int (by rw[Bool.beq_eq_decide_eq];exact q)
theorem iK:OpR X (compareOp .NotEq) (rI0 λi j=>.bl (!decide (i=j))):=jw λ_ _ _ _ _ _ _ q=>ne_int (by rw[bne,Bool.beq_eq_decide_eq];exact q)
def xZ(K:PySem.W.Frag):R2:=λx y H Q=>∃(a b:Addr) (ns ms:Ex),x=.ref a/\y=.ref b/\SqL K H a (ns.map V.int)/\SqL K H b (ms.map V.int)/\Q (.bl (decide (ns=ms))) H
def xV(K:PySem.W.Frag):R2:=λx y H Q=>∃(a b:Addr) (ns ms:Ex),x=.ref a/\y=.ref b/\SqL K H a (ns.map V.int)/\SqL K H b (ms.map V.int)/\Q (.bl (!decide (ns=ms))) H
theorem E3(hu:X.A.units+64<cLine):OpR X (compareOp .Eq) (xZ X.K):=by intro pins s σ H x y v u Q I rx ry h;obtain⟨a,b,ns,ms,rfl,rfl,ha,hb,q⟩:=h;cases rx;cases ry;obtain⟨i1,r1,p1,_⟩:=I.list ha;obtain⟨i2,r2,p2,_⟩:=I.list hb;exact PySem.W.eq_intsK p1.isList (jG r1) p2.isList (jG r2) hu ⟨.bl _,H,I,rfl,q⟩
theorem EU(hu:X.A.units+64<cLine):OpR X (compareOp .NotEq) (xV X.K):=by intro pins s σ H x y v u Q I rx ry h;obtain⟨a,b,ns,ms,rfl,rfl,ha,hb,q⟩:=h;cases rx;cases ry;obtain⟨i1,r1,p1,_⟩:=I.list ha;obtain⟨i2,r2,p2,_⟩:=I.list hb;exact PySem.W.ne_intsK p1.isList (jG r1) p2.isList (jG r2) hu ⟨.bl _,H,I,rfl,q⟩
noncomputable def sQ(xs:List V)(k:Nat)(y:V):List V:=xs.take k++y::xs.drop k
noncomputable def Ec:V->List V->Hp->VK->Prop:=λx vs H Q=>∃l xs k y,x=.ref l/\vs=[.int k,y]/\H l=some (.lst xs)/\0<=k/\k<=xs.length/\xs.length<sizeLine/\Q .non (upd H l (.lst (sQ xs k.toNat y)))
theorem GP:MtM X "list.insert" Ec:=by
 intro pins s σ H x vs v us Q I rx rv h;obtain⟨l,xs,k,y,rfl,rfl,hH,hk0,hk1,hz,q⟩:=h;cases rx;obtain⟨u1,u2,rfl,ru1,ru2⟩:=rv.two;obtain⟨t,rfl⟩:=ru1;obtain⟨z,its,n,r,hl,e⟩:=I.lstM hH;have hfit:Builtin.List.listFitsIndex k=true:=fitsIndex_both (by omega) (by have:=sizeLine_eq;omega);refine call_meets F.slot_list_insert ⟨_,e,rfl⟩ F.entry_list_insert (F.args_list_insert_3 _ _ _) (AutoSeq1.list_insert_list_int_val_1 l its.toArray n k t u2 (by simp[hfit]) (by rw[Nc];omega)) ⟨e,?_⟩;refine⟨.non,_,I.lset (its':=its.take k.toNat++u2::its.drop k.toNat) hH e ?_ ((r.take _).append (.cons ru2 (r.drop _))) ?_,rfl,q⟩
 ·show(its.toArray.extract 0 (if k<0 then(k+(its.toArray.size:Int)).toNat else min k.toNat its.toArray.size)).push u2++its.toArray.extract (if k<0 then(k+(its.toArray.size:Int)).toNat else min k.toNat its.toArray.size)=(its.take k.toNat++u2::its.drop k.toNat).toArray;rw[if_neg (by omega),Nc,Nat.min_eq_left (by omega)];apply Array.toList_inj.mp;simp;exact List.take_of_length_le (by rw[NJ];exact MJ _)
 ·rw[MX,Nh,Nx,NJ];omega
noncomputable def jp(K:PySem.W.Frag):List V->Hp->VK->Prop:=λxs H Q=>∃(x:V) (t c:Value) (n:V) (k:Bool),xs=[x,n]/\RelV n c/\(∀u,RelV n u->u=c)/\TyOf K H x t/\PySem.W.kitOne K t c=some k/\Q (.bl k) H
theorem JW:CallR X (.builtin "isinstance") (jp X.K):=by intro pins s σ H xs us Q I r h;obtain⟨x,t,c,n,k,rfl,rn,hn,ty,e,q⟩:=h;obtain⟨u1,u2,rfl,r1,r2⟩:=r.two;obtain rfl:=hn u2 r2;exact HD I r1 ty e λtk=>⟨.bl k,H,I.tok tk,rfl,q⟩
theorem jF{K:PySem.W.Frag}{H:Hp}{Q:VK}{x:V}{n:String}{t:Value}{k:Bool}(ty:TyOf K H x t)(e:PySem.W.kitOne K t (.type n)=some k)(q:Q (.bl k) H):jp K [x,.ty n] H Q :=
 ⟨x,t,.type n,.ty n,k,rfl,rfl,λ_ h=>h,ty,e,q⟩
theorem zn{K:PySem.W.Frag}{H:Hp}{Q:VK}{x:V}{C:Addr}{t:Value}{k:Bool}(ty:TyOf K H x t)(e:PySem.W.kitOne K t (.ref C)=some k)(q:Q (.bl k) H):jp K [x,.ref C] H Q :=
 ⟨x,t,.ref C,.ref C,k,rfl,rfl,λ_ h=>h,ty,e,q⟩
end
section
variable {D:Ends}{σ:St}{H:Hp}{Q:VK}{t u:TS}{te ta tb:TE}{c:TT}{i:Nat}{v:V}{r:R2}
theorem mJ(P:St->Hp->Prop)(h1:∀σ' H',P σ' H'->u D σ' H')(h2:(∀σ' H',P σ' H'->u D σ' H')->t { D with nx:=u D } σ H):cN t u D σ H:=h2 h1
theorem dm(P:St->Hp->Prop)(h:P σ H)(h1:∀σ' H',P σ' H'->u D σ' H'):u D σ H:=h1 σ H h
theorem av(h:te σ H λx H1=>u D (σ.set i (some x)) H1):cN (fY te (eh i)) u D σ H:=h
theorem gd(h:te σ H λ_ H1=>u D σ H1):cN (lT te) u D σ H:=h
theorem bn{t1:TS}(h:c σ H λb H1=>if b=true then t1 { D with nx:=u D } σ H1 else u D σ H1):cN (gT c t1 oF) u D σ H:=h
theorem gX{K:PySem.W.Frag}{n:V}(h:ta σ H λx H1=>jp K [x,n] H1 Q):tCB (jp K) (oG ta (oG (tC n) lR)) σ H Q:=h
theorem gY{t1 t2:TS}(P:St->Hp->Prop)(h1:∀σ' H',P σ' H'->u D σ' H')(h2:(∀σ' H',P σ' H'->u D σ' H')->c σ H λb H1=>if b=true then t1 { D with nx:=u D } σ H1 else t2 { D with nx:=u D } σ H1):cN (gT c t1 t2) u D σ H:=h2 h1
theorem cS(h:te σ H λx H1=>D.nx (σ.set i (some x)) H1):fY te (eh i) D σ H:=h
theorem aV(h:te σ H D.rt):vD te D σ H:=h
theorem kB(h:te σ H λ_ H1=>D.nx σ H1):lT te D σ H:=h
theorem kA(h:D.nx σ H):oF D σ H:=h
theorem gj(h:c σ H λb H1=>if b=true then t D σ H1 else u D σ H1):gT c t u D σ H:=h
theorem mK{K:Bool->Hp->Prop}(h:te σ H λx H'=>∃k,x=.bl k/\K k H'):tB te σ H K:=h
theorem fu{K:Bool->Hp->Prop}{tt:TT}(h:tt σ H λk H1=>K (!k) H1):vG tt σ H K:=h
theorem df{K:Bool->Hp->Prop}{t1 t2:TT}(h:t1 σ H λk H1=>if k=true then t2 σ H1 K else K false H1):vL t1 t2 σ H K:=h
theorem gf{K:Bool->Hp->Prop}{t1 t2:TT}(h:t1 σ H λk H1=>if k=true then K true H1 else t2 σ H1 K):tOr t1 t2 σ H K:=h
theorem kC(h:ta σ H λx H1=>∃k,x=.bl k/\if k=true then tb σ H1 Q else Q (.bl false) H1):vK ta tb σ H Q:=h
theorem rA(h:ta σ H λx H1=>∃k,x=.bl k/\if k=true then Q (.bl true) H1 else tb σ H1 Q):vE ta tb σ H Q:=h
theorem DR(h:ta σ H λx H1=>∃k,x=.bl k/\Q (.bl (!k)) H1):vF ta σ H Q:=h
theorem DV{tt:TT}(h:tt σ H λk H1=>if k=true then ta σ H1 Q else tb σ H1 Q):tIf tt ta tb σ H Q:=h
theorem DS{K:List V->Hp->Prop}(h:K [] H):lR σ H K:=h
theorem fm{A B:Prop}(h:A):if true=true then A else B:=by rw[if_pos rfl];exact h
theorem cs{A B:Prop}(h:B):if false=true then A else B:=by rw[if_neg N8];exact h
theorem aH{p A B:Prop}[Decidable p](h1:p->A)(h2:¬p->B):if decide p=true then A else B:=by
 by_cases hp:p
 ·rw[if_pos (decide_eq_true hp)];exact h1 hp
 ·rw[if_neg (by rw[decide_eq_false hp];exact N8)];exact h2 hp
theorem cY{p A B:Prop}[Decidable p](h1:¬p->A)(h2:p->B):if(!decide p)=true then A else B:=by
 by_cases hp:p
 ·rw[if_neg (by rw[decide_eq_true hp];exact N8)];exact h2 hp
 ·rw[if_pos (by rw[decide_eq_false hp];rfl)];exact h1 hp
end
structure Cal(P:Program)(w:World)(K:PySem.W.Frag)(mg:Str->Option Value)(base:Heap)(k:Nat)(x:Str)(ps:List Str)(sp:Sp)(f:Addr)(fd:FuncData):Prop where
 ok:FnOk P w K mg base CX0 k f fd ps sp
 mg:mg x=some (.ref f)
 kp:PySem.W.keepIn K (.ref f)=true
 bd:Binds K fd ps []
theorem Same.upd_new{H:Hp}{p:Addr}{o:HO}(h:H p=none):Same H (upd H p o):=λb u e=>by rw[upd_ne (aN e h)];exact e
theorem Same.then_new{H H1:Hp}{p:Addr}{o:HO}(s:Same H H1)(h:H1 p=none):Same H (upd H1 p o):=s.trans (Same.upd_new h)
theorem Same.ne{H H1:Hp}{a p:Addr}{o:HO}(s:Same H H1)(e:H a=some o)(h:H1 p=none):a≠p:=aN (s a o e) h
section
variable {X:Cx}{K:PySem.W.Frag}
theorem HB(h:X.K=K):IxR X (rG K):=by subst h;exact HC
theorem Hz(h:X.K=K):IxR X (rF K):=by subst h;exact HA
theorem mi(h:X.K=K):SlR X (rE K):=by subst h;exact CA
noncomputable def xX(K:PySem.W.Frag):List V->Hp->VK->Prop:=λxs H Q=>∃p ys,xs=[.ref p]/\(SqL K H p ys\/SqT K H p ys)/\Q (.int ys.length) H
theorem JV(h:X.K=K):CallR X (.builtin "len") (xX K):=by subst h;exact JU
noncomputable def Eb(K:PySem.W.Frag):List V->Hp->VK->Prop:=λxs H Q=>∃p ys,xs=[.ref p]/\(SqL K H p ys\/SqT K H p ys)/\∀l,H l=none->Q (.ref l) (upd H l (.lst ys))
theorem ly(h:X.K=K):CallR X (.type "list") (Eb K):=by subst h;exact JT
theorem iL(h:X.K=K)(hu:X.A.units+64<cLine):OpR X (compareOp .Eq) (xZ K):=by subst h;exact E3 hu
theorem iJ(h:X.K=K)(hu:X.A.units+64<cLine):OpR X (compareOp .NotEq) (xV K):=by subst h;exact EU hu
theorem ii(h:X.K=K):CallR X (.builtin "isinstance") (jp K):=by subst h;exact JW
theorem c9{tg l:Expr}{tl:TE}(h:X.K=K)(hl:PE X l tl):PI X tg l (zA K tl):=by subst h;exact EE hl
theorem EB{tg l:Expr}{tl:TE}(h:X.K=K)(hl:PE X l tl):PI X tg l (zz K tl):=by subst h;exact EC hl
theorem aL{e:Expr}{ta:TE}{f:Str}{pos:Pos}(h:X.K=K)(he:PE X e ta)(hb:attributeBase e f X.env (eval e X.env)=eval e X.env):PE X (.Attribute e f pos) (vI K ta f):=by subst h;exact EO he hb
end
noncomputable def Ite(K:PySem.W.Frag)(a:Addr):It :=
 ⟨λi H=>∃xs x,SqL K H a xs/\xs[i]?=some x,λi H x H'=>∃v p,x=.ref p/\H p=none/\H'=upd H p (.tup [.int i,v])/\∀xs,SqL K H a xs->xs[i]?=some v,λi H=>∃xs,SqL K H a xs/\xs.length<=i⟩
theorem BN{P:Program}{w:World}{K:PySem.W.Frag}{es:List Expr}{x1:Nat}{tp:Pos}(a e it:Addr)(hne:e≠it):Turn P w K (.Tuple es x1 tp) (Ite K a) [e,it] e (λi h=>(∃old,IsEnum h e it (i:Int) old)/\h.IsListIter it a i) where
 mem:=by simp
 obj:=λi h st b hb=>by
  obtain⟨⟨old,he⟩,hi⟩:=st;rcases MM.mp hb with rfl |hb
  ·exact⟨_,he,λv z=>by cases z⟩
  ·have q:b=it:=by simpa using hb
   subst q;obtain⟨o,e,c,d⟩:=hi;exact⟨o,e,λv z=>by rw[d]at z;cases z⟩
 keep:=λi h h' st k=>by obtain⟨⟨old,he⟩,hi⟩:=st;exact⟨⟨old,k e (by simp) _ he⟩,hi.at λo q=>k it (by simp) o q⟩
 item:=by
  intro X hP hw hK hc i pins s σ H E I hf st hg;subst hP hw hK;obtain⟨⟨old,he⟩,hi⟩:=st;obtain⟨xs,x,hq,hx⟩:=hg;obtain⟨its,rv,p,hz⟩:=I.list hq;obtain⟨u,hu,ru⟩:=rv.get hx;refine wpAny_pyNext_enum_item he hi p.isList (x:=u) (by simpa using hu) hne λh' out hit' htup hsz kk=>?_
  have hfp:H s.heap.objs.size=none:=I.hok.fresh (MJ _);have nfp:∀b o,H b=some o->b≠e/\b≠it:=λb o q=>⟨λz=>(by rw[z,(hf e (by simp)).1]at q;cases q),λz=>(by rw[z,(hf it (by simp)).1]at q;cases q)⟩
  have I1:Inv X pins σ (upd H s.heap.objs.size (.tup [.int i,x])) { s with heap:=h',toks:=s.toks+1 }:=by
   refine I.step (g':=s.gens) (d':=s.drawn) (ch:=[e,it]) (λb hb=>?_) (λb o _ _ hc q _=>kk b o (λz=>hc (by simp[z])) (λz=>hc (by simp[z])) q)
    (λb o _ _ hc q _=>⟨o.slots,kk b o (λz=>hc (by simp[z])) (λz=>hc (by simp[z])) q⟩) (λb o _ q n=>by rw[upd_ne (M7 (Heap.lt_size q))];exact n)
    (λb o hc q=>⟨o,kk b o (λz=>hc (by simp[z])) (λz=>hc (by simp[z])) q⟩) (λb ys q=>by rw[upd_ne (aN q hfp)];exact q) (λb o ys q=>by rw[upd_ne (aN q hfp)];exact q)
    (λb ps q=>⟨#[],by rw[upd_ne (aN q hfp),q];simp⟩) (λm hm=>?_) (λb o q=>?_) I.bare
   ·obtain⟨f0,f1,f2,f3,f4,f5⟩:=hf b hb;exact⟨f3,f1,f4,f5⟩
   ·obtain⟨o,es',ep',ho,r⟩:=hm;exact⟨o,es',ep',kk _ o (Ne.symm (hf e (by simp)).2.1) (Ne.symm (hf it (by simp)).2.1) ho,r⟩
   ·by_cases hb:b=s.heap.objs.size
    ·subst hb;rw[ap]at q;cases q;exact⟨by show 2<=sizeLine;decide,[.int i s.toks,u],.cons ⟨_,rfl⟩ (.cons ru .nil),⟨_,htup,rfl,_,rfl⟩⟩
    ·rw[upd_ne hb]at q;refine(I.hok b o q).stay (λc v hc z=>?_) (λc z=>by rw[upd_ne (aN z hfp)];exact z) λc ys z=>by rw[upd_ne (aN z hfp)];exact z
     rcases hc with rfl |hc
     ·exact kk c v (nfp c o q).1 (nfp c o q).2 z
     ·exact kk c v (nfp c _ hc).1 (nfp c _ hc).2 z
  refine⟨_,rfl,wpAny_letOwnedTupleGo_enum out λh'' he'' sb=>?_⟩;obtain⟨f0,f1,f2,f3,f4,f5⟩:=hf e (by simp)
  have hen:upd H s.heap.objs.size (.tup [.int i,x]) e=none:=by rw[upd_ne (M7 (Heap.lt_size he))];exact f0
  have I2:=I1.turned (h':=h'') (t':=s.toks+1) (it:=e) (λb o hb q=>(sb.2 b hb).trans q) hen f1 f3 f4 f5;refine⟨.ref s.heap.objs.size,_,I2,rfl,⟨x,_,rfl,hfp,rfl,λys hy=>by rw[I.list_inj hy hq];exact hx⟩,⟨⟨u,?_⟩,hit'.at λo q=>(sb.2 it (Ne.symm hne)).trans q⟩,λb hb=>?_⟩
  ·have:((i+1:Nat):Int)=(i:Int)+1:=by omega
   rw[this];exact he''
  ·have hlt:b<s.heap.objs.size:=by
    rcases MM.mp hb with rfl |hb
    ·exact Heap.lt_size he
    ·have q:b=it:=by simpa using hb
     subst q;obtain⟨o,e1,_⟩:=hi;exact Heap.lt_size e1
   rw[upd_ne (M7 hlt)];exact(hf b hb).1
 done:=by intro X hP hw hK hc i pins s σ H E I hf st hg;subst hP hw hK;obtain⟨⟨old,he⟩,hi⟩:=st;obtain⟨xs,hq,hx⟩:=hg;obtain⟨its,rv,p,hz⟩:=I.list hq;obtain⟨f0,f1,f2,f3,f4,f5⟩:=hf it (by simp);have hl:=rv.length;exact wpAny_pyNext_enum_end (I.ok.hd hc) he hi p.isList (by simp;omega) λh' eb=>⟨rfl,I.turned (t':=s.toks) (λb o hb e=>eb b o hb e) f0 f1 f3 f4 f5⟩
 self:=λ_ _ _ _ _ st h=>by obtain⟨⟨old,he⟩,hi⟩:=st;exact wpAny_pyIter_enum he h
section
variable {X:Cx}
def HP(K:PySem.W.Frag)(ta:TA):TI:=λσ H R=>ta σ H λvs H1=>∃a,vs=[.ref a]/\(∃xs,SqL K H1 a xs)/\R (Ite K a) H1
theorem rO{es:List Expr}{x1:Nat}{tp:Pos}{a:Expr}{ta:TA}{p pos:Pos}(hg:Gl X "enumerate")(hm:X.mg "enumerate"=none)(ha:PA X [a] ta)(hs:starEach [a] X.env=[(false,eval a X.env)]:=by rfl):PI X (.Tuple es x1 tp) (.Call (.Name "enumerate" p) [a] [] pos) (HP X.K ta):=by
 intro pins s σ H R I h;refine Call_ (gE I hg hm boot_enumerate (PyProof.Rows.callWith_type1 (thn (ha pos pins s σ H _ I h) λus s1 ⟨vs,H1,I1,r1,q1⟩=>?_) hs rfl));obtain⟨a',e,⟨xs,hq⟩,q⟩:=q1;subst e;obtain⟨u,rfl,ru⟩:=r1.one;cases ru;obtain⟨its,rv,pl,hz⟩:=I1.list hq;refine call_enumerate_list pl.isList λh' he hit hsz hk=>?_
 have I2:Inv X pins σ H1 { s1 with heap:=h' }:=I1.kept (t':=s1.toks) hk;refine wpAny_pyIter_enum he ?_;refine⟨s1.heap.objs.size+1,[s1.heap.objs.size+1,s1.heap.objs.size],_,_,H1,rfl,I2,BN a' _ _ (Nat.succ_ne_self _),⟨⟨_,he⟩,hit⟩,λb hb=>?_,q⟩
 have hb':s1.heap.objs.size<=b:=by
  rcases MM.mp hb with rfl |hb
  ·exact Nat.le_succ _
  ·have q:b=s1.heap.objs.size:=by simpa using hb
   subst q;exact MJ _
 exact I1.fpOk hb' (I1.hok.fresh hb')
end
theorem tu{K:PySem.W.Frag}{a:Addr}{xs:List V}{g:TG}{tb:TS}{D:Ends}{σ:St}{H:Hp}(Pv:Nat->St->Hp->Prop)(h0:Pv 0 σ H)(hl:∀i σ H,i<=xs.length->Pv i σ H->SqL K H a xs)
 (hs:∀i x σ H p,xs[i]?=some x->Pv i σ H->H p=none->g (.ref p) σ (upd H p (.tup [.int i,x])) λσ2 H2=>tb { D with nx:=Pv (i+1),ct:=Pv (i+1),bk:=D.nx } σ2 H2) (hd:∀σ H,Pv xs.length σ H->D.nx σ H) :
 ∃W:Nat->Nat->St->Hp->Prop,(∃m,W 0 m σ H)/\∀i m σ H,W i m σ H ->
  ((Ite K a).stop i H/\D.nx σ H)\/((Ite K a).go i H/\∃N:St->Hp->Prop,(∀σ' H',N σ' H'->∃m',m'<m/\W (i+1) m' σ' H')/\∀x H',(Ite K a).yld i H x H'->g x σ H' λσ2 H2=>tb { D with nx:=N,ct:=N,bk:=D.nx } σ2 H2):=by
 refine⟨λi m σ H=>m=xs.length-i/\i<=xs.length/\Pv i σ H,⟨xs.length,by simp,MQ _,h0⟩,?_⟩;rintro i m σ H ⟨rfl,hi,p⟩;have q:=hl i σ H hi p;by_cases hlt:i<xs.length
 ·refine .inr ⟨⟨xs,xs[i],q,by simp[hlt]⟩,Pv (i+1),λσ' H' p'=>⟨xs.length-(i+1),by omega,rfl,hlt,p'⟩,λx H' y=>?_⟩;obtain⟨v,r,rfl,hr,rfl,y⟩:=y;exact hs i v σ _ r (y xs q) p hr
 ·have e:i=xs.length:=by omega
  subst e;exact .inl ⟨⟨xs,q,MJ _⟩,hd σ H p⟩
noncomputable def Itv(K:PySem.W.Frag)(a:Addr)(xs:List V):It :=
 ⟨λi H=>SqL K H a xs/\i<xs.length,λi H x H'=>H'=H/\xs[xs.length-1-i]?=some x,λi H=>xs.length<=i⟩
theorem BJ{P:Program}{w:World}{K:PySem.W.Frag}{tg:Expr}(a it:Addr)(xs:List V):Turn P w K tg (Itv K a xs) [it] it (λi h=>i<=xs.length/\h.IsRevIter it a ((xs.length:Int)-1-i)) where
 mem:=by simp
 obj:=λi h st b hb=>by
  have e:b=it:=by simpa using hb
  subst e;obtain⟨_,o,e,c,d⟩:=st;exact⟨o,e,λv z=>by rw[d]at z;cases z⟩
 keep:=λi h h' st k=>⟨st.1,st.2.at λo e=>k it (by simp) o e⟩
 item:=by
  intro X hP hw hK hc i pins s σ H E I hf st hg;subst hP hw hK;obtain⟨hq,hlt⟩:=hg;obtain⟨its,rv,p,hz⟩:=I.list hq;have hl:=rv.length;obtain⟨x,hx⟩:∃x,xs[xs.length-1-i]?=some x:=⟨_,List.getElem?_eq_getElem (by omega)⟩;obtain⟨u,hu,ru⟩:=rv.get hx;obtain⟨f0,f1,f2,f3,f4,f5⟩:=hf it (by simp);have e1:(xs.length:Int)-1-i=((xs.length-1-i:Nat):Int):=by omega
  have hit:=st.2;rw[e1]at hit;refine wpAny_pyNext_rev_item hit p.isList (x:=u) (by simpa using hu) λh' st' sb=>?_
  have I1:Inv X pins σ H { s with heap:=h' }:=I.turned (t':=s.toks) (λb o hb e=>(sb.2 b hb).trans e) f0 f1 f3 f4 f5;obtain⟨o,e,c,d⟩:=id st';refine⟨u,rfl,k8 (s:={ s with heap:=h' }) e c d (by decide) ⟨x,H,I1,ru,⟨rfl,hx⟩,⟨hlt,?_⟩,λb hb=>(hf b hb).1⟩⟩;have e2:(xs.length:Int)-1-((i+1:Nat):Int)=((xs.length-1-i:Nat):Int)-1:=by omega
  rw[e2];exact st'
 done:=by
  intro X hP hw hK hc i pins s σ H E I hf st hg;subst hP hw hK;obtain⟨f0,f1,f2,f3,f4,f5⟩:=hf it (by simp);have hle:xs.length<=i:=hg;have e1:(xs.length:Int)-1-i = -1:=by have:=st.1;omega
  have hit:=st.2;rw[e1]at hit;exact wpAny_pyNext_rev_end (I.ok.hd hc) hit λh' eb=>⟨rfl,I.turned (t':=s.toks) (λb o hb e=>eb b o hb e) f0 f1 f3 f4 f5⟩
 self:=λ_ _ _ _ _ st h=>wpAny_pyIter_revIter st.2 h
section
variable {X:Cx}{tg:Expr}
def HN(K:PySem.W.Frag)(ta:TA):TI:=λσ H R=>ta σ H λvs H1=>∃a xs,vs=[.ref a]/\SqL K H1 a xs/\R (Itv K a xs) H1
theorem rN{a:Expr}{ta:TA}{p pos:Pos}(hg:Gl X "reversed")(hm:X.mg "reversed"=none)(ha:PA X [a] ta)(hs:starEach [a] X.env=[(false,eval a X.env)]:=by rfl):PI X tg (.Call (.Name "reversed" p) [a] [] pos) (HN X.K ta):=by
 intro pins s σ H R I h;refine Call_ (gE I hg hm boot_reversed (PyProof.Rows.callWith_type1 (thn (ha pos pins s σ H _ I h) λus s1 ⟨vs,H1,I1,r1,q1⟩=>?_) hs rfl));obtain⟨a',xs,e,hq,q⟩:=q1;subst e;obtain⟨u,rfl,ru⟩:=r1.one;cases ru;obtain⟨its,rv,pl,hz⟩:=I1.list hq;have hl:=rv.length;refine call_reversed_list pl.isList ?_
 have hit:(s1.heap.push (revObj a' ((its.toArray.size:Int)-1))).IsRevIter s1.heap.objs.size a' ((xs.length:Int)-1-((0:Nat):Int)):=by
  have e1:(xs.length:Int)-1-((0:Nat):Int)=(its.toArray.size:Int)-1:=by rw[Nc];omega
  rw[e1];exact⟨_,Heap.get?_push_size _ rfl,rfl,rfl⟩
 have I2:Inv X pins σ H1 { s1 with heap:=s1.heap.push (revObj a' ((its.toArray.size:Int)-1)) }:=I1.kept (t':=s1.toks) λb o e=>Heap.get?_push_of_some _ e
 refine wpAny_pyIter_revIter (s:={ s1 with heap:=s1.heap.push (revObj a' ((its.toArray.size:Int)-1)) }) hit ?_;refine⟨s1.heap.objs.size,[s1.heap.objs.size],_,_,H1,rfl,I2,BJ a' _ xs,⟨MQ _,hit⟩,λb hb=>?_,q⟩;have e:b=s1.heap.objs.size:=by simpa using hb
 subst e;exact I1.fpOk (MJ _) (I1.hok.fresh (MJ _))
end
theorem tq{K:PySem.W.Frag}{a:Addr}{xs:List V}{g:TG}{tb:TS}{D:Ends}{σ:St}{H:Hp}(Pv:Nat->St->Hp->Prop)(h0:Pv 0 σ H)(hl:∀i σ H,i<=xs.length->Pv i σ H->SqL K H a xs)
 (hs:∀i x σ H,i<xs.length->xs[xs.length-1-i]?=some x->Pv i σ H->g x σ H λσ2 H2=>tb { D with nx:=Pv (i+1),ct:=Pv (i+1),bk:=D.nx } σ2 H2) (hd:∀σ H,Pv xs.length σ H->D.nx σ H) :
 ∃W:Nat->Nat->St->Hp->Prop,(∃m,W 0 m σ H)/\∀i m σ H,W i m σ H ->
  ((Itv K a xs).stop i H/\D.nx σ H)\/((Itv K a xs).go i H/\∃N:St->Hp->Prop,(∀σ' H',N σ' H'->∃m',m'<m/\W (i+1) m' σ' H')/\∀x H',(Itv K a xs).yld i H x H'->g x σ H' λσ2 H2=>tb { D with nx:=N,ct:=N,bk:=D.nx } σ2 H2):=by
 refine⟨λi m σ H=>m=xs.length-i/\i<=xs.length/\Pv i σ H,⟨xs.length,by simp,MQ _,h0⟩,?_⟩;rintro i m σ H ⟨rfl,hi,p⟩;by_cases hlt:i<xs.length
 ·refine .inr ⟨⟨hl i σ H hi p,hlt⟩,Pv (i+1),λσ' H' p'=>⟨xs.length-(i+1),by omega,rfl,hlt,p'⟩,λx H' y=>?_⟩;obtain⟨e,y⟩:=y;subst e;exact hs i x σ _ hlt y p
 ·have e:i=xs.length:=by omega
  subst e;exact .inl ⟨MJ _,hd σ H p⟩
structure FunD(K:PySem.W.Frag)(x qual:Str)(st:Stmt)(dV:Value)(f:Addr)(fd:FuncData):Prop where
 ex:∃(oc:Value) (od:Option Addr) (kV doc pm:Value) (an:Option Addr) (cdv ct:Value) (osl:Array (Option Value)),
  fd=PySem.W.fnOf x qual (dB st) (cW st) (aA st) dV kV doc pm an cdv ct/\K.lookup f=some ⟨oc,od,.func fd,osl⟩/\PySem.W.codeIn K cdv qual=true
 kp:PySem.W.keepIn K (.ref f)=true
section
variable {P:Program}{w:World}{K:PySem.W.Frag}{mg:Str->Option Value}{base:Heap}
theorem FunD.ok{x qual:Str}{st:Stmt}{dV:Value}{f:Addr}{fd:FuncData}{N ps:List Str}{k:Nat}{sp:Sp}(F:FunD K x qual st dV f fd)(S:FnScope N ps (aA st))(len:∀vs H Q E,sp vs H Q E->vs.length=ps.length)
 (hbody:∀(cdv:Value) (A:Around) (outer:List Env) (s:Shared) (H:Hp) (vs:List V) (Q:VK) (E:XK),Room k (A.deeper (envOfC qual (aA st) s.heap.objs.size f cdv))->sp vs H Q E ->
   ∃t,PSs (bX CX0 P w K mg base N qual (aA st) f cdv A outer s H E).nox (cW st) t/\t { nx:=λ_ H'=>Q .non H',rt:=Q } (start N vs) H):FnOk P w K mg base CX0 (k+1) f fd ps sp:=by
 obtain⟨oc,od,kV,doc,pm,an,cdv,ct,osl,rfl,lk,hcd⟩:=F.ex;refine nK lk hcd S len λA outer s H vs Q E hr hsp=>?_
 obtain⟨t,h,q⟩:=hbody cdv A outer s H vs Q E hr hsp;exact⟨t,h.nox,q⟩
theorem FunD.binds{x qual:Str}{st:Stmt}{dV:Value}{f:Addr}{fd:FuncData}{ps:List Str}(F:FunD K x qual st dV f fd)
 (h:∀(kV doc pm:Value) (an:Option Addr) (cdv ct:Value) (us:List Value),us.length=ps.length->bindArgs (PySem.W.fnOf x qual (dB st) (cW st) (aA st) dV kV doc pm an cdv ct) ⟨us,[]⟩=pure (ps.zip us)):Binds K fd ps []:=by
 obtain⟨oc,od,kV,doc,pm,an,cdv,ct,osl,rfl,lk,hcd⟩:=F.ex;exact .all (h kV doc pm an cdv ct)
theorem FunD.bindsD{x qual:Str}{st:Stmt}{T:Addr}{f:Addr}{fd:FuncData}{ps:List Str}{ds tup:List Value}{o:Obj}{n:Nat}(m:Nat)(F:FunD K x qual st (.ref T) f fd)(lo:K.lookup T=some o)(hs:o.data=.seq tup.toArray n)(hm:m+ds.length=ps.length)
 (h:∀(kV doc pm:Value) (an:Option Addr) (cdv ct:Value) (us:List Value),us.length=m->∃k:Option (Array Value)->Sem (List (Str×Value)),
   bindArgs (PySem.W.fnOf x qual (dB st) (cW st) (aA st) (.ref T) kV doc pm an cdv ct) ⟨us,[]⟩=seqItems? (.ref T) >>= k/\k (some tup.toArray)=pure (ps.zip (us++ds))):Binds K fd ps ds:=by
 obtain⟨oc,od,kV,doc,pm,an,cdv,ct,osl,rfl,lk,hcd⟩:=F.ex;intro s us KX hl;rw[MX]at hl;obtain⟨k,h1,h2⟩:=h kV doc pm an cdv ct us (by omega);exact PySem.W.binds_K (k:=k) KX rfl lo hs h1 h2
theorem Is{x qual:Str}{st:Stmt}{f:Addr}{oc:Value}{od an:Option Addr}{osl:Array (Option Value)}{dV kV doc pm cdv ct:Value}(l:K.lookup f=some ⟨oc,od,.func (PySem.W.fnOf x qual (dB st) (cW st) (aA st) dV kV doc pm an cdv ct),osl⟩)
 (c:PySem.W.codeIn K cdv qual=true) (k:PySem.W.keepIn K (.ref f)=true):FunD K x qual st dV f (PySem.W.fnOf x qual (dB st) (cW st) (aA st) dV kV doc pm an cdv ct):=⟨⟨oc,od,kV,doc,pm,an,cdv,ct,osl,rfl,l,c⟩,k⟩
end
structure MCal(P:Program)(w:World)(K:PySem.W.Frag)(mg:Str->Option Value)(base:Heap)(k:Nat)(C:Addr)(m:Str)(ps:List Str)(sp:Sp)(f:Addr)(fd:FuncData):Prop where
 ok:FnOk P w K mg base CX0 k f fd ps sp
 mt:Meth K C m f
 bd:Binds K fd ps []
structure KCal(P:Program)(w:World)(K:PySem.W.Frag)(mg:Str->Option Value)(base:Heap)(k:Nat)(C:Addr)(x:Str)(ps:List Str)(sp:Sp)(f:Addr)(fd:FuncData)(ds:List Value)(dvs:List V):Prop where
 ok:FnOk P w K mg base CX0 k f fd ps sp
 mkr:Mk K C f
 mg:mg x=some (.ref C)
 bd:Binds K fd ps []
 bdD:Binds K fd ps ds
 vd:Vals dvs ds
section
variable {X:Cx}{k j:Nat}{f:Addr}{fd:FuncData}{ps P:List Str}{sp:Sp}{x:Str}{p pos apos cpos pos':Pos}{e o a b:Expr}{es:List Expr}{ta tb te to:TE}{t:TA}{sc:Scope}{op:CmpOp}{r:R2}
theorem aq(C:Cal X.prog X.w X.K X.mg X.base k x ps sp f fd)(hr:Room j X.A)(ha:PA X (e::es) t)(hj:k<=j:=by decide)(hg:Gl X x:=by rfl)(hdb:(x == ("__debug__":Str))=false:=by decide)(he:starEach (e::es) X.env=(false,eval e X.env)::starEach es X.env:=by rfl)(hpl:(backTo pos (starEach es X.env)).any (·.1)=false:=by rfl) :
 PE X (.Call (.Name x p) (e::es) [] pos) (oH sp [] E0 t):=kK C.ok (hr.mono hj) hg C.mg C.kp C.bd .nil bU ha hdb he hpl
theorem ao(i:Nat)(S:FnScope X.N P sc)(he:PE X e te)(hi:X.N[i]?=some x:=by rfl)(hx:Loc X.env.scope x:=by first |exact Or.inl rfl |exact Or.inr rfl)(hs:swapsWith e (some (.Name x pos')) pos.line X.env=pure false:=by rfl)(hf:X.fn x=true\/X.env.scope.names.lookup x=some .local:=by first |exact .inl rfl |exact .inr rfl |assumption) :
 PS X (.Assign [.Name x pos'] e pos) (fY te (eh i)):=El S.nd hi hx he hs hf
theorem aT(i:Nat)(S:FnScope X.N P sc)(hi:X.N[i]?=some x:=by rfl)(hx:Loc X.env.scope x:=by first |exact Or.inl rfl |exact Or.inr rfl)(hf:X.fn x=true\/X.env.scope.names.lookup x=some .local:=by first |exact .inl rfl |exact .inr rfl |assumption):PG X (.Name x pos) (eh i):=dG S.nd hi hx hf
theorem aG(ho:OpR X (compareOp op) r)(ha:PE X a ta)(hb:PE X b tb)(hm:behindInMarks op b=false:=by exact yD _):PT X (.Compare a [op] [b] pos) (vC (tOp r ta tb)):=Eh ho ha hb hm
theorem dg(ho:OpR X (compareOp op) r)(ha:PE X a ta)(hb:PE X b tb)(hm:behindInMarks op b=false:=by exact yD _):PE X (.Compare a [op] [b] pos) (tOp r ta tb):=EQ ho ha hb hm
theorem bJ(K:PySem.W.Frag)(ha:PE X a ta)(hb:PE X b tb)(h:X.K=K:=by rfl)(hs:uI b:=by exactλ_ _=>rfl):PE X (.Subscript a b pos) (tOp (rG K) ta tb):=yk (HB h) ha hb hs
theorem aU(K:PySem.W.Frag)(ha:PE X a ta)(hb:PE X b tb)(h:X.K=K:=by rfl)(hs:uI b:=by exactλ_ _=>rfl):PE X (.Subscript a b pos) (tOp (rF K) ta tb):=yk (Hz h) ha hb hs
theorem ca(K:PySem.W.Frag)(hm:X.mg "len"=none)(ha:PA X (e::es) t)(h:X.K=K:=by rfl)(hg:Gl X "len":=by rfl)(he:starEach (e::es) X.env=(false,eval e X.env)::starEach es X.env:=by rfl)(hpl:(backTo pos (starEach es X.env)).any (·.1)=false:=by rfl):PE X (.Call (.Name "len" p) (e::es) [] pos) (tCB (xX K) t):=cF (JV h) hg hm PySem.boot_len ha (by decide) (by decide) he hpl
theorem fC(ho:PE X o to)(ha:PA X (e::es) t)
 (hbase:attributeBase o "append" X.env (eval o X.env)=eval o X.env:=by rfl)
 (hfew:((backTo cpos (starEach (e::es) X.env)).all (λx=>!x.1)&&(backToKw cpos (keywordEach [] X.env)).all (λx=>x.1.isSome)
   && decide ((e::es).length+([]:List Keyword).length+(if([]:List Keyword).isEmpty then 0 else 1)<30))=true:=by rfl)
 (hline:(apos.endLine == cpos.line)=true:=by rfl) (hs:starEach (e::es) X.env=(false,eval e X.env)::starEach es X.env:=by rfl) (hplain:(backTo cpos (starEach es X.env)).any (·.1)=false:=by rfl) :
 PE X (.Call (.Attribute o "append" apos) (e::es) [] cpos) (tBM X.K "list" x5 to t):=yn PySem.F.plainAttrs_list PySem.F.slot_list_append PySem.F.type_list_append GQ ho ha hbase hfew hline hs hplain
end
noncomputable def CXW(P:Program)(w:World):CXT:=λouter H s E e s'=>∃(ea:Addr) (cls a0:Value) (B:Heap) (H':Hp),e=.ref ea/\s'.os=s.os/\AllBare s'.gens/\Un (frs outer) [] H H' s.heap s'.heap/\HOk P w H' s'.heap /\
 Heap.FlyingW B outer ea cls a0 s'.heap/\(∀b o,s.heap.get? b=some o->b∉frs outer->∃o',s'.heap.get? b=some o'/\B.get? b=some o')/\(∀b x,H' b=some x->∃o',s'.heap.get? b=some o'/\B.get? b=some o')/\H' ea=none/\s.heap.get? ea=none/\E cls none H'
theorem Un.back{fs:List Addr}{H H1:Hp}{h h1 h2:Heap}(u:Un fs [] H H1 h h1)(k:∀b o,h.get? b=some o->b∉fs->∃o',h1.get? b=some o'/\h2.get? b=some o')
 (hf:∀b∈fs,H b=none) (hd:∀b∈fs,∀o,h1.get? b=some o->∀vs,o.data≠.fields vs) (sl:h1.UpToSlots h2):Un fs [] H H1 h h2 where
 keep:=λb o e n hb hx=>by obtain⟨o',e1,e2⟩:=k b o e hb;rw[u.keep b o e n hb hx]at e1;cases e1;exact e2
 slot:=λb o e n hb hx=>by obtain⟨s1,e1⟩:=u.slot b o e n hb hx;obtain⟨s2,e2⟩:=sl b _ e1 (hd b hb _ e1);exact⟨s2,e2⟩
 free:=u.free
 there:=λb o e hx=>by
  by_cases hb:b∈fs
  ·obtain⟨s1,e1⟩:=u.slot b o e (hf b hb) hb hx;obtain⟨s2,e2⟩:=sl b _ e1 (hd b hb _ e1);exact⟨_,e2⟩
  ·obtain⟨o',_,e2⟩:=k b o e hb;exact⟨o',e2⟩
 tups:=u.tups
 frzs:=u.frzs
 tbls:=u.tbls
theorem HOk.back{P:Program}{w:World}{H:Hp}{h h' B:Heap}(x:HOk P w H h)(k:∀b y,H b=some y->∃o',h.get? b=some o'/\B.get? b=some o')(st:B.StaysIn h'):HOk P w H h':=λa o e=>by
 refine(x a o e).stay (λb u hb q=>?_) (λ_ z=>z) λ_ _ z=>z
 have hn:∃y,H b=some y:=by
  rcases hb with rfl |hb
  ·exact⟨_,e⟩
  ·exact⟨_,hb⟩
 obtain⟨y,hy⟩:=hn;obtain⟨o',e1,e2⟩:=k b y hy;rw[q]at e1;cases e1;exact st _ _ e2
theorem Gv{P:Program}{w:World}{H:Hp}{h:Heap}{a:Addr}{o:HO}(x:ObjOk P w H h a o):∃u,h.get? a=some u:=by
 induction o with
 |lst xs=>obtain⟨_,_,_,_,e⟩:=x;exact⟨_,e⟩
 |tup xs=>obtain⟨z,its,r,ob,e,c⟩:=x;exact⟨_,e⟩
 |dK kvs=>obtain⟨z,y,vs,r,ob,es,ep,e,c⟩:=x;exact⟨_,e⟩
 |dT kvs=>obtain⟨z,y,xs,r,ob,es,ep,e,c⟩:=x;exact⟨_,e⟩
 |set S n=>obtain⟨ob,es,ep,t,e,c⟩:=x;exact⟨_,e⟩
 |ins C dx fs=>obtain⟨d,z,ne,e,_⟩:=x;exact⟨_,e⟩
 |own y=>obtain⟨ob,e⟩:=x;exact⟨_,e⟩
 |xd fs=>obtain⟨mA,⟨od,es,ep,e,c⟩,r⟩:=x;exact⟨_,e⟩
 |rng lo hi=>obtain⟨t,u,v,e⟩:=x;exact⟨_,e⟩
 |frz ob u ih=>exact⟨_,x.1⟩
 |tbl ps=>exact⟨_,x⟩
 |met f y=>exact⟨_,x⟩
 |ext φ=>obtain⟨p,⟨o,e⟩,st⟩:=x;exact⟨_,e⟩
theorem zO{env:Env}{outer:List Env}{L:Addr}(h:env.frame=some L):frs (env::outer)=L::frs outer:=by unfold frs;rw[O9,h]
section
variable {P:Program}{w:World}{K:PySem.W.Frag}{mg:Str->Option Value}{base:Heap}{N:List Str}{qual:Str}{scope:Scope}{f:Addr}{cd:Value}{A:Around}{outer:List Env}{s:Shared}{H:Hp}{E:XK}{pins:List (Addr×Obj)}{σ:St}{H1:Hp}{s1:Shared}
theorem Iu(I:Inv (bX (CXW P w) P w K mg base N qual scope f cd A outer s H E) pins σ H1 s1):∀b∈frs outer,∀o,s1.heap.get? b=some o->∀vs,o.data≠.fields vs:=λb hb o e=>by obtain⟨_,o',e',hd⟩:=I.funs.mem hb;have e'':s1.heap.get? b=some o':=e';rw[e]at e'';cases e'';exact hd
theorem Bw{E':XK}{e:Value}{s2:Shared}(I:Inv (bX (CXW P w) P w K mg base N qual scope f cd A outer s H E) pins σ H1 s1)(h:CXW P w (bX (CXW P w) P w K mg base N qual scope f cd A outer s H E).stack H1 s1 E' e s2)(hE:∀c d H',E' c d H'->E c d H') :
 (bX (CXW P w) P w K mg base N qual scope f cd A outer s H E).xe e s2:=by
 obtain⟨ea,cls,a0,B,H2,rfl,os,bare,un,hok,fl,b1,b2,he,hn,hE'⟩:=h;have J:Inv (bX (CXW P w) P w K mg base N qual scope f cd A outer s H E) pins σ H2 s2:=I.call' os un hok bare (λb hb=>nomatch hb);have hfrm:(envOfC qual scope s.heap.objs.size f cd).frame=some s.heap.objs.size:=rfl;have efr:frs (envOfC qual scope s.heap.objs.size f cd::outer)=s.heap.objs.size::frs outer:=zO hfrm
 have b1':∀b o,s.heap.get? b=some o->b∉frs outer->∃o',s2.heap.get? b=some o'/\B.get? b=some o':=λb o q hb=>by
  obtain⟨o',q'⟩:=I.base.there b o q (λz=>nomatch z);refine b1 b o' q' ?_;show b∉frs (envOfC qual scope s.heap.objs.size f cd::outer);rw[efr];intro z;rcases MM.mp z with z |z
  ·exact absurd (Heap.lt_size q) (by rw[z];exact NC _)
  ·exact hb z
 refine wpAny_leaves_onW (L:=s.heap.objs.size) I.ok.frames hfrm fl λh'' fl' up=>?_
 refine⟨ea,cls,a0,B,H2,rfl,J.os,J.bare,?_,J.hok.back b2 fl'.1,fl',λb o q hb=>?_,λb x q=>?_,he,?_,hE _ _ _ hE'⟩
 ·exact J.base.back (λb o q hb=>let⟨o',q1,q2⟩:=b1' b o q hb;⟨o',q1,fl'.1 _ _ q2⟩) I.ok.frf (Iu J) up
 ·obtain⟨o',q1,q2⟩:=b1' b o q hb;exact⟨o',fl'.1 _ _ q2,q2⟩
 ·obtain⟨o',q1,q2⟩:=b2 b x q;exact⟨o',fl'.1 _ _ q2,q2⟩
 ·cases q:s.heap.get? ea with
  |none=>rfl
  |some o=>obtain⟨o',q'⟩:=I.base.there ea o q (λz=>nomatch z);rw[hn]at q';cases q'
end
noncomputable def jR(lo:Int)(n:Nat):It:=⟨λi _=>i<n,λi H x H'=>H'=H/\x=.int (lo+i * -1),λi _=>n<=i⟩
theorem BK{P:Program}{w:World}{K:PySem.W.Frag}{tg:Expr}(it:Addr)(lo:Int)(n:Nat):Turn P w K tg (jR lo n) [it] it (λi h=>IsRangeIter h it (lo+(i:Nat) * -1) ((n:Int)-(i:Nat)) (-1)) where
 mem:=by simp
 obj:=λi h st b hb=>by
  have e:b=it:=by simpa using hb
  subst e
  exact⟨_,st,λv z=>by
   have z':Data.fields _=Data.cell v:=z
   cases z'⟩
 keep:=λi h h' st k=>k it (by simp) _ st
 item:=by
  intro X hP hw hK hc i pins s σ H E I hf st hg;subst hP hw hK;obtain⟨f0,f1,f2,f3,f4,f5⟩:=hf it (by simp);have W:=Walks.range (prog:=X.prog) (w:=X.w) (I.ok.hd hc) it lo (-1) n;refine W.item i s _ _ hg st λv h' tk hv st' kk=>?_
  obtain⟨t,rfl⟩:=hv;have I1:Inv X pins σ H { s with heap:=h',toks:=tk }:=I.turned (λb o hb e=>kk b o (by simpa using hb) e) f0 f1 f3 f4 f5;exact⟨_,rfl,k8 (s:={ s with heap:=h',toks:=tk }) (n:="range_iterator") st' rfl rfl (by decide) ⟨.int (lo+i * -1),H,I1,⟨t,rfl⟩,⟨rfl,rfl⟩,st',λb hb=>(hf b hb).1⟩⟩
 done:=by intro X hP hw hK hc i pins s σ H E I hf st hg;subst hP hw hK;obtain⟨f0,f1,f2,f3,f4,f5⟩:=hf it (by simp);exact wpAny_pyNext_range_end (I.ok.hd hc) st (by have:n<=i:=hg;omega) λh' eb=>⟨rfl,I.turned (t':=s.toks) (λb o hb e=>eb b o hb e) f0 f1 f3 f4 f5⟩
 self:=λ_ _ _ _ _ st h=>wpAny_pyIter_rangeiter st h
theorem xU(a b:Int):Builtin.Range.rangeSize a b (-1)=if b<a then a-b else 0:=by unfold Builtin.Range.rangeSize;rw[if_neg (by decide)];show(if a>b then(a-b-1)/1+1 else 0)=_;rw[Int.ediv_one];split<;>omega
theorem Cu{a b:Int}(ha : -(2^61)<=a)(ha':a<2^61)(hb : -(2^61)<=b)(hb':b<2^61):Builtin.Range.small a b (-1)=true:=by unfold Builtin.Range.small;rw[xU];simp only[Builtin.Range.rangeFitsLong,Bool.and_eq_true,Bool.or_eq_true,decide_eq_true_eq,beq_iff_eq,show ¬((-1:Int)>0) by decide,if_false];split<;>omega
section
variable {X:Cx}{tg:Expr}
theorem D3{pins:List (Addr×Obj)}{σ:St}{H:Hp}{s:Shared}{R:It->Hp->Prop}{E:Value->Shared->Prop}{lo hi:Int}{t u v:Tok}{tk:Nat}(I:Inv X pins σ H s)(h1 : -(2^61)<=lo)(h2:lo<2^61)(h3 : -(2^61)<=hi)(h4:hi<2^61)
 (q:R (jR lo (lo-hi).toNat) H):wpAny (model X.prog X.w) X.A (pyIter (.ref s.heap.objs.size)) (PIE X pins σ tg R) E { s with heap:=s.heap.push { cls:=.type "range",data:=.fields #[.int lo t,.int hi u,.int (-1) v] },toks:=tk }:=by
 refine wpAny_pyIter_range (IsRange.new ..) (Cu h1 h2 h3 h4) ?_;have I1:Inv X pins σ H { s with heap:=s.heap.push { cls:=.type "range",data:=.fields #[.int lo t,.int hi u,.int (-1) v] },toks:=tk }:=I.kept λb o e=>Heap.get?_push_of_some _ e
 refine⟨(s.heap.push { cls:=.type "range",data:=.fields #[.int lo t,.int hi u,.int (-1) v] }).objs.size,[(s.heap.push { cls:=.type "range",data:=.fields #[.int lo t,.int hi u,.int (-1) v] }).objs.size],_,_,H,rfl,
  I1.kept (t':=tk) λb o e=>Heap.get?_push_of_some _ e,BK _ lo (lo-hi).toNat,?_,λb hb=>?_,q⟩
 ·have e1:lo+((0:Nat):Int) * -1=lo:=by simp
  have e2:(((lo-hi).toNat:Nat):Int)-((0:Nat):Int)=Builtin.Range.rangeSize lo hi (-1):=by rw[xU];split<;>omega
  show IsRangeIter _ _ (lo+((0:Nat):Int) * -1) ((((lo-hi).toNat:Nat):Int)-((0:Nat):Int)) (-1);rw[e1,e2];exact Heap.get?_push_size _ rfl
 ·have e:b=(s.heap.push { cls:=.type "range",data:=.fields #[.int lo t,.int hi u,.int (-1) v] }).objs.size:=by simpa using hb
  subst e;exact I1.fpOk (MJ _) (I1.hok.fresh (MJ _))
def HK(ta:TA):TI:=λσ H R=>ta σ H λvs H1=>∃i j:Int,vs=[.int i,.int j,.int (-1)]/\(-(2^61)<=i/\i<2^61 /\ -(2^61)<=j/\j<2^61)/\R (jR i (i-j).toNat) H1
theorem yi{a b c:Expr}{ta:TA}{p pos:Pos}(hg:Gl X "range")(hm:X.mg "range"=none)(ha:PA X [a,b,c] ta)(hs:starEach [a,b,c] X.env=[(false,eval a X.env),(false,eval b X.env),(false,eval c X.env)]:=by rfl)(hs2:starEach [b,c] X.env=[(false,eval b X.env),(false,eval c X.env)]:=by rfl) :
 PI X tg (.Call (.Name "range" p) [a,b,c] [] pos) (HK ta):=by
 intro pins s σ H R I h;refine Call_ (gE I hg hm boot_range (PyProof.Rows.callWith_type1 (thn (ha pos pins s σ H _ I h) λus s1 ⟨vs,H1,I1,r1,q1⟩=>?_) (by rw[hs,hs2]) (by rw[hs2];rfl)));obtain⟨i,j,e,⟨q1,q2,q3,q4⟩,q⟩:=q1;subst e;cases r1 with
 |cons r rr =>
  cases rr with
  |cons r' rr =>
   cases rr with
   |cons r'' rr =>cases rr;obtain⟨t,rfl⟩:=r;obtain⟨t',rfl⟩:=r';obtain⟨t'',rfl⟩:=r'';exact call_range_3 (by decide) (D3 I1 q1 q2 q3 q4 q) (Or.inl (PyProof.noPylong_small (by decide)))
end
theorem zP{lo:Int}{n:Nat}{g:TG}{tb:TS}{D:Ends}{σ:St}{H:Hp}(Pv:Nat->St->Hp->Prop)(h0:Pv 0 σ H)
 (hs:∀i σ H,i<n->Pv i σ H->g (.int (lo+i * -1)) σ H λσ2 H2=>tb { D with nx:=Pv (i+1),ct:=Pv (i+1),bk:=D.nx } σ2 H2) (hd:∀σ H,Pv n σ H->D.nx σ H) :
 ∃W:Nat->Nat->St->Hp->Prop,(∃m,W 0 m σ H)/\∀i m σ H,W i m σ H ->
  ((jR lo n).stop i H/\D.nx σ H)\/((jR lo n).go i H/\∃N:St->Hp->Prop,(∀σ' H',N σ' H'->∃m',m'<m/\W (i+1) m' σ' H')/\∀x H',(jR lo n).yld i H x H'->g x σ H' λσ2 H2=>tb { D with nx:=N,ct:=N,bk:=D.nx } σ2 H2):=by
 refine⟨λi m σ H=>m=n-i/\i<=n/\Pv i σ H,⟨n,by simp,MQ _,h0⟩,?_⟩;rintro i m σ H ⟨rfl,hi,p⟩;by_cases hlt:i<n
 ·refine .inr ⟨hlt,Pv (i+1),λσ' H' p'=>⟨n-(i+1),by omega,rfl,hlt,p'⟩,λx H' y=>?_⟩;obtain⟨e,y⟩:=y;subst e y;exact hs i σ _ hlt p
 ·have e:i=n:=by omega
  subst e;exact .inl ⟨MJ _,hd σ H p⟩
def Rws(K:PySem.W.Frag)(H:Hp)(ps:List Addr)(xss:List Ex):Prop:=ps.length=xss.length/\∀(i:Nat) (p:Addr) (xs:Ex),ps[i]?=some p->xss[i]?=some xs->SqL K H p (xs.map V.int)
def xY(K:PySem.W.Frag):R2:=λx y H Q=>∃(a b:Addr) (ps qs:List Addr) (xss yss:List Ex),x=.ref a/\y=.ref b/\SqL K H a (ps.map V.ref)/\SqL K H b (qs.map V.ref)/\Rws K H ps xss/\Rws K H qs yss/\Q (.bl (decide (xss=yss))) H
theorem rz:∀{ps:List Addr} {us:List Value},Vals (ps.map V.ref) us->us=ps.map Value.ref
 | [],_,h=>by cases h;rfl
 |p::ps,_,h=>by
  cases h with
  |cons r rr =>cases r;rw[rz rr];rfl
theorem Ka{xss yss:List Ex}(hl:xss.length=yss.length):(List.range xss.length).all (λj=>decide (xss[j]?=yss[j]?))=decide (xss=yss):=by
 rw[Bool.eq_iff_iff,List.all_eq_true,decide_eq_true_eq];constructor
 ·intro h;refine List.ext_getElem? λj=>?_
  by_cases hj:j<xss.length
  ·exact of_decide_eq_true (h j (OX.mpr hj))
  ·rw[List.getElem?_eq_none_iff.mpr (by omega),List.getElem?_eq_none_iff.mpr (by omega)]
 ·intro h j _;rw[h];exact decide_eq_true rfl
section
variable {X:Cx}{K:PySem.W.Frag}
theorem DG{pins:List (Addr×Obj)}{σ:St}{H:Hp}{s:Shared}{ps qs:List Addr}{xss yss:List Ex}(I:Inv X pins σ H s)(hu:X.A.units+66<cLine)(hp:Rws X.K H ps xss)(hq:Rws X.K H qs yss)(j:Nat)(h1:j<(ps.map Value.ref).toArray.size)(h2:j<(qs.map Value.ref).toArray.size) :
 SeqAt.EqAt X.A.in1 s (ps.map Value.ref).toArray[j] (qs.map Value.ref).toArray[j] (decide (xss[j]?=yss[j]?)):=by
 have j1:j<ps.length:=by simpa using h1
 have j2:j<qs.length:=by simpa using h2
 have k1:j<xss.length:=by rw[<- hp.1];exact j1
 have k2:j<yss.length:=by rw[<- hq.1];exact j2
 obtain⟨i1,r1,p1,_⟩:=I.list (hp.2 j ps[j] xss[j] (by simp) (by simp));obtain⟨i2,r2,p2,_⟩:=I.list (hq.2 j qs[j] yss[j] (by simp) (by simp));have e:=PySem.W.keq_ints (A:=X.A) p1.isList (jG r1) p2.isList (jG r2) (by show X.A.units+1+64<cLine;omega)
 have ee:decide (xss[j]?=yss[j]?)=decide (xss[j]=yss[j]):=by rw[List.getElem?_eq_getElem k1,List.getElem?_eq_getElem k2];simp
 rw[ee];simpa using e
theorem EZ(hu:X.A.units+66<cLine):OpR X (compareOp .Eq) (xY X.K):=by
 intro pins s σ H x y v u Q I rx ry h;obtain⟨a,b,ps,qs,xss,yss,rfl,rfl,ha,hb,hp,hq,q⟩:=h;cases rx;cases ry;obtain⟨i1,r1,p1,_⟩:=I.list ha;obtain⟨i2,r2,p2,_⟩:=I.list hb;obtain rfl:=rz r1;obtain rfl:=rz r2;by_cases hl:ps.length=qs.length
 ·refine SeqAt.eq_listAt (e:=λj=>decide (xss[j]?=yss[j]?)) p1.isList p2.isList (by simpa using hl) (by omega) (λj h1 h2=>DG I hu hp hq j h1 h2) ⟨.bl _,H,I,?_,q⟩;show Value.bool _=Value.bool _
  congr 1
  have e:(ps.map Value.ref).toArray.size=xss.length:=by rw[<- hp.1];simp
  rw[e];exact Ka (by rw[<- hp.1,<- hq.1,hl])
 ·refine SeqAt.eq_list_lengthsAt p1.isList p2.isList (by simpa using hl) (by omega) ⟨.bl _,H,I,?_,q⟩;show Value.bool _=Value.bool _
  congr 1
  exact(decide_eq_false λz=>hl (by rw[hp.1,hq.1,z])).symm
theorem EY(h:X.K=K)(hu:X.A.units+66<cLine):OpR X (compareOp .Eq) (xY K):=by subst h;exact EZ hu
end
theorem Hq{P:Program}{w:World}{K:PySem.W.Frag}{mg mb:Str->Option Value}{CX:CXT}{k:Nat}{fa a:Addr}{fd:FuncData}{x:Str}{sp:Sp}{s₁:Shared}{vs:List Value}{ns:Ex}
 (KX:K.In s₁.heap) (hns:s₁.heap.Ns mainGlobals mg) (hb:s₁.heap.Ns builtinsNs mb) (hbb:∀x:Str,x≠"__name__"->mb x=bootBuiltins x) (hlim:s₁.heap.NoLimit) (hse:s₁.heap.NoSeer) (hg:s₁.gens=#[])
 (ha:s₁.heap.get? a=some { cls:=.type "list",data:=.seq vs.toArray }) (hi:IntsAre vs ns) (hl:ns.length<=sizeLine) (hr:Room k callerA)
 (F:∀base:Heap,K.In base->base.Ns mainGlobals mg->base.NoSeer->FnOk P w K mg base CX k fa fd [x] sp) (hbind:∀(s:Shared) (u:Value),BindsTo s fd ⟨[u],[]⟩ [(x,u)])
 (hsp:∀H:Hp,uJ H->SqL K H a (ns.map V.int)->sp [.ref a] H (λv _=>v=.bl true) λ_ _ _=>False)
 (hCX:∀H e s',CX [] H s₁ (λ_ _ _=>False) e s'->False) :
 codeAny (model P w) callerA (.call (.ref fa) ⟨[.ref a],[]⟩) (λr s'=>r=.ok (.ret (.bool true))/\OldK s₁.heap s'.heap/\s'.os=s₁.os/\AllBare s'.gens) s₁:=by
 have rv:=vk hi;have lenV:=hi.length
 have core:∀H:Hp,uJ H->SqL K H a (ns.map V.int)->HOk P w H s₁.heap->(∀b,H b≠none->b=a)->(H a≠none->K.lookup a=none) ->
  codeAny (model P w) callerA (.call (.ref fa) ⟨[.ref a],[]⟩) (λr s'=>r=.ok (.ret (.bool true))/\OldK s₁.heap s'.heap/\s'.os=s₁.os/\AllBare s'.gens) s₁:=by
  intro H hO hS hok hA hK;have base_of:∀{b:Addr} {o:Obj},s₁.heap.get? b=some o->H b=none->(fJ s₁.heap H).get? b=some o:=λe n=>HU e n
  have noA:∀{b:Addr} {o:Obj} {es:Array DictEntry} {ep:Nat},s₁.heap.get? b=some o->o.data=.dict es ep->H b=none:=λ{b o es ep} e d=>by
   cases q:H b with
   |none=>rfl
   |some u =>have e':b=a:=hA b (by rw[q];simp);subst e';rw[ha]at e;cases e;have d':Data.seq vs.toArray _=Data.dict es ep:=d;cases d'
  have nsK:∀{b:Addr} {m:Str->Option Value},s₁.heap.Ns b m->(fJ s₁.heap H).Ns b m:=λ{b m} ⟨o,es,ep,e,d,r⟩=>⟨o,es,ep,base_of e (noA e d),d,r⟩
  have hKb:K.In (fJ s₁.heap H):=λb o e=>base_of (KX b o e) (by
   cases q:H b with
   |none=>rfl
   |some u =>
    have e':b=a:=hA b (by rw[q];simp);subst e'
    rw[hK (by rw[q];simp)]at e;cases e)
  have hM:Mod K mg (fJ s₁.heap H):=⟨hKb,nsK hns,⟨mb,nsK hb,hbb⟩,let⟨mc,h1,h2⟩:=hlim;⟨mc,nsK h1,h2⟩⟩
  have hSb:(fJ s₁.heap H).NoSeer:=by
   obtain⟨⟨mc,c1,c2,c3⟩,⟨mm,m1,m2⟩,⟨mb',b1,b2⟩,⟨mg',bm,ob,g1,g2,g3,g4,g5⟩⟩:=hse;refine⟨⟨mc,nsK c1,c2,c3⟩,⟨mm,nsK m1,m2⟩,⟨mb',nsK b1,b2⟩,⟨mg',bm,ob,nsK g1,g2,base_of g3 ?_,g4,g5⟩⟩;cases q:H bm with
   |none=>rfl
   |some u =>have e':bm=a:=hA bm (by rw[q];simp);rw[e',ha]at g3;cases g3;exact absurd (Value.type.inj g4) (by decide)
  have e0:Env0 P w K mg (fJ s₁.heap H) callerA [] s₁ H:=⟨rfl,hM,λb o e=>Gu e,Oi (HS _ _),trivial,λb hb=>absurd (show b∈([]:List Addr)from hb) (by simp),hok,.of_eq hg⟩;refine codeAny_mono ((F _ hKb (nsK hns) hSb).run callerA [] s₁ H ⟨[.ref a],[]⟩ [.ref a] [.ref a] _ _ hr e0 (hbind s₁ (.ref a)) (.cons rfl .nil) (hsp H hO hS)) λr s' h=>?_
  cases r with
  |error e=>exact(hCX H e s' h).elim
  |ok fl =>
   cases fl with
   |next=>exact False.elim h
   |brk=>exact False.elim h
   |cont=>exact False.elim h
   |ret u =>
    obtain⟨v,H',os,bare,un,hok',r',q⟩:=h;have q':v=.bl true:=q;subst q';obtain rfl:u=Value.bool true:=r';refine⟨rfl,OldK.of_keep λb o e=>?_,os,bare⟩;cases q:H b with
    |none=>exact un.keep b o e q (by intro z;exact absurd (show b∈([]:List Addr)from z) (by simp)) (by simp)
    |some u =>
     rcases hO b with z |⟨ob,xs,z⟩
     ·rw[q]at z;cases z
     ·have z2:=un.frzs b ob _ z;obtain⟨e1,_⟩:=hok b _ z;obtain⟨e2,_⟩:=hok' b _ z2;rw[e]at e1;cases e1;exact e2
 cases hk:K.lookup a with
 |some o =>have e:=KX a o hk;rw[ha]at e;cases e;refine core (λ_=>none) (λ_=>.inl rfl) (.inr ⟨_,vs.toArray,_,hk,rfl,rfl,rfl,by rw[Nc,lenV];exact hl,by simpa using rv⟩) (λb u z=>by have z':(none:Option HO)=some u:=z;cases z') (λb z=>absurd rfl z) λz=>absurd rfl z
 |none =>
  refine core (λb=>if b=a then some (.frz { cls:=.type "list",data:=.seq vs.toArray } (.lst (ns.map V.int)))else none) (λb=>?_) (.inl (.inr ⟨{ cls:=.type "list",data:=.seq vs.toArray },if_pos rfl⟩)) (λb u z=>?_) (λb z=>?_) λ_=>hk
  ·by_cases hb:b=a
   ·exact .inr ⟨_,_,if_pos hb⟩
   ·exact .inl (if_neg hb)
  ·by_cases hb:b=a
   ·have z':=(if_pos hb).symm.trans z;cases z';subst hb;exact⟨ha,by rw[MI];exact hl,vs,_,rv,ha⟩
   ·have z':=(if_neg hb).symm.trans z;cases z'
  ·by_cases hb:b=a
   ·exact hb
   ·exact absurd (if_neg hb) z
theorem walk_ofS{l:PySem.W.OpenLaw}{n k:Nat}{q:Program}{loose:List Str}{XP:(Str->Option Value)->Heap->Prop}{YP:World->Heap->Prop}{d:DefRec}{K:Params->PySem.W.Frag}{CX:World->CXT}{sp:World->Sp}{x:Str}
 (hi:PyProof.Rows.importsNone q=true) (hn:l.most=some n) (hn2:n<=sizeLine) (hdf:d.params.defaults=[]) (hr:Room k callerA)
 (hY:∀(w:World) (h:Heap),YP w h->(K w.params).In h)
 (F:∀(w:World) (mg:Str->Option Value) (fa:Addr) (h:Heap),(K w.params).In h->h.Ns mainGlobals mg->mg d.name=some (.ref fa) ->
   ∃fd:FuncData,(∀(s:Shared) (u:Value),BindsTo s fd ⟨[u],[]⟩ [(x,u)]) /\
    ∀base:Heap,(K w.params).In base->base.Ns mainGlobals mg->base.NoSeer->FnOk l.prog w (K w.params) mg base (CX w) k fa fd [x] (sp w))
 (hsp:∀(w:World) (H:Hp) (a:Addr) (ns:Ex),ns.length<=n->uJ H->SqL (K w.params) H a (ns.map V.int)->sp w [.ref a] H (λv _=>v=.bl true) λ_ _ _=>False)
 (hCX:∀(w:World) (H:Hp) (s:Shared) (e:Value) (s':Shared),CX w [] H s (λ_ _ _=>False) e s'->False) :
 PySem.W.WalkO q loose XP YP l.row.toRowW d [] (λf vs=>PySem.call f vs):=by
 refine Att.attach_call hn hdf λw s₀ s₁ mg mb fa o pm cd doc a vs ns G Y ho hd hcd hmg hobj hints hlen hg=>?_
 have KX:=hY w _ Y;obtain⟨fd,hb,hF⟩:=F w mg fa _ KX G.T.g hmg;exact Hq KX G.T.g G.T.b G.T.builtins G.T.nolimit (G.T.seer hi) hg hobj hints (MV hlen hn2) hr hF hb (λH hO hS=>hsp w H a ns hlen hO hS) λH e s'=>hCX w H s₁ e s'
section
variable {X:Cx}{e:Env}{l:List Env}
theorem DK{pins:List (Addr×Obj)}{σ:St}{H:Hp}{s:Shared}(hs:X.base.NoSeer)(ht:X.prog.given.tree=none)(hd:X.A.depth+100<recursionLimit)(hst:X.stack=e::l)(h1:e.scope.isGenerator=false)(h2:e.scope.isCoroutine=false)(h3:e.builtins=builtinsNs)(h4:e.globals=mainGlobals)(I:Inv X pins σ H s):PylongRoom (model X.prog X.w) X.A s :=
 PylongRoom.of (I.ok.mod.nolimit.keeps I.bk) hd (SeerAt.of (hs.keeps I.bk) ht (by rw[I.ok.frames,hst]) h1 h2 h3 h4)
theorem EW(hs:X.base.NoSeer)(ht:X.prog.given.tree=none)(hd:X.A.depth+100<recursionLimit)(hst:X.stack=e::l)(h1:e.scope.isGenerator=false)(h2:e.scope.isCoroutine=false)(h3:e.builtins=builtinsNs)(h4:e.globals=mainGlobals):OpR X (binaryOp .FloorDiv) (rI (λ_ j=>0<j) λi j=>.int (i/j)):=by intro pins s σ H x y v u Q I rx ry h;obtain⟨i,j,rfl,rfl,hj,q⟩:=h;obtain⟨t,rfl⟩:=rx;obtain⟨t',rfl⟩:=ry;have hj':(0:Int)<j:=hj;refine floordiv_int (Nk hj') ?_ (.inr (DK hs ht hd hst h1 h2 h3 h4 I));rw[Int.fdiv_eq_ediv_of_nonneg _ (MN hj')];exact⟨.int (i/j),H,I.tok _,⟨_,rfl⟩,q⟩
end
theorem J7(a v:Value):argsOk "max" ⟨[a],[(Str.ofString "default",v)]⟩:=by unfold argsOk;kernel_rfl
def Top(val:Nat->Int)(n:Nat)(M:Int):Prop:=(∃i,i<n/\val i=M)/\∀i,i<n->val i<=M
theorem Top.more{val:Nat->Int}{n:Nat}{M:Int}(h:Top val n M)(hn:val n>M):Top val (n+1) (val n) :=
 ⟨⟨n,by omega,rfl⟩,λi hi=>by
   by_cases e:i=n
   ·subst e;exact Nr _
   ·have:=h.2 i (by omega);omega⟩
theorem Top.less{val:Nat->Int}{n:Nat}{M:Int}(h:Top val n M)(hn:¬val n>M):Top val (n+1) M :=
 ⟨let⟨i,hi,e⟩:=h.1;⟨i,by omega,e⟩,λi hi=>by
  by_cases e:i=n
  ·subst e;omega
  ·exact h.2 i (by omega)⟩
section
variable {prog:Program}{w:World}{A:Around}{R:Result->Shared->Prop}{I S:Addr}{fp wr:List Addr}{n:Nat}{P:Nat->Value->Prop}{St:Nat->Heap->Prop}{val:Nat->Int}{d:Value}
theorem nr:(toString "max"++toString ".loop":String)="max.loop":=by decide
theorem Ha(W:Walks prog w A.in1 I fp wr n P St)(hval:∀i v,P i v->∃t,v=.int (val i) t)(hSf:S∉fp) :
 ∀(k j:Nat) (s:Shared) (m:Int) (t:Tok) (c:Nat),n-j=k->j<=n->St j s.heap->Top val j m ->
 s.heap.get? S=some { cls:=.type "list",dict:=none,data:=.seq #[.int m t,.int m t] c,slots:=#[] } ->
 (∀M t h' tk,Top val n M->(∀b o,b∉wr->b≠S->s.heap.get? b=some o->h'.get? b=some o)->R (.ok (.ret (.int M t))) { s with heap:=h',toks:=tk }) ->
 codeAny (model prog w) A (.builtin "max.loop" ⟨[.ref I,.none,.ref S],[("default",d)]⟩) R s:=by
 have hSw:S∉wr:=λh=>hSf (W.sub _ h)
 have cm:=CmpOf.ints_gt (prog:=prog) (w:=w) (A:=A.in1) (P:=λi v=>∃t,v=.int (val i) t) val (λ_ _ h=>h);intro k
 induction k with
 |zero =>
  intro j s m t c hk hj hst hT hS hR;have hin:j=n:=by omega
  subst hin;refine codeAny_builtin F.entry_max_loop ?_;rw[Around.under_plainId F.plain_max_loop _];refine wpAny_bind (wpAny_seqItems hS rfl ?_);show wpAny _ A.in1 (tryCatch (pyNext (.ref I)) _ >>= _) _ _ s;refine wpAny_bind (wpAny_tryCatch (W.done s _ _ hst λh' tk hk'=>?_));show wpAny _ A.in1 (updateSeq S (λ_=>#[]) >>= _) _ _ _;refine wpAny_bind (wpAny_updateSeq (hk' S _ hSw hS) rfl (wpAny_bind (wpAny_letGo (wpAny_pure ?_))));exact hR m t _ tk hT λb o hb hbS e=>(Heap.get?_update_other _ _ (Ne.symm hbS)).trans (hk' b o hb e)
 |succ k ih =>
  intro j s m t c hk hj hst hT hS hR;have hlt:j<n:=by omega
  refine codeAny_builtin F.entry_max_loop ?_;rw[Around.under_plainId F.plain_max_loop _];refine wpAny_bind (wpAny_seqItems hS rfl ?_);show wpAny _ A.in1 (tryCatch (pyNext (.ref I)) _ >>= _) _ _ s;refine wpAny_bind (wpAny_tryCatch (W.item j s _ _ hlt hst λv h' tk hP hst' hk'=>?_));have hS':=hk' S _ hSw hS;obtain⟨u,rfl⟩:=hval j v hP;obtain⟨i0,_,e0⟩:=hT.1;show wpAny _ A.in1 (tryCatch (holding [_,_] (richCompare .Gt (.int (val j) u) (.int m t) >>= _)) _ >>= _) _ _ _;refine wpAny_bind (wpAny_tryCatch (wpAny_holding (wpAny_bind (cm j i0 _ _ _ _ _ ⟨u,rfl⟩ ⟨t,by rw[e0]⟩ ?_))));refine wpAny_bind (wpAny_holding (wpAny_truthy_bool ?_));refine wpAny_bind (wpAny_letGo (wpAny_pure ?_));show wpAny _ A.in1 (if decide (val j>val i0)=true then _ else _) _ _ _;rw[e0];by_cases hb:val j>m
  ·rw[decide_eq_true hb];simp only[if_true];refine wpAny_bind ?_;refine wpAny_updateSeq hS' rfl (wpAny_bind (wpAny_letGo ?_));rw[nr];refine wpAny_pure ⟨plainId_quiet F.plain_max_loop _,ih (j+1) _ (val j) u _ (by omega) hlt (W.frame _ _ _ hst' λb hbf o e=>?_) (hT.more hb) (Heap.get?_update_self _ hS' rfl) λM t' h'' tk'' hM hk''=>?_⟩
   ·exact(Heap.get?_update_other _ _ (λh:S=b=>hSf (h ▸ hbf))).trans e
   ·exact hR M t' h'' tk'' hM λb o hbw hbS e=>hk'' b o hbw hbS ((Heap.get?_update_other _ _ (Ne.symm hbS)).trans (hk' b o hbw e))
  ·rw[decide_eq_false hb];simp only[Bool.false_eq_true,if_false];refine wpAny_bind (wpAny_letGo ?_);rw[nr];refine wpAny_pure ⟨plainId_quiet F.plain_max_loop _,ih (j+1) _ m t c (by omega) hlt hst' (hT.less hb) hS' λM t' h'' tk'' hM hk''=>?_⟩;exact hR M t' h'' tk'' hM λb o hbw hbS e=>hk'' b o hbw hbS (hk' b o hbw e)
theorem Hb(W:Walks prog w A.in1 I fp wr n P St)(hval:∀i v,P i v->∃t,v=.int (val i) t)(hSf:S∉fp){s:Shared}{c:Nat}(hst:St 0 s.heap)
 (hS:s.heap.get? S=some { cls:=.type "list",dict:=none,data:=.seq #[] c,slots:=#[] })
 (h0:n=0->∀h' tk,(∀b o,b∉wr->b≠S->s.heap.get? b=some o->h'.get? b=some o)->R (.ok (.ret d)) { s with heap:=h',toks:=tk })
 (hR:∀M t h' tk,Top val n M->(∀b o,b∉wr->b≠S->s.heap.get? b=some o->h'.get? b=some o)->R (.ok (.ret (.int M t))) { s with heap:=h',toks:=tk }) :
 codeAny (model prog w) A (.builtin "max.loop" ⟨[.ref I,.none,.ref S],[("default",d)]⟩) R s:=by
 have hSw:S∉wr:=λh=>hSf (W.sub _ h)
 refine codeAny_builtin F.entry_max_loop ?_;rw[Around.under_plainId F.plain_max_loop _];refine wpAny_bind (wpAny_seqItems hS rfl ?_);show wpAny _ A.in1 (tryCatch (pyNext (.ref I)) _ >>= _) _ _ s;by_cases hn:n=0
 ·subst hn;refine wpAny_bind (wpAny_tryCatch (W.done s _ _ hst λh' tk hk'=>?_));refine wpAny_bind (wpAny_rule (wpAny_pure ?_));exact h0 rfl h' tk λb o hb _ e=>hk' b o hb e
 ·refine wpAny_bind (wpAny_tryCatch (W.item 0 s _ _ (by omega) hst λv h' tk hP hst' hk'=>?_));have hS':=hk' S _ hSw hS;obtain⟨u,rfl⟩:=hval 0 v hP;show wpAny _ A.in1 (updateSeq S (λ_=>#[.int (val 0) u,.int (val 0) u]) >>= _) _ _ _;refine wpAny_bind (wpAny_updateSeq hS' rfl ?_);rw[nr];refine wpAny_pure ⟨plainId_quiet F.plain_max_loop _,Ha W hval hSf _ 1 _ (val 0) u _ rfl (by omega) (W.frame _ _ _ hst' λb hbf o e=>?_) ⟨⟨0,by omega,rfl⟩,λi hi=>?_⟩ (Heap.get?_update_self _ hS' rfl) λM t h'' tk'' hM hk''=>?_⟩
  ·exact(Heap.get?_update_other _ _ (λh:S=b=>hSf (h ▸ hbf))).trans e
  ·have:i=0:=by omega
   subst this;exact Nr _
  ·exact hR M t h'' tk'' hM λb o hbw hbS e=>hk'' b o hbw hbS ((Heap.get?_update_other _ _ (Ne.symm hbS)).trans (hk' b o hbw e))
end
section
variable {prog:Program}{w:World}{A:Around}{E:Value->Shared->Prop}{s:Shared}{l:Addr}{xs:Array (Int×Tok)}{d:Value}
theorem JS{Q:Value->Shared->Prop}(hh:A.handled=none)(hl:s.heap.IsList l (intItems xs))
 (h0:xs.size=0->∀h' tk,(∀b o,s.heap.get? b=some o->h'.get? b=some o)->Q d { s with heap:=h',toks:=tk })
 (h:∀M t h' tk,Top (numAt xs) xs.size M->(∀b o,s.heap.get? b=some o->h'.get? b=some o)->Q (.int M t) { s with heap:=h',toks:=tk }) :
 wpAny (model prog w) A (call (.builtin "max") [.ref l] [("default",d)]) Q E s:=by
 refine wpAny_call (codeAny_call_builtin F.plain_max F.entry_max ?_);simp only[checkBuiltinCall,F.kind_max]
 have key:wpAny (model prog w) A.in1 (Builtin.«max» ⟨[.ref l],[("default",d)]⟩) (λfin s'=>match fin with
  |.done f=>(match(Except.ok f:Result)with |.ok (.ret v)=>Q v s' |.ok _=>False |.error e=>E e s')
  |.again c'=>c'.quiet=true/\codeAny (model prog w) A c' (λr s'=>match r with |.ok (.ret v)=>Q v s' |.ok _=>False |.error e=>E e s') s') E s:=by
  show wpAny _ A.in1 (Builtin.Builtins.bindParams "max" ["key","default"] 0 ⟨[],[("default",d)]⟩ >>= _) _ _ s;refine wpAny_bind (wpAny_of_eq (show Builtin.Builtins.bindParams "max" ["key","default"] 0 ⟨[],[("default",d)]⟩=pure [none,some d]from rfl) ?_);refine wpAny_bind (wpAny_pure ?_);refine wpAny_bind (iter_intList hl λs₂ e st hfp hlI=>?_);subst e;refine wpAny_bind (wpAny_newObj_type ?_);rw[nr];have W:=Walks.list (prog:=prog) (w:=w) (A:=A.in1) hh _ l hlI (intItems xs);have sz:(intItems xs).size=xs.size:=by simp[intItems]
  refine wpAny_pure ⟨plainId_quiet F.plain_max_loop _,Hb W (val:=numAt xs) (λi v=>intItems_at) (λhm=>NC _ (hfp _ hm)) (W.frame _ _ _ st λb _ o e=>Heap.get?_push_of_some _ e) (Heap.get?_push_size _ rfl) (λhn h' tk hk=>?_) λM t h' tk hM hk=>?_⟩
  ·exact h0 (sz ▸ hn) h' tk (old_kept λb o hb e=>hk b o hb (M7 (Heap.lt_size e)) (Heap.get?_push_of_some _ e))
  ·exact h M t h' tk (sz ▸ hM) (old_kept λb o hb e=>hk b o hb (M7 (Heap.lt_size e)) (Heap.get?_push_of_some _ e))
 cases hsig:Manifest.signature? "max" with
 |none=>exact wpAny_pure key
 |some sig =>
  have ha':Bind.checkArgs "max" sig ⟨[.ref l],[("default",d)]⟩=pure ():=by simpa only[argsOk,hsig]using J7 (.ref l) d
  simp only[ha'];exact wpAny_pure key
end
def xW(K:PySem.W.Frag):R2:=λx y H Q=>∃(p:Addr) (ns:Ex),x=.ref p/\SqL K H p (ns.map V.int)/\(ns=[]->Q y H)/\∀M,M∈ns->(∀a∈ns,a<=M)->Q (.int M) H
theorem zr:∀{ns:Ex} {us:List Value},Vals (ns.map V.int) us->∃ts:List (Int×Tok),us.toArray=intItems ts.toArray/\ts.map (·.1)=ns
 | [],_,h=>by cases h;exact⟨[],by simp[intItems],rfl⟩
 |n::ns,_,h=>by
  cases h with
  |cons r rr =>obtain⟨t,rfl⟩:=r;obtain⟨ts,e1,e2⟩:=zr rr;refine⟨(n,t)::ts,?_,by rw[Nw,e2]⟩;have e3:=congrArg Array.toList e1;simp only[intItems,List.map_toArray]at e3 ⊢;simpa using e3
theorem BZ{ts:List (Int×Tok)}{M:Int}(h:Top (numAt ts.toArray) ts.toArray.size M):M∈ts.map (·.1)/\∀a∈ts.map (·.1),a<=M:=by
 have g:∀(i:Nat) (hi:i<ts.length),numAt ts.toArray i=(ts[i]).1:=λi hi=>by simp[numAt,hi]
 obtain⟨⟨i,hi,e⟩,h2⟩:=h;have hi':i<ts.length:=by simpa using hi
 constructor
 ·rw[<- e,g i hi'];exact MW.mpr ⟨_,ND hi',rfl⟩
 ·intro a ha;obtain⟨p,hp,rfl⟩:=MW.mp ha;obtain⟨j,hj,rfl⟩:=List.getElem_of_mem hp;rw[<- g j hj];exact h2 j (by simpa using hj)
section
variable {X:Cx}{K:PySem.W.Frag}{e ed:Expr}{ta td:TE}{p pos kp:Pos}
theorem EK(hK:X.K=K)(hc:X.calm=true)(hg:Gl X "max")(hm:X.mg "max"=none)(ha:PE X e ta)(hd:PE X ed td)
 (he:starEach [e] X.env=(false,eval e X.env)::starEach [] X.env:=by rfl):PE X (.Call (.Name "max" p) [e] [⟨some "default",ed,kp⟩] pos) (tOp (xW K) ta td):=by
 subst hK;intro pins s σ H Q I h;refine wpAny_Call_Name_kw (gE I hg hm boot_max ?_ (by decide) (by decide));refine callWith_kw (thn (aa ha ac he pos pins s σ H (λvs H1=>match vs with | [x]=>td σ H1 λy H2=>xW X.K x y H2 Q |_=>False) I h) λus s1 ⟨vs,H1,I1,r1,q1⟩=>?_) (by rw[he];rfl) (by rw[he];rfl) rfl rfl
 obtain⟨x,rfl⟩:∃x,vs=[x]:=by
  match vs,q1 with
  | [x],_=>exact⟨x,rfl⟩
 obtain⟨u,rfl,ru⟩:=gR r1;refine kws_cons (thn (hd pins s1 σ H1 _ I1 q1) λv s2 ⟨y,H2,I2,ry,q2⟩=>kws_nil ?_);obtain⟨a,ns,rfl,hq,k0,k1⟩:=q2;cases ru;obtain⟨its,r',pl,hz⟩:=I2.list hq;obtain⟨ts,e1,e2⟩:=zr r';have il:=pl.isList;rw[e1]at il;refine JS (I2.ok.hd hc) il (λh0 h' tk k=>⟨y,H2,I2.kept k,ry,k0 ?_⟩) λM t h' tk hM k=>⟨.int M,H2,I2.kept k,⟨t,rfl⟩,?_⟩
 ·have:ts=[]:=by simpa using h0
  rw[<- e2,this];rfl
 ·obtain⟨m1,m2⟩:=BZ hM;rw[e2]at m1 m2;exact k1 M m1 m2
end
theorem AU:∀{bs:List Bool} {us:List Value},Vals (bs.map V.bl) us->us=bs.map Value.bool
 | [],_,h=>by cases h;rfl
 |b::bs,_,h=>by
  cases h with
  |cons r rr =>cases r;rw[AU rr];rfl
theorem J8(bs:List Bool):(List.range bs.length).any (λi=>bs.getD i false)=bs.any id:=by
 rw[Bool.eq_iff_iff,List.any_eq_true,List.any_eq_true];constructor
 ·rintro⟨i,hi,e⟩;have hi':=OX.mp hi;refine⟨bs[i],ND hi',?_⟩;simpa[List.getD,List.getElem?_eq_getElem hi']using e
 ·rintro⟨b,hb,e⟩;obtain⟨i,hi,rfl⟩:=List.getElem_of_mem hb;refine⟨i,OX.mpr hi,?_⟩;simpa[List.getD,List.getElem?_eq_getElem hi]using e
theorem JX{X:Cx}{K:PySem.W.Frag}(hK:X.K=K)(hc:X.calm=true):CallR X (.builtin "any") (λxs H Q=>∃(p:Addr) (bs:List Bool),xs=[.ref p]/\SqL K H p (bs.map V.bl)/\Q (.bl (bs.any id)) H):=by
 subst hK;intro pins s σ H xs us Q I r h;obtain⟨p,bs,rfl,hq,q⟩:=h;obtain⟨u,rfl,rx⟩:=gR r;cases rx;obtain⟨its,r',pl,hz⟩:=I.list hq;have e:=AU r';subst e;have hl:=pl.isList;have hlt:p<s.heap.objs.size:=by obtain⟨_,e,_⟩:=hl;exact Heap.lt_size e
 refine call_any_walk (wpAny_pyIter_list hl ?_);refine⟨_,_,_,_,_,_,λi=>bs.getD i false,rfl,Walks.list (A:=X.A.in1) (I.ok.hd hc) _ p (M7 hlt) _,⟨⟨_,Heap.get?_push_size _ rfl,rfl,rfl⟩,hl.push _⟩,λi v s' Q' E' hP hQ=>?_,λh' tk hk=>?_⟩
 ·have e:v=.bool (bs.getD i false):=by have hP':((bs.map Value.bool).toArray)[i]?=some v:=hP;simp only[List.getElem?_toArray,List.getElem?_map,Option.map_eq_some_iff]at hP';obtain⟨b,hb,rfl⟩:=hP';simp[List.getD,hb]
  subst e;exact wpAny_truthy_bool hQ
 ·refine⟨.bl (bs.any id),H,I.kept (old_kept hk),?_,q⟩;show Value.bool _=Value.bool _;rw[<- J8 bs];simp
section
variable {X:Cx}
end
theorem zq:∀{ns:Ex} {us:List Value},Vals (ns.map V.int) us->∃l:List (Int×Tok),us=l.map (λp=>Value.int p.1 p.2)/\l.map (·.1)=ns
 | [],_,h=>by cases h;exact⟨[],rfl,rfl⟩
 |n::ns,_,h=>by
  cases h with
  |cons r rr =>obtain⟨t,rfl⟩:=r;obtain⟨l,rfl,e⟩:=zq rr;exact⟨(n,t)::l,rfl,by rw[Nw,e]⟩
theorem ye:∀(l:List (Int×Tok)) (n:Nat),n<=l.length->preSum (numAt l.toArray) n=((l.take n).map (·.1)).sum
 |l,0,_=>rfl
 |l,n+1,h=>by rw[preSum,ye l n (by omega),Nu,List.getElem?_eq_getElem (by omega)];unfold numAt;rw[List.getElem?_toArray,List.getElem?_eq_getElem (by omega),Option.toList_some,Nl,List.sum_append];show _=_+(l[n].1+0);rw[NE];rfl
theorem JR{X:Cx}{K:PySem.W.Frag}(hK:X.K=K)(hc:X.calm=true):CallR X (.builtin "sum") (λxs H Q=>∃(p:Addr) (ns:Ex),xs=[.ref p]/\SqL K H p (ns.map V.int)/\Q (.int ns.sum) H):=by
 subst hK;intro pins s σ H xs us Q I r h;obtain⟨p,ns,rfl,hq,q⟩:=h;obtain⟨u,rfl,rx⟩:=gR r;cases rx;obtain⟨its,r',pl,hz⟩:=I.list hq;obtain⟨l,rfl,e⟩:=zq r'
 have hl:s.heap.IsList p (intItems l.toArray):=by
  have h1:=pl.isList;have e2:(l.map (λp=>Value.int p.1 p.2)).toArray=intItems l.toArray:=by unfold intItems;simp
  rw[<- e2];exact h1
 refine sum_intListG (I.ok.hd hc) hl λh' tk t' hk=>⟨.int ns.sum,H,I.kept hk,⟨t',?_⟩,q⟩
 have e3:preSum (numAt l.toArray) l.toArray.size=ns.sum:=by rw[Nc,ye l l.length (MJ _),NP,e]
 rw[e3]
section
variable {X:Cx}{K:PySem.W.Frag}
end
noncomputable def bg:Nat:=67000000
section
variable {X:Cx}{K:PySem.W.Frag}
theorem oE{x y:V}{us:List Value}(h:Vals [x,y] us):∃u v,us=[u,v]/\RelV x u/\RelV y v:=by
 cases h with
 |cons r t =>
  cases t with
  |cons r2 t2 =>cases t2;exact⟨_,_,rfl,r,r2⟩
end
section
variable {P:Program}{w:World}{K:PySem.W.Frag}{mg:Str->Option Value}{base:Heap}
end
section
variable {X:Cx}{pins:List (Addr×Obj)}{σ:St}{H1 H2:Hp}{s1 s2:Shared}
theorem AQ{B h3:Heap}{ea:Addr}{cls a0:Value}(I:Inv X pins σ H1 s1)(os:s2.os=s1.os)(bare:AllBare s2.gens)(un:Un (frs X.stack) [] H1 H2 s1.heap s2.heap)(hok:HOk X.prog X.w H2 s2.heap)(fl:Heap.FlyingW B X.stack ea cls a0 s2.heap)
 (b1:∀b o,s1.heap.get? b=some o->b∉frs X.stack->∃o',s2.heap.get? b=some o'/\B.get? b=some o') (b2:∀b x,H2 b=some x->∃o',s2.heap.get? b=some o'/\B.get? b=some o') (st:B.StaysIn h3) (up:s2.heap.UpToSlots h3) :
 Inv X pins σ H2 { s2 with heap:=h3 }:=by
 refine I.call' (s':={ s2 with heap:=h3 }) (ch:=[]) os (un.back (λb o q hb=>let⟨o',q1,q2⟩:=b1 b o q hb;⟨o',q1,st _ _ q2⟩) I.stkFree (λb hb o e=>?_) up) (hok.back b2 st) bare (λb hb=>nomatch hb);obtain⟨_,o',e',hd⟩:=fl.2.2.1.mem hb;rw[e]at e';cases e';exact hd
end
section
variable {X:Cx}{CX:CXT}{k:Nat}{f C:Addr}{fd:FuncData}{ps:List Str}{sp:Sp}{dvs:List V}{ds:List Value}{E:XK}{x m:Str}{p pos apos:Pos}{e o:Expr}{es:List Expr}{ta:TE}{t:TA}{pins:List (Addr×Obj)}{σ:St}
def Bg(CX:CXT)(X:Cx)(pins:List (Addr×Obj))(σ:St)(E:XK):Prop:=∀(H:Hp) (s:Shared) (e:Value) (s':Shared),Inv X pins σ H s->CX X.stack H s E e s'->X.xe e s'
theorem DA{H:Hp}{s:Shared}{Q:VK}{us:List Value}{vs:List V}(F:FnOk X.prog X.w X.K X.mg X.base CX k f fd ps sp)(hr:Room k X.A)(hb:Binds X.K fd ps ds)(hd:Vals dvs ds)(hx:Bg CX X pins σ E)
 (I:Inv X pins σ H s) (r:Vals vs us) (h:sp (vs++dvs) H Q E):wpAny (model X.prog X.w) X.A (call (.ref f) us) (EP X pins σ Q) X.xe s:=by
 have r2:Vals (vs++dvs) (us++ds):=r.append hd;have hl:(us++ds).length=ps.length:=by rw[<- r2.length];exact F.len _ _ _ _ h
 refine wpAny_call (codeAny_mono (F.run X.A X.stack s H ⟨us,[]⟩ (us++ds) (vs++dvs) Q E hr I.env0 (hb s us I.kIn hl) r2 h) λr s' hq=>?_);cases r with
 |error e=>exact hx H s e s' I hq
 |ok fl =>
  cases fl with
  |ret u=>exact I.after hq
  |next=>exact False.elim hq
  |brk=>exact False.elim hq
  |cont=>exact False.elim hq
end
abbrev cxH(X:Cx)(ea:Addr)(oe:Obj):Cx:={ X with A:=X.A.mark (some (.ref ea)),calm:=false,pn:=(ea,oe)::X.pn,xe:=λ_ _=>False }
section
variable {X:Cx}{pins:List (Addr×Obj)}{σ:St}{H:Hp}{s:Shared}{ea:Addr}{oe:Obj}
theorem Inv.held(I:Inv X pins σ H s)(he:s.heap.get? ea=some oe)(hn:H ea=none)(hL:ea≠X.env.locals)(hf:ea∉X.fs)(hd:∀v,oe.data≠.cell v):Inv (cxH X ea oe) pins σ H s:=by
 have ok:=I.ok
 exact⟨⟨ok.mod,ok.kind,ok.glob,ok.blt,ok.above,ok.inj,ok.has,ok.cab,(λz=>nomatch z),ok.frames,ok.stk,ok.exf,ok.bs,ok.bsz,ok.noex,ok.exfs,ok.funs,ok.frf⟩,I.os,I.bare,I.base,I.loc,I.cell,I.free,I.freeC,
  λp hp=>by
   rcases MM.mp hp with rfl |hp
   ·exact⟨he,hn,hL,hf,hd⟩
   ·exact I.pin p hp,I.hok,I.len⟩
theorem Inv.unheld(ok:X.Ok)(I:Inv (cxH X ea oe) pins σ H s):Inv X pins σ H s :=
 ⟨ok,I.os,I.bare,I.base,I.loc,I.cell,I.free,I.freeC,λp hp=>I.pin p (MK _ hp),I.hok,I.len⟩
theorem Ic{M:Model}{A:Around}{E:Value->Shared->Prop}{i:Nat}{x:Str}{pos:Pos}{Q:Unit->Shared->Prop}(I:Inv X pins σ H s)(hN:X.N.Nodup)(hi:X.N[i]?=some x)(hk:X.env.scope.names.lookup x=some .local)
 (h:∀s',Inv X pins (σ.set i none) H s'->Q () s'):wpAny M A (do bindName X.env x .none;unbindBehindTheSuite X.env x pos) Q E s:=by
 obtain⟨m,hn,hl⟩:=id I.loc;have hcls:(X.env.scope.kind == .class || (X.env.scope.kind == .module&&X.env.locals != X.env.globals))=false:=by rw[I.ok.kind];rfl
 have hiσ:i<σ.length:=by rw[I.len];exact(List.getElem?_eq_some_iff.mp hi).1
 have cne:=I.cne
 have tracked:∀{a:Addr} {h':Heap},(∃o,s.heap.get? a=some o/\H a=none)->Heap.SameBut a s.heap h'->HOk X.prog X.w H h':=λ{a h'} ha hs b ob e=>by
  obtain⟨_,_,hfree⟩:=ha;refine(I.hok b ob e).stay (λc w' hc q=>(hs.2 c ?_).trans q) (λ_ q=>q) λ_ _ q=>q
  rintro rfl;rcases hc with rfl |hc
  ·rw[hfree]at e;cases e
  ·rw[hfree]at hc;cases hc
 refine wpAny_nameGoes_keeps hk hn hcls λh' v hn' hs=>?_
 obtain⟨oL,_,_,hoL,_⟩:=id hn;refine h _ ⟨I.ok,I.os,I.bare,⟨λb o e n hb hx=>?_,λb o e n hb hx=>?_,I.base.free,λb o e hx=>?_,I.base.tups,I.base.frzs,I.base.tbls⟩,⟨_,hn',λj y v' e1 e2 e3=>?_⟩,λy c e=>?_,I.free,I.freeC,λp hp=>?_,tracked ⟨oL,hoL,I.free⟩ hs,by simpa using I.len⟩
 ·exact(hs.2 b (M7 (Nd (Heap.lt_size e) I.ok.above))).trans (I.base.keep b o e n hb hx)
 ·obtain⟨sl,e1⟩:=I.base.slot b o e n hb hx;exact⟨sl,(hs.2 b (M7 (Nd (Heap.lt_size e) I.ok.above))).trans e1⟩
 ·obtain⟨o',e1⟩:=I.base.there b o e hx;exact⟨o',(hs.2 b (M7 (Nd (Heap.lt_size e) I.ok.above))).trans e1⟩
 ·by_cases hj:j=i
  ·subst hj;rw[List.getElem?_set_self hiσ]at e2;cases e2
  ·rw[List.getElem?_set_ne (Ne.symm hj)]at e2;obtain⟨u',r',q⟩:=hl j y v' e1 e2 e3;refine⟨u',r',?_⟩;rcases q with⟨k,e⟩ |⟨k,c,e,z⟩
   ·refine .inl ⟨k,?_⟩;have:y≠x:=λe=>hj (rZ hN e1 (e ▸ hi))
    simp[this,e]
   ·exact .inr ⟨k,c,e,z.sameBut hs (cne y c e)⟩
 ·obtain⟨w',z⟩:=I.cell y c e;exact⟨w',z.sameBut hs (cne y c e)⟩
 ·obtain⟨e,n,ne,nf,d⟩:=I.pin p hp;exact⟨(hs.2 p.1 ne).trans e,n,ne,nf,d⟩
theorem zI(I:Inv (cxH X ea oe) pins σ H s):s.heap.get? ea=some oe:=(I.pin (ea,oe) (MP ..)).1
end
section
variable {X:Cx}{k:Nat}{f C R:Addr}{fd:FuncData}{ps:List Str}{sp:Sp}{dvs:List V}{ds:List Value}{m r n:Str}{pos apos cpos epos np hpos:Pos}{e o:Expr}{es:List Expr}{ta:TE}{t:TA}{i:Nat}{b₀:Stmt}{suite:List Stmt}{th:Addr->Obj->TS}
end
open PySem PySem.Spec PyProof.Rows PySem.W PySem.Calls PySem.Builtin PySem.Builtin.ObjectAttr PySem.Builtin.Getset_descriptor
section
variable {prog:Program}{w:World}{A:Around}{E:Value->Shared->Prop}{s:Shared}{K:Frag}{x D:Addr}{M:Model}{h:Heap}
theorem Jo{nameV:Value}{Q:Unit->Shared->Prop}{g:Array GenState}{d:Drawn}{t:Nat}{os:OsState}(X:K.In h)(LT:Looks M h (typeOf (.ref x)) (.ref D))(hmB:mroIn K D (.type "BaseException")=some true)(hq:Q () ⟨h,g,d,t,os⟩) :
 wpAny M A (checkBuiltinCall "BaseException.__getattribute__" ⟨[.ref x,nameV],[]⟩) Q E ⟨h,g,d,t,os⟩:=by
 have hk:builtinKind "BaseException.__getattribute__"=some .slot:=by decide +kernel
 have hsplit:splitId "BaseException.__getattribute__"=some ("BaseException","__getattribute__"):=by decide +kernel
 have ha:=F.args_bexc_ga (.ref x) nameV;have LI:Looks M h (isInstance (.ref x) (.type "BaseException")) true:=LT.andThen (looks_mroIn X hmB);simp only[checkBuiltinCall,hk,hsplit];refine wpAny_bind (LI.at ?_)
 repeat (first |assumption |wp_step)
end
theorem JN{K:PySem.W.Frag}{C:Addr}{b:Value}{k:Bool}(h:mroIn K C b=some k):(clsIn K C).isSome=true:=by
 unfold mroIn at h
 cases e:clsIn K C with
 |none=>rw[e]at h;cases h
 |some _=>rfl
structure ECls(K:PySem.W.Frag)(D:Addr):Prop where
 cl:(clsIn K D).isSome=true
 ga:findIn K (.ref D) "__getattribute__"=some (some (.builtin "BaseException.__getattribute__"))
 gn:findIn K (.ref D) "__getattr__"=some none
 mB:mroIn K D (.type "BaseException")=some true
 ha:findIn K (.ref D) "__class__"=some (some (.builtin "object.__class__"))
 hn:specialIn K (.builtin "object.__class__") "__get__"=some (some (.builtin "getset_descriptor.__get__"))
 ht:takesIn K (.builtin "object.__class__")=some true
 hm:mroIn K D (.type "object")=some true
section
variable {X:Cx}{CX:CXT}{k:Nat}{f C R:Addr}{fd:FuncData}{ps:List Str}{sp:Sp}{dvs:List V}{ds:List Value}{m r n x:Str}{p pos apos cpos epos np hpos:Pos}{e o ex:Expr}{es:List Expr}{ta:TE}{t:TA}{i:Nat}{b₀:Stmt}{suite:List Stmt}{th:Addr->Obj->TS}{tx:XK->TE}
end
section
variable {X:Cx}{R R2:Addr}{r r2 n n2:Str}{pos epos np hpos np2 hpos2:Pos}{ex:Expr}{i i2:Nat}{b₀ b₂:Stmt}{suite suite2:List Stmt}{th th2:Addr->Obj->TS}{tx:XK->TE}
end
def KD(h h':Heap):Prop:=∀b o,h.get? b=some o->∃o',h'.get? b=some o'/\o'.dict=o.dict
theorem KD.refl(h:Heap):KD h h:=λ_ o e=>⟨o,e,rfl⟩
theorem KD.trans{a b c:Heap}(x:KD a b)(y:KD b c):KD a c:=λp o e=>by obtain⟨o1,e1,d1⟩:=x p o e;obtain⟨o2,e2,d2⟩:=y p o1 e1;exact⟨o2,e2,d2.trans d1⟩
theorem KD.push(h:Heap)(o:Obj):KD h (h.push o):=λb u e=>⟨u,Heap.get?_push_of_some _ e,rfl⟩
def uH(f:Obj->Obj):Prop:=∀o:Obj,o.isFreed=false->(f o).isFreed=false/\(f o).dict=o.dict
theorem KD.upd(h:Heap)(a:Addr){f:Obj->Obj}(hf:uH f):KD h (h.update a f):=λb u e=>by
 by_cases z:a=b
 ·subst z;obtain⟨h1,h2⟩:=hf u (Heap.get?_some_iff.mp e).2;exact⟨f u,Heap.get?_update_self f e h1,h2⟩
 ·exact⟨u,(Heap.get?_update_other h f z).trans e,rfl⟩
inductive Mild{α:Type}:Sem α->Prop
 |pure (a:α):Mild (.pure a)
 |unsupported (x:String):Mild (.unsupported x)
 |rule {t:String} {k:Unit->Sem α}:(∀u,Mild (k u))->Mild (.rule t k)
 |at{p:Pos} {k:Unit->Sem α}:(∀u,Mild (k u))->Mild (.at p k)
 |load {a:Addr} {p:Option Value} {k:Obj->Sem α}:(∀o,Mild (k o))->Mild (.load a p k)
 |update {a:Addr} {p:Option Value} {f:Obj->Obj} {k:Unit->Sem α}:uH f->(∀u,Mild (k u))->Mild (.update a p f k)
 |alloc {o:Obj} {k:Addr->Sem α}:(∀a,Mild (k a))->Mild (.alloc o k)
 |stack {k:List (Code×Pos)->Sem α}:(∀l,Mild (k l))->Mild (.stack k)
theorem b7{α β:Type}{t:Sem α}{f:α->Sem β}(ht:Mild t)(hf:∀a,Mild (f a)):Mild (t >>= f):=by
 show Mild (t.bind f)
 induction ht with
 |pure a=>exact hf a
 |unsupported x=>exact .unsupported x
 |rule _ ih=>exact .rule ih
 | «at» _ ih=>exact .at ih
 |load _ ih=>exact .load ih
 |update s _ ih=>exact .update s ih
 |alloc _ ih=>exact .alloc ih
 |stack _ ih=>exact .stack ih
theorem fG{α:Type}(a:α):Mild (pure a:Sem α):=.pure a
theorem Bz{α:Type}(M:Model)(Γ:PySem.Ctx){h0:Heap}{t:Sem α}(m:Mild t){Q:α->Pos->Shared->Prop}{E E':Value->Pos->Shared->Prop}:∀{p:Pos} {s:Shared},KD h0 s.heap->Sem.wp M Γ t Q E p s->Sem.wp M Γ t (λa p' s'=>Q a p' s'/\KD h0 s'.heap) E' p s:=by
 induction m with
 |pure a=>intro p s hk h;rw[Sem.wp]at h ⊢;exact⟨h,hk⟩
 |unsupported x=>intro p s hk h;rw[Sem.wp]at h;exact h.elim
 |rule _ ih=>intro p s hk h;rw[Sem.wp]at h ⊢;exact ih () hk h
 | «at» _ ih=>intro p s hk h;rw[Sem.wp]at h ⊢;exact ih () hk h
 |load _ ih =>intro p s hk h;rw[Sem.wp]at h ⊢;obtain⟨o,e,h⟩:=h;exact⟨o,e,ih o hk h⟩
 |update sf _ ih =>intro p s hk h;rw[Sem.wp]at h ⊢;exact⟨h.1,ih () (hk.trans (KD.upd s.heap _ sf)) h.2⟩
 |alloc _ ih =>intro p s hk h;rw[Sem.wp]at h ⊢;exact ih _ (hk.trans (KD.push s.heap _)) h
 |stack _ ih=>intro p s hk h;rw[Sem.wp]at h ⊢;exact ih _ hk h
theorem jU{α:Type}{M:Model}{A:Around}{t:Sem α}{Q:α->Shared->Prop}{E E':Value->Shared->Prop}{s:Shared}(m:Mild t)(h:wpAny M A t Q E s):wpAny M A t (λa s'=>Q a s'/\KD s.heap s'.heap) E' s:=λΓ p hΓ =>Bz M Γ m (KD.refl _) (h Γ p hΓ)
theorem Cs(f:Array Value->Array Value):uH (Obj.mapFields f):=λo h=>by
 unfold Obj.mapFields;split
 ·exact⟨rfl,rfl⟩
 ·exact⟨h,rfl⟩
theorem sE(a:Addr):Mild (load a):=.load λ_=>.pure _
theorem GZ(v:Value):Mild (fieldsOf v):=by
 unfold fieldsOf;split
 ·refine b7 (sE _) λo=>?_
  split<;>constructor
 ·constructor
theorem ni(v:Value)(i:Nat):Mild (field v i):=by
 unfold field;refine b7 (GZ v) λvs=>?_
 split<;>constructor
theorem sD(v:Value)(i:Nat)(x:Value):Mild (setField v i x):=by
 unfold setField;split
 ·unfold updateField;refine b7 (sE _) λo=>?_
  split
  ·split
   ·exact .update (Cs _) λ_=>fG _
   ·constructor
  ·constructor
 ·constructor
theorem sC(e:Value)(fr:Option Addr):Mild (setFlight e fr):=by
 unfold setFlight;refine b7 (ni e 1) λtb=>?_
 split
 ·exact sD _ _ _
 ·constructor
theorem sy:Mild (stack:Sem (List (Code×Pos))):=.stack λ_=>.pure _
theorem y8:∀l:List Env,Mild (readyFrames l)
 | []=>fG _
 |env::outer=>by
  unfold readyFrames;split
  ·refine b7 (sE _) λo=>?_
   split
   ·constructor
   ·refine b7 ?_ λim=>b7 ?_ λbk=>b7 ?_ λ_=>y8 outer
    ·unfold behindIsImport;split
     ·constructor
     ·split
      ·constructor
      ·exact b7 (ni _ _) λ_=>fG _
    ·unfold keptBack;split
     ·split
      ·constructor
      ·refine b7 ?_ λb=>fG _
       unfold underTheClaimsCaller;exact b7 sy λ_=>fG _
     ·constructor
    ·exact .update (λo h=>⟨by obtain⟨a,b,c,d⟩:=o;cases c<;>first |rfl |exact h,rfl⟩) λ_=>fG _
  ·constructor
theorem GY(env:Env):Mild (PySem.frameOf env):=by
 unfold PySem.frameOf frameEnvs;refine b7 ?_ λl=>b7 ?_ λo=>?_
 ·exact b7 sy λ_=>fG _
 ·generalize l.dropWhile _=l';unfold frameObject;split
  ·constructor
  ·exact b7 (y8 _) λ_=>fG _
 ·split<;>constructor
theorem G6(f:Addr)(b:Bool):Mild (entryPlaceOf f b):=by
 unfold entryPlaceOf;refine b7 sy λl=>?_
 split<;>constructor
theorem GW(ty:String)(vs:List Value):Mild (newFields ty vs):=by
 have as':∀dt:Data,Mild (newObjAsIs (.type ty) dt none):=λdt=>by
  unfold newObjAsIs;refine b7 (.alloc λ_=>.pure _) λa=>?_
  exact fG _
 unfold newFields newObj;dsimp only
 split
 ·exact b7 (.unsupported _) λ_=>as' _
 ·exact as' _
theorem GX(a b c d e:Value)(pl:List Value):Mild (EntryCells.newEntry a b c d e pl):=GW _ _
theorem y7(e hd:Value)(env:Env)(f:Addr):Mild (do setField e 1 (<- EntryCells.newEntry hd (<- PySem.frameOf env) .none (rawInt f) .none (<- entryPlaceOf f (hd != .none))):Sem Unit) :=
 b7 (GY env) λfr=>b7 (G6 _ _) λpl=>b7 (GX _ _ _ _ _ _) λne=>sD _ _ _
theorem y9(e:Value)(env:Env):Mild (noteFrame e env):=by
 unfold noteFrame;split
 ·refine b7 (ni _ _) λhd=>?_
  dsimp only
  split
  ·refine b7 (ni _ _) λx=>?_
   split
   ·exact fG _
   ·exact b7 (sD _ _ _) λ_=>y7 _ _ _ _
  ·exact y7 _ _ _ _
 ·constructor
theorem za(env:Env)(e:Value):Mild (leaving env e):=b7 (y9 e env) λ_=>sC e none
open PySem PySem.Spec PyProof.Rows PySem.W PySem.Calls PySem.Builtin PySem.Builtin.ObjectAttr
noncomputable def jW:List Value:=[.type "ValueError",.type "Exception",.type "BaseException",.type "object"]
noncomputable def iM:List Value->Bool
 |.ref _::r=>r == jW ||iM r
 |_=>false
theorem vi(self:Value):∀{l:List Value},iM l=true->refuseLoop self "__setattr__" l=pure ()
 |.ref c::r,e=>by
  rw[refuseLoop_ref];rcases Bool.or_eq_true_iff.mp (show(r == jW ||iM r)=true from e)with q |q
  ·rw[beq_iff_eq.mp q];exact PySem.F.store_ValueError.passes self
  ·exact vi self q
theorem vj:∀{l:List Value},iM l=true->l.contains (.type "object")=true
 |.ref c::r,e=>by
  rcases Bool.or_eq_true_iff.mp (show(r == jW ||iM r)=true from e)with q |q
  ·rw[beq_iff_eq.mp q];rfl
  ·rw[List.contains_cons,vj q,Bool.or_true]
structure XCls(K:Frag)(C:Addr):Prop where
 ve:∃cd,clsIn K C=some cd/\iM cd.mro=true/\cd.hasDict=true
 sa:findIn K (.ref C) "__setattr__"=some (some (.builtin "object.__setattr__"))
noncomputable def oz(K:Frag)(C:Addr):Bool:=(match clsIn K C with |some cd=>iM cd.mro&&cd.hasDict |none=>false)&&findIn K (.ref C) "__setattr__" == some (some (.builtin "object.__setattr__"))
theorem XCls.of{K:Frag}{C:Addr}(h:oz K C=true):XCls K C:=by
 unfold oz at h
 obtain⟨h1,h2⟩:=Bool.and_eq_true_iff.mp h;refine⟨?_,beq_iff_eq.mp h2⟩;cases e:clsIn K C with
 |none=>rw[e]at h1;cases h1
 |some cd=>rw[e]at h1;obtain⟨a,b⟩:=Bool.and_eq_true_iff.mp h1;exact⟨cd,rfl,a,b⟩
section
variable {prog:Program}{w:World}{A:Around}{E:Value->Shared->Prop}{s:Shared}{K:Frag}{x C:Addr}
theorem Bs{ox:Obj}{vs:Array Value}{name:Str}{v:Value}{Q:Unit->Shared->Prop}(X:K.In s.heap)(T:XCls K C)(hx:s.heap.get? x=some ox)(hc:ox.cls=.ref C)(hd:ox.dict=none)(hf:ox.data=.fields vs)(hn:findIn K (.ref C) name=some none)
 (h:∀h' tk,h'.get? x=some { ox with dict:=some s.heap.objs.size }->h'.Ns1 s.heap.objs.size (λy=>if y=name then some v else none)->(∀b o,b≠x->s.heap.get? b=some o->h'.get? b=some o)->Q () { s with heap:=h',toks:=tk }) :
 wpAny (model prog w) A (setAttr (.ref x) name v) Q E s:=by
 obtain⟨hh,g,d,t,os⟩:=s;obtain⟨cd,hcd,hve,hdict⟩:=T.ve;have I:PySem.W.InstAt hh x ox C none:=⟨hx,hc,by unfold notCls;rw[hf],by rw[hd];trivial⟩;refine set_plain X I T.sa ?_;show codeAny _ _ (.call (.builtin "object.__setattr__") ⟨[.ref x,.str name t,v],[]⟩) _ ⟨hh,g,d,t+1,os⟩;have SF:=PySem.F.store_object
 have ne:cd.mro.isEmpty=false:=by
  cases q:cd.mro with
  |nil=>rw[q]at hve;cases hve
  |cons _ _=>rfl
 have sub:Looks (model prog w) hh (isInstance (.ref x) (.type "object")) true:=I.type.andThen (looks_mroIn X (by unfold mroIn;rw[hcd,Option.bind_some,if_neg (by rw[ne];decide),vj hve]));refine codeAny_call_builtin SF.slot.plain SF.entry (@check_slot (model prog w) _ _ _ "object.__setattr__" "object" "__setattr__" (.ref x) [.str name t,v] [] _ SF.kind SF.split sub (SF.args (.ref x) (.str name t) v) ?_);have hm:Looks (model prog w) hh (mroOf (.ref C)) cd.mro:=(looks_clsIn X hcd).andThen .now;rw[osa_eq,refuse_eq];refine wpAny_bind (wpAny_bind (I.type.here (wpAny_bind (hm.here ?_))));rw[vi _ hve];refine wpAny_pure (wpAny_bind (I.type.here (wpAny_bind (Looks.here (s:=⟨hh,g,d,t+1,os⟩) (looks_findIn X hn) (wpAny_bind (wpAny_pure ?_))))));show wpAny _ _ (storeInOwnDict (.ref x) (.ref C) (.str name t) name v false) _ _ _;unfold storeInOwnDict;refine wpAny_bind (wpAny_pure ?_);show wpAny _ _ (ownDictForStores (.ref x) >>= _) _ _ _;have hxs:x≠hh.objs.size:=M7 (Heap.lt_size hx);have hx1:(hh.push { cls:=.type "dict",data:=.dict #[] }).get? x=some ox:=Heap.get?_push_of_some _ hx;show wpAny _ _ (instanceDict x true >>= _) _ _ _;unfold instanceDict;refine wpAny_bind (wpAny_bind (wpAny_loadPart hx ?_));rw[hc,hd,hf];refine wpAny_bind (Looks.here (s:=⟨hh,g,d,t+1,os⟩) (looks_clsIn X hcd) ?_);rw[hdict];have td:typeHasDict (.ref C)=true:=by rfl
 rw[if_neg (by decide),td];dsimp only
 rw[if_neg (by decide)];refine wpAny_bind (wpAny_alloc' (wpAny_bind (wpAny_update' hx1 (wpAny_pure ?_))));have hgd:((hh.push { cls:=.type "dict",data:=.dict #[] }).update x λo=>{ o with dict:=some hh.objs.size }).get? hh.objs.size=some { cls:=.type "dict",data:=.dict #[] }:=(Heap.get?_update_other _ _ hxs).trans (Heap.get?_push_size _ rfl);have hnd:((hh.push { cls:=.type "dict",data:=.dict #[] }).update x λo=>{ o with dict:=some hh.objs.size }).Ns hh.objs.size (λ_=>none):=⟨_,#[],_,hgd,rfl,λe he=>absurd he (by simp),λ_=>rfl⟩;show wpAny _ _ (storeInDict hh.objs.size (.str name t) name v) _ _ _;unfold storeInDict newKeyGuard;refine wpAny_bind (wpAny_pure (wpAny_bind (wpAny_nsSet1 (Heap.Ns1.of_empty hnd) λh' hn' hs=>?_)));obtain⟨oD,esD,epD,hoD,hdD,hcD⟩:=hn'.count (Within.cons name v Within.nil);have hlen:esD.size<=sizeLine:=MV hcD (by rw[Nh,OZ,sizeLine_eq];omega);refine wpAny_bind (wpAny_lookBehind hoD (by rw[hdD];exact pastItsLine_dict (Nat.le_succ_of_le hlen)) (wpAny_pure ?_));refine h h' _ ?_ hn' λb o hb e=>?_
 ·refine(hs.2 x hxs).trans (Heap.get?_update_self _ hx1 ?_);have fr:=(Heap.get?_some_iff.mp hx).2;obtain⟨oc,od,odt,osl⟩:=ox;cases odt<;>first |rfl |exact fr
 ·exact(hs.2 b (M7 (Heap.lt_size e))).trans ((Heap.get?_update_other _ _ (Ne.symm hb)).trans (Heap.get?_push_of_some _ e))
theorem Bt{ox:Obj}{dx:Addr}{vs:Array Value}{mA:Str->Option Value}{name:Str}{v:Value}{expr:Bool}{Q:Value->Shared->Prop}(X:K.In s.heap)(T:XCls K C)(Te:ECls K C)(hx:s.heap.get? x=some ox)(hc:ox.cls=.ref C)(hd:ox.dict=some dx)(hf:ox.data=.fields vs)(hn:findIn K (.ref C) name=some none)(hns:s.heap.Ns1 dx mA)(hv:mA name=some v)(hh:handedIn v=true)
 (h:Q v { s with toks:=s.toks+1 }):wpAny (model prog w) A (getAttr (.ref x) name expr) Q E s:=by
 obtain⟨hp,g,d,t,os⟩:=s;obtain⟨cd,hcd,hve,hdict⟩:=T.ve;obtain⟨od,hod,hlk⟩:=zd hns;have I:PySem.W.InstAt hp x ox C (some od):=⟨hx,hc,by unfold notCls;rw[hf],by rw[hd];exact hod⟩;have LT:=I.type (M:=model prog w);have L1:=looks_findIn (M:=model prog w) X Te.ga;have L2:=looks_findIn (M:=model prog w) X Te.gn
 have ff:findObj K C (some od) name=some (.value v):=by unfold findObj;rw[hcd,hn,Option.bind_some,Option.bind_some];show(PySem.W.ownOf cd (some od) name).bind _=_;unfold PySem.W.ownOf;rw[if_pos hdict];show(lookIn name od).bind _=_;rw[hlk,hv];rfl
 have LF:=looks_find (M:=model prog w) X I ff;have f3:=F.excAttr_ValueError.ga.bind (.ref x);have hx2:(Value.builtin "BaseException.__getattribute__" == Value.builtin "object.__getattribute__")=false:=by decide +kernel
 have hx1:(onTheHeap (Value.ref C)&&Value.builtin "BaseException.__getattribute__" == Value.builtin "object.__getattribute__")=false:=by rw[hx2];rfl
 have ho:=handedOut_of hh;unfold getAttr getAttrBy;refine wpAny_bind (wpAny_mkText (wpAny_holding (wpAny_bind (LT.at (wpAny_bind (L1.at ?_))))));dsimp only
 rw[if_neg (by rw[hx1];exact N8)];unfold getAttrByItsOwn
 repeat (any_goals (first |assumption | (with_reducible refine wpAny_bind (L2.at ?_)) | (with_reducible refine L2.at ?_) |wp_step))
 have hb:(expr&&onTheHeap (Value.builtin "BaseException.__getattribute__"))=false:=by cases expr<;>rfl
 rw[if_neg (by rw[hb];exact N8)]
 repeat (any_goals (first |assumption |wp_step))
 refine codeAny_call_builtin F.excAttr_ValueError.ga.plain F.entry_bexc_ga (Jo X LT Te.mB ?_)
 repeat (any_goals (first |assumption | (with_reducible refine wpAny_bind (LT.at ?_)) | (with_reducible refine LT.at ?_) | (with_reducible refine wpAny_bind (LF.at ?_)) | (with_reducible refine LF.at ?_) |wp_step))
end
section
variable {prog:Program}{w:World}{A:Around}{E:Value->Shared->Prop}{h:Heap}{g:Array GenState}{d:Drawn}{t:Nat}{os:OsState}
variable {nm q:Str}{C N fI:Addr}{bs bm bmB:List Value}{hdct:Bool}{sn:List Str}{sub:List Value}{ab:Bool}{col:Option Bool}{dd:Option Addr}{k0 k1 k2 k3 k5:Option Value}{B newId initId:String}{mN:Str->Option Value}{oI:Obj}{rest:List Value}
noncomputable def cP(C t:Addr):Obj:={ cls:=.ref C,data:=.fields #[.ref t,.none,.none,.none,.bool false,.none] }
theorem Br(F:ExcBaseFacts B newId initId bmB)(T:OwnTail h bmB bm){Q:Fin->Shared->Prop}(hC:h.get? C=some (excClassObj nm q C N bs bm hdct sn sub ab col dd k0 k1 k2 k3 k5 newId))(hn:h.Ns N mN)(hi:mN "__init__"=some (.ref fI))(hfI:h.get? fI=some oI)(hfc:oI.cls=.type "function")(hrest:rest.length<=sizeLine)
 (hq:wpAny (model prog w) A (call (.ref fI) (.ref (h.objs.size+1)::rest)) (λr s'=>r=.none/\Q (.done (.ret (.ref (h.objs.size+1)))) s') E ⟨(h.push { cls:=.type "tuple",data:=.seq rest.toArray }).push (cP C h.objs.size),g,d,t,os⟩) :
 wpAny (model prog w) A (Builtin.«type.__call__» ⟨.ref C::rest,[]⟩) Q E ⟨h,g,d,t,os⟩:=by
 have kk:∀b o,h.get? b=some o->((h.push { cls:=.type "tuple",data:=.seq rest.toArray }).push (cP C h.objs.size)).get? b=some o:=λb o e=>Heap.get?_push_of_some _ (Heap.get?_push_of_some _ e)
 have g0:((h.push { cls:=.type "tuple",data:=.seq rest.toArray }).push (cP C h.objs.size)).get? (h.objs.size+1)=some (cP C h.objs.size):=by
  have:=Heap.get?_push_size (h.push { cls:=.type "tuple",data:=.seq rest.toArray }) (o:=cP C h.objs.size) rfl
  rwa [Heap.size_push]at this
 have cC:(Value.ref C::bm).contains (.ref C)=true:=by simp
 repeat (first |with_reducible refine wpAny_loadPart_at hC ?_ |with_reducible refine wpAny_madeBy_exc hC ?_ |wp_step)
 refine codeAny_call_builtin_code (Code.quiet_builtin _ F.quiet) (wpAny_check_new_subT F T hC (codeAny_exc_new_subT F T hC ?_ hrest));have hC':=kk _ _ hC;have hn':=hn.keeps kk;have T':=T.keeps kk;have hf':=kk _ _ hfI;show wpAny _ _ _ _ _ ⟨(h.push { cls:=.type "tuple",data:=.seq rest.toArray }).push (cP C h.objs.size),g,d,t,os⟩;generalize (h.push { cls:=.type "tuple",data:=.seq rest.toArray }).push (cP C h.objs.size)=h2 at *
 unfold cP at g0
 unfold isInstance
 repeat (first |with_reducible refine wpAny_loadPart_at g0 ?_ | (with_reducible refine wpAny_isSubtype_exc hC' ?_;rw[cC]) |wp_step)
 show wpAny _ _ (typeLookup (.ref C) _) _ _ _;refine wpAny_typeLookup_tail hC' hn' T' F.mroIs F.init.lookup ?_;rw[hi];refine wpAny_holding (wpAny_bind ?_);unfold bindSpecial;refine wpAny_bind (wpAny_typeOf (T:="function") ⟨_,hf',hfc⟩ ?_);rw[if_pos (by decide)];refine wpAny_pure (wpAny_bind (wpAny_mono hq (λr s' hr=>?_) λ_ _ z=>z));obtain⟨rfl,z⟩:=hr
 wp_walk
 exact z
theorem By(F:ExcBaseFacts B newId initId bmB)(T:OwnTail h bmB bm){Q:Value->Shared->Prop}(hC:h.get? C=some (excClassObj nm q C N bs bm hdct sn sub ab col dd k0 k1 k2 k3 k5 newId))(hn:h.Ns N mN)(hi:mN "__init__"=some (.ref fI))(hfI:h.get? fI=some oI)(hfc:oI.cls=.type "function")(hrest:rest.length<=sizeLine)
 (hq:wpAny (model prog w) (A.under (.builtin "type.__call__" ⟨.ref C::rest,[]⟩)) (call (.ref fI) (.ref (h.objs.size+1)::rest)) (λr s'=>r=.none/\Q (.ref (h.objs.size+1)) s') E ⟨(h.push { cls:=.type "tuple",data:=.seq rest.toArray }).push (cP C h.objs.size),g,d,t,os⟩) :
 wpAny (model prog w) A (call (.ref C) rest) Q E ⟨h,g,d,t,os⟩:=by
 have a1:=tc_lookup;have a2:=tc_bind (.ref C);have hT:(⟨h,g,d,t,os⟩:Shared).TypeIs (.ref C) "type":=⟨_,hC,rfl⟩;refine wpAny_call (codeAny_of_tree ?_);show wpAny _ _ (callAny (.ref C) _) _ _ _
 repeat (any_goals (first |assumption |with_reducible refine wpAny_loadPart_at hC ?_ |wp_step))
 refine⟨rfl,codeAny_call_builtin_at (Code.quiet_builtin _ (by decide +kernel)) entry_typeCall (wpAny_check_type_call_sub hC (Br F T hC hn hi hfI hfc hrest ?_))⟩;exact hq
end
section
variable {M:Model}{A:Around}{E:Value->Shared->Prop}{s:Shared}{env:Env}
variable {nm q:Str}{C N:Addr}{bs bm:List Value}{hdct:Bool}{sn:List Str}{sub:List Value}{ab:Bool}{col:Option Bool}{dd:Option Addr}{k0 k1 k2 k3 k5:Option Value}{newId:String}
theorem D4{x:Sem Value}{Q:Flow->Shared->Prop}(hbase:bm.contains (.type "BaseException")=true)(hh:A.handled=none)
 (hx:wpAny M A x (λv s1=>∃e t d,v=.ref e/\s1.heap.get? C=some (excClassObj nm q C N bs bm hdct sn sub ab col dd k0 k1 k2 k3 k5 newId)/\s1.heap.get? e=some { cP C t with dict:=d }/\E (.ref e) s1) E s) :
 wpAny M A (raiseStmt env (some x) none) Q E s:=by
 have cB:(Value.ref C::bm).contains (.type "BaseException")=true:=by rw[List.contains_cons,hbase,Bool.or_true]
 unfold raiseStmt;refine wpAny_bind (wpAny_mono hx (λv s1 h1=>?_) λ_ _ z=>z);obtain⟨e,t,d,rfl,hC,he,hE⟩:=h1;obtain⟨hp,g,d',tk,os⟩:=s1;unfold cP at he
 repeat (first |with_reducible refine wpAny_loadPart_at he ?_ |with_reducible refine wpAny_loadPart_at hC ?_ | (with_reducible refine wpAny_isSubtype_exc hC ?_;rw[cB]) |wp_step)
 exact wpAny_raiseNew_none hh hE
end
noncomputable def CXV(P:Program)(w:World):CXT:=λouter H s E e s'=>∃d:Option Addr,CXW P w outer H s (λc _ H'=>E c d H') e s'/\∃ea ob,e=.ref ea/\s'.heap.get? ea=some ob/\ob.dict=d
noncomputable def EX(C a:Addr)(d:Option Addr):HO:=.ext λh=>∃t,h.get? a=some { cP C t with dict:=d }
theorem Ac{P:Program}{w:World}{H:Hp}{h:Heap}{C a t:Addr}{d:Option Addr}(e:h.get? a=some { cP C t with dict:=d }):ObjOk P w H h a (EX C a d):=⟨⟨t,e⟩,⟨_,e⟩,λh1 h2 ⟨t',e'⟩ k=>⟨t',k _ e'⟩⟩
section
variable {P:Program}{w:World}{K:PySem.W.Frag}{mg:Str->Option Value}{base:Heap}{N:List Str}{qual:Str}{scope:Scope}{f:Addr}{cd:Value}{A:Around}{outer:List Env}{s:Shared}{H:Hp}{E:XK}{pins:List (Addr×Obj)}{σ:St}{H1:Hp}{s1:Shared}
theorem Bu{e C:Addr}{oe:Obj}{vs:Array Value}{a0:Value}(I:Inv (bX (CXV P w) P w K mg base N qual scope f cd A outer s H E) pins σ H1 s1)(he:s1.heap.get? e=some oe)(hc:oe.cls=.ref C)(hd:oe.data=.fields vs)(h0:vs[0]?=some a0)(h1:vs[1]?=some .none)(hn:H1 e=none)(hs:s.heap.get? e=none)(hE:E (.ref C) oe.dict H1) :
 (bX (CXV P w) P w K mg base N qual scope f cd A outer s H E).xe (.ref e) s1:=by
 have hst:=I.stack;have hfree:=I.stkFree;have hfrm:(envOfC qual scope s.heap.objs.size f cd).frame=some s.heap.objs.size:=rfl;have efr:frs (envOfC qual scope s.heap.objs.size f cd::outer)=s.heap.objs.size::frs outer:=zO hfrm;have hin:∀env∈(envOfC qual scope s.heap.objs.size f cd::outer),∀b,env.frame=some b->b∈e::frs (envOfC qual scope s.heap.objs.size f cd::outer):=λenv hv b hb=>MK _ (List.mem_filterMap.mpr ⟨env,hv,hb⟩)
 have b1:∀b o,s.heap.get? b=some o->b∉frs outer->∃o',s1.heap.get? b=some o'/\(PySem.W.hideAll s1.heap (e::frs (envOfC qual scope s.heap.objs.size f cd::outer))).get? b=some o':=λb o q hb=>by
  obtain⟨o',q'⟩:=I.base.there b o q (λz=>nomatch z);refine⟨o',q',PySem.W.hideAll_get _ q' λz=>?_⟩;rw[efr]at z;rcases MM.mp z with z |z
  ·rw[z,hs]at q;cases q
  ·rcases MM.mp z with z |z
   ·exact absurd (Heap.lt_size q) (by rw[z];exact NC _)
   ·exact hb z
 have b2:∀b x,H1 b=some x->∃o',s1.heap.get? b=some o'/\(PySem.W.hideAll s1.heap (e::frs (envOfC qual scope s.heap.objs.size f cd::outer))).get? b=some o':=λb x q=>by
  obtain⟨o',q'⟩:∃o',s1.heap.get? b=some o':=Gv (I.hok b x q);refine⟨o',q',PySem.W.hideAll_get _ q' λz=>?_⟩;rcases MM.mp z with z |z
  ·rw[z,hn]at q;cases q
  ·rw[hfree b z]at q;cases q
 have hB:(PySem.W.hideAll s1.heap (e::frs (envOfC qual scope s.heap.objs.size f cd::outer))).get? e=none:=PySem.W.hideAll_none _ (MP ..)
 have fd:∀b∈frs outer,∀o,s1.heap.get? b=some o->∀ws,o.data≠.fields ws:=λb hb o q=>by obtain⟨_,o',q',hdd⟩:=I.funs.mem hb;have q'':s1.heap.get? b=some o':=q';rw[q]at q'';cases q'';exact hdd
 refine wpAny_mono (jU (E':=λ_ _=>False) (za _ _) (wpAny_leaving_firstW (L:=s.heap.objs.size) (a0:=a0) I.ok.frames (PySem.W.funFrames_hide hst hin) hfrm he (λb o q=>PySem.W.of_hideAll _ q) hB hd h1 h0 (Q:=λ_ s''=>∃h'',s''={ s1 with heap:=h'' }/\Heap.FlyingW (PySem.W.hideAll s1.heap (e::frs (envOfC qual scope s.heap.objs.size f cd::outer))) outer e oe.cls a0 h''/\s1.heap.UpToSlots h'') (E:=λ_ _=>False) λh' hL=>?_)) (λ_ s'' hq=>?_) (λ_ _ z=>z.elim)
 ·obtain⟨k1,⟨_,_,k2⟩,k3,k4⟩:=hL;exact⟨h',rfl,⟨k1,hB,k2,k3⟩,k4⟩
 ·obtain⟨⟨h'',rfl,fl,up⟩,kd⟩:=hq;obtain⟨o',eo',od'⟩:=kd e oe he;rw[hc]at fl;refine⟨oe.dict,⟨e,.ref C,a0,_,H1,rfl,I.os,I.bare,?_,I.hok.back b2 fl.1,fl,λb o q hb=>?_,λb x q=>?_,hn,hs,hE⟩,e,o',rfl,eo',od'⟩
  ·exact I.base.back (λb o q hb=>let⟨o',q1,q2⟩:=b1 b o q hb;⟨o',q1,fl.1 _ _ q2⟩) I.ok.frf fd up
  ·obtain⟨o',q1,q2⟩:=b1 b o q hb;exact⟨o',fl.1 _ _ q2,q2⟩
  ·obtain⟨o',q1,q2⟩:=b2 b x q;exact⟨o',fl.1 _ _ q2,q2⟩
theorem Bv{E':XK}{e:Value}{s2:Shared}(I:Inv (bX (CXV P w) P w K mg base N qual scope f cd A outer s H E) pins σ H1 s1)(h:CXV P w (bX (CXV P w) P w K mg base N qual scope f cd A outer s H E).stack H1 s1 E' e s2)(hE:∀c d H',E' c d H'->E c d H') :
 (bX (CXV P w) P w K mg base N qual scope f cd A outer s H E).xe e s2:=by
 obtain⟨d,hW,ea,ob,rfl,eo,ed⟩:=h;have I':Inv (bX (CXW P w) P w K mg base N qual scope f cd A outer s H (λc _ H'=>E c d H')) pins σ H1 s1:=(I.wish (bX (CXW P w) P w K mg base N qual scope f cd A outer s H (λc _ H'=>E c d H')).xe);have x:=Bw (E':=λc _ H'=>E' c d H') I' hW (λc _ H' z=>hE c d H' z);have x':wpAny (model P w) (A.deeper (envOfC qual scope s.heap.objs.size f cd)) (leaving (envOfC qual scope s.heap.objs.size f cd) (.ref ea)) (λ_ s''=>CXW P w outer H s (λc _ H'=>E c d H') (.ref ea) s'') (λe' s''=>CXW P w outer H s (λc _ H'=>E c d H') e' s'') s2:=x;refine wpAny_mono (jU (E':=λ_ _=>False) (za _ _) x') (λ_ s'' hq=>?_) (λ_ _ z=>z.elim);obtain⟨h1,kd⟩:=hq;obtain⟨o',eo',od'⟩:=kd ea ob eo;exact⟨d,h1,ea,o',rfl,eo',od'.trans ed⟩
theorem ES{E':XK}(hE:∀c d H',E' c d H'->E c d H'):gO (CXV P w) (bX (CXV P w) P w K mg base N qual scope f cd A outer s H E) E':=λ_ _ _ _ _ _ I h=>Bv I h hE
theorem rT{X:Cx}:gO (CXV X.prog X.w) X E0:=λ_ _ _ _ _ _ _ h=>by obtain⟨_,h,_⟩:=h;obtain⟨_,_,_,_,_,_,_,_,_,_,_,_,_,_,_,z⟩:=h;exact z.elim
end
section
variable {X:Cx}{pins:List (Addr×Obj)}{σ:St}{H:Hp}{s:Shared}{a C:Addr}{f:Str}
theorem HF{h':Heap}{tk:Nat}{t:Addr}{y:V}{u:Value}(I:Inv X pins σ H s)(e:H a=some (EX C a none))(ry:RelV y u)(ha:h'.get? a=some { cP C t with dict:=some s.heap.objs.size })(hn:h'.Ns1 s.heap.objs.size (λg=>if g=f then some u else none))(k:∀b o,b≠a->s.heap.get? b=some o->h'.get? b=some o) :
 Inv X pins σ (upd (upd H s.heap.objs.size (.xd [(f,y)])) a (EX C a (some s.heap.objs.size))) { s with heap:=h',toks:=tk }:=by
 have fr:H s.heap.objs.size=none:=I.hok.fresh (MJ _);have nd:a≠s.heap.objs.size:=aN e fr;have other:∀b,b≠a->b≠s.heap.objs.size->upd (upd H s.heap.objs.size (.xd [(f,y)])) a (EX C a (some s.heap.objs.size)) b=H b:=λb h1 h2=>by rw[upd_ne h1,upd_ne h2]
 have na:∀b o,H b=some o->(∀φ,o≠.ext φ)->b≠a:=λb o q h1 z=>by rw[z,e]at q;exact h1 _ (Option.some.inj q).symm
 have ns:∀b o,s.heap.get? b=some o->b≠s.heap.objs.size:=λb o q=>M7 (Heap.lt_size q)
 have nf:∀b o,H b=some o->b≠s.heap.objs.size:=λb o q=>aN q fr
 refine I.un ⟨λb o q n _ _=>k b o (λz=>by rw[z,e]at n;cases n) q,λb o q n _ _=>⟨o.slots,k b o (λz=>by rw[z,e]at n;cases n) q⟩,λb o q n _=>?_,λb o q _=>?_,λb xs q=>?_,λb o u q=>?_,λb ps q=>⟨#[],?_⟩⟩ λb o q=>?_
 ·rw[other b (λz=>by rw[z,e]at n;cases n) (ns b o q)];exact n
 ·by_cases z:b=a
  ·exact⟨_,by rw[z];exact ha⟩
  ·exact⟨o,k b o z q⟩
 ·rw[other b (na b _ q λφ z=>by cases z) (nf b _ q)];exact q
 ·rw[other b (na b _ q λφ z=>by cases z) (nf b _ q)];exact q
 ·rw[other b (na b _ q λφ z=>by cases z) (nf b _ q),Array.append_empty];exact q
 ·by_cases z:b=a
  ·subst z;rw[ap]at q;cases q;exact Ac ha
  ·rw[upd_ne z]at q;by_cases z2:b=s.heap.objs.size
   ·subst z2;rw[ap]at q;cases q;refine⟨_,hn,λg=>?_⟩;by_cases zg:g=f
    ·subst zg;rw[if_pos rfl];show RelO (List.lookup g [(g,y)]) (some u);simp only[List.lookup,beq_self_eq_true];exact ry
    ·rw[if_neg zg];have:(g == f)=false:=beq_false_of_ne zg;show RelO (List.lookup g [(f,y)]) none;simp only[List.lookup,this];trivial
   ·rw[upd_ne z2]at q;refine(I.hok b o q).stay (λc v hc r=>k c v ?_ r) (λc r=>?_) λc xs r=>?_
    ·rcases hc with rfl |hc
     ·exact z
     ·exact na c _ hc λφ z=>by cases z
    ·rw[other c (na c _ r λφ z=>by cases z) (nf c _ r)];exact r
    ·rw[other c (na c _ r λφ z=>by cases z) (nf c _ r)];exact r
end
def sXf(K:PySem.W.Frag)(ta tv:TE)(f:Str):TS:=λD σ H=>tv σ H λy H1=>ta σ H1 λx H2=>∃a C,x=.ref a/\H2 a=some (EX C a none)/\XCls K C/\NoAttr K C f/\∀dx,H2 dx=none->dx≠a->D.nx σ (upd (upd H2 dx (.xd [(f,y)])) a (EX C a (some dx)))
section
variable {X:Cx}{o value:Expr}{f:Str}{pos pos':Pos}{ta tv:TE}
theorem Ei(ha:PE X o ta)(hv:PE X value tv)(hs:swapsWith value (some (.Attribute o f pos')) pos.line X.env=pure false):PS X (.Assign [.Attribute o f pos'] value pos) (sXf X.K ta tv f):=by intro pins s σ H D I h;refine plainObj_wpAny_Assign_Attribute (thn (hv pins s σ H _ I h) λu s1 ⟨y,H1,I1,ry,q⟩=>thn (ha pins s1 σ H1 _ I1 q) λov s2 ⟨x,H2,I2,rx,a,C,ex,ea,c,n,q2⟩=>?_) hs;subst ex;obtain rfl:ov=Value.ref a:=rx;obtain⟨⟨t,et⟩,_,_⟩:=(show ObjOk X.prog X.w H2 s2.heap a (EX C a none)from I2.hok a _ ea);have fr:H2 s2.heap.objs.size=none:=I2.hok.fresh (MJ _);refine Bs I2.kIn c et rfl rfl rfl n λh' tk e1 e2 e3=>⟨σ,_,HF (t:=t) I2 ea ry e1 e2 e3,q2 _ fr (Ne.symm (aN ea fr))⟩
end
def lZ(C:Addr)(f:Str):Sp:=λvs H Q _=>∃(e:Addr) (v:V),vs=[.ref e,v]/\H e=some (EX C e none)/\∀dx,H dx=none->dx≠e->Q .non (upd (upd H dx (.xd [(f,v)])) e (EX C e (some dx)))
structure OwnX(x:Str)(C fI:Addr)(bmB:List Value)(newId:String)(mg:Str->Option Value)(h:Heap):Prop where
 bound:mg x=some (.ref C)
 obj:∃bm N nm q bs hdct sn sub ab col dd k0 k1 k2 k3 k5 mN,h.get? C=some (excClassObj nm q C N bs bm hdct sn sub ab col dd k0 k1 k2 k3 k5 newId)/\h.Ns N mN/\mN "__init__"=some (.ref fI)/\OwnTail h bmB bm
 fn:∃oI,h.get? fI=some oI/\oI.cls=.type "function"
def Cc(E:XK)(c:Value)(f:Str)(t:TA):TS:=λ_ σ H=>t σ H λvs H1=>∃v,vs=[v]/\∀dx,H1 dx=none->E c (some dx) (upd H1 dx (.xd [(f,v)]))
section
variable {X:Cx}{pins:List (Addr×Obj)}{σ:St}{H:Hp}{s:Shared}{a:Addr}{φ:Heap->Prop}
theorem Inv.untrack{H':Hp}{s':Shared}(I:Inv X pins σ H s)(e:H a=some (.ext φ))(J:Inv X pins σ H' s')(hn:H' a=none):Inv X pins σ (λb=>if b=a then none else H b) s:=by
 have other:∀b,b≠a->(if b=a then none else H b)=H b:=λb h1=>if_neg h1
 have na:∀b o,H b=some o->(∀φ,o≠.ext φ)->b≠a:=λb o q h1 z=>by rw[z,e]at q;exact h1 _ (Option.some.inj q).symm
 refine⟨I.ok,I.os,I.bare,⟨I.base.keep,I.base.slot,λb o q n hx=>?_,I.base.there,λb xs q=>?_,λb o u q=>?_,λb ps q=>?_⟩,I.loc,I.cell,?_,λx c q=>?_,λp hp=>?_,λb o q=>?_,I.len⟩
 ·show(if b=a then none else H b)=none;split
  ·rfl
  ·exact I.base.free b o q n hx
 ·have z:b≠a:=λz=>by have:=J.base.tups b xs q;rw[z,hn]at this;cases this
  rw[other b z];exact I.base.tups b xs q
 ·have z:b≠a:=λz=>by have:=J.base.frzs b o u q;rw[z,hn]at this;cases this
  rw[other b z];exact I.base.frzs b o u q
 ·have z:b≠a:=λz=>by obtain⟨m,this⟩:=J.base.tbls b ps q;rw[z,hn]at this;cases this
  rw[other b z];exact I.base.tbls b ps q
 ·show(if X.env.locals=a then none else H X.env.locals)=none;split
  ·rfl
  ·exact I.free
 ·show(if c=a then none else H c)=none;split
  ·rfl
  ·exact I.freeC x c q
 ·obtain⟨h1,h2,h3⟩:=I.pin p hp;refine⟨h1,?_,h3⟩;show(if p.1=a then none else H p.1)=none;split
  ·rfl
  ·exact h2
 ·have q':(if b=a then none else H b)=some o:=q;by_cases z:b=a
  ·rw[if_pos z]at q';cases q'
  ·rw[if_neg z]at q';refine(I.hok b o q').stay (λ_ _ _ r=>r) (λc r=>?_) λc xs r=>?_
   ·rw[other c (na c _ r λφ z=>by cases z)];exact r
   ·rw[other c (na c _ r λφ z=>by cases z)];exact r
end
section
variable {P:Program}{w:World}{K:PySem.W.Frag}{mg:Str->Option Value}{base:Heap}{N:List Str}{qual:Str}{scope:Scope}{f:Addr}{cd:Value}{A:Around}{outer:List Env}{s:Shared}{H:Hp}{E:XK}
theorem Em{x att:Str}{C fI:Addr}{bmB:List Value}{Bn newId initId:String}{np cpos pos:Pos}{e:Expr}{t:TA}{fd:FuncData}{ps:List Str}{k:Nat}(hg:Gl (bX (CXV P w) P w K mg base N qual scope f cd A outer s H E) x)(O:OwnX x C fI bmB newId mg base)(FB:ExcBaseFacts Bn newId initId bmB)
 (F:FnOk P w K mg base CX0 k fI fd ps (lZ C att)) (hr:Room (k+1) (bX (CXV P w) P w K mg base N qual scope f cd A outer s H E).A) (hb:Binds K fd ps []) (hk:PySem.W.keepIn K (.ref C)=true) (ha:PA (bX (CXV P w) P w K mg base N qual scope f cd A outer s H E) [e] t)
 (hdb:(x == ("__debug__":Str))=false:=by decide) (he:starEach [e] (envOfC qual scope s.heap.objs.size f cd)=(false,eval e (envOfC qual scope s.heap.objs.size f cd))::starEach [] (envOfC qual scope s.heap.objs.size f cd):=by rfl) (hpl:(backTo cpos (starEach [] (envOfC qual scope s.heap.objs.size f cd))).any (·.1)=false:=by rfl) :
 PS (bX (CXV P w) P w K mg base N qual scope f cd A outer s H E) (.Raise (some (.Call (.Name x np) [e] [] cpos)) none pos) (Cc E (.ref C) att t):=by
 intro pins s1 σ H1 D I h;obtain⟨tl,NN,nm,q,bs,hdct,sn,sub,ab,col,dd,k0,k1,k2,k3,k5,mN,hC,hN,hi,T⟩:=O.obj;obtain⟨oI,hfI,hfc⟩:=O.fn;rw[arm_exec_Raise];refine wpAny_bind (wpAny_standAt ?_);refine D4 (C:=C) (nm:=nm) (q:=q) (N:=NN) (bs:=bs) (bm:=tl) (hdct:=hdct) (sn:=sn) (sub:=sub) (ab:=ab) (col:=col) (dd:=dd) (k0:=k0) (k1:=k1) (k2:=k2) (k3:=k3) (k5:=k5) (newId:=newId) (T.hasType FB.hasBase) (I.ok.hd rfl) ?_;refine wpAny_bind (wpAny_mono ?_ (λv s3 h3=>wpAny_bind (wpAny_standAt (wpAny_pure h3))) λ_ _ z=>z);refine wpAny_Call_Name_kw (jE I hg O.bound ?_ hdb);refine PySem.W.callWith_K (h₀:=base) I.ok.mod.kin hk (thn (ha cpos pins s1 σ H1 _ I h) λus s2 ⟨vs,H2,I2,r,v,ev,q2⟩=>⟨I2.kIn,?_⟩) he hpl;subst ev;obtain⟨hh,g,d,tt,os⟩:=s2;have hlen:us.length<=sizeLine:=by rw[<- r.length];show 1<=sizeLine;decide
 show wpAny _ _ (call (.ref C) us) _ _ ⟨hh,g,d,tt,os⟩;refine By FB (T.keeps I2.bk) (I2.bk _ _ hC) (hN.keeps I2.bk) hi (I2.bk _ _ hfI) hfc hlen ?_
 have ge:((hh.push { cls:=.type "tuple",data:=.seq us.toArray }).push (cP C hh.objs.size)).get? (hh.objs.size+1)=some (cP C hh.objs.size):=by
  have:=Heap.get?_push_size (hh.push { cls:=.type "tuple",data:=.seq us.toArray }) (o:=cP C hh.objs.size) rfl
  rwa [Heap.size_push]at this
 have I3:Inv (bX (CXV P w) P w K mg base N qual scope f cd A outer s H E) pins σ (upd H2 (hh.objs.size+1) (EX C (hh.objs.size+1) none)) ⟨(hh.push { cls:=.type "tuple",data:=.seq us.toArray }).push (cP C hh.objs.size),g,d,tt,os⟩ :=
  I2.laid (a:=hh.objs.size+1) (o:=EX C (hh.objs.size+1) none) (t':=tt) (λb u z=>Heap.get?_push_of_some _ (Heap.get?_push_of_some _ z)) (Nat.le_succ _) (Ac (t:=hh.objs.size) ge)
 have fr:H2 (hh.objs.size+1)=none:=I2.hok.fresh (Nat.le_succ _);generalize hea:hh.objs.size+1=ea at ge I3 fr ⊢
 generalize (hh.push { cls:=.type "tuple",data:=.seq us.toArray }).push (cP C hh.objs.size)=h3 at ge I3 ⊢
 have sp0:lZ C att [V.ref ea,v] (upd H2 ea (EX C ea none)) (λv' H'=>v'=.non/\∃dx,H2 dx=none/\dx≠ea/\H'=upd (upd (upd H2 ea (EX C ea none)) dx (.xd [(att,v)])) ea (EX C ea (some dx))) E0 :=
  ⟨ea,v,rfl,ap,λdx h1 h2=>⟨rfl,dx,by rwa [upd_ne h2]at h1,h2,rfl⟩⟩
 have r2:Vals [V.ref ea,v] (Value.ref ea::us):=.cons rfl r
 have hl:(Value.ref ea::us++[]).length=ps.length:=by have z:=r2.length;rw[F.len _ _ _ _ sp0]at z;rw[Oj];exact z.symm
 have hbb:=hb _ (Value.ref ea::us) I3.kIn hl;rw[Oj]at hbb;refine wpAny_call (codeAny_mono (F.run _ (bX (CXV P w) P w K mg base N qual scope f cd A outer s H E).stack _ _ ⟨Value.ref ea::us,[]⟩ (Value.ref ea::us) _ _ E0 (hr.make C us []) (I3.env0.make C us []) hbb r2 sp0) λr' s' hq'=>?_);cases r' with
 |error e'=>exact(show False from hq').elim
 |ok fl =>
  cases fl with
  |ret u =>
   obtain⟨v',H',I4,rv,ev,dx,hdx,hde,eH⟩:=I3.after hq';subst ev;subst eH;refine⟨rv,?_⟩;obtain⟨⟨t4,et4⟩,_,_⟩:=(show ObjOk P w _ s'.heap ea (EX C ea (some dx))from I4.hok ea _ ap)
   have sn':s.heap.get? ea=none:=by
    cases z:s.heap.get? ea with
    |none=>rfl
    |some o =>obtain⟨o',z'⟩:=I2.base.there ea o z (λz=>nomatch z);exact absurd (Heap.lt_size z') (by rw[<- hea];show ¬hh.objs.size+1<hh.objs.size;omega)
   have I5:=I4.untrack (a:=ea) ap I2 fr
   have eH5:(λb=>if b=ea then none else upd (upd (upd H2 ea (EX C ea none)) dx (.xd [(att,v)])) ea (EX C ea (some dx)) b)=upd H2 dx (.xd [(att,v)]):=funext λb=>by
    by_cases z:b=ea
    ·rw[if_pos z,z,upd_ne (Ne.symm hde),fr]
    ·rw[if_neg z,upd_ne z];by_cases z2:b=dx
     ·rw[z2,ap,ap]
     ·rw[upd_ne z2,upd_ne z,upd_ne z2]
   rw[eH5]at I5;refine⟨ea,t4,some dx,rfl,I5.bk _ _ hC,et4,?_⟩;exact Bu I5 et4 rfl rfl rfl rfl (by rw[upd_ne (Ne.symm hde)];exact fr) sn' (q2 dx hdx)
  |next=>exact(show False from hq').elim
  |brk=>exact(show False from hq').elim
  |cont=>exact(show False from hq').elim
end
section
variable {P:Program}{w:World}{K:PySem.W.Frag}{mg:Str->Option Value}{base:Heap}
theorem Fun.okV{x qual:Str}{st:Stmt}{f:Addr}{fd:FuncData}{N ps:List Str}{k:Nat}{sp:Sp}(F:Fun K x qual st f fd)(S:FnScope N ps (aA st))(len:∀vs H Q E,sp vs H Q E->vs.length=ps.length)
 (hbody:∀(cdv:Value) (A:Around) (outer:List Env) (s:Shared) (H:Hp) (vs:List V) (Q:VK) (E:XK),Room k (A.deeper (envOfC qual (aA st) s.heap.objs.size f cdv))->sp vs H Q E ->
   ∃t,PSs (bX (CXV P w) P w K mg base N qual (aA st) f cdv A outer s H E) (cW st) t/\t { nx:=λ_ H'=>Q .non H',rt:=Q } (start N vs) H):FnOk P w K mg base (CXV P w) (k+1) f fd ps sp:=by
 obtain⟨oc,od,kV,doc,pm,an,cdv,ct,osl,rfl,lk,hcd⟩:=F.ex;exact nK lk hcd S len λA outer s H vs Q E hr hsp=>hbody cdv A outer s H vs Q E hr hsp
theorem FunD.okV{x qual:Str}{st:Stmt}{dV:Value}{f:Addr}{fd:FuncData}{N ps:List Str}{k:Nat}{sp:Sp}(F:FunD K x qual st dV f fd)(S:FnScope N ps (aA st))(len:∀vs H Q E,sp vs H Q E->vs.length=ps.length)
 (hbody:∀(cdv:Value) (A:Around) (outer:List Env) (s:Shared) (H:Hp) (vs:List V) (Q:VK) (E:XK),Room k (A.deeper (envOfC qual (aA st) s.heap.objs.size f cdv))->sp vs H Q E ->
   ∃t,PSs (bX (CXV P w) P w K mg base N qual (aA st) f cdv A outer s H E) (cW st) t/\t { nx:=λ_ H'=>Q .non H',rt:=Q } (start N vs) H):FnOk P w K mg base (CXV P w) (k+1) f fd ps sp:=by
 obtain⟨oc,od,kV,doc,pm,an,cdv,ct,osl,rfl,lk,hcd⟩:=F.ex;exact nK lk hcd S len λA outer s H vs Q E hr hsp=>hbody cdv A outer s H vs Q E hr hsp
end
section
variable {P:Program}{w:World}{K:PySem.W.Frag}{mg:Str->Option Value}{base:Heap}{N:List Str}{qual:Str}{scope:Scope}{f:Addr}{cd:Value}{A:Around}{outer:List Env}{s:Shared}{H:Hp}{E:XK}
end
def PXV(X:Cx)(x:Expr)(tx:XK->TE):Prop:=∀(W:Value->Shared->Prop) (pins:List (Addr×Obj)) (σ:St) (s:Shared) (H:Hp) (Q:VK) (E:XK),Bg (CXV X.prog X.w) (X.wish W) pins σ E->Inv (X.wish W) pins σ H s->tx E σ H Q ->
 wpAny (model X.prog X.w) X.A (eval x X.env) (EP (X.wish W) pins σ Q) W s
def Bj(K:PySem.W.Frag)(R:Addr)(i:Nat)(th:Addr->Obj->TS)(D:Ends)(σ:St):XK:=λcls d H'=>PySem.W.exmOne K cls (.ref R)=some true /\
 ∀ea oe vs,oe.cls=cls->oe.dict=d->oe.data=.fields vs->H' ea=none->th ea oe { nx:=λσ'' H''=>D.nx (σ''.set i none) H'',rt:=λ_ _=>False,bk:=λ_ _=>False,ct:=λ_ _=>False } (σ.set i (some (.ref ea))) H'
def Cb(K:PySem.W.Frag)(tx:XK->TE)(R:Addr)(i:Nat)(th:Addr->Obj->TS):TS:=λD σ H=>tx (Bj K R i th D σ) σ H λ_ H'=>D.nx σ H'
section
variable {X:Cx}{k:Nat}{f R R2:Addr}{fd:FuncData}{ps:List Str}{sp:Sp}{dvs:List V}{ds:List Value}{r r2 n n2 x:Str}{p pos epos np hpos np2 hpos2:Pos}{e ex:Expr}{es:List Expr}{t:TA}{i i2:Nat}{b₀ b₂:Stmt}{suite suite2:List Stmt}{th th2:Addr->Obj->TS}{tx:XK->TE}
theorem Ed(F:FnOk X.prog X.w X.K X.mg X.base (CXV X.prog X.w) k f fd ps sp)(hr:Room k X.A)(hg:∀W,Gl (X.wish W) x)(hm:X.mg x=some (.ref f))(hk:PySem.W.keepIn X.K (.ref f)=true)(hb:Binds X.K fd ps ds)(hd:Vals dvs ds)
 (ha:∀W,PA (X.wish W) (e::es) t) (hdb:(x == ("__debug__":Str))=false:=by decide) (he:starEach (e::es) X.env=(false,eval e X.env)::starEach es X.env:=by rfl) (hpl:(backTo pos (starEach es X.env)).any (·.1)=false:=by rfl) :
 PXV X (.Call (.Name x p) (e::es) [] pos) (λE=>oH sp dvs E t):=by
 intro W pins σ s H Q E hx I h;refine wpAny_Call_Name_kw (jE (X:=X.wish W) I (hg W) hm ?_ hdb);refine PySem.W.callWith_K (h₀:=X.base) I.ok.mod.kin hk (thn (ha W pos pins s σ H _ I h) λus s1 ⟨vs,H1,I1,r,q⟩=>⟨I1.kIn,?_⟩) he hpl;exact DA (X:=X.wish W) F hr hb hd hx I1 r q
theorem JQ{L:Addr}{pins:List (Addr×Obj)}{σ:St}{H1 H2:Hp}{s1 s2:Shared}{B:Heap}{ea:Addr}{cls a0:Value}{d:Option Addr}{hs:List ExceptHandler}{Q:Flow->Shared->Prop}(hstk:X.stack=X.env::X.outer)(hfr:X.env.frame=some L)(I1:Inv X pins σ H1 s1)(os:s2.os=s1.os)(bare:AllBare s2.gens)(un:Un (frs X.stack) [] H1 H2 s1.heap s2.heap)(hok:HOk X.prog X.w H2 s2.heap)(fl:Heap.FlyingW B X.stack ea cls a0 s2.heap)
 (b1:∀b o,s1.heap.get? b=some o->b∉frs X.stack->∃o',s2.heap.get? b=some o'/\B.get? b=some o') (b2:∀b x,H2 b=some x->∃o',s2.heap.get? b=some o'/\B.get? b=some o') (hea:H2 ea=none) (hnew:s1.heap.get? ea=none) (hd:∃ob,s2.heap.get? ea=some ob/\ob.dict=d)
 (k:∀h4 oe vs,Heap.FlyingW B (X.env::X.outer) ea cls a0 h4->oe.cls=cls->oe.dict=d->oe.data=.fields vs->Inv (cxH X ea oe) pins σ H2 { s2 with heap:=h4 }->(∀h5,B.StaysIn h5->h4.UpToSlots h5->Inv X pins σ H2 { s2 with heap:=h5 })->wpAny (model X.prog X.w) X.A (handleBy (.ref ea) X.env hs) Q X.xe { s2 with heap:=h4 }) :
 wpAny (model X.prog X.w) X.A (noteFrame (.ref ea) X.env) (λ_ s₂=>wpAny (model X.prog X.w) X.A (setFlight (.ref ea) none) (λ_ s₃=>wpAny (model X.prog X.w) X.A (handleBy (.ref ea) X.env hs) Q X.xe s₃) X.xe s₂) X.xe s2:=by
 obtain⟨ob,eob,dob⟩:=hd;have fl0:Heap.FlyingW B (X.env::X.outer) ea cls a0 s2.heap:=by rw[<- hstk];exact fl
 refine wpAny_mono (jU (E':=λ_ _=>False) (y9 _ _) (wpAny_looks_onW (E:=λ_ _=>False) (L:=L) (Q:=λ_ s'=>∃h3,s'={ s2 with heap:=h3 }/\Heap.HeldW B (X.env::X.outer) ea cls a0 L h3/\s2.heap.UpToSlots h3) (by rw[I1.ok.frames,hstk]) hfr fl0 λh3 hd3 up3=>⟨h3,rfl,hd3,up3⟩)) (λ_ s' hq=>?_) λ_ _ z=>z.elim
 obtain⟨⟨h3,rfl,hd3,up3⟩,kd3⟩:=hq;obtain⟨o3,e3,d3⟩:=kd3 ea ob eob;refine wpAny_mono (jU (E':=λ_ _=>False) (sC _ _) (wpAny_landsW (E:=λ_ _=>False) (Q:=λ_ s'=>∃h4,s'={ s2 with heap:=h4 }/\Heap.FlyingW B (X.env::X.outer) ea cls a0 h4/\h3.UpToSlots h4) hd3 λh4 fl4 up4=>⟨h4,rfl,fl4,up4⟩)) (λ_ s' hq=>?_) λ_ _ z=>z.elim
 obtain⟨⟨h4,rfl,fl4,up4⟩,kd4⟩:=hq;obtain⟨o4,e4,d4⟩:=kd4 ea o3 e3;have up04:=up3.trans up4;have J4:Inv X pins σ H2 { s2 with heap:=h4 }:=AQ I1 os bare un hok fl b1 b2 fl4.1 up04
 have neL:ea≠X.env.locals:=λz=>by obtain⟨mm,hn',_⟩:=I1.loc;obtain⟨oL,_,_,hoL,_⟩:=hn';rw[<- z,hnew]at hoL;cases hoL
 have neF:ea∉X.fs:=λz=>by obtain⟨_,o',e',_⟩:=I1.funs.mem z;rw[hnew]at e';cases e'
 obtain⟨oe4,vs4,ge4,ce4,de4,_⟩:=fl4.first;have e4':h4.get? ea=some o4:=e4;have eo:oe4=o4:=Option.some.inj (ge4.symm.trans e4');exact k h4 oe4 vs4 fl4 ce4 (by rw[eo];exact(d4.trans d3).trans dob) de4 (J4.held ge4 hea neL neF (λv z=>by rw[de4]at z;cases z)) λh5 st up5=>AQ I1 os bare un hok fl b1 b2 st (up04.trans up5)
theorem Cl{pins:List (Addr×Obj)}{σ:St}{H2:Hp}{s2:Shared}{D:Ends}{B h4:Heap}{ea:Addr}{cls a0:Value}{d:Option Addr}{oe4:Obj}(hok0:X.Ok)(fl4:Heap.FlyingW B (X.env::X.outer) ea cls a0 h4)(hc4:h4.get? ea=some oe4)(hd4:oe4.dict=d)(J:∀h5,B.StaysIn h5->h4.UpToSlots h5->Inv X pins σ H2 { s2 with heap:=h5 })
 (hea:H2 ea=none) (neL:ea≠X.env.locals) (neF:ea∉X.fs) (hN:X.N.Nodup) (hi:X.N[i]?=some n) (hk:X.env.scope.names.lookup n=some .local) (hsu:∀ea oe,PSs (cxH X ea oe) (b₀::suite) (th ea oe))
 (hth:∀ea oe vs,oe.cls=cls->oe.dict=d->oe.data=.fields vs->H2 ea=none->th ea oe { nx:=λσ'' H''=>D.nx (σ''.set i none) H'',rt:=λ_ _=>False,bk:=λ_ _=>False,ct:=λ_ _=>False } (σ.set i (some (.ref ea))) H2) :
 wpAny (model X.prog X.w) (X.A.mark (some (.ref ea))) (setFlight (.ref ea) none) (λ_ s5=>∃oe5,Inv (cxH X ea oe5) pins σ H2 s5/\th ea oe5 { nx:=λσ'' H''=>D.nx (σ''.set i none) H'',rt:=λ_ _=>False,bk:=λ_ _=>False,ct:=λ_ _=>False } (σ.set i (some (.ref ea))) H2) (λ_ _=>False) { s2 with heap:=h4 }:=by
 refine wpAny_mono (jU (E':=λ_ _=>False) (sC _ _) (lands_againW (s:={ s2 with heap:=h4 }) (E:=λ_ _=>False) (Q:=λ_ s'=>∃h5,s'={ s2 with heap:=h5 }/\Heap.FlyingW B (X.env::X.outer) ea cls a0 h5/\h4.UpToSlots h5) fl4 λh5 fl5 up5=>⟨h5,rfl,fl5,up5⟩)) (λ_ s' hq=>?_) λ_ _ z=>z.elim
 obtain⟨⟨h5,rfl,fl5,up5⟩,kd5⟩:=hq;obtain⟨o5,e5,d5⟩:=kd5 ea oe4 hc4;obtain⟨oe5,vs5,ge5,ce5,de5,_⟩:=fl5.first;have e5':h5.get? ea=some o5:=e5;have eo:oe5=o5:=Option.some.inj (ge5.symm.trans e5');exact⟨oe5,(J h5 fl5.1 up5).held ge5 hea neL neF (λv z=>by rw[de5]at z;cases z),hth ea oe5 vs5 ce5 (by rw[eo];exact d5.trans hd4) de5 hea⟩
theorem Cm{pins:List (Addr×Obj)}{H2:Hp}{s5:Shared}{σ:St}{D:Ends}{ea:Addr}{oe5:Obj}(ok:X.Ok)(hN:X.N.Nodup)(hi:X.N[i]?=some n)(hk:X.env.scope.names.lookup n=some .local)(hsu:∀ea oe,PSs (cxH X ea oe) (b₀::suite) (th ea oe))(I5:Inv (cxH X ea oe5) pins σ H2 s5)
 (ht:th ea oe5 { nx:=λσ'' H''=>D.nx (σ''.set i none) H'',rt:=λ_ _=>False,bk:=λ_ _=>False,ct:=λ_ _=>False } (σ.set i (some (.ref ea))) H2) {Q:Flow->Shared->Prop} {E:Value->Shared->Prop}
 (k:∀s7,(∃σ' H',Inv X pins σ' H' s7/\D.nx (σ'.set i none) H')->Q .next s7) (s6:Shared) (I6:Inv (cxH X ea oe5) pins (σ.set i (some (.ref ea))) H2 s6):wpAny (model X.prog X.w) (X.A.mark (some (.ref ea))) (execs (b₀::suite) X.env) Q E s6:=by
 refine wpAny_mono (hsu ea oe5 pins s6 _ H2 _ I6 ht) (λfw s7 hs7=>?_) λ_ _ z=>z.elim
 cases fw with
 |next =>obtain⟨σ',H',I7,q7⟩:=hs7;exact k s7 ⟨σ',H',Inv.unheld ok I7,q7⟩
 |ret u=>obtain⟨_,_,_,_,_,z⟩:=hs7;exact z.elim
 |brk=>obtain⟨_,_,_,z⟩:=hs7;exact z.elim
 |cont=>obtain⟨_,_,_,z⟩:=hs7;exact z.elim
theorem Ej{L:Addr}(hstk:X.stack=X.env::X.outer)(hfr:X.env.frame=some L)(hx:PXV X ex tx)
 (hg:∀ea oe,Gl (cxH X ea oe) r) (hR:X.mg r=some (.ref R)) (hN:X.N.Nodup) (hi:X.N[i]?=some n) (hk:X.env.scope.names.lookup n=some .local) (hsu:∀ea oe,PSs (cxH X ea oe) (b₀::suite) (th ea oe))
 (hsw:swapsWith ex none epos.line X.env=pure false:=by rfl) (hdb:(r == ("__debug__":Str))=false:=by decide) :
 PS X (.Try [.Expr ex epos] [.ExceptHandler (some (.Name r np)) (some n) (b₀::suite) hpos] [] [] pos) (Cb X.K tx R i th):=by
 intro pins s σ H D I h;refine wpAny_Try_except ?_;generalize hW:(λe s₁=>wpAny (model X.prog X.w) X.A (noteFrame e X.env) (λ_ s₂=>wpAny (model X.prog X.w) X.A (setFlight e none) (λ_ s₃=>wpAny (model X.prog X.w) X.A (handleBy e X.env [.ExceptHandler (some (.Name r np)) (some n) (b₀::suite) hpos]) (SP X pins D) X.xe s₃) X.xe s₂) X.xe s₁:Value->Shared->Prop)=W;refine wpAny_execs_cons ?_;refine wpAny_Expr_any (wpAny_mono (hx W pins σ s H (λ_ H'=>D.nx σ H') (Bj X.K R i th D σ) ?_ (I.wish W) h) (λv s1 hv=>?_) λ_ _ x=>x) I.quiet hsw
 rotate_left
 ·obtain⟨x,H1,I1,r1,q1⟩:=hv;exact wpAny_execs_nil (wpAny_execs_nil ⟨σ,H1,I1.unwish,q1⟩)
 intro H1 s1 ev s2 I1w hcx;have I1:=I1w.unwish;obtain⟨d,⟨ea,cls,a0,B,H2,rfl,os,bare,un,hok,fl,b1,b2,hea,hnew,hhit,hth⟩,ea',ob,eea,eob,dob⟩:=hcx;cases eea;show W (.ref ea) s2;rw[<- hW];refine JQ hstk hfr I1 os bare un hok fl b1 b2 hea hnew ⟨ob,eob,dob⟩ λh4 oe4 vs4 fl4 ce4 dd4 de4 K4 J=>?_
 have ge4:h4.get? ea=some oe4:=zI K4;have pe:=K4.pin (ea,oe4) (MP ..);have LT:PySem.W.Looks (model X.prog X.w) h4 (typeOf (.ref ea)) cls:=by rw[<- ce4];exact(PySem.W.Looks.ld ge4).andThen .now
 refine wpAny_handleBy_cons (codeAny_handlers_test (jE K4 (hg ea oe4) hR ((PySem.W.exm_one K4.kIn LT hhit).here ?_) hdb)) (λz=>nomatch z);show codeAny _ _ _ _ _;refine codeAny_handlers_suite_as (wpAny_mono (Cl I.ok fl4 ge4 dd4 J hea pe.2.2.1 pe.2.2.2.1 hN hi hk hsu hth) (λ_ s5 ⟨oe5,K5,ht⟩=>?_) λ_ _ z=>z.elim);refine oJ (X:=cxH X ea oe5) (v:=.ref ea) K5 hN hi (.inl hk) rfl (λs6 I6=>?_) (.inr hk);refine Cm I.ok hN hi hk hsu K5 ht (λs7 ⟨σ',H',I7,q7⟩=>?_) s6 I6;show wpAny _ _ _ _ _ _;exact Ic I7 hN hi hk λs8 I8=>⟨_,H',I8,q7⟩
end
def B8(K:PySem.W.Frag)(ea:Addr)(oe:Obj)(ta:TE)(f:Str):TE:=λσ H Q=>ta σ H λx H1=>∃(D dx:Addr) (vs:Array Value) (fs:List (Str×V)) (v:V),x=.ref ea/\oe.cls=.ref D/\oe.dict=some dx/\oe.data=.fields vs/\XCls K D/\ECls K D/\NoAttr K D f/\H1 dx=some (.xd fs)/\fs.lookup f=some v/\Q v H1
theorem EG{X:Cx}{ea:Addr}{oe:Obj}{e:Expr}{f:Str}{pos:Pos}{ta:TE}(he:PE (cxH X ea oe) e ta)(hb:attributeBase e f X.env (eval e X.env)=eval e X.env):PE (cxH X ea oe) (.Attribute e f pos) (B8 X.K ea oe ta f):=by intro pins s σ H Q I h;refine A4 hb (thn (he pins s σ H _ I h) λu s1 ⟨x,H1,I1,rx,D,dx,vs,fs,v,ex,hc,hd,hf,T,Te,n,hx,l,q⟩=>?_);subst ex;obtain rfl:u=Value.ref ea:=rx;obtain⟨mA,hns,hr⟩:=(show ObjOk X.prog X.w H1 s1.heap dx (.xd fs)from I1.hok dx _ hx);obtain⟨u',hu,ru⟩:=RelO.some_of (v:=v) (o:=mA f) (by rw[<- l];exact hr f);exact Bt I1.kIn T Te (zI I1) hc hd hf n hns hu (zJ ru) ⟨v,H1,I1.tok _,ru,q⟩
noncomputable def tZ(K:PySem.W.Frag)(C fI:Addr)(bmB:List Value)(newId:String):Bool:=match K.lookup C with
 |some ⟨.type "type",_,.cls cd,sl⟩=>(match cd.mro,sl.toList with
  |.ref C'::bm,[_,_,_,_,some (.builtin n),_]=>C' == C&&n == newId&&!cd.hasDel&&PySem.W.tailIn K bmB bm&&PySem.W.nsOkIn K cd.ns&&PySem.W.nsIn K cd.ns "__init__" == some (some (.ref fI))&&PySem.W.typeIn K (.ref fI) == some (.type "function")
  |_,_=>false)
 |_=>false
theorem GA{K:PySem.W.Frag}{h:Heap}{N:Addr}{mN:Str->Option Value}{x:Str}{v:Value}(X:K.In h)(G:h.Ns N mN)(e:PySem.W.nsIn K N x=some (some v)):mN x=some v:=by
 obtain⟨ob,es,ep,hob,hdat,_,hfind⟩:=G;unfold PySem.W.nsIn at e
 cases hl:K.lookup N with
 |none=>rw[hl]at e;cases e
 |some oo =>
  obtain rfl:ob=oo:=Option.some.inj (hob.symm.trans (X _ _ hl));obtain⟨c1,c2,c3,c4⟩:=ob;have hdat':c3=.dict es ep:=hdat;subst hdat';rw[hl]at e;dsimp only at e
  have hf:=hfind x;unfold nsFind findBy at hf
  rw[<- Array.find?_toList]at hf;cases hq:es.toList.find? (·.key.isStr x)with
  |none =>
   rw[hq]at e;dsimp only at e
   split at e<;>cases e
  |some en =>rw[hq]at e hf;rw[<- hf];exact Option.some.inj e
theorem ET{K:PySem.W.Frag}{h₀:Heap}{mg:Str->Option Value}{x:Str}{C fI:Addr}{bmB:List Value}{newId:String}(X:K.In h₀)(G:h₀.Ns mainGlobals mg)(e:PySem.W.nsIn K mainGlobals x=some (some (.ref C)))(q:tZ K C fI bmB newId=true):OwnX x C fI bmB newId mg h₀:=by
 unfold tZ at q
 split at q
 ·rename_i dd cd sl ho
  split at q
  ·rename_i C' bm k0 k1 k2 k3 n k5 hm hs
   simp only[Bool.and_eq_true,beq_iff_eq,Bool.not_eq_true']at q;obtain⟨⟨⟨⟨⟨⟨rfl,rfl⟩,hdel⟩,ht⟩,hok⟩,hni⟩,hfn⟩:=q;obtain⟨nm,bs,mro,ns,qn,hd,sn,sub,ab,col,del⟩:=cd;dsimp only at hm hdel hok hni
   subst hm hdel
   have hsl:sl=#[k0,k1,k2,k3,some (.builtin n),k5]:=by
    obtain⟨l⟩:=sl;simp only at hs
    rw[hs]
   subst hsl;refine⟨PySem.W.mg_of X G e,⟨bm,ns,nm,qn,bs,hd,sn,sub,ab,col,dd,k0,k1,k2,k3,k5,_,X _ _ ho,.of_isNs (PySem.W.isNs_of_in X hok),GA X (.of_isNs (PySem.W.isNs_of_in X hok)) hni,PySem.W.tail_of_in X ht⟩,?_⟩;obtain⟨oI,h1,h2⟩:=Option.map_eq_some_iff.mp (show(K.lookup fI).map (·.cls)=some (.type "function")from hfn);exact⟨oI,X _ _ h1,h2⟩
  ·cases q
 ·cases q
structure CalV(P:Program)(w:World)(K:PySem.W.Frag)(mg:Str->Option Value)(base:Heap)(k:Nat)(x:Str)(ps:List Str)(sp:Sp)(f:Addr)(fd:FuncData):Prop where
 ok:FnOk P w K mg base (CXV P w) k f fd ps sp
 mg:mg x=some (.ref f)
 kp:PySem.W.keepIn K (.ref f)=true
 bd:Binds K fd ps []
structure XCal(P:Program)(w:World)(K:PySem.W.Frag)(mg:Str->Option Value)(base:Heap)(k:Nat)(C:Addr)(x att:Str)(ps:List Str)(f:Addr)(fd:FuncData):Prop where
 ok:FnOk P w K mg base CX0 k f fd ps (lZ C att)
 ow:OwnX x C f jW "ValueError.__new__" mg base
 kp:PySem.W.keepIn K (.ref C)=true
 bd:Binds K fd ps []
 xc:XCls K C
 ec:ECls K C
 na:NoAttr K C att
end L2
namespace RM
noncomputable def cf(l:Ex)(k:Nat):Int:=l.getD k 0
theorem cj(k:Nat):cf [] k=0:=by simp[cf]
theorem AJ(x:Int)(l:Ex):cf (x::l) 0=x:=rfl
theorem nZ(x:Int)(l:Ex)(k:Nat):cf (x::l) (k+1)=cf l k:=rfl
theorem ck{l:Ex}{k:Nat}(h:l.length<=k):cf l k=0:=by unfold cf;rw[List.getD,List.getElem?_eq_none_iff.mpr h];rfl
theorem dP{l:Ex}{k:Nat}(h:k<l.length):cf l k=l[k]:=by unfold cf;rw[List.getD,List.getElem?_eq_getElem h];rfl
theorem AL{l:Ex}{k:Nat}{x:Int}(h:l[k]?=some x):cf l k=x:=by unfold cf;rw[List.getD,h];rfl
theorem iS{l:Ex}{k:Nat}(h:k<l.length):l[k]?=some (cf l k):=by rw[dP h,List.getElem?_eq_getElem h]
theorem AM{l r:Ex}{k:Nat}(h:k<l.length):cf (l++r) k=cf l k:=by unfold cf;rw[List.getD,List.getD,List.getElem?_append_left h]
theorem lw{l r:Ex}{k:Nat}(h:l.length<=k):cf (l++r) k=cf r (k-l.length):=by unfold cf;rw[List.getD,List.getD,List.getElem?_append_right h]
theorem ll{l:Ex}{j k:Nat}{x:Int}(h:j<l.length):cf (l.set j x) k=if k=j then x else cf l k:=by
 unfold cf;rw[List.getD,List.getD,List.getElem?_set];by_cases e:j=k
 ·subst e;simp[h]
 ·rw[if_neg e,if_neg (λz=>e z.symm)]
theorem lu(n k:Nat):cf (List.replicate n 0) k=0:=by unfold cf;rw[List.getD,List.getElem?_replicate];split<;>rfl
theorem lv(f:Nat->Int)(n k:Nat):cf ((List.range n).map f) k=if k<n then f k else 0:=by
 unfold cf;rw[List.getD,List.getElem?_map];by_cases h:k<n
 ·rw[if_pos h,List.getElem?_range h];rfl
 ·rw[if_neg h,List.getElem?_eq_none_iff.mpr (by simpa using h)];rfl
theorem dO{a b:Ex}(hl:a.length=b.length)(h:∀k,k<a.length->cf a k=cf b k):a=b:=by apply List.ext_getElem hl;intro k h1 h2;rw[<- dP h1,<- dP h2];exact h k h1
noncomputable def trim(l:Ex):Ex:=(l.reverse.dropWhile (· == 0)).reverse
theorem lN(l:Ex):trim (l++[0])=trim l:=by unfold trim;rw[O0];rfl
theorem jX(l:Ex){x:Int}(h:x≠0):trim (l++[x])=l++[x]:=by unfold trim;rw[O0];show((x::l.reverse).dropWhile (· == 0)).reverse=_;rw[List.dropWhile_cons_of_neg (by simpa using h)];simp
def Tr(l:Ex):Prop:=∀n,l.length=n+1->cf l n≠0
theorem cO(l:Ex):l=[]\/∃r x,l=r++[x]:=by
 cases h:l.reverse with
 |nil=>left;simpa using h
 |cons x r=>right;exact⟨r.reverse,x,by rw[<- List.reverse_reverse l,h];simp⟩
theorem jN(r:Ex)(x:Int):cf (r++[x]) r.length=x:=by rw[lw (MJ _),Oo];rfl
theorem BW:Tr []:=λn h=>by simp at h
theorem tr_snoc{r:Ex}{x:Int}:Tr (r++[x])↔x≠0:=by
 constructor
 ·intro h;have:=h r.length (by simp)
  rwa [jN]at this
 ·intro h n hn;have e:n=r.length:=by simp at hn;omega
  subst e
  rwa [jN]
theorem lK:∀(n:Nat) (l:Ex),l.length=n->Tr (trim l)/\(trim l).length<=l.length/\∀k,cf (trim l) k=cf l k
 |0,l,h=>by have:l=[]:=Op.mp h;subst this;exact⟨BW,MJ _,λ_=>rfl⟩
 |n+1,l,h=>by
  rcases cO l with rfl |⟨r,x,rfl⟩
  ·simp at h
  ·by_cases hx:x=0
   ·subst hx;obtain⟨h1,h2,h3⟩:=lK n r (by simpa using h);rw[lN];refine⟨h1,by rw[MX];exact MV h2 (Nat.le_add_right _ _),λk=>?_⟩;rw[h3];by_cases hk:k<r.length
    ·rw[AM hk]
    ·rw[lw (NZ hk),ck (NZ hk)];cases e:k-r.length with
     |zero=>rfl
     |succ j=>rw[nZ,cj]
   ·rw[jX r hx];exact⟨tr_snoc.mpr hx,MJ _,λ_=>rfl⟩
theorem fh(l:Ex):Tr (trim l):=(lK _ l rfl).1
theorem sJ(l:Ex):(trim l).length<=l.length:=(lK _ l rfl).2.1
theorem gN(l:Ex)(k:Nat):cf (trim l) k=cf l k:=(lK _ l rfl).2.2 k
theorem BR{l:Ex}(h:Tr l):trim l=l:=by
 rcases cO l with rfl |⟨r,x,rfl⟩
 ·rfl
 ·exact jX r (tr_snoc.mp h)
theorem lf{a b:Ex}(ha:Tr a)(hb:Tr b)(h:∀k,cf a k=cf b k):a=b:=by
 have le:∀{a b:Ex},Tr a->(∀k,cf a k=cf b k)->a.length<=b.length:=λ{a b} ha h=>by
  cases e:a.length with
  |zero=>exact MQ _
  |succ n =>apply Classical.byContradiction;intro hn;exact ha n e (by rw[h n,ck (by omega)])
 have hl:a.length=b.length:=Nat.le_antisymm (le ha h) (le hb λk=>(h k).symm);exact dO hl λk _=>h k
theorem BP{l:Ex}{n:Nat}(hn:n<l.length)(h:cf l n=0):trim (l.take (n+1))=trim (l.take n):=by rw[Nu,iS hn,h];exact lN _
theorem BQ{l:Ex}{n:Nat}(hn:n<l.length)(h:cf l n≠0):trim (l.take (n+1))=l.take (n+1):=by rw[Nu,iS hn];exact jX _ h
noncomputable def dM(f:Int)(a b:Ex):Ex:=(List.range (max a.length b.length)).map λk=>cf a k+f*cf b k
theorem ie(f:Int)(a b:Ex)(k:Nat):cf (dM f a b) k=cf a k+f*cf b k:=by
 unfold dM;rw[lv];by_cases h:k<max a.length b.length
 ·rw[if_pos h]
 ·have h1:a.length<=k:=by omega
  have h2:b.length<=k:=by omega
  rw[if_neg h,ck h1,ck h2];simp
noncomputable def ik(a b:Ex):Ex:=trim (dM 1 a b)
noncomputable def cD(a b:Ex):Ex:=trim (dM (-1) a b)
noncomputable def tm(a b:Ex)(n i:Nat):Int:=if i<=n then cf a i*cf b (n-i)else 0
noncomputable def sm(a b:Ex)(n:Nat):Nat->Int
 |0=>0
 |j+1=>sm a b n j+tm a b n j
noncomputable def aw(a b:Ex)(n:Nat):Int:=sm a b n a.length
noncomputable def af(a b:Ex):Ex:=if a=[]\/b=[]then[]else(List.range (a.length+b.length-1)).map (aw a b)
theorem B2{a b:Ex}{n i:Nat}(h:a.length<=i):tm a b n i=0:=by
 unfold tm;split
 ·rw[ck h,Nn]
 ·rfl
theorem lQ{a b:Ex}{n i:Nat}(h:b.length<=n-i):tm a b n i=0:=by
 unfold tm;split
 ·rw[ck h,M8]
 ·rfl
theorem ka{a b:Ex}{n:Nat}:∀{j:Nat},(∀i,i<j->tm a b n i=0)->sm a b n j=0
 |0,_=>rfl
 |j+1,h=>by rw[sm,ka λi hi=>h i (Nat.lt_succ_of_lt hi),h j (NY _)];rfl
theorem yT{a b:Ex}{n:Nat}(h:a.length+b.length<=n+1):aw a b n=0:=by apply ka;intro i hi;exact lQ (by omega)
theorem se{a b:Ex}{la lb:Nat}(ha:a.length=la+1)(hb:b.length=lb+1):aw a b (la+lb)=cf a la*cf b lb:=by unfold aw;rw[ha,sm,ka λi hi=>lQ (by omega)];unfold tm;rw[if_pos (Nat.le_add_right _ _),Nat.add_sub_cancel_left,Ny]
theorem aJ(a b:Ex)(n:Nat):cf (af a b) n=aw a b n:=by
 unfold af;by_cases h:a=[]\/b=[]
 ·rw[if_pos h,cj]
  symm
  apply ka;intro i hi;rcases h with rfl |rfl
  ·simp at hi
  ·exact lQ (MQ _)
 ·rw[if_neg h,lv];by_cases hn:n<a.length+b.length-1
  ·rw[if_pos hn]
  ·rw[if_neg hn,yT (by omega)]
theorem lP{a b:Ex}(ha:Tr a)(hb:Tr b):Tr (af a b):=by
 intro n hn;rw[aJ];by_cases h:a=[]\/b=[]
 ·unfold af at hn;rw[if_pos h]at hn;simp at hn
 ·have h1:a≠[]:=λz=>h (.inl z)
  have h2:b≠[]:=λz=>h (.inr z)
  obtain⟨la,ea⟩:∃la,a.length=la+1:=⟨a.length-1,by have:=MR.mpr h1;omega⟩;obtain⟨lb,eb⟩:∃lb,b.length=lb+1:=⟨b.length-1,by have:=MR.mpr h2;omega⟩;unfold af at hn
  rw[if_neg h,MI,N2]at hn;have e:n=la+lb:=by omega
  subst e;rw[se ea eb];exact M0 (ha la ea) (hb lb eb)
theorem yU{a b acc:Ex}{j k:Nat}(hj:j<a.length)(hk:k<b.length)(hl:j+k<acc.length)
 (h:∀n,n<acc.length->cf acc n=sm a b n j+(if j<=n/\n-j<k then tm a b n j else 0)) :
 ∀n,n<(acc.set (j+k) (cf acc (j+k)+cf a j*cf b k)).length->cf (acc.set (j+k) (cf acc (j+k)+cf a j*cf b k)) n=sm a b n j+(if j<=n/\n-j<k+1 then tm a b n j else 0):=by
 intro n hn;rw[Ow]at hn;rw[ll hl];by_cases e:n=j+k
 ·subst e;rw[if_pos rfl,h _ hl,if_neg (by omega),if_pos ⟨by omega,by omega⟩];unfold tm;rw[if_pos (by omega),Nat.add_sub_cancel_left,NE]
 ·rw[if_neg e,h n hn]
  congr 1
  by_cases h1:j<=n/\n-j<k
  ·rw[if_pos h1,if_pos ⟨h1.1,by omega⟩]
  ·rw[if_neg h1,if_neg (by omega)]
theorem yW{a b acc:Ex}{j:Nat}(h:∀n,n<acc.length->cf acc n=sm a b n j+(if j<=n/\n-j<b.length then tm a b n j else 0)):∀n,n<acc.length->cf acc n=sm a b n (j+1):=by
 intro n hn;rw[h n hn,sm]
 congr 1
 by_cases h1:j<=n/\n-j<b.length
 ·rw[if_pos h1]
 ·rw[if_neg h1];by_cases h2:j<=n
  ·rw[lQ (by omega)]
  ·unfold tm;rw[if_neg h2]
theorem yV{a b acc:Ex}{j:Nat}(h:∀n,n<acc.length->cf acc n=sm a b n j):∀n,n<acc.length->cf acc n=sm a b n j+(if j<=n/\n-j<0 then tm a b n j else 0):=by intro n hn;rw[if_neg (by omega),NE];exact h n hn
theorem yX{a b acc:Ex}(hl:a.length+b.length<=acc.length+1)(h:∀n,n<acc.length->cf acc n=sm a b n a.length)(n:Nat):cf acc n=aw a b n:=by
 by_cases hn:n<acc.length
 ·exact h n hn
 ·rw[ck (NZ hn),yT (by omega)]
theorem Kc(a b:Ex):trim ((List.range (max a.length b.length)).map λk=>cf a k+cf b k)=ik a b:=by
 unfold ik dM
 congr 2;funext k;rw[Ni]
theorem Cn(a b:Ex):trim ((List.range (max a.length b.length)).map λk=>cf a k-cf b k)=cD a b:=by
 unfold cD dM
 congr 2;funext k;omega
noncomputable def dv(t b:Int):Int:=if b<0 then -((Nat.gcd t.natAbs b.natAbs:Nat):Int)else((Nat.gcd t.natAbs b.natAbs:Nat):Int)
noncomputable def rt(t b:Int):Int:=t.fdiv (dv t b)
noncomputable def rb(t b:Int):Int:=b.fdiv (dv t b)
theorem jH{t b:Int}(hb:b≠0):0<Nat.gcd t.natAbs b.natAbs:=Nat.gcd_pos_of_pos_right _ (Oq.mpr hb)
theorem nR{t b:Int}(hb:b≠0):dv t b≠0:=by have:=@jH t b hb;unfold dv;split<;>omega
theorem iV(t b:Int):(dv t b).natAbs=Nat.gcd t.natAbs b.natAbs:=by unfold dv;split<;>omega
theorem Jt(t b:Int):dv t b∣t:=O1.mp (by rw[iV];exact Oc _ _)
theorem Js(t b:Int):dv t b∣b:=O1.mp (by rw[iV];exact Oy _ _)
theorem zT{a d:Int}(hd:d≠0)(h:d∣a):d*a.fdiv d=a:=by obtain⟨c,rfl⟩:=h;rw[Int.mul_fdiv_cancel_left c hd]
theorem jo{t b:Int}(hb:b≠0):dv t b*rt t b=t:=zT (nR hb) (Jt t b)
theorem iE{t b:Int}(hb:b≠0):dv t b*rb t b=b:=zT (nR hb) (Js t b)
theorem dS{t b:Int}(hb:b≠0):0<rb t b:=by
 have h1:=@iE t b hb;have h2:=@jH t b hb;by_cases hn:b<0
 ·have hd:dv t b<0:=by unfold dv;rw[if_pos hn];omega
  apply Classical.byContradiction;intro h;have:0<=dv t b*rb t b:=Pb (MN hd) (by omega);omega
 ·have hd:0<dv t b:=by unfold dv;rw[if_neg hn];omega
  apply Classical.byContradiction;intro h;have:dv t b*rb t b<=0:=Int.mul_nonpos_of_nonneg_of_nonpos (MN hd) (by omega);omega
theorem rD{t b:Int}(hb:b≠0):Nat.gcd (rt t b).natAbs (rb t b).natAbs=1:=by
 have h1:t.natAbs=Nat.gcd t.natAbs b.natAbs*(rt t b).natAbs:=by rw[<- iV,<- MY,jo hb]
 have h2:b.natAbs=Nat.gcd t.natAbs b.natAbs*(rb t b).natAbs:=by rw[<- iV,<- MY,iE hb]
 have hp:=@jH t b hb
 have e:Nat.gcd t.natAbs b.natAbs=Nat.gcd t.natAbs b.natAbs*Nat.gcd (rt t b).natAbs (rb t b).natAbs:=by rw[<- Nat.gcd_mul_left,<- h1,<- h2]
 exact(Nat.eq_of_mul_eq_mul_left hp (by rw[Nat.mul_one];exact e)).symm
theorem gZ{t b:Int}(hb:b≠0):rt t b*b=t*rb t b:=by
 have e1:=@jo t b hb;have e2:=@iE t b hb
 calc rt t b*b=rt t b*(dv t b*rb t b):=by rw[e2]
  _=(dv t b*rt t b)*rb t b:=by rw[<- Ng,Nj (rt t b)]
  _=t*rb t b:=by rw[e1]
theorem DC{t b:Int}(hb:b≠0):(rt t b).natAbs<=t.natAbs:=by
 have h1:t.natAbs=Nat.gcd t.natAbs b.natAbs*(rt t b).natAbs:=by rw[<- iV,<- MY,jo hb]
 rw[h1];exact O2 _ (jH hb)
theorem DX{t b:Int}(hb:b≠0):(rb t b).natAbs<=b.natAbs:=by
 have h1:b.natAbs=Nat.gcd t.natAbs b.natAbs*(rb t b).natAbs:=by rw[<- iV,<- MY,iE hb]
 rw[h1];exact O2 _ (jH hb)
noncomputable def sg(x:Int):Int:=if x<0 then -1 else if 0<x then 1 else 0
theorem CP(x:Int):sg (-x) = -sg x:=by unfold sg;split<;>split<;>(try split)<;>(try split)<;>omega
theorem pF{x p:Int}(hp:0<p):sg (x*p)=sg x:=by
 unfold sg;by_cases h1:x<0
 ·rw[if_pos h1,if_pos (OI h1 hp)]
 ·by_cases h2:0<x
  ·have:=ML h2 hp;rw[if_neg h1,if_pos h2,if_neg (by omega),if_pos this]
  ·obtain rfl:x=0:=by omega
   simp
noncomputable def hv(t b:Int):Ex->Int
 | []=>0
 |v::l=>v*b^(l.length+1)+t*hv t b l
theorem nG(t b:Int):hv t b []=0:=rfl
theorem dz(t b v:Int)(l:Ex):hv t b (v::l)=v*b^(l.length+1)+t*hv t b l:=rfl
noncomputable def mb(a b:Int):Int->Ex->Ex
 |c,[]=>[c]
 |c,x::l=>(-a*x+c)::mb a b (b*x) l
theorem nq(a b:Int):∀(c:Int) (l:Ex),(mb a b c l).length=l.length+1
 |c,[]=>rfl
 |c,x::l=>by show(mb a b (b*x) l).length+1=_;rw[nq];rfl
theorem iX(a b:Int):∀(c:Int) (l:Ex) (k:Nat),cf (mb a b c l) k = -a*cf l k+(if k=0 then c else b*cf l (k-1))
 |c,[],0=>by show c=_;rw[cj];simp
 |c,[],k+1=>by show cf [] k=_;rw[cj,cj];simp[cj]
 |c,x::l,0=>rfl
 |c,x::l,k+1=>by
  show cf (mb a b (b*x) l) k=_;rw[iX a b (b*x) l k,nZ,if_neg (Nat.succ_ne_zero k)];cases k with
  |zero=>rfl
  |succ k=>rw[if_neg (Nat.succ_ne_zero k)];rfl
theorem zG(t u a b:Int):∀(c:Int) (l:Ex),hv t u (mb a b c l)=c*u^(l.length+1)+(b*t-a*u)*hv t u l
 |c,[]=>by show c*u^1+t*0=c*u^1+(b*t-a*u)*0;simp
 |c,x::l=>by show(-a*x+c)*u^((mb a b (b*x) l).length+1)+t*hv t u (mb a b (b*x) l)=c*u^(l.length+1+1)+(b*t-a*u)*(x*u^(l.length+1)+t*hv t u l);rw[zG t u a b (b*x) l,nq];generalize hv t u l=h;rw[Nf u (l.length+1)];generalize u^(l.length+1)=p;grind
theorem uo(x y:Int)(k:Nat):cf [x,y] k=if k=0 then x else if k=1 then y else 0:=by
 rcases k with _ |_ |k
 ·rfl
 ·rfl
 ·rw[if_neg (by omega),if_neg (by omega)];exact ck (by simp)
theorem wV(l:Ex)(x y:Int)(n:Nat):∀j,sm l [x,y] n j=(if n<j then cf l n*x else 0)+(if 1<=n/\n-1<j then cf l (n-1)*y else 0)
 |0=>by rw[if_neg (by omega),if_neg (by omega)];rfl
 |j+1=>by
  show sm l [x,y] n j+tm l [x,y] n j=_;rw[wV l x y n j];unfold tm;rw[uo];by_cases h1:n<j
  ·rw[if_pos h1,if_neg (show ¬j<=n by omega),if_pos (show n<j+1 by omega),NE];by_cases h2:1<=n
   ·rw[if_pos ⟨h2,by omega⟩,if_pos ⟨h2,by omega⟩]
   ·rw[if_neg (λz=>h2 z.1),if_neg (λz=>h2 z.1)]
  ·rw[if_neg h1,if_pos (show j<=n by omega),Ny];by_cases h2:n=j
   ·subst h2;rw[Oo,if_pos rfl,if_pos (NY _),NV];by_cases h3:1<=n
    ·rw[if_pos ⟨h3,by omega⟩,if_pos ⟨h3,by omega⟩]
    ·rw[if_neg (λz=>h3 z.1),if_neg (λz=>h3 z.1)]
   ·rw[if_neg (show ¬n-j=0 by omega),if_neg (show ¬n<j+1 by omega),Ny,if_neg (show ¬(1<=n/\n-1<j) by omega),Ny];by_cases h3:n-j=1
    ·rw[if_pos h3,if_pos (show 1<=n/\n-1<j+1 by omega),show n-1=j by omega]
    ·rw[if_neg h3,if_neg (show ¬(1<=n/\n-1<j+1) by omega),M8]
theorem GM{a b:Int}{l:Ex}(h:l≠[]):af l [-a,b]=mb a b 0 l:=by
 apply dO
 ·rw[nq];unfold af;rw[if_neg (by simp[h]),MI,N2];simp
 ·intro k _;rw[aJ,iX];unfold aw;rw[wV]
  have e1:(if k<l.length then cf l k * -a else 0) = -a*cf l k:=by
   by_cases hk:k<l.length
   ·rw[if_pos hk,Nj]
   ·rw[if_neg hk,ck (NZ hk),M8]
  have e2:(if 1<=k/\k-1<l.length then cf l (k-1)*b else 0)=if k=0 then 0 else b*cf l (k-1):=by
   by_cases h0:k=0
   ·rw[if_neg (by omega),if_pos h0]
   ·rw[if_neg h0];by_cases hk:k-1<l.length
    ·rw[if_pos (by omega),Nj]
    ·rw[if_neg (by omega),ck (NZ hk),M8]
  rw[e1,e2]
theorem nE(g t b:Int):∀l:Ex,hv (g*t) (g*b) l=g^l.length*hv t b l
 | []=>by simp[nG]
 |v::l=>by rw[dz,dz,nE g t b l,Int.mul_pow];show v*(g^(l.length+1)*b^(l.length+1))+g*t*(g^l.length*hv t b l)=g^(l.length+1)*(v*b^(l.length+1)+t*hv t b l);rw[Nf g l.length];generalize b^(l.length+1)=p;generalize g^l.length=q;generalize hv t b l=h;grind
theorem Eu{g:Int}(h:0<g)(n:Nat):0<g^n:=by
 induction n with
 |zero=>simp
 |succ n ih=>rw[Nf];exact ML ih h
def At(l:Ex)(t b top bot:Int):Prop:=hv t b l*bot=top*b^l.length
theorem At.sign{l:Ex}{t b top bot:Int}(hb:0<b)(hbot:0<bot)(h:At l t b top bot):sg (hv t b l)=sg top:=by
 unfold At at h
 rw[<- pF (x:=hv t b l) hbot,h,pF (Eu hb _)]
theorem kZ(t u c:Int):hv t u [c]=c*u:=by show c*u^1+t*0=c*u;grind
theorem Ju(t b:Int){l:Ex}{n:Nat}(h:n<l.length):hv t b (l.drop n)=cf l n*b^(l.length-n)+t*hv t b (l.drop (n+1)):=by
 rw[Pc h,dz,NJ,dP h];have e:l.length-(n+1)+1=l.length-n:=by omega
 rw[e]
noncomputable def chF(z:Int×Int)(s:Int):Int×Int:=(if s*z.2<0 then z.1+1 else z.1,if s=0 then z.2 else s)
noncomputable def chS(l:Ex):Int×Int:=l.foldl chF (0,0)
theorem AG(l:Ex)(s:Int):chS (l++[s])=chF (chS l) s:=by unfold chS;rw[List.foldl_append];rfl
theorem pE(x:Int):sg x=0↔x=0:=by unfold sg;split<;>(try split)<;>omega
theorem AH:∀(n:Nat) (l:Ex),l.length=n->(∀s∈l,s.natAbs<=1)->(chS l).2.natAbs<=1/\0<=(chS l).1/\(chS l).1<=l.length
 |n,l,hn,h=>by
  rcases cO l with rfl |⟨r,s,rfl⟩
  ·decide
  ·have hr:r.length+1=n:=by rw[<- hn,MX];rfl
   obtain⟨i1,i2,i3⟩:=AH (n-1) r (by omega) (λx hx=>h x (NI _ hx));have hs:=h s (by simp);rw[AG];unfold chF;refine⟨?_,?_,?_⟩
   ·dsimp only;split
    ·exact i1
    ·exact hs
   ·dsimp only;split<;>omega
   ·dsimp only;rw[MX];show _<=((r.length+1:Nat):Int);split<;>omega
termination_by n=>n
theorem JO(l:Ex)(h:∀s∈l,s.natAbs<=1):(chS l).2.natAbs<=1/\0<=(chS l).1/\(chS l).1<=l.length:=AH _ l rfl h
theorem xr(x:Int):(sg x).natAbs<=1:=by unfold sg;split<;>(try split)<;>decide
theorem wY{q q' b:Ex}{c l:Int}{p n:Nat}(h:∀k,cf q' k=c*cf q k+(if k=p then l else 0)) :
 ∀j,sm q' b n j=c*sm q b n j+(if p<j/\p<=n then l*cf b (n-p)else 0)
 |0=>by rw[sm,sm,if_neg (by omega)];simp
 |j+1=>by
  rw[sm,sm,wY h j];unfold tm;by_cases hj:j<=n
  ·rw[if_pos hj,if_pos hj,h j];by_cases e:j=p
   ·subst e;rw[if_pos rfl,if_neg (by omega),if_pos ⟨by omega,hj⟩];grind
   ·rw[if_neg e];by_cases h2:p<j/\p<=n
    ·rw[if_pos h2,if_pos ⟨by omega,h2.2⟩];grind
    ·rw[if_neg h2,if_neg (by omega)];grind
  ·rw[if_neg hj,if_neg hj];by_cases h2:p<j/\p<=n
   ·rw[if_pos h2,if_pos ⟨by omega,h2.2⟩];grind
   ·rw[if_neg h2,if_neg (by omega)];grind
theorem GL{q q' b:Ex}{c l:Int}{p n:Nat}(hl:q'.length=q.length)(hp:p<q.length)(h:∀k,cf q' k=c*cf q k+(if k=p then l else 0)) :
 aw q' b n=c*aw q b n+(if p<=n then l*cf b (n-p)else 0):=by
 unfold aw;rw[hl,wY h];by_cases h2:p<=n
 ·rw[if_pos h2,if_pos ⟨hp,h2⟩]
 ·rw[if_neg h2,if_neg (by omega)]
noncomputable def scL(c:Int)(l:Ex):Ex:=l.map λx=>c*x
theorem b9(c:Int)(l:Ex):(scL c l).length=l.length:=by unfold scL;rw[MI]
theorem bh(c:Int)(l:Ex)(k:Nat):cf (scL c l) k=c*cf l k:=by
 by_cases h:k<l.length
 ·unfold cf scL;simp[h]
 ·rw[ck (by rw[b9];omega),ck (by omega)];simp
noncomputable def iO(r b:Ex)(p:Nat)(l:Int):Ex:=(List.range (r.length-1)).map λk=>cf r k-(if p<=k then l*cf b (k-p)else 0)
theorem zh(r b:Ex)(p:Nat)(l:Int):(iO r b p l).length=r.length-1:=by unfold iO;simp
theorem n8(r b:Ex)(p:Nat)(l:Int)(k:Nat):cf (iO r b p l) k=if k<r.length-1 then cf r k-(if p<=k then l*cf b (k-p)else 0)else 0:=by unfold iO;rw[lv]
theorem CM(x:Int):sg x*x=(x.natAbs:Int):=by unfold sg;split<;>(try split)<;>omega
noncomputable def cV(b:Ex)(z:Ex×Ex)(i:Nat):Ex×Ex :=
 let s:Int:=((cf b (b.length-1)).natAbs:Int)
 let l:=sg (cf b (b.length-1))*cf z.2 (z.2.length-1)
 ((scL s z.1).set i l,iO (scL s z.2) b i l)
noncomputable def aQ(a b:Ex):Nat->Ex×Ex
 |0=>(List.replicate (a.length+1-b.length) 0,a)
 |i+1=>cV b (aQ a b i) (a.length+1-b.length-1-i)
structure DivInv(a b:Ex)(i:Nat):Prop where
 lq:(aQ a b i).1.length=a.length+1-b.length
 lr:(aQ a b i).2.length=a.length-i
 low:∀k,k+i<a.length+1-b.length->cf (aQ a b i).1 k=0
 eqn:∀n,((cf b (b.length-1)).natAbs:Int)^i*cf a n=aw (aQ a b i).1 b n+cf (aQ a b i).2 n
theorem sd{a b:Ex}{n:Nat}(h:∀k,cf a k=0):aw a b n=0:=by apply ka;intro i _;unfold tm;rw[h i];simp
theorem Jx{A B i:Nat}(hi:i+1<=A+1-B)(hb:0<B):∃p,A+1-B=p+i+1/\p+i+B=A:=⟨A-B-i,by omega,by omega⟩
theorem Ao(p i:Nat):p<p+i+1:=Nat.lt_succ_of_le (Nat.le_add_right _ _)
theorem nV{P A C M R:Int}(en:P*A=M+R):P*C*A=C*M+C*R:=by rw[Int.mul_right_comm,en,Nj,Int.mul_add]
theorem Jy(x y z:Int):x+y=x+z+(y-z):=by omega
theorem iW{a b:Ex}(hb:b≠[]):∀i,i<=a.length+1-b.length->DivInv a b i
 |0,_=>⟨by simp[aQ],by simp[aQ],λk _=>by show cf (List.replicate _ 0) k=0;rw[lu],λn=>by
  show _=aw (List.replicate _ 0) b n+cf a n
  rw[sd λk=>lu _ _];simp⟩
 |i+1,hi=>by
  obtain⟨lq,lr,low,eqn⟩:=iW (a:=a) hb i (Nat.le_of_succ_le hi);have hbl:=MR.mpr hb;have e:aQ a b (i+1)=cV b (aQ a b i) (a.length+1-b.length-1-i):=rfl;generalize aQ a b i=z at e lq lr low eqn
  obtain⟨p,ep,ed⟩:=Jx hi hbl;rw[ep,show p+i+1-1-i=p from Nat.add_sub_cancel _ _]at e;rw[ep]at lq low;have lz:z.2.length=p+b.length:=by rw[lr,<- ed,Nat.add_right_comm,Nat.add_sub_cancel]
  have hp:p<(scL ((cf b (b.length-1)).natAbs:Int) z.1).length:=by rw[b9,lq];exact Ao p i
  have hq:∀k,cf (cV b z p).1 k=((cf b (b.length-1)).natAbs:Int)*cf z.1 k+(if k=p then sg (cf b (b.length-1))*cf z.2 (z.2.length-1)else 0):=by
   intro k;unfold cV;dsimp only
   rw[ll hp,bh];by_cases h:k=p
   ·rw[if_pos h,if_pos h,low k (by rw[h];exact NY _)];simp
   ·rw[if_neg h,if_neg h];simp
  have hlq:(cV b z p).1.length=p+i+1:=by unfold cV;dsimp only;rw[Ow,b9,lq]
  refine⟨?_,?_,?_,?_⟩
  ·rw[e,hlq,ep]
  ·rw[e];unfold cV;dsimp only;rw[zh,b9,lr];rfl
  ·intro k hk;rw[ep]at hk;have hk':k<p:=by clear lq lr low eqn hp hq hlq lz e ep ed;omega
   rw[e,hq,if_neg (M7 hk'),low k (Nat.lt_trans (Nat.add_lt_add_right hk' i) (NY _))];simp
  ·intro n;rw[e,GL (by rw[hlq,lq]) (by rw[lq];exact Ao p i) hq,Nf];have en:=eqn n;unfold cV;dsimp only
   rw[n8,b9,bh,lz];clear lq lr low eqn hp hq hlq e ep ed;by_cases h1:n<p+b.length-1
   ·rw[if_pos h1];by_cases h2:p<=n
    ·rw[if_pos h2,nV en];exact Jy _ _ _
    ·rw[if_neg h2,nV en,NE,Int.sub_zero]
   ·rw[if_neg h1];have h2:p<=n:=by clear en;omega
    by_cases h3:n=p+b.length-1
    ·have h4:n-p=b.length-1:=by clear en;omega
     rw[if_pos h2,h4];have sg:=CM (cf b (b.length-1));rw[<- h3,nV en,NE,Int.mul_right_comm,sg]
    ·have hc:cf z.2 n=0:=ck (by rw[lz];clear en;omega);rw[if_pos h2,ck (l:=b) (k:=n-p) (by clear en;omega),nV en,hc,M8,M8,NE,NE]
theorem Am{a b:Ex}(hb:b≠[])(ha:Tr a)(hbt:Tr b):∀i,i+1<=a.length+1-b.length->cf (aQ a b (i+1)).1 (a.length+1-b.length-1)≠0
 |0,h=>by
  obtain⟨lq,lr,_,_⟩:=iW (a:=a) hb 0 (by omega);have hbl:=MR.mpr hb;show cf (cV b (aQ a b 0) _).1 _≠0;unfold cV;dsimp only
  rw[ll (by rw[b9,lq];omega),if_pos (by omega)];have hb1:=hbt (b.length-1) (by omega);have ha1:=ha (a.length-1) (by omega);refine M0 ?_ ?_
  ·unfold sg;split<;>(try split)<;>omega
  ·rw[lr];exact ha1
 |i+1,h=>by
  have ih:=Am hb ha hbt i (by omega);obtain⟨lq,lr,_,_⟩:=iW (a:=a) hb (i+1) (by omega);have hbl:=MR.mpr hb;show cf (cV b (aQ a b (i+1)) _).1 _≠0;unfold cV;dsimp only
  have hN:∀n,i+1+1<=n->¬n-1=n-1-(i+1):=λn hn e=>by omega
  rw[ll (by rw[b9,lq];omega),if_neg (hN _ h),bh];have hb1:=hbt (b.length-1) (by omega);refine M0 ?_ ih;omega
noncomputable def aX(a b:Ex):Nat:=a.length+1-b.length
noncomputable def bY(a b:Ex):Int:=((cf b (b.length-1)).natAbs:Int)^aX a b
noncomputable def bV(a b:Ex):Ex:=(aQ a b (aX a b)).1
noncomputable def aM(a b:Ex):Ex:=trim (aQ a b (aX a b)).2
theorem ia{a b:Ex}(hb:b≠[])(n:Nat):bY a b*cf a n=aw (bV a b) b n+cf (aM a b) n:=by unfold aM bV bY;rw[gN];exact(iW hb (aX a b) (MJ _)).eqn n
theorem gL{a b:Ex}(hb:b≠[]):(aM a b).length<b.length:=by
 have h:=(iW (a:=a) hb (aX a b) (MJ _)).lr;have h2:=sJ (aQ a b (aX a b)).2;have hbl:=MR.mpr hb;unfold aM;unfold aX at *
 omega
theorem ue{a b:Ex}(hb:b≠[]):(bV a b).length=aX a b:=(iW (a:=a) hb (aX a b) (MJ _)).lq
theorem uc{a b:Ex}(hb:b≠[])(ha:Tr a)(hbt:Tr b):Tr (bV a b):=by
 intro n hn;rw[ue hb]at hn;have h:=Am hb ha hbt n (by unfold aX at hn;omega);unfold bV;rw[hn];have:a.length+1-b.length-1=n:=by unfold aX at hn;rw[hn];rfl
 rwa [this]at h
theorem fL(a b:Ex):Tr (aM a b):=fh _
theorem w6{a a' b b':Ex}{n:Nat}(h1:∀k,cf a k=cf a' k)(h2:∀k,cf b k=cf b' k):∀j,sm a b n j=sm a' b' n j
 |0=>rfl
 |j+1=>by rw[sm,sm,w6 h1 h2 j];unfold tm;rw[h1 j,h2 (n-j)]
theorem wZ{a b:Ex}{n:Nat}:∀d,sm a b n (a.length+d)=aw a b n
 |0=>rfl
 |d+1=>by rw[<- Nat.add_assoc,sm,wZ d,B2 (by omega)];omega
theorem ke{a b:Ex}{n N:Nat}(h:a.length<=N):sm a b n N=aw a b n:=by obtain⟨d,rfl⟩:=Nat.exists_eq_add_of_le h;exact wZ d
theorem m8{a a' b b':Ex}{n:Nat}(h1:∀k,cf a k=cf a' k)(h2:∀k,cf b k=cf b' k):aw a b n=aw a' b' n:=by rw[<- ke (Nat.le_max_left a.length a'.length),<- ke (Nat.le_max_right a.length a'.length)];exact w6 h1 h2 _
theorem wX{a b c q:Ex}{x y:Int}{n:Nat}(h:∀k,cf c k=x*cf a k+y*cf b k):∀j,sm c q n j=x*sm a q n j+y*sm b q n j
 |0=>by simp[sm]
 |j+1=>by
  rw[sm,sm,sm,wX h j];unfold tm;rw[h j];by_cases hj:j<=n
  ·rw[if_pos hj,if_pos hj,if_pos hj];grind
  ·rw[if_neg hj,if_neg hj,if_neg hj];grind
theorem dZ{a b c q:Ex}{x y:Int}{n:Nat}(h:∀k,cf c k=x*cf a k+y*cf b k):aw c q n=x*aw a q n+y*aw b q n:=by
 have h1:a.length<=a.length+b.length+c.length:=by omega
 have h2:b.length<=a.length+b.length+c.length:=by omega
 have h3:c.length<=a.length+b.length+c.length:=by omega
 rw[<- ke h1,<- ke h2,<- ke h3];exact wX h _
theorem wW{a b b':Ex}{c:Int}{n:Nat}(h:∀k,cf b' k=c*cf b k):∀j,sm a b' n j=c*sm a b n j
 |0=>by simp[sm]
 |j+1=>by
  rw[sm,sm,wW h j];unfold tm;rw[h (n-j)];by_cases hj:j<=n
  ·rw[if_pos hj,if_pos hj];grind
  ·rw[if_neg hj,if_neg hj];grind
theorem kM{a b b':Ex}{c:Int}{n:Nat}(h:∀k,cf b' k=c*cf b k):aw a b' n=c*aw a b n:=wW h _
theorem fD(c:Int)(l:Ex)(n:Nat):aw [c] l n=c*cf l n:=by unfold aw;show sm [c] l n 0+tm [c] l n 0=_;unfold sm tm;rw[if_pos (MQ _),AJ,N3,Ny]
theorem r8{l:Ex}(ht:Tr l)(h:∀k,cf l k=0):l=[]:=by
 refine Classical.byContradiction λhne=>?_
 have hl:=MR.mpr hne;exact ht (l.length-1) (by omega) (h _)
theorem yQ{d q:Ex}(hq:q≠[])(hqt:Tr q)(h:∀n,q.length<=n+1->aw d q n=0):∀k,cf d k=0:=by
 have e:trim d=[]:=by
  refine Classical.byContradiction λhne=>?_
  have hl:=MR.mpr hne;have hql:=MR.mpr hq;have ht:=fh d ((trim d).length-1) (by omega);have hb:=hqt (q.length-1) (by omega);have h1:=h ((trim d).length-1+(q.length-1)) (by omega);rw[<- m8 (a:=trim d) (b:=q) (λk=>gN d k) (λ_=>rfl),se (la:=(trim d).length-1) (lb:=q.length-1) (by omega) (by omega)]at h1;exact M0 ht hb h1
 intro k;rw[<- gN,e,cj]
theorem lg{a b:Ex}(hb:b≠[])(hbt:Tr b):bY a b≠0:=by
 have hbl:=MR.mpr hb;have h:=hbt (b.length-1) (by omega);have h1:((cf b (b.length-1)).natAbs:Int)≠0:=by omega
 unfold bY;generalize aX a b=n
 induction n with
 |zero=>rw[NQ];decide
 |succ n ih=>rw[Nf];exact M0 ih h1
noncomputable def d9(d:Nat)(l:Ex):Nat:=l.foldl (λd v=>Nat.gcd d v.natAbs) d
noncomputable def aB(l:Ex):Nat:=d9 0 l
theorem sZ(d:Nat):d9 d []=d:=rfl
theorem jI(d:Nat)(v:Int)(l:Ex):d9 d (v::l)=d9 (Nat.gcd d v.natAbs) l:=rfl
theorem Il(d:Nat)(l:Ex)(v:Int):d9 d (l++[v])=Nat.gcd (d9 d l) v.natAbs:=by unfold d9;rw[List.foldl_append];rfl
theorem zM(l:Ex)(v:Int):aB (l++[v])=Nat.gcd (aB l) v.natAbs:=Il 0 l v
theorem Ag{m:Nat}:∀{l:Ex} {d:Nat},m∣d9 d l↔m∣d/\∀v∈l,m∣v.natAbs
 | [],d=>by simp[sZ]
 |v::l,d=>by rw[jI,Ag,Nat.dvd_gcd_iff];simp only[MM,forall_eq_or_imp];exact⟨λ⟨⟨a,b⟩,c⟩=>⟨a,b,c⟩,λ⟨a,b,c⟩=>⟨⟨a,b⟩,c⟩⟩
theorem dvd_gcdL{m:Nat}{l:Ex}:m∣aB l↔∀v∈l,m∣v.natAbs:=by unfold aB;rw[Ag];exact⟨λh=>h.2,λh=>⟨Nat.dvd_zero m,h⟩⟩
theorem nJ{l:Ex}{v:Int}(h:v∈l):aB l∣v.natAbs:=dvd_gcdL.mp (Nat.dvd_refl _) v h
theorem Ij(v:Int):aB [v]=v.natAbs:=by show Nat.gcd 0 v.natAbs=_;exact Nat.gcd_zero_left _
theorem zL{a b:Int}(ha:0<=a)(hb:0<b):Nat.gcd b.natAbs (a%b).natAbs=Nat.gcd a.natAbs b.natAbs:=by
 have e:(a%b).natAbs=a.natAbs%b.natAbs:=by obtain⟨x,rfl⟩:=OJ ha;obtain⟨y,rfl⟩:=OJ (MN hb);rfl
 rw[e,Nat.gcd_comm,<- Nat.gcd_rec,Nat.gcd_comm]
noncomputable def ar(l:Ex):Ex:=l.map λx=>x/(aB l:Int)
noncomputable def al(l:Ex):Int:=cf l (l.length-1)
theorem di(r:Ex)(x:Int):al (r++[x])=x:=by unfold al;rw[MX];exact jN r x
noncomputable def cz(l:Ex):Ex:=if al l<0 then l.map λx => -x else l
noncomputable def aD(l:Ex):Ex:=cz (ar l)
theorem vx{c:Int->Int}(h0:∀x,c x=0↔x=0):∀(n:Nat) (l:Ex),l.length=n->trim (l.map c)=(trim l).map c
 |0,l,h=>by rw[Op.mp h];rfl
 |n+1,l,h=>by
  rcases cO l with rfl |⟨r,x,rfl⟩
  ·rfl
  ·rw[Nl];show trim (r.map c++[c x])=_;by_cases hx:x=0
   ·subst hx;rw[(h0 0).mpr rfl,lN,lN];exact vx h0 n r (by simpa using h)
   ·rw[jX r hx,jX _ (λz=>hx ((h0 x).mp z)),Nl];rfl
def jQ(l:Ex):Prop:=l=[]\/aB l=1
theorem CH{l:Ex}(h:jQ l):ar l=l:=by
 rcases h with rfl |h
 ·rfl
 ·unfold ar;rw[h]
  conv=>rhs;rw[<- List.map_id l]
  apply OK;intro x _;show x/1=x;exact Int.ediv_one x
theorem Ik{l:Ex}{s:Int}(hs:s=1\/s = -1):aB (l.map λx=>x*s)=aB l:=by
 have key:∀m:Nat,m∣aB (l.map λx=>x*s)↔m∣aB l:=by
  intro m;rw[dvd_gcdL,dvd_gcdL]
  have e:∀x:Int,(x*s).natAbs=x.natAbs:=λx=>by
   rcases hs with rfl |rfl
   ·rw[Nt]
   ·rw[Int.mul_neg,Nt,Int.natAbs_neg]
  constructor
  ·intro h v hv;have:=h (v*s) (MW.mpr ⟨v,hv,rfl⟩)
   rwa [e]at this
  ·intro h v hv;obtain⟨u,hu,rfl⟩:=MW.mp hv;rw[e];exact h u hu
 exact Nat.dvd_antisymm ((key _).mp (Nat.dvd_refl _)) ((key _).mpr (Nat.dvd_refl _))
theorem Er{l:Ex}(h:jQ l):jQ (l.map λx => -x):=by
 rcases h with rfl |h
 ·exact .inl rfl
 ·right
  have e:(l.map λx => -x)=l.map λx=>x*(-1):=by apply OK;intro x _;omega
  rw[e,Ik (.inr rfl),h]
theorem zk(l:Ex):al (l.map λx => -x) = -al l:=by
 rcases cO l with rfl |⟨r,x,rfl⟩
 ·rfl
 ·rw[Nl];show al (r.map _++[-x])=_;rw[di,di]
theorem Ep{l:Ex}(h:jQ l):jQ (cz l):=by
 unfold cz;split
 ·exact Er h
 ·exact h
theorem BX{c:Int->Int}(h0:∀x,c x=0↔x=0){l:Ex}(h:Tr l):Tr (l.map c):=by rw[<- BR h,<- vx h0 _ l rfl];exact fh _
theorem BT{l:Ex}(h:Tr l):Tr (cz l):=by
 unfold cz;split
 ·exact BX (λx=>by omega) h
 ·exact h
theorem zN(c:Int):∀(l:Ex) (d:Nat),d9 (c.natAbs*d) (scL c l)=c.natAbs*d9 d l
 | [],d=>rfl
 |v::l,d=>by show d9 (Nat.gcd (c.natAbs*d) (c*v).natAbs) (scL c l)=c.natAbs*d9 (Nat.gcd d v.natAbs) l;rw[MY,Nat.gcd_mul_left,zN c l]
theorem sY(c:Int)(l:Ex):aB (scL c l)=c.natAbs*aB l:=by have h:=zN c l 0;rw[Nat.mul_zero]at h;exact h
theorem iP{l:Ex}{x:Int}(h:x∈l):(aB l:Int)∣x:=Oz.mpr (nJ h)
theorem CF{c:Int}(hc:0<c)(l:Ex):ar (scL c l)=ar l:=by
 unfold ar;rw[sY];unfold scL;rw[NR];refine OK λx _=>?_
 show c*x/((c.natAbs*aB l:Nat):Int)=x/(aB l:Int);have e:((c.natAbs*aB l:Nat):Int)=c*(aB l:Int):=by rw[NK];congr 1;omega
 rw[e,Int.mul_ediv_mul_of_pos _ _ hc]
theorem CG{c:Int}(hc:c<0)(l:Ex):ar (scL c l)=(ar l).map λx => -x:=by
 unfold ar;rw[sY];unfold scL;rw[NR,NR];refine OK λx hx=>?_
 show c*x/((c.natAbs*aB l:Nat):Int) = -(x/(aB l:Int));have e:((c.natAbs*aB l:Nat):Int)=(-c)*(aB l:Int):=by rw[NK];congr 1;omega
 have e2:c*x=(-c)*(-x):=by rw[Int.neg_mul_neg]
 rw[e,e2,Int.mul_ediv_mul_of_pos _ _ (by omega:0 < -c),Int.neg_ediv_of_dvd (iP hx)]
theorem Ew{m:Ex}(h:Tr m):cz (m.map λx => -x)=cz m:=by
 rcases cO m with rfl |⟨r,x,rfl⟩
 ·rfl
 have hx:x≠0:=tr_snoc.mp h;have h1:=zk (r++[x]);rw[di]at h1;unfold cz;rw[h1,di];by_cases hn:x<0
 ·rw[if_neg (by omega),if_pos hn]
 ·rw[if_pos (by omega),if_neg hn,NR];rw[show((λx:Int => -x) ∘ λx:Int => -x)=id from by funext y;simp];exact List.map_id _
theorem fW{l:Ex}(h:Tr l):Tr (ar l):=by
 intro n hn;have hl:l.length=n+1:=by rw[<- hn];unfold ar;rw[MI]
 have hx:=h n hl;have hm:cf l n∈l:=by rw[dP (by omega)];exact ND _
 have e:cf (ar l) n=cf l n/(aB l:Int):=by
  have h1:n<l.length:=by omega
  unfold ar cf;simp[List.getD,h1]
 rw[e];intro z;have d:=iP hm;have:=Int.mul_ediv_cancel' d;rw[z,M8]at this;exact hx this.symm
theorem kI{c:Int}(hc:c≠0){l:Ex}(h:Tr l):aD (scL c l)=aD l:=by
 unfold aD;by_cases hp:0<c
 ·rw[CF hp]
 ·rw[CG (by omega),Ew (fW h)]
theorem jY{c:Int}(hc:c≠0){l:Ex}(h:Tr l):Tr (scL c l):=by intro n hn;rw[b9]at hn;rw[bh];exact M0 hc (h n hn)
theorem Ez{a b:Ex}{x y:Int}(hx:x≠0)(hy:y≠0)(ha:Tr a)(hb:Tr b)(h:∀k,x*cf a k=y*cf b k):aD a=aD b:=by
 have e:scL x a=scL y b:=lf (jY hx ha) (jY hy hb) λk=>by rw[bh,bh,h k]
 rw[<- kI hx ha,e,kI hy hb]
noncomputable def slopeL(l:Ex):Ex:=(List.range (l.length-1)).map λ(k:Nat)=>((k:Int)+1)*cf l (k+1)
noncomputable def lp(l:Ex)(m i n:Nat):Int:=if n%m=0/\n/m<i then cf l (n/m)else 0
noncomputable def rst(one other:Ex):Ex:=if other=[]then[]else aM one other
noncomputable def nxt(one other:Ex):Ex:=ar (cD [] (rst one other))
noncomputable def bj:Nat->Ex->Ex->List Ex
 |0,_,_=>[]
 |n+1,one,other=>if one=[]then[]else one::bj n other (nxt one other)
theorem kz(n:Nat)(o:Ex):bj n [] o=[]:=by cases n with |zero=>rfl |succ n=>show(if([]:Ex)=[]then _ else _)=_;rw[if_pos rfl]
noncomputable def up(f:Nat->Int)(n:Nat):Int:=if n=0 then 0 else f (n-1)
theorem w5(x:Int)(a b:Ex)(n:Nat):∀j,sm (x::a) b n (j+1)=x*cf b n+(if n=0 then 0 else sm a b (n-1) j)
 |0=>by
  show 0+tm (x::a) b n 0=_;unfold tm;rw[if_pos (MQ _)];rw[AJ,N3];by_cases h:n=0
  ·rw[if_pos h];omega
  ·rw[if_neg h];show _=_+0;omega
 |j+1=>by
  show sm (x::a) b n (j+1)+tm (x::a) b n (j+1)=_;rw[w5 x a b n j];by_cases h:n=0
  ·rw[if_pos h,if_pos h];unfold tm;rw[if_neg (by omega)];omega
  ·rw[if_neg h,if_neg h];show _=_+(sm a b (n-1) j+tm a b (n-1) j)
   have e:tm (x::a) b n (j+1)=tm a b (n-1) j:=by
    unfold tm;rw[nZ];by_cases h2:j+1<=n
    ·rw[if_pos h2,if_pos (by omega)]
     congr 2;omega
    ·rw[if_neg h2,if_neg (by omega)]
   rw[e];omega
theorem dJ(x:Int)(a b:Ex)(n:Nat):aw (x::a) b n=x*cf b n+up (aw a b) n:=w5 x a b n a.length
theorem dY(b:Ex)(n:Nat):aw [] b n=0:=rfl
theorem ur(x:Int)(a:Ex)(n:Nat):cf (x::a) n=(if n=0 then x else 0)+up (cf a) n:=by
 cases n with
 |zero=>show x=x+0;omega
 |succ n=>show cf a n=0+cf a n;omega
theorem sj(y:Int)(b:Ex):∀(a:Ex) (n:Nat),aw a (y::b) n=y*cf a n+up (aw a b) n
 | [],n=>by
  rw[dY,cj];unfold up;split
  ·simp
  ·rw[dY];simp
 |x::a,n=>by
  rw[dJ,ur,ur];cases n with
  |zero =>show x*(y+0)+0=y*(x+0)+0;simp only[NE];exact Nj _ _
  |succ n =>show x*(0+cf b n)+aw a (y::b) n=y*(0+cf a n)+aw (x::a) b n;rw[sj y b a n,dJ];simp only[Ny];omega
theorem si:∀(a:Ex) (n:Nat),aw a [] n=0
 | [],n=>rfl
 |x::a,n=>by
  rw[dJ,cj];unfold up;split
  ·simp
  ·rw[si a];simp
theorem gz:∀(a b:Ex) (n:Nat),aw a b n=aw b a n
 | [],b,n=>by rw[si];rfl
 |x::a,b,n=>by
  rw[dJ,sj]
  congr 1
  unfold up;split
  ·rfl
  ·exact gz a b _
theorem yS{a b c q:Ex}{x y:Int}{n:Nat}(h:∀k,cf c k=x*cf a k+y*cf b k):aw q c n=x*aw q a n+y*aw q b n:=by rw[gz q c,dZ h,gz q a,gz q b]
theorem n5(a:Ex)(n:Nat):cf (0::a) n=up (cf a) n:=by rw[ur];split<;>omega
theorem yR(a b:Ex)(n:Nat):aw (0::a) b n=up (aw a b) n:=by rw[dJ];omega
theorem jz:∀(a b c:Ex) (n:Nat),aw (af a b) c n=aw a (af b c) n
 | [],b,c,n=>by rw[dY,sd λk=>by rw[aJ,dY]]
 |x::a,b,c,n=>by
  rw[dJ,aJ]
  have e:∀k,cf (af (x::a) b) k=x*cf b k+1*cf (0::af a b) k:=λk=>by
   rw[aJ,dJ,n5,Ni]
   congr 1
   unfold up;split
   ·rfl
   ·rw[aJ]
  rw[dZ e,yR,Ni]
  congr 1
  unfold up;split
  ·rfl
  ·exact jz a b c _
def Dv(d p:Ex):Prop:=∃(c:Int) (q:Ex),c≠0/\∀n,c*cf p n=aw q d n
theorem Dv.refl(d:Ex):Dv d d:=⟨1,[1],by decide,λn=>by rw[fD]⟩
theorem Dv.nil(d:Ex):Dv d []:=⟨1,[],by decide,λn=>by rw[cj,dY];rfl⟩
theorem Dv.trans{d e p:Ex}(h1:Dv d e)(h2:Dv e p):Dv d p:=by obtain⟨c1,q1,hc1,e1⟩:=h1;obtain⟨c2,q2,hc2,e2⟩:=h2;refine⟨c1*c2,af q2 q1,M0 hc1 hc2,λn=>?_⟩;rw[jz,Ng,e2,<- kM (b':=af q1 d) (λk=>by rw[aJ,e1])]
theorem Dv.up{d a b r q:Ex}{f:Int}(hf:f≠0)(h:∀n,f*cf a n=aw q b n+cf r n)(hb:Dv d b)(hr:Dv d r):Dv d a:=by obtain⟨c1,q1,hc1,e1⟩:=hb;obtain⟨c2,q2,hc2,e2⟩:=hr;refine⟨c1*c2*f,dM c1 (scL c2 (af q q1)) q2,M0 (M0 hc1 hc2) hf,λn=>?_⟩;rw[dZ (a:=af q q1) (b:=q2) (x:=c2) (y:=c1) (λk=>by rw[ie,bh]),jz,<- e2,kM (b:=b) (b':=af q1 d) (c:=c1) (λk=>by rw[aJ,e1])];have:=h n;grind
theorem Dv.down{d a b r q:Ex}{f:Int}(h:∀n,f*cf a n=aw q b n+cf r n)(ha:Dv d a)(hb:Dv d b):Dv d r:=by obtain⟨c1,q1,hc1,e1⟩:=ha;obtain⟨c2,q2,hc2,e2⟩:=hb;refine⟨c1*c2,dM (-c1) (scL (f*c2) q1) (af q q2),M0 hc1 hc2,λn=>?_⟩;rw[dZ (a:=q1) (b:=af q q2) (x:=f*c2) (y := -c1) (λk=>by rw[ie,bh]),jz,<- e1,kM (b:=b) (b':=af q2 d) (c:=c2) (λk=>by rw[aJ,e2])];have:=h n;grind
theorem Dv.prop_right{d p p':Ex}{x y:Int}(hx:x≠0)(h:∀n,x*cf p' n=y*cf p n)(hd:Dv d p):Dv d p':=by obtain⟨c,q,hc,e⟩:=hd;refine⟨c*x,scL y q,M0 hc hx,λn=>?_⟩;rw[dZ (a:=q) (b:=[]) (x:=y) (y:=0) (λk=>by rw[bh];simp),<- e];have:=h n;grind
theorem Dv.prop_left{d d' p:Ex}{x y:Int}(hx:x≠0)(hy:y≠0)(h:∀n,x*cf d' n=y*cf d n)(hd:Dv d p):Dv d' p :=
 Dv.trans (Dv.prop_right hy (λn=>(h n).symm) (Dv.refl d')) hd
theorem jt{l:Ex}(h:Tr l):∃g:Int,g≠0/\∀n,cf l n=g*cf (aD l) n:=by
 by_cases hl:l=[]
 ·subst hl;exact⟨1,by decide,λn=>by rw[cj];show 0=1*cf [] n;rw[cj];rfl⟩
 have hg:(aB l:Int)≠0:=by obtain⟨r,x,rfl⟩:=(cO l).resolve_left hl;have hx:x≠0:=tr_snoc.mp h;have h1:0<aB (r++[x]):=Nat.pos_of_dvd_of_pos (nJ (by simp:x∈r++[x])) (Oq.mpr hx);omega
 have e1:∀n,cf l n=(aB l:Int)*cf (ar l) n:=λn=>by
  unfold ar;by_cases hn:n<l.length
  ·rw[dP hn,dP (by rw[MI];exact hn),List.getElem_map];exact(Int.mul_ediv_cancel' (iP (ND hn))).symm
  ·rw[ck (by omega),ck (by rw[MI];omega),M8]
 unfold aD cz;split
 ·refine⟨-(aB l:Int),by omega,λn=>?_⟩
  have e2:cf ((ar l).map λx => -x) n = -cf (ar l) n:=by
   by_cases hn:n<(ar l).length
   ·rw[dP hn,dP (by rw[MI];exact hn),List.getElem_map]
   ·rw[ck (l:=ar l) (by omega),ck (l:=(ar l).map λx => -x) (by rw[MI];omega)];rfl
  rw[e1,e2];grind
 ·exact⟨_,hg,e1⟩
theorem Dv.plain{d p:Ex}(hp:Tr p):Dv d (aD p)↔Dv d p:=by obtain⟨g,hg,e⟩:=jt hp;exact⟨λh=>Dv.prop_right (x:=1) (y:=g) (by decide) (λn=>by rw[e];omega) h,λh=>Dv.prop_right (x:=g) (y:=1) hg (λn=>by rw[<- e];omega) h⟩
theorem plain_len(l:Ex):(aD l).length=l.length:=by unfold aD cz ar;split<;>simp
theorem gS{l:Ex}(h:Tr l):Tr (aD l):=BT (fW h)
noncomputable def cJ:Nat->Ex->Ex->Ex
 |0,one,_=>one
 |n+1,one,other=>if other=[]then one else cJ n other (aD (aM one other))
theorem Ay(n:Nat)(one:Ex):cJ n one []=one:=by cases n<;>rfl
theorem JH{n:Nat}{one other:Ex}(h:other≠[]):cJ (n+1) one other=cJ n other (aD (aM one other)):=by show(if other=[]then one else cJ n other (aD (aM one other)))=_;rw[if_neg h]
theorem Ax:∀(n:Nat) (one other:Ex),other.length<=n->Tr one->Tr other->Tr (cJ n one other)/\Dv (cJ n one other) one/\Dv (cJ n one other) other/\(∀d,Dv d one->Dv d other->Dv d (cJ n one other))/\(one≠[]\/other≠[]->cJ n one other≠[])/\(cJ n one other=one\/cJ n one other=other\/∃l,Tr l/\cJ n one other=aD l)
 |n,one,[],_,t1,_=>by rw[Ay];exact⟨t1,Dv.refl _,Dv.nil _,λd h _=>h,λh=>h.resolve_right λz=>z rfl,.inl rfl⟩
 |0,one,x::o,h,_,_=>absurd h (Nat.not_succ_le_zero _)
 |n+1,one,x::o,h,t1,t2=>by
  have hne:x::o≠[]:=λz=>nomatch z
  rw[JH hne];generalize x::o=other at h t2 hne
  have tr:=fL one other;have hl:=gL (a:=one) hne;obtain⟨c1,c2,c3,c4,c5,c6⟩:=Ax n other (aD (aM one other)) (by rw[plain_len];omega) t2 (gS tr);have eq:=λk=>ia (a:=one) hne k
  refine⟨c1,Dv.up (lg (a:=one) hne t2) eq c2 ((Dv.plain tr).mp c3),c2,λd h1 h2=>c4 d h2 ((Dv.plain tr).mpr (Dv.down eq h1 h2)),λ_=>c5 (.inl hne),?_⟩;rcases c6 with e |e |e
  ·exact .inr (.inl e)
  ·exact .inr (.inr ⟨_,tr,e⟩)
  ·exact .inr (.inr e)
def Cop(a:Ex)(m:Nat):Prop:=∀k:Nat,k∣m->(∀n,(k:Int)∣cf a n)->k=1
theorem tf:∀(N:Nat) (a b:Ex) (m:Nat),a.length+b.length<=N->Cop a m->Cop b m->(∀n,(m:Int)∣aw a b n)->m=1
 |_,[],b,m,_,h1,_,_=>h1 m (Nat.dvd_refl _) λn=>by rw[cj];exact Int.dvd_zero _
 |_,_::_,[],m,_,_,h2,_=>h2 m (Nat.dvd_refl _) λn=>by rw[cj];exact Int.dvd_zero _
 |0,_::_,_::_,_,h,_,_,_=>absurd h (by simp)
 |N+1,x::a,y::b,m,h,h1,h2,h3=>by
  have d1:Nat.gcd m x.natAbs=1:=by
   refine tf N a (y::b) _ (by simp at h ⊢;omega) (λk hk hn=>h1 k (OL hk (Oc _ _)) λn=>?_) (λk hk=>h2 k (OL hk (Oc _ _))) λn=>?_
   ·cases n with
    |zero=>exact Oz.mpr (OL hk (Oy _ _))
    |succ n=>exact hn n
   ·have e:=dJ x a (y::b) (n+1);have g1:((Nat.gcd m x.natAbs:Nat):Int)∣aw (x::a) (y::b) (n+1):=Int.dvd_trans (Int.ofNat_dvd.mpr (Oc _ _)) (h3 _);have g2:((Nat.gcd m x.natAbs:Nat):Int)∣x*cf (y::b) (n+1):=Int.dvd_mul_of_dvd_left (Oz.mpr (Oy _ _))
    have e2:aw a (y::b) n=aw (x::a) (y::b) (n+1)-x*cf (y::b) (n+1):=by rw[e];show _=_+aw a (y::b) n-_;omega
    rw[e2];exact Int.dvd_sub g1 g2
  have d2:Nat.gcd m y.natAbs=1:=by
   refine tf N (x::a) b _ (by simp at h ⊢;omega) (λk hk=>h1 k (OL hk (Oc _ _))) (λk hk hn=>h2 k (OL hk (Oc _ _)) λn=>?_) λn=>?_
   ·cases n with
    |zero=>exact Oz.mpr (OL hk (Oy _ _))
    |succ n=>exact hn n
   ·have e:=sj y b (x::a) (n+1);have g1:((Nat.gcd m y.natAbs:Nat):Int)∣aw (x::a) (y::b) (n+1):=Int.dvd_trans (Int.ofNat_dvd.mpr (Oc _ _)) (h3 _);have g2:((Nat.gcd m y.natAbs:Nat):Int)∣y*cf (x::a) (n+1):=Int.dvd_mul_of_dvd_left (Oz.mpr (Oy _ _))
    have e2:aw (x::a) b n=aw (x::a) (y::b) (n+1)-y*cf (x::a) (n+1):=by rw[e];show _=_+aw (x::a) b n-_;omega
    rw[e2];exact Int.dvd_sub g1 g2
  have h0:=h3 0;rw[dJ]at h0
  have h0':m∣x.natAbs*y.natAbs:=by
   rw[<- MY];refine Oz.mp ?_
   have e:x*cf (y::b) 0+up (aw a (y::b)) 0=x*y:=by show x*y+0=x*y;omega
   rwa [e]at h0
  have h4:m∣y.natAbs:=Nat.Coprime.dvd_of_dvd_mul_left d1 h0';rw[Nat.gcd_eq_left h4]at d2;exact d2
theorem G8{l:Ex}{v:Int}(h:v∈l):∃n,n<l.length/\cf l n=v:=by obtain⟨n,hn,e⟩:=List.getElem_of_mem h;exact⟨n,hn,by rw[dP hn,e]⟩
theorem Au{a:Ex}{m:Nat}(h:aB a=1):Cop a m:=λk _ hn=>by
 have:k∣aB a:=dvd_gcdL.mpr λv hv=>by obtain⟨n,_,rfl⟩:=G8 hv;exact Oz.mp (hn n)
 rw[h]at this;exact Nat.dvd_one.mp this
theorem Et{a b:Ex}(ha:aB a=1)(hb:aB b=1):aB (af a b)=1:=by
 refine tf _ a b _ (MJ _) (Au ha) (Au hb) λn=>?_
 rw[<- aJ];by_cases hn:n<(af a b).length
 ·rw[dP hn];exact iP (ND hn)
 ·rw[ck (by omega)];exact Int.dvd_zero _
structure Pln(l:Ex):Prop where
 tr:Tr l
 ne:l≠[]
 prim:aB l=1
 pos:0<al l
theorem zj{l:Ex}(h:Tr l)(hne:l≠[]):al l≠0:=by have:=MR.mpr hne;exact h (l.length-1) (by omega)
theorem Pln.plain{l:Ex}(h:Pln l):aD l=l:=by unfold aD;rw[CH (.inr h.prim)];unfold cz;rw[if_neg (by have:=h.pos;omega)]
theorem ml{l:Ex}:scL (aB l:Int) (ar l)=l:=by unfold scL ar;rw[NR];refine(OK (g:=id) λx hx=>?_).trans (List.map_id _);exact Int.mul_ediv_cancel' (iP hx)
theorem eU{l:Ex}(h:Tr l)(hne:l≠[]):Pln (aD l):=by
 have hg:0<aB l:=by obtain⟨r,x,rfl⟩:=(cO l).resolve_left hne;have hx:x≠0:=tr_snoc.mp h;exact Nat.pos_of_dvd_of_pos (nJ (by simp:x∈r++[x])) (Oq.mpr hx)
 have h1:aB (ar l)=1:=by have e:=sY (aB l:Int) (ar l);rw[ml,Nm]at e;exact Nat.eq_of_mul_eq_mul_left hg (by rw[<- e,Nat.mul_one])
 have hs:ar l≠[]:=λz=>hne (by have:=congrArg List.length z;unfold ar at this;simpa using this)
 have hl:=zj (fW h) hs
 have hp:aB (aD l)=1:=by
  rcases Ep (.inr h1:jQ (ar l))with z |z
  ·exact absurd (congrArg List.length z) (by
    have:=plain_len l;unfold aD at this
    rw[this]
    exactλq=>hne (Op.mp q))
  ·exact z
 refine⟨gS h,λz=>hne (Op.mp (by rw[<- plain_len,z];rfl)),hp,?_⟩;unfold aD cz;split
 ·rw[zk];omega
 ·omega
theorem bM{a b:Ex}(ha:a≠[])(hb:b≠[]):(af a b).length=a.length+b.length-1:=by unfold af;rw[if_neg (λz=>z.elim ha hb),MI,N2]
theorem sM{a b:Ex}(ha:a≠[])(hb:b≠[]):al (af a b)=al a*al b:=by
 have h1:=MR.mpr ha;have h2:=MR.mpr hb;unfold al;rw[bM ha hb,aJ];have e:a.length+b.length-1-1=(a.length-1)+(b.length-1):=by omega
 rw[e,se (by omega) (by omega)]
theorem Pln.mul{a b:Ex}(ha:Pln a)(hb:Pln b):Pln (af a b):=by
 refine⟨lP ha.tr hb.tr,λz=>?_,Et ha.prim hb.prim,by rw[sM ha.ne hb.ne];exact ML ha.pos hb.pos⟩;have h1:=MR.mpr ha.ne;have h2:=MR.mpr hb.ne;have:=bM ha.ne hb.ne;rw[z]at this;simp at this
 omega
theorem yh{p q d:Ex}{c:Int}(hc:c≠0)(hp:Tr p)(hpn:p≠[])(hq:Tr q)(hd:Pln d)(h:∀n,c*cf p n=aw q d n):af (aD q) d=aD p:=by
 have hqn:q≠[]:=λz=>by have h1:=MR.mpr hpn;have h2:=h (p.length-1);rw[z,dY]at h2;exact M0 hc (hp (p.length-1) (by omega)) h2
 obtain⟨g,hg,e⟩:=jt hq;have hm:=(eU hq hqn).mul hd;rw[<- hm.plain];refine Ez hg hc hm.tr hp λk=>?_
 rw[h,aJ,dZ (a:=aD q) (b:=[]) (x:=g) (y:=0) (c:=q) (λk=>by rw[e];simp),dY];simp
theorem Dv.trim{d p:Ex}(h:Dv d p):∃(c:Int) (q:Ex),c≠0/\Tr q/\∀n,c*cf p n=aw q d n:=by obtain⟨c,q,hc,e⟩:=h;exact⟨c,RM.trim q,hc,fh q,λn=>by rw[e];exact(m8 (λk=>gN q k) λ_=>rfl).symm⟩
theorem Dv.fellow{d p:Ex}(hd:Pln d)(hp:Tr p)(hpn:p≠[])(h:Dv d p):∃q,Pln q/\af q d=aD p:=by
 obtain⟨c,q,hc,hq,e⟩:=h.trim
 have hqn:q≠[]:=λz=>by have h1:=MR.mpr hpn;have h2:=e (p.length-1);rw[z,dY]at h2;exact M0 hc (hp (p.length-1) (by omega)) h2
 exact⟨aD q,eU hq hqn,yh hc hp hpn hq hd e⟩
theorem Pln.const{l:Ex}(h:Pln l)(h1:l.length=1):l=[1]:=by
 obtain⟨x,rfl⟩:∃x,l=[x]:=List.length_eq_one_iff.mp h1;have h2:=h.prim;rw[Ij]at h2;have h3:0<x:=h.pos;have:x=1:=by omega
 rw[this]
theorem one_mul(l:Ex)(h:Tr l):af [1] l=l:=by
 refine lf (lP (tr_snoc (r:=[]).mpr (by decide)) h) h λk=>?_
 rw[aJ,fD];omega
theorem rM{a b:Ex}(ha:Pln a)(hb:Pln b)(h1:Dv a b)(h2:Dv b a):a=b:=by obtain⟨q,hq,e⟩:=h1.fellow ha hb.tr hb.ne;obtain⟨r,hr,e'⟩:=h2.fellow hb ha.tr ha.ne;rw[hb.plain]at e;rw[ha.plain]at e';have l1:=bM hq.ne ha.ne;have l2:=bM hr.ne hb.ne;rw[e]at l1;rw[e']at l2;have p1:=MR.mpr hq.ne;have p2:=MR.mpr hr.ne;have p3:=MR.mpr ha.ne;have hq1:=hq.const (by omega);rw[hq1,one_mul a ha.tr]at e;exact e
theorem Dv.short{d r:Ex}(hd:d≠[])(hdt:Tr d)(hr:Tr r)(hl:r.length<d.length)(h:Dv d r):r=[]:=by
 obtain⟨c,q,hc,e⟩:=h;have z:=yQ hd hdt (d:=q) λn hn=>by rw[<- e,ck (by omega),M8]
 refine r8 hr λk=>?_
 have h1:=e k;rw[sd z]at h1;exact(NM.mp h1).resolve_left hc
theorem Dv.rest{d p:Ex}(hd:d≠[])(hdt:Tr d)(h:Dv d p):aM p d=[] :=
 Dv.short hd hdt (fL _ _) (gL hd) (Dv.down (λn=>ia (a:=p) hd n) h (Dv.refl d))
theorem Dv.mul_right(a b:Ex):Dv b (af a b):=⟨1,a,by decide,λn=>by rw[aJ];omega⟩
theorem Dv.mul_left(a b:Ex):Dv a (af a b):=⟨1,b,by decide,λn=>by rw[aJ,gz];omega⟩
theorem J9{l1 l2 r1 r2 pl pc a1 a2 c1 c2 x1 x2:Int}(ha:0<a2)(hc:0<c2)(e1:a1*pc=pl*a2)(e2:c1*(r2*a2)=r1*a1*c2)(e3:x1*(l2*c2)=(l1*c2+c1*l2)*x2) :
 x1*(l2*r2*pc)=(l1*r2*pc+r1*l2*pl)*x2:=by
 have h0:c2*a2≠0:=Nk (ML hc ha);refine OA h0 ?_
 calc x1*(l2*r2*pc)*(c2*a2)=x1*(l2*c2)*(r2*pc*a2):=by grind
  _=(l1*c2+c1*l2)*x2*(r2*pc*a2):=by rw[e3]
  _=x2*(l1*c2*r2*pc*a2+l2*pc*(c1*(r2*a2))):=by grind
  _=x2*(l1*c2*r2*pc*a2+l2*pc*(r1*a1*c2)):=by rw[e2]
  _=x2*c2*(l1*r2*pc*a2+l2*r1*(a1*pc)):=by grind
  _=x2*c2*(l1*r2*pc*a2+l2*r1*(pl*a2)):=by rw[e1]
  _=(l1*r2*pc+r1*l2*pl)*x2*(c2*a2):=by grind
theorem JY{l r:Int}(hl:0<l)(hr:0<r){g:Nat}(hg:g=Nat.gcd l.natAbs r.natAbs):∃l' r':Int,0<l'/\0<r'/\(0:Int)<g/\l=g*l'/\r=g*r'/\l*r/g=l*r'/\l*r'/l=r'/\l*r'/r=l'/\0<l*r':=by
 have g0:0<g:=by rw[hg];exact Nat.gcd_pos_of_pos_left _ (by omega)
 have gi:(0:Int)<g:=by omega
 obtain⟨l',hl'⟩:(g:Int)∣l:=O1.mp (by rw[Nm,hg];exact Oc _ _);obtain⟨r',hr'⟩:(g:Int)∣r:=O1.mp (by rw[Nm,hg];exact Oy _ _);have l0:0<l':=Ph (a:=(g:Int)) (by rw[M8,<- hl'];exact hl) (MN gi);have r0:0<r':=Ph (a:=(g:Int)) (by rw[M8,<- hr'];exact hr) (MN gi);refine⟨l',r',l0,r0,gi,hl',hr',?_,?_,?_,ML hl r0⟩
 ·have e:l*r=(l*r')*g:=by
   calc l*r=l*(g*r'):=by rw[<- hr']
    _=(l*r')*g:=by grind
  rw[e];exact Int.mul_ediv_cancel _ (Nk gi)
 ·exact Int.mul_ediv_cancel_left _ (Nk hl)
 ·have e:l*r'=l'*r:=by
   calc l*r'=(g*l')*r':=by rw[<- hl']
    _=l'*(g*r'):=by grind
    _=l'*r:=by rw[<- hr']
  rw[e];exact Int.mul_ediv_cancel _ (Nk hr)
noncomputable def cu:Ex->Ex
 | []=>[]
 |v::l=>2^l.length*v::cu l
theorem lY:∀l,(cu l).length=l.length
 | []=>rfl
 |v::l=>by show(cu l).length+1=_;rw[lY l];rfl
theorem zE(p q:Int):∀l,2*hv p q (cu l)=hv p (2*q) l
 | []=>by show 2*0=(0:Int);rfl
 |v::l=>by have ih:=zE p q l;show 2*(2^l.length*v*q^((cu l).length+1)+p*hv p q (cu l))=v*(2*q)^(l.length+1)+p*hv p (2*q) l;rw[lY,<- ih,Int.mul_pow,Nf 2];grind
noncomputable def suf:Ex->Ex
 | []=>[]
 |v::l=>(v+(suf l).headD 0)::suf l
theorem jb:∀l,(suf l).length=l.length
 | []=>rfl
 |v::l=>by show(suf l).length+1=_;rw[jb l];rfl
theorem vO(p q:Int):∀l,hv (p+q) q l=(suf l).headD 0*q^l.length+p*hv (p+q) q ((suf l).tail)
 | []=>by show(0:Int)=0*q^0+p*0;omega
 |v::l=>by
  have ih:=vO p q l;show v*q^(l.length+1)+(p+q)*hv (p+q) q l=(v+(suf l).headD 0)*q^(l.length+1)+p*hv (p+q) q (suf l);cases hs:suf l with
  |nil =>
   have hl:l=[]:=by have:=jb l;rw[hs]at this;exact Os this.symm
   subst hl;show v*q^1+(p+q)*0=(v+0)*q^1+p*0;grind
  |cons g r =>
   rw[hs]at ih;have hl:r.length+1=l.length:=by have:=jb l;rw[hs]at this;exact this
   have ih':hv (p+q) q l=g*q^l.length+p*hv (p+q) q r:=ih;show v*q^(l.length+1)+(p+q)*hv (p+q) q l=(v+g)*q^(l.length+1)+p*(g*q^(r.length+1)+(p+q)*hv (p+q) q r);rw[ih',hl,Nf];grind
noncomputable def dH:Nat->Ex->Ex
 |0,m=>suf m
 |_+1,[]=>[]
 |i+1,c::m=>c::dH i m
theorem rR:∀(i:Nat) (m:Ex),(dH i m).length=m.length
 |0,m=>jb m
 |_+1,[]=>rfl
 |i+1,c::m=>by show(dH i m).length+1=_;rw[rR i m];rfl
noncomputable def fF(p q:Int):Nat->Ex->Int
 |0,m=>hv (p+q) q m
 |_+1,[]=>0
 |i+1,c::m=>c*q^(m.length+1)+p*fF p q i m
theorem y3(p q:Int):∀(i:Nat) (m:Ex),fF p q (i+1) (dH i m)=fF p q i m
 |0,m=>by
  show fF p q 1 (suf m)=hv (p+q) q m;rw[vO];cases hs:suf m with
  |nil =>show(0:Int)=0*q^m.length+p*hv (p+q) q [];rw[nG];omega
  |cons g r =>
   have hl:r.length+1=m.length:=by have:=jb m;rw[hs]at this;exact this
   show g*q^(r.length+1)+p*hv (p+q) q r=g*q^m.length+p*hv (p+q) q r;rw[hl]
 |i+1,[]=>rfl
 |i+1,c::m=>by show c*q^((dH i m).length+1)+p*fF p q (i+1) (dH i m)=c*q^(m.length+1)+p*fF p q i m;rw[y3 p q i m,rR]
theorem y6(p q:Int):∀(i:Nat) (m:Ex),m.length<=i+1->fF p q i m=hv p q m
 |0,[],_=>rfl
 |0,[c],_=>by show c*q^1+(p+q)*0=c*q^1+p*0;omega
 |0,_::_::_,h=>absurd h (by simp)
 |_+1,[],_=>rfl
 |i+1,c::m,h=>by show c*q^(m.length+1)+p*fF p q i m=c*q^(m.length+1)+p*hv p q m;rw[y6 p q i m (by simpa using h)]
noncomputable def eY:Nat->Ex->Ex
 |0,l=>l
 |i+1,l=>dH i (eY i l)
theorem nc:∀(i:Nat) (l:Ex),(eY i l).length=l.length
 |0,_=>rfl
 |i+1,l=>by show(dH i (eY i l)).length=_;rw[rR,nc i l]
theorem y4(p q:Int):∀(i:Nat) (l:Ex),fF p q i (eY i l)=hv (p+q) q l
 |0,_=>rfl
 |i+1,l=>by show fF p q (i+1) (dH i (eY i l))=_;rw[y3,y4 p q i l]
noncomputable def kQ(l:Ex):Ex:=eY (l.length-1) l
theorem yZ(l:Ex):(kQ l).length=l.length:=nc _ _
theorem HR(p q:Int)(l:Ex):hv p q (kQ l)=hv (p+q) q l:=by rw[<- y4 p q (l.length-1) l];exact(y6 p q (l.length-1) _ (by rw[yZ];omega)).symm
theorem zC:∀l:Ex,hv 1 1 l=l.sum
 | []=>rfl
 |v::l=>by show v*1^(l.length+1)+1*hv 1 1 l=v+l.sum;rw[zC l,Int.one_pow];omega
noncomputable def bT(m s0 s1:Int):Ex->Ex
 | []=>[]
 |v::l=>mb (-s0) s1 (v*m^l.length) (bT m s0 s1 l)
theorem jc(m s0 s1:Int):∀l,(bT m s0 s1 l).length=l.length
 | []=>rfl
 |v::l=>by show(mb _ _ _ _).length=_;rw[nq,jc m s0 s1 l];rfl
theorem zD(m s0 s1 p q:Int):∀l,m*hv p q (bT m s0 s1 l)=hv (s0*q+s1*p) (m*q) l
 | []=>by show m*0=(0:Int);omega
 |v::l=>by have ih:=zD m s0 s1 p q l;show m*hv p q (mb (-s0) s1 (v*m^l.length) (bT m s0 s1 l))=v*(m*q)^(l.length+1)+(s0*q+s1*p)*hv (s0*q+s1*p) (m*q) l;rw[zG,jc,<- ih,Int.mul_pow,Nf m];grind
theorem vP(m s0 s1:Int):∀l,cf (bT m s0 s1 l) (l.length-1)=cf l (l.length-1)*s1^(l.length-1)
 | []=>by show(0:Int)=0*_;omega
 | [v]=>by show cf (mb (-s0) s1 (v*m^0) []) 0=v*s1^0;rw[iX,if_pos rfl,cj,NQ,NQ];omega
 |v::u::l=>by have ih:=vP m s0 s1 (u::l);show cf (mb (-s0) s1 _ (bT m s0 s1 (u::l))) (l.length+1)=cf (u::l) l.length*s1^(l.length+1);rw[iX,if_neg (by omega)];have e1:cf (bT m s0 s1 (u::l)) (l.length+1)=0:=ck (by rw[jc];exact MJ _);have e2:cf (bT m s0 s1 (u::l)) (l.length+1-1)=cf (u::l) l.length*s1^l.length:=ih;rw[e1,e2,Nf];grind
theorem dQ{x p:Int}(hp:0<p):sg (p*x)=sg x:=by rw[Nj];exact pF hp
noncomputable def sgq(u v d:Int):Int :=
 if 0<=u/\0<=v then(if 0<u\/0<v then 1 else 0)
 else if u<=0/\v<=0 then -1
 else if 0<u then(if u*u<d*v*v then -1 else 1)
 else(if u*u>d*v*v then -1 else 1)
def NSq(d:Int):Prop:=0<d/\∀a b:Int,b≠0->a*a≠d*b*b
theorem Gy(n d:Nat)(h1:n*n<d)(h2:d<(n+1)*(n+1)):∀b a:Nat,0<b->a*a≠d*(b*b):=by
 intro b
 induction b using Nat.strongRecOn with
 |ind b ih =>
  intro a hb e
  have l1:n*b<a:=by
   refine Classical.byContradiction λz=>?_
   have z':a<=n*b:=by omega
   have h3:=N4 z' z';have h4:n*n*(b*b)<d*(b*b):=Nat.mul_lt_mul_of_pos_right h1 (Nat.mul_pos hb hb);have e2:n*b*(n*b)=n*n*(b*b):=by grind
   omega
  have l2:a<(n+1)*b:=by
   refine Classical.byContradiction λz=>?_
   have z':(n+1)*b<=a:=by omega
   have h3:=N4 z' z';have h4:d*(b*b)<(n+1)*(n+1)*(b*b):=Nat.mul_lt_mul_of_pos_right h2 (Nat.mul_pos hb hb);have e2:(n+1)*b*((n+1)*b)=(n+1)*(n+1)*(b*b):=by grind
   omega
  have e3:(n+1)*b=n*b+b:=by grind
  obtain⟨c,hc⟩:∃c,a=n*b+c:=⟨a-n*b,by omega⟩;have hc0:0<c:=by omega
  have hcb:c<b:=by omega
  have l3:n*a<=d*b:=by
   have h5:n*a*a<=d*b*a:=by
    have h6:n*(a*a)=n*(d*(b*b)):=by rw[e]
    have h7:n*b*(d*b)<=a*(d*b):=Nz _ (Ov l1);have e4:n*a*a=n*(a*a):=by grind
    have e5:n*(d*(b*b))=n*b*(d*b):=by grind
    have e6:d*b*a=a*(d*b):=by grind
    omega
   exact Nat.le_of_mul_le_mul_right h5 (by omega)
  obtain⟨f,hf⟩:∃f,d*b=n*a+f:=⟨d*b-n*a,by omega⟩;refine ih c hcb f hc0 ?_
  have e7:(f:Int)=(d:Int)*b-n*a:=by have:=congrArg (λz:Nat=>(z:Int)) hf;simp only[Int.natCast_add,NK]at this;omega
  have e8:(c:Int)=(a:Int)-n*b:=by have:=congrArg (λz:Nat=>(z:Int)) hc;simp only[Int.natCast_add,NK]at this;omega
  have e9:(a:Int)*a=d*(b*b):=by have:=congrArg (λz:Nat=>(z:Int)) e;simp only[NK]at this;exact this
  have e10:(f:Int)*f=d*(c*c):=by
   rw[e7,e8];have:((d:Int)*b-n*a)*(d*b-n*a)-d*((a-n*b)*(a-n*b))=(d*(b*b)-a*a)*(d-n*n):=by grind
   rw[e9,Int.sub_self,Nn]at this;omega
  have e11:((f*f:Nat):Int)=((d*(c*c):Nat):Int):=by simp only[NK];exact e10
  exact Int.ofNat.inj e11
theorem g7{n d:Nat}(h1:n*n<d)(h2:d<(n+1)*(n+1)):NSq d:=by
 refine⟨by omega,λa b hb e=>?_⟩;refine Gy n d h1 h2 b.natAbs a.natAbs (by omega) ?_;have e1:((a.natAbs*a.natAbs:Nat):Int)=a*a:=Int.natAbs_mul_self;have e2:((b.natAbs*b.natAbs:Nat):Int)=b*b:=Int.natAbs_mul_self
 have:((a.natAbs*a.natAbs:Nat):Int)=((d*(b.natAbs*b.natAbs):Nat):Int):=by rw[NK (d) _,e1,e2,e,Ng]
 exact Int.ofNat.inj this
theorem xq(u v d:Int):sgq u v d=1\/sgq u v d=0\/sgq u v d = -1:=by
 unfold sgq;split
 ·split
  ·exact .inl rfl
  ·exact .inr (.inl rfl)
 ·split
  ·exact .inr (.inr rfl)
  ·split<;>split<;>simp
theorem fZ{u v d:Int}(hu:0<=u)(hv:0<=v)(h:0<u\/0<v):sgq u v d=1:=by unfold sgq;rw[if_pos ⟨hu,hv⟩,if_pos h]
theorem gW{u v d:Int}(hu:u<=0)(hv:v<=0)(h:u<0\/v<0):sgq u v d = -1:=by unfold sgq;rw[if_neg (by omega),if_pos ⟨hu,hv⟩]
theorem iz{u v d:Int}(hu:0<u)(hv:v<0):sgq u v d=if u*u<d*v*v then -1 else 1:=by unfold sgq;rw[if_neg (by omega),if_neg (by omega),if_pos hu]
theorem iA{u v d:Int}(hu:u<0)(hv:0<v):sgq u v d=if u*u>d*v*v then -1 else 1:=by unfold sgq;rw[if_neg (by omega),if_neg (by omega),if_neg (by omega)]
theorem pD(d:Int):sgq 0 0 d=0:=rfl
theorem nC(u v:Int):(u=0/\v=0)\/(0<=u/\0<=v/\(0<u\/0<v))\/(u<=0/\v<=0/\(u<0\/v<0))\/(0<u/\v<0)\/(u<0/\0<v):=by omega
theorem fi{g u v d:Int}(hg:0<g):sgq (g*u) (g*v) d=sgq u v d:=by
 have hp:∀x:Int,0<x->0<g*x:=λx h=>ML hg h
 have hn:∀x:Int,x<0->g*x<0:=λx h=>Pd hg h
 have hz:∀x:Int,0<=x->0<=g*x:=λx h=>MZ (MN hg) h
 have hy:∀x:Int,x<=0->g*x<=0:=λx h=>Int.mul_nonpos_of_nonneg_of_nonpos (MN hg) h
 have gg:0<g*g:=ML hg hg;have e1:g*u*(g*u)=u*u*(g*g):=by grind
 have e2:d*(g*v)*(g*v)=d*v*v*(g*g):=by grind
 rcases nC u v with⟨rfl,rfl⟩ |⟨a,b,c⟩ |⟨a,b,c⟩ |⟨a,b⟩ |⟨a,b⟩
 ·rw[M8]
 ·rw[fZ a b c,fZ (hz _ a) (hz _ b) (c.elim (λz=>.inl (hp _ z)) (λz=>.inr (hp _ z)))]
 ·rw[gW a b c,gW (hy _ a) (hy _ b) (c.elim (λz=>.inl (hn _ z)) (λz=>.inr (hn _ z)))]
 ·rw[iz a b,iz (hp _ a) (hn _ b),e1,e2];by_cases z:u*u<d*v*v
  ·rw[if_pos z,if_pos (NO z gg)]
  ·rw[if_neg z,if_neg (λy=>z (Od y (MN gg)))]
 ·rw[iA a b,iA (hn _ a) (hp _ b),e1,e2];by_cases z:u*u>d*v*v
  ·rw[if_pos z,if_pos (NO z gg)]
  ·rw[if_neg z,if_neg (λy=>z (Od y (MN gg)))]
theorem GK{t h v:Int}{T X V:Nat}(ht:t.natAbs=T)(hh:X<=h.natAbs)(hv:v.natAbs<=V):T*X<=(v+t*h).natAbs+V:=by subst ht;have e1:t.natAbs*h.natAbs=(t*h).natAbs:=(MY t h).symm;have e2:t.natAbs*X<=t.natAbs*h.natAbs:=Oe _ hh;have e3:=OM (v+t*h) v;rw[NV v,Int.add_sub_cancel,NV _ v]at e3;rw[e1]at e2;exact MV e2 (MV e3 (Nat.add_le_add_left hv _))
theorem AO{B n:Nat}{t:Int}(hn:0<n)(hB:1<=B)(ht:B*n<=t.natAbs)(z:Int):∀os:Ex,(∀x∈os,x.natAbs<=(B-1)*z.natAbs)->z.natAbs*n^(os.length+1)<=(hv t n (os++[z])).natAbs
 | [],_=>by show z.natAbs*n^1<=(z*(n:Int)^1+t*0).natAbs;rw[M8,NE,MY,O3,Nm];exact MJ _
 |v::os,h=>by
  have ih:=AO hn hB ht z os (λx hx=>h x (MK _ hx));have hvv:=h v (MP ..);rw[List.cons_append,dz]
  have e1:(v*(n:Int)^((os++[z]).length+1)).natAbs<=(B-1)*z.natAbs*n^(os.length+2):=by
   rw[MY,O3,Nm];have:(os++[z]).length+1=os.length+2:=by simp
   rw[this];exact Nz _ hvv
  have e2:=GK (t:=t) rfl ih e1;have e3:B*n*(z.natAbs*n^(os.length+1))<=t.natAbs*(z.natAbs*n^(os.length+1)):=Nz _ ht;have e4:(v::os).length+1=os.length+2:=by simp
  rw[e4];have e5:n^(os.length+2)=n*n^(os.length+1):=by rw[On,Oa]
  rw[e5]at e2 ⊢;generalize n^(os.length+1)=p at *
  generalize (v*(n:Int)^((os++[z]).length+1)+t*hv t n (os++[z])).natAbs=W at *
  obtain⟨C,rfl⟩:∃C,B=C+1:=⟨B-1,by omega⟩
  have e6:(C+1)*n*(z.natAbs*p)=C*z.natAbs*(n*p)+z.natAbs*(n*p):=by grind
  have e7:C+1-1=C:=rfl;rw[e7]at e2;omega
theorem sW{t n x y:Int}:∀(a b c:Ex),a.length=c.length->b.length=c.length->(∀k,cf c k=x*cf a k+y*cf b k)->hv t n c=x*hv t n a+y*hv t n b
 | [],[],[],_,_,_=>by simp[nG]
 |u::a,v::b,w::c,ha,hb,h=>by
  have h0:w=x*u+y*v:=h 0;have ih:=sW (t:=t) (n:=n) (x:=x) (y:=y) a b c (by simpa using ha) (by simpa using hb) (λk=>h (k+1));have la:a.length=c.length:=by simpa using ha
  have lb:b.length=c.length:=by simpa using hb
  rw[dz,dz,dz,ih,h0,la,lb];generalize n^(c.length+1)=p;grind
 | [],_::_,[],_,h,_=>by simp at h
 |_::_,_,[],h,_,_=>by simp at h
 | [],_,_::_,h,_,_=>by simp at h
 |_::_,[],_::_,_,h,_=>by simp at h
theorem zF(t n g:Int)(l:Ex):hv t n (scL g l)=g*hv t n l:=by have:=sW (t:=t) (n:=n) (x:=g) (y:=0) l l (scL g l) (by rw[b9]) (by rw[b9]) (λk=>by rw[bh];simp);rw[this];simp
theorem zB(t n:Int):∀(k:Nat) (l:Ex),hv t n (l++List.replicate k 0)=n^k*hv t n l
 |k,[]=>by
  rw[List.nil_append,nG,M8]
  induction k with
  |zero=>rfl
  |succ k ih=>rw[Ol,dz,ih];simp
 |k,v::l=>by
  rw[List.cons_append,dz,zB t n k l,dz];have:(l++List.replicate k (0:Int)).length+1=l.length+1+k:=by simp;omega
  rw[this,Int.pow_add];generalize n^(l.length+1)=p;generalize n^k=q;grind
theorem JP(l:Ex)(k j:Nat):cf (l++List.replicate k 0) j=cf l j:=by
 by_cases h:j<l.length
 ·rw[AM h]
 ·rw[lw (by omega),lu,ck (by omega)]
theorem nI(t n:Int){b:Ex}(hb:b≠[]):∀{a:Ex},a≠[]->n*hv t n (af a b)=hv t n a*hv t n b
 | [x],_=>by
  have e:af [x] b=scL x b:=by
   apply dO
   ·rw[bM (by simp) hb,b9];simp
   ·intro k _;rw[aJ,fD,bh]
  rw[e,zF,kZ];grind
 |x::y::a,_=>by
  have ih:=nI t n hb (a:=y::a) (by simp);have lm:(af (x::y::a) b).length=(y::a).length+b.length:=by rw[bM (by simp) hb,Nh];omega
  have lm2:(af (y::a) b).length+1=(y::a).length+b.length:=by rw[bM (by simp) hb];have:=MR.mpr hb;rw[Nh];omega
  have e:=sW (t:=t) (n:=n) (x:=x) (y:=1) (b++List.replicate (y::a).length 0) (0::af (y::a) b) (af (x::y::a) b) (by rw[lm,MX,Pa];omega) (by rw[lm,Nh,lm2])
   (λk=>by rw[aJ,dJ,JP,n5];rw[Ni];congr 1;unfold up;split<;>first |rfl |rw[aJ])
  rw[e,zB,dz (v:=0),dz (v:=x)];have:n*(x*(n^(y::a).length*hv t n b)+1*(0*n^((af (y::a) b).length+1)+t*hv t n (af (y::a) b)))=x*(n^(y::a).length*n)*hv t n b+t*(n*hv t n (af (y::a) b)):=by grind
  rw[this,ih,<- Nf];grind
noncomputable def pr(t n:Int):List Ex->Int
 | []=>1
 |s::ss=>hv t n s*pr t n ss
noncomputable def sl:List Ex->Nat
 | []=>0
 |s::ss=>s.length+sl ss
theorem jB{a b:Ex}(ha:a≠[])(hb:b≠[]):af a b≠[]:=λz=>by have:=bM ha hb;rw[z]at this;have h1:=MR.mpr ha;have h2:=MR.mpr hb;rw[OZ]at this;omega
noncomputable def aO(acc:Ex)(ss:List Ex):Ex:=ss.foldl af acc
theorem jq:∀(ss:List Ex) (acc:Ex),acc≠[]->Tr acc->(∀s∈ss,s≠[]/\Tr s)->aO acc ss≠[]/\Tr (aO acc ss)/\(aO acc ss).length+ss.length=acc.length+sl ss
 | [],acc,h1,h2,_=>⟨h1,h2,by simp[aO,sl]⟩
 |s::ss,acc,h1,h2,h3=>by have hs:=h3 s (MP ..);obtain⟨a,b,c⟩:=jq ss (af acc s) (jB h1 hs.1) (lP h2 hs.2) (λx hx=>h3 x (MK _ hx));refine⟨a,b,?_⟩;have l:=bM h1 hs.1;have p1:=MR.mpr h1;have p2:=MR.mpr hs.1;show(aO (af acc s) ss).length+(ss.length+1)=acc.length+(s.length+sl ss);omega
theorem nF(t n:Int):∀(ss:List Ex) (acc:Ex),acc≠[]->(∀s∈ss,s≠[])->n^ss.length*hv t n (aO acc ss)=hv t n acc*pr t n ss
 | [],acc,_,_=>by show n^0*hv t n acc=hv t n acc*1;simp
 |s::ss,acc,h1,h3=>by have hs:=h3 s (MP ..);have ih:=nF t n ss (af acc s) (jB h1 hs) (λx hx=>h3 x (MK _ hx));have e:=nI t n hs h1;show n^(ss.length+1)*hv t n (aO (af acc s) ss)=hv t n acc*(hv t n s*pr t n ss);rw[Nf,Nj _ n,Ng,ih,<- Ng,e,Ng]
theorem IS{c:Int}{ss:List Ex}{B n:Nat}{t:Int}(hc:c≠0)(hs:∀s∈ss,s≠[]/\Tr s)(hB:1<=B)
 (hb:∀x∈(af [c] (aO [1] ss)).take ((af [c] (aO [1] ss)).length-1),x.natAbs<=(B-1)*(al (af [c] (aO [1] ss))).natAbs) (hn:0<n) (ht:B*n<=t.natAbs):n^sl ss<=(pr t n ss).natAbs:=by
 obtain⟨p1,p2,p3⟩:=jq ss [1] (by simp) (by intro k hk;have:k=0:=by simpa using hk.symm
                                           subst this;decide) hs
 have hm:=nF t n ss [1] (by simp) (λs h=>(hs s h).1);generalize aO [1] ss=Pr at *
 have hne:af [c] Pr≠[]:=jB (by simp) p1;have hl:=sM (a:=[c]) (b:=Pr) (by simp) p1;have hlen:=bM (a:=[c]) (b:=Pr) (by simp) p1;have hv1:=nI t n p1 (a:=[c]) (by simp);obtain⟨os,z,e⟩:=(cO (af [c] Pr)).resolve_left hne;rw[e]at hb hl hv1 hlen;rw[di]at hb hl;have ht2:(os++[z]).take ((os++[z]).length-1)=os:=by simp
 rw[ht2]at hb;have hcau:=AO hn hB ht z os hb;have hlp:al Pr≠0:=zj p2 p1;have hz:z=c*al Pr:=hl;rw[kZ]at hv1;have hn0:(n:Int)≠0:=by omega
 have e2:hv t n (os++[z])=c*hv t n Pr:=by refine Pi hn0 ?_;rw[hv1];grind
 rw[e2,hz,MY,MY,Nat.mul_assoc]at hcau;have hc1:0<c.natAbs:=Oq.mpr hc;have h4:=Pj hcau hc1;have h5:1*n^(os.length+1)<=(al Pr).natAbs*n^(os.length+1):=Nz _ (Oq.mpr hlp);have h6:os.length+1=Pr.length:=by simp at hlen;omega
 rw[h6]at h4 h5;have h7:n^Pr.length<=(hv t n Pr).natAbs:=by omega
 have h8:(n^ss.length*n^Pr.length)<=n*(pr t n ss).natAbs:=by
  have h9:=Oe (n^ss.length) h7
  have h10:n^ss.length*(hv t n Pr).natAbs=n*(pr t n ss).natAbs:=by have:=congrArg Int.natAbs hm;rw[MY,O3,Nm,kZ,Ni,MY,Nm]at this;exact this
  omega
 rw[<- Nat.pow_add]at h8;have h11:ss.length+Pr.length=sl ss+1:=by simp at p3;omega
 rw[h11,On,Oa]at h8;exact Pj h8 hn
theorem lU{r:Ex}(h:Tr r):cD [] r=scL (-1) r:=by
 refine lf (fh _) (jY (by decide) h) λk=>?_
 unfold cD;rw[gN,ie,bh,cj];omega
theorem Jw{a b:Ex}(hb:b≠[])(hbt:Tr b):0<bY a b:=by
 have h:=lg (a:=a) hb hbt
 have h2:0<=bY a b:=by
  unfold bY;generalize aX a b=n
  induction n with
  |zero=>rw[NQ];decide
  |succ n ih=>rw[Nf];exact MZ ih (Pe _)
 omega
theorem xO{n:Nat}{one:Ex}(h:one≠[])(hn:0<n):bj n one []=[one]:=by obtain⟨m,rfl⟩:∃m,n=m+1:=⟨n-1,by omega⟩;show(if one=[]then[]else one::bj m [] (nxt one []))=_;rw[if_neg h,kz]
noncomputable def Ends:Nat->Ex->Ex->Prop
 |0,one,_=>one=[]
 |n+1,one,other=>one=[]\/Ends n other (nxt one other)
noncomputable def gr(B:Nat):Nat->Nat
 |0=>B
 |1=>2*B
 |k+2=>2*gr B (k+1)+gr B k
theorem Ia(B:Nat):∀k,gr B k<=gr B (k+1)
 |0=>by show B<=2*B;omega
 |k+1=>by show gr B (k+1)<=2*gr B (k+1)+gr B k;omega
theorem fK(B:Nat){j k:Nat}(h:j<=k):gr B j<=gr B k:=by
 induction h with
 |refl=>exact MJ _
 |step _ ih=>exact MV ih (Ia B _)
theorem sX(B j:Nat):∀d,gr B j+(d+2)*gr B (j+1)<=gr B (j+2+d)
 |0=>by show gr B j+2*gr B (j+1)<=2*gr B (j+1)+gr B j;omega
 |d+1=>by
  have ih:=sX B j d
  have e:gr B (j+2+(d+1))=2*gr B (j+2+d)+gr B (j+1+d):=by
   have:j+2+(d+1)=(j+1+d)+2:=by omega
   rw[this];show 2*gr B (j+1+d+1)+gr B (j+1+d)=_;have e2:j+1+d+1=j+2+d:=by omega
   rw[e2]
  have hm:gr B (j+1)<=gr B (j+1+d):=fK B (by omega);rw[e,OB]at *;have e3:(d+1)*gr B (j+1)=d*gr B (j+1)+gr B (j+1):=by rw[OB,Nat.one_mul]
  omega
theorem gA(a:Ex):af [] a=[]:=by unfold af;rw[if_pos (.inl rfl)]
theorem g8(a:Ex):af a []=[]:=by unfold af;rw[if_pos (.inr rfl)]
theorem kN(a b:Ex):af a b=af b a:=by
 by_cases ha:a=[]
 ·rw[ha,gA,g8]
 by_cases hb:b=[]
 ·rw[hb,gA,g8]
 refine dO ?_ λk _=>?_
 ·rw[bM ha hb,bM hb ha];omega
 ·rw[aJ,aJ,gz]
theorem jA{a b:Ex}(ha:a≠[])(hb:b≠[]):af a b≠[]:=λz=>by have:=bM ha hb;rw[z,OZ]at this;have:=MR.mpr ha;have:=MR.mpr hb;omega
theorem kO(a b c:Ex):af (af a b) c=af a (af b c):=by
 by_cases ha:a=[]
 ·rw[ha,gA,gA,gA]
 by_cases hb:b=[]
 ·rw[hb,gA,g8,gA]
 by_cases hc:c=[]
 ·rw[hc,g8,g8,g8]
 have h1:=jA ha hb;have h2:=jA hb hc;refine dO ?_ λk _=>?_
 ·have:=MR.mpr hb;rw[bM h1 hc,bM ha h2,bM ha hb,bM hb hc];obtain⟨y,ey⟩:=Nat.exists_eq_succ_of_ne_zero (Nat.ne_of_gt this);rw[ey,Nat.succ_add,Nat.add_succ,Nat.succ_sub_one,Nat.succ_sub_one,Nat.add_assoc]
 ·rw[aJ,aJ,jz]
instance:Std.Commutative af:=⟨kN⟩
instance:Std.Associative af:=⟨kO⟩
theorem kP(a:Ex):af [1] a=a:=by
 by_cases ha:a=[]
 ·rw[ha,g8]
 refine dO ?_ λk _=>?_
 ·rw[bM (by simp) ha];simp
 ·rw[aJ,fD];omega
theorem d7(a:Ex):af a [1]=a:=by rw[kN,kP]
theorem pln_one:Pln [1]:=⟨tr_snoc (r:=[]).mpr (by decide),by simp,by decide,by decide⟩
theorem yg{a:Ex}(h:Pln a):1<=a.length:=MR.mpr h.ne
def Sim(a b:Ex):Prop:=∃x y:Int,x≠0/\y≠0/\∀n,x*cf a n=y*cf b n
theorem Sim.refl(a:Ex):Sim a a:=⟨1,1,by decide,by decide,λ_=>rfl⟩
theorem Sim.dv{a b d:Ex}(h:Sim a b)(hd:Dv d b):Dv d a:=by obtain⟨x,y,hx,hy,e⟩:=h;exact Dv.prop_right hx e hd
theorem Sim.symm{a b:Ex}(h:Sim a b):Sim b a:=by obtain⟨x,y,hx,hy,e⟩:=h;exact⟨y,x,hy,hx,λn=>(e n).symm⟩
theorem Dv.cancel{d a b:Ex}(hd:d≠[])(ht:Tr d)(h:Dv (af d a) (af d b)):Dv a b:=by
 obtain⟨c,q,hc,e⟩:=h
 have key:∀k,cf (dM (-1) (scL c b) (af q a)) k=0:=by
  refine yQ hd ht λn _=>?_
  rw[dZ (a:=b) (b:=af q a) (x:=c) (y := -1) (λk=>by rw[ie,bh])]
  have e1:aw (af q a) d n=aw q (af d a) n:=by
   rw[<- aJ,<- aJ]
   congr 1
   rw[kO,kN a d]
  have e2:=e n;rw[aJ,gz]at e2;rw[e1,<- e2];omega
 refine⟨c,q,hc,λn=>?_⟩;have:=key n;rw[ie,bh,aJ]at this;omega
theorem Ey{d a b:Ex}(hd:Pln d)(ha:Pln a)(hb:Pln b)(h:af d a=af d b):a=b :=
 rM ha hb (Dv.cancel hd.ne hd.tr (h ▸ Dv.refl _)) (Dv.cancel hd.ne hd.tr (h ▸ Dv.refl _))
noncomputable def prd(ss:List Ex):Ex:=ss.foldr af [1]
theorem zR:∀(ss:List Ex) (acc:Ex),ss.foldl af acc=af acc (prd ss)
 | [],acc=>(d7 acc).symm
 |s::ss,acc=>by show ss.foldl af (af acc s)=af acc (af s (prd ss));rw[zR ss,kO]
theorem iG:∀(ss:List Ex),(∀s∈ss,Pln s)->Pln (prd ss)
 | [],_=>pln_one
 |s::ss,h=>(h s (MP ..)).mul (iG ss λx hx=>h x (MK _ hx))
structure Pri(s:Ex):Prop where
 pln:Pln s
 two:2<=s.length
 or:∀a b,Dv s (af a b)->Dv s a\/Dv s b
theorem Pri.not_one{s:Ex}(h:Pri s):¬Dv s [1]:=λz=>by have:=Dv.short h.pln.ne h.pln.tr pln_one.tr (by have:=h.two;show 1<s.length;omega) z;exact absurd this (by simp)
theorem Pri.prd{s:Ex}(h:Pri s):∀ss:List Ex,Dv s (prd ss)->∃t∈ss,Dv s t
 | [],hd=>absurd hd h.not_one
 |t::ss,hd=>by
  rcases h.or t (RM.prd ss) hd with z |z
  ·exact⟨t,MP ..,z⟩
  ·obtain⟨t',ht,z'⟩:=Pri.prd h ss z;exact⟨t',MK _ ht,z'⟩
theorem Pri.same{s t:Ex}(hs:Pri s)(ht:Pri t)(h:Dv s t):s=t:=by
 obtain⟨q,hq,e⟩:=h.fellow hs.pln ht.pln.tr ht.pln.ne;rw[ht.pln.plain]at e;have l:=bM hq.ne hs.pln.ne;rw[e]at l;have:=hs.two;have:=yg hq;rcases ht.or q s (e ▸ Dv.refl _)with z |z
 ·exact absurd (Dv.short ht.pln.ne ht.pln.tr hq.tr (by omega) z) hq.ne
 ·exact rM hs.pln ht.pln h z
theorem nU:∀(ps:List Ex) {E:Ex},(∀p∈ps,Pri p)->Pln E->Dv E (prd ps)->E=[1]\/∃p∈ps,Dv p E
 | [],E,_,hE,h=>by
  refine .inl (hE.const ?_);have:=yg hE;refine Classical.byContradiction λz=>?_
  have:=Dv.short hE.ne hE.tr pln_one.tr (by show 1<E.length;omega) h;exact absurd this (by simp)
 |p::ps,E,hp,hE,h=>by
  obtain⟨c,q,hc,e⟩:=h;have P:=hp p (MP ..)
  have d1:Dv p (af q E):=Dv.prop_right (x:=1) (y:=c) (by decide) (λn=>by
   show 1*cf (af q E) n=c*cf (RM.prd (p::ps)) n
   rw[e,aJ];omega) (Dv.mul_left p (prd ps))
  rcases P.or q E d1 with z |z
  ·obtain⟨c',q',hc',e'⟩:=z
   have d2:Dv (af p E) (af p (prd ps)):=by
    refine⟨c*c',q',M0 hc hc',λn=>?_⟩;have e1:=e n;rw[show af p (prd ps)=RM.prd (p::ps)from rfl]
    have e2:aw (af q' p) E n=c'*aw q E n:=by have:=dZ (a:=q) (b:=[]) (x:=c') (y:=0) (c:=af q' p) (q:=E) (n:=n) (λk=>by rw[aJ,<- e'];simp);rw[this];simp
    rw[<- jz,e2,<- e1,Nj c c',Ng]
   rcases nU ps (λx hx=>hp x (MK _ hx)) hE (Dv.cancel P.pln.ne P.pln.tr d2)with w |⟨t,ht,w⟩
   ·exact .inl w
   ·exact .inr ⟨t,MK _ ht,w⟩
  ·exact .inr ⟨p,MP ..,z⟩
theorem JF{A B C D L M:Ex}{ps:List Ex}(hC:Pln C)(cA:Dv C A)(cB:Dv C B)(call:∀d,Dv d A->Dv d B->Dv d C)(hD:Pln D)(sA:Sim A (af D L))(sB:Sim B (af D M))(hps:∀p∈ps,Pri p)(hL:L=prd ps)(hM:∀p∈ps,¬Dv p M):C=D:=by
 have dC:Dv D C:=call D (sA.dv (Dv.mul_left _ _)) (sB.dv (Dv.mul_left _ _));obtain⟨E,hE,e⟩:=dC.fellow hD hC.tr hC.ne;rw[hC.plain,kN]at e;have EL:Dv E L:=Dv.cancel hD.ne hD.tr (by rw[e];exact sA.symm.dv cA);have EM:Dv E M:=Dv.cancel hD.ne hD.tr (by rw[e];exact sB.symm.dv cB);rw[hL]at EL;rcases nU ps hps hE EL with z |⟨p,hp,z⟩
 ·rw[<- e,z,d7]
 ·exact absurd (z.trans EM) (hM p hp)
theorem yo{A D L:Ex}(hA:Tr A)(hAn:A≠[])(hD:Pln D)(hL:Pln L)(e:aD A=af D L):aM A D=[]/\aD (bV A D)=L:=by
 have dv:Dv D A:=(Dv.plain hA).mp (by rw[e];exact Dv.mul_left _ _);have hr:=dv.rest hD.ne hD.tr;refine⟨hr,?_⟩;have eq:=λn=>ia (a:=A) hD.ne n
 have m:=yh (lg (a:=A) hD.ne hD.tr) hA hAn (uc hD.ne hA hD.tr) hD (λn=>by rw[eq n,hr,cj];omega)
 have hq:bV A D≠[]:=λz=>by rw[z]at m;have:aD []=[]:=rfl;rw[this,gA,e]at m;exact jA hD.ne hL.ne m.symm
 have pq:=eU (uc hD.ne hA hD.tr) hq;refine Ey hD pq hL ?_;rw[kN,m,e]
theorem eJ(l:Ex)(n:Nat):cf (slopeL l) n=((n:Int)+1)*cf l (n+1):=by
 unfold slopeL;rw[lv];by_cases h:n<l.length-1
 ·rw[if_pos h]
 ·rw[if_neg h,ck (l:=l) (by omega),M8]
theorem xh(x:Int)(a:Ex)(n:Nat):cf (slopeL (x::a)) n=1*cf a n+1*cf (0::slopeL a) n:=by
 rw[eJ,nZ,n5];cases n with
 |zero=>show(((0:Nat):Int)+1)*cf a 0=1*cf a 0+1*0;omega
 |succ n =>
  show(((n+1:Nat):Int)+1)*cf a (n+1)=1*cf a (n+1)+1*cf (slopeL a) n;rw[eJ];have:((n+1:Nat):Int)=(n:Int)+1:=by omega
  rw[this,Int.add_mul];omega
theorem pj:∀(a b:Ex) (n:Nat),cf (slopeL (af a b)) n=aw (slopeL a) b n+aw a (slopeL b) n
 | [],b,n=>by rw[gA];show cf (slopeL []) n=aw (slopeL []) b n+aw [] (slopeL b) n;have:slopeL []=[]:=rfl;rw[this,cj,dY,dY];omega
 |x::a,b,n=>by
  rw[eJ,aJ,dJ,dZ (q:=b) (xh x a),yR,dJ,eJ];show((n:Int)+1)*(x*cf b (n+1)+aw a b n)=_;cases n with
  |zero =>show(((0:Nat):Int)+1)*(x*cf b 1+aw a b 0)=1*aw a b 0+1*0+(x*((((0:Nat):Int)+1)*cf b 1)+0);simp;omega
  |succ n =>
   have ih:=pj a b n;rw[eJ,aJ]at ih;show(((n+1:Nat):Int)+1)*(x*cf b (n+1+1)+aw a b (n+1))=1*aw a b (n+1)+1*aw (slopeL a) b n+(x*((((n+1:Nat):Int)+1)*cf b (n+1+1))+aw a (slopeL b) n);have:((n+1:Nat):Int)=(n:Int)+1:=by omega
   rw[this];generalize aw a b (n+1)=z at *
   generalize aw (slopeL a) b n=z1 at *
   generalize aw a (slopeL b) n=z2 at *
   generalize cf b (n+1+1)=z3 at *
   generalize (n:Int)=m at *
   grind
noncomputable def pw(s:Ex):Nat->Ex
 |0=>[1]
 |n+1=>af s (pw s n)
theorem mM(s:Ex):pw s 1=s:=d7 s
theorem rJ(s:Ex):∀a b,af (pw s a) (pw s b)=pw s (a+b)
 |0,b=>by rw[Nat.zero_add];exact kP _
 |a+1,b=>by rw[show a+1+b=a+b+1 by omega];show af (af s (pw s a)) (pw s b)=af s (pw s (a+b));rw[kO,rJ s a b]
theorem x6{s:Ex}(h:Pln s):∀n,Pln (pw s n)
 |0=>pln_one
 |n+1=>h.mul (x6 h n)
theorem xf(s:Ex):∀(k n:Nat),cf (slopeL (pw s (k+1))) n=((k:Int)+1)*aw (slopeL s) (pw s k) n
 |0,n=>by rw[mM];show _=(((0:Nat):Int)+1)*aw (slopeL s) [1] n;rw[gz,fD];omega
 |k+1,n=>by
  show cf (slopeL (af s (pw s (k+1)))) n=_;rw[pj];have e:aw s (slopeL (pw s (k+1))) n=((k:Int)+1)*aw s (af (slopeL s) (pw s k)) n:=kM λj=>by rw[xf s k j,aJ]
  have e2:aw s (af (slopeL s) (pw s k)) n=aw (slopeL s) (pw s (k+1)) n:=by
   show _=aw (slopeL s) (af s (pw s k)) n;rw[<- aJ,<- aJ]
   congr 1
   ac_rfl
  rw[e,e2];have:((k+1:Nat):Int)=(k:Int)+1:=by omega
  rw[this,Int.add_mul ((k:Int)+1) 1];omega
noncomputable def fP(g:Nat->Nat)(us:List (Ex×Nat)):Ex:=us.foldr (λp acc=>af (pw p.1 (g p.2)) acc) [1]
theorem fb(g:Nat->Nat)(p:Ex×Nat)(us:List (Ex×Nat)):fP g (p::us)=af (pw p.1 (g p.2)) (fP g us):=rfl
theorem tY(g h:Nat->Nat):∀us,af (fP g us) (fP h us)=fP (λm=>g m+h m) us
 | []=>kP _
 |p::us=>by
  rw[fb,fb,fb,<- tY g h us,<- rJ]
  ac_rfl
theorem jL{g h:Nat->Nat}:∀us:List (Ex×Nat),(∀p∈us,g p.2=h p.2)->fP g us=fP h us
 | [],_=>rfl
 |p::us,H=>by rw[fb,fb,H p (MP ..),jL us λx hx=>H x (MK _ hx)]
theorem Aa{g:Nat->Nat}:∀us:List (Ex×Nat),(∀p∈us,Pri p.1)->Pln (fP g us)
 | [],_=>pln_one
 |p::us,h=>(x6 (h p (MP ..)).pln _).mul (Aa us λx hx=>h x (MK _ hx))
theorem zZ(c:Nat->Bool):∀us:List (Ex×Nat),fP (λm=>if c m then 1 else 0) us=prd ((us.filter λp=>c p.2).map (·.1))
 | []=>rfl
 |p::us=>by
  rw[fb,zZ c us,List.filter_cons];cases h:c p.2 with
  |true =>simp only[if_true,Nw];rw[mM];rfl
  |false =>simp only[Bool.false_eq_true,if_false];exact kP _
theorem Ab{g:Nat->Nat}:∀(us:List (Ex×Nat)) {p:Ex×Nat},p∈us->0<g p.2->Dv p.1 (fP g us)
 |q::us,p,hp,h0=>by
  rw[fb];rcases MM.mp hp with rfl |hp
  ·obtain⟨k,hk⟩:∃k,g p.2=k+1:=⟨g p.2-1,by omega⟩;rw[hk];show Dv p.1 (af (af p.1 (pw p.1 k)) _);rw[kO];exact Dv.mul_left _ _
  ·exact(Ab us hp h0).trans (Dv.mul_right _ _)
theorem Pri.pw{s t:Ex}(h:Pri s):∀n,Dv s (pw t n)->0<n/\Dv s t
 |0,hd=>absurd hd h.not_one
 |n+1,hd=>by
  refine⟨by omega,?_⟩;rcases h.or t (RM.pw t n) hd with z |z
  ·exact z
  ·exact(Pri.pw h n z).2
theorem Pri.fP{s:Ex}(h:Pri s){g:Nat->Nat}:∀us:List (Ex×Nat),Dv s (fP g us)->∃p∈us,0<g p.2/\Dv s p.1
 | [],hd=>absurd hd h.not_one
 |p::us,hd=>by
  rcases h.or (RM.pw p.1 (g p.2)) (RM.fP g us) hd with z |z
  ·exact⟨p,MP ..,(h.pw _ z)⟩
  ·obtain⟨q,hq,z'⟩:=Pri.fP h us z;exact⟨q,MK _ hq,z'⟩
structure Use(us:List (Ex×Nat)):Prop where
 pri:∀p∈us,Pri p.1
 pos:∀p∈us,1<=p.2
 nd:(us.map (·.1)).Nodup
theorem Use.tail{p:Ex×Nat}{us:List (Ex×Nat)}(h:Use (p::us)):Use us :=
 ⟨λx hx=>h.pri x (MK _ hx),λx hx=>h.pos x (MK _ hx),(N9.mp h.nd).2⟩
theorem Use.head{p q:Ex×Nat}{us:List (Ex×Nat)}(h:Use (p::us))(hq:q∈us):p.1≠q.1:=λz =>(N9.mp h.nd).1 (MW.mpr ⟨q,hq,z.symm⟩)
theorem gC(l:Ex):(slopeL l).length=l.length-1:=by unfold slopeL;simp
theorem iq{l:Ex}(h:Tr l):Tr (slopeL l):=λn hn=>by rw[gC]at hn;rw[eJ];exact M0 (by omega) (h (n+1) (by omega))
theorem xg:∀us:List (Ex×Nat),Use us->∃M,(∀n,cf (slopeL (fP id us)) n=aw (fP (·-1) us) M n)/\∀q∈us,¬Dv q.1 M
 | [],_=>⟨[],λn=>by
  show cf (slopeL [1]) n=aw [1] [] n
  rw[si];exact cj n,λ_ h=>nomatch h⟩
 |p::us,h=>by
  obtain⟨M',e',h'⟩:=xg us h.tail;obtain⟨s,m⟩:=p;have P:Pri s:=h.pri _ (MP ..);obtain⟨k,hk⟩:∃k,m=k+1:=⟨m-1,by have:=h.pos _ (MP ..);simp at this;omega⟩;subst hk
  have eF:fP id us=af (fP (·-1) us) (fP (λ_=>1) us):=by rw[tY];exact jL us λp hp=>by have:=h.tail.pos p hp;show p.2=p.2-1+1;omega
  have hX:∀n,cf (dM 1 (af (scL ((k:Int)+1) (slopeL s)) (fP (λ_=>1) us)) (af s M')) n=1*cf (af (scL ((k:Int)+1) (slopeL s)) (fP (λ_=>1) us)) n+1*cf (af s M') n:=λn=>by rw[ie];omega
  refine⟨dM 1 (af (scL ((k:Int)+1) (slopeL s)) (fP (λ_=>1) us)) (af s M'),λn=>?_,λq hq hd=>?_⟩
  ·rw[fb,fb];show cf (slopeL (af (pw s (k+1)) (fP id us))) n=aw (af (pw s k) (fP (·-1) us)) _ n;rw[pj,yS hX]
   have a1:aw (slopeL (pw s (k+1))) (fP id us) n=aw (af (pw s k) (fP (·-1) us)) (af (scL ((k:Int)+1) (slopeL s)) (fP (λ_=>1) us)) n:=by
    rw[eF]
    have:aw (slopeL (pw s (k+1))) (af (fP (·-1) us) (fP (λ_=>1) us)) n=aw (af (scL ((k:Int)+1) (slopeL s)) (pw s k)) (af (fP (·-1) us) (fP (λ_=>1) us)) n:=by
     refine m8 (λj=>?_) λ_=>rfl
     rw[xf,aJ];have:=dZ (a:=slopeL s) (b:=[]) (x:=(k:Int)+1) (y:=0) (c:=scL ((k:Int)+1) (slopeL s)) (q:=pw s k) (n:=j) (λi=>by rw[bh];simp);rw[this];simp
    rw[this,<- aJ,<- aJ]
    congr 1
    ac_rfl
   have a2:aw (pw s (k+1)) (slopeL (fP id us)) n=aw (af (pw s k) (fP (·-1) us)) (af s M') n:=by
    rw[m8 (a':=pw s (k+1)) (b':=af (fP (·-1) us) M') (λ_=>rfl) (λj=>by rw[e',aJ])];show aw (af s (pw s k)) _ n=_;rw[<- aJ,<- aJ]
    congr 1
    ac_rfl
   rw[a1,a2];omega
  ·have hX':∀n,1*cf (dM 1 (af (scL ((k:Int)+1) (slopeL s)) (fP (λ_=>1) us)) (af s M')) n=aw M' s n+cf (af (scL ((k:Int)+1) (slopeL s)) (fP (λ_=>1) us)) n:=λn=>by rw[hX,aJ s,gz s];omega
   rcases MM.mp hq with rfl |hq
   ·have d1:=Dv.down hX' hd (Dv.refl _);rcases P.or _ _ d1 with z |z
    ·have t:Tr (scL ((k:Int)+1) (slopeL s)):=jY (by omega) (iq P.pln.tr);have l:(scL ((k:Int)+1) (slopeL s)).length=s.length-1:=by rw[b9,gC]
     have:=P.two;have n:=Dv.short P.pln.ne P.pln.tr t (by omega) z;rw[n]at l;simp at l
     omega
    ·obtain⟨q',hq',_,w⟩:=P.fP us z;exact h.head hq' (P.same (h.tail.pri q' hq') w)
   ·have Q:=h.tail.pri q hq;have d0:Dv q.1 (af (scL ((k:Int)+1) (slopeL s)) (fP (λ_=>1) us)):=(Ab us hq (g:=λ_=>1) (by decide)).trans (Dv.mul_right _ _);have d1:Dv q.1 (af s M'):=Dv.down (f:=1) (q:=[1]) (λn=>by rw[hX,fD];omega) hd d0;rcases Q.or _ _ d1 with z |z
    ·exact h.head hq (Q.same P z).symm
    ·exact h' q hq z
theorem DO{s a b:Ex}(hs:s≠[])(h:Dv s (af a b)):Dv s (af (aM a s) (aM b s)):=by
 have e1:=λn=>ia (a:=a) hs n
 have e2:=λn=>ia (a:=b) hs n
 have d1:Dv s (af (aM a s) b):=by
  refine Dv.down (f:=bY a s) (q:=af (bV a s) b) (b:=s) (λn=>?_) h (Dv.refl _);rw[aJ,aJ];have l:=dZ (a:=af (bV a s) s) (b:=aM a s) (x:=1) (y:=1) (c:=scL (bY a s) a) (q:=b) (n:=n) (λk=>by rw[bh,e1,aJ];omega);have l2:=dZ (a:=a) (b:=[]) (x:=bY a s) (y:=0) (c:=scL (bY a s) a) (q:=b) (n:=n) (λk=>by rw[bh];simp)
  have l3:aw (af (bV a s) s) b n=aw (af (bV a s) b) s n:=by
   rw[<- aJ,<- aJ]
   congr 1
   ac_rfl
  rw[l2,l3]at l;rw[dY]at l;omega
 refine Dv.down (f:=bY b s) (q:=af (aM a s) (bV b s)) (b:=s) (λn=>?_) d1 (Dv.refl _);rw[aJ,aJ];have l:=yS (a:=af (bV b s) s) (b:=aM b s) (x:=1) (y:=1) (c:=scL (bY b s) b) (q:=aM a s) (n:=n) (λk=>by rw[bh,e2,aJ];omega);have l2:=kM (a:=aM a s) (b:=b) (b':=scL (bY b s) b) (c:=bY b s) (n:=n) (λk=>by rw[bh])
 have l3:aw (aM a s) (af (bV b s) s) n=aw (af (aM a s) (bV b s)) s n:=by
  rw[<- aJ,<- aJ]
  congr 1
  ac_rfl
 rw[l2,l3]at l;omega
theorem ua{s a:Ex}(hs:s≠[])(ht:Tr s)(h:aM a s=[]):Dv s a :=
 ⟨bY a s,bV a s,lg hs ht,λn=>by rw[ia hs,h,cj];omega⟩
noncomputable def aE(u e b:Int):Ex:=if e=0 then[-u,b]else[u*u-e,-2*b*u,b*b]
theorem fX{u e b:Int}(hb:1<=b):Tr (aE u e b)/\2<=(aE u e b).length:=by
 unfold aE;split
 ·exact⟨(tr_snoc (r:=[-u])).mpr (by omega),by show 2<=2;decide⟩
 ·exact⟨(tr_snoc (r:=[u*u-e,-2*b*u])).mpr (M0 (by omega) (by omega)),by show 2<=3;decide⟩
theorem yA{n e:Int}(hn:0<=n)(h1:n*n<e)(h2:e<(n+1)*(n+1)):∀(k:Nat) (x y:Int),x.toNat<=k->0<x->0<=y->e*(x*x)=y*y->False
 |0,x,y,hk,hx,_,_=>by omega
 |k+1,x,y,hk,hx,hy,h=>by
  have hxx:0<x*x:=ML hx hx
  have a1:n*x<y:=by
   refine Of.mp λz=>?_
   have:=OC z z hy (Int.le_trans hy z);have:=NO h1 hxx;have e1:n*x*(n*x)=n*n*(x*x):=by grind
   omega
  have a2:y<(n+1)*x:=by
   refine Of.mp λz=>?_
   have z0:0<=(n+1)*x:=MZ (by omega) (by omega);have:=OC z z z0 hy;have:=NO h2 hxx;have e1:(n+1)*x*((n+1)*x)=(n+1)*(n+1)*(x*x):=by grind
   omega
  have a3:(n+1)*x=n*x+x:=by rw[Int.add_mul];omega
  refine yA hn h1 h2 k (y-n*x) ((e*x-n*y).natAbs:Int) (by omega) (by omega) (by omega) ?_;rw[Int.natAbs_mul_self' (e*x-n*y)];grind
def NS(e:Int):Prop:=e<=0\/∃n:Int,0<=n/\n*n<e/\e<(n+1)*(n+1)
theorem NS.no{e x y:Int}(h:NS e)(he:e≠0)(hx:x≠0)(eq:x*x*e=y*y):False:=by
 rcases h with h |⟨n,hn,h1,h2⟩
 ·have hxx:0<x*x:=by
   rcases Ot hx with z |z
   ·exact ON z z
   ·exact ML z z
  have:x*x*e<0:=Pd hxx (by omega)
  have:0<=y*y:=by
   rcases Int.le_total 0 y with z |z
   ·exact MZ z z
   ·exact Pb z z
  omega
 ·refine yA hn h1 h2 _ (x.natAbs:Int) (y.natAbs:Int) (MJ _) (by omega) (by omega) ?_;rw[Int.natAbs_mul_self' x,Int.natAbs_mul_self' y,<- eq,Nj]
theorem D0{u e b:Int}(hb:1<=b)(he:NS e){p q:Ex}(h:Dv (aE u e b) (af p q)):Dv (aE u e b) p\/Dv (aE u e b) q:=by
 obtain⟨tr,l2⟩:=fX (u:=u) (e:=e) hb;have hne:aE u e b≠[]:=λz=>by rw[z]at l2;simp at l2
 by_cases hp:aM p (aE u e b)=[]
 ·exact .inl (ua hne tr hp)
 by_cases hq:aM q (aE u e b)=[]
 ·exact .inr (ua hne tr hq)
 exfalso;have d:=DO hne h;have t1:=fL p (aE u e b);have t2:=fL q (aE u e b);have n1:=gL (a:=p) hne;have n2:=gL (a:=q) hne;generalize aM p (aE u e b)=r1 at *
 generalize aM q (aE u e b)=r2 at *
 have lm:=bM hp hq;have p1:=MR.mpr hp;have p2:=MR.mpr hq;by_cases hs:(af r1 r2).length<(aE u e b).length
 ·exact jA hp hq (Dv.short hne tr (lP t1 t2) hs d)
 by_cases h0:e=0
 ·have:(aE u e b).length=2:=by unfold aE;rw[if_pos h0];rfl
  omega
 have er:aE u e b=[u*u-e,-2*b*u,b*b]:=by unfold aE;rw[if_neg h0]
 rw[er]at hs n1 n2 d hne tr;simp only[Nh,OZ]at hs n1 n2
 obtain⟨α,β,rfl⟩:∃α β,r1=[α,β]:=by
  match r1,(show r1.length=2 by omega)with
  | [α,β],_=>exact⟨α,β,rfl⟩
 obtain⟨γ,δ,rfl⟩:∃γ δ,r2=[γ,δ]:=by
  match r2,(show r2.length=2 by omega)with
  | [γ,δ],_=>exact⟨γ,δ,rfl⟩
 have hβ:β≠0:=(tr_snoc (r:=[α])).mp t1;have hδ:δ≠0:=(tr_snoc (r:=[γ])).mp t2
 have em:af [α,β] [γ,δ]=[α*γ,α*δ+β*γ,β*δ]:=by
  refine dO (by rw[lm];rfl) λk hk=>?_
  rw[lm]at hk;rw[aJ];have hk':k<3:=hk;have:k=0\/k=1\/k=2:=by omega
  rcases this with rfl |rfl |rfl
  ·show(0+(α*γ))+0=α*γ;omega
  ·show(0+(α*δ))+(β*γ)=α*δ+β*γ;omega
  ·show(0+α*cf [γ,δ] 2)+(β*δ)=β*δ;have:cf [γ,δ] 2=0:=rfl;rw[this];simp
 rw[em]at d;have hr:=d.rest hne tr;have eqn:=λn=>ia (a:=[α*γ,α*δ+β*γ,β*δ]) hne n
 have hf:=lg (a:=[α*γ,α*δ+β*γ,β*δ]) hne tr;have lq:=ue (a:=[α*γ,α*δ+β*γ,β*δ]) hne;generalize bY [α*γ,α*δ+β*γ,β*δ] [u*u-e,-2*b*u,b*b]=f at *
 generalize bV [α*γ,α*δ+β*γ,β*δ] [u*u-e,-2*b*u,b*b]=Q at *
 rw[hr]at eqn;have lq':Q.length=1:=lq;obtain⟨κ,rfl⟩:∃κ,Q=[κ]:=List.length_eq_one_iff.mp lq';have g0:=eqn 0;have g1:=eqn 1;have g2:=eqn 2;rw[fD,cj]at g0 g1 g2
 replace g0:f*(α*γ)=κ*(u*u-e)+0:=g0
 replace g1:f*(α*δ+β*γ)=κ*(-2*b*u)+0:=g1
 replace g2:f*(β*δ)=κ*(b*b)+0:=g2
 have hκ:κ≠0:=λz=>by rw[z,Nn]at g2;exact M0 hf (M0 hβ hδ) (by omega)
 refine he.no h0 (x:=2*κ*b) (y:=f*(α*δ-β*γ)) (M0 (M0 (by decide) hκ) (by omega)) ?_;have k1:f*(α*δ-β*γ)*(f*(α*δ-β*γ))=f*(α*δ+β*γ)*(f*(α*δ+β*γ))-4*((f*(α*γ))*(f*(β*δ))):=by grind
 rw[k1,g0,g1,g2];grind
theorem DZ{u e b:Int}(hb:1<=b)(he:NS e):Pri (aD (aE u e b)):=by
 obtain⟨tr,l2⟩:=fX (u:=u) (e:=e) hb;have hne:aE u e b≠[]:=λz=>by rw[z]at l2;simp at l2
 obtain⟨g,hg,eg⟩:=jt tr;have to:∀p,Dv (aD (aE u e b)) p->Dv (aE u e b) p:=λp h=>Dv.prop_left (x:=1) (y:=g) (by decide) hg (λn=>by rw[eg];omega) h
 have fr:∀p,Dv (aE u e b) p->Dv (aD (aE u e b)) p:=λp h=>Dv.prop_left (x:=g) (y:=1) hg (by decide) (λn=>by rw[<- eg];omega) h
 refine⟨eU tr hne,by rw[plain_len];exact l2,λp q h=>?_⟩;exact(D0 hb he (to _ h)).imp (fr _) (fr _)
noncomputable def com(xs ys:Ex):Ex:=cJ 20 (aD xs) (aD ys)
structure ComOk(xs ys:Ex):Prop where
 pln:xs≠[]\/ys≠[]->Pln (com xs ys)
 left:Dv (com xs ys) xs
 right:Dv (com xs ys) ys
 all:∀d,Dv d xs->Dv d ys->Dv d (com xs ys)
theorem Aw{xs ys:Ex}(h2:ys.length<=19)(t1:Tr xs)(t2:Tr ys):ComOk xs ys:=by
 obtain⟨c1,c2,c3,c4,c5,c6⟩:=Ax 20 (aD xs) (aD ys) (by rw[plain_len];omega) (gS t1) (gS t2);refine⟨λh=>?_,(Dv.plain t1).mp c2,(Dv.plain t2).mp c3,λd a b=>c4 d ((Dv.plain t1).mpr a) ((Dv.plain t2).mpr b)⟩;have hne:com xs ys≠[]:=c5 (h.imp (λz q=>z (Op.mp (by rw[<- plain_len,q];rfl))) (λz q=>z (Op.mp (by rw[<- plain_len,q];rfl))))
 obtain⟨l,tl,el⟩:∃l,Tr l/\com xs ys=aD l:=by
  rcases c6 with e |e |e
  ·exact⟨xs,t1,e⟩
  ·exact⟨ys,t2,e⟩
  ·exact e
 have hl:l≠[]:=λz=>hne (by rw[el,z];rfl)
 rw[el];exact eU tl hl
theorem JG{A B D L M:Ex}{ps:List Ex}(tA:Tr A)(nA:A≠[])(tB:Tr B)(lB:B.length<=19)(hD:Pln D)(sA:Sim A (af D L))(sB:Sim B (af D M))(hps:∀p∈ps,Pri p)(hL:L=prd ps)(hM:∀p∈ps,¬Dv p M):com A B=D :=
 have C:=Aw lB tA tB
 JF (C.pln (.inl nA)) C.left C.right C.all hD sA sB hps hL hM
noncomputable def eq1(k m:Nat):Nat:=if m=k then 1 else 0
noncomputable def bZ(_:Nat):Nat:=1
noncomputable def mor(us:List (Ex×Nat))(k:Nat):Ex:=fP (·-k) us
noncomputable def flt(us:List (Ex×Nat)):Ex:=fP bZ us
variable {us:List (Ex×Nat)}
theorem tz:flt us=prd (us.map (·.1)):=by
 have:=zZ (λ_=>true) us;have e:us.filter (λp=>(λ_=>true) p.2)=us:=List.filter_eq_self.mpr λ_ _=>rfl
 rw[e]at this;rw[<- this];exact jL us λp _=>rfl
theorem iU(h:Use us)(g:Nat->Nat):Pln (fP g us):=Aa us h.pri
noncomputable def whl(c:Int)(us:List (Ex×Nat)):Ex:=af [c] (fP id us)
theorem fU(c:Int):whl c us=scL c (fP id us):=by
 unfold whl;by_cases h:fP id us=[]
 ·rw[h,g8];rfl
 refine dO ?_ λk _=>?_
 ·rw[bM (by simp) h,b9];simp
 ·rw[aJ,fD,bh]
theorem jV(h:Use us){c:Int}(hc:c≠0):Tr (whl c us)/\whl c us≠[]/\aD (whl c us)=fP id us:=by have pl:=iU h id;rw[fU];refine⟨jY hc pl.tr,λz=>pl.ne (Op.mp (by rw[<- b9 c,z];rfl)),?_⟩;rw[kI hc pl.tr,pl.plain]
theorem vc(h:Use us):af (mor us 1) (flt us)=fP id us:=by unfold mor flt;rw[tY];exact jL us λp hp=>by have:=h.pos p hp;show p.2-1+1=p.2;omega
theorem vb(h:Use us){c:Int}(hc:c≠0)(hl:(whl c us).length<=20):com (whl c us) (slopeL (whl c us))=mor us 1:=by
 obtain⟨t,n,p⟩:=jV h hc;obtain⟨M,eM,hM⟩:=xg us h;refine JG (L:=flt us) (M:=M) (ps:=us.map (·.1)) t n (iq t) (by rw[gC];omega) (iU h _) ⟨1,c,by decide,hc,λk=>?_⟩ ⟨1,c,by decide,hc,λk=>?_⟩ (λp hp=>?_) tz (λp hp=>?_)
 ·rw[vc h,fU,bh];omega
 ·rw[aJ];have e:=eM k;rw[eJ]at e;show 1*cf (slopeL (whl c us)) k=c*aw (fP (·-1) us) M k;rw[<- e,eJ,fU,bh];grind
 ·obtain⟨q,hq,rfl⟩:=MW.mp hp;exact h.pri q hq
 ·obtain⟨q,hq,rfl⟩:=MW.mp hp;exact hM q hq
theorem BA(h:Use us){c:Int}(hc:c≠0):aM (whl c us) (mor us 1)=[]/\aD (bV (whl c us) (mor us 1))=flt us:=by obtain⟨t,n,p⟩:=jV h hc;exact yo t n (iU h _) (iU h _) (by rw[p,vc h])
noncomputable def dgs(g:Nat->Nat):List (Ex×Nat)->Nat
 | []=>0
 |p::us=>g p.2*(p.1.length-1)+dgs g us
theorem Ap{g h:Nat->Nat}:∀us:List (Ex×Nat),(∀p∈us,g p.2<=h p.2)->dgs g us<=dgs h us
 | [],_=>MJ _
 |p::us,H=>by
  have:=Ap us λx hx=>H x (MK _ hx)
  have:=Nz (p.1.length-1) (H p (MP ..));show g p.2*_+dgs g us<=h p.2*_+dgs h us;omega
theorem rH{s:Ex}(h:s≠[]):∀n,(pw s n).length=1+n*(s.length-1)/\pw s n≠[]
 |0=>⟨by rw[Nat.zero_mul];rfl,by simp[pw]⟩
 |n+1=>by obtain⟨a,b⟩:=rH h n;have:=MR.mpr h;refine⟨?_,jA h b⟩;show(af s (pw s n)).length=_;rw[bM h b,a,Nat.succ_mul];omega
theorem lc(g:Nat->Nat):∀us:List (Ex×Nat),(∀p∈us,p.1≠[])->(fP g us).length=1+dgs g us/\fP g us≠[]
 | [],_=>⟨rfl,by simp[fP]⟩
 |p::us,H=>by
  obtain⟨a,b⟩:=lc g us λx hx=>H x (MK _ hx)
  obtain⟨c,d⟩:=rH (H p (MP ..)) (g p.2);rw[fb];refine⟨?_,jA d b⟩;rw[bM d b,a,c];show _=1+(g p.2*_+dgs g us);omega
noncomputable def aY(sq due:Int):Int:=if due<0\/due*due<sq then 1 else 0-(if sq<due*due then 1 else 0)
noncomputable def au(l:Ex)(t n:Int):Int:=if 0<cf l 3 then aY (cf l 1*n*n) (cf l 2*t-cf l 0*n)else 0-aY (cf l 1*n*n) (0-(cf l 2*t-cf l 0*n))
theorem bR(sq d:Int):(aY sq d=1/\(d<0\/d*d<sq))\/(aY sq d=0/\0<=d/\d*d=sq)\/(aY sq d = -1/\0<=d/\sq<d*d):=by
 unfold aY;by_cases h:d<0\/d*d<sq
 ·rw[if_pos h];exact .inl ⟨rfl,h⟩
 ·rw[if_neg h];by_cases h2:sq<d*d
  ·rw[if_pos h2];exact .inr (.inr ⟨rfl,by omega,h2⟩)
  ·rw[if_neg h2];exact .inr (.inl ⟨rfl,by omega,by omega⟩)
structure Spt(l:Ex):Prop where
 is:∃u e b s:Int,l=[u,e,b,s]/\0<=e/\1<=b/\(s=1\/s = -1)
theorem ir{x y:Int}(hx:0<=x)(h:x<=y):x*x<=y*y:=OC h h hx (by omega)
theorem oM{x y:Int}(hx:0<=x)(h:x<y):x*x<y*y:=by have h1:x*x<=x*y:=Og (MN h) hx;have h2:x*y<y*y:=NO h (by omega);omega
theorem Hk{x y:Int}(hy:0<=y)(h:x*x<y*y):x<y:=Of.mp λz=>by have:=ir hy z;omega
theorem Hn{x y:Int}(hy:0<=y)(h:x*x<=y*y):x<=y:=NT.mp λz=>by have:=oM hy z;omega
theorem vM{g sq d:Int}(hg:0<g):aY (sq*(g*g)) (g*d)=aY sq d:=by
 have hgg:0<g*g:=ML hg hg;have e1:g*d*(g*d)=d*d*(g*g):=by grind
 have e2:(g*d<0)↔d<0:=by
  constructor
  ·intro h;refine Of.mp λz=>?_
   have:=MZ (MN hg) z;omega
  ·intro h;exact Pd hg h
 have e3:∀x y:Int,(x*(g*g)<y*(g*g))↔x<y:=λx y=>⟨λh=>Od h (MN hgg),λh=>NO h hgg⟩
 unfold aY;rw[e1];simp only[e2,e3]
theorem xj{g t n:Int}(l:Ex)(hg:0<g):au l (g*t) (g*n)=au l t n:=by
 have e1:cf l 1*(g*n)*(g*n)=cf l 1*n*n*(g*g):=by grind
 have e2:cf l 2*(g*t)-cf l 0*(g*n)=g*(cf l 2*t-cf l 0*n):=by grind
 have e3:0-g*(cf l 2*t-cf l 0*n)=g*(0-(cf l 2*t-cf l 0*n)):=by grind
 unfold au;rw[e1,e2,e3,vM hg,vM hg]
theorem mj{t n t' n':Int}(l:Ex)(hn:0<n)(hn':0<n')(e:t*n'=t'*n):au l t n=au l t' n':=by
 rw[<- xj (g:=n') l hn',<- xj (g:=n) (t:=t') l hn];have e1:n'*t=n*t':=by rw[Nj,e,Nj]
 rw[e1,Nj n' n]
theorem gU(l:Ex)(t n:Int):au l t n=1\/au l t n=0\/au l t n = -1:=by
 unfold au;split
 ·rcases bR (cf l 1*n*n) (cf l 2*t-cf l 0*n)with h |h |h<;>omega
 ·rcases bR (cf l 1*n*n) (0-(cf l 2*t-cf l 0*n))with h |h |h<;>omega
theorem ix{l:Ex}(hl:Spt l){t n t' n':Int}(hn:0<n)(hn':0<n')(h:t*n'<t'*n)(hs:au l t n<=0):au l t' n' = -1:=by
 obtain⟨u,e,b,s,rfl,he,hb,hs1⟩:=hl
 have hlt:(b*t-u*n)*n'<(b*t'-u*n')*n:=by
  have h1:b*(t*n')<b*(t'*n):=Pk h (by omega);have e1:(b*t-u*n)*n'=b*(t*n')-u*n*n':=by grind
  have e2:(b*t'-u*n')*n=b*(t'*n)-u*n*n':=by grind
  omega
 have hnn:0<n*n:=ML hn hn;have hnn':0<n'*n':=ML hn' hn';rcases hs1 with rfl |rfl
 ·have z0:(0:Int)<1:=by decide
  have hs:aY (e*n*n) (b*t-u*n)<=0:=hs;show aY (e*n'*n') (b*t'-u*n') = -1;generalize b*t-u*n=a at *
  generalize b*t'-u*n'=a' at *
  have k1:0<=a/\e*n*n<=a*a:=by rcases bR (e*n*n) a with h |h |h<;>omega
  have k2:0<=a*n':=MZ k1.1 (MN hn');have k3:0<a':=Od (a:=n) (by omega) (MN hn);have k4:=oM k2 hlt;have k5:e*n*n*(n'*n')<=a*a*(n'*n'):=Np k1.2 (MN hnn')
  have k6:e*n'*n'*(n*n)<a'*a'*(n*n):=by
   have e1:e*n'*n'*(n*n)=e*n*n*(n'*n'):=by grind
   have e2:a'*a'*(n*n)=a'*n*(a'*n):=by grind
   have e3:a*a*(n'*n')=a*n'*(a*n'):=by grind
   omega
  have k7:=Od k6 (MN hnn);rcases bR (e*n'*n') a' with h |h |h<;>omega
 ·have hs:0-aY (e*n*n) (0-(b*t-u*n))<=0:=hs;show 0-aY (e*n'*n') (0-(b*t'-u*n')) = -1;generalize ha:0-(b*t-u*n)=a at *
  generalize ha':0-(b*t'-u*n')=a' at *
  have hlt':a'*n<a*n':=by
   have e1:a'*n = -((b*t'-u*n')*n):=by rw[<- ha'];grind
   have e2:a*n' = -((b*t-u*n)*n'):=by rw[<- ha];grind
   omega
  have k1:a<0\/a*a<=e*n*n:=by rcases bR (e*n*n) a with h |h |h<;>omega
  have k2:a'<0\/a'*a'<e*n'*n':=by
   by_cases z:a'<0
   ·exact .inl z
   right;have p1:0<=a'*n:=MZ (by omega) (MN hn);have p2:0<a:=Od (a:=n') (by omega) (MN hn');have p3:=oM p1 hlt';have k5:a*a*(n'*n')<=e*n*n*(n'*n'):=Np (by omega) (MN hnn')
   have k6:a'*a'*(n*n)<e*n'*n'*(n*n):=by
    have e1:e*n'*n'*(n*n)=e*n*n*(n'*n'):=by grind
    have e2:a'*a'*(n*n)=a'*n*(a'*n):=by grind
    have e3:a*a*(n'*n')=a*n'*(a*n'):=by grind
    omega
   exact Od k6 (MN hnn)
  rcases bR (e*n'*n') a' with h |h |h<;>omega
noncomputable def spF(f:Ex):List Ex:=(if 0<=cf f 1 then[[cf f 0,cf f 1,cf f 2,1]]else[])++(if 0<cf f 1 then[[cf f 0,cf f 1,cf f 2,-1]]else[])
noncomputable def aK(fs:List Ex):List Ex:=fs.flatMap spF
noncomputable def spr(t n:Int):List Ex->Int
 | []=>1
 |l::ls => -au l t n*spr t n ls
theorem lX(t n:Int):∀a b,spr t n (a++b)=spr t n a*spr t n b
 | [],b=>by show _=1*_;rw[Ni];rfl
 |x::a,b=>by show _*spr t n (a++b)=_*_*_;rw[lX t n a b,Ng]
theorem oP{f l:Ex}{u e b:Int}(hf:f=[u,e,b])(hb:1<=b)(h:l∈spF f):Spt l/\∃s,l=[u,e,b,s]/\0<=e/\(s=1\/s = -1/\0<e):=by
 subst hf;have hd:spF [u,e,b]=(if 0<=e then[[u,e,b,1]]else[])++(if 0<e then[[u,e,b,-1]]else[]):=rfl;rw[hd]at h;rcases Nb.mp h with h |h
 ·by_cases z:0<=e
  ·rw[if_pos z]at h;obtain rfl:=MO.mp h;exact⟨⟨u,e,b,1,rfl,z,hb,.inl rfl⟩,1,rfl,z,.inl rfl⟩
  ·rw[if_neg z]at h;cases h
 ·by_cases z:0<e
  ·rw[if_pos z]at h;obtain rfl:=MO.mp h;exact⟨⟨u,e,b,-1,rfl,by omega,hb,.inr rfl⟩,-1,rfl,by omega,.inr ⟨rfl,z⟩⟩
  ·rw[if_neg z]at h;cases h
theorem DY{u e b t n:Int}(hn:0<n):sg (hv t n (aE u e b))=spr t n (spF [u,e,b]):=by
 have hd:spF [u,e,b]=(if 0<=e then[[u,e,b,1]]else[])++(if 0<e then[[u,e,b,-1]]else[]):=rfl;rw[hd];by_cases h0:e=0
 ·subst h0;have er:aE u 0 b=[-u,b]:=by unfold aE;rw[if_pos rfl]
  have ev:hv t n [-u,b]=n*(b*t-u*n):=by show -u*n^2+t*(b*n^1+t*0)=_;grind
  rw[er,ev,dQ hn,if_pos (Nr _),if_neg (by omega)];show _ = -aY (0*n*n) (b*t-u*n)*1;generalize b*t-u*n=a;rw[Nn,Nn];have:a<0\/a=0\/0<a:=by omega
  rcases this with h |h |h
  ·have h1:sg a = -1:=by unfold sg;rw[if_pos h]
   rcases bR 0 a with z |z |z<;>omega
  ·subst h;rfl
  ·have h1:sg a=1:=by unfold sg;rw[if_neg (by omega),if_pos h]
   have h2:=ML h h;rcases bR 0 a with z |z |z<;>omega
 ·have er:aE u e b=[u*u-e,-2*b*u,b*b]:=by unfold aE;rw[if_neg h0]
  have ev:hv t n [u*u-e,-2*b*u,b*b]=n*((b*t-u*n)*(b*t-u*n)-e*n*n):=by show(u*u-e)*n^3+t*((-2*b*u)*n^2+t*((b*b)*n^1+t*0))=_;grind
  rw[er,ev,dQ hn];by_cases hp:0<=e
  ·rw[if_pos hp,if_pos (by omega)];show _ = -aY (e*n*n) (b*t-u*n)*(-(0-aY (e*n*n) (0-(b*t-u*n)))*1);generalize b*t-u*n=a;have hE:0<e*n*n:=ML (ML (by omega) hn) hn;generalize e*n*n=E at *
   have e1:(0-a)*(0-a)=a*a:=by grind
   have h1:=bR E a;have h2:=bR E (0-a);rw[e1]at h2;have az:a=0->a*a=0:=λz=>by rw[z];rfl
   have s3:(a*a<E/\sg (a*a-E) = -1)\/(a*a=E/\sg (a*a-E)=0)\/(E<a*a/\sg (a*a-E)=1):=by unfold sg;split<;>(try split)<;>omega
   generalize a*a=q at *
   rcases h1 with⟨x1,x2⟩ |⟨x1,x2⟩ |⟨x1,x2⟩<;>rcases h2 with⟨y1,y2⟩ |⟨y1,y2⟩ |⟨y1,y2⟩<;>rw[x1,y1]<;>simp<;>omega
  ·rw[if_neg hp,if_neg (by omega)]
   have h1:0<=(b*t-u*n)*(b*t-u*n):=by
    rcases Int.le_total 0 (b*t-u*n)with z |z
    ·exact MZ z z
    ·exact Pb z z
   have h2:e*n*n<0:=by rw[Ng];exact OI (by omega) (ML hn hn)
   show sg _=1;unfold sg;rw[if_neg (by omega),if_pos (by omega)]
noncomputable def ah(f:Ex):Ex:=aD (aE (cf f 0) (cf f 1) (cf f 2))
theorem xt(x y:Int):sg (x*y)=sg x*sg y:=by
 rcases Int.lt_trichotomy x 0 with hx |hx |hx
 ·have h1:sg x = -1:=by unfold sg;rw[if_pos hx]
  have e:x*y = -((-x)*y):=by grind
  rw[e,CP,dQ (by omega),h1];omega
 ·subst hx;rw[Nn];show(0:Int)=0*_;rw[Nn]
 ·have h1:sg x=1:=by unfold sg;rw[if_neg (by omega),if_pos hx]
  rw[dQ hx,h1,Ni]
theorem kH{l:Ex}(h:Tr l)(hne:l≠[])(hp:0<al l):∃g:Int,0<g/\l=scL g (aD l):=by
 obtain⟨g,hg,e⟩:=jt h
 have e2:l=scL g (aD l):=by
  apply dO
  ·rw[b9,plain_len]
  ·intro k _;rw[bh,e k]
 have hP:=eU h hne;refine⟨g,?_,e2⟩;obtain⟨r,x,er⟩:=(cO l).resolve_left hne;have hx:al l=cf l r.length:=by rw[er,di,jN]
 obtain⟨r',x',er'⟩:=(cO (aD l)).resolve_left hP.ne;have hx':al (aD l)=cf (aD l) r'.length:=by rw[er',di,jN]
 have hl:r.length=r'.length:=by have:=plain_len l;have h1:=congrArg List.length er;have h2:=congrArg List.length er';simp at h1 h2;omega
 have h3:=e r.length;rw[<- hx,hl,<- hx']at h3;have h4:=hP.pos;rw[h3]at hp;rcases Ot hg with z |z
 ·have:=OI z h4;omega
 ·exact z
theorem CI{u e b t n:Int}(hb:1<=b)(hn:0<n):sg (hv t n (ah [u,e,b]))=spr t n (spF [u,e,b]):=by
 obtain⟨tr,l2⟩:=fX (u:=u) (e:=e) hb;have hne:aE u e b≠[]:=λz=>by rw[z]at l2;simp at l2
 have hlast:0<al (aE u e b):=by
  unfold aE;split
  ·show 0<al ([-u]++[b]);rw[di];omega
  ·show 0<al ([u*u-e,-2*b*u]++[b*b]);rw[di];exact ML (by omega) (by omega)
 obtain⟨g,hg,eg⟩:=kH tr hne hlast;rw[<- DY hn];show sg (hv t n (aD (aE u e b)))=_
 have e3:hv t n (aE u e b)=g*hv t n (aD (aE u e b)):=by
  calc hv t n (aE u e b)=hv t n (scL g (aD (aE u e b))):=by rw[<- eg]
   _=_:=zF _ _ _ _
 rw[e3,dQ hg]
def fc(f:Ex):Prop:=∃u e b:Int,f=[u,e,b]/\1<=b
theorem yf{t n:Int}(hn:0<n):∀(fs:List Ex),(∀f∈fs,fc f)->sg (pr t n (fs.map ah))=spr t n (aK fs)
 | [],_=>rfl
 |f::fs,h=>by
  obtain⟨u,e,b,rfl,hb⟩:=h f (MP ..);have ih:=yf (t:=t) hn fs λx hx=>h x (MK _ hx)
  have e1:aK ([u,e,b]::fs)=spF [u,e,b]++aK fs:=by unfold aK;rw[List.flatMap_cons]
  show sg (hv t n (ah [u,e,b])*pr t n (fs.map ah))=_;rw[xt,CI hb hn,ih,e1,lX]
theorem pA{f:Ex}(h:fc f):ah f≠[]/\Tr (ah f):=by obtain⟨u,e,b,rfl,hb⟩:=h;obtain⟨tr,l2⟩:=fX (u:=u) (e:=e) hb;refine⟨λz=>?_,gS tr⟩;have:=plain_len (aE u e b);have z':aD (aE u e b)=[]:=z;rw[z']at this;simp at this;omega
theorem mQ{t n c:Int}(hn:0<n){fs:List Ex}(h:∀f∈fs,fc f):sg (hv t n (af [c] (aO [1] (fs.map ah))))=sg c*spr t n (aK fs):=by
 have hs:∀s∈fs.map ah,s≠[]/\Tr s:=λs hs=>by obtain⟨x,hx,rfl⟩:=MW.mp hs;exact pA (h x hx)
 obtain⟨p1,p2,p3⟩:=jq (fs.map ah) [1] (by simp) ((tr_snoc (r:=[])).mpr (by decide)) hs;have e1:=nI t n (a:=[c]) (b:=aO [1] (fs.map ah)) p1 (by simp);have e2:=nF t n (fs.map ah) [1] (by simp) λs h=>(hs s h).1
 rw[kZ]at e1 e2;rw[<- yf hn fs h]
 have e3:hv t n (af [c] (aO [1] (fs.map ah)))=c*hv t n (aO [1] (fs.map ah)):=by refine Pi (Nk hn) ?_;rw[e1];grind
 rw[e3,xt];have e4:=congrArg sg e2;rw[dQ (NB hn),Ni,dQ hn]at e4;rw[e4]
def inS(l:Ex)(A B D:Int):Prop:=0<au l A D/\au l B D<=0
instance (l:Ex) (A B D:Int):Decidable (inS l A B D):=inferInstanceAs (Decidable (_/\_))
structure Fsm(u e b:Int):Prop where
 u1 : -1000000000<=u
 u2:u<=1000000000
 e0:0<=e
 e1:e<=10000000000000000
 b1:1<=b
 b2:b<=1000
theorem Ho{x:Int}{n:Nat}(h1 : -(n:Int)<=x)(h2:x<=n):x.natAbs<=n:=by omega
theorem ny{x D:Int}(hD:0<D)(h1 : -(30000000000000*D)<=x)(h2:x<=30000000000000*D):x.natAbs<=30000000000000*D.natAbs:=by
 have e:((30000000000000*D.natAbs:Nat):Int)=30000000000000*D:=by rw[NK,Int.natAbs_of_nonneg (MN hD)];rfl
 exact Ho (by rw[e];exact h1) (by rw[e];exact h2)
theorem yI{u e b s A B D:Int}(h:Fsm u e b)(hs:s=1\/s = -1/\0<e)(hD:2^200<=D)(hw:B=A+128)(hi:inS [u,e,b,s] A B D):((b*A-u*D)*(b*A-u*D)-e*D*D).natAbs<=30000000000000*D.natAbs:=by
 obtain⟨u1,u2,e0,e1,b1,b2⟩:=h;have hDD:0<D:=by omega
 have eB:b*B-u*D=b*A-u*D+128*b:=by rw[hw];grind
 have h36:e*D*D<=100000000*D*(100000000*D):=by
  have h1:e*(D*D)<=10000000000000000*(D*D):=Np (by omega) (MN (ML hDD hDD));have e2:e*D*D=e*(D*D):=by grind
  have e3:100000000*D*(100000000*D)=10000000000000000*(D*D):=by grind
  omega
 have hE0:0<=e*D*D:=MZ (MZ e0 (by omega)) (by omega)
 have hbig:e=0\/16384000000<e*D*D:=by
  rcases NF 0 e with z |z
  ·right;have h1:1*(D*D)<=e*(D*D):=Np (by omega) (MN (ML hDD hDD));have e2:e*D*D=e*(D*D):=by grind
   have h2:1*D<=D*D:=Np (by omega) (by omega);omega
  ·left;omega
 rcases hs with rfl |⟨rfl,hp⟩
 ·have i1:0<aY (e*D*D) (b*A-u*D):=hi.1;have i2:aY (e*D*D) (b*B-u*D)<=0:=hi.2;rw[eB]at i2;generalize b*A-u*D=a at *
  have k1:a<0\/a*a<e*D*D:=by rcases bR (e*D*D) a with z |z |z<;>omega
  have k2:0<=a+128*b/\e*D*D<=(a+128*b)*(a+128*b):=by rcases bR (e*D*D) (a+128*b)with z |z |z<;>omega
  by_cases ha:a<0
  ·have q1:=ir k2.1 (show a+128*b<=128000 by omega);have z0:e=0:=by omega
   subst z0;have q2:(-a)*(-a)<=128000*128000:=ir (by omega) (by omega);have q3:(-a)*(-a)=a*a:=by grind
   have q4:0<=a*a:=by rw[<- q3];exact MZ (by omega) (by omega)
   rw[Nn,Nn];exact ny hDD (by omega) (by omega)
  ·have k3:a*a<e*D*D:=by omega
   have k4:a<100000000*D:=Hk (by omega) (by omega);have e3:(a+128*b)*(a+128*b)=a*a+256*(b*a)+16384*(b*b):=by grind
   have k5:b*a<=1000*a:=Np b2 (by omega);have k6:b*b<=1000000:=OC b2 b2 (by omega) (by omega);exact ny hDD (by omega) (by omega)
 ·have i1:0<0-aY (e*D*D) (0-(b*A-u*D)):=hi.1;have i2:0-aY (e*D*D) (0-(b*B-u*D))<=0:=hi.2;rw[eB]at i2;have eq1:(b*A-u*D)*(b*A-u*D)=(0-(b*A-u*D))*(0-(b*A-u*D)):=by grind
  have eq2:0-(b*A-u*D+128*b)=0-(b*A-u*D)-128*b:=by omega
  rw[eq1];rw[eq2]at i2;generalize 0-(b*A-u*D)=c at *
  have k1:0<=c/\e*D*D<c*c:=by rcases bR (e*D*D) c with z |z |z<;>omega
  have k2:c-128*b<0\/(c-128*b)*(c-128*b)<=e*D*D:=by rcases bR (e*D*D) (c-128*b)with z |z |z<;>omega
  by_cases hc:c-128*b<0
  ·have q1:=ir k1.1 (show c<=128000 by omega);exact ny hDD (by omega) (by omega)
  ·have k3:(c-128*b)*(c-128*b)<=e*D*D:=by omega
   have k4:c-128*b<=100000000*D:=Hn (by omega) (by omega);have e3:c*c=(c-128*b)*(c-128*b)+256*(b*c)-16384*(b*b):=by grind
   have k5:b*c<=1000*c:=Np b2 (by omega);have k6:0<=b*b:=MZ (by omega) (by omega);exact ny hDD (by omega) (by omega)
theorem BH{u e b A B D:Int}(h:Fsm u e b)(he:0<e)(hD:2^200<=D)(hw:B=A+128)(h1:inS [u,e,b,1] A B D)(h2:inS [u,e,b,-1] A B D):False:=by
 obtain⟨u1,u2,e0,e1,b1,b2⟩:=h;have hDD:0<D:=by omega
 have eB:b*B-u*D=b*A-u*D+128*b:=by rw[hw];grind
 have i1:aY (e*D*D) (b*B-u*D)<=0:=h1.2;have i2:0<0-aY (e*D*D) (0-(b*A-u*D)):=h2.1;rw[eB]at i1;generalize b*A-u*D=a at *
 have k1:0<=a+128*b:=by rcases bR (e*D*D) (a+128*b)with z |z |z<;>omega
 have k2:0<=0-a/\e*D*D<(0-a)*(0-a):=by rcases bR (e*D*D) (0-a)with z |z |z<;>omega
 have k3:=ir k2.1 (show 0-a<=128000 by omega);have h3:1*(D*D)<=e*(D*D):=Np (by omega) (MN (ML hDD hDD));have e2:e*D*D=e*(D*D):=by grind
 have h4:1*D<=D*D:=Np (by omega) (by omega);omega
theorem da{x y:Int}{a b:Nat}(hx:x.natAbs<=a)(hy:y.natAbs<=b):(x*y).natAbs<=a*b:=by rw[MY];exact N4 hx hy
theorem yK(N:Nat):1000*1000*(30000000000000*N)+1000*1000*(30000000000000*N)<=60000000000000000000*N/\1000*1000*(30000000000000*N)<=30000000000000000000*N:=by omega
theorem GH{n2 n3 n4 x1 x2 x3:Nat}(h:n4<=x1+x2+x3)(t1:x1<=482400000000000000000000000000000000000000000*n3)(t2:x2<=3600000000000000000000000000000000000000*n2)(t3:x3<=480000000000000000000000000000000000000000000*n3)(m1:n2<=n3)(m2:1606938044258990275541962092341162602522202993782792835301376*n3<=n4)(m4:0<n3):False:=by omega
theorem GI{u e b u' e' b' A D:Int}(h:Fsm u e b)(h':Fsm u' e' b')(hD:2^200<=D)
 (n1:((b*A-u*D)*(b*A-u*D)-e*D*D).natAbs<=30000000000000*D.natAbs) (n2:((b'*A-u'*D)*(b'*A-u'*D)-e'*D*D).natAbs<=30000000000000*D.natAbs) :
 4*((b*u'-u*b')*(b*u'-u*b'))*(b*b*e')=(b'*b'*e-b*b*e'-(b*u'-u*b')*(b*u'-u*b'))*(b'*b'*e-b*b*e'-(b*u'-u*b')*(b*u'-u*b')):=by
 obtain⟨u1,u2,e0,e1,b1,b2⟩:=h;obtain⟨u1',u2',e0',e1',b1',b2'⟩:=h';obtain⟨N,rfl⟩:=OJ (show 0<=D by omega);rw[Nm]at n1 n2;have hN:1606938044258990275541962092341162602522202993782792835301376<=N:=by omega
 have q9:(b'*b').natAbs<=1000*1000:=da (a:=1000) (b:=1000) (by omega) (by omega);have q9':(b*b).natAbs<=1000*1000:=da (a:=1000) (b:=1000) (by omega) (by omega);have d1:=da q9 n1;have d2:=da q9' n2
 have hU:(b*u'-u*b').natAbs<=2000000000000:=by have a1:(b*u').natAbs<=1000*1000000000:=da (by omega) (by omega);have a2:(u*b').natAbs<=1000000000*1000:=da (by omega) (by omega);exact MV (OM _ _) (O4 a1 a2)
 have hE1:(b'*b'*e).natAbs<=1000*1000*10000000000000000:=da q9 (by omega);have hE2:(b*b*e').natAbs<=1000*1000*10000000000000000:=da q9' (by omega);have r1:(b'*(b*A-u*N))*(b'*(b*A-u*N))=b'*b'*e*(N*N)+b'*b'*((b*A-u*N)*(b*A-u*N)-e*N*N):=by grind
 have r2:(b*(b'*A-u'*N))*(b*(b'*A-u'*N))=b*b*e'*(N*N)+b*b*((b'*A-u'*N)*(b'*A-u'*N)-e'*N*N):=by grind
 have r3:b'*(b*A-u*N)=b*(b'*A-u'*N)+(b*u'-u*b')*N:=by grind
 generalize b'*b'*((b*A-u*N)*(b*A-u*N)-e*N*N)=δ1 at *
 generalize b*b*((b'*A-u'*N)*(b'*A-u'*N)-e'*N*N)=δ2 at *
 rw[r3]at r1;generalize b*(b'*A-u'*N)=Y at *
 generalize b*u'-u*b'=U at *
 generalize b'*b'*e=E1 at *
 generalize b*b*e'=E2 at *
 clear n1 n2 q9 q9' r3 u1 u2 e0 e1 b1 b2 u1' u2' e0' e1' b1' b2' hD;have hUU:(U*U).natAbs<=2000000000000*2000000000000:=da hU hU;have hW:(E1-E2-U*U).natAbs<=4020000000000000000000000:=MV (OM _ _) (MV (O4 (MV (OM _ _) (O4 hE1 hE2)) hUU) (by decide));generalize hWd:E1-E2-U*U=W at *
 have r4:2*U*N*Y=W*(N*N)+(δ1-δ2):=by rw[<- hWd];grind
 have r5:(2*U*N*Y)*(2*U*N*Y)=4*(U*U)*(N*N)*(Y*Y):=by grind
 rw[r4,r2]at r5;have hM:(δ1-δ2).natAbs<=60000000000000000000*N:=MV (OM _ _) (MV (O4 d1 d2) (yK N).1);have hδ2:δ2.natAbs<=30000000000000000000*N:=MV d2 (yK N).2;generalize δ1-δ2=δ at *
 have hNN:(0:Int)<(N:Int)*N:=ML (by omega) (by omega);have r6:(4*(U*U)*E2-W*W)*(N*N)*(N*N)=2*W*δ*(N*N)+δ*δ-4*(U*U)*δ2*(N*N):=by grind
 refine Int.sub_eq_zero.mp (Classical.byContradiction λhne=>?_);generalize hZ:4*(U*U)*E2-W*W=Z at *
 have hZ1:1<=Z.natAbs:=by omega
 have b1:(Z*(N*N)*(N*N)).natAbs=Z.natAbs*(N*N)*(N*N):=by rw[MY,MY,MY,Nm]
 have t1:(2*W*δ*(N*N)).natAbs<=2*4020000000000000000000000*(60000000000000000000*N)*(N*N):=by refine da (da (da (by decide) hW) hM) ?_;rw[MY,Nm];exact MJ _
 have t2:(δ*δ).natAbs<=60000000000000000000*N*(60000000000000000000*N):=da hM hM
 have t3:(4*(U*U)*δ2*(N*N)).natAbs<=4*(2000000000000*2000000000000)*(30000000000000000000*N)*(N*N):=by refine da (da (da (by decide) hUU) hδ2) ?_;rw[MY,Nm];exact MJ _
 have t4:1*(N*N)*(N*N)<=Z.natAbs*(N*N)*(N*N):=Nz _ (Nz _ hZ1);rw[<- b1,r6]at t4;have e1:2*4020000000000000000000000*(60000000000000000000*N)*(N*N)=482400000000000000000000000000000000000000000*(N*N*N):=by grind
 have e2:60000000000000000000*N*(60000000000000000000*N)=3600000000000000000000000000000000000000*(N*N):=by grind
 have e3:4*(2000000000000*2000000000000)*(30000000000000000000*N)*(N*N)=480000000000000000000000000000000000000000000*(N*N*N):=by grind
 have e4:1*(N*N)*(N*N)=N*(N*N*N):=by grind
 have m1:1*(N*N)<=N*(N*N):=Nz _ (by omega);have m2:1606938044258990275541962092341162602522202993782792835301376*(N*N*N)<=N*(N*N*N):=Nz _ hN;have m3:N*(N*N)=N*N*N:=by grind
 have m4:0<N*N*N:=Nat.mul_pos (Nat.mul_pos (by omega) (by omega)) (by omega);rw[e4]at t4;rw[e1]at t1;rw[e2]at t2;rw[e3]at t3;rw[Nat.one_mul,m3]at m1;exact GH (MV t4 (MV (OM _ _) (Nat.add_le_add_right (Int.natAbs_add_le _ _) _))) t1 t2 t3 m1 m2 m4
theorem CJ{u e b u' e' b':Int}(h:Fsm u e b)(h':Fsm u' e' b')(hs:NS e)(hs':NS e')
 (eq:4*((b*u'-u*b')*(b*u'-u*b'))*(b*b*e')=(b'*b'*e-b*b*e'-(b*u'-u*b')*(b*u'-u*b'))*(b'*b'*e-b*b*e'-(b*u'-u*b')*(b*u'-u*b'))):ah [u,e,b]=ah [u',e',b']:=by
 obtain⟨u1,u2,e0,e1,b1,b2⟩:=h;obtain⟨u1',u2',e0',e1',b1',b2'⟩:=h'
 have key:b*u'-u*b'=0/\b'*b'*e=b*b*e':=by
  by_cases hz:e'=0
  ·subst hz
   have e3:(b'*b'*e-(b*u'-u*b')*(b*u'-u*b'))*(b'*b'*e-(b*u'-u*b')*(b*u'-u*b'))=0:=by
    have:b*b*(0:Int)=0:=M8 _;rw[this]at eq;rw[M8]at eq;have h9:b'*b'*e-0-(b*u'-u*b')*(b*u'-u*b')=b'*b'*e-(b*u'-u*b')*(b*u'-u*b'):=by omega
    rw[h9]at eq;exact eq.symm
   have e4:b'*b'*e=(b*u'-u*b')*(b*u'-u*b'):=by rcases NM.mp e3 with z |z<;>omega
   by_cases hz2:e=0
   ·subst hz2;rw[M8]at e4;refine⟨?_,by rw[M8,M8]⟩;rcases NM.mp e4.symm with z |z<;>exact z
   ·exact(hs.no hz2 (by omega) e4).elim
  ·by_cases hU:b*u'-u*b'=0
   ·rw[hU]at eq
    have e3:(b'*b'*e-b*b*e')*(b'*b'*e-b*b*e')=0:=by
     have h8:4*((0:Int)*0)*(b*b*e')=0:=by rw[M8,M8,Nn]
     rw[h8]at eq;have h9:b'*b'*e-b*b*e'-0*0=b'*b'*e-b*b*e':=by omega
     rw[h9]at eq;exact eq.symm
    refine⟨hU,?_⟩;rcases NM.mp e3 with z |z<;>omega
   ·refine(hs'.no hz (x:=2*(b*u'-u*b')*b) (M0 (M0 (by decide) hU) (by omega)) (Eq.trans ?_ eq)).elim;grind
 obtain⟨k1,k2⟩:=key;show aD (aE u e b)=aD (aE u' e' b');obtain⟨tr,l2⟩:=fX (u:=u) (e:=e) b1;obtain⟨tr',l2'⟩:=fX (u:=u') (e:=e') b1';have hne:aE u e b≠[]:=λz=>by rw[z]at l2;simp at l2
 have hne':aE u' e' b'≠[]:=λz=>by rw[z]at l2';simp at l2'
 have hz:e=0↔e'=0:=by
  constructor
  ·intro z;rw[z,M8]at k2;rcases NM.mp k2.symm with y |y
   ·rcases NM.mp y with y |y<;>omega
   ·exact y
  ·intro z;rw[z,M8]at k2;rcases NM.mp k2 with y |y
   ·rcases NM.mp y with y |y<;>omega
   ·exact y
 have prop:∃x y:Int,x≠0/\y≠0/\∀n,x*cf (aE u' e' b') n=y*cf (aE u e b) n:=by
  by_cases h0:e=0
  ·have h0':=hz.mp h0;refine⟨b,b',by omega,by omega,λn=>?_⟩;unfold aE;rw[if_pos h0,if_pos h0',uo,uo];split
   ·have:b*u'=u*b':=by omega
    grind
   ·split
    ·grind
    ·omega
  ·have h0':¬e'=0:=λz=>h0 (hz.mpr z)
   refine⟨b*b,b'*b',M0 (by omega) (by omega),M0 (by omega) (by omega),λn=>?_⟩;have k3:b*u'=u*b':=by omega
   unfold aE;rw[if_neg h0,if_neg h0']
   match n with
   |0 =>
    show b*b*(u'*u'-e')=b'*b'*(u*u-e);have:(b*u')*(b*u')=(u*b')*(u*b'):=by rw[k3]
    grind
   |1 =>
    show b*b*(-2*b'*u')=b'*b'*(-2*b*u);have:b*b'*(b*u')=b*b'*(u*b'):=by rw[k3]
    grind
   |2 =>show b*b*(b'*b')=b'*b'*(b*b);grind
   |n+3 =>show b*b*0=b'*b'*0;omega
 obtain⟨x,y,hx,hy,hp⟩:=prop;refine rM (eU tr hne) (eU tr' hne') ?_ ?_
 ·rw[Dv.plain tr'];refine Dv.prop_right hx hp ?_;obtain⟨g,hg,eg⟩:=jt tr;exact⟨1,[g],by decide,λn=>by rw[fD,<- eg];omega⟩
 ·rw[Dv.plain tr];refine Dv.prop_right (x:=y) (y:=x) hy (λn=>(hp n).symm) ?_;obtain⟨g,hg,eg⟩:=jt tr';exact⟨1,[g],by decide,λn=>by rw[fD,<- eg];omega⟩
def FacG(f:Ex):Prop:=∃u e b:Int,f=[u,e,b] /\ -1000000000<=u/\u<=1000000000 /\ -10000000000000000<=e/\e<=10000000000000000/\1<=b/\b<=1000/\NS e
theorem FacG.q{f:Ex}(h:FacG f):fc f:=by obtain⟨u,e,b,rfl,_,_,_,_,h5,_⟩:=h;exact⟨u,e,b,rfl,h5⟩
def Bq(l l':Ex):Prop:=∀A B D:Int,2^200<=D->B=A+128->inS l A B D->inS l' A B D->False
theorem oO{fs:List Ex}(hF:∀f∈fs,FacG f)(hn:(fs.map ah).Nodup):(aK fs).Pairwise Bq:=by
 unfold aK;rw[List.pairwise_flatMap];constructor
 ·intro f hf;obtain⟨u,e,b,rfl,h1,h2,h3,h4,h5,h6,h7⟩:=hF f hf;have hd:spF [u,e,b]=(if 0<=e then[[u,e,b,1]]else[])++(if 0<e then[[u,e,b,-1]]else[]):=rfl;rw[hd];by_cases z:0<e
  ·rw[if_pos (by omega),if_pos z];show List.Pairwise _ [[u,e,b,1],[u,e,b,-1]];refine List.pairwise_pair.mpr λA B D hD hw a1 a2=>?_
   exact BH ⟨h1,h2,by omega,h4,h5,h6⟩ z hD hw a1 a2
  ·rw[if_neg z];split
   ·exact List.pairwise_singleton _ _
   ·exact List.Pairwise.nil
 ·rw[List.nodup_iff_pairwise_ne,List.pairwise_map]at hn;refine hn.imp_of_mem λ{f g} hf hg hne x hx y hy A B D hD hw a1 a2=>hne ?_
  obtain⟨u,e,b,rfl,h1,h2,h3,h4,h5,h6,h7⟩:=hF f hf;obtain⟨u',e',b',rfl,h1',h2',h3',h4',h5',h6',h7'⟩:=hF g hg;obtain⟨_,s,rfl,he,hs⟩:=oP rfl h5 hx;obtain⟨_,s',rfl,he',hs'⟩:=oP rfl h5' hy;have F1:Fsm u e b:=⟨h1,h2,he,h4,h5,h6⟩;have F2:Fsm u' e' b':=⟨h1',h2',he',h4',h5',h6'⟩;exact CJ F1 F2 h7 h7' (GI F1 F2 hD (yI F1 hs hD hw a1) (yI F2 hs' hD hw a2))
theorem dk{fs:List Ex}(hF:∀f∈fs,fc f){l:Ex}(hl:l∈aK fs):Spt l:=by obtain⟨f,hf,hm⟩:=N5.mp hl;obtain⟨u,e,b,rfl,hb⟩:=hF f hf;exact(oP rfl hb hm).1
noncomputable def pv:Ex->Rat->Rat
 | [],_=>0
 |c::l,x=>(c:Rat)+x*pv l x
theorem yc:∀(N:Nat) (a b c:Ex) (u v:Int) (x:Rat),a.length<=N->b.length<=N->c.length<=N->(∀n,cf c n=u*cf a n+v*cf b n)->pv c x=(u:Rat)*pv a x+(v:Rat)*pv b x
 |0,a,b,c,u,v,x,ha,hb,hc,_=>by rw[Os (Nat.le_zero.mp ha),Os (Nat.le_zero.mp hb),Os (Nat.le_zero.mp hc)];show(0:Rat)=u*0+v*0;grind
 |N+1,a,b,c,u,v,x,ha,hb,hc,h=>by
  have key:∀l:Ex,l.length<=N+1->pv l x=(cf l 0:Rat)+x*pv l.tail x/\l.tail.length<=N/\∀n,cf l.tail n=cf l (n+1):=λl hl=>by
   cases l with
   |nil=>exact⟨by show(0:Rat)=((0:Int):Rat)+x*0;grind,MQ _,λn=>by rw[cj];rfl⟩
   |cons y l=>exact⟨rfl,by simpa using hl,λn=>rfl⟩
  obtain⟨a1,a2,a3⟩:=key a ha;obtain⟨b1,b2,b3⟩:=key b hb;obtain⟨c1,c2,c3⟩:=key c hc;have ih:=yc N a.tail b.tail c.tail u v x a2 b2 c2 λn=>by rw[a3,b3,c3,h]
  have h0:(cf c 0:Rat)=(u:Rat)*(cf a 0:Rat)+(v:Rat)*(cf b 0:Rat):=by rw[h 0,OO,MS,MS]
  rw[a1,b1,c1,ih,h0];grind
theorem mO{a b c:Ex}{u v:Int}(x:Rat)(h:∀n,cf c n=u*cf a n+v*cf b n):pv c x=(u:Rat)*pv a x+(v:Rat)*pv b x :=
 yc (a.length+b.length+c.length) a b c u v x (by omega) (by omega) (by omega) h
theorem kD{a c:Ex}{u:Int}(x:Rat)(h:∀n,cf c n=u*cf a n):pv c x=(u:Rat)*pv a x:=by
 have:=mO (a:=a) (b:=[]) (c:=c) (u:=u) (v:=0) x λn=>by rw[h n,Nn,NE]
 rw[this];show _+((0:Int):Rat)*0=_;grind
theorem ya(x:Rat):∀(a b c:Ex),(∀n,cf c n=aw a b n)->pv c x=pv a x*pv b x
 | [],b,c,h=>by
  have:=kD (a:=[]) (c:=c) (u:=0) x λn=>by rw[h n,dY];simp
  rw[this];show _=(0:Rat)*_;show((0:Int):Rat)*0=0*_;grind
 |y::a,b,c,h=>by
  have ih:=ya x a b (af a b) (aJ a b)
  have:=mO (a:=b) (b:=0::af a b) (c:=c) (u:=y) (v:=1) x λn=>by
   rw[h n,dJ,n5,Ni]
   congr 1
   unfold up;split
   ·rfl
   ·rw[aJ]
  rw[this];show(y:Rat)*pv b x+((1:Int):Rat)*(((0:Int):Rat)+x*pv (af a b) x)=((y:Rat)+x*pv a x)*pv b x;rw[ih];grind
theorem fk{a b:Rat}(ha:0<a)(hb:0<b):0<a/b:=by rw[Rat.div_def];exact M5 ha (Rat.inv_pos.mpr hb)
noncomputable def Bd(M v:Rat):Prop := -M<=v/\v<=M
theorem Bd.mul{M N u v:Rat}(h1:Bd M u)(h2:Bd N v):Bd (M*N) (u*v):=by obtain⟨a,b⟩:=h1;obtain⟨c,d⟩:=h2;have p1:0<=(M-u)*(N-v):=M9 (by grind) (by grind);have p2:0<=(M+u)*(N+v):=M9 (by grind) (by grind);have p3:0<=(M-u)*(N+v):=M9 (by grind) (by grind);have p4:0<=(M+u)*(N-v):=M9 (by grind) (by grind);constructor<;>grind
theorem Bd.add{M N u v:Rat}(h1:Bd M u)(h2:Bd N v):Bd (M+N) (u+v):=by obtain⟨a,b⟩:=h1;obtain⟨c,d⟩:=h2;constructor<;>grind
theorem Bd.mono{M N u:Rat}(h1:Bd M u)(h:M<=N):Bd N u:=by obtain⟨a,b⟩:=h1;constructor<;>grind
def Nice(f:Rat->Rat):Prop:=∀R:Rat,0<=R->∃M:Rat,0<=M/\(∀x,Bd R x->Bd M (f x))/\∀x y,Bd R x->Bd R y->x<=y->Bd (M*(y-x)) (f y-f x)
theorem jy(c:Rat):Nice λ_=>c:=λR _=>by
 rcases NG (a:=0) (b:=c)with h |h
 ·exact⟨c,h,λx _=>⟨by grind,by grind⟩,λx y _ _ hxy=>by
   have:=M9 h (show 0<=y-x by grind)
   exact⟨by grind,by grind⟩⟩
 ·exact⟨-c,by grind,λx _=>⟨by grind,by grind⟩,λx y _ _ hxy=>by
   have:=M9 (show 0 <= -c by grind) (show 0<=y-x by grind)
   exact⟨by grind,by grind⟩⟩
theorem nice_id:Nice λx=>x:=λR hR=>by refine⟨R+1,by grind,λx h=>h.mono (by grind),λx y _ _ hxy=>?_⟩;have:=M9 hR (show 0<=y-x by grind);exact⟨by grind,by grind⟩
theorem Nice.add{f g:Rat->Rat}(hf:Nice f)(hg:Nice g):Nice λx=>f x+g x:=λR hR=>by
 obtain⟨M,m0,m1,m2⟩:=hf R hR;obtain⟨N,n0,n1,n2⟩:=hg R hR;refine⟨M+N,by grind,λx h=>(m1 x h).add (n1 x h),λx y hx hy hxy=>?_⟩;have:=(m2 x y hx hy hxy).add (n2 x y hx hy hxy);have e1:M*(y-x)+N*(y-x)=(M+N)*(y-x):=by grind
 have e2:f y-f x+(g y-g x)=f y+g y-(f x+g x):=by grind
 rwa [e1,e2]at this
theorem Nice.mul{f g:Rat->Rat}(hf:Nice f)(hg:Nice g):Nice λx=>f x*g x:=λR hR=>by
 obtain⟨M,m0,m1,m2⟩:=hf R hR;obtain⟨N,n0,n1,n2⟩:=hg R hR;have p:=M9 m0 n0;refine⟨2*(M*N),by grind,λx h=>((m1 x h).mul (n1 x h)).mono (by grind),λx y hx hy hxy=>?_⟩;have:=((m2 x y hx hy hxy).mul (n1 y hy)).add ((m1 x hx).mul (n2 x y hx hy hxy));have e1:M*(y-x)*N+M*(N*(y-x))=2*(M*N)*(y-x):=by grind
 have e2:(f y-f x)*g y+f x*(g y-g x)=f y*g y-f x*g x:=by grind
 rwa [e1,e2]at this
theorem eX:∀l:Ex,Nice (pv l)
 | []=>jy 0
 |c::l=>(jy (c:Rat)).add (nice_id.mul (eX l))
theorem x9:∀(l:Ex) (R:Rat),0<=R->∃M:Rat,0<=M/\∀x y,Bd R x->Bd R y->x<=y->Bd (M*((y-x)*(y-x))) (pv l y-pv l x-(y-x)*pv (slopeL l) x)
 | [],R,_=>⟨0,by grind,λx y _ _ _=>by
  have e:pv [] y-pv [] x-(y-x)*pv (slopeL []) x=0:=by show(0:Rat)-0-(y-x)*0=0;grind
  rw[e];constructor<;>grind⟩
 |c::l,R,hR=>by
  obtain⟨M,m0,m1⟩:=x9 l R hR;obtain⟨N,n0,n1,n2⟩:=eX l R hR;have p:=M9 hR m0;refine⟨N+R*M,by grind,λx y hx hy hxy=>?_⟩
  have hd:pv (slopeL (c::l)) x=pv l x+x*pv (slopeL l) x:=by
   have:=mO (a:=l) (b:=0::slopeL l) (c:=slopeL (c::l)) (u:=1) (v:=1) x λn=>xh c l n
   rw[this];show((1:Int):Rat)*pv l x+((1:Int):Rat)*(((0:Int):Rat)+x*pv (slopeL l) x)=_;grind
  have hz:Bd (y-x) (y-x):=⟨by grind,by grind⟩;have:=(hz.mul (n2 x y hx hy hxy)).add (hx.mul (m1 x y hx hy hxy));have e1:(y-x)*(N*(y-x))+R*(M*((y-x)*(y-x)))=(N+R*M)*((y-x)*(y-x)):=by grind
  have e2:(y-x)*(pv l y-pv l x)+x*(pv l y-pv l x-(y-x)*pv (slopeL l) x)=pv (c::l) y-pv (c::l) x-(y-x)*pv (slopeL (c::l)) x:=by rw[hd];show _=((c:Rat)+y*pv l y)-((c:Rat)+x*pv l x)-_;grind
  rwa [e1,e2]at this
noncomputable def sgR(v:Rat):Int:=if v<0 then -1 else if 0<v then 1 else 0
theorem cq(v:Rat):(v<0/\sgR v = -1)\/(v=0/\sgR v=0)\/(0<v/\sgR v=1):=by
 unfold sgR;by_cases h:v<0
 ·exact .inl ⟨h,by rw[if_pos h]⟩
 ·by_cases h2:0<v
  ·exact .inr (.inr ⟨h2,by rw[if_neg h,if_pos h2]⟩)
  ·exact .inr (.inl ⟨by grind,by rw[if_neg h,if_neg h2]⟩)
def Sta(f:Rat->Rat)(x y:Rat):Prop:=sgR (f x)=sgR (f y)/\sgR (f x)≠0
theorem rY{f:Rat->Rat}{x y D:Rat}(h:¬Sta f x y)(hd:Bd D (f y-f x)):Bd D (f x)/\Bd D (f y):=by
 obtain⟨d1,d2⟩:=hd
 have key:(f x<=0/\0<=f y)\/(0<=f x/\f y<=0):=by
  rcases cq (f x)with⟨a,b⟩ |⟨a,b⟩ |⟨a,b⟩<;>rcases cq (f y)with⟨c,d⟩ |⟨c,d⟩ |⟨c,d⟩
  ·exact absurd ⟨by rw[b,d],by rw[b];decide⟩ h
  ·exact .inl ⟨by grind,by grind⟩
  ·exact .inl ⟨by grind,by grind⟩
  ·exact .inr ⟨by grind,by grind⟩
  ·exact .inl ⟨by grind,by grind⟩
  ·exact .inl ⟨by grind,by grind⟩
  ·exact .inr ⟨by grind,by grind⟩
  ·exact .inr ⟨by grind,by grind⟩
  ·exact absurd ⟨by rw[b,d],by rw[b];decide⟩ h
 rcases key with⟨a,b⟩ |⟨a,b⟩
 ·exact⟨⟨by grind,by grind⟩,⟨by grind,by grind⟩⟩
 ·exact⟨⟨by grind,by grind⟩,⟨by grind,by grind⟩⟩
inductive SRow:List Ex->Prop
 |last {c:Int} (h:c≠0):SRow [[c]]
 |two {a:Ex} {c:Int} (h:c≠0):SRow [a,[c]]
 |cons {a b c:Ex} {r:List Ex} {q:Ex} {α β:Rat} (hα:0<α) (hβ:0<β) (e:∀x,α*pv a x=pv q x*pv b x-β*pv c x) (h:SRow (b::c::r)):SRow (a::b::c::r)
theorem rK(c:Int)(x:Rat):pv [c] x=(c:Rat):=by show(c:Rat)+x*0=c;grind
theorem bez:∀{row:List Ex},SRow row->∀a b r,row=a::b::r->∃(A B:Rat->Rat) (k:Rat),Nice A/\Nice B/\k≠0/\∀x,A x*pv a x+B x*pv b x=k
 |_,.last h,a,b,r,e=>by cases e
 |_,.two (c:=c) h,a,b,r,e=>by cases e;refine⟨λ_=>0,λ_=>1,(c:Rat),jy 0,jy 1,λz=>h (OP.mp (by rw[z];rfl)),λx=>?_⟩;rw[rK];grind
 |_,.cons (a:=a0) (b:=b0) (c:=c) (q:=q) (α:=α) (β:=β) hα hβ eq h,a,b,r,e=>by
  cases e;obtain⟨A,B,k,nA,nB,hk,hAB⟩:=bez h _ _ _ rfl;refine⟨λx=>(-α)*B x,λx=>β*A x+B x*pv q x,β*k,(jy (-α)).mul nB,((jy β).mul nA).add (nB.mul (eX q)),λz=>?_,λx=>?_⟩
  ·rcases Rat.mul_eq_zero.mp z with y |y
   ·grind
   ·exact hk y
  ·have h1:=hAB x;have h2:=eq x;have:(-α)*B x*pv a0 x+(β*A x+B x*pv q x)*pv b0 x=B x*(pv q x*pv b0 x-α*pv a0 x)+β*A x*pv b0 x:=by grind
   rw[this,h2];have:B x*(pv q x*pv b0 x-(pv q x*pv b0 x-β*pv c x))+β*A x*pv b0 x=β*(A x*pv b0 x+B x*pv c x):=by grind
   rw[this,h1]
theorem yq{a b:Rat->Rat}(na:Nice a)(nb:Nice b){A B:Rat->Rat}{k:Rat}(nA:Nice A)(nB:Nice B)(hk:0<k)(hAB:∀x,A x*a x+B x*b x=k\/A x*a x+B x*b x = -k){R:Rat}(hR:0<=R) :
 ∃(δ κ:Rat),0<δ/\0<κ/\∀x y,Bd R x->Bd R y->x<y->y-x<=δ->¬Sta a x y->Sta b x y/\(κ<=b x\/b x <= -κ)/\(κ<=b y\/b y <= -κ):=by
 obtain⟨M1,p1,q1,r1⟩:=na R hR;obtain⟨M2,p2,q2,r2⟩:=nb R hR;obtain⟨M3,p3,q3,_⟩:=nA R hR;obtain⟨M4,p4,q4,_⟩:=nB R hR;have h31:=M9 p3 p1;have h42:=M9 p4 p2;have hT:0<2*(M3*M1+M4*M2+1):=by grind
 have hT4:0<2*(M4+1):=by grind
 refine⟨k/(2*(M3*M1+M4*M2+1)),k/(2*(M4+1)),fk hk hT,fk hk hT4,λx y hx hy hxy hd hs=>?_⟩
 have hd':(y-x)*(2*(M3*M1+M4*M2+1))<=k:=by
  have:=Nv hd (MT hT)
  rwa [M6 (by grind)]at this
 have hyx:0<y-x:=by grind
 obtain⟨a1,a2⟩:=rY hs (r1 x y hx hy (by grind));have hM1:0<=M1*(y-x):=M9 p1 (MT hyx)
 have far:∀z,Bd R z->Bd (M1*(y-x)) (a z)->k/(2*(M4+1))<=b z\/b z <= -(k/(2*(M4+1))):=λz hz ha=>by
  have e1:=(q3 z hz).mul ha
  have e2:2*(M3*(M1*(y-x)))<=k:=by have h1:=M9 h42 (MT hyx);grind
  have hB:(k<=2*(B z*b z))\/(2*(B z*b z) <= -k):=by
   obtain⟨f1,f2⟩:=e1;rcases hAB z with g |g
   ·left;grind
   ·right;grind
  rcases NG (a:=k/(2*(M4+1))) (b:=b z)with g |g
  ·exact .inl g
  ·rcases NG (a:=b z) (b := -(k/(2*(M4+1))))with g2 |g2
   ·exact .inr g2
   ·exfalso;have hb:Bd (k/(2*(M4+1))) (b z):=⟨g2,g⟩;obtain⟨f1,f2⟩:=(q4 z hz).mul hb
    have e3:2*(M4*(k/(2*(M4+1))))<k:=by
     have e4:k/(2*(M4+1))*(2*(M4+1))=k:=M6 (by grind);have e5:=fk hk hT4;generalize k/(2*(M4+1))=w at *
     grind
    rcases hB with g3 |g3<;>grind
 refine⟨Classical.byContradiction λhs2=>?_,far x hx a1,far y hy a2⟩;obtain⟨b1,b2⟩:=rY hs2 (r2 x y hx hy (by grind));obtain⟨e1,e2⟩:=(q3 x hx).mul a1;obtain⟨e3,e4⟩:=(q4 x hx).mul b1;have hM:0<=(M3*M1+M4*M2)*(y-x):=M9 (by grind) (MT hyx);have e5:M3*(M1*(y-x))+M4*(M2*(y-x))=(M3*M1+M4*M2)*(y-x):=by grind
 have e6:(y-x)*(2*(M3*M1+M4*M2+1))=2*((M3*M1+M4*M2)*(y-x))+2*(y-x):=by grind
 rcases hAB x with g |g<;>grind
theorem AZ{row:List Ex}(h:SRow row){a b:Ex}{r:List Ex}(e:row=a::b::r):∃(A B:Rat->Rat) (k:Rat),Nice A/\Nice B/\0<k/\∀x,A x*pv a x+B x*pv b x=k\/A x*pv a x+B x*pv b x = -k:=by
 obtain⟨A,B,k,nA,nB,hk,hAB⟩:=bez h a b r e;rcases NG (a:=0) (b:=k)with g |g
 ·exact⟨A,B,k,nA,nB,by grind,λx=>.inl (hAB x)⟩
 ·exact⟨A,B,-k,nA,nB,by grind,λx=>.inr (by rw[hAB x];grind)⟩
noncomputable def vr:Int->Ex->Int
 |_,[]=>0
 |b,s::r=>(if s*b<0 then 1 else 0)+vr (if s=0 then b else s) r
theorem AF:∀(l:Ex) (n b:Int),l.foldl chF (n,b)=(n+vr b l,(l.foldl chF (n,b)).2)
 | [],n,b=>by show(n,b)=(n+0,b);rw[NE]
 |s::r,n,b=>by
  show r.foldl chF (chF (n,b) s)=(n+((if s*b<0 then 1 else 0)+vr (if s=0 then b else s) r),(r.foldl chF (chF (n,b) s)).2)
  have e:chF (n,b) s=(n+(if s*b<0 then 1 else 0),if s=0 then b else s):=by
   unfold chF;by_cases h:s*b<0
   ·rw[if_pos h,if_pos h]
   ·rw[if_neg h,if_neg h,NE]
  rw[e];have:=AF r (n+(if s*b<0 then 1 else 0)) (if s=0 then b else s);rw[Int.add_assoc]at this;exact this
theorem AI(l:Ex):(chS l).1=vr 0 l:=by unfold chS;rw[AF l 0 0];show 0+vr 0 l=_;omega
def io(s:Int):Prop:=s=1\/s=0\/s = -1
inductive Al:Int->Ex->Ex->Prop
 |nil {b:Int}:Al b [] []
 |stab {b s:Int} {r r':Ex} (h:s≠0) (t:Al s r r'):Al b (s::r) (s::r')
 |unst {b s s':Int} {r r':Ex} (h1:io s) (h2:io s') (t:Al (-b) r r'):Al b (s :: -b::r) (s' :: -b::r')
theorem vf{b s:Int}(hb:b=1\/b = -1)(hs:io s)(r:Ex):vr b (s :: -b::r)=1+vr (-b) r:=by
 have hb0:¬(-b=0):=by omega
 rcases hs with rfl |rfl |rfl
 ·rcases hb with rfl |rfl<;>simp[vr]
 ·rcases hb with rfl |rfl<;>simp[vr]
 ·rcases hb with rfl |rfl<;>simp[vr]
theorem Al.vr:∀{b:Int} {r r':Ex},Al b r r'->(b=1\/b = -1)->(∀s∈r,io s)->RM.vr b r=RM.vr b r'
 |_,_,_,.nil,_,_=>rfl
 |b,_,_,.stab (s:=s) (r:=r) (r':=r') h t,hb,hu=>by
  have hs:io s:=hu s (MP ..);have hs':s=1\/s = -1:=by rcases hs with z |z |z;exact .inl z;exact absurd z h;exact .inr z
  have ih:=Al.vr t hs' λx hx=>hu x (MK _ hx)
  show _+RM.vr (if s=0 then b else s) r=_+RM.vr (if s=0 then b else s) r';rw[if_neg h,ih]
 |b,_,_,.unst h1 h2 t,hb,hu=>by
  have ih:=Al.vr t (by omega) λx hx=>hu x (MK _ (MK _ hx))
  rw[vf hb h1,vf hb h2,ih]
noncomputable def sgX(row:List Ex)(x:Rat):Ex:=row.map λf=>sgR (pv f x)
theorem mv(v:Rat):io (sgR v):=by
 rcases cq v with⟨_,h⟩ |⟨_,h⟩ |⟨_,h⟩<;>rw[h]
 ·exact .inr (.inr rfl)
 ·exact .inr (.inl rfl)
 ·exact .inl rfl
theorem xu(row:List Ex)(x:Rat):∀s∈sgX row x,io s:=λs hs=>by obtain⟨f,_,rfl⟩:=MW.mp hs;exact mv _
def Bi(row:List Ex)(R:Rat):Prop:=∃δ:Rat,0<δ/\∀x y,Bd R x->Bd R y->x<y->y-x<=δ->∀a r,row=a::r->Sta (pv a) x y->Al (sgR (pv a x)) (sgX r x) (sgX r y)
theorem CU{c:Int}(h:c≠0):sgR (c:Rat)≠0:=by
 rcases cq (c:Rat)with⟨_,e⟩ |⟨z,_⟩ |⟨_,e⟩
 ·rw[e];decide
 ·exact absurd (OP.mp (by rw[z];rfl)) h
 ·rw[e];decide
theorem ze:∀{row:List Ex},SRow row->∀R:Rat,0<=R->Bi row R/\Bi row.tail R
 |_,.last h,R,_=>⟨⟨1,by grind,λx y _ _ _ _ a r e _=>by cases e;exact .nil⟩,⟨1,by grind,λx y _ _ _ _ a r e _=>by cases e⟩⟩
 |_,.two (c:=c) h,R,_=>by refine⟨⟨1,by grind,λx y _ _ _ _ a r e _=>?_⟩,⟨1,by grind,λx y _ _ _ _ a r e _=>by cases e;exact .nil⟩⟩;cases e;show Al _ [sgR (pv [c] x)] [sgR (pv [c] y)];rw[rK,rK];exact .stab (CU h) .nil
 |_,.cons (a:=a) (b:=b) (c:=c) (r:=r) (q:=q) (α:=α) (β:=β) hα hβ eq h,R,hR=>by
  obtain⟨⟨δ1,d1,l1⟩,⟨δ2,d2,l2⟩⟩:=ze h R hR;refine⟨?_,⟨δ1,d1,l1⟩⟩;obtain⟨A,B,k,nA,nB,hk,hAB⟩:=AZ h rfl;obtain⟨δ3,κ,d3,hκ,l3⟩:=yq (eX b) (eX c) nA nB hk hAB hR;obtain⟨M,m0,m1,m2⟩:=eX b R hR;obtain⟨N,n0,n1,_⟩:=eX q R hR;have hMN:=M9 n0 m0;have hT:0<N*M+1:=by grind
  have hβκ:=M5 hβ hκ
  obtain⟨δ,hδ,g1,g2,g3,g4⟩:∃δ:Rat,0<δ/\δ<=δ1/\δ<=δ2/\δ<=δ3/\δ*(N*M+1)<=β*κ:=by
   have hw:=fk hβκ hT;have hw2:β*κ/(N*M+1)*(N*M+1)=β*κ:=M6 (by grind)
   have two:∀u v:Rat,0<u->0<v->∃w:Rat,0<w/\w<=u/\w<=v:=λu v hu hv=>by
    rcases NG (a:=u) (b:=v)with z |z
    ·exact⟨u,hu,Na,z⟩
    ·exact⟨v,hv,z,Na⟩
   obtain⟨u,hu,u1,u2⟩:=two δ1 δ2 d1 d2;obtain⟨v,hv,v1,v2⟩:=two u δ3 hu d3;obtain⟨w,hw',w1,w2⟩:=two v _ hv hw;refine⟨w,hw',by grind,by grind,by grind,?_⟩;have:=Nv w2 (MT hT)
   rwa [hw2]at this
  refine⟨δ,hδ,λx y hx hy hxy hd a' r' e sa=>?_⟩;cases e;show Al (sgR (pv a x)) (sgR (pv b x)::sgX (c::r) x) (sgR (pv b y)::sgX (c::r) y);by_cases sb:Sta (pv b) x y
  ·have t:=l1 x y hx hy hxy (by grind) b (c::r) rfl sb;rw[<- sb.1];exact .stab sb.2 t
  ·obtain⟨sc,c1,c2⟩:=l3 x y hx hy hxy (by grind) sb;obtain⟨b1,_⟩:=rY sb (m2 x y hx hy (by grind));have hyx:0<y-x:=by grind
   have hop:sgR (pv c x) = -sgR (pv a x):=by
    obtain⟨f1,f2⟩:=(n1 x hx).mul b1;have e1:=eq x
    have e2:N*(M*(y-x))<β*κ:=by have h1:(y-x)*(N*M+1)<=δ*(N*M+1):=Nv hd (MT hT);grind
    rcases c1 with z |z
    ·have h2:β*κ<=β*pv c x:=No z (MT hβ);have h3:α*pv a x<0:=by grind
     have h4:pv a x<0:=by
      rcases NG (a:=0) (b:=pv a x)with w |w
      ·have:=M9 (MT hα) w;grind
      ·rcases cq (pv a x)with⟨w2,_⟩ |⟨w2,_⟩ |⟨w2,_⟩
       ·exact w2
       ·rw[w2]at h3;grind
       ·grind
     rcases cq (pv c x)with⟨w,_⟩ |⟨w,_⟩ |⟨_,w⟩
     ·grind
     ·grind
     ·rcases cq (pv a x)with⟨_,v⟩ |⟨v,_⟩ |⟨v,_⟩
      ·rw[w,v];decide
      ·grind
      ·grind
    ·have h2:β*pv c x<=β*(-κ):=No z (MT hβ);have h3:0<α*pv a x:=by grind
     have h4:0<pv a x:=by
      rcases cq (pv a x)with⟨w2,_⟩ |⟨w2,_⟩ |⟨w2,_⟩
      ·have:=M9 (MT hα) (show 0 <= -pv a x by grind);grind
      ·rw[w2]at h3;grind
      ·exact w2
     rcases cq (pv c x)with⟨_,w⟩ |⟨w,_⟩ |⟨w,_⟩
     ·rcases cq (pv a x)with⟨v,_⟩ |⟨v,_⟩ |⟨_,v⟩
      ·grind
      ·grind
      ·rw[w,v]
     ·grind
     ·grind
   have hop':sgR (pv c y) = -sgR (pv a x):=by rw[<- sc.1];exact hop
   have t:Al (sgR (pv c x)) (sgX r x) (sgX r y):=l2 x y hx hy hxy (by grind) c r rfl sc;rw[hop]at t;show Al _ (_::sgR (pv c x)::sgX r x) (_::sgR (pv c y)::sgX r y);rw[hop,hop'];exact .unst (mv _) (mv _) t
noncomputable def chg(f:Rat->Rat)(x y:Rat):Int:=if sgR (f x)≠0/\sgR (f y)≠sgR (f x)then 1 else 0
noncomputable def vrs(row:List Ex)(x:Rat):Int:=vr 0 (sgX row x)
theorem oC{s:Int}(r:Ex):vr 0 (s::r)=vr s r:=by
 show(if s*0<0 then 1 else 0)+vr (if s=0 then 0 else s) r=_;rw[M8,if_neg (by decide),Ny];split
 ·rename_i h;rw[h]
 ·rfl
theorem Co{F0 F1:Ex}{r:List Ex}(h:SRow (F0::F1::r)){γ:Rat}(hγ:0<γ)(hd:∀x,pv (slopeL F0) x=γ*pv F1 x){R:Rat}(hR:0<=R) :
 ∃δ:Rat,0<δ/\∀x y,Bd R x->Bd R y->x<y->y-x<=δ->vrs (F0::F1::r) x-vrs (F0::F1::r) y=chg (pv F0) x y:=by
 obtain⟨⟨δ1,d1,l1⟩,⟨δ2,d2,l2⟩⟩:=ze h R hR;obtain⟨A,B,k,nA,nB,hk,hAB⟩:=AZ h rfl;obtain⟨δ3,κ,d3,hκ,l3⟩:=yq (eX F0) (eX F1) nA nB hk hAB hR;obtain⟨M,m0,m1⟩:=x9 F0 R hR;have hγκ:=M5 hγ hκ
 obtain⟨δ,hδ,g1,g2,g3,g4⟩:∃δ:Rat,0<δ/\δ<=δ1/\δ<=δ2/\δ<=δ3/\δ*(M+1)<=γ*κ:=by
  have hT:0<M+1:=by grind
  have hw:=fk hγκ hT;have hw2:γ*κ/(M+1)*(M+1)=γ*κ:=M6 (by grind)
  have two:∀u v:Rat,0<u->0<v->∃w:Rat,0<w/\w<=u/\w<=v:=λu v hu hv=>by
   rcases NG (a:=u) (b:=v)with z |z
   ·exact⟨u,hu,Na,z⟩
   ·exact⟨v,hv,z,Na⟩
  obtain⟨u,hu,u1,u2⟩:=two δ1 δ2 d1 d2;obtain⟨v,hv,v1,v2⟩:=two u δ3 hu d3;obtain⟨w,hw',w1,w2⟩:=two v _ hv hw;refine⟨w,hw',by grind,by grind,by grind,?_⟩;have:=Nv w2 (MT hT)
  rwa [hw2]at this
 refine⟨δ,hδ,λx y hx hy hxy hyd=>?_⟩;have e0:∀z,vrs (F0::F1::r) z=vr (sgR (pv F0 z)) (sgX (F1::r) z):=λz=>oC _
 have nz:∀{v:Rat},sgR v≠0->sgR v=1\/sgR v = -1:=λ{v} hv=>by rcases mv v with z |z |z;exact .inl z;exact absurd z hv;exact .inr z
 rw[e0,e0];by_cases s0:Sta (pv F0) x y
 ·have t:=(l1 x y hx hy hxy (by grind) F0 (F1::r) rfl s0).vr (nz s0.2) (xu _ _);rw[<- s0.1,t];unfold chg;rw[if_neg (λz=>z.2 s0.1.symm)];omega
 ·obtain⟨s1,c1,c2⟩:=l3 x y hx hy hxy (by grind) s0;have t:=(l2 x y hx hy hxy (by grind) F1 r rfl s1).vr (nz s1.2) (xu _ _);have hyx:0<y-x:=by grind
  have hyy:0<(y-x)*(y-x):=M5 hyx hyx;obtain⟨f1,f2⟩:=m1 x y hx hy (by grind)
  have small:M*((y-x)*(y-x))<(y-x)*(γ*κ):=by
   have h1:(y-x)*(M+1)<=γ*κ:=by have:=Nv hyd (show 0<=M+1 by grind);grind
   have h2:(y-x)*((y-x)*(M+1))<=(y-x)*(γ*κ):=No h1 (MT hyx);grind
  rw[hd]at f1 f2;show vr (sgR (pv F0 x)) (sgR (pv F1 x)::sgX r x)-vr (sgR (pv F0 y)) (sgR (pv F1 y)::sgX r y)=_
  have hu:∀(b s:Int) (l:Ex),s≠0->vr b (s::l)=(if s*b<0 then 1 else 0)+vr s l:=λb s l hs=>by show _+vr (if s=0 then b else s) l=_;rw[if_neg hs]
  have s1':sgR (pv F1 y)=sgR (pv F1 x):=s1.1.symm;rw[s1',hu _ _ _ s1.2,hu _ _ _ s1.2,t];unfold chg;rcases c1 with z |z
  ·
   have h1:γ*κ<=γ*pv F1 x:=No z (MT hγ);have h2:(y-x)*(γ*κ)<=(y-x)*(γ*pv F1 x):=No h1 (MT hyx);have rise:pv F0 x<pv F0 y:=by grind
   have s1p:sgR (pv F1 x)=1:=by
    rcases cq (pv F1 x)with⟨w,_⟩ |⟨w,_⟩ |⟨_,w⟩
    ·grind
    ·grind
    ·exact w
   rw[s1p];rcases cq (pv F0 x)with⟨a1,a2⟩ |⟨a1,a2⟩ |⟨a1,a2⟩<;>rcases cq (pv F0 y)with⟨b1,b2⟩ |⟨b1,b2⟩ |⟨b1,b2⟩
   ·exact absurd ⟨by rw[a2,b2],by rw[a2];decide⟩ s0
   ·rw[a2,b2];simp
   ·rw[a2,b2];simp
   ·grind
   ·grind
   ·rw[a2,b2];simp
   ·grind
   ·grind
   ·exact absurd ⟨by rw[a2,b2],by rw[a2];decide⟩ s0
  ·have h1:γ*pv F1 x<=γ*(-κ):=No z (MT hγ);have h2:(y-x)*(γ*pv F1 x)<=(y-x)*(γ*(-κ)):=No h1 (MT hyx);have fall:pv F0 y<pv F0 x:=by grind
   have s1p:sgR (pv F1 x) = -1:=by
    rcases cq (pv F1 x)with⟨_,w⟩ |⟨w,_⟩ |⟨w,_⟩
    ·exact w
    ·grind
    ·grind
   rw[s1p];rcases cq (pv F0 x)with⟨a1,a2⟩ |⟨a1,a2⟩ |⟨a1,a2⟩<;>rcases cq (pv F0 y)with⟨b1,b2⟩ |⟨b1,b2⟩ |⟨b1,b2⟩
   ·exact absurd ⟨by rw[a2,b2],by rw[a2];decide⟩ s0
   ·grind
   ·grind
   ·rw[a2,b2];simp
   ·grind
   ·grind
   ·rw[a2,b2];simp
   ·rw[a2,b2];simp
   ·exact absurd ⟨by rw[a2,b2],by rw[a2];decide⟩ s0
structure Cut(s:Rat->Int):Prop where
 u:∀x,io (s x)
 m:∀x y,x<y->s x<=0->s y = -1
noncomputable def cnt(S:List (Rat->Int))(x y:Rat):Int:=(S.map λs=>if 0<s x/\s y<=0 then(1:Int)else 0).sum
theorem Az(x y:Rat):cnt [] x y=0:=rfl
theorem eI(s:Rat->Int)(S:List (Rat->Int))(x y:Rat):cnt (s::S) x y=(if 0<s x/\s y<=0 then 1 else 0)+cnt S x y:=by unfold cnt;rw[Nw,List.sum_cons]
theorem um{x y z:Rat}(hxy:x<y)(hyz:y<z):∀{S:List (Rat->Int)},(∀s∈S,Cut s)->cnt S x z=cnt S x y+cnt S y z
 | [],_=>rfl
 |s::S,h=>by
  have hs:=h s (MP ..);have ih:=um hxy hyz (S:=S) λt ht=>h t (MK _ ht)
  rw[eI,eI,eI,ih]
  have e:(if 0<s x/\s z<=0 then(1:Int)else 0)=(if 0<s x/\s y<=0 then 1 else 0)+(if 0<s y/\s z<=0 then 1 else 0):=by
   by_cases hy:s y<=0
   ·have hz:=hs.m y z hyz hy;rw[if_neg (show ¬(0<s y/\s z<=0) by omega)];by_cases hx:0<s x
    ·rw[if_pos ⟨hx,by omega⟩,if_pos ⟨hx,hy⟩];rfl
    ·rw[if_neg (by omega),if_neg (by omega)];rfl
   ·have hx:0<s x:=by
     rcases NF 0 (s x)with q |q
     ·exact q
     ·have:=hs.m x y hxy q;omega
    rw[if_neg (show ¬(0<s x/\s y<=0) by omega)];by_cases hz:s z<=0
    ·rw[if_pos ⟨hx,hz⟩,if_pos ⟨by omega,hz⟩];rfl
    ·rw[if_neg (by omega),if_neg (by omega)];rfl
  rw[e];omega
noncomputable def cpr(x:Rat):List (Rat->Int)->Int
 | []=>1
 |s::S => -s x*cpr x S
theorem nX(x:Rat):∀a b,cpr x (a++b)=cpr x a*cpr x b
 | [],b=>by show _=1*_;rw[Ni];rfl
 |s::a,b=>by show _*cpr x (a++b)=_*_*_;rw[nX x a b,Ng]
def inC(s:Rat->Int)(x y:Rat):Prop:=0<=s x/\s y<=0
theorem Hx{s:Rat->Int}(h:Cut s){x y:Rat}(hxy:x<y)(hn:¬inC s x y):s x=s y/\(s x=1\/s x = -1):=by
 have h1:=h.u x;have h2:=h.u y;unfold inC at hn
 by_cases hx:s x<=0
 ·have:=h.m x y hxy hx;rcases h1 with a |a |a<;>omega
 ·rcases h1 with a |a |a
  ·rcases h2 with b |b |b<;>omega
  ·omega
  ·omega
theorem sO{x y:Rat}(hxy:x<y):∀{S:List (Rat->Int)},(∀s∈S,Cut s)->(∀s∈S,¬inC s x y)->cpr x S=cpr y S/\(cpr x S=1\/cpr x S = -1)/\cnt S x y=0
 | [],_,_=>⟨rfl,.inl rfl,rfl⟩
 |s::S,h,hn=>by
  obtain⟨i1,i2,i3⟩:=sO hxy (S:=S) (λt ht=>h t (MK _ ht)) λt ht=>hn t (MK _ ht)
  obtain⟨a1,a2⟩:=Hx (h s (MP ..)) hxy (hn s (MP ..));refine⟨by show -s x*cpr x S = -s y*cpr y S;rw[a1,i1],?_,?_⟩
  ·show -s x*cpr x S=1 \/ -s x*cpr x S = -1;rcases a2 with z |z<;>rcases i2 with w |w<;>rw[z,w]<;>decide
  ·rw[eI,i3,if_neg (by omega)];rfl
theorem ul(x y:Rat):∀a b,cnt (a++b) x y=cnt a x y+cnt b x y
 | [],b=>by rw[Az];simp
 |s::a,b=>by rw[List.cons_append,eI,eI,ul x y a b];omega
theorem AE{f:Rat->Rat}{S:List (Rat->Int)}{ε:Int}(hε:ε=1\/ε = -1)(hS:∀s∈S,Cut s){x y:Rat}(hxy:x<y)(hx:sgR (f x)=ε*cpr x S)(hy:sgR (f y)=ε*cpr y S)(hp:S.Pairwise λs t=>¬(inC s x y/\inC t x y)):chg f x y=cnt S x y:=by
 by_cases hall:∀s∈S,¬inC s x y
 ·obtain⟨k1,k2,k3⟩:=sO hxy hS hall;rw[k3];unfold chg;rw[if_neg];rintro⟨_,h2⟩;exact h2 (by rw[hx,hy,k1])
 ·obtain⟨s,hs,hin⟩:∃s,s∈S/\inC s x y:=by refine Classical.byContradiction λz=>hall λs hs hi=>z ⟨s,hs,hi⟩
  obtain⟨pre,post,rfl⟩:=OQ hs
  have hno:∀t∈pre++post,¬inC t x y:=λt ht hi=>by
   rw[OD]at hp;rcases Nb.mp ht with z |z
   ·exact hp.2.2 t z s (MP ..) ⟨hi,hin⟩
   ·exact(NW.mp hp.2.1).1 t z ⟨hin,hi⟩
  have hS':∀t∈pre++post,Cut t:=λt ht=>hS t (by
   rcases Nb.mp ht with z |z
   ·exact NI _ z
   ·exact Nq _ (MK _ z))
  obtain⟨k1,k2,k3⟩:=sO hxy hS' hno;have hc:=hS s hs
  have e1:∀z,cpr z (pre++s::post)=cpr z (pre++post) * -s z:=λz=>by rw[nX,nX];show cpr z pre*(-s z*cpr z post)=_;rw[Nj (-s z),Ng]
  have e2:cnt (pre++s::post) x y=(if 0<s x/\s y<=0 then 1 else 0):=by rw[ul,eI];rw[ul]at k3;omega
  rw[e1]at hx hy;rw[<- k1]at hy;rw[e2];unfold inC at hin
  have h1:=hc.u x;have h2:=hc.u y;unfold chg;rw[hx,hy];generalize cpr x (pre++post)=c at *
  have hs0:s x=0->s y = -1:=λz=>hc.m x y hxy (by omega)
  rcases h1 with a |a |a
  ·rw[a];rcases h2 with b |b |b
   ·omega
   ·rw[b];rcases hε with rfl |rfl<;>rcases k2 with rfl |rfl<;>simp
   ·rw[b];rcases hε with rfl |rfl<;>rcases k2 with rfl |rfl<;>simp
  ·rw[a];simp
  ·omega
theorem A8(q:Rat):∃n:Nat,q<=(n:Rat):=by refine⟨q.ceil.toNat,OR (Rat.le_ceil (x:=q)) ?_⟩;have h:q.ceil<=(q.ceil.toNat:Int):=Int.self_le_toNat _;have h2:=NX.mpr h;exact h2
theorem yL(n:Nat):(n:Rat)<=2^n:=by
 induction n with
 |zero=>decide
 |succ n ih =>
  have h1:((1:Nat):Rat)<=2^n:=by
   have:(1:Nat)<=2^n:=N0 (by decide);have h2:((1:Nat):Rat)<=((2^n:Nat):Rat):=Rat.natCast_le_natCast.mpr this
   rwa [Rat.natCast_pow]at h2
  rw[Rat.pow_succ,Rat.natCast_add];grind
theorem uv{V:Rat->Int}{S:List (Rat->Int)}(hS:∀s∈S,Cut s){R δ:Rat}(hδ:0<δ)(h:∀x y,Bd R x->Bd R y->x<y->y-x<=δ->V x-V y=cnt S x y):∀(n:Nat) (x y:Rat),Bd R x->Bd R y->x<y->y-x<=2^n*δ->V x-V y=cnt S x y
 |0,x,y,hx,hy,hxy,hd=>h x y hx hy hxy (by rw[Rat.pow_zero]at hd;grind)
 |n+1,x,y,hx,hy,hxy,hd=>by
  have m1:x<(x+y)/2:=by grind
  have m2:(x+y)/2<y:=by grind
  have hm:Bd R ((x+y)/2):=by obtain⟨a,b⟩:=hx;obtain⟨c,d⟩:=hy;constructor<;>grind
  rw[Rat.pow_succ]at hd;have i1:=uv hS hδ h n x ((x+y)/2) hx hm m1 (by grind);have i2:=uv hS hδ h n ((x+y)/2) y hm hy m2 (by grind);rw[um m1 m2 hS];omega
theorem Cp{F0 F1:Ex}{r:List Ex}(h:SRow (F0::F1::r)){γ:Rat}(hγ:0<γ)(hd:∀x,pv (slopeL F0) x=γ*pv F1 x){S:List (Rat->Int)}(hS:∀s∈S,Cut s){ε:Int}(hε:ε=1\/ε = -1)(hf:∀x,sgR (pv F0 x)=ε*cpr x S)
 {δ0:Rat} (hδ0:0<δ0) (hp:∀x y,x<y->y-x<=δ0->S.Pairwise λs t=>¬(inC s x y/\inC t x y)) {x y:Rat} (hxy:x<y):vrs (F0::F1::r) x-vrs (F0::F1::r) y=cnt S x y:=by
 obtain⟨R,hR,hx,hy⟩:∃R:Rat,0<=R/\Bd R x/\Bd R y:=by
  have ab:∀v:Rat,∃w:Rat,0<=w/\Bd w v:=λv=>by
   rcases NG (a:=0) (b:=v)with z |z
   ·exact⟨v,z,by grind,by grind⟩
   ·exact⟨-v,by grind,by grind,by grind⟩
  obtain⟨u,u0,u1⟩:=ab x;obtain⟨v,v0,v1⟩:=ab y;exact⟨u+v,by grind,u1.mono (by grind),v1.mono (by grind)⟩
 obtain⟨δ1,d1,l1⟩:=Co h hγ hd hR
 obtain⟨δ,hδ,g1,g2⟩:∃δ:Rat,0<δ/\δ<=δ0/\δ<=δ1:=by
  rcases NG (a:=δ0) (b:=δ1)with z |z
  ·exact⟨δ0,hδ0,Na,z⟩
  ·exact⟨δ1,d1,z,Na⟩
 obtain⟨n,hn⟩:=A8 ((y-x)/δ);refine uv hS hδ (R:=R) (λx y hx hy hxy hdd=>?_) n x y hx hy hxy ?_
 ·rw[l1 x y hx hy hxy (by grind)];exact AE hε hS hxy (hf x) (hf y) (hp x y hxy (by grind))
 ·have h1:(y-x)/δ<=2^n:=OR hn (yL n);have h2:=Nv h1 (MT hδ)
  rwa [M6 (by grind)]at h2
theorem sP{n:Int}(hn:n≠0):(n:Rat)≠0:=λz=>hn (OP.mp (show((n:Int):Rat)=((0:Int):Rat) by rw[z];rfl))
theorem mY(q:Rat):(q.num:Rat)=q*((q.den:Int):Rat):=by
 have hd:((q.den:Int):Rat)≠0:=sP (by have:=q.den_pos;omega)
 have hx:(q.num:Rat)/((q.den:Int):Rat)=q:=by have:=Rat.mkRat_self q;rw[Rat.mkRat_eq_div]at this;exact this
 have:=M6 (a:=(q.num:Rat)) hd;rw[hx]at this;exact this.symm
theorem D1{t n:Int}(hn:0<n):((t:Rat)/(n:Rat)).num*n=t*(((t:Rat)/(n:Rat)).den:Int):=by
 have hn':(n:Rat)≠0:=sP (by omega);have hq:(t:Rat)/(n:Rat)*(n:Rat)=(t:Rat):=M6 hn';generalize (t:Rat)/(n:Rat)=q at hq ⊢
 apply OP.mp;rw[MS,MS,mY q,<- hq];grind
theorem fy{t n t' n':Int}(hn:0<n)(hn':0<n'):(t:Rat)/(n:Rat)<(t':Rat)/(n':Rat)↔t*n'<t'*n:=by
 have p1:(0:Rat)<(n:Rat):=MU.mpr hn;have p2:(0:Rat)<(n':Rat):=MU.mpr hn';have e1:(t:Rat)/(n:Rat)*(n:Rat)=(t:Rat):=M6 (by grind);have e2:(t':Rat)/(n':Rat)*(n':Rat)=(t':Rat):=M6 (by grind);generalize (t:Rat)/(n:Rat)=q at e1 ⊢
 generalize (t':Rat)/(n':Rat)=q' at e2 ⊢
 rw[<- MU,MS,MS,<- e1,<- e2];have p3:=M5 p1 p2;have e3:q*(n:Rat)*(n':Rat)=q*((n:Rat)*(n':Rat)):=by grind
 have e4:q'*(n':Rat)*(n:Rat)=q'*((n:Rat)*(n':Rat)):=by grind
 rw[e3,e4];constructor
 ·intro h;exact Pl h p3
 ·intro h;refine Oh.mp λz=>?_
  have:=Nv z (MT p3);grind
theorem xv{p v:Rat}(hp:0<p):sgR (p*v)=sgR v:=by
 rcases cq v with⟨a,b⟩ |⟨a,b⟩ |⟨a,b⟩
 ·have:p*v<0:=by have:=M5 hp (show 0 < -v by grind);grind
  rcases cq (p*v)with⟨_,d⟩ |⟨c,d⟩ |⟨c,d⟩
  ·rw[b,d]
  ·grind
  ·grind
 ·rw[a];have:p*0=0:=by grind
  rw[this]
 ·have:=M5 hp a;rcases cq (p*v)with⟨c,d⟩ |⟨c,d⟩ |⟨_,d⟩
  ·grind
  ·grind
  ·rw[b,d]
theorem CS(z:Int):sgR (z:Rat)=sg z:=by
 rcases cq (z:Rat)with⟨a,b⟩ |⟨a,b⟩ |⟨a,b⟩
 ·have:z<0:=MU.mp a;rw[b];unfold sg;rw[if_pos this]
 ·have:z=0:=OP.mp a;rw[this];rfl
 ·have:0<z:=MU.mp a;rw[b];unfold sg;rw[if_neg (by omega),if_pos this]
theorem sV{t n:Int}(hn:0<n):∀l:Ex,(hv t n l:Rat)=(n:Rat)^l.length*pv l ((t:Rat)/(n:Rat))
 | []=>by show((0:Int):Rat)=_*0;grind
 |c::l=>by
  have hn':(n:Rat)≠0:=sP (by omega);have hq:(t:Rat)/(n:Rat)*(n:Rat)=(t:Rat):=M6 hn';rw[dz,OO,MS,MS,sV hn l,Rat.intCast_pow];show _=(n:Rat)^(l.length+1)*((c:Rat)+(t:Rat)/(n:Rat)*pv l ((t:Rat)/(n:Rat)));rw[Rat.pow_succ];generalize hqq:(t:Rat)/(n:Rat)=q at *
  rw[<- hq];grind
theorem pG{t n:Int}(hn:0<n)(l:Ex):sg (hv t n l)=sgR (pv l ((t:Rat)/(n:Rat))):=by rw[<- CS,sV hn];exact xv (Rat.pow_pos (MU.mpr hn))
def Cop2(a b:Ex):Prop:=∀d,d≠[]->Tr d->Dv d a->Dv d b->d.length<=1
theorem Gw{one other:Ex}(ho:other≠[]):∀n,bY one other*cf one n=aw (bV one other) other n-(aB (cD [] (aM one other)):Int)*cf (nxt one other) n:=λn=>by
 have h1:=ia (a:=one) ho n;have e:nxt one other=ar (cD [] (aM one other)):=by unfold nxt rst;rw[if_neg ho]
 have h2:=congrArg (λl=>cf l n) (ml (l:=cD [] (aM one other)));simp only[bh]at h2
 have h3:cf (cD [] (aM one other)) n = -cf (aM one other) n:=by rw[lU (fL _ _),bh];omega
 rw[e,h2,h3,h1];omega
theorem BV(one other:Ex):Tr (nxt one other):=by unfold nxt;exact fW (by unfold cD;exact fh _)
theorem Gx{one other:Ex}(ho:other≠[]):(nxt one other).length<other.length:=by
 have h1:=gL (a:=one) ho;unfold nxt rst;rw[if_neg ho,lU (fL _ _)]
 have h2:(ar (scL (-1) (aM one other))).length<=(scL (-1) (aM one other)).length:=by unfold ar;rw[MI];exact MJ _
 rw[b9]at h2;omega
theorem sK{l:Ex}(h:l.length<=1)(hne:l≠[]):∃c,l=[c]:=List.length_eq_one_iff.mp (by have:=MR.mpr hne;omega)
theorem xM:∀(n:Nat) (one other:Ex),other.length<=n->Tr one->one≠[]->Tr other->Cop2 one other->SRow (bj (n+1) one other)
 |0,one,other,hl,to,no,tt,hc=>by have e0:other=[]:=Os (Nat.le_zero.mp hl);subst e0;have h1:=hc one no to (Dv.refl _) (Dv.nil _);obtain⟨c,rfl⟩:=sK h1 no;show SRow (if([c]:Ex)=[]then _ else[c]::bj 0 [] (nxt [c] []));rw[if_neg no];exact .last (tr_snoc (r:=[]) |>.mp to)
 |n+1,one,other,hl,to,no,tt,hc=>by
  have e:bj (n+1+1) one other=one::bj (n+1) other (nxt one other):=by show(if one=[]then _ else _)=_;rw[if_neg no]
  rw[e];by_cases ho:other=[]
  ·subst ho;have h1:=hc one no to (Dv.refl _) (Dv.nil _);obtain⟨c,rfl⟩:=sK h1 no;rw[kz];exact .last (tr_snoc (r:=[]) |>.mp to)
  have hs:=Gw (one:=one) ho;have hlen:=Gx (one:=one) ho;have tn:=BV one other;have fp:0<bY one other:=Jw ho tt;by_cases hn:nxt one other=[]
  ·
   have hdv:Dv other one:=⟨bY one other,bV one other,by omega,λk=>by rw[hs k,hn,cj];omega⟩;have h1:=hc other ho tt hdv (Dv.refl _);obtain⟨c,rfl⟩:=sK h1 ho;rw[hn,xO ho (by omega)];exact .two (tr_snoc (r:=[]) |>.mp tt)
  ·have hc2:Cop2 other (nxt one other):=λd dn dt h1 h2=>by
    refine hc d dn dt ?_ h1;refine Dv.up (f:=bY one other) (q:=bV one other) (r:=scL (-(aB (cD [] (aM one other)):Int)) (nxt one other)) (by omega) (λk=>?_) h1 ?_
    ·rw[hs k,bh,Int.neg_mul];omega
    ·exact Dv.prop_right (x:=1) (y := -(aB (cD [] (aM one other)):Int)) (by decide) (λk=>by rw[bh];omega) h2
   have ih:=xM n other (nxt one other) (by omega) tt ho tn hc2;have e2:bj (n+1) other (nxt one other)=other::bj n (nxt one other) (nxt other (nxt one other)):=by show(if other=[]then _ else _)=_;rw[if_neg ho]
   have n1:0<n:=by have:=MR.mpr hn;omega
   obtain⟨m,rfl⟩:∃m,n=m+1:=⟨n-1,by omega⟩;have e3:bj (m+1) (nxt one other) (nxt other (nxt one other))=nxt one other::bj m (nxt other (nxt one other)) (nxt (nxt one other) (nxt other (nxt one other))):=by show(if nxt one other=[]then _ else _)=_;rw[if_neg hn]
   rw[e2,e3]at ih ⊢
   have gp:0<(aB (cD [] (aM one other)):Int):=by
    rcases Nat.eq_zero_or_pos (aB (cD [] (aM one other)))with z |z
    ·exfalso;apply hn;refine r8 tn λk=>?_
     have e:nxt one other=ar (cD [] (aM one other)):=by unfold nxt rst;rw[if_neg ho]
     rw[e];unfold ar;rw[z];unfold cf;simp[List.getD];cases(cD [] (aM one other))[k]? with
     |none=>rfl
     |some v=>simp
    ·omega
   refine .cons (q:=bV one other) (α:=(bY one other:Rat)) (β:=((aB (cD [] (aM one other)):Int):Rat)) (MU.mpr fp) (MU.mpr gp) (λx=>?_) ih;have h1:=kD (a:=one) (c:=scL (bY one other) one) (u:=bY one other) x λk=>bh _ _ _
   have h2:=ya x (bV one other) other (af (bV one other) other) (aJ _ _);have h3:=mO (a:=af (bV one other) other) (b:=nxt one other) (c:=scL (bY one other) one) (u:=1) (v := -(aB (cD [] (aM one other)):Int)) x λk=>by rw[bh,hs k,aJ,Int.neg_mul];omega
   rw[<- h1,h3,h2,OE];show((1:Int):Rat)*_+_=_;grind
theorem yd{ss:List Ex}(h:∀s∈ss,Pri s):aO [1] ss=prd ss:=by unfold aO;rw[zR,one_mul _ (iG ss λs hs=>(h s hs).pln).tr]
theorem gI{f:Ex}(h:FacG f):Pri (ah f):=by obtain⟨u,e,b,rfl,_,_,_,_,h5,_,h7⟩:=h;exact DZ h5 h7
noncomputable def ip(fs:List Ex):List (Ex×Nat):=fs.map λf=>(ah f,1)
theorem vn{fs:List Ex}(hF:∀f∈fs,FacG f)(hn:(fs.map ah).Nodup):Use (ip fs):=by
 refine⟨λp hp=>?_,λp hp=>?_,?_⟩
 ·obtain⟨f,hf,rfl⟩:=MW.mp hp;exact gI (hF f hf)
 ·obtain⟨f,hf,rfl⟩:=MW.mp hp;exact MJ _
 ·unfold ip;rw[NR];exact hn
theorem vm{c:Int}{fs:List Ex}(hF:∀f∈fs,FacG f):whl c (ip fs)=af [c] (aO [1] (fs.map ah)):=by
 unfold whl
 congr 1
 rw[yd λs hs=>by obtain⟨f,hf,rfl⟩:=MW.mp hs;exact gI (hF f hf)]
 have e1:fP id (ip fs)=flt (ip fs):=jL _ λp hp=>by obtain⟨f,hf,rfl⟩:=MW.mp hp;rfl
 rw[e1,tz]
 congr 1
 unfold ip;rw[NR];rfl
theorem zY:∀us:List (Ex×Nat),fP (λ_=>0) us=[1]
 | []=>rfl
 |p::us=>by rw[fb,zY us];rfl
theorem BF{fs:List Ex}:mor (ip fs) 1=[1]:=by unfold mor;rw[jL (h:=λ_=>0) _ λp hp=>by obtain⟨f,hf,rfl⟩:=MW.mp hp;rfl];exact zY _
theorem Eo{c:Int}{fs:List Ex}(hF:∀f∈fs,FacG f)(hn:(fs.map ah).Nodup)(hc:c≠0)(hl:(af [c] (aO [1] (fs.map ah))).length<=20):Cop2 (af [c] (aO [1] (fs.map ah))) (slopeL (af [c] (aO [1] (fs.map ah)))):=λd dn dt h1 h2=>by
 have U:=vn hF hn;have ew:=vm (c:=c) hF;obtain⟨tw,nw,_⟩:=jV U hc;have hcom:=vb U hc (by rw[ew];exact hl);rw[BF]at hcom;rw[<- ew]at h1 h2 hl;have h3:=(Aw (by rw[gC];omega) tw (iq tw)).all d h1 h2;rw[hcom]at h3;rcases Nat.lt_or_ge 1 d.length with z |z
 ·have:=Dv.short dn dt ((tr_snoc (r:=[])).mpr (by decide)) (show([1]:Ex).length<d.length from z) h3;cases this
 ·exact z
theorem mn{l:Ex}(h:Tr l)(hne:l≠[]):0<(aB l:Int)/\Tr (ar l)/\ar l≠[]/\∀n,cf l n=(aB l:Int)*cf (ar l) n:=by
 have e:=ml (l:=l)
 have ec:∀n,cf l n=(aB l:Int)*cf (ar l) n:=λn=>by have:=congrArg (λz=>cf z n) e;simp only[bh]at this;exact this.symm
 have hl:(ar l).length=l.length:=by unfold ar;rw[MI]
 refine⟨?_,fW h,λz=>by rw[z]at hl;exact hne (Os hl.symm),ec⟩;rcases Nat.eq_zero_or_pos (aB l)with z |z
 ·exfalso;refine hne (r8 h λk=>?_);rw[ec k,z];simp
 ·omega
theorem Cop2.shr{a b:Ex}(h:Cop2 a b)(ha:Tr a)(hna:a≠[])(hb:Tr b):Cop2 (ar a) (ar b):=λd dn dt h1 h2=>by
 obtain⟨_,_,_,ea⟩:=mn ha hna;refine h d dn dt (Dv.prop_right (x:=1) (y:=(aB a:Int)) (by decide) (λn=>by rw[ea n];omega) h1) ?_;by_cases hnb:b=[]
 ·rw[hnb];exact Dv.nil _
 ·obtain⟨_,_,_,eb⟩:=mn hb hnb;exact Dv.prop_right (x:=1) (y:=(aB b:Int)) (by decide) (λn=>by rw[eb n];omega) h2
noncomputable def sdR(l:Ex)(x:Rat):Int:=au l x.num x.den
theorem eD(x:Rat):0<(x.den:Int):=by have:=x.den_pos;omega
theorem f6(l:Ex){t n:Int}(hn:0<n):sdR l ((t:Rat)/(n:Rat))=au l t n:=by unfold sdR;exact mj l (eD _) hn (D1 hn)
theorem ki{l:Ex}(h:Spt l):Cut (sdR l):=by
 refine⟨λx=>?_,λx y hxy hs=>?_⟩
 ·rcases gU l x.num x.den with z |z |z
  ·exact .inl z
  ·exact .inr (.inl z)
  ·exact .inr (.inr z)
 ·exact ix h (eD x) (eD y) ((Rat.lt_iff x y).mp hxy) hs
theorem uh(x:Rat):∀ls:List Ex,cpr x (ls.map sdR)=spr x.num x.den ls
 | []=>rfl
 |l::ls=>by show -sdR l x*_ = -au l x.num x.den*_;rw[uh x ls];rfl
theorem ud(x:Rat):(x.num:Rat)/((x.den:Int):Rat)=x:=by have:=Rat.mkRat_self x;rw[Rat.mkRat_eq_div]at this;exact this
theorem uE{l l':Ex}(hl:Spt l)(hl':Spt l')(h:Bq l l'){x y:Rat}(hxy:x<y)(hd:y-x<=1/2^200):¬(inC (sdR l) x y/\inC (sdR l') x y):=by
 rintro⟨h1,h2⟩;have hD:(0:Rat)<2^200:=Rat.pow_pos (by decide);have hDi:((2^200:Int):Rat)=2^200:=Rat.intCast_pow 2 200;have f1:=Rat.floor_le (x*2^200);have f2:=Rat.lt_floor_add_one (x*2^200);rw[OO]at f2
 have hd2:(y-x)*2^200<=1:=by
  have:=Nv hd (MT hD)
  rwa [M6 (by grind)]at this
 have key:∀k:Ex,Spt k->inC (sdR k) x y->inS k ((x*2^200).floor-1) ((x*2^200).floor-1+128) (2^200):=λk hk hi=>by
  have hc:=ki hk
  have eA:((((x*2^200).floor-1:Int)):Rat)/((2^200:Int):Rat)*2^200=((x*2^200).floor:Rat)-1:=by rw[hDi,M6 (by grind),OS];rfl
  have eB:((((x*2^200).floor-1+128:Int)):Rat)/((2^200:Int):Rat)*2^200=((x*2^200).floor:Rat)-1+128:=by rw[hDi,M6 (by grind),OO,OS];rfl
  constructor
  ·rw[<- f6 k (by decide)];generalize ((((x*2^200).floor-1:Int)):Rat)/((2^200:Int):Rat)=a at *
   have hax:a<x:=by
    refine Oh.mp λz=>?_
    have:=Nv z (MT hD);grind
   rcases NF 0 (sdR k a)with w |w
   ·exact w
   ·have h3:=hc.m a x hax w;have h4:=hi.1;omega
  ·rw[<- f6 k (by decide)];generalize ((((x*2^200).floor-1+128:Int)):Rat)/((2^200:Int):Rat)=b at *
   have hby:y<b:=by
    refine Oh.mp λz=>?_
    have:=Nv z (MT hD);have e1:((1:Int):Rat)=1:=rfl;grind
   have h3:=hc.m y b hby hi.2;omega
 exact h _ _ _ (Nr _) rfl (key l hl h1) (key l' hl' h2)
noncomputable def bN(ls:List Ex)(t n t' n':Int):Int:=(ls.map λl=>if 0<au l t n/\au l t' n'<=0 then(1:Int)else 0).sum
theorem jM{t n t' n':Int}(hn:0<n)(hn':0<n'):∀ls:List Ex,cnt (ls.map sdR) ((t:Rat)/(n:Rat)) ((t':Rat)/(n':Rat))=bN ls t n t' n'
 | []=>rfl
 |l::ls=>by have ih:=jM (t:=t) (t':=t') hn hn' ls;rw[Nw,eI,ih,f6 l hn,f6 l hn'];unfold bN;rw[Nw,List.sum_cons]
noncomputable def sgv(row:List Ex)(t n:Int):Ex:=row.map λf=>sg (hv t n f)
theorem xn{t n:Int}(hn:0<n)(row:List Ex):sgv row t n=sgX row ((t:Rat)/(n:Rat)):=by unfold sgv sgX;exact OK λf _=>pG hn f
theorem JD{c:Int}{fs:List Ex}(hF:∀f∈fs,FacG f)(hnd:(fs.map ah).Nodup)(hc:c≠0){P:Ex}(hP:P=af [c] (aO [1] (fs.map ah)))(hl:P.length<=20){N:Nat}(hN:P.length<=N+1){t n t' n':Int}(hn:0<n)(hn':0<n')(hlt:t*n'<t'*n) :
 vr 0 (sgv (bj (N+1) (ar P) (ar (slopeL P))) t n)-vr 0 (sgv (bj (N+1) (ar P) (ar (slopeL P))) t' n')=bN (aK fs) t n t' n':=by
 have hFQ:∀f∈fs,fc f:=λf hf=>(hF f hf).q
 have U:=vn hF hnd;have ew:=vm (c:=c) hF;obtain⟨tP,nP,_⟩:=jV U hc;rw[ew,<- hP]at tP nP;have cop:=Eo hF hnd hc (by rw[<- hP];exact hl);rw[<- hP]at cop;have tS:=iq tP;obtain⟨g0,t0,n0,e0⟩:=mn tP nP;have copS:=cop.shr tP nP tS;have lS:(ar (slopeL P)).length=P.length-1:=by unfold ar;rw[MI,gC]
 have hst:=xM N (ar P) (ar (slopeL P)) (by omega) t0 n0 (fW tS) copS;by_cases hs:slopeL P=[]
 ·
  have h1:P.length<=1:=by have:=congrArg List.length hs;rw[gC]at this;simp at this;omega
  have hfs:fs=[]:=by
   cases fs with
   |nil=>rfl
   |cons f fs =>
    exfalso
    have hss:∀s∈(f::fs).map ah,s≠[]/\Tr s:=λs h=>by obtain⟨x,hx,rfl⟩:=MW.mp h;exact pA (hFQ x hx)
    obtain⟨p1,p2,p3⟩:=jq ((f::fs).map ah) [1] (by simp) ((tr_snoc (r:=[])).mpr (by decide)) hss
    have hl2:2<=(ah f).length:=by obtain⟨u,e,b,rfl,hb⟩:=hFQ f (MP ..);obtain⟨_,l2⟩:=fX (u:=u) (e:=e) hb;show 2<=(aD (aE u e b)).length;rw[plain_len];exact l2
    have hsl:∀ss:List Ex,(∀s∈ss,s≠[])->ss.length<=sl ss:=λss=>by
     induction ss with
     |nil=>intro _;exact MJ _
     |cons s ss ih =>
      intro h;have h1:=MR.mpr (h s (MP ..));have h2:=ih λx hx=>h x (MK _ hx)
      show ss.length+1<=s.length+sl ss;omega
    have h3:=hsl (fs.map ah) λs hs=>(hss s (MK _ hs)).1
    have h4:sl ((f::fs).map ah)=(ah f).length+sl (fs.map ah):=rfl
    have h5:P.length=(aO [1] ((f::fs).map ah)).length:=by rw[hP,bM (by simp) p1];show 1+_-1=_;omega
    simp only[MI,Nh,OZ]at p3 h3;omega
  subst hfs
  have hr:bj (N+1) (ar P) (ar (slopeL P))=[ar P]:=by
   have:ar (slopeL P)=[]:=by rw[hs];rfl
   rw[this];exact xO n0 (by omega)
  rw[hr];show vr 0 [_]-vr 0 [_]=0;rw[oC,oC];rfl
 ·obtain⟨g1,t1,n1,e1⟩:=mn tS hs
  have hN1:1<=N:=by have:=MR.mpr n1;omega
  obtain⟨M,rfl⟩:∃M,N=M+1:=⟨N-1,by omega⟩
  have er:bj (M+1+1) (ar P) (ar (slopeL P))=ar P::ar (slopeL P)::bj M (nxt (ar P) (ar (slopeL P))) (nxt (ar (slopeL P)) (nxt (ar P) (ar (slopeL P)))):=by show(if ar P=[]then _ else ar P::(if ar (slopeL P)=[]then _ else _))=_;rw[if_neg n0,if_neg n1]
  rw[er]at hst ⊢;have g0':(0:Rat)<((aB P:Int):Rat):=MU.mpr g0;have g1':(0:Rat)<((aB (slopeL P):Int):Rat):=MU.mpr g1
  have hd:∀x,pv (slopeL (ar P)) x=((aB (slopeL P):Int):Rat)/((aB P:Int):Rat)*pv (ar (slopeL P)) x:=λx=>by
   have h1:=kD (a:=slopeL (ar P)) (c:=slopeL P) (u:=(aB P:Int)) x λk=>by rw[eJ,eJ,e0 (k+1)];grind
   have h2:=kD (a:=ar (slopeL P)) (c:=slopeL P) (u:=(aB (slopeL P):Int)) x e1;have h3:((aB (slopeL P):Int):Rat)/((aB P:Int):Rat)*((aB P:Int):Rat)=((aB (slopeL P):Int):Rat):=M6 (by grind);rw[h1]at h2
   have h4:((aB P:Int):Rat)*pv (slopeL (ar P)) x=((aB P:Int):Rat)*(((aB (slopeL P):Int):Rat)/((aB P:Int):Rat)*pv (ar (slopeL P)) x):=by
    rw[h2];generalize ((aB (slopeL P):Int):Rat)/((aB P:Int):Rat)=w at *
    rw[<- h3];grind
   generalize pv (slopeL (ar P)) x=u at *
   generalize ((aB (slopeL P):Int):Rat)/((aB P:Int):Rat)*pv (ar (slopeL P)) x=v at *
   have h5:((aB P:Int):Rat)*(u-v)=0:=by grind
   rcases Rat.mul_eq_zero.mp h5 with z |z
   ·grind
   ·grind
  have hS:∀s∈(aK fs).map sdR,Cut s:=λs hs=>by obtain⟨l,hl,rfl⟩:=MW.mp hs;exact ki (dk hFQ hl)
  have hsg:sg c=1\/sg c = -1:=by
   rcases Ot hc with z |z
   ·right;unfold sg;rw[if_pos z]
   ·left;unfold sg;rw[if_neg (by omega),if_pos z]
  have hf:∀x,sgR (pv (ar P) x)=sg c*cpr x ((aK fs).map sdR):=λx=>by have h1:=mQ (t:=x.num) (n:=x.den) (c:=c) (eD x) hFQ;rw[<- hP,pG (eD x),ud]at h1;rw[uh,<- h1,kD (a:=ar P) (c:=P) (u:=(aB P:Int)) x e0,xv g0']
  have hap:=oO hF hnd
  have hp:∀x y:Rat,x<y->y-x<=1/2^200->((aK fs).map sdR).Pairwise λs t=>¬(inC s x y/\inC t x y):=λx y hxy hdd=>by rw[List.pairwise_map];exact hap.imp_of_mem λ{l l'} hl hl' h=>uE (dk hFQ hl) (dk hFQ hl') h hxy hdd
  have:=Cp hst (fk g1' g0') hd hS hsg hf (fk (by decide) (Rat.pow_pos (by decide))) hp ((fy hn hn').mpr hlt);rw[jM hn hn']at this;rw[xn hn,xn hn'];exact this
theorem ut{C:Rat->Rat->Prop}(hadd:∀x y z,x<y->y<z->C x y->C y z->C x z){δ a b:Rat}(hδ:0<δ)(h:∀x y,a<=x->y<=b->x<y->y-x<=δ->C x y):∀(n:Nat) (x y:Rat),a<=x->y<=b->x<y->y-x<=2^n*δ->C x y
 |0,x,y,hx,hy,hxy,hd=>h x y hx hy hxy (by rw[Rat.pow_zero]at hd;grind)
 |n+1,x,y,hx,hy,hxy,hd=>by
  have m1:x<(x+y)/2:=by grind
  have m2:(x+y)/2<y:=by grind
  rw[Rat.pow_succ]at hd;exact hadd x _ y m1 m2 (ut hadd hδ h n x _ hx (by grind) m1 (by grind)) (ut hadd hδ h n _ y (by grind) hy m2 (by grind))
theorem wU{δ:Rat}(hδ:0<δ)(w:Rat):∃n:Nat,w<=2^n*δ:=by
 obtain⟨n,hn⟩:=A8 (w/δ);refine⟨n,?_⟩;have h1:w/δ<=2^n:=OR hn (yL n);have h2:=Nv h1 (MT hδ)
 rwa [M6 (by grind)]at h2
theorem Bb(v:Rat):∃w:Rat,0<=w/\Bd w v:=by
 rcases NG (a:=0) (b:=v)with z |z
 ·exact⟨v,z,by grind,by grind⟩
 ·exact⟨-v,by grind,by grind,by grind⟩
theorem Hw{f:Rat->Rat}(hf:Nice f){a b:Rat}(hab:a<b)(h:∀z,a<=z->z<=b->1<=f z\/f z <= -1):sgR (f a)=sgR (f b):=by
 obtain⟨u,u0,u1⟩:=Bb a;obtain⟨v,v0,v1⟩:=Bb b;obtain⟨M,m0,m1,m2⟩:=hf (u+v) (by grind)
 have hB:∀z,a<=z->z<=b->Bd (u+v) z:=λz h1 h2=>by obtain⟨p1,p2⟩:=u1;obtain⟨p3,p4⟩:=v1;constructor<;>grind
 have hT:0<M+1:=by grind
 obtain⟨n,hn⟩:=wU (fk (show(0:Rat)<1 by decide) hT) (b-a);refine ut (C:=λx y=>sgR (f x)=sgR (f y)) (λx y z _ _ h1 h2=>h1.trans h2) (fk (show(0:Rat)<1 by decide) hT) (a:=a) (b:=b) (λx y hx hy hxy hd=>?_) n a b (by grind) (by grind) hab hn
 have hd':(y-x)*(M+1)<=1:=by
  have:=Nv hd (MT hT)
  rwa [M6 (by grind)]at this
 obtain⟨f1,f2⟩:=m2 x y (hB x hx (by grind)) (hB y (by grind) hy) (by grind);have hx1:=h x hx (by grind);have hy1:=h y (by grind) hy;rcases cq (f x)with⟨a1,a2⟩ |⟨a1,a2⟩ |⟨a1,a2⟩<;>rcases cq (f y)with⟨b1,b2⟩ |⟨b1,b2⟩ |⟨b1,b2⟩
 ·rw[a2,b2]
 ·grind
 ·grind
 ·grind
 ·grind
 ·grind
 ·grind
 ·grind
 ·rw[a2,b2]
theorem r9{s:Rat->Int}{ε:Rat}(hε:0<ε):∀(n:Nat) (x y:Rat),x<y->0<s x->s y<=0->y-x<=2^n*ε->∃x' y',x<=x'/\x'<y'/\y'<=y/\y'-x'<=ε/\0<s x'/\s y'<=0
 |0,x,y,hxy,hx,hy,hd=>⟨x,y,Na,hxy,Na,by rw[Rat.pow_zero]at hd;grind,hx,hy⟩
 |n+1,x,y,hxy,hx,hy,hd=>by
  have m1:x<(x+y)/2:=by grind
  have m2:(x+y)/2<y:=by grind
  rw[Rat.pow_succ]at hd;by_cases h:s ((x+y)/2)<=0
  ·obtain⟨x',y',h1,h2,h3,h4⟩:=r9 hε n x _ m1 hx h (by grind);exact⟨x',y',h1,h2,by grind,h4⟩
  ·obtain⟨x',y',h1,h2,h3,h4⟩:=r9 hε n _ y m2 (by omega) hy (by grind);exact⟨x',y',by grind,h2,h3,h4⟩
theorem yE{f:Rat->Rat}(hf:Nice f){S:List (Rat->Int)}{ε:Int}(hε:ε=1\/ε = -1)(hS:∀s∈S,Cut s)(hv:∀x,sgR (f x)=ε*cpr x S){δ:Rat}(hδ:0<δ)(hp:∀x y,x<y->y-x<=δ->S.Pairwise λs t=>¬(inC s x y/\inC t x y)){a b:Rat}(hab:a<b)(h:∀z,a<=z->z<=b->1<=f z\/f z <= -1){s:Rat->Int}(hs:s∈S):¬(0<s a/\s b<=0):=by
 rintro⟨ha,hb⟩;obtain⟨n,hn⟩:=wU hδ (b-a);obtain⟨x,y,h1,h2,h3,h4,h5,h6⟩:=r9 hδ n a b hab ha hb hn;have hc:=AE hε hS h2 (hv x) (hv y) (hp x y h2 h4);have hsame:=Hw hf h2 λz hz1 hz2=>h z (by grind) (by grind)
 unfold chg at hc
 rw[if_neg (λz=>z.2 hsame.symm)]at hc
 have pos:∀(S:List (Rat->Int)),s∈S->1<=cnt S x y:=λS=>by
  induction S with
  |nil=>intro h;cases h
  |cons t S ih =>
   intro h
   have nn:∀S:List (Rat->Int),0<=cnt S x y:=λS=>by
    induction S with
    |nil=>exact Nr _
    |cons t S ih=>rw[eI];split<;>omega
   rw[eI];rcases MM.mp h with rfl |h
   ·rw[if_pos ⟨h5,h6⟩];have:=nn S;omega
   ·have:=ih h;split<;>omega
 have:=pos S hs;omega
theorem Ef{ss:List Ex}(hs:∀s∈ss,s≠[]/\Tr s){t:Int}{n:Nat}(hn:0<n)(h:n^sl ss<=(pr t n ss).natAbs):1<=pv (aO [1] ss) ((t:Rat)/((n:Int):Rat))\/pv (aO [1] ss) ((t:Rat)/((n:Int):Rat)) <= -1:=by
 have hn':(0:Int)<(n:Int):=by omega
 obtain⟨p1,p2,p3⟩:=jq ss [1] (by simp) ((tr_snoc (r:=[])).mpr (by decide)) hs;have e1:=nF t n ss [1] (by simp) λs h=>(hs s h).1
 rw[kZ,Ni]at e1;have e2:=congrArg Int.natAbs e1;rw[MY,O3,MY,Nm]at e2;have h3:n*n^sl ss<=n^ss.length*(hv t n (aO [1] ss)).natAbs:=by rw[e2];exact Oe _ h
 have e4:n*n^sl ss=n^ss.length*n^(aO [1] ss).length:=by
  rw[<- Nat.pow_add,Oa,<- On]
  congr 1
  have:([1]:Ex).length=1:=rfl;omega
 rw[e4]at h3;have h5:=Pj h3 (N0 hn);have e6:=sV (t:=t) hn' (aO [1] ss);generalize pv (aO [1] ss) ((t:Rat)/((n:Int):Rat))=q at *
 generalize hv t n (aO [1] ss)=z at *
 have hp:(0:Rat)<((n:Int):Rat)^(aO [1] ss).length:=Rat.pow_pos (MU.mpr hn')
 have e7:(((n^(aO [1] ss).length:Nat):Int):Rat)=((n:Int):Rat)^(aO [1] ss).length:=by rw[OF,Rat.intCast_pow]
 rcases Int.le_total 0 z with w |w
 ·left;have h8:((n^(aO [1] ss).length:Nat):Int)<=z:=by omega
  have h9:=NX.mpr h8;rw[e7,e6]at h9;refine NU.mp λhq=>?_
  have:=Rat.mul_lt_mul_of_pos_left hq hp;grind
 ·right;have h8:z <= -((n^(aO [1] ss).length:Nat):Int):=by omega
  have h9:=NX.mpr h8;rw[OE,e7,e6]at h9;refine NU.mp λhq=>?_
  have:=Rat.mul_lt_mul_of_pos_left hq hp;grind
theorem CD{l:Ex}(hl:Spt l):∃M:Int,0<M/\∀T:Int,M<=T->au l T 1<0/\0<au l (-T) 1:=by
 obtain⟨u,e,b,s,rfl,he,hb,hs⟩:=hl;refine⟨(u.natAbs:Int)+e+1,by omega,λT hT=>?_⟩
 have h1:T<=b*T:=by have:=Np hb (show 0<=T by omega);omega
 have g1:e+1<=b*T-u*1:=by omega
 have g2:e+1<=0-(b * -T-u*1):=by have:b * -T = -(b*T):=Int.mul_neg _ _;omega
 have q1:=ir (show 0<=e+1 by omega) g1;have q2:=ir (show 0<=e+1 by omega) g2;have q3:(e+1)*(e+1)=e*e+2*e+1:=by grind
 have q4:0<=e*e:=MZ he he;rcases hs with rfl |rfl
 ·constructor
  ·show aY (e*1*1) (b*T-u*1)<0;rcases bR (e*1*1) (b*T-u*1)with z |z |z<;>omega
  ·show 0<aY (e*1*1) (b * -T-u*1);rcases bR (e*1*1) (b * -T-u*1)with z |z |z<;>omega
 ·constructor
  ·show 0-aY (e*1*1) (0-(b*T-u*1))<0;rcases bR (e*1*1) (0-(b*T-u*1))with z |z |z<;>omega
  ·show 0<0-aY (e*1*1) (0-(b * -T-u*1));rcases bR (e*1*1) (0-(b * -T-u*1))with z |z |z<;>omega
theorem v6{fs:List Ex}(hF:∀f∈fs,FacG f)(hnd:(fs.map ah).Nodup){B:Nat}(hB:1<=B)(hb:∀x∈(aO [1] (fs.map ah)).take ((aO [1] (fs.map ah)).length-1),x.natAbs<=(B-1)*(al (aO [1] (fs.map ah))).natAbs){l:Ex}(hl:l∈aK fs):au l B 1<0/\0<au l (-(B:Int)) 1:=by
 have hFQ:∀f∈fs,fc f:=λf hf=>(hF f hf).q
 have hss:∀s∈fs.map ah,s≠[]/\Tr s:=λs h=>by obtain⟨x,hx,rfl⟩:=MW.mp h;exact pA (hFQ x hx)
 have hT:Tr (aO [1] (fs.map ah)):=(jq (fs.map ah) [1] (by simp) ((tr_snoc (r:=[])).mpr (by decide)) hss).2.1;have e1:af [1] (aO [1] (fs.map ah))=aO [1] (fs.map ah):=one_mul _ hT;have far:=λ(t:Int) (n:Nat)=>IS (t:=t) (n:=n) (B:=B) (c:=1) (by decide) hss hB (by rw[e1];exact hb)
 have hspt:=dk hFQ hl;have hcut:=ki hspt
 have hS:∀s∈(aK fs).map sdR,Cut s:=λs hs=>by obtain⟨l,hl,rfl⟩:=MW.mp hs;exact ki (dk hFQ hl)
 have hf:∀x,sgR (pv (aO [1] (fs.map ah)) x)=1*cpr x ((aK fs).map sdR):=λx=>by have h1:=mQ (t:=x.num) (n:=x.den) (c:=1) (eD x) hFQ;rw[e1,pG (eD x),ud]at h1;rw[uh,h1];rfl
 have hap:=oO hF hnd
 have hp:∀x y:Rat,x<y->y-x<=1/2^200->((aK fs).map sdR).Pairwise λs t=>¬(inC s x y/\inC t x y):=λx y hxy hdd=>by rw[List.pairwise_map];exact hap.imp_of_mem λ{l l'} hl hl' h=>uE (dk hFQ hl) (dk hFQ hl') h hxy hdd
 have away:∀z:Rat,((B:Int):Rat)<=z\/z <= -((B:Int):Rat)->1<=pv (aO [1] (fs.map ah)) z\/pv (aO [1] (fs.map ah)) z <= -1:=λz hz=>by
  have h1:=Ef hss (t:=z.num) (n:=z.den) z.den_pos (far z.num z.den z.den_pos ?_)
  ·rw[ud]at h1;exact h1
  ·have hd:(0:Rat)<((z.den:Int):Rat):=MU.mpr (eD z);have hnum:=mY z;rcases hz with w |w
   ·have h2:=Nv w (MT hd);rw[<- hnum,<- MS]at h2;have h3:=NX.mp h2;have h4:((B*z.den:Nat):Int)=(B:Int)*(z.den:Int):=NK _ _;omega
   ·have h2:=Nv w (MT hd);rw[<- hnum,<- OE,<- MS]at h2;have h3:=NX.mp h2;have h4:((B*z.den:Nat):Int)=(B:Int)*(z.den:Int):=NK _ _;have h5 : -(B:Int)*(z.den:Int) = -((B:Int)*(z.den:Int)):=Int.neg_mul _ _;omega
 obtain⟨M,hM,hfar⟩:=CD hspt;have hmem:sdR l∈(aK fs).map sdR:=MW.mpr ⟨l,hl,rfl⟩;have δ0:(0:Rat)<1/2^200:=fk (by decide) (Rat.pow_pos (by decide))
 have int1:∀z:Int,sdR l (z:Rat)=au l z 1:=λz=>by
  have:=f6 l (t:=z) (n:=1) (by decide)
  have e:(z:Rat)/((1:Int):Rat)=(z:Rat):=by have:((1:Int):Rat)=1:=rfl;rw[this];grind
  rw[e]at this;exact this
 constructor
 ·
  have hlt:((B:Int):Rat)<((M+B:Int):Rat):=MU.mpr (by omega);have no:=yE (eX _) (.inl rfl) hS hf δ0 hp hlt (λz h1 _=>away z (.inl h1)) hmem;rw[int1,int1]at no;have hfr:=(hfar (M+B) (by omega)).1;rcases gU l B 1 with z |z |z
  ·exact absurd ⟨by omega,by omega⟩ no
  ·
   exfalso;have h1:=away (((B:Int)):Rat) (.inl Na)
   have h2:sgR (pv (aO [1] (fs.map ah)) ((B:Int):Rat))=0:=by
    rw[hf]
    have h3:∀(S:List (Rat->Int)) (x:Rat) (s:Rat->Int),s∈S->s x=0->cpr x S=0:=λS x s hs h0=>by obtain⟨pre,post,rfl⟩:=OQ hs;rw[nX];show _*(-s x*_)=0;rw[h0];simp
    rw[h3 _ _ _ hmem (by rw[int1];exact z)];rfl
   rcases cq (pv (aO [1] (fs.map ah)) ((B:Int):Rat))with⟨a,c⟩ |⟨a,c⟩ |⟨a,c⟩
   ·omega
   ·grind
   ·omega
  ·omega
 ·have hlt:((-(M+B):Int):Rat)<((-(B:Int):Int):Rat):=MU.mpr (by omega);have no:=yE (eX _) (.inl rfl) hS hf δ0 hp hlt (λz _ h2=>away z (.inr (by rw[OE]at h2;exact h2))) hmem;rw[int1,int1]at no;have hfr:=(hfar (M+B) (by omega)).2;rcases gU l (-(B:Int)) 1 with z |z |z
  ·omega
  ·exact absurd ⟨hfr,by omega⟩ no
  ·exact absurd ⟨hfr,by omega⟩ no
theorem kF{s:Ex}:∀(pre post:List Ex),prd (pre++s::post)=af s (prd (pre++post))
 | [],post=>rfl
 |t::pre,post=>by show af t (prd (pre++s::post))=af s (af t (prd (pre++post)));rw[kF pre post];ac_rfl
theorem yx{l:Ex}(h:Pln l):af [1] l=l:=one_mul l h.tr
theorem Jv{ss:List Ex}(hp:∀s∈ss,Pri s)(hn:ss.Nodup){E:Ex}(hE:Pln E)(hl:E.length=3)(hd:Dv E (prd ss)):E∈ss\/∃p q,p∈ss/\q∈ss/\p≠q/\E=af p q:=by
 have ne1:E≠[1]:=λz=>by rw[z]at hl;cases hl
 obtain⟨p,hpm,hpd⟩:=(nU ss hp hE hd).resolve_left ne1;have pp:=hp p hpm;obtain⟨q,hq,eq⟩:=Dv.fellow pp.pln hE.tr hE.ne hpd;rw[hE.plain]at eq;have hlen:=bM hq.ne pp.pln.ne;rw[eq,hl]at hlen;have l2:=pp.two;have ql:=MR.mpr hq.ne;rcases Nat.lt_or_ge p.length 3 with z |z
 ·
  have lp:p.length=2:=by omega
  have lq:q.length=2:=by omega
  obtain⟨pre,post,rfl⟩:=OQ hpm
  have hd2:Dv (af p q) (af p (prd (pre++post))):=by
   rw[<- kF];have:af p q=E:=by rw[<- eq];ac_rfl
   rw[this];exact hd
  have hd3:=Dv.cancel pp.pln.ne pp.pln.tr hd2
  have ho:∀s∈pre++post,Pri s:=λs hs=>hp s (by
   rcases Nb.mp hs with w |w
   ·exact NI _ w
   ·exact Nq _ (MK _ w))
  have nq1:q≠[1]:=λw=>by rw[w]at lq;cases lq
  obtain⟨p',hpm',hpd'⟩:=(nU (pre++post) ho hq hd3).resolve_left nq1;have pp':=ho p' hpm';obtain⟨r,hr,er⟩:=Dv.fellow pp'.pln hq.tr hq.ne hpd';rw[hq.plain]at er;have hlen':=bM hr.ne pp'.pln.ne;rw[er,lq]at hlen';have l2':=pp'.two;have rl:=MR.mpr hr.ne;have r1:=hr.const (by omega);rw[r1,yx pp'.pln]at er
  have hmem:p'∈pre++p::post:=by
   rcases Nb.mp hpm' with w |w
   ·exact NI _ w
   ·exact Nq _ (MK _ w)
  refine .inr ⟨p,p',hpm,hmem,λw=>?_,?_⟩
  ·rw[List.nodup_append]at hn;rcases Nb.mp hpm' with y |y
   ·exact hn.2.2 p' y p (MP ..) w.symm
   ·exact(N9.mp hn.2.1).1 (w ▸ y)
  ·rw[er,<- eq];ac_rfl
 ·left;have q1:=hq.const (by omega);rw[q1,yx pp.pln]at eq;rw[<- eq];exact hpm
theorem ub(u b:Int)(x:Rat):((b*x.num-u*(x.den:Int):Int):Rat)=((b:Rat)*x-(u:Rat))*((x.den:Int):Rat):=by rw[OS,MS,MS,mY x];grind
theorem GG(u b:Int)(x:Rat):b*x.num-u*(x.den:Int)<0↔(b:Rat)*x-(u:Rat)<0:=by
 have hd:(0:Rat)<((x.den:Int):Rat):=MU.mpr (eD x);rw[<- MU,ub];constructor
 ·intro h;refine Oh.mp λz=>?_
  have:=M9 z (MT hd);have e:((0:Int):Rat)=0:=rfl;grind
 ·intro h;have:=M5 (show 0 < -((b:Rat)*x-(u:Rat)) by grind) hd;have e:((0:Int):Rat)=0:=rfl;grind
theorem vV(u e b:Int)(x:Rat):((b*x.num-u*(x.den:Int))*(b*x.num-u*(x.den:Int))<e*(x.den:Int)*(x.den:Int)↔((b:Rat)*x-(u:Rat))*((b:Rat)*x-(u:Rat))<(e:Rat))/\(e*(x.den:Int)*(x.den:Int)<(b*x.num-u*(x.den:Int))*(b*x.num-u*(x.den:Int))↔(e:Rat)<((b:Rat)*x-(u:Rat))*((b:Rat)*x-(u:Rat))):=by
 have hd:(0:Rat)<((x.den:Int):Rat):=MU.mpr (eD x);have hdd:=M5 hd hd;have e1:(((b*x.num-u*(x.den:Int))*(b*x.num-u*(x.den:Int)):Int):Rat)=((b:Rat)*x-(u:Rat))*((b:Rat)*x-(u:Rat))*(((x.den:Int):Rat)*((x.den:Int):Rat)):=by rw[MS,ub];grind
 have e2:((e*(x.den:Int)*(x.den:Int):Int):Rat)=(e:Rat)*(((x.den:Int):Rat)*((x.den:Int):Rat)):=by rw[MS,MS];grind
 have key:∀p q:Rat,(p*(((x.den:Int):Rat)*((x.den:Int):Rat))<q*(((x.den:Int):Rat)*((x.den:Int):Rat)))↔p<q:=λp q=>⟨λh=>Oh.mp λz=>by
  have:=Nv z (MT hdd)
  grind,λh=>Pl h hdd⟩
 constructor
 ·rw[<- MU,e1,e2,key]
 ·rw[<- MU,e1,e2,key]
theorem vp{u e b:Int}(x:Rat):(0<sdR [u,e,b,1] x↔(b:Rat)*x-(u:Rat)<0\/((b:Rat)*x-(u:Rat))*((b:Rat)*x-(u:Rat))<(e:Rat)):=by have h:sdR [u,e,b,1] x=aY (e*(x.den:Int)*(x.den:Int)) (b*x.num-u*(x.den:Int)):=rfl;rw[h,<- GG,<- (vV u e b x).1];rcases bR (e*(x.den:Int)*(x.den:Int)) (b*x.num-u*(x.den:Int))with⟨z,w⟩ |⟨z,w⟩ |⟨z,w⟩<;>rw[z]<;>omega
theorem vt{u e b:Int}(x:Rat):(0<sdR [u,e,b,-1] x↔(b:Rat)*x-(u:Rat)<=0/\(e:Rat)<((b:Rat)*x-(u:Rat))*((b:Rat)*x-(u:Rat))):=by
 have h:sdR [u,e,b,-1] x=0-aY (e*(x.den:Int)*(x.den:Int)) (0-(b*x.num-u*(x.den:Int))):=rfl;have e1:(0-(b*x.num-u*(x.den:Int)))*(0-(b*x.num-u*(x.den:Int)))=(b*x.num-u*(x.den:Int))*(b*x.num-u*(x.den:Int)):=by grind
 have hle:(b:Rat)*x-(u:Rat)<=0↔0<=0-(b*x.num-u*(x.den:Int)):=by
  have hd:(0:Rat)<((x.den:Int):Rat):=MU.mpr (eD x);have e3:=ub u b x;constructor
  ·intro h
   have:¬(0<b*x.num-u*(x.den:Int)):=λz=>by have z':=MU.mpr z;rw[e3]at z';have:=M9 (show 0 <= -((b:Rat)*x-(u:Rat)) by grind) (MT hd);have e:((0:Int):Rat)=0:=rfl;grind
   omega
  ·intro h;refine NU.mp λz=>?_
   have:=M5 z hd;rw[<- e3]at this;have:=MU.mp (show((0:Int):Rat)<_ from this);omega
 rw[h,hle,<- (vV u e b x).2];rcases bR (e*(x.den:Int)*(x.den:Int)) (0-(b*x.num-u*(x.den:Int)))with⟨z,w⟩ |⟨z,w⟩ |⟨z,w⟩<;>rw[z]<;>rw[e1]at w<;>omega
structure Two(u e b x y x' y':Rat):Prop where
 xp:b*x-u<0\/(b*x-u)*(b*x-u)<e
 yp:0<=b*y-u/\e<=(b*y-u)*(b*y-u)
 xm:b*x'-u<=0/\e<(b*x'-u)*(b*x'-u)
 ym:0<b*y'-u\/(b*y'-u)*(b*y'-u)<=e
theorem DE{a c:Rat}(hc:0<=c)(h:a*a<c*c):a<c:=Oh.mp λz=>by have:=M9 (show 0<=a-c by grind) (show 0<=a+c by grind);grind
theorem DF{a c:Rat}(hc:0<=c)(h:a*a<=c*c):a<=c:=NU.mp λz=>by have:=M5 (show 0<a-c by grind) (show 0<a+c by grind);grind
theorem Two.sum{u e b x y x' y':Rat}(h:Two u e b x y x' y'):2*u<=b*(y+y')/\b*(x+x')<2*u:=by
 obtain⟨xp,yp,xm,ym⟩:=h;constructor
 ·rcases ym with z |z
  ·grind
  ·have : -(b*y'-u)<=b*y-u:=DF yp.1 (by grind);grind
 ·rcases xp with z |z
  ·grind
  ·have:b*x-u < -(b*x'-u):=DE (by grind) (by grind);grind
noncomputable def mx(a b:Rat):Rat:=if a<b then b else a
theorem yO(a b:Rat):a<=mx a b:=by unfold mx;split<;>grind
theorem yN(a b:Rat):b<=mx a b:=by unfold mx;split<;>grind
theorem yP(a b:Rat):mx a b=a\/mx a b=b:=by unfold mx;split<;>simp
theorem bil{X Y X' Y' a a' m:Rat}(h1:X<=a)(h2:a<=Y)(h3:X'<=a')(h4:a'<=Y')(c1:X*X'<=m)(c2:X*Y'<=m)(c3:Y*X'<=m)(c4:Y*Y'<=m):a*a'<=m:=by
 have g1:X*a'<=m:=by
  rcases NG (a:=0) (b:=X)with z |z
  ·have:=M9 z (show 0<=Y'-a' by grind);grind
  ·have:=M9 (show 0 <= -X by grind) (show 0<=a'-X' by grind);grind
 have g2:Y*a'<=m:=by
  rcases NG (a:=0) (b:=Y)with z |z
  ·have:=M9 z (show 0<=Y'-a' by grind);grind
  ·have:=M9 (show 0 <= -Y by grind) (show 0<=a'-X' by grind);grind
 rcases NG (a:=0) (b:=a')with z |z
 ·have:=M9 z (show 0<=Y-a by grind);grind
 ·have:=M9 (show 0 <= -a' by grind) (show 0<=a-X by grind);grind
theorem Two.prod{u e b x y x' y' m w N:Rat}(h:Two u e b x y x' y')(hb:0<b)(he:0<e)(hirr:∀q:Rat,q*q≠e)(hxy:x<y)(hxy':x'<y')(hw:y-x<=w)(hw':y'-x'<=w)(n1:Bd N x)(n2:Bd N y)(n3:Bd N x')(n4:Bd N y')
 (c1:x*x'<=m) (c2:x*y'<=m) (c3:y*x'<=m) (c4:y*y'<=m) (hm:m=x*x'\/m=x*y'\/m=y*x'\/m=y*y'):u*u-e<b*b*m/\b*b*m<=u*u-e+2*(b*b)*(w*N):=by
 have hs:=h.sum;obtain⟨xp,yp,xm,ym⟩:=h;have hbb:=M5 hb hb
 have scale:∀a a':Rat,b*x-u<=a->a<=b*y-u->b*x'-u<=a'->a'<=b*y'-u->(a+u)*(a'+u)<=b*b*m:=λa a' g1 g2 g3 g4=>by
  have e1:∀p q:Rat,b*p*(b*q)=b*b*(p*q):=λp q=>by grind
  have k:∀p q:Rat,p*q<=m->b*p*(b*q)<=b*b*m:=λp q hpq=>by rw[e1];exact No hpq (MT hbb)
  exact bil (X:=b*x) (Y:=b*y) (X':=b*x') (Y':=b*y') (by grind) (by grind) (by grind) (by grind) (k _ _ c1) (k _ _ c2) (k _ _ c3) (k _ _ c4)
 constructor
 ·obtain⟨a,a0,ae,ax,ay,am⟩:∃a:Rat,0<=a/\a*a<e/\b*x-u<=a/\a<=b*y-u /\ -(b*y'-u)<=a/\a <= -(b*x'-u):=by
   have p1:=yO (b*x-u) (mx (-(b*y'-u)) 0);have p2:=yN (b*x-u) (mx (-(b*y'-u)) 0);have p3:=yO (-(b*y'-u)) 0;have p4:=yN (-(b*y'-u)) 0
   have hX:b*x-u<=b*y-u:=by have:=M5 hb (show 0<y-x by grind);grind
   have hX':b*x'-u<=b*y'-u:=by have:=M5 hb (show 0<y'-x' by grind);grind
   have q1:=yP (b*x-u) (mx (-(b*y'-u)) 0);have q2:=yP (-(b*y'-u)) 0;have hxm:=xm.1;have hyp:=yp.1;refine⟨mx (b*x-u) (mx (-(b*y'-u)) 0),by grind,?_,p1,?_,by grind,?_⟩
   ·rcases q1 with z |z
    ·rw[z]at p2 ⊢;rcases xp with w |w
     ·grind
     ·exact w
    ·rw[z];rcases q2 with z2 |z2
     ·rw[z2]at p4 ⊢;have e1 : -(b*y'-u) * -(b*y'-u)=(b*y'-u)*(b*y'-u):=by grind
      rw[e1];rcases ym with w |w
      ·grind
      ·have:=hirr (b*y'-u);grind
     ·rw[z2];grind
   ·rcases q1 with z |z
    ·rw[z];exact hX
    ·rw[z];rcases q2 with z2 |z2
     ·rw[z2];grind
     ·rw[z2];exact hyp
   ·rcases q1 with z |z
    ·rw[z];grind
    ·rw[z];rcases q2 with z2 |z2
     ·rw[z2];grind
     ·rw[z2];grind
  have:=scale a (-a) ax ay (by grind) (by grind);grind
 ·obtain⟨c,c0,ce,cx,cy,cm,cm'⟩:∃c:Rat,0<=c/\e<=c*c/\b*x-u<=c/\c<=b*y-u /\ -(b*y'-u)<=c/\c <= -(b*x'-u):=by
   have hX:b*x-u<=b*y-u:=by have:=M5 hb (show 0<y-x by grind);grind
   have hX':b*x'-u<=b*y'-u:=by have:=M5 hb (show 0<y'-x' by grind);grind
   rcases NG (a:=b*y-u) (b := -(b*x'-u))with z |z
   ·exact⟨b*y-u,yp.1,yp.2,hX,Na,by grind,z⟩
   ·refine⟨-(b*x'-u),by grind,by grind,by grind,z,by grind,Na⟩
  have hbw:0<=b*w:=M9 (MT hb) (by grind)
  have side:∀p q:Rat,b*x-u<=b*p-u->b*p-u<=b*y-u->b*x'-u<=b*q-u->b*q-u<=b*y'-u->Bd N p->b*b*(p*q)<=u*u-e+2*(b*b)*(w*N):=λp q g1 g2 g3 g4 hp=>by
   have w1:b*(y-x)<=b*w:=No hw (MT hb);have w2:b*(y'-x')<=b*w:=No hw' (MT hb);have d1:Bd (b*w) (b*p-u-c):=⟨by grind,by grind⟩;have d2:Bd (b*w) (b*q-u+c):=⟨by grind,by grind⟩;have bN1:b*x'<=u-c/\u-c<=b*y':=⟨by grind,by grind⟩
   have k1 : -(b*N)<=b*x':=by have:=No n3.1 (MT hb);grind
   have k2:b*y'<=b*N:=No n4.2 (MT hb);have d3:Bd (b*N) (u-c):=⟨by grind,by grind⟩
   have d4:Bd (b*N) (b*p):=by obtain⟨r1,r2⟩:=hp;have s1:=No r1 (MT hb);have s2:=No r2 (MT hb);exact⟨by grind,s2⟩
   obtain⟨_,z1⟩:=d1.mul d3;obtain⟨_,z2⟩:=d2.mul d4;have e1:b*b*(p*q)=(c+u)*(u-c)+((b*p-u-c)*(u-c)+(b*q-u+c)*(b*p)):=by grind
   have e2:b*w*(b*N)=b*b*(w*N):=by grind
   rw[e2]at z1 z2;grind
  have hX:b*x-u<=b*y-u:=by have:=M5 hb (show 0<y-x by grind);grind
  have hX':b*x'-u<=b*y'-u:=by have:=M5 hb (show 0<y'-x' by grind);grind
  rcases hm with rfl |rfl |rfl |rfl
  ·exact side x x' Na hX Na hX' n1
  ·exact side x y' Na hX hX' Na n1
  ·exact side y x' hX Na Na hX' n2
  ·exact side y y' hX Na hX' Na n2
theorem zS{c t b Z:Int}(hb:0<b)(h1:(Z:Rat)<=(c:Rat)*((t:Rat)/(b:Rat)))(h2:(c:Rat)*((t:Rat)/(b:Rat))<(Z:Rat)+1):c*t/b=Z:=by
 have hb':(0:Rat)<(b:Rat):=MU.mpr hb;have e1:(t:Rat)/(b:Rat)*(b:Rat)=(t:Rat):=M6 (by grind);have g1:=Nv h1 (MT hb');have g2:=Pl h2 hb'
 have e2:(c:Rat)*((t:Rat)/(b:Rat))*(b:Rat)=((c*t:Int):Rat):=by
  rw[MS];generalize (t:Rat)/(b:Rat)=q at *
  rw[<- e1];grind
 rw[e2]at g1 g2
 have i1:Z*b<=c*t:=by have:=g1;rw[<- MS]at this;exact NX.mp this
 have i2:c*t<(Z+1)*b:=by
  have e3:((Z:Rat)+1)*(b:Rat)=(((Z+1)*b:Int):Rat):=by rw[MS,OO];rfl
  rw[e3]at g2;exact MU.mp g2
 refine Int.le_antisymm ?_ ?_
 ·have:=(Int.ediv_lt_iff_lt_mul hb).mpr i2;omega
 ·exact(Int.le_ediv_iff_mul_le hb).mpr i1
theorem AA{x y:Rat}:∀{S:List (Rat->Int)},(S.Pairwise λs t=>¬(inC s x y/\inC t x y))->cnt S x y<=1
 | [],_=>by rw[Az];decide
 |s::S,h=>by
  obtain⟨h1,h2⟩:=NW.mp h;rw[eI];have ih:=AA h2;by_cases hs:0<s x/\s y<=0
  ·rw[if_pos hs]
   have z:∀(S:List (Rat->Int)),(∀t∈S,¬(inC s x y/\inC t x y))->cnt S x y=0:=λS=>by
    induction S with
    |nil=>intro _;rfl
    |cons t S ih =>intro h;rw[eI,ih λu hu=>h u (MK _ hu),if_neg λw=>h t (MP ..) ⟨⟨MN hs.1,hs.2⟩,⟨MN w.1,w.2⟩⟩];rfl
   rw[z S h1];decide
  ·rw[if_neg hs];omega
theorem li(ls:List Ex)(t n t' n':Int):0<=bN ls t n t' n':=by
 induction ls with
 |nil=>exact Nr _
 |cons l ls ih =>
  unfold bN at ih ⊢
  rw[Nw,List.sum_cons];split<;>omega
theorem gM(l:Ex)(ls:List Ex)(t n t' n':Int):bN (l::ls) t n t' n'=(if 0<au l t n/\au l t' n'<=0 then 1 else 0)+bN ls t n t' n':=by unfold bN;rw[Nw,List.sum_cons]
theorem JJ{fs:List Ex}(hF:∀f∈fs,fc f){a1 a2 b1 b2 c1 c2:Int}(a:0<a2)(b:0<b2)(c:0<c2)(h1:a1*b2<b1*a2)(h2:b1*c2<c1*b2):bN (aK fs) a1 a2 c1 c2=bN (aK fs) a1 a2 b1 b2+bN (aK fs) b1 b2 c1 c2:=by
 have hS:∀s∈(aK fs).map sdR,Cut s:=λs hs=>by obtain⟨l,hl,rfl⟩:=MW.mp hs;exact ki (dk hF hl)
 rw[<- jM a c,<- jM a b,<- jM b c];exact um ((fy a b).mpr h1) ((fy b c).mpr h2) hS
theorem JI{fs:List Ex}(hF:∀f∈fs,FacG f)(hn:(fs.map ah).Nodup){l1 l2 h1 h2:Int}(l2p:0<l2)(h2p:0<h2)(lt:l1*h2<h1*l2)(hw:(h1*l2-l1*h2)*2^200<=l2*h2):bN (aK fs) l1 l2 h1 h2<=1:=by
 rw[<- jM l2p h2p];refine AA ?_;rw[List.pairwise_map]
 have hd:(h1:Rat)/(h2:Rat)-(l1:Rat)/(l2:Rat)<=1/2^200:=by
  have L2:(0:Rat)<(l2:Rat):=MU.mpr l2p;have H2:(0:Rat)<(h2:Rat):=MU.mpr h2p;have e1:(l1:Rat)/(l2:Rat)*(l2:Rat)=(l1:Rat):=M6 (NH L2);have e2:(h1:Rat)/(h2:Rat)*(h2:Rat)=(h1:Rat):=M6 (NH H2);generalize (l1:Rat)/(l2:Rat)=x at e1 ⊢
  generalize (h1:Rat)/(h2:Rat)=y at e2 ⊢
  have hw':((h1:Rat)*(l2:Rat)-(l1:Rat)*(h2:Rat))*2^200<=(l2:Rat)*(h2:Rat):=by have:=NX.mpr hw;rw[MS,MS,OS,MS,MS]at this;exact this
  have M:(0:Rat)<(l2:Rat)*(h2:Rat):=M5 L2 H2;have P:(0:Rat)<2^200:=Rat.pow_pos (by decide);rw[<- e1,<- e2]at hw';have e3:(y*(h2:Rat)*(l2:Rat)-x*(l2:Rat)*(h2:Rat))*2^200=((y-x)*2^200)*((l2:Rat)*(h2:Rat)):=by grind
  rw[e3]at hw'
  have h4:(y-x)*2^200<=1:=by
   refine NU.mp λz=>?_
   have:=M5 (show 0<(y-x)*2^200-1 by grind) M;grind
  have e5:(1:Rat)/2^200*2^200=1:=M6 (NH P);refine NU.mp λz=>?_
  have:=M5 (show 0<(y-x)-1/2^200 by grind) P;grind
 exact(oO hF hn).imp_of_mem λ{l l'} hl hl' h=>uE (dk (λf hf=>(hF f hf).q) hl) (dk (λf hf=>(hF f hf).q) hl') h ((fy l2p h2p).mpr lt) hd
theorem AB{l1 l2 h1 h2:Int}:∀{ls:List Ex},bN ls l1 l2 h1 h2=0->∀x∈ls,¬(0<au x l1 l2/\au x h1 h2<=0)
 | [],_,x,hx=>nomatch hx
 |l::ls,h,x,hx=>by
  rw[gM]at h;have nn:=li ls l1 l2 h1 h2;by_cases hl:0<au l l1 l2/\au l h1 h2<=0
  ·rw[if_pos hl]at h;omega
  ·rw[if_neg hl]at h;rcases MM.mp hx with rfl |z
   ·exact hl
   ·exact AB (by omega) x z
theorem nY{l1 l2 h1 h2:Int}:∀{ls:List Ex},bN ls l1 l2 h1 h2=1->∃pre s post,ls=pre++s::post/\(0<au s l1 l2/\au s h1 h2<=0)/\∀x∈pre++post,¬(0<au x l1 l2/\au x h1 h2<=0)
 | [],h=>by cases h
 |l::ls,h=>by
  rw[gM]at h;by_cases hl:0<au l l1 l2/\au l h1 h2<=0
  ·rw[if_pos hl]at h;exact⟨[],l,ls,rfl,hl,AB (ls:=ls) (by omega)⟩
  ·rw[if_neg hl]at h;obtain⟨pre,s,post,rfl,e2,e3⟩:=nY (l1:=l1) (l2:=l2) (h1:=h1) (h2:=h2) (ls:=ls) (by omega);refine⟨l::pre,s,post,rfl,e2,λx hx=>?_⟩;rcases MM.mp hx with rfl |z
   ·exact hl
   ·exact e3 x z
theorem AC{l1 l2 h1 h2:Int}:∀{ls:List Ex} {s:Ex},s∈ls->(0<au s l1 l2/\au s h1 h2<=0)->1<=bN ls l1 l2 h1 h2
 |l::ls,s,hs,h=>by
  rw[gM];have nn:=li ls l1 l2 h1 h2;rcases MM.mp hs with rfl |z
  ·rw[if_pos h];omega
  ·have:=AC z h;split<;>omega
structure Dya(B:Int)(d:Nat)(l1 l2 h1 h2:Int):Prop where
 l2p:0<l2
 h2p:0<h2
 gl:Nat.gcd l1.natAbs l2.natAbs=1
 gh:Nat.gcd h1.natAbs h2.natAbs=1
 at':∃m:Int,0<=m/\m+1<=2^d/\l1*2^d=(2*m*B-B*2^d)*l2/\h1*2^d=(2*(m+1)*B-B*2^d)*h2
theorem Af{X l1 l2:Int}{d k:Nat}(l2p:0<l2)(g:Nat.gcd l1.natAbs l2.natAbs=1)(e:l1*2^d=X*l2)(hX:X.natAbs<=2^k)(hk:d<=k):l1.natAbs<=2^k/\l2.natAbs<=2^k:=by
 have e':l1.natAbs*2^d=X.natAbs*l2.natAbs:=by have:=congrArg Int.natAbs e;rw[MY,MY,O3]at this;exact this
 have hd:l2.natAbs∣2^d:=by refine Nat.Coprime.dvd_of_dvd_mul_left (k:=l2.natAbs) (m:=l1.natAbs) (by rw[Nat.Coprime,Nat.gcd_comm];exact g) ?_;exact⟨X.natAbs,by rw[e',Oa]⟩
 have p2:0<2^d:=N0 (by decide);have hle:=Nat.le_of_dvd p2 hd;refine⟨?_,MV hle (Nat.pow_le_pow_right (by decide) hk)⟩;have h1:l1.natAbs*2^d<=X.natAbs*2^d:=by rw[e'];exact Oe _ hle
 exact MV (Nat.le_of_mul_le_mul_right h1 p2) hX
theorem yz{B D m:Int}{N:Nat}(hN:(N:Int)=B*D)(B0:0<B)(m0:0<=m)(m1:m<=D):(2*m*B-B*D).natAbs<=N:=by
 have k1:0<=m*B:=MZ m0 (MN B0);have k2:m*B<=D*B:=Np m1 (MN B0);have k4:D*B=B*D:=Nj _ _;have k5:2*m*B=2*(m*B):=Ng _ _ _;rw[k5];generalize m*B=x at *
 generalize B*D=y at *
 omega
theorem Dya.bits{kb d:Nat}{l1 l2 h1 h2:Int}(h:Dya (2^kb) d l1 l2 h1 h2):(l1.natAbs<=2^(kb+d)/\l2.natAbs<=2^(kb+d))/\h1.natAbs<=2^(kb+d)/\h2.natAbs<=2^(kb+d):=by
 obtain⟨l2p,h2p,gl,gh,m,m0,m1,e1,e2⟩:=h;have B0:(0:Int)<2^kb:=NB (by decide);have eq:(((2:Nat)^(kb+d):Nat):Int)=2^kb*2^d:=by rw[OF,Int.pow_add];rfl
 exact⟨Af l2p gl e1 (yz eq B0 m0 (by omega)) (by omega),Af h2p gh e2 (yz eq B0 (by omega) m1) (by omega)⟩
theorem Dya.width{B:Int}{d:Nat}{l1 l2 h1 h2:Int}(h:Dya B d l1 l2 h1 h2):(h1*l2-l1*h2)*2^d=2*B*(l2*h2):=by obtain⟨l2p,h2p,gl,gh,m,m0,m1,e1,e2⟩:=h;grind
theorem Dya.lt{B:Int}(hB:0<B){d:Nat}{l1 l2 h1 h2:Int}(h:Dya B d l1 l2 h1 h2):l1*h2<h1*l2:=by
 have w:=h.width;have p:(0:Int)<2^d:=NB (by decide);have q:0<2*B*(l2*h2):=ML (by omega) (ML h.l2p h.h2p);rw[<- w]at q
 have:0<h1*l2-l1*h2:=Of.mp λz=>by have:=Int.mul_nonpos_of_nonpos_of_nonneg z (MN p);omega
 omega
theorem Dya.start{B:Int}:Dya B 0 (-B) 1 B 1:=⟨by decide,by decide,Nat.gcd_one_right _,Nat.gcd_one_right _,0,by decide,by decide,by grind,by grind⟩
theorem Dya.half{B:Int}{d:Nat}{l1 l2 h1 h2 c1 c2:Int}(h:Dya B d l1 l2 h1 h2)(c2p:0<c2)(gc:Nat.gcd c1.natAbs c2.natAbs=1)(e:c1*(2*l2*h2)=(l1*h2+h1*l2)*c2):Dya B (d+1) l1 l2 c1 c2/\Dya B (d+1) c1 c2 h1 h2:=by
 obtain⟨l2p,h2p,gl,gh,m,m0,m1,e1,e2⟩:=h
 have ec:c1*2^(d+1)=(2*(2*m+1)*B-B*2^(d+1))*c2:=by
  have hp:0<l2*h2:=ML l2p h2p;refine OA (a:=l2*h2) (by omega) ?_;rw[Nf];have q1:c1*(2^d*2)*(l2*h2)=c1*(2*l2*h2)*2^d:=by grind
  rw[q1,e];have q2:(l1*h2+h1*l2)*c2*2^d=(l1*2^d*h2+h1*2^d*l2)*c2:=by grind
  rw[q2,e1,e2];grind
 have p2:(2:Int)^(d+1)=2^d*2:=Nf ..;refine⟨⟨l2p,c2p,gl,gc,2*m,by omega,by omega,?_,ec⟩,⟨c2p,h2p,gc,gh,2*m+1,by omega,by omega,ec,?_⟩⟩
 ·rw[p2,<- Ng,e1];grind
 ·rw[p2,<- Ng,e2];grind
theorem Dya.few{fs:List Ex}(hF:∀f∈fs,FacG f)(hn:(fs.map ah).Nodup){kb d:Nat}{l1 l2 h1 h2:Int}(h:Dya (2^kb) d l1 l2 h1 h2)(hd:kb+201<=d):bN (aK fs) l1 l2 h1 h2<=1:=by
 have B0:(0:Int)<2^kb:=NB (by decide);refine JI hF hn h.l2p h.h2p (h.lt B0) ?_;have w:=h.width;obtain⟨j,rfl⟩:∃j,d=kb+201+j:=⟨d-(kb+201),by omega⟩
 have e:(2:Int)^(kb+201+j)=2*2^kb*(2^200*2^j):=by rw[Int.pow_add,Int.pow_add,show(2:Int)^201=2*2^200 by decide];grind
 have j0:(1:Int)<=2^j:=by have:=NB (n:=2) (m:=j) (by decide);omega
 rw[e]at w;have lp:=h.lt B0;have e2:(h1*l2-l1*h2)*(2*2^kb*(2^200*2^j))=2*2^kb*((h1*l2-l1*h2)*2^200*2^j):=by grind
 rw[e2]at w;have w2:=Pi (show 2*(2:Int)^kb≠0 by omega) w;have q:0<=(h1*l2-l1*h2)*2^200:=MZ (by omega) (MN (NB (by decide)));have:=Og j0 q;rw[Nt]at this;rw[<- w2];exact this
noncomputable def prQ(fs:List Ex):Ex:=aO [1] (fs.map ah)
structure Fam(fs:List Ex):Prop where
 fac:∀f∈fs,FacG f
 nd:(fs.map ah).Nodup
variable {fs:List Ex}
theorem Fam.q(h:Fam fs):∀f∈fs,fc f:=λf hf=>(h.fac f hf).q
theorem Fam.pri(h:Fam fs):∀s∈fs.map ah,Pri s:=λs hs=>by obtain⟨f,hf,rfl⟩:=MW.mp hs;exact gI (h.fac f hf)
theorem Fam.prd(h:Fam fs):prQ fs=prd (fs.map ah):=yd h.pri
theorem Fam.pln(h:Fam fs):Pln (prQ fs):=by rw[h.prd];exact iG _ λs hs=>(h.pri s hs).pln
theorem Fam.one(h:Fam fs):af [1] (prQ fs)=prQ fs:=one_mul _ h.pln.tr
theorem Fam.sign(h:Fam fs){t n:Int}(hn:0<n):sg (hv t n (prQ fs))=spr t n (aK fs):=by have:=mQ (t:=t) (n:=n) (c:=1) hn h.q;rw[show af [1] (aO [1] (fs.map ah))=aO [1] (fs.map ah)from h.one]at this;rw[show sg 1=1 from rfl,Ni]at this;exact this
theorem oN{t n:Int}:∀{ls:List Ex},spr t n ls=0->∃s∈ls,au s t n=0
 | [],h=>by cases h
 |l::ls,h=>by
  rcases NM.mp (show -au l t n*spr t n ls=0 from h)with z |z
  ·exact⟨l,MP ..,by omega⟩
  ·obtain⟨s,hs,e⟩:=oN z;exact⟨s,MK _ hs,e⟩
theorem Fam.sub{fs gs:List Ex}(h:Fam fs)(s:gs.Sublist fs):Fam gs:=⟨λf hf=>h.fac f (s.subset hf),h.nd.sublist (s.map _)⟩
theorem Fam.single(h:Fam fs){f:Ex}(hf:f∈fs):Fam [f]:=h.sub (List.singleton_sublist.mpr hf)
theorem rL{f:Ex}(h:Fam [f]):prQ [f]=ah f:=by rw[h.prd];show af (ah f) [1]=_;exact d7 _
structure OneS(fs:List Ex)(f0 s0:Ex)(l1 l2 h1 h2:Int):Prop where
 fam:Fam fs
 mem:f0∈fs
 sp:s0∈spF f0
 l2p:0<l2
 h2p:0<h2
 lt:l1*h2<h1*l2
 inn:0<au s0 l1 l2/\au s0 h1 h2<=0
 only:∀s∈aK fs,0<au s l1 l2->au s h1 h2<=0->s=s0
theorem yw{l1 l2 h1 h2:Int}(hF:Fam fs)(l2p:0<l2)(h2p:0<h2)(lt:l1*h2<h1*l2)(h:bN (aK fs) l1 l2 h1 h2=1):∃f0 s0,OneS fs f0 s0 l1 l2 h1 h2:=by
 obtain⟨pre,s,post,e,hin,hno⟩:=nY h;have hs:s∈aK fs:=by rw[e];simp
 obtain⟨f0,hf0,hsp⟩:=N5.mp hs;refine⟨f0,s,hF,hf0,hsp,l2p,h2p,lt,hin,λx hx a b=>?_⟩;rw[e]at hx;rcases Nb.mp hx with z |z
 ·exact absurd ⟨a,b⟩ (hno x (NI _ z))
 ·rcases MM.mp z with z |z
  ·exact z
  ·exact absurd ⟨a,b⟩ (hno x (Nq _ z))
variable {f0 s0:Ex}{l1 l2 h1 h2:Int}
theorem px{s:Ex}(hs:Spt s){t n t' n':Int}(hn:0<n)(hn':0<n')(h:t*n'<=t'*n)(hz:au s t n<=0):au s t' n'<=0:=by
 rcases O5 h with w |w
 ·have:=ix hs hn hn' w hz;omega
 ·rw[<- mj s hn hn' w];exact hz
theorem OneS.zero(h:OneS fs f0 s0 l1 l2 h1 h2){x1 x2:Int}(x2p:0<x2)(a:l1*x2<x1*l2)(b:x1*h2<=h1*x2)(z:hv x1 x2 (prQ fs)=0):au s0 x1 x2=0:=by
 have hs:=h.fam.sign (t:=x1) (n:=x2) x2p;rw[z]at hs;obtain⟨s,hm,hz⟩:=oN (show spr x1 x2 (aK fs)=0 from hs.symm);have hS:=dk h.fam.q hm
 have e:s=s0:=by refine h.only s hm (Of.mp λw=>?_) (px hS x2p h.h2p b (by omega));have:=ix hS h.l2p x2p a w;omega
 rw[<- e];exact hz
theorem oQ{u e b:Int}{s:Ex}(h:s∈spF [u,e,b]):∃σ:Int,s=[u,e,b,σ]/\(σ=1/\0<=e\/σ = -1/\0<e):=by
 unfold spF at h
 rcases Nb.mp h with w |w
 ·split at w
  ·rename_i he
   exact⟨1,MO.mp w,.inl ⟨rfl,he⟩⟩
  ·cases w
 ·split at w
  ·rename_i he
   exact⟨-1,MO.mp w,.inr ⟨rfl,he⟩⟩
  ·cases w
theorem xl{u e b σ t n:Int}(hNS:NS e)(he:0<e)(hn:0<n):au [u,e,b,σ] t n≠0:=λz=>by
 unfold au at z
 have key:∀d:Int,aY (e*n*n) d=0->False:=λd hd=>by
  rcases bR (e*n*n) d with⟨c,_⟩ |⟨_,_,c⟩ |⟨c,_⟩
  ·omega
  ·exact hNS.no (x:=n) (y:=d) (by omega) (by omega) (by rw[c];grind)
  ·omega
 split at z
 ·exact key _ z
 ·exact key _ (by have:0-aY (e*n*n) (0-(b*t-u*n))=0:=z;show aY (e*n*n) (0-(b*t-u*n))=0;omega)
theorem tO{u e b:Int}(h:FacG [u,e,b]):1<=b/\NS e:=by obtain⟨u',e',b',he,_,_,_,_,h5,_,h7⟩:=h;cases he;exact⟨h5,h7⟩
theorem OneS.cases(h:OneS fs f0 s0 l1 l2 h1 h2):∃u e b σ:Int,f0=[u,e,b]/\s0=[u,e,b,σ]/\1<=b/\NS e/\(σ=1/\e=0\/(σ=1\/σ = -1)/\0<e):=by
 obtain⟨u,e,b,rfl,_⟩:=h.fam.fac f0 h.mem;obtain⟨hb,hn⟩:=tO (h.fam.fac _ h.mem);obtain⟨σ,rfl,hσ⟩:=oQ h.sp;refine⟨u,e,b,σ,rfl,rfl,hb,hn,?_⟩;rcases hσ with⟨a,c⟩ |⟨a,c⟩
 ·rcases O5 c with w |w
  ·exact .inr ⟨.inl a,w⟩
  ·exact .inl ⟨a,w.symm⟩
 ·exact .inr ⟨.inr a,c⟩
theorem OneS.none(h:OneS fs f0 s0 l1 l2 h1 h2){u e b σ:Int}(ef:s0=[u,e,b,σ])(hN:NS e)(he:0<e){x1 x2:Int}(x2p:0<x2)(a:l1*x2<x1*l2)(c:x1*h2<=h1*x2):hv x1 x2 (prQ fs)≠0:=λz=>by have:=h.zero x2p a c z;rw[ef]at this;exact xl hN he x2p this
theorem zi(h:Fam fs)(hf:f0∈fs):∃r:Int,0<r/\al (prQ fs)=al (ah f0)*r:=by
 obtain⟨pre,post,e⟩:=OQ (OT (f:=ah) hf);have hp:=h.pri;rw[h.prd];rw[e]at hp ⊢;have hq:Pln (RM.prd (pre++post)):=iG _ λs hs=>(hp s (by simp at hs ⊢;rcases hs with z |z<;>simp[z])).pln
 have hs:Pln (ah f0):=(hp _ (by simp)).pln;rw[kF,sM hs.ne hq.ne];exact⟨_,hq.pos,rfl⟩
theorem DQ{a b c d:Int}(hb:0<b)(hd:0<d)(g1:Nat.gcd a.natAbs b.natAbs=1)(g2:Nat.gcd c.natAbs d.natAbs=1)(e:a*d=c*b):a=c/\b=d:=by
 have e':a.natAbs*d.natAbs=c.natAbs*b.natAbs:=by
  have:=congrArg Int.natAbs e
  rwa [MY,MY]at this
 have h1:b.natAbs∣d.natAbs:=Nat.Coprime.dvd_of_dvd_mul_left (k:=b.natAbs) (m:=a.natAbs) (by rw[Nat.Coprime,Nat.gcd_comm];exact g1) ⟨c.natAbs,by rw[e',Oa]⟩;have h2:d.natAbs∣b.natAbs:=Nat.Coprime.dvd_of_dvd_mul_left (k:=d.natAbs) (m:=c.natAbs) (by rw[Nat.Coprime,Nat.gcd_comm];exact g2) ⟨a.natAbs,by rw[<- e',Oa]⟩;have h3:=Nat.dvd_antisymm h1 h2;have h4:b=d:=by omega
 subst h4;exact⟨OA (by omega) e,rfl⟩
theorem mr{u b:Int}(hb:1<=b):∃g A0 A1:Int,0<g/\ah [u,0,b]=[A0,A1] /\ -u=g*A0/\b=g*A1/\0<A1/\Nat.gcd A0.natAbs A1.natAbs=1:=by
 have hr:aE u 0 b=[-u,b]:=by unfold aE;rw[if_pos rfl]
 have ht:=(fX (u:=u) (e:=0) hb).1;rw[hr]at ht;have hl:al [-u,b]=b:=rfl;obtain⟨g,hg,e⟩:=kH ht (by simp) (by rw[hl];omega);have hS:ah [u,0,b]=aD [-u,b]:=by show aD (aE u 0 b)=_;rw[hr]
 have hp:=eU ht (by simp);rw[hS];have hl2:(aD [-u,b]).length=2:=RM.plain_len _;generalize aD [-u,b]=P at e hp hl2
 match P,hl2 with
 | [A0,A1],_ =>
  have e1 : -u=g*A0/\b=g*A1:=by have:[-u,b]=[g*A0,g*A1]:=e;simpa using this
  refine⟨g,A0,A1,hg,rfl,e1.1,e1.2,hp.pos,?_⟩
  have h2:aB [A0,A1]=Nat.gcd A0.natAbs A1.natAbs:=by unfold aB;rw[jI,jI,sZ,Nat.gcd_zero_left]
  rw[<- h2];exact hp.prim
theorem Jq{a y Z:Int}(hy:0<y)(h1:Z*y<=a)(h2:a<(Z+1)*y):a/y=Z :=
 Int.le_antisymm (Int.lt_add_one_iff.mp (Int.ediv_lt_of_lt_mul hy h2)) (Int.le_ediv_of_mul_le hy h1)
theorem side_line{u b t n:Int}:0<au [u,0,b,1] t n↔b*t<u*n:=by
 unfold au;rw[if_pos (show(0:Int)<cf [u,0,b,1] 3 from(by decide:(0:Int)<1))];show 0<aY (0*n*n) (b*t-u*n)↔_;rw[Nn,Nn];rcases bR 0 (b*t-u*n)with⟨c,d⟩ |⟨c,d,_⟩ |⟨c,d,_⟩
 ·rw[c];constructor
  ·intro _;rcases d with d |d
   ·omega
   ·have:0<=(b*t-u*n)*(b*t-u*n):=by
     rcases Int.le_total 0 (b*t-u*n)with w |w
     ·exact MZ w w
     ·exact Pb w w
    omega
  ·intro _;decide
 ·rw[c];constructor
  ·intro z;exact absurd z (by decide)
  ·intro z;omega
 ·rw[c];constructor
  ·intro z;exact absurd z (by decide)
  ·intro z;omega
theorem OneS.line{u b:Int}(h:OneS fs [u,0,b] [u,0,b,1] l1 l2 h1 h2){x1 x2 y1 y2 B:Int}(x2p:0<x2)(y2p:0<y2)(hB:1<=B)(lo:0<au [u,0,b,1] x1 x2)(hi:au [u,0,b,1] y1 y2<=0)(hlt:x1*y2<y1*x2)(hw:(y1*x2-x1*y2)*(8*al (prQ fs)*B)<=1*(x2*y2)) :
 let Z:=al (prQ fs)*y1/y2
 ah [u,0,b]=[-(rt Z (al (prQ fs))),rb Z (al (prQ fs))]/\x1*rb Z (al (prQ fs))<rt Z (al (prQ fs))*x2/\hv (rt Z (al (prQ fs))) (rb Z (al (prQ fs))) (prQ fs)=0:=by
 have hb:=(tO (h.fam.fac _ h.mem)).1;obtain⟨g,A0,A1,hg,eS,e0,e1,hA,hgcd⟩:=mr (u:=u) hb;obtain⟨r,hr,eL⟩:=zi h.fam h.mem;rw[eS]at eL;have eL':al (prQ fs)=A1*r:=eL;have lo':=side_line.mp lo;have hi':u*y2<=b*y1:=NT.mp λz=>by have:=side_line.mpr z;omega
 have Lp:0<al (prQ fs):=h.fam.pln.pos
 have k1 : -A0*y2<=A1*y1:=by
  refine Int.le_of_mul_le_mul_left (a:=g) ?_ hg
  have q1:g*(-A0*y2)=u*y2:=by
   have:u=g * -A0:=by grind
   rw[this];grind
  have q2:g*(A1*y1)=b*y1:=by rw[e1];grind
  omega
 have k2:A1*x1 < -A0*x2:=by
  refine Ph (a:=g) ?_ (MN hg)
  have q1:g*(-A0*x2)=u*x2:=by
   have:u=g * -A0:=by grind
   rw[this];grind
  have q2:g*(A1*x1)=b*x1:=by rw[e1];grind
  omega
 have eZ:al (prQ fs)*y1/y2 = -A0*r:=by
  refine Jq y2p ?_ ?_
  ·rw[eL'];have:=Og k1 (MN hr);have q1:r*(-A0*y2) = -A0*r*y2:=by grind
   have q2:r*(A1*y1)=A1*r*y1:=by grind
   omega
  ·have w0:0<=(y1*x2-x1*y2)*al (prQ fs):=MZ (by omega) (MN Lp);have w1:(y1*x2-x1*y2)*(8*al (prQ fs)*B)=(y1*x2-x1*y2)*al (prQ fs)*(8*B):=by grind
   have w2:=Og (show 1<=8*B by omega) w0;have w3:(y1*x2-x1*y2)*al (prQ fs)<=x2*y2:=by omega
   rw[eL']at w3 ⊢;have w4:=Pk k2 (ML hr y2p);refine Od (a:=x2) ?_ (MN x2p);have q1:A1*r*y1*x2=(y1*x2-x1*y2)*(A1*r)+r*y2*(A1*x1):=by grind
   have q2:(-A0*r+1)*y2*x2=r*y2*(-A0*x2)+x2*y2:=by grind
   rw[q1,q2];omega
 intro Z;have hZ:Z = -A0*r:=eZ
 clear_value Z
 subst hZ;have L0:al (prQ fs)≠0:=by omega
 have hc:=gZ (t := -A0*r) L0;have hgr:=rD (t := -A0*r) L0;have hpr:=dS (t := -A0*r) L0
 obtain⟨m1,m2⟩:=DQ (a:=rt (-A0*r) (al (prQ fs))) (b:=rb (-A0*r) (al (prQ fs))) (c := -A0) (d:=A1) hpr hA hgr (by rw[Int.natAbs_neg];exact hgcd) (by
  refine OA (a:=r) (by omega) ?_
  rw[Ng,<- eL',hc];grind)
 rw[m1,m2];refine⟨by rw[eS,Int.neg_neg],by rw[Nj];exact k2,?_⟩;have hs:=h.fam.sign (t := -A0) (n:=A1) hA
 have hz:spr (-A0) A1 (aK fs)=0:=by
  have hm:[u,0,b,1]∈aK fs:=N5.mpr ⟨_,h.mem,h.sp⟩
  have hside:au [u,0,b,1] (-A0) A1=0:=by
   unfold au;rw[if_pos (show(0:Int)<cf [u,0,b,1] 3 from(by decide:(0:Int)<1))];show aY (0*A1*A1) (b * -A0-u*A1)=0
   have:b * -A0-u*A1=0:=by
    have q:u=g * -A0:=by grind
    rw[e1,q];grind
   rw[this,Nn,Nn];rfl
  have z0:∀ls:List Ex,[u,0,b,1]∈ls->spr (-A0) A1 ls=0:=λls=>by
   induction ls with
   |nil=>intro h;cases h
   |cons l ls ih =>
    intro h;show -au l (-A0) A1*spr (-A0) A1 ls=0;rcases MM.mp h with w |w
    ·rw[<- w,hside];omega
    ·rw[ih w,M8]
  exact z0 _ hm
 rw[hz]at hs;exact(pE _).mp hs
theorem eO{g a b:Rat}(hg:0<g)(h:g*a<=g*b):a<=b:=NU.mp λz=>by have:=M5 hg (show 0<a-b by grind);grind
theorem rB{g a b:Rat}(hg:0<g)(h:g*a<g*b):a<b:=Oh.mp λz=>by have:=M9 (MT hg) (show 0<=a-b by grind);grind
theorem Ck{u b g A1 A2 r L w x y x' y':Rat}(hg:0<g)(hb:0<b)(hr:0<r)(hA:0<A2)(e1 : -2*b*u=g*A1)(e2:b*b=g*A2)(eL:L=A2*r)(s1:2*u<=b*(y+y'))(s2:b*(x+x')<2*u)(hw:y-x<=w)(hw':y'-x'<=w)(hwL:4*(L*w)<=1) : -A1*r<=L*(y+y')/\L*(y+y') < -A1*r+1:=by
 have hbr:=M5 hb hr;have hL:0<L:=by rw[eL];exact M5 hA hr
 have q1:g*(L*(y+y'))=b*r*(b*(y+y')):=by rw[eL];grind
 have q2:g*(-A1*r)=b*r*(2*u):=by grind
 constructor
 ·refine eO hg ?_;rw[q1,q2];exact No s1 (MT hbr)
 ·have h1:L*(x+x') < -A1*r:=by
   refine rB hg ?_;have q3:g*(L*(x+x'))=b*r*(b*(x+x')):=by rw[eL];grind
   rw[q3,q2];have:=M5 hbr (show 0<2*u-b*(x+x') by grind);grind
  have h2:=No (show y+y'<=x+x'+2*w by grind) (MT hL);have e3:L*(x+x'+2*w)=L*(x+x')+2*(L*w):=by grind
  grind
theorem En{u e b g A0 A2 r L w N m:Rat}(hg:0<g)(hr:0<r)(hA:0<A2)(e0:u*u-e=g*A0)(e2:b*b=g*A2)(eL:L=A2*r)(p1:u*u-e<b*b*m)(p2:b*b*m<=u*u-e+2*(b*b)*(w*N))(hwL:2*(L*(w*N))<1):A0*r<=L*m/\L*m<A0*r+1:=by
 have q1:g*(L*m)=r*(b*b*m):=by rw[eL];grind
 have q2:g*(A0*r)=r*(u*u-e):=by grind
 constructor
 ·refine eO hg ?_;rw[q1,q2];exact No (MT p1) (MT hr)
 ·have h1:L*m<=A0*r+2*(L*(w*N)):=by
   refine eO hg ?_;have q3:g*(A0*r+2*(L*(w*N)))=r*(u*u-e+2*(b*b)*(w*N)):=by rw[eL];grind
   rw[q1,q3];exact No p2 (MT hr)
  grind
theorem NS.irr{e:Int}(h:NS e)(he:0<e)(q:Rat):q*q≠(e:Rat):=λz=>by have hn:=mY q;have hd:=eD q;refine h.no (x:=(q.den:Int)) (y:=q.num) (by omega) (by omega) ?_;refine OP.mp ?_;rw[MS,MS,MS,hn,<- z];grind
theorem mq{u e b:Int}(hb:1<=b)(he:e≠0):∃g A0 A1 A2:Int,0<g/\ah [u,e,b]=[A0,A1,A2]/\u*u-e=g*A0 /\ -2*b*u=g*A1/\b*b=g*A2/\0<A2:=by
 have hr:aE u e b=[u*u-e,-2*b*u,b*b]:=by unfold aE;rw[if_neg he]
 have ht:=(fX (u:=u) (e:=e) hb).1;rw[hr]at ht;have hl:al [u*u-e,-2*b*u,b*b]=b*b:=rfl;obtain⟨g,hg,e'⟩:=kH ht (by simp) (by rw[hl];exact ML (by omega) (by omega));have hS:ah [u,e,b]=aD [u*u-e,-2*b*u,b*b]:=by show aD (aE u e b)=_;rw[hr]
 have hp:=eU ht (by simp);rw[hS];have hl2:(aD [u*u-e,-2*b*u,b*b]).length=3:=RM.plain_len _;generalize aD [u*u-e,-2*b*u,b*b]=P at e' hp hl2
 match P,hl2 with
 | [A0,A1,A2],_ =>
  have e1:u*u-e=g*A0 /\ -2*b*u=g*A1/\b*b=g*A2:=by have:[u*u-e,-2*b*u,b*b]=[g*A0,g*A1,g*A2]:=e';simpa using this
  exact⟨g,A0,A1,A2,hg,rfl,e1.1,e1.2.1,e1.2.2,hp.pos⟩
theorem xH{L B:Int}{d w:Rat}(hLB:0<L*B)(hw:w*(8*((L:Rat)*(B:Rat)))=1)(h:d*(8*((L:Rat)*(B:Rat)))<=1):d<=w:=by
 have p:(0:Rat)<8*((L:Rat)*(B:Rat)):=by have:(0:Rat)<((L*B:Int):Rat):=MU.mpr hLB;rw[MS]at this;grind
 refine eO p ?_;grind
theorem vW{u e b L B:Int}(hF:Fam fs)(hm:[u,e,b]∈fs)(he:0<e)(hL:L=al (prQ fs))(hB:1<=B){x y x' y' m:Rat}(T:Two u e b x y x' y')(hxy:x<y)(hxy':x'<y')(hw:(y-x)*(8*((L:Rat)*(B:Rat)))<=1)(hw':(y'-x')*(8*((L:Rat)*(B:Rat)))<=1)
 (n1:Bd (2*(B:Rat)-1/2) x) (n2:Bd (2*(B:Rat)-1/2) y) (n3:Bd (2*(B:Rat)-1/2) x') (n4:Bd (2*(B:Rat)-1/2) y') (c1:x*x'<=m) (c2:x*y'<=m) (c3:y*x'<=m) (c4:y*y'<=m) (hmm:m=x*x'\/m=x*y'\/m=y*x'\/m=y*y')
 {t1 t2 m1 m2:Int} (t2p:0<t2) (m2p:0<m2) (ht:(t1:Rat)/(t2:Rat)=y+y') (hmr:(m1:Rat)/(m2:Rat)=m):aD [L*m1/m2,-(L*t1/t2),L]=ah [u,e,b]:=by
 obtain⟨hb,hN⟩:=tO (hF.fac _ hm);obtain⟨g,A0,A1,A2,hg,eS,e0,e1,e2,hA⟩:=mq (u:=u) hb (show e≠0 by omega);obtain⟨r,hr,eL⟩:=zi hF hm;rw[eS,<- hL]at eL;have eL':L=A2*r:=eL;have Lp:0<L:=by rw[eL'];exact ML hA hr
 have LB:0<L*B:=ML Lp (by omega);have cL:(0:Rat)<(L:Rat):=MU.mpr Lp;have cB:(1:Rat)<=(B:Rat):=NX.mpr hB
 have cp:(0:Rat)<8*((L:Rat)*(B:Rat)):=by have:=M5 cL (show(0:Rat)<(B:Rat) by grind);grind
 obtain⟨w,hwd⟩:∃w:Rat,w*(8*((L:Rat)*(B:Rat)))=1:=⟨1/(8*((L:Rat)*(B:Rat))),M6 (NH cp)⟩;have h1:=xH LB hwd hw;have h2:=xH LB hwd hw';have cg:(0:Rat)<(g:Rat):=MU.mpr hg;have cb:(0:Rat)<(b:Rat):=MU.mpr (show(0:Int)<b by omega);have cr:(0:Rat)<(r:Rat):=MU.mpr hr;have cA:(0:Rat)<(A2:Rat):=MU.mpr hA;have ce:(0:Rat)<(e:Rat):=MU.mpr he
 have E0:(u:Rat)*(u:Rat)-(e:Rat)=(g:Rat)*(A0:Rat):=by rw[<- MS,<- OS,e0,MS]
 have E1 : -2*(b:Rat)*(u:Rat)=(g:Rat)*(A1:Rat):=by rw[<- MS,<- e1,MS,MS];rfl
 have E2:(b:Rat)*(b:Rat)=(g:Rat)*(A2:Rat):=by rw[<- MS,e2,MS]
 have EL:(L:Rat)=(A2:Rat)*(r:Rat):=by rw[eL',MS]
 have wp:0<w:=Oh.mp λz=>by have:=M9 (show 0 <= -w by grind) (MT cp);grind
 have LwB:8*((L:Rat)*w*(B:Rat))=1:=by grind
 have Lw:0<(L:Rat)*w:=M5 cL wp
 have Lw4:4*((L:Rat)*w)<=1:=by have:=No cB (MT Lw);grind
 have S:=T.sum;obtain⟨f1,f2⟩:=Ck cg cb cr cA E1 E2 EL S.1 S.2 h1 h2 Lw4;obtain⟨P1,P2⟩:=T.prod cb ce (hN.irr he) hxy hxy' h1 h2 n1 n2 n3 n4 c1 c2 c3 c4 hmm;obtain⟨f3,f4⟩:=En cg cr cA E0 E2 EL P1 P2 (by grind);have z1:L*t1/t2 = -A1*r:=zS t2p (by rw[ht,MS,OE];exact f1) (by rw[ht,MS,OE];exact f2);have z2:L*m1/m2=A0*r:=zS m2p (by rw[hmr,MS];exact f3) (by rw[hmr,MS];exact f4);rw[z1,z2,eL'];have hP:Pln (ah [u,e,b]):=(gI (hF.fac _ hm)).pln
 have e3:[A0*r,-(-A1*r),A2*r]=scL r (ah [u,e,b]):=by
  rw[eS];show _=[r*A0,r*A1,r*A2];rw[Nj A0,Nj A2]
  congr 2
  grind
 rw[e3,kI (by omega) hP.tr,hP.plain]
variable {fs:List Ex}{f0 s0:Ex}{l1 l2 h1 h2:Int}
theorem v7{u e b σ:Int}{f:Ex}(hf:fc f)(h:[u,e,b,σ]∈spF f):f=[u,e,b]:=by obtain⟨u',e',b',rfl,_⟩:=hf;obtain⟨σ',eq,_⟩:=oQ h;cases eq;rfl
theorem j3{u e b:Int}(he:0<e):spF [u,e,b]=[[u,e,b,1],[u,e,b,-1]]:=by show(if 0<=e then[[u,e,b,1]]else[])++(if 0<e then[[u,e,b,-1]]else[])=_;rw[if_pos (by omega),if_pos he];rfl
theorem jZ{u b:Int}:spF [u,0,b]=[[u,0,b,1]]:=by show(if(0:Int)<=0 then[[u,0,b,1]]else[])++(if(0:Int)<0 then[[u,0,b,-1]]else[])=_;rw[if_pos (by decide),if_neg (by decide)];rfl
theorem v5(f:Ex):aK [f]=spF f:=by show spF f++[]=_;rw[Oj]
theorem OneS.cnt(h:OneS fs f0 s0 l1 l2 h1 h2):bN (aK [f0]) l1 l2 h1 h2=1:=by
 obtain⟨u,e,b,σ,rfl,rfl,hb,hN,hc⟩:=h.cases;rw[v5];have hin:=h.inn
 have other:∀τ:Int,[u,e,b,τ]∈spF [u,e,b]->τ≠σ->¬(0<au [u,e,b,τ] l1 l2/\au [u,e,b,τ] h1 h2<=0):=λτ hτ hne z=>by
  have:=h.only _ (N5.mpr ⟨_,h.mem,hτ⟩) z.1 z.2;simp at this
  exact hne this
 have c0:bN [] l1 l2 h1 h2=0:=rfl;rcases hc with⟨rfl,rfl⟩ |⟨hσ,he⟩
 ·rw[jZ,gM,if_pos hin,c0];rfl
 ·rw[j3 he]at other ⊢;rcases hσ with rfl |rfl
  ·rw[gM,gM,if_pos hin,if_neg (other (-1) (by simp) (by decide)),c0];rfl
  ·rw[gM,gM,if_neg (other 1 (by simp) (by decide)),if_pos hin,c0];rfl
theorem OneS.sq(h:OneS fs f0 s0 l1 l2 h1 h2)(hl0:(ah f0).length=3){E:Ex}(hE:Pln E)(hl:E.length=3)(hd:Dv E (prQ fs)):∃gs,Fam gs/\(∀g∈gs,g∈fs)/\gs.length<=2/\E=prQ gs/\(bN (aK gs) l1 l2 h1 h2=1->E=ah f0):=by
 have hF:=h.fam
 have hs0:∀gs:List Ex,Fam gs->(∀g∈gs,g∈fs)->bN (aK gs) l1 l2 h1 h2=1->f0∈gs:=λgs hG hsub hc=>by
  obtain⟨pre,s,post,eq,hin,_⟩:=nY hc;have hm:s∈aK gs:=by rw[eq];simp
  obtain⟨f,hf,hsf⟩:=N5.mp hm;have e1:=h.only s (N5.mpr ⟨f,hsub f hf,hsf⟩) hin.1 hin.2;obtain⟨u,e,b,σ,ef,es,_⟩:=h.cases;rw[e1,es]at hsf;have:=v7 (hG.q f hf) hsf;rw[ef,<- this];exact hf
 rw[hF.prd]at hd;rcases Jv hF.pri hF.nd hE hl hd with hm |⟨p,q,hp,hq,hne,eE⟩
 ·obtain⟨f,hf,rfl⟩:=MW.mp hm;have hG:=hF.single hf;refine⟨[f],hG,λg hg=>by rw[MO.mp hg];exact hf,by simp,(rL hG).symm,λhc=>?_⟩;have:=hs0 [f] hG (λg hg=>by rw[MO.mp hg];exact hf) hc;rw[MO.mp this]
 ·obtain⟨f,hf,rfl⟩:=MW.mp hp;obtain⟨f',hf',rfl⟩:=MW.mp hq
  have hsub:∀g∈[f,f'],g∈fs:=λg hg=>by
   rcases MM.mp hg with rfl |w
   ·exact hf
   ·rw[MO.mp w];exact hf'
  have hG:Fam [f,f']:=⟨λg hg=>hF.fac g (hsub g hg),by simp;exact hne⟩
  have eP:E=prQ [f,f']:=by rw[hG.prd,eE];show _=af (ah f) (af (ah f') [1]);rw[d7]
  refine⟨[f,f'],hG,hsub,by simp,eP,λhc=>?_⟩;have hm:=hs0 [f,f'] hG hsub hc;have n1:=(gI (hF.fac f hf));have n2:=(gI (hF.fac f' hf'));have hlen:=bM n1.pln.ne n2.pln.ne;rw[<- eE,hl]at hlen;have t1:=n1.two;have t2:=n2.two;rcases MM.mp hm with rfl |w
  ·omega
  ·rw[MO.mp w]at hl0;omega
theorem va(hF:Fam fs)(hm:f0∈fs)(hl:(prQ fs).length<=(ah f0).length):prQ fs=ah f0:=by
 obtain⟨pre,post,e⟩:=OQ (OT (f:=ah) hm);have hp:=hF.pri;rw[hF.prd]at hl ⊢;rw[e]at hp hl ⊢;have hq:Pln (RM.prd (pre++post)):=iG _ λs hs=>(hp s (by simp at hs ⊢;rcases hs with z |z<;>simp[z])).pln
 have hs:Pln (ah f0):=(hp _ (by simp)).pln;rw[kF]at hl ⊢;have hlen:=bM hs.ne hq.ne;have:=MR.mpr hs.ne;have:=MR.mpr hq.ne;rw[hq.const (by omega),d7]
theorem OneS.low(h:OneS fs f0 s0 l1 l2 h1 h2):sg (hv l1 l2 (ah f0))≠0:=by
 have hG:=h.fam.single h.mem;rw[<- rL hG,hG.sign h.l2p,v5];obtain⟨u,e,b,σ,rfl,rfl,hb,hN,hc⟩:=h.cases;intro z;obtain⟨s,hs,hz⟩:=oN z;have hin:=h.inn.1;rcases hc with⟨rfl,rfl⟩ |⟨hσ,he⟩
 ·rw[jZ]at hs;rw[MO.mp hs]at hz;omega
 ·obtain⟨τ,rfl,_⟩:=oQ hs;exact xl hN he h.l2p hz
theorem oE{u e b x1 x2 y1 y2 p1 p2 q1 q2:Int}(x2p:0<x2)(y2p:0<y2)(p2p:0<p2)(q2p:0<q2)(hx:0<au [u,e,b,1] x1 x2)(hy:au [u,e,b,1] y1 y2<=0)(hp:0<au [u,e,b,-1] p1 p2)(hq:au [u,e,b,-1] q1 q2<=0):Two u e b ((x1:Rat)/(x2:Rat)) ((y1:Rat)/(y2:Rat)) ((p1:Rat)/(p2:Rat)) ((q1:Rat)/(q2:Rat)):=by
 rw[<- f6 _ x2p]at hx;rw[<- f6 _ y2p]at hy;rw[<- f6 _ p2p]at hp;rw[<- f6 _ q2p]at hq;have hy':=λz=>(absurd (vp _ |>.mpr z) (NT.mpr hy):False)
 have hq':=λz=>(absurd (vt _ |>.mpr z) (NT.mpr hq):False)
 refine⟨(vp _).mp hx,?_,(vt _).mp hp,?_⟩
 ·generalize (b:Rat)*((y1:Rat)/(y2:Rat))-(u:Rat)=v at hy'
  refine⟨NU.mp λz=>hy' (.inl z),NU.mp λz=>hy' (.inr z)⟩
 ·generalize (b:Rat)*((q1:Rat)/(q2:Rat))-(u:Rat)=v at hq'
  by_cases z:0<v
  ·exact .inl z
  ·exact .inr (NU.mp λw=>hq' ⟨NU.mp z,w⟩)
theorem yJ{s:Ex}(hs:Spt s){B L:Int}(hB:1<=B)(hL:1<=L)(hb:au s B 1<0/\0<au s (-B) 1){x1 x2 y1 y2:Int}(x2p:0<x2)(y2p:0<y2)(hx:0<au s x1 x2)(hy:au s y1 y2<=0)(hlt:x1*y2<y1*x2)(hw:(y1*x2-x1*y2)*(8*L*B)<=1*(x2*y2)) :
 Bd (2*(B:Rat)-1/2) ((x1:Rat)/(x2:Rat))/\Bd (2*(B:Rat)-1/2) ((y1:Rat)/(y2:Rat))/\(x1:Rat)/(x2:Rat)<(y1:Rat)/(y2:Rat)/\((y1:Rat)/(y2:Rat)-(x1:Rat)/(x2:Rat))*(8*((L:Rat)*(B:Rat)))<=1:=by
 have X2:(0:Rat)<(x2:Rat):=MU.mpr x2p;have Y2:(0:Rat)<(y2:Rat):=MU.mpr y2p;have e1:(x1:Rat)/(x2:Rat)*(x2:Rat)=(x1:Rat):=M6 (NH X2);have e2:(y1:Rat)/(y2:Rat)*(y2:Rat)=(y1:Rat):=M6 (NH Y2);have ltR:=(fy x2p y2p).mpr hlt
 have xB:x1<B*x2:=Of.mp λz=>by have:=px hs (t:=B) (n:=1) (t':=x1) (n':=x2) (by decide) x2p (by omega) (by omega);omega
 have yB : -B*y2<y1:=Of.mp λz=>by have:=px hs (t:=y1) (n:=y2) (t' := -B) (n':=1) y2p (by decide) (by omega) hy;omega
 have cB:(1:Rat)<=(B:Rat):=NX.mpr hB;have cL:(1:Rat)<=(L:Rat):=NX.mpr hL;have xB':(x1:Rat)<(B:Rat)*(x2:Rat):=by rw[<- MS];exact MU.mpr xB
 have yB' : -(B:Rat)*(y2:Rat)<(y1:Rat):=by rw[<- OE,<- MS];exact MU.mpr yB
 have hw':((y1:Rat)*(x2:Rat)-(x1:Rat)*(y2:Rat))*(8*(L:Rat)*(B:Rat))<=(x2:Rat)*(y2:Rat):=by rw[Ni]at hw;have:=NX.mpr hw;rw[MS,MS,MS,MS,OS,MS,MS]at this;exact this
 generalize (x1:Rat)/(x2:Rat)=x at *
 generalize (y1:Rat)/(y2:Rat)=y at *
 rw[<- e1]at xB' hw';rw[<- e2]at yB' hw';have xb:x<(B:Rat):=rB X2 (by grind);have yb : -(B:Rat)<y:=rB Y2 (by grind);have M:=M5 X2 Y2
 have wd:(y-x)*(8*((L:Rat)*(B:Rat)))<=1:=by refine eO M ?_;grind
 have LB:1<=(L:Rat)*(B:Rat):=by have:=No cB (show 0<=(L:Rat) by grind);grind
 have w8:(y-x)*8<=1:=by have:=No LB (show 0<=(y-x)*8 by grind);grind
 exact⟨⟨by grind,by grind⟩,⟨by grind,by grind⟩,ltR,wd⟩
theorem pB{a b d:Int}(h:sgq a b d=0):a=0/\b=0:=by
 unfold sgq at h
 split at h
 ·split at h
  ·cases h
  ·omega
 ·split at h
  ·cases h
  ·split at h
   ·split at h<;>cases h
   ·split at h<;>cases h
theorem xo{d:Int}(hd:NSq d)(a b:Int):sgq (-a) (-b) d = -sgq a b d:=by
 have e1 : -a * -a=a*a:=Int.neg_mul_neg _ _;have e2:d * -b * -b=d*b*b:=by grind
 rcases nC a b with⟨rfl,rfl⟩ |⟨p,q,c⟩ |⟨p,q,c⟩ |⟨p,q⟩ |⟨p,q⟩
 ·rfl
 ·rw[fZ p q c,gW (by omega) (by omega) (by omega)]
 ·rw[gW p q c,fZ (by omega) (by omega) (by omega)];rfl
 ·have hne:=hd.2 a b (by omega);rw[iz p q,iA (by omega) (by omega),e1,e2];by_cases z:a*a<d*b*b
  ·rw[if_pos z,if_neg (by omega)];rfl
  ·rw[if_neg z,if_pos (by omega)]
 ·have hne:=hd.2 a b (by omega);rw[iA p q,iz (by omega) (by omega),e1,e2];by_cases z:a*a<d*b*b
  ·rw[if_pos z,if_neg (by omega)]
  ·rw[if_neg z,if_pos (by omega)];rfl
theorem lV{a b:Int}(h0:0<=a)(h:a<=b):a*a<=b*b:=OC h h h0 (by omega)
theorem vX{a b:Int}(ha:0<=a)(hb:0<=b)(h:a*a<=b*b):a<=b:=NT.mp λz=>by have h1:=Og (MN z) hb;have h2:=NO z (show 0<a by omega);omega
theorem tri{p q a b d:Int}(p0:0<=p)(q0:0<=q)(a0:0<=a)(b0:0<=b)(d0:0<=d):(p*p<=d*q*q->a*a<=d*b*b->p*a<=d*q*b)/\(d*q*q<=p*p->d*b*b<=a*a->d*q*b<=p*a):=by
 have n1:=MZ p0 a0;have n2:=MZ (MZ d0 q0) b0;have e1:p*a*(p*a)=p*p*(a*a):=by grind
 have e2:d*q*b*(d*q*b)=d*q*q*(d*b*b):=by grind
 refine⟨λh1 h2=>vX n1 n2 ?_,λh1 h2=>vX n2 n1 ?_⟩
 ·rw[e1,e2];exact OC h1 h2 (MZ a0 a0) (MZ (MZ d0 q0) q0)
 ·rw[e1,e2];exact OC h1 h2 (MZ (MZ d0 b0) b0) (MZ p0 p0)
def nnQ(a b d:Int):Prop:=(0<=a/\0<=b)\/(0<=a/\b<=0/\d*b*b<=a*a)\/(a<=0/\0<=b/\a*a<=d*b*b)
theorem yH{a b d:Int}(h:0<=sgq a b d):nnQ a b d:=by
 unfold nnQ;rcases nC a b with⟨rfl,rfl⟩ |⟨p,q,c⟩ |⟨p,q,c⟩ |⟨p,q⟩ |⟨p,q⟩
 ·exact .inl ⟨Nr _,Nr _⟩
 ·exact .inl ⟨p,q⟩
 ·rw[gW p q c]at h;omega
 ·rw[iz p q]at h;split at h
  ·omega
  ·exact .inr (.inl ⟨by omega,by omega,by omega⟩)
 ·rw[iA p q]at h;split at h
  ·omega
  ·exact .inr (.inr ⟨by omega,by omega,by omega⟩)
theorem vU{a:Int}(h:a≠0):0<a*a:=by
 rcases Ot h with z |z
 ·exact ON z z
 ·exact ML z z
theorem GD{a b d:Int}(hd:0<d)(h:nnQ a b d)(hz:¬(a=0/\b=0)):sgq a b d=1:=by
 unfold nnQ at h
 rcases nC a b with z |⟨p,q,c⟩ |⟨p,q,c⟩ |⟨p,q⟩ |⟨p,q⟩
 ·exact absurd z hz
 ·exact fZ p q c
 ·exfalso;rcases h with⟨h1,h2⟩ |⟨h1,h2,h3⟩ |⟨h1,h2,h3⟩
  ·omega
  ·have a0:a=0:=by omega
   subst a0;have:=ML hd (vU (show b≠0 by omega));rw[<- Ng]at this;omega
  ·have b0:b=0:=by omega
   subst b0;have:=vU (show a≠0 by omega);rw[M8]at h3;omega
 ·rw[iz p q,if_neg (by omega)]
 ·rw[iA p q,if_neg (by omega)]
theorem GF{x y x' y' d:Int}(d0:0<=d)(h:nnQ x y d)(h':nnQ x' y' d):nnQ (x+x') (y+y') d:=by
 have up:∀{a b:Int},0<=a->a<=b->d*a*a<=d*b*b:=λ{a b} h0 h1=>by rw[Ng,Ng];exact Og (lV h0 h1) d0
 have ng:∀a b:Int,d * -a * -b=d*a*b:=λa b=>by grind
 have nn:∀a b:Int,-a * -b=a*b:=λa b=>Int.neg_mul_neg a b
 have one:∀{x y x' y':Int},0<=x->0<=y->nnQ x' y' d->nnQ (x+x') (y+y') d:=λ{x y x' y'} h1 h2 h'=>by
  rcases h' with⟨a,b⟩ |⟨a,b,c⟩ |⟨a,b,c⟩
  ·exact .inl ⟨by omega,by omega⟩
  ·rcases NF (y+y') 0 with z |z
   ·have q1:=up (a := -(y+y')) (b := -y') (by omega) (by omega);have q2:=lV a (show x'<=x+x' by omega);rw[ng,ng]at q1;exact .inr (.inl ⟨by omega,by omega,by omega⟩)
   ·exact .inl ⟨by omega,z⟩
  ·rcases NF (x+x') 0 with z |z
   ·have q1:=up b (show y'<=y+y' by omega);have q2:=lV (a := -(x+x')) (b := -x') (by omega) (by omega);rw[nn,nn]at q2;exact .inr (.inr ⟨by omega,by omega,by omega⟩)
   ·exact .inl ⟨z,by omega⟩
 have ex:∀p a:Int,(p+a)*(p+a)=p*p+2*(p*a)+a*a:=λp a=>by grind
 have ed:∀q b:Int,d*(q+b)*(q+b)=d*q*q+2*(d*q*b)+d*b*b:=λq b=>by grind
 have two:∀{x y x' y':Int},0<=x->y<=0->d*y*y<=x*x->x'<=0->0<=y'->x'*x'<=d*y'*y'->nnQ (x+x') (y+y') d:=λ{x y x' y'} h1 h2 h3 h4 h5 h6=>by
  rcases NF (x+x') 0 with zx |zx
  ·rcases NF (y+y') 0 with zy |zy
   ·exfalso;have q1:=lV h1 (show x <= -x' by omega);have q2:=up h5 (show y' <= -y by omega);have q3:=NO (show x < -x' by omega) (show 0 < -x' by omega);have q4:=Og (show x <= -x' by omega) h1;rw[ng]at q2;rw[nn]at q3;omega
   ·refine .inr (.inr ⟨by omega,by omega,NT.mp λz=>?_⟩);have t:=(tri (p := -(x+x')) (q:=y+y') (a:=x) (b := -y) (by omega) zy h1 (by omega) d0).2 (by rw[nn];omega) (by rw[ng];exact h3);have e1:=ex (-(x+x')) x;have e2:=ed (y+y') (-y);rw[show -(x+x')+x = -x' by omega,nn,nn]at e1;rw[show y+y' + -y=y' by omega,ng]at e2;omega
  ·rcases NF 0 (y+y')with zy |zy
   ·exact .inl ⟨zx,by omega⟩
   ·refine .inr (.inl ⟨zx,zy,NT.mp λz=>?_⟩);have t:=(tri (p:=x+x') (q := -(y+y')) (a := -x') (b:=y') zx (by omega) (by omega) h5 d0).1 (by rw[ng];omega) (by rw[nn];exact h6);have e1:=ex (x+x') (-x');have e2:=ed (-(y+y')) y';rw[show x+x' + -x'=x by omega,nn]at e1;rw[show -(y+y')+y' = -y by omega,ng,ng]at e2;omega
 rcases h with⟨a,b⟩ |⟨a,b,c⟩ |⟨a,b,c⟩
 ·exact one a b h'
 ·rcases h' with⟨a',b'⟩ |⟨a',b',c'⟩ |⟨a',b',c'⟩
  ·rw[NV x,NV y];exact one a' b' (.inr (.inl ⟨a,b,c⟩))
  ·have t:=(tri (p:=x) (q := -y) (a:=x') (b := -y') a (by omega) a' (by omega) d0).2 (by rw[ng];exact c) (by rw[ng];exact c');have e1:=ex x x';have e2:=ed y y';rw[ng]at t;exact .inr (.inl ⟨by omega,by omega,by omega⟩)
  ·exact two a b c a' b' c'
 ·rcases h' with⟨a',b'⟩ |⟨a',b',c'⟩ |⟨a',b',c'⟩
  ·rw[NV x,NV y];exact one a' b' (.inr (.inr ⟨a,b,c⟩))
  ·rw[NV x,NV y];exact two a' b' c' a b c
  ·have t:=(tri (p := -x) (q:=y) (a := -x') (b:=y') (by omega) b (by omega) b' d0).1 (by rw[nn];exact c) (by rw[nn];exact c');have e1:=ex x x';have e2:=ed y y';rw[nn]at t;exact .inr (.inr ⟨by omega,by omega,by omega⟩)
theorem pC{d:Int}(hd:NSq d){x y x' y':Int}(h:0<sgq x y d)(h':0<=sgq x' y' d):sgq (x+x') (y+y') d=1:=by
 refine GD hd.1 (GF (MN hd.1) (yH (MN h)) (yH h')) λ⟨z1,z2⟩=>?_
 have e1:x' = -x:=by omega
 have e2:y' = -y:=by omega
 rw[e1,e2,xo hd]at h';omega
theorem vT:∀e:Nat,∃n:Nat,n*n<=e/\e<(n+1)*(n+1)
 |0=>⟨0,by decide,by decide⟩
 |e+1=>by
  obtain⟨n,h1,h2⟩:=vT e;by_cases h:e+1<(n+1)*(n+1)
  ·exact⟨n,by omega,h⟩
  ·refine⟨n+1,by omega,?_⟩;have e1:(n+1+1)*(n+1+1)=(n+1)*(n+1)+2*(n+1)+1:=by grind
   omega
theorem Gz{d:Int}(h:NSq d)(v:Int):NS (d*v*v):=by
 by_cases hv:v=0
 ·left;rw[hv];omega
 ·right
  have hp:0<d*v*v:=by
   rw[Ng];refine ML h.1 ?_;rcases Ot hv with z |z
   ·exact ON z z
   ·exact ML z z
  obtain⟨n,h1,h2⟩:=vT (d*v*v).toNat;have h3:((n*n:Nat):Int)=(n:Int)*(n:Int):=NK _ _;have h4:(((n+1)*(n+1):Nat):Int)=((n:Int)+1)*((n:Int)+1):=by rw[NK];rfl
  have ne:=h.2 (n:Int) v hv;refine⟨n,by omega,?_,?_⟩
  ·omega
  ·omega
noncomputable def cX(v:Int):Int:=if v<0 then -1 else 1
theorem CB{u v w d x1 x2:Int}(hd:NSq d)(x2p:0<x2):0<au [u,d*v*v,w,cX v] x1 x2↔0<sgq (u*x2-x1*w) (v*x2) d:=by
 have eq:d*v*v*x2*x2=d*(v*x2)*(v*x2):=by grind
 have ne:v≠0->(u*x2-x1*w)*(u*x2-x1*w)≠d*(v*x2)*(v*x2):=λhv=>hd.2 _ _ (M0 hv (by omega))
 unfold au cX;by_cases hv:v<0
 ·rw[if_pos hv,if_neg (show ¬(0:Int)<cf [u,d*v*v,w,-1] 3 from(by decide:¬(0:Int) < -1))];show 0<0-aY (d*v*v*x2*x2) (0-(w*x1-u*x2))↔_;rw[eq];have eA:0-(w*x1-u*x2)=u*x2-x1*w:=by grind
  rw[eA];have hvx:v*x2<0:=OI hv x2p;have hne:=ne (by omega);generalize u*x2-x1*w=A at *
  generalize v*x2=B at *
  rcases NF 0 A with z |z
  ·rw[iz z hvx];rcases bR (d*B*B) A with⟨c,h1⟩ |⟨c,_,h1⟩ |⟨c,_,h1⟩
   ·rw[c,if_pos (by omega)];omega
   ·exact absurd h1 hne
   ·rw[c,if_neg (by omega)];omega
  ·rw[gW z (by omega) (.inr hvx)];rcases bR (d*B*B) A with⟨c,h1⟩ |⟨c,_,h1⟩ |⟨c,h0,h1⟩
   ·rw[c];omega
   ·exact absurd h1 hne
   ·have:A=0:=by omega
    subst this;have h5:0<d*B*B:=by rw[Ng];exact ML hd.1 (ON hvx hvx)
    omega
 ·rw[if_neg hv,if_pos (show(0:Int)<cf [u,d*v*v,w,1] 3 from(by decide:(0:Int)<1))];show 0<aY (d*v*v*x2*x2) (w*x1-u*x2)↔_;rw[eq];have eA:w*x1-u*x2 = -(u*x2-x1*w):=by grind
  rw[eA];have hvx:0<=v*x2:=MZ (by omega) (by omega);have hz:v=0->v*x2=0:=λh=>by rw[h,Nn]
  have hp:v≠0->0<v*x2:=λh=>ML (by omega) x2p
  generalize u*x2-x1*w=A at *
  generalize v*x2=B at *
  have sqA : -A * -A=A*A:=by grind
  by_cases h0:v=0
  ·have hB:=hz h0;subst hB;have e0:d*0*0=0:=by omega
   rw[e0];rcases Int.lt_trichotomy A 0 with z |z |z
   ·rw[gW (by omega) (Nr _) (.inl z)];rcases bR 0 (-A)with⟨c,h1 |h1⟩ |⟨c,_,h1⟩ |⟨c,_,h1⟩
    ·omega
    ·have:=ON z z;omega
    ·rw[c];omega
    ·rw[c]
   ·subst z;have a1:aY 0 (-0)=0:=by decide
    rw[a1,pD]
   ·rw[fZ (by omega) (Nr _) (.inl z)];unfold aY;rw[if_pos (.inl (by omega))]
  ·have hB:=hp h0;have hne:=ne h0;have hpos:0<d*B*B:=by rw[Ng];exact ML hd.1 (ML hB hB)
   rcases NF A 0 with z |z
   ·rw[iA z hB];rcases bR (d*B*B) (-A)with⟨c,h1 |h1⟩ |⟨c,_,h1⟩ |⟨c,_,h1⟩
    ·omega
    ·rw[c,if_neg (by omega)]
    ·exact absurd (by omega) hne
    ·rw[c,if_pos (by omega)]
   ·rw[fZ z (by omega) (.inr hB)]
    have:aY (d*B*B) (-A)=1:=by
     unfold aY;rw[if_pos];rcases O5 z with y |y
     ·exact .inl (by omega)
     ·right;rw[<- y];omega
    rw[this]
end RM
open PySem.W in
local macro_rules | `(tactic|walk_at "comp_ok")=>`(tactic|exact⟨by with_unfolding_all rfl,by decide +kernel,rfl,by decide +kernel,by repeat' (first |exact List.forall_mem_nil _ |refine List.forall_mem_cons.2 ⟨rfl,?_⟩),by rfl,by repeat' (first |exact .nil |refine .cons ⟨rfl,by first |exact Or.inl rfl |exact Or.inr rfl,rfl⟩ ?_)⟩)
namespace R45
open PySem L2 RM
noncomputable def top(i:Nat):Stmt:=PySem.Challenge.pw_rootspan_k45_all_roots.main.body.getD i (.Pass ⟨0,0,0,0⟩)
abbrev jm:Stmt:=g9 (top 7) 0
abbrev pZ:Stmt:=top 9
abbrev pY:Stmt:=top 10
abbrev pN:Stmt:=top 11
abbrev jn:Stmt:=g9 (top 12) 0
abbrev q8:Stmt:=g9 (top 12) 1
abbrev rc:Stmt:=g9 (top 12) 2
abbrev qZ:Stmt:=g9 (top 12) 3
abbrev re:Stmt:=g9 (top 12) 5
abbrev rd:Stmt:=g9 (top 12) 7
abbrev qf:Stmt:=top 14
abbrev qy:Stmt:=top 15
abbrev qG:Stmt:=top 16
abbrev pQ:Stmt:=top 17
abbrev qB:Stmt:=top 18
abbrev qk:Stmt:=top 19
abbrev pV:Stmt:=top 20
abbrev mH:Stmt:=top 21
abbrev qg:Stmt:=top 22
abbrev pO:Stmt:=top 23
abbrev pX:Stmt:=top 24
abbrev qx:Stmt:=top 26
abbrev p8:Stmt:=top 27
abbrev qp:Stmt:=top 28
abbrev qa:Stmt:=top 30
abbrev qb:Stmt:=top 31
abbrev qC:Stmt:=top 32
abbrev qz:Stmt:=top 33
abbrev qE:Stmt:=top 35
abbrev qD:Stmt:=top 36
abbrev qo:Stmt:=top 37
abbrev qj:Stmt:=top 38
abbrev qt:Stmt:=top 39
abbrev pR:Stmt:=top 40
abbrev qu:Stmt:=top 41
abbrev pT:Stmt:=top 42
abbrev qm:Stmt:=top 43
abbrev qF:Stmt:=top 44
abbrev qw:Stmt:=top 46
abbrev qA:Stmt:=top 47
abbrev qh:Stmt:=top 48
abbrev pM:Stmt:=top 49
abbrev pU:Stmt:=top 51
abbrev qr:Stmt:=top 53
abbrev qv:Stmt:=top 54
abbrev qq:Stmt:=top 55
abbrev pS:Stmt:=top 56
abbrev pP:Stmt:=top 57
abbrev rf:Stmt:=g9 (top 60) 0
abbrev qd:Stmt:=top 61
abbrev qe:Stmt:=top 62
abbrev qi:Stmt:=top 63
abbrev qc:Stmt:=top 64
abbrev qW:Stmt:=top 66
abbrev qJ:Stmt:=top 67
abbrev qU:Stmt:=top 68
abbrev qN:Stmt:=top 69
abbrev qP:Stmt:=top 70
abbrev qL:Stmt:=top 71
abbrev qX:Stmt:=top 72
abbrev qQ:Stmt:=top 73
abbrev qS:Stmt:=top 74
abbrev qK:Stmt:=top 75
abbrev qT:Stmt:=top 76
abbrev qY:Stmt:=top 77
abbrev qI:Stmt:=top 78
abbrev qV:Stmt:=top 79
abbrev qH:Stmt:=top 80
abbrev qM:Stmt:=top 81
abbrev qO:Stmt:=top 82
abbrev qR:Stmt:=top 83
abbrev mI:Stmt:=top 84
theorem scM{N P:List Str}{sc:Scope}(a:sc.kind=.function:=by rfl)(b:sc.isCoroutine=false:=by rfl)(c:sc.isGenerator=false:=by rfl)(e:N.Nodup:=by decide +kernel)(f:N.take P.length=P:=by rfl)(g:∀x∈P,sc.names.lookup x=some .local\/sc.names.lookup x=some .cell:=by decide +kernel)(h:∀y∈sc.names,y.2≠.free:=by decide +kernel):FnScope N P sc:=⟨a,b,c,e,f,g,h⟩
theorem Dq:FnScope ["self","degree"] ["self","degree"] (aA jm):=scM
theorem mw:FnScope ["row","divisor","value"] ["row"] (aA pZ):=scM
theorem jg:FnScope ["one","other","greater","less","rest"] ["one","other"] (aA pY):=scM
theorem CZ:FnScope ["value"] ["value"] (aA pN):=scM
theorem pL:FnScope ["self","top","bottom","divisor"] ["self","top","bottom"] (aA jn):=scM
theorem Ds:FnScope ["self","other"] ["self","other"] (aA q8):=scM
theorem Dt:FnScope ["self","other"] ["self","other"] (aA rc):=scM
theorem Dr:FnScope ["self","other"] ["self","other"] (aA qZ):=scM
theorem Dw:FnScope ["self","other"] ["self","other"] (aA re):=scM
theorem Du:FnScope ["self"] ["self"] (aA rd):=scM
theorem pJ:FnScope ["row","length"] ["row"] (aA qf):=scM
theorem Dh:FnScope ["row"] ["row"] (aA qy):=scM
theorem xF:FnScope ["first","second","length"] ["first","second"] (aA qG):=scM
theorem xw:FnScope ["first","second","length"] ["first","second"] (aA pQ):=scM
theorem Dj:FnScope ["row","place"] ["row","place"] (aA qB):=scM
theorem jh:FnScope ["first","second","product","j","one","k","other"] ["first","second"] (aA qk):=scM
theorem C4:FnScope ["row"] ["row"] (aA pV):=scM
theorem xy:FnScope ["row","divisor"] ["row"] (aA mH):=scM
theorem xC:FnScope ["row","small"] ["row"] (aA qg):=scM
theorem je:FnScope ["row","top","bottom","above","below","value"] ["row","top","bottom"] (aA pO):=scM
theorem Da:FnScope ["row","ratio"] ["row","ratio"] (aA pX):=scM
theorem dR:FnScope ["first","second","size","sign","steps","factor","quotient","rest","place","lead"] ["first","second"] (aA qx):=scM
theorem Db:FnScope ["row","factor"] ["row","factor"] (aA p8):=scM
theorem mE:FnScope ["row","second","place","lead","kept","k","value"] ["row","second","place","lead"] (aA qp):=scM
theorem Dc:FnScope ["polynomial"] ["polynomial"] (aA qa):=scM
theorem iB:FnScope ["first","second","row","one","other","rest"] ["first","second"] (aA qb):=scM
theorem iD:FnScope ["row","ratio","many","before","polynomial","sign"] ["row","ratio"] (aA qC):=scM
theorem Di:FnScope ["row","low","high"] ["row","low","high"] (aA qz):=scM
theorem kn:FnScope ["row","last","greatest","size"] ["row"] (aA qE):=scM
theorem fj:FnScope ["row","chain","high","low","waiting","found","cell","many","cut","there"] ["row"] (aA qD):=scM
theorem De:FnScope ["low","high"] ["low","high"] (aA qo):=scM
theorem mz:FnScope ["row","low","high","width","reach","steps","found"] ["row","low","high","width"] (aA qj):=scM
theorem ji:FnScope ["reach","width","wide","goal","steps"] ["reach","width"] (aA qt):=scM
theorem f7:FnScope ["row","low","reach","bottom","start","step","found","power","value"] ["row","low","reach"] (aA pR):=scM
theorem dF:FnScope ["row","end","steps","place","pieces","ahead","left","k","there"] ["row","end","steps"] (aA qu):=scM
theorem kj:FnScope ["row","found","factor","value"] ["row"] (aA pT):=scM
theorem mC:FnScope ["row","found","start","k"] ["row"] (aA qm):=scM
theorem Dk:FnScope ["low","reach","place","pieces"] ["low","reach","place","pieces"] (aA qF):=scM
theorem Dg:FnScope ["divisor","row"] ["divisor","row"] (aA qw):=scM
theorem jj:FnScope ["first","second","one","other","rest"] ["first","second"] (aA qA):=scM
theorem xD:FnScope ["row","divisor","found"] ["row","divisor"] (aA qh):=scM
theorem CY:FnScope ["row"] ["row"] (aA pM):=scM
theorem jf:FnScope ["first","second","least","greatest","found"] ["first","second"] (aA pU):=scM
theorem iC:FnScope ["row","low","high","whole","width","span","line","cell","square"] ["row","low","high"] (aA qr):=scM
theorem Df:FnScope ["whole"] ["whole"] (aA qv):=scM
theorem xE:FnScope ["whole","span","found"] ["whole","span"] (aA qq):=scM
theorem pI:FnScope ["whole","span","other","last","together"] ["whole","span","other"] (aA pS):=scM
theorem C0:FnScope ["factor","ratio"] ["factor","ratio"] (aA pP):=scM
theorem Dx:FnScope ["self","row","low","high"] ["self","row","low","high"] (aA rf):=scM
theorem Dd:FnScope ["height"] ["height"] (aA qd):=scM
theorem xA:FnScope ["row","limit"] ["row"] (aA qe):=scM
theorem km:FnScope ["simple","low","high","row","span","half"] ["simple","low","high"] (aA qi):=scM
theorem xz:FnScope ["row","simple"] ["row"] (aA qc):=scM
theorem Do:FnScope ["_law_script","_law_k"] ["_law_script","_law_k"] (aA qW):=scM
theorem Dl:FnScope ["_law_found"] ["_law_found"] (aA qJ):=scM
theorem mG:FnScope ["_law_one","_law_other","_law_rest"] ["_law_one","_law_other"] (aA qU):=scM
theorem Dn:FnScope ["_law_found"] ["_law_found"] (aA qN):=scM
theorem xG:FnScope ["_law_found","_law_one"] ["_law_found"] (aA qP):=scM
theorem Dm:FnScope ["_law_u","_law_v","_law_d"] ["_law_u","_law_v","_law_d"] (aA qL):=scM
theorem kx:FnScope ["_law_worth_here","_law_r","_law_u","_law_v","_law_w","_law_d"] ["_law_worth_here","_law_r"] (aA qX):=scM
theorem kt:FnScope ["_law_row","_law_by","_law_one"] ["_law_row"] (aA qQ):=scM
theorem ku:FnScope ["_law_worth_here","_law_u","_law_v","_law_w","_law_d"] ["_law_worth_here"] (aA qS):=scM
theorem mF:FnScope ["_law_one","_law_other","_law_found","_law_k","_law_j"] ["_law_one","_law_other"] (aA qK):=scM
theorem jl:FnScope ["_law_found","_law_worth_here","_law_due","_law_u","_law_v","_law_w","_law_d","_law_other"] ["_law_found","_law_worth_here","_law_due"] (aA qT):=scM
theorem Dp:FnScope ["_law_cell"] ["_law_cell"] (aA qY):=scM
theorem pK:FnScope ["_law_script","_law_k","_law_v","_law_cell"] ["_law_script","_law_k"] (aA qI):=scM
theorem f9:FnScope ["_law_one","_law_other","_law_u","_law_v","_law_w","_law_d","_law_a","_law_b","_law_c","_law_e"] ["_law_one","_law_other"] (aA qV):=scM
theorem f8:FnScope ["_law_script","_law_u","_law_v","_law_w","_law_d","_law_cell","_law_some","_law_k","_law_more"] ["_law_script"] (aA qH):=scM
theorem ko:FnScope ["_law_some","_law_found","_law_one","_law_at"] ["_law_some"] (aA qM):=scM
theorem jk:FnScope ["_law_some","_law_cell","_law_kp","_law_one"] ["_law_some","_law_cell"] (aA qO):=scM
theorem sc__law_nine:FnScope ["_law_cell","_law_height","_law_kp","_law_one","_law_e"] ["_law_cell"] (aA qR):=scM
theorem sc_law:FnScope ["_law_script","_law_some","_law_cell","_law_found","_law_kp","_law_due","_law_polys","_law_handed","_law_k","_law_again"] ["_law_script"] (aA mI):=scM
structure Txt(K:PySem.W.Frag)(mg:Str->Option Value):Prop where
 abs_:mg "abs"=none
 len_:mg "len"=none
 max_:mg "max"=none
 range_:mg "range"=none
 enumerate_:mg "enumerate"=none
 reversed_:mg "reversed"=none
 list_:mg "list"=none
 sum_:mg "sum"=none
 any_:mg "any"=none
 isinstance_:mg "isinstance"=none
 int_:mg "int"=none
 bool_:mg "bool"=none
 HIGHEST_:∃t:Tok,mg "HIGHEST"=some (.int 8 t)
structure EXC(K:PySem.W.Frag)(mg:Str->Option Value)(base:Heap)(CTooHigh:Addr):Prop where
 mgTooHigh:mg "TooHigh"=some (.ref CTooHigh)
 hit_TooHigh_TooHigh:PySem.W.exmOne K (.ref CTooHigh) (.ref CTooHigh)=some true
def md(K:PySem.W.Frag):Sp:=λvs H Q _=>∃(a:Addr) (ns:Ex),vs=[.ref a]/\SqL K H a (ns.map V.int)/\ns.length<=63/\∀H',Q (.bl true) H'
section
variable {P:Program}{w:World}{K:PySem.W.Frag}{mg:Str->Option Value}{base:Heap}
theorem rm(n:Nat):(List.replicate n [V.int 0]).flatten=(List.replicate n (0:Int)).map V.int:=by
 induction n with
 |zero=>rfl
 |succ n ih=>rw[Ol,OY,ih,Ol];rfl
theorem kY{n j:Nat}{i:Int}(e:i=j)(h:j<n):ixN n i=some j:=by subst e;unfold ixN;rw[if_pos (Pe _),if_pos (by omega)];simp
theorem nu(l:Ex)(j:Nat)(x:Int):(l.map V.int).set j (.int x)=(l.set j x).map V.int:=by rw[List.map_set]
theorem jP{l:Ex}{j:Nat}{i:Int}(e:i=j)(h:j<l.length):atI (l.map V.int) i=some (.int (cf l j)):=by subst e;exact fQ (by rw[List.getElem?_map,iS h];rfl)
def SameB(p:Addr)(H H':Hp):Prop:=∀b o,b≠p->H b=some o->H' b=some o
theorem SameB.refl(p:Addr)(H:Hp):SameB p H H:=λ_ _ _ h=>h
theorem SameB.then_new{p q:Addr}{H H1:Hp}{o:HO}(s:SameB p H H1)(h:H1 q=none):SameB p H (upd H1 q o):=λb u n e=>by rw[upd_ne (aN (s b u n e) h)];exact s b u n e
theorem SameB.then_upd{p:Addr}{H H1:Hp}{o:HO}(s:SameB p H H1):SameB p H (upd H1 p o):=λb u n e=>by rw[upd_ne n];exact s b u n e
def AllB(k:Nat)(l:Ex):Prop:=∀x∈l,Bits k x
theorem AllB.cf{k:Nat}{l:Ex}(h:AllB k l)(n:Nat):Bits k (cf l n):=by
 by_cases hn:n<l.length
 ·rw[dP hn];exact h _ (ND hn)
 ·rw[ck (NZ hn)];exact Bits.zero
theorem dI{H H2:Hp}{p:Addr}{o:HO}(s:Same H H2)(hp:H p=none):Same H (upd H2 p o):=λb u e=>by rw[upd_ne (aN e hp)];exact s b u e
theorem Hc(l:Ex)(x:Int):l.map V.int++[V.int x]=(l++[x]).map V.int:=by rw[Nl];rfl
noncomputable def ic(ms:Ex)(lo hi:Option Int):Ex:=(ms.drop (HT.sIx ms.length 0 lo)).take (HT.sIx ms.length ms.length hi-HT.sIx ms.length 0 lo)
theorem ug(ms:Ex)(lo hi:Option Int):ib (ms.map V.int) lo hi=(ic ms lo hi).map V.int:=by unfold ib ic;rw[MI,<- List.map_drop,<- List.map_take]
theorem JB{ms:Ex}{lo hi:Option Int}{x:Int}(h:x∈ic ms lo hi):x∈ms:=OU (O6 h)
theorem AllB.cut{k:Nat}{ms:Ex}{lo hi:Option Int}(h:AllB k ms):AllB k (ic ms lo hi):=λx hx=>h x (JB hx)
theorem AllB.app{k:Nat}{l r:Ex}(h1:AllB k l)(h2:AllB k r):AllB k (l++r):=λx hx=>(Nb.mp hx).elim (h1 x) (h2 x)
theorem AllB.zeros{k n:Nat}:AllB k (List.replicate n 0):=λx hx=>by rw[List.eq_of_mem_replicate hx];exact Bits.zero
theorem AllB.mono{j k:Nat}{l:Ex}(h:AllB j l)(hk:j<=k:=by decide):AllB k l:=λx hx=>(h x hx).mono hk
theorem AllB.nil{k:Nat}:AllB k []:=λ_ h=>nomatch h
theorem AllB.snoc{k:Nat}{l:Ex}{x:Int}(h:AllB k l)(hx:Bits k x):AllB k (l++[x]):=h.app λy hy=>by rw[MO.mp hy];exact hx
theorem G7{l:Ex}{x:Int}(h:x∈trim l):x∈l:=by
 unfold trim at h
 rw[List.mem_reverse]at h;exact List.mem_reverse.mp ((List.dropWhile_sublist _).subset h)
theorem AllB.trim{k:Nat}{l:Ex}(h:AllB k l):AllB k (trim l):=λx hx=>h x (G7 hx)
theorem hI{l:Ex}{i:Nat}{x:V}(h:(l.map V.int)[i]?=some x):∃c,l[i]?=some c/\x=.int c/\c∈l/\l.take (i+1)=l.take i++[c]:=by
 rw[List.getElem?_map]at h;cases e:l[i]? with
 |none=>rw[e]at h;cases h
 |some c=>rw[e]at h;exact⟨c,rfl,(Option.some.inj h).symm,List.mem_of_getElem? e,by rw[Nu,e];rfl⟩
def mkL(H:Hp)(Q:VK)(r:Ex):Prop:=∀(p:Addr) (H':Hp),Same H H'->H p=none->H' p=some (.lst (r.map V.int))->Q (.ref p) H'
def j4(K:PySem.W.Frag):Sp:=λvs H Q _=>∃(a:Addr) (ns:Ex),vs=[.ref a]/\SqL K H a (ns.map V.int)/\mkL H Q (trim ns)
def iw(K:PySem.W.Frag):Sp:=λvs H Q _=>∃(a:Addr) (ns:Ex) (k:Nat),vs=[.ref a,.int k]/\SqL K H a (ns.map V.int)/\Q (.int (ns.getD k 0)) H
def mf(K:PySem.W.Frag)(g:Ex->Ex->Ex):Sp:=λvs H Q _=>∃(a b:Addr) (xs ys:Ex),vs=[.ref a,.ref b]/\SqL K H a (xs.map V.int)/\SqL K H b (ys.map V.int)/\xs.length<=1000000/\ys.length<=1000000/\mkL H Q (g xs ys)
theorem zb(i j:Nat):(if((j:Nat):Int)>((i:Nat):Int)then((j:Nat):Int)else((i:Nat):Int))=((max i j:Nat):Int):=by split<;>omega
theorem mh{n:Nat}(h:n<=sizeLine) : -(2^62)<=((n:Nat):Int)/\((n:Nat):Int)<2^62:=by have:=sizeLine_eq;omega
def RwH(H:Hp)(ps:List Addr)(xss:List Ex):Prop:=ps.length=xss.length/\∀(i:Nat) (p:Addr) (xs:Ex),ps[i]?=some p->xss[i]?=some xs->H p=some (.lst (xs.map V.int))
theorem RwH.nil{H:Hp}:RwH H [] []:=⟨rfl,λi p xs h=>by simp at h⟩
theorem RwH.same{H H':Hp}{ps:List Addr}{xss:List Ex}(h:RwH H ps xss)(s:Same H H'):RwH H' ps xss:=⟨h.1,λi p xs a b=>s _ _ (h.2 i p xs a b)⟩
theorem RwH.rws{H:Hp}{ps:List Addr}{xss:List Ex}(h:RwH H ps xss):Rws K H ps xss:=⟨h.1,λi p xs a b=>SqL.of (h.2 i p xs a b)⟩
theorem RwH.snoc{H:Hp}{ps:List Addr}{xss:List Ex}{p:Addr}{xs:Ex}(h:RwH H ps xss)(hp:H p=some (.lst (xs.map V.int))):RwH H (ps++[p]) (xss++[xs]):=by
 refine⟨by rw[MX,MX,h.1];rfl,λi q ys a b=>?_⟩;by_cases hi:i<ps.length
 ·rw[List.getElem?_append_left hi]at a;rw[List.getElem?_append_left (by rw[<- h.1];exact hi)]at b;exact h.2 i q ys a b
 ·rw[List.getElem?_append_right (by omega)]at a;rw[List.getElem?_append_right (by rw[<- h.1];omega),<- h.1]at b;by_cases h0:i-ps.length=0
  ·rw[h0]at a b;obtain rfl:p=q:=by simpa using a
   obtain rfl:xs=ys:=by simpa using b
   exact hp
  ·rw[List.getElem?_eq_none_iff.mpr (by simp;omega)]at a;cases a
theorem RwH.get{H:Hp}{ps:List Addr}{xss:List Ex}{i:Nat}(h:RwH H ps xss)(hi:i<xss.length):∃p,ps[i]?=some p/\H p=some (.lst ((xss.getD i []).map V.int)):=by
 have hi':i<ps.length:=by rw[h.1];exact hi
 refine⟨ps[i],List.getElem?_eq_getElem hi',h.2 i _ _ (List.getElem?_eq_getElem hi') ?_⟩;rw[List.getElem?_eq_getElem hi];simp[List.getD,hi]
theorem RwH.of_get{H:Hp}{ps:List Addr}{xss:List Ex}{i:Nat}{x:V}(h:RwH H ps xss)(hx:(ps.map V.ref)[i]?=some x):∃p xs,x=.ref p/\ps[i]?=some p/\xss[i]?=some xs/\H p=some (.lst (xs.map V.int))/\i<xss.length:=by
 rw[List.getElem?_map]at hx;cases e:ps[i]? with
 |none=>rw[e]at hx;cases hx
 |some p =>
  rw[e]at hx;have hi:i<ps.length:=(List.getElem?_eq_some_iff.mp e).1;have hi':i<xss.length:=by rw[<- h.1];exact hi
  exact⟨p,xss[i],(Option.some.inj hx).symm,rfl,List.getElem?_eq_getElem hi',h.2 i p _ e (List.getElem?_eq_getElem hi'),hi'⟩
theorem sF(ps:List Addr)(p:Addr):ps.map V.ref++[V.ref p]=(ps++[p]).map V.ref:=by rw[Nl];rfl
theorem DT{i:Nat}{v:V}{σ:St}{H:Hp}{Q:St->Hp->Prop}(h:Q (σ.set i (some v)) H):eh i v σ H Q:=h
def sp2:Sp:=λvs H Q _=>∃a b:Int,vs=[.int a,.int b]/\Q (.int (Nat.gcd a.natAbs b.natAbs:Nat)) H
theorem lC(i:Int):(if i<0 then -i else i)=(i.natAbs:Int):=by split<;>omega
theorem Fg(F:Fun K "shared_by_two" "shared_by_two" pY f fd)(T:Txt K mg):FnOk P w K mg base CX0 1 f fd ["one","other"] sp2:=by
 refine F.ok jg (λvs H Q E h=>?_) (λcdv A outer s H vs Q E hr h=>?_)
 ·obtain⟨a,b,rfl,_⟩:=h;rfl
 ·obtain⟨a,b,rfl,k⟩:=h
  refine⟨_,(ag (ao 2 jg (cF ij (by rfl) T.abs_ PyProof.Rows.boot_abs (aa (pv 0) ac)))
   (ag (ao 3 jg (cF ij (by rfl) T.abs_ PyProof.Rows.boot_abs (aa (pv 1) ac)))
   (ag (eR PassesOwn.never (aG iK (pv 3) ad)
     (ag (ao 4 jg (ai ci (pv 2) (pv 3)))
       (ag (ao 2 jg (pv 3))
       (aj (ao 3 jg (pv 4))))))
   (aj (aC (pv 2)))))),?_⟩
  refine⟨_,rfl,_,rfl,?_⟩;refine⟨_,rfl,_,rfl,?_⟩;refine⟨λm σ' H'=>∃(x y:Int) (z:Option V),σ'=[some (.int a),some (.int b),some (.int x),some (.int y),z]/\H=H'/\0<=x/\0<=y/\y.natAbs=m/\Nat.gcd x.natAbs y.natAbs=Nat.gcd a.natAbs b.natAbs,⟨_,_,_,none,rfl,rfl,?_,?_,rfl,?_⟩,?_⟩
  ·rw[lC];exact Pe _
  ·rw[lC];exact Pe _
  ·rw[lC,lC,Nm,Nm]
  ·rintro m σ' H' ⟨x,y,z,rfl,rfl,hx,hy,rfl,hg⟩;refine⟨_,rfl,_,_,rfl,rfl,_,rfl,?_⟩;refine cY (λhn=>?_) (λh0=>?_)
   ·have hp:0<y:=by have:y≠0:=hn;omega
    refine⟨_,λ_ _ h=>h,?_⟩;refine⟨_,rfl,_,rfl,_,_,rfl,rfl,hp,?_⟩;refine⟨_,rfl,?_⟩;refine⟨_,rfl,?_⟩;have h1:=N6 x (Nk hp);have h2:=N7 x hp;exact⟨(x%y).natAbs,by omega,y,x%y,_,rfl,rfl,hy,h1,rfl,by rw[zL hx hp];exact hg⟩
   ·refine⟨_,rfl,?_⟩;have e:(y:Int)=0:=h0;subst e
    have e2:(x:Int)=((Nat.gcd a.natAbs b.natAbs:Nat):Int):=by rw[<- hg];show x=((Nat.gcd x.natAbs 0:Nat):Int);rw[Nat.gcd_zero_right];omega
    rw[e2];exact k
def oV(K:PySem.W.Frag):Sp:=λvs H Q _=>∃(a:Addr) (ns:Ex),vs=[.ref a]/\SqL K H a (ns.map V.int)/\Q (.int (aB ns:Nat)) H
theorem Fh(F:Fun K "shared" "shared" pZ f fd)(T:Txt K mg)(uP:Cal P w K mg base 1 "shared_by_two" ["one","other"] sp2 IY Iz):FnOk P w K mg base CX0 2 f fd ["row"] (oV K):=by
 refine F.ok mw (λvs H Q E h=>?_) (λcdv A outer s H vs Q E hr h=>?_)
 ·obtain⟨a,ns,rfl,_⟩:=h;rfl
 ·obtain⟨a,ns,rfl,hS,k⟩:=h
  refine⟨_,(ag (ao 1 mw ad)
   (ag (cw PassesOwn.never rfl (c9 (K:=K) rfl (pv 0)) (aT 2 mw)
     (aj (ao 1 mw (aq uP hr (aa (pv 1) (aa (pv 2) ac))))))
   (aj (aC (pv 1))))),?_⟩
  refine⟨_,rfl,a,rfl,⟨_,hS⟩,iT (K:=K) (a:=a) (xs:=ns.map V.int) (λi σ' H'=>∃z:Option V,σ'=[some (.ref a),some (.int (aB (ns.take i):Nat)),z]/\H=H') ⟨none,rfl,rfl⟩ (λi σ' H' _ ⟨z,_,e⟩=>by rw[<- e];exact hS) ?_ ?_⟩
  ·rintro i y σ' H' hi ⟨z,rfl,rfl⟩;rw[List.getElem?_map]at hi;cases e:ns[i]? with
   |none=>rw[e]at hi;cases hi
   |some n =>
    rw[e]at hi;obtain rfl:=Option.some.inj hi;refine⟨_,rfl,_,rfl,_,_,rfl,?_⟩;have e3:ns.take (i+1)=ns.take i++[n]:=by rw[Nu,e];rfl
    refine⟨some (.int n),?_,rfl⟩;rw[e3,zM,Nm];rfl
  ·rintro σ' H' ⟨z,rfl,rfl⟩;refine⟨_,rfl,?_⟩;rw[MI,NP];exact k
noncomputable def gG(t b:Int):List (Str×V):=cE "bottom" (.int b) (cE "top" (.int t) [])
theorem B7:¬(("top":Str)="bottom"):=by decide +kernel
theorem bF(t b:Int):(gG t b).lookup ("bottom":Str)=some (.int b):=by unfold gG;rw[dL,if_pos rfl]
theorem cI(t b:Int):(gG t b).lookup ("top":Str)=some (.int t):=by unfold gG;rw[dL,if_neg B7,dL,if_pos rfl]
theorem dN(t b:Int){m:Str}(h1:¬m="bottom")(h2:¬m="top"):(gG t b).lookup m=none:=by unfold gG;rw[dL,if_neg h1,dL,if_neg h2];rfl
structure RCI(K:PySem.W.Frag)(mg:Str->Option Value)(C:Addr):Prop where
 cl:Cls K C
 nT:NoAttr K C "top"
 nB:NoAttr K C "bottom"
 mg:mg "Ratio"=some (.ref C)
 ha:PySem.W.findIn K (.ref C) "__class__"=some (some (.builtin "object.__class__"))
 hn:PySem.W.specialIn K (.builtin "object.__class__") "__get__"=some (some (.builtin "getset_descriptor.__get__"))
 ht:PySem.W.takesIn K (.builtin "object.__class__")=some true
 hm:PySem.W.mroIn K C (.type "object")=some true
def RA(C:Addr)(H:Hp)(p:Addr)(t b:Int):Prop:=∃dx,H p=some (.ins C dx (gG t b))
theorem RA.same{C:Addr}{H H':Hp}{p:Addr}{t b:Int}(h:RA C H p t b)(s:Same H H'):RA C H' p t b:=let⟨dx,e⟩:=h;⟨dx,s _ _ e⟩
def mkR(C:Addr)(H:Hp)(Q:VK)(t b:Int):Prop:=∀(x:Addr) (H':Hp),Same H H'->H x=none->RA C H' x (rt t b) (rb t b)->Q (.ref x) H'
def dD(C:Addr):Sp:=λvs H Q _=>∃(p dx:Addr) (t b:Int),vs=[.ref p,.int t,.int b]/\H p=some (.ins C dx [])/\b≠0/\Bits 9000 b/\Q .non (upd H p (.ins C dx (gG (rt t b) (rb t b))))
theorem fH{C:Addr}{H1:Hp}{q:Addr->Hp->Prop}{E:XK}{t b:Int}(hb:b≠0)(bb:Bits 9000 b)(h:∀(x:Addr) (H':Hp),Same H1 H'->H1 x=none->RA C H' x (rt t b) (rb t b)->q x H'):∀x dx:Addr,H1 x=none->H1 dx=none->dx≠x->dD C (.ref x::([.int t,.int b]++[])) (upd (upd H1 dx (.own x)) x (.ins C dx [])) (λv H2=>v=.non/\q x H2) E:=λx dx nx ndx ne=>by
 refine⟨x,dx,t,b,rfl,ap,hb,bb,rfl,?_⟩;rw[lJ]
 have s0:Same H1 (upd (upd H1 dx (.own x)) x (.ins C dx (gG (rt t b) (rb t b)))):=λc o e=>by rw[upd_ne (aN e nx),upd_ne (aN e ndx)];exact e
 exact h x _ s0 nx ⟨dx,ap⟩
theorem Aj{t b:Int}(hb:b≠0)(bb:Bits 9000 b):Bits 9000 (dv t b):=bb.of_le (by rw[iV];exact Nat.le_of_dvd (Oq.mpr hb) (Oy _ _))
theorem Gq(F:FunD K "__init__" "Ratio.__init__" jn dV f fd)(T:Txt K mg)(R:RCI K mg C)(uP:Cal P w K mg base 1 "shared_by_two" ["one","other"] sp2 IY Iz):FnOk P w K mg base CX0 2 f fd ["self","top","bottom"] (dD C):=by
 refine F.ok pL (λvs H Q E h=>?_) (λcdv A outer s H vs Q E hr h=>?_)
 ·obtain⟨p,dx,t,b,rfl,_⟩:=h;rfl
 ·obtain⟨p,dx,t,b,rfl,hp,hb,bb,k⟩:=h
  refine⟨_,(ag (aR (aG cU (pv 2) ad)
   (aj mP)
   aS)
   (ag (ao 3 pL (aq uP hr (aa (pv 1) (aa (pv 2) ac))))
   (ag (aR (aG cT (pv 2) ad)
     (aj (ao 3 pL (bC bA (pv 3))))
     aS)
   (ag (kE (pv 0) (ai yu (pv 1) (pv 3)) rfl)
   (aj (kE (pv 0) (ai yu (pv 2) (pv 3)) rfl)))))),?_⟩
  refine bn ⟨_,rfl,_,_,rfl,rfl,_,rfl,aH (λh=>absurd h hb) (λ_=>?_)⟩;refine av ⟨_,rfl,_,rfl,t,b,rfl,?_⟩;refine gY (λσ' H'=>H=H'/\σ'=[some (.ref p),some (.int t),some (.int b),some (.int (dv t b))]) ?_ ?_
  ·rintro σ' H' ⟨rfl,rfl⟩;refine⟨_,rfl,_,rfl,_,_,rfl,rfl,⟨nR hb,Aj hb bb⟩,_,rfl,p,C,dx,_,rfl,hp,R.cl,R.nT,by show 0<1000;decide,?_⟩;refine⟨_,rfl,_,rfl,_,_,rfl,rfl,⟨nR hb,Aj hb bb⟩,_,rfl,p,C,dx,_,rfl,ap,R.cl,R.nB,by show 1<1000;decide,?_⟩;show Q .non (upd (upd H p _) p _);rw[lJ];exact k
  ·intro rest;refine⟨_,rfl,_,_,rfl,rfl,_,rfl,?_⟩;refine aH (λh=>?_) (λh=>?_)
   ·refine⟨_,rfl,_,rfl,rest _ _ ⟨rfl,?_⟩⟩;have e:dv t b = -((Nat.gcd t.natAbs b.natAbs:Nat):Int):=by unfold dv;rw[if_pos h]
    rw[e];rfl
   ·refine rest _ _ ⟨rfl,?_⟩;have e:dv t b=((Nat.gcd t.natAbs b.natAbs:Nat):Int):=by unfold dv;rw[if_neg h]
    rw[e];rfl
def j6:Sp:=λvs H Q _=>∃x:Int,vs=[.int x]/\Q (.int (sg x)) H
theorem E5(F:Fun K "whole_sign" "whole_sign" pN f fd)(T:Txt K mg):FnOk P w K mg base CX0 1 f fd ["value"] j6:=by
 refine F.ok CZ (λvs H Q E h=>?_) (λcdv A outer s H vs Q E hr h=>?_)
 ·obtain⟨x,rfl,_⟩:=h;rfl
 ·obtain⟨x,rfl,k⟩:=h
  refine⟨_,(ag (aR (aG cT (pv 0) ad)
   (aj (aC (bC bA ad)))
   aS)
   (ag (aR (aG cQ (pv 0) ad)
     (aj (aC ad))
     aS)
   (aj (aC ad)))),?_⟩
  refine bn ⟨_,rfl,_,_,rfl,rfl,_,rfl,aH (λh=>?_) (λh=>?_)⟩
  ·have e:sg x = -1:=by unfold sg;rw[if_pos h]
   rw[e]at k;exact⟨_,rfl,k⟩
  refine bn ⟨_,rfl,_,_,rfl,rfl,_,rfl,aH (λh'=>?_) (λh'=>?_)⟩
  ·have e:sg x=1:=by unfold sg;rw[if_neg h,if_pos h']
   rw[e]at k;exact k
  ·have e:sg x=0:=by unfold sg;rw[if_neg h,if_neg h']
   rw[e]at k;exact k
def pi(C:Addr):Sp:=λvs H Q _=>∃(p q:Addr) (t b u d:Int),vs=[.ref p,.ref q]/\RA C H p t b/\RA C H q u d/\Bits 100000 t/\Bits 100000 b/\Bits 100000 u/\Bits 100000 d/\Q (.int (sg (t*d-u*b))) H
theorem Gp(F:Fun K "against" "Ratio.against" re f fd)(T:Txt K mg)(R:RCI K mg C)(iZ:Cal P w K mg base 1 "whole_sign" ["value"] j6 tQ tI):FnOk P w K mg base CX0 2 f fd ["self","other"] (pi C):=by
 refine F.ok Dw (λvs H Q E h=>?_) (λcdv A outer s H vs Q E hr h=>?_)
 ·obtain⟨p,q,t,b,u,d,rfl,_⟩:=h;rfl
 ·obtain⟨p,q,t,b,u,d,rfl,⟨dx,hp⟩,⟨dy,hq⟩,bt,bb,bu,bd,k⟩:=h;refine⟨_,(aj (aC (aq iZ hr (aa (ai bQ (ai aI (aL (K:=K) rfl (pv 0) rfl) (aL (K:=K) rfl (pv 1) rfl)) (ai aI (aL (K:=K) rfl (pv 1) rfl) (aL (K:=K) rfl (pv 0) rfl))) ac)))),?_⟩;refine⟨_,rfl,p,C,dx,_,_,rfl,hp,R.cl,R.nT,cI _ _,_,rfl,q,C,dy,_,_,rfl,hq,R.cl,R.nB,bF _ _,_,_,rfl,rfl,⟨bt.mono,bd.mono⟩,?_⟩;exact⟨_,rfl,q,C,dy,_,_,rfl,hq,R.cl,R.nT,cI _ _,_,rfl,p,C,dx,_,_,rfl,hp,R.cl,R.nB,bF _ _,_,_,rfl,rfl,⟨bu.mono,bb.mono⟩,_,_,rfl,rfl,_,rfl,k⟩
theorem Fo(F:Fun K "poly" "poly" qf f fd)(T:Txt K mg):FnOk P w K mg base CX0 1 f fd ["row"] (j4 K):=by
 refine F.ok pJ (λvs H Q E h=>?_) (λcdv A outer s H vs Q E hr h=>?_)
 ·obtain⟨a,ns,rfl,_⟩:=h;rfl
 ·obtain⟨a,ns,rfl,hS,k⟩:=h
  refine⟨_,(ag (ao 1 pJ (ca K T.len_ (aa (pv 0) ac)))
   (ag (eR PassesOwn.never (PW.pt (fB (aG cQ (pv 1) ad) (fA (aG cU (bJ K (pv 0) (ai bQ (pv 1) ad)) ad))))
     (aj (ao 1 pJ (ai bQ (pv 1) ad))))
   (aj (aC (mV (mi (K:=K) rfl) (pv 0) mT (mS (pv 1))))))),?_⟩
  refine⟨_,rfl,a,_,rfl,.inl hS,?_⟩;refine⟨λm σ' H'=>∃n:Nat,n<=ns.length/\σ'=[some (.ref a),some (.int n)]/\H=H'/\n=m/\trim (ns.take n)=trim ns,⟨_,ns.length,MJ _,?_,rfl,rfl,?_⟩,?_⟩
  ·rw[MI];rfl
  ·rw[NP]
  ·rintro m σ' H' ⟨n,hn,rfl,rfl,rfl,ht⟩
   have fin:trim (ns.take n)=ns.take n->∃v,([some (V.ref a),some (V.int n)]:St)[0]?=some (some v)/\∃v_1,([some (V.ref a),some (V.int n)]:St)[1]?=some (some v_1)/\∃i,v_1=V.int i/\rE K v none (some i) H Q:=λh=>by
    refine⟨_,rfl,_,rfl,n,rfl,a,_,rfl,hS,λp hp=>k p _ (Same.upd_new hp) hp ?_⟩;rw[ap,<- ht,h]
    have e:ib (ns.map V.int) none (some (n:Int))=(ns.take n).map V.int:=by unfold ib;rw[HT.sIx_none,HT.sIx_nat,OG,N3,MI,Nat.min_eq_left hn,List.map_take]
    rw[e]
   refine⟨_,rfl,_,_,rfl,rfl,_,rfl,?_⟩;refine aH (λhp=>?_) (λhp=>?_)
   ·obtain⟨j,rfl⟩:∃j,n=j+1:=⟨n-1,by have:(0:Int)<n:=hp;omega⟩;have hj:j<ns.length:=hn;refine⟨_,rfl,_,rfl,_,_,rfl,rfl,a,_,j,.int (cf ns j),rfl,?_,hS,fQ ?_,_,_,rfl,rfl,_,rfl,?_⟩
    ·show V.int (((j+1:Nat):Int)-1)=V.int j
     congr 1;omega
    ·rw[List.getElem?_map,iS hj];rfl
    refine aH (λh0=>?_) (λh0=>?_)
    ·refine⟨_,λ_ _ h=>h,?_⟩;refine⟨_,rfl,_,_,rfl,rfl,j,NY _,j,Ov hj,?_,rfl,rfl,?_⟩
     ·show[some (V.ref a),some (V.int (((j+1:Nat):Int)-1))]=[some (V.ref a),some (V.int j)]
      congr 4;omega
     ·rw[<- ht,BP hj h0]
    ·exact fin (BQ hj h0)
   ·obtain rfl:n=0:=by have:¬(0:Int)<n:=hp;omega
    exact fin (by rw[List.take_zero];rfl)
def jd:Sp:=λvs H Q _=>∃(a:Addr) (xs:List V),vs=[.ref a]/\H a=some (.lst xs)/\Q (.int ((xs.length:Int)-1)) H
theorem FI(F:Fun K "degree" "degree" qy f fd)(T:Txt K mg):FnOk P w K mg base CX0 1 f fd ["row"] jd:=by
 refine F.ok Dh (λvs H Q E h=>?_) (λcdv A outer s H vs Q E hr h=>?_)
 ·obtain⟨a,xs,rfl,_⟩:=h;rfl
 ·obtain⟨a,xs,rfl,hA,k⟩:=h;refine⟨_,(aj (aC (ai bQ (ca K T.len_ (aa (pv 0) ac)) ad))),?_⟩;exact⟨_,rfl,a,_,rfl,.inl (SqL.of hA),_,_,rfl,rfl,k⟩
theorem FL(F:Fun K "coefficient" "coefficient" qB f fd)(T:Txt K mg):FnOk P w K mg base CX0 1 f fd ["row","place"] (iw K):=by
 refine F.ok Dj (λvs H Q E h=>?_) (λcdv A outer s H vs Q E hr h=>?_)
 ·obtain⟨a,ns,k,rfl,_⟩:=h;rfl
 ·obtain⟨a,ns,n,rfl,hS,k⟩:=h
  refine⟨_,(ag (aR (aG cT (pv 1) (ca K T.len_ (aa (pv 0) ac)))
   (aj (aC (bJ K (pv 0) (pv 1))))
   aS)
   (aj (aC ad))),?_⟩
  refine⟨_,rfl,_,rfl,a,_,rfl,.inl hS,_,_,rfl,rfl,_,rfl,?_⟩;refine aH (λh1=>?_) (λh1=>?_)
  ·rw[MI]at h1;have h2:n<ns.length:=by omega
   refine⟨_,rfl,_,rfl,a,_,_,_,rfl,rfl,hS,fQ (v:=.int (ns.getD n 0)) ?_,k⟩;rw[List.getElem?_map,List.getElem?_eq_getElem h2];simp[List.getD,h2]
  ·rw[MI]at h1;have h2:ns.length<=n:=by omega
   have e:ns.getD n 0=0:=by simp[List.getD,List.getElem?_eq_none_iff.mpr h2]
   rw[e]at k;exact k
theorem E8(F:Fun K "taken" "taken" pQ f fd)(T:Txt K mg)(i7:Cal P w K mg base 1 "poly" ["row"] (j4 K) tT tK)(lH:Cal P w K mg base 1 "coefficient" ["row","place"] (iw K) Jb IE):FnOk P w K mg base CX0 2 f fd ["first","second"] (mf K cD):=by
 refine F.ok xw (λvs H Q E h=>?_) (λcdv A outer s H vs Q E hr h=>?_)
 ·obtain⟨a,b,xs,ys,rfl,_⟩:=h;rfl
 ·obtain⟨a,b,xs,ys,rfl,hA,hB,hx,hy,k⟩:=h
  refine⟨_,(ag (ao 2 xw (cF (AR rfl) (by rfl) T.max_ PyProof.Rows.boot_max (aa (ca K T.len_ (aa (pv 0) ac)) (aa (ca K T.len_ (aa (pv 1) ac)) ac))))
   (aj (aC (aq i7 hr (aa (eV (own:=["k"]) (fr:=["first","second"]) (js:=[0,1]) (by walk_at "comp_ok") rfl (g6 rfl T.range_ (aa (pv 2) ac)) (λ_ _ _ _=>(dG (i:=0) (show List.Nodup (["k","first","second"]:List Str)from by decide +kernel) rfl (Or.inl rfl))) (λ_ _ _ _=>(ai bQ (aq lH hr (aa (pv 1) (aa (pv 0) ac))) (aq lH hr (aa (pv 2) (aa (pv 0) ac)))))) ac))))),?_⟩
  refine⟨_,rfl,a,_,rfl,.inl hA,_,rfl,b,_,rfl,.inl hB,_,_,rfl,?_⟩;rw[zb,MI,MI];have hz:max xs.length ys.length<=sizeLine:=by have:=sizeLine_eq;omega
  refine⟨_,rfl,_,rfl,(mh hz).1,(mh hz).2,uk (lo:=0) (n:=max xs.length ys.length) (λi zs σ' H'=>∃z:Option V,σ'=[z,some (.ref a),some (.ref b)]/\zs=((List.range i).map λk=>V.int (cf xs k-cf ys k))/\H=H') hz ⟨none,rfl,rfl,rfl⟩ ?_ ?_ ?_⟩
  ·rintro i zs σ' H' _ ⟨z,rfl,rfl,rfl⟩;simp
  ·rintro i zs σ' H' hi ⟨z,rfl,rfl,rfl⟩;refine⟨_,rfl,_,rfl,a,xs,i,?_,hA,_,rfl,_,rfl,b,ys,i,?_,hB,_,_,rfl,rfl,_,rfl,?_,rfl⟩
   ·show[V.ref a,V.int (0+(i:Int))]=_;rw[Ny]
   ·show[V.ref b,V.int (0+(i:Int))]=_;rw[Ny]
   ·rw[List.range_succ,Nl];rfl
  ·rintro zs σ' H' p ⟨z,rfl,rfl,rfl⟩ hp;refine⟨p,(List.range (max xs.length ys.length)).map λk=>cf xs k-cf ys k,rfl,SqL.of ?_,?_⟩
   ·rw[ap,NR];rfl
   ·intro p' H' sm hp' e;refine k p' H' ((Same.upd_new hp).trans sm) ((Same.upd_new hp).free hp') ?_;rw[e,Cn]
def sp1(g:Ex->Ex):Sp:=λvs H Q _=>∃(a:Addr) (ns:Ex),vs=[.ref a]/\H a=some (.lst (ns.map V.int))/\ns.length<=100000/\AllB 100000 ns/\mkL H Q (g ns)
theorem GJ{k:Nat}{n:Nat}(h:n<2^k):Bits k (n:Int):=by show((n:Int)).natAbs<2^k;rw[Nm];exact h
theorem Cv{n:Nat}(h:n<=1000000):Bits 1000000 (n:Int):=(GJ (k:=20) (Ob h (by decide))).mono
theorem D2(f:Nat->V)(i:Nat):(List.range i).map f++[f i]=(List.range (i+1)).map f:=by rw[List.range_succ,Nl];rfl
theorem Fd(F:Fun K "slope" "slope" pV f fd)(T:Txt K mg):FnOk P w K mg base CX0 1 f fd ["row"] (sp1 slopeL):=by
 refine F.ok C4 (λvs H Q E h=>?_) (λcdv A outer s H vs Q E hr h=>?_)
 ·obtain⟨a,ns,rfl,_⟩:=h;rfl
 ·obtain⟨a,ns,rfl,hA,hn,hb,k⟩:=h;have big:=sizeLine_eq;refine⟨_,(aj (aC (eV (own:=["k"]) (fr:=["row"]) (js:=[0]) (by walk_at "comp_ok") rfl (ED rfl T.range_ (aa ad (aa (ca K T.len_ (aa (pv 0) ac)) ac))) (λ_ _ _ _=>(dG (i:=0) (show List.Nodup (["k","row"]:List Str)from by decide +kernel) rfl (Or.inl rfl))) (λ_ _ _ _=>(ai aI (pv 0) (bJ K (pv 1) (pv 0))))))),?_⟩;have hl:(ns.map V.int).length=ns.length:=MI _;refine aV ⟨_,rfl,a,_,rfl,.inl (SqL.of hA),1,_,rfl,⟨by decide,by decide,by rw[hl];omega,by rw[hl];omega⟩,uk (lo:=1) (λi ys σ' H'=>∃z:Option V,σ'=[z,some (.ref a)]/\ys=((List.range i).map λ(j:Nat)=>V.int (((j:Int)+1)*cf ns (j+1)))/\H=H') (by rw[hl];omega) ⟨none,rfl,rfl,rfl⟩ ?_ ?_ ?_⟩
  ·rintro i ys σ' H' _ ⟨z,rfl,rfl,rfl⟩;simp
  ·rintro i ys σ' H' hi ⟨z,rfl,rfl,rfl⟩;rw[hl]at hi;have hi':i+1<ns.length:=by omega
   have e0:(1:Int)+(i:Int)=((i+1:Nat):Int):=by omega
   refine⟨_,rfl,_,rfl,_,rfl,a,_,_,_,rfl,rfl,SqL.of hA,jP e0 hi',_,_,rfl,rfl,⟨by rw[e0];exact Cv (by omega),(hb.cf _).mono⟩,_,rfl,?_,rfl⟩;rw[<- D2];show _++[V.int ((1+(i:Int))*cf ns (i+1))]=_;rw[NV 1]
  ·rintro ys σ' H' p ⟨z,rfl,rfl,rfl⟩ hp;refine k p _ (Same.upd_new hp) hp ?_;have en:(((ns.map V.int).length:Int)-1).toNat=ns.length-1:=by rw[hl];omega
   rw[ap,en];unfold RM.slopeL;rw[NR];rfl
def oU:Sp:=λvs H Q _=>∃(a:Addr) (ns:Ex),vs=[.ref a]/\H a=some (.lst (ns.map V.int))/\Tr ns/\ns.length<=1000000/\mkL H Q (ar ns)
theorem Ii{ns:Ex}(ht:Tr ns)(hne:ns≠[]):0<(aB ns:Int):=by
 obtain⟨r,x,rfl⟩:=(cO ns).resolve_left hne;have hx:x≠0:=tr_snoc.mp ht;have hm:x∈r++[x]:=by simp
 have h1:0<aB (r++[x]):=Nat.pos_of_dvd_of_pos (nJ hm) (Oq.mpr hx);omega
theorem Ff(F:Fun K "shrunk" "shrunk" mH f fd)(T:Txt K mg)(hNS:base.NoSeer)(hTr:P.given.tree=none)(uQ:Cal P w K mg base 2 "shared" ["row"] (oV K) IZ IA):FnOk P w K mg base CX0 33 f fd ["row"] oU:=by
 refine F.ok xy (λvs H Q E h=>?_) (λcdv A outer s H vs Q E hr h=>?_)
 ·obtain⟨a,ns,rfl,_⟩:=h;rfl
 ·obtain⟨a,ns,rfl,hA,ht,hn,k⟩:=h;have big:=sizeLine_eq;have hdp:(A.deeper (PyProof.Rows.envOfC (Str.ofString "shrunk") (aA mH) s.heap.objs.size f cdv)).depth+100<recursionLimit:=by have:=hr.dp;omega
  refine⟨_,(ag (ao 1 xy (aq uQ hr (aa (pv 0) ac)))
   (aj (aC (eV (own:=["value"]) (fr:=["divisor"]) (js:=[1]) (by walk_at "comp_ok") rfl (c9 (K:=K) rfl (pv 0)) (λ_ _ _ _=>(dG (i:=0) (show List.Nodup (["value","divisor"]:List Str)from by decide +kernel) rfl (Or.inl rfl))) (λ_ _ _ _=>(ai (EW hNS hTr hdp rfl rfl rfl rfl rfl) (pv 0) (pv 1))))))),?_⟩
  refine av ⟨_,rfl,a,ns,rfl,SqL.of hA,?_⟩;refine aV ⟨_,rfl,a,rfl,⟨_,SqL.of hA⟩,fN (K:=K) (a:=a) (xs:=ns.map V.int) (λi ys σ' H'=>∃(z0:Option V),σ'=[z0,some (.int (aB ns:Nat))]/\ys=((ns.take i).map λx=>x/(aB ns:Int)).map V.int/\H=H') (by rw[MI];omega) ⟨none,rfl,rfl,rfl⟩ ?_ ?_ ?_⟩
  ·rintro i ys σ' H' _ ⟨z0,rfl,rfl,rfl⟩;exact⟨SqL.of hA,by rw[MI,MI,Nx];exact O7 _ _⟩
  ·rintro i x ys σ' H' hi ⟨z0,rfl,rfl,rfl⟩;rw[List.getElem?_map]at hi;cases e:ns[i]? with
   |none=>rw[e]at hi;cases hi
   |some c =>rw[e]at hi;obtain rfl:=Option.some.inj hi;have g1:=Ii ht (λz=>by rw[z]at e;simp at e);refine⟨_,rfl,_,rfl,_,_,rfl,rfl,g1,_,rfl,?_,rfl⟩;rw[Nu,e];simp
  ·rintro ys σ' H' p ⟨z0,rfl,rfl,rfl⟩ hp;refine k p _ (Same.upd_new hp) hp ?_;rw[ap,MI,NP];rfl
def j8:Sp:=λvs H Q _=>∃(a:Addr) (ns:Ex),vs=[.ref a]/\H a=some (.lst (ns.map V.int))/\Tr ns/\ns.length<=1000000/\mkL H Q (aD ns)
theorem A5(r:Ex)(x:Int):atI ((r++[x]).map V.int) (-1)=some (.int x):=by rw[Nl];exact uD _ _
theorem Fp(F:Fun K "plain" "plain" qg f fd)(T:Txt K mg)(lG:Cal P w K mg base 33 "shrunk" ["row"] oU IX Iy):FnOk P w K mg base CX0 34 f fd ["row"] j8:=by
 refine F.ok xC (λvs H Q E h=>?_) (λcdv A outer s H vs Q E hr h=>?_)
 ·obtain⟨a,ns,rfl,_⟩:=h;rfl
 ·obtain⟨a,ns,rfl,hA,ht,hn,k⟩:=h;have big:=sizeLine_eq;have hu:=hr.units
  refine⟨_,(ag (ao 1 xC (aq lG hr (aa (pv 0) ac)))
   (ag (aR (PW.pt (fB (aG (iJ (K:=K) rfl hu) (pv 1) (aP ac)) (fA (aG cT (bJ K (pv 1) (bC bA ad)) ad))))
     (aj (aC (eV (own:=["value"]) (fr:=[]) (js:=[]) (by walk_at "comp_ok") rfl (c9 (K:=K) rfl (pv 1)) (λ_ _ _ _=>(dG (i:=0) (show List.Nodup (["value"]:List Str)from by decide +kernel) rfl (Or.inl rfl))) (λ_ _ _ _=>(bC bA (pv 0))))))
     aS)
   (aj (aC (pv 1))))),?_⟩
  refine av ⟨_,rfl,a,ns,rfl,hA,ht,hn,λp H1 s1 hp e1=>?_⟩;have hsl:(ar ns).length=ns.length:=MI _;have done:cz (ar ns)=ar ns->Q (.ref p) H1:=λe=>k p H1 s1 hp (by rw[e1];show _=some (HO.lst ((cz (ar ns)).map V.int));rw[e])
  refine gY (λσ' H'=>σ'=[some (.ref a),some (.ref p)]/\Same H H'/\H' p=some (.lst ((ar ns).map V.int))/\cz (ar ns)=ar ns) ?_ ?_
  ·rintro σ' H' ⟨rfl,s2,e2,e3⟩;exact⟨_,rfl,k p H' s2 hp (by rw[e2];show _=some (HO.lst ((cz (ar ns)).map V.int));rw[e3])⟩
  intro rest;refine df ⟨_,rfl,MQ _,λq hq=>?_⟩;have s2:Same H (upd H1 q (.lst [])):=s1.then_new hq;have e2:upd H1 q (.lst []) p=some (.lst ((ar ns).map V.int)):=by rw[upd_ne (aN e1 hq)];exact e1
  refine⟨p,q,ar ns,[],rfl,rfl,SqL.of e2,SqL.of ap,_,rfl,?_⟩;refine cY (λhne=>?_) (λhe=>?_)
  ·obtain⟨r,x,er⟩:=(cO (ar ns)).resolve_left hne;refine⟨_,rfl,_,rfl,p,_,_,.int x,rfl,rfl,SqL.of e2,(by rw[er];exact A5 r x),_,_,rfl,rfl,_,rfl,?_⟩;have elast:al (ar ns)=x:=by rw[er,di]
   refine aH (λhx=>?_) (λhx=>?_)
   ·have hx':x<0:=hx;have epos:cz (ar ns)=(ar ns).map λx => -x:=by unfold cz;rw[elast,if_pos hx']
    refine aV ⟨_,rfl,p,rfl,⟨_,SqL.of e2⟩,fN (K:=K) (a:=p) (xs:=(ar ns).map V.int) (λi ys σ' H'=>∃(z0:Option V),σ'=[z0]/\ys=(((ar ns).take i).map λx => -x).map V.int/\upd H1 q (.lst [])=H') (by rw[MI,hsl];omega) ⟨none,rfl,rfl,rfl⟩ ?_ ?_ ?_⟩
    ·rintro i ys σ' H' _ ⟨z0,rfl,rfl,rfl⟩;exact⟨SqL.of e2,by rw[MI,MI,Nx];exact O7 _ _⟩
    ·rintro i x ys σ' H' hi ⟨z0,rfl,rfl,rfl⟩;rw[List.getElem?_map]at hi;cases e:(ar ns)[i]? with
     |none=>rw[e]at hi;cases hi
     |some c =>rw[e]at hi;obtain rfl:=Option.some.inj hi;refine⟨_,rfl,_,rfl,_,rfl,?_,rfl⟩;rw[Nu,e];simp
    ·rintro ys σ' H' p' ⟨z0,rfl,rfl,rfl⟩ hp';refine k p' _ (s2.then_new hp') (s2.free hp') ?_;rw[ap,MI,NP];show _=some (HO.lst ((cz (ar ns)).map V.int));rw[epos]
   ·exact rest _ _ ⟨rfl,s2,e2,by unfold cz;rw[elast,if_neg hx]⟩
  ·have he':ar ns=[]:=he;exact rest _ _ ⟨rfl,s2,e2,by rw[he'];rfl⟩
def wk:Sp:=λvs H Q _=>∃(a:Addr) (xs:Ex) (c:Int),vs=[.ref a,.int c]/\H a=some (.lst (xs.map V.int))/\xs.length<=1000000/\Bits 1000000 c/\AllB 1000000 xs/\mkL H Q (scL c xs)
theorem Fi(F:Fun K "scaled" "scaled" p8 f fd)(T:Txt K mg):FnOk P w K mg base CX0 1 f fd ["row","factor"] wk:=by
 refine F.ok Db (λvs H Q E h=>?_) (λcdv A outer s H vs Q E hr h=>?_)
 ·obtain⟨a,xs,c,rfl,_⟩:=h;rfl
 ·obtain⟨a,xs,c,rfl,hA,hn,bc,bx,k⟩:=h;have big:=sizeLine_eq;refine⟨_,(aj (aC (eV (own:=["value"]) (fr:=["factor"]) (js:=[1]) (by walk_at "comp_ok") rfl (c9 (K:=K) rfl (pv 0)) (λ_ _ _ _=>(dG (i:=0) (show List.Nodup (["value","factor"]:List Str)from by decide +kernel) rfl (Or.inl rfl))) (λ_ _ _ _=>(ai aI (pv 1) (pv 0)))))),?_⟩;refine aV ⟨_,rfl,a,rfl,⟨_,SqL.of hA⟩,fN (K:=K) (a:=a) (xs:=xs.map V.int) (λi ys σ' H'=>∃(z0:Option V),σ'=[z0,some (.int c)]/\ys=(scL c (xs.take i)).map V.int/\H=H') (by rw[MI];omega) ⟨none,rfl,rfl,rfl⟩ ?_ ?_ ?_⟩
  ·rintro i ys σ' H' _ ⟨z0,rfl,rfl,rfl⟩;exact⟨SqL.of hA,by rw[MI,b9,Nx];exact O7 _ _⟩
  ·rintro i x ys σ' H' hi ⟨z0,rfl,rfl,rfl⟩;obtain⟨y,_,rfl,hm,et⟩:=hI hi;refine⟨_,rfl,_,rfl,_,_,rfl,rfl,⟨bc,bx y hm⟩,_,rfl,?_,rfl⟩;rw[et];simp[scL]
  ·rintro ys σ' H' p ⟨z0,rfl,rfl,rfl⟩ hp;refine k p _ (Same.upd_new hp) hp ?_;rw[ap,MI,NP]
theorem Ar(ms:Ex):ic ms none (some (-1))=ms.take (ms.length-1):=by
 unfold ic;rw[HT.sIx_none,OG,N3]
 congr 1
 show(if(-1:Int)<0 then((-1:Int)+(ms.length:Int)).toNat else min (-1:Int).toNat ms.length)=_;rw[if_pos (by decide)];omega
theorem AK{ms:Ex}{n k:Nat}:cf (ms.take n) k=if k<n then cf ms k else 0:=by
 unfold cf;by_cases h:k<n
 ·rw[if_pos h];simp[List.getD,List.getElem?_take,h]
 ·rw[if_neg h];simp[List.getD,List.getElem?_take,h]
def wG:Sp:=λvs H Q _=>∃(a b:Addr) (rs ys:Ex) (p:Nat) (l:Int),vs=[.ref a,.ref b,.int p,.int l]/\H a=some (.lst (rs.map V.int))/\H b=some (.lst (ys.map V.int))/\rs.length=p+ys.length/\ys≠[]/\Bits 1000000 l/\AllB 1000000 ys/\mkL H Q (iO rs ys p l)
theorem Fy(F:Fun K "lowered" "lowered" qp f fd)(T:Txt K mg):FnOk P w K mg base CX0 1 f fd ["row","second","place","lead"] wG:=by
 refine F.ok mE (λvs H Q E h=>?_) (λcdv A outer s H vs Q E hr h=>?_)
 ·obtain⟨a,b,rs,ys,p,l,rfl,_⟩:=h;rfl
 ·obtain⟨a,b,rs,ys,p,l,rfl,hA,hB,hl,hy,bl,by',k⟩:=h;have hyl:=MR.mpr hy
  refine⟨_,(ag (ao 4 mE (mV (mi (K:=K) rfl) (pv 0) mT (mS (bC bA ad))))
   (ag (cw PassesOwn.never rfl (rO rfl T.enumerate_ (aa (mV (mi (K:=K) rfl) (pv 1) mT (mS (bC bA ad))) ac)) (gu rfl (bI (aT 5 mE) (bI (aT 6 mE) gt)))
     (aj (eT (ai bQ (bJ K (pv 4) (ai bH (pv 2) (pv 5))) (ai aI (pv 3) (pv 6))) (kJ (pv 4) (ai bH (pv 2) (pv 5)) kh))))
   (aj (aC (pv 4))))),?_⟩
  refine av ⟨_,rfl,_,rfl,_,rfl,a,_,rfl,SqL.of hA,λkp hkp=>?_⟩;rw[ug,Ar];have s1:=Same.upd_new (o:=.lst ((rs.take (rs.length-1)).map V.int)) hkp;have nkb:b≠kp:=aN hB hkp;refine⟨_,rfl,_,rfl,_,rfl,b,_,rfl,SqL.of (s1 _ _ hB),λp2 hp2=>?_⟩;rw[ug,Ar];have n2:kp≠p2:=aN ap hp2;generalize hH2:upd (upd H kp (.lst ((rs.take (rs.length-1)).map V.int))) p2 (.lst ((ys.take (ys.length-1)).map V.int))=H2;have hk2:H2 kp=some (.lst ((rs.take (rs.length-1)).map V.int)):=by rw[<- hH2,upd_ne n2,ap]
  have hq2:H2 p2=some (.lst ((ys.take (ys.length-1)).map V.int)):=by rw[<- hH2,ap]
  have s2:Same H H2:=by rw[<- hH2];exact s1.then_new hp2
  have lt:(rs.take (rs.length-1)).length=rs.length-1:=by rw[Nx];omega
  have lty:(ys.take (ys.length-1)).length=ys.length-1:=by rw[Nx];omega
  refine⟨p2,rfl,⟨_,SqL.of hq2⟩,tu (K:=K) (a:=p2) (xs:=(ys.take (ys.length-1)).map V.int) (λi σ' H'=>∃(acc:Ex) (z5 z6:Option V),σ'=[some (.ref a),some (.ref b),some (.int p),some (.int l),some (.ref kp),z5,z6]/\SameB kp H2 H'/\H' kp=some (.lst (acc.map V.int))/\acc.length=rs.length-1/\∀n,n<acc.length->cf acc n=cf rs n-(if p<=n/\n-p<i then l*cf ys (n-p)else 0))
   ⟨_,none,none,rfl,SameB.refl _ _,hk2,lt,λn hn=>by rw[AK,if_pos (by omega),if_neg (by omega)];omega⟩ ?_ ?_ ?_⟩
  ·rintro i σ' H' _ ⟨acc,z5,z6,rfl,sb,_⟩;exact SqL.of (sb _ _ (Ne.symm n2) hq2)
  ·rintro i x σ' H' q hi ⟨acc,z5,z6,rfl,sb,hpa,hal,hac⟩ hq
   have hil:i<ys.length-1:=by apply Classical.byContradiction;intro hn;rw[List.getElem?_eq_none_iff.mpr (by rw[MI,lty];omega)]at hi;cases hi
   rw[List.getElem?_map,iS (by rw[lty];exact hil),AK,if_pos hil]at hi;obtain rfl:=Option.some.inj hi;refine⟨q,_,rfl,SqT.of ap,rfl,_,_,rfl,_,_,rfl,rfl,?_⟩;have nqp:kp≠q:=aN hpa hq;have hpa':upd H' q (.tup [.int i,.int (cf ys i)]) kp=some (.lst (acc.map V.int)):=by rw[upd_ne nqp];exact hpa
   have hpi:p+i<acc.length:=by omega
   have epi:((p:Nat):Int)+((i:Nat):Int)=((p+i:Nat):Int):=by omega
   refine⟨_,rfl,_,rfl,_,rfl,_,_,rfl,rfl,kp,_,_,_,rfl,rfl,SqL.of hpa',jP epi hpi,_,rfl,_,rfl,_,_,rfl,rfl,⟨bl,by'.cf i⟩,_,_,rfl,rfl,_,rfl,_,rfl,_,rfl,_,_,rfl,rfl,kp,_,_,p+i,rfl,rfl,hpa',kY epi (by rw[MI];exact hpi),?_⟩;refine⟨acc.set (p+i) (cf acc (p+i)-l*cf ys i),_,_,rfl,(sb.then_new hq).then_upd,by rw[ap,nu],by rw[Ow];exact hal,λn hn=>?_⟩;rw[Ow]at hn;rw[ll hpi];by_cases e:n=p+i
   ·subst e;rw[if_pos rfl,hac _ hpi,if_neg (by omega),if_pos (by omega),Nat.add_sub_cancel_left];omega
   ·rw[if_neg e,hac n hn];by_cases h1:p<=n/\n-p<i
    ·rw[if_pos h1,if_pos (by omega)]
    ·rw[if_neg h1,if_neg (by omega)]
  ·rintro σ' H' ⟨acc,z5,z6,rfl,sb,hpa,hal,hac⟩;rw[MI,lty]at hac;refine⟨_,rfl,k kp H' (λb' o e=>sb b' o (aN e hkp) (s2 b' o e)) hkp ?_⟩;rw[hpa]
   have e:acc=iO rs ys p l:=by
    apply dO
    ·rw[hal,zh]
    ·intro n hn;have hn':n<rs.length-1:=by omega
     rw[hac n hn,n8,if_pos hn'];by_cases h1:p<=n
     ·have h2:p<=n/\n-p<ys.length-1:=⟨h1,by omega⟩;rw[if_pos h1,if_pos h2]
     ·have h2:¬(p<=n/\n-p<ys.length-1):=λz=>h1 z.1
      rw[if_neg h1,if_neg h2]
   rw[e]
theorem AllB.of_cf{k:Nat}{l:Ex}(h:∀n,Bits k (RM.cf l n)):AllB k l:=λx hx=>by
 obtain⟨i,hi,rfl⟩:=List.mem_iff_getElem.mp hx;have:=h i
 rwa [dP hi]at this
theorem uF{k:Nat}{x:Int}(h:Bits k x):Bits k ((x.natAbs:Nat):Int):=h.of_le (by rw[Nm];exact MJ _)
theorem sg_bits{x:Int}:Bits 1 (sg x):=by show(sg x).natAbs<2^1;unfold sg;split<;>(try split)<;>decide
theorem kg{k:Nat}{x y:Int}(h:Bits k y):Bits k (sg x*y):=h.of_le (by
 rw[MY];have h2:(sg x).natAbs<=1:=by unfold sg;split<;>(try split)<;>decide
 calc (sg x).natAbs*y.natAbs<=1*y.natAbs:=Nz _ h2
  _=y.natAbs:=Nat.one_mul _)
theorem An{xs ys:Ex}{b:Nat}(hx:AllB b xs)(hy:AllB b ys):∀i,AllB (b+i*(b+1)) (aQ xs ys i).1/\AllB (b+i*(b+1)) (aQ xs ys i).2
 |0=>by rw[Nat.zero_mul];exact⟨AllB.zeros,hx⟩
 |i+1=>by
  obtain⟨h1,h2⟩:=An hx hy i;have e:b+(i+1)*(b+1)=b+i*(b+1)+b+1:=by rw[Nat.succ_mul];omega
  have hs:Bits b (((RM.cf ys (ys.length-1)).natAbs:Nat):Int):=uF (hy.cf _);rw[e];show AllB _ (cV ys (aQ xs ys i) _).1/\AllB _ (cV ys (aQ xs ys i) _).2;unfold cV;dsimp only
  constructor
  ·intro x hx;rcases List.mem_or_eq_of_mem_set hx with h |rfl
   ·obtain⟨y,hy',rfl⟩:=MW.mp h;have:=hs.mul (h1 y hy');exact this.mono (by omega)
   ·exact(kg (h2.cf _)).mono (by omega)
  ·refine AllB.of_cf λn=>?_
   rw[n8];by_cases hn:n<(scL (((RM.cf ys (ys.length-1)).natAbs:Nat):Int) (aQ xs ys i).2).length-1
   ·rw[if_pos hn,bh]
    have m1:Bits (b+i*(b+1)+b) ((((RM.cf ys (ys.length-1)).natAbs:Nat):Int)*RM.cf (aQ xs ys i).2 n):=by have:=hs.mul (h2.cf n);rwa [Nat.add_comm]at this
    refine m1.sub ?_;by_cases hp:(xs.length+1-ys.length-1-i)<=n
    ·rw[if_pos hp];exact(kg (h2.cf _)).mul (hy.cf _)
    ·rw[if_neg hp];exact Bits.zero
   ·rw[if_neg hn];exact Bits.zero
theorem iY{k:Nat}{b:Int}(h:Bits k b):∀n,Bits (k*n+1) (b^n)
 |0=>by show((b^0:Int)).natAbs<2^(k*0+1);rw[NQ,Nat.mul_zero];decide
 |n+1=>by rw[Nf];have:=(iY h n).mul h;exact this.mono (by rw[Nat.mul_succ];omega)
def GV(H:Hp)(Q:VK)(xs ys:Ex):Prop:=∀(t q r:Addr) (H':Hp),Same H H'->H t=none->H q=none->H r=none->q≠r->q≠t->r≠t->H' t=some (.tup [.int (bY xs ys),.ref q,.ref r])->H' q=some (.lst ((bV xs ys).map V.int))->H' r=some (.lst ((aM xs ys).map V.int))->Q (.ref t) H'
def j9:Sp:=λvs H Q _=>∃(a b:Addr) (xs ys:Ex) (n:Nat),vs=[.ref a,.ref b]/\H a=some (.lst (xs.map V.int))/\H b=some (.lst (ys.map V.int))/\ys≠[]/\AllB n xs/\AllB n ys/\(xs.length+2)*(n+1)<=1000000/\ys.length<=1000000/\GV H Q xs ys
theorem uB{l:Ex}(h:l≠[]):atI (l.map V.int) (-1)=some (.int (cf l (l.length-1))):=by
 obtain⟨r,x,rfl⟩:=(cO l).resolve_left h;have e:(r++[x]).length-1=r.length:=by simp
 rw[e,jN,Nl];exact uD _ _
theorem FH(F:Fun K "divided" "divided" qx f fd)(T:Txt K mg)(iZ:Cal P w K mg base 1 "whole_sign" ["value"] j6 tQ tI)(eN:Cal P w K mg base 1 "degree" ["row"] jd nN nM)(Bk:Cal P w K mg base 1 "scaled" ["row","factor"] wk L6 Lh)(KC:Cal P w K mg base 1 "lowered" ["row","second","place","lead"] wG Mf Lr)(i7:Cal P w K mg base 1 "poly" ["row"] (j4 K) tT tK):FnOk P w K mg base CX0 2 f fd ["first","second"] j9:=by
 refine F.ok dR (λvs H Q E h=>?_) (λcdv A outer s H vs Q E hr h=>?_)
 ·obtain⟨a,b,xs,ys,n,rfl,_⟩:=h;rfl
 ·obtain⟨a,b,xs,ys,nb,rfl,hA,hB,hy,bx,by',hsz,hyn,k⟩:=h;have big:=sizeLine_eq;have hu:=hr.units;have hyl:=MR.mpr hy
  have hxl:xs.length<=1000000:=by have:=Oe (xs.length+2) (show 1<=nb+1 by omega);omega
  have bsz:∀i,i<=xs.length->nb+i*(nb+1)<=1000000:=λi hi=>by have h1:=Nz (nb+1) hi;rw[OB]at hsz;omega
  have hnb:nb<=1000000:=by have:=bsz 0 (MQ _);omega
  refine⟨_,(ag (aR (aG (iL (K:=K) rfl hu) (pv 1) (aP ac))
   (aj mP)
   aS)
   (ag (ao 2 dR (cF ij (by rfl) T.abs_ PyProof.Rows.boot_abs (aa (bJ K (pv 1) (bC bA ad)) ac)))
   (ag (ao 3 dR (aq iZ hr (aa (bJ K (pv 1) (bC bA ad)) ac)))
   (ag (ao 4 dR (ai bH (ai bQ (aq eN hr (aa (pv 0) ac)) (aq eN hr (aa (pv 1) ac))) ad))
   (ag (ao 5 dR ad)
   (ag (ao 6 dR (ai rV (aP (aa ad ac)) (pv 4)))
   (ag (ao 7 dR (gv (ly (K:=K) rfl) (by rfl) T.list_ PyProof.Rows.boot_list (aa (pv 0) ac)))
   (ag (cw PassesOwn.never rfl (yi rfl T.range_ (aa (ai bQ (pv 4) ad) (aa (bC bA ad) (aa (bC bA ad) ac)))) (aT 8 dR)
     (ag (ao 9 dR (ai aI (pv 3) (bJ K (pv 7) (bC bA ad))))
       (ag (ao 5 dR (ai aI (pv 5) (pv 2)))
       (ag (ao 6 dR (aq Bk hr (aa (pv 6) (aa (pv 2) ac))))
       (ag (eT (pv 9) (kJ (pv 6) (pv 8) kh))
       (aj (ao 7 dR (aq KC hr (aa (aq Bk hr (aa (pv 7) (aa (pv 2) ac))) (aa (pv 1) (aa (pv 8) (aa (pv 9) ac))))))))))))
   (aj (aC (cZ (aa (pv 5) (aa (pv 6) (aa (aq i7 hr (aa (pv 7) ac)) ac)))))))))))))),?_⟩
  refine bn ⟨_,rfl,MQ _,λp1 hp1=>?_⟩;have s1:Same H (upd H p1 (.lst [])):=Same.upd_new hp1;refine⟨b,p1,ys,[],rfl,rfl,SqL.of (s1 _ _ hB),SqL.of ap,_,rfl,aH (λh0=>absurd h0 hy) (λ_=>?_)⟩;generalize upd H p1 (.lst [])=H1 at s1 ⊢
  refine av ⟨_,rfl,_,rfl,b,_,_,_,rfl,rfl,SqL.of (s1 _ _ hB),uB hy,_,rfl,?_⟩;rw[lC];refine av ⟨_,rfl,_,rfl,b,_,_,_,rfl,rfl,SqL.of (s1 _ _ hB),uB hy,_,rfl,?_⟩;refine av ⟨_,rfl,a,_,rfl,s1 _ _ hA,_,rfl,b,_,rfl,s1 _ _ hB,_,_,rfl,rfl,_,_,rfl,rfl,?_⟩;dsimp only
  rw[MI,MI];have est:((xs.length:Int)-1-((ys.length:Int)-1)+1).toNat=aX xs ys:=by unfold aX;omega
  generalize hst:((xs.length:Int)-1-((ys.length:Int)-1)+1)=st at est ⊢
  refine av ?_;refine av ⟨by show 1<=sizeLine;decide,λp2 hp2=>⟨_,rfl,p2,_,_,rfl,rfl,ap,by omega,by omega,by show 1*_<=_;omega,λq hq=>?_⟩⟩;rw[est,rm];have s2:=s1.then_new (o:=.lst [V.int 0]) hp2;have s3:=s2.then_new (o:=.lst ((List.replicate (aX xs ys) (0:Int)).map V.int)) hq;have fq:H q=none:=s2.free hq;refine av ⟨_,rfl,a,_,rfl,.inl (SqL.of (s3 _ _ hA)),λr hr'=>?_⟩;have hq3:upd (upd H1 p2 (.lst [V.int 0])) q (.lst ((List.replicate (aX xs ys) (0:Int)).map V.int)) q=some (.lst ((List.replicate (aX xs ys) (0:Int)).map V.int)):=ap;have s4:=s3.then_new (o:=.lst (xs.map V.int)) hr';have fr:H r=none:=s3.free hr';have nqr:q≠r:=aN hq3 hr';generalize hH4:upd (upd (upd H1 p2 (.lst [V.int 0])) q (.lst ((List.replicate (aX xs ys) (0:Int)).map V.int))) r (.lst (xs.map V.int))=H4 at s4 ⊢
  have hq4:H4 q=some (.lst ((List.replicate (aX xs ys) (0:Int)).map V.int)):=by rw[<- hH4,upd_ne nqr];exact hq3
  have hr4:H4 r=some (.lst (xs.map V.int)):=by rw[<- hH4,ap]
  have hs:Bits nb (((cf ys (ys.length-1)).natAbs:Nat):Int):=uF (by'.cf _);refine⟨_,rfl,_,_,rfl,rfl,_,rfl,_,rfl,st-1,-1,rfl,by omega,?_⟩;have en:(st-1 - -1).toNat=aX xs ys:=by rw[<- est];congr 1;omega
  rw[en]
  refine zP (λi σ' H'=>∃(q r:Addr) (z8 z9:Option V),σ'=[some (.ref a),some (.ref b),some (.int ((cf ys (ys.length-1)).natAbs:Nat)),some (.int (sg (cf ys (ys.length-1)))),some (.int st),some (.int (((cf ys (ys.length-1)).natAbs:Int)^i)),some (.ref q),some (.ref r),z8,z9]/\Same H H'/\H q=none/\H r=none/\q≠r/\H' q=some (.lst ((aQ xs ys i).1.map V.int))/\H' r=some (.lst ((aQ xs ys i).2.map V.int)))
   ⟨q,r,none,none,rfl,s4,fq,fr,nqr,hq4,hr4⟩ ?_ ?_
  ·rintro i σ' H' hi ⟨q,r,z8,z9,rfl,sm,fq,fr,nqr,hq',hr'⟩;obtain⟨lq,lr,low,_⟩:=iW (a:=xs) hy i (Ov hi);obtain⟨bq,br⟩:=An bx by' i;have hix:i<xs.length:=by unfold aX at hi;omega
   have bi:=bsz i (Ov hix);have rne:(aQ xs ys i).2≠[]:=λz=>by rw[z]at lr;simp at lr;omega
   have ep:st-1+(i:Int) * -1=((xs.length+1-ys.length-1-i:Nat):Int):=by unfold aX at hi est;omega
   refine av ⟨_,rfl,_,rfl,_,rfl,r,_,_,_,rfl,rfl,SqL.of hr',uB rne,_,_,rfl,rfl,⟨sg_bits.mono,(br.cf _).mono bi⟩,?_⟩
   have bpow:Bits 1000000 (((cf ys (ys.length-1)).natAbs:Int)^i):=(iY hs i).mono (by
    have:=Nz i (show nb<=nb+1 by omega);rw[Oa (nb+1) i]at this;have h2:=bsz (i+1) hix;rw[Nat.succ_mul]at h2
    omega)
   refine av ⟨_,rfl,_,rfl,_,_,rfl,rfl,⟨bpow,hs.mono hnb⟩,?_⟩;dsimp only
   rw[<- Nf];refine av ⟨_,rfl,_,rfl,q,_,_,rfl,hq',by rw[lq];omega,hs.mono hnb,bq.mono bi,λq1 H2 sm2 hq1 eq1=>?_⟩;have fq1:H q1=none:=sm.free hq1;have sm2':=sm.trans sm2;have hpl:xs.length+1-ys.length-1-i<(scL ((cf ys (ys.length-1)).natAbs:Int) (aQ xs ys i).1).length:=by rw[b9,lq];unfold aX at hi;omega
   refine⟨_,rfl,_,rfl,_,rfl,q1,_,_,_,rfl,rfl,eq1,kY ep (by rw[MI];exact hpl),?_⟩;rw[nu];have sm3:Same H (upd H2 q1 (.lst (((scL ((cf ys (ys.length-1)).natAbs:Int) (aQ xs ys i).1).set (xs.length+1-ys.length-1-i) (sg (cf ys (ys.length-1))*cf (aQ xs ys i).2 ((aQ xs ys i).2.length-1))).map V.int))):=dI sm2' fq1;have nq1r:q1≠r:=λz=>by rw[z,hr']at hq1;cases hq1
   have hr3:upd H2 q1 (.lst (((scL ((cf ys (ys.length-1)).natAbs:Int) (aQ xs ys i).1).set (xs.length+1-ys.length-1-i) (sg (cf ys (ys.length-1))*cf (aQ xs ys i).2 ((aQ xs ys i).2.length-1))).map V.int)) r=some (.lst ((aQ xs ys i).2.map V.int)):=by rw[upd_ne (Ne.symm nq1r)];exact sm2 _ _ hr'
   have hq3:upd H2 q1 (.lst (((scL ((cf ys (ys.length-1)).natAbs:Int) (aQ xs ys i).1).set (xs.length+1-ys.length-1-i) (sg (cf ys (ys.length-1))*cf (aQ xs ys i).2 ((aQ xs ys i).2.length-1))).map V.int)) q1=some (.lst (((scL ((cf ys (ys.length-1)).natAbs:Int) (aQ xs ys i).1).set (xs.length+1-ys.length-1-i) (sg (cf ys (ys.length-1))*cf (aQ xs ys i).2 ((aQ xs ys i).2.length-1))).map V.int)):=ap;generalize upd H2 q1 (.lst (((scL ((cf ys (ys.length-1)).natAbs:Int) (aQ xs ys i).1).set (xs.length+1-ys.length-1-i) (sg (cf ys (ys.length-1))*cf (aQ xs ys i).2 ((aQ xs ys i).2.length-1))).map V.int))=H3 at sm3 hr3 hq3 ⊢
   refine⟨_,rfl,_,rfl,r,_,_,rfl,hr3,by rw[lr];omega,hs.mono hnb,br.mono bi,λr1 H5 sm5 hr1 er1=>?_⟩;have sm35:=sm3.trans sm5;refine⟨_,rfl,_,rfl,_,rfl,r1,b,_,_,(xs.length+1-ys.length-1-i),sg (cf ys (ys.length-1))*cf (aQ xs ys i).2 ((aQ xs ys i).2.length-1),?_,er1,sm35 _ _ hB,?_,hy,(kg (br.cf _)).mono bi,by'.mono hnb,λr2 H6 sm6 hr2 er2=>?_⟩
   ·rw[<- ep];rfl
   ·rw[b9,lr];unfold aX at hi;omega
   ·have nqr2:q1≠r2:=λz=>by rw[<- z,sm5 _ _ hq3]at hr2;cases hr2
    exact⟨q1,r2,_,_,rfl,sm35.trans sm6,fq1,sm35.free hr2,nqr2,sm6 _ _ (sm5 _ _ hq3),er2⟩
  ·rintro σ' H' ⟨q,r,z8,z9,rfl,sm,fq,fr,nqr,hq',hr'⟩;refine⟨_,rfl,_,rfl,_,rfl,r,_,rfl,SqL.of hr',λr1 H2 sm2 hr1 er1=>⟨by show 3<=sizeLine;decide,λt ht=>?_⟩⟩;have nqr1:q≠r1:=λz=>by rw[<- z,hq']at hr1;cases hr1
   have ntq:q≠t:=aN (sm2 _ _ hq') ht;have ntr:r1≠t:=aN er1 ht;refine k t q r1 _ ((sm.trans sm2).then_new ht) ((sm.trans sm2).free ht) fq (sm.free hr1) nqr1 ntq ntr ap ?_ ?_
   ·rw[upd_ne ntq];exact sm2 _ _ hq'
   ·rw[upd_ne ntr];exact er1
def Vp(C:Addr)(H:Hp)(vs:List V)(a r:Addr)(ns:Ex)(t b:Int):Prop:=vs=[.ref a,.ref r]/\H a=some (.lst (ns.map V.int))/\RA C H r t b/\ns.length<=20/\AllB 95000 ns/\Bits 5000 t/\Bits 5000 b
def VpI(H:Hp)(vs:List V)(a:Addr)(ns:Ex)(t b:Int):Prop:=vs=[.ref a,.int t,.int b]/\H a=some (.lst (ns.map V.int))/\ns.length<=20/\AllB 95000 ns/\Bits 5000 t/\Bits 5000 b
def wc:Sp:=λvs H Q _=>∃(a:Addr) (ns:Ex) (t b:Int),VpI H vs a ns t b/\∀(p:Addr) (H':Hp),Same H H'->H p=none->H' p=some (.tup [.int (hv t b ns),.int (b^ns.length)])->Q (.ref p) H'
theorem zH{t b:Int}(bt:Bits 5000 t)(bb:Bits 5000 b):∀{l:Ex},AllB 95000 l->Bits (95000+1+(5000+1)*l.length) (hv t b l)
 | [],_=>by refine Bits.mono (j:=1) ?_ (by omega);show(0:Int).natAbs<2^1;decide
 |v::l,h=>by
  rw[dz];have h1:=h v (MP ..);have h2:=zH bt bb (l:=l) λx hx=>h x (MK _ hx)
  have e1:=(h1.mul (iY bb (l.length+1))).mono (k:=95000+1+(5000+1)*l.length+5000) (by omega);have e2:=(bt.mul h2).mono (k:=95000+1+(5000+1)*l.length+5000) (by omega);exact(e1.add e2).mono (by rw[Nh];omega)
theorem E6(F:Fun K "value_parts" "value_parts" pO f fd)(T:Txt K mg):FnOk P w K mg base CX0 1 f fd ["row","top","bottom"] wc:=by
 refine F.ok je (λvs H Q E h=>?_) (λcdv A outer s H vs Q E hr h=>?_)
 ·obtain⟨a,ns,t,b,⟨rfl,_⟩,_⟩:=h;rfl
 ·obtain⟨a,ns,t,b,⟨rfl,hA,hn,hb,bt,bb⟩,k⟩:=h
  refine⟨_,(ag (ao 3 je ad)
   (ag (ao 4 je ad)
   (ag (cw PassesOwn.never rfl (rN rfl T.reversed_ (aa (pv 0) ac)) (aT 5 je)
     (ag (ao 4 je (ai aI (pv 4) (pv 2)))
       (aj (ao 3 je (ai bH (ai aI (pv 3) (pv 1)) (ai aI (pv 5) (pv 4)))))))
   (aj (aC (cZ (aa (pv 3) (aa (pv 4) ac)))))))),?_⟩
  have hl:(ns.map V.int).length=ns.length:=MI _;refine av ?_;refine av ?_;refine⟨_,rfl,a,_,rfl,SqL.of hA,tq (K:=K) (a:=a) (xs:=ns.map V.int) (λi σ' H'=>∃z:Option V,σ'=[some (.ref a),some (.int t),some (.int b),some (.int (hv t b (ns.drop (ns.length-i)))),some (.int (b^i)),z]/\H=H') ⟨none,?_,rfl⟩ ?_ ?_ ?_⟩
  ·rw[N3,List.drop_length,NQ];rfl
  ·rintro i σ' H' _ ⟨z,rfl,rfl⟩;exact SqL.of hA
  ·rintro i x σ' H' hi hx ⟨z,rfl,rfl⟩;rw[hl]at hi hx;obtain⟨c,ec,rfl,hc,_⟩:=hI hx;have hi':i<ns.length:=hi;have e1:ns.length-(i+1)=ns.length-1-i:=by omega
   have hd:=Ju t b (l:=ns) (n:=ns.length-1-i) (by omega);have e2:ns.length-1-i+1=ns.length-i:=by omega
   have e3:ns.length-(ns.length-1-i)=i+1:=by omega
   rw[e2,e3,AL ec]at hd;have bs:=zH bt bb (l:=ns.drop (ns.length-i)) λx hx=>hb x (OU hx)
   rw[NJ]at bs;have bp:=iY bb i;have bq:=iY bb (i+1);refine⟨_,rfl,_,rfl,_,_,rfl,rfl,⟨bp.mono (by omega),bb.mono⟩,?_⟩;refine⟨_,rfl,_,rfl,_,_,rfl,rfl,⟨bs.mono (by omega),bt.mono⟩,_,rfl,_,rfl,_,_,rfl,rfl,⟨(hb c hc).mono,?_⟩,_,_,rfl,rfl,?_⟩
   ·show Bits 1000000 (b^i*b);rw[<- Nf];exact bq.mono (by omega)
   refine⟨some (.int c),?_,rfl⟩;rw[e1,hd,Nf b i,NV,Nj t];rfl
  ·rintro σ' H' ⟨z,rfl,rfl⟩;rw[hl,Oo,OG];exact⟨_,rfl,_,rfl,by show 2<=sizeLine;decide,λp hp=>k p _ (Same.upd_new hp) hp ap⟩
def j7(C:Addr):Sp:=λvs H Q _=>∃(a r:Addr) (ns:Ex) (t b:Int),Vp C H vs a r ns t b/\∀H',Same H H'->Q (.int (sg (hv t b ns))) H'
theorem Fe(F:Fun K "sign_at" "sign_at" pX f fd)(T:Txt K mg)(R:RCI K mg C)(Kn:Cal P w K mg base 1 "value_parts" ["row","top","bottom"] wc LX Lb)(iZ:Cal P w K mg base 1 "whole_sign" ["value"] j6 tQ tI):FnOk P w K mg base CX0 2 f fd ["row","ratio"] (j7 C):=by
 refine F.ok Da (λvs H Q E h=>?_) (λcdv A outer s H vs Q E hr h=>?_)
 ·obtain⟨a,r,ns,t,b,⟨rfl,_⟩,_⟩:=h;rfl
 ·obtain⟨a,r,ns,t,b,hV,k⟩:=h;obtain⟨rfl,hA,⟨dx,hR⟩,hn,hbs,bt,bb⟩:=hV;refine⟨_,(aj (aC (aq iZ hr (aa (aU K (aq Kn hr (aa (pv 0) (aa (aL (K:=K) rfl (pv 1) rfl) (aa (aL (K:=K) rfl (pv 1) rfl) ac)))) ad) ac)))),?_⟩;refine⟨_,rfl,_,rfl,r,C,dx,_,_,rfl,hR,R.cl,R.nT,cI _ _,_,rfl,r,C,dx,_,_,rfl,hR,R.cl,R.nB,bF _ _,a,ns,t,b,⟨rfl,hA,hn,hbs,bt,bb⟩,λp H1 s1 hp e1=>?_⟩;exact⟨p,_,_,_,rfl,rfl,SqT.of e1,rfl,_,rfl,k H1 s1⟩
theorem b60:Bits 200 (10^60):=by show((10:Int)^60).natAbs<2^200;decide +kernel
theorem uC{xs:List V}{n:Int}(hn:n=xs.length)(h:0<n)(c:Int):∃v,v∈xs/\atI xs (c%n)=some v:=by
 have h1:=N6 c (Nk h);have h2:=N7 c h;obtain⟨j,hj⟩:=OJ h1;have hl:j<xs.length:=by omega
 refine⟨xs[j],ND hl,?_⟩;rw[hj];exact fQ (by simp[hl])
def Fit(one other:Ex):Prop:=Tr one/\Tr other/\∃n,AllB n one/\AllB n other/\(one.length+2)*(n+1)<=1000000/\other.length<=1000000
noncomputable def Run:Nat->Ex->Ex->Prop
 |0,one,_=>one=[]
 |n+1,one,other=>one=[]\/(Fit one other/\Run n other (nxt one other))
def y0(H:Hp)(Q:VK)(xss:List Ex):Prop:=∀(l:Addr) (ps:List Addr) (H':Hp),Same H H'->H l=none->(∀p∈ps,H p=none/\p≠l)->H' l=some (.lst (ps.map V.ref))->RwH H' ps xss->Q (.ref l) H'
theorem RwH.upd_ne{H:Hp}{ps:List Addr}{xss:List Ex}{a:Addr}{o:HO}(h:RwH H ps xss)(hn:∀p∈ps,p≠a):RwH (upd H a o) ps xss:=⟨h.1,λi p xs e1 e2=>by rw[L2.upd_ne (hn p (List.mem_of_getElem? e1))];exact h.2 i p xs e1 e2⟩
def wm:Sp:=λvs H Q _=>∃(a b:Addr) (xs ys:Ex) (n:Nat),vs=[.ref a,.ref b]/\H a=some (.lst (xs.map V.int))/\H b=some (.lst (ys.map V.int))/\Tr xs/\Tr ys/\xs.length<=1000/\ys.length<=1000/\n<=1000/\Run n (ar xs) (ar ys)/\y0 H Q (bj n (ar xs) (ar ys))
theorem Fk(F:Fun K "row_from" "row_from" qb f fd)(T:Txt K mg)(lG:Cal P w K mg base 33 "shrunk" ["row"] oU IX Iy)(i8:Cal P w K mg base 2 "divided" ["first","second"] j9 tV tM)(Ko:Cal P w K mg base 2 "taken" ["first","second"] (mf K cD) LY Lc):FnOk P w K mg base CX0 34 f fd ["first","second"] wm:=by
 refine F.ok iB (λvs H Q E h=>?_) (λcdv A outer s H vs Q E hr h=>?_)
 ·obtain⟨a,b,xs,ys,n,rfl,_⟩:=h;rfl
 ·obtain⟨a,b,xs,ys,n,rfl,hA,hB,xtr,ytr,hx,hy,hn,hrun,k⟩:=h;have big:=sizeLine_eq;have hu:=hr.units
  refine⟨_,(ag (ao 2 iB (aP ac))
   (ag (ao 3 iB (aq lG hr (aa (pv 0) ac)))
   (ag (ao 4 iB (aq lG hr (aa (pv 1) ac)))
   (ag (eR PassesOwn.never (aG (iJ (K:=K) rfl hu) (pv 3) (aP ac))
     (ag (dq (fC (pv 2) (aa (pv 3) ac)))
       (ag (ao 5 iB (EN (aG (iL (K:=K) rfl hu) (pv 4) (aP ac)) (aP ac) (aU K (aq i8 hr (aa (pv 3) (aa (pv 4) ac))) ad)))
       (ag (ao 3 iB (pv 4))
       (aj (ao 4 iB (aq lG hr (aa (aq Ko hr (aa (aP ac) (aa (pv 5) ac))) ac))))))))
   (aj (aC (pv 2))))))),?_⟩
  refine av ⟨MQ _,λl hl=>?_⟩;have s1:=Same.upd_new (o:=.lst []) hl;have hl1:upd H l (.lst []) l=some (.lst (([]:List Addr).map V.ref)):=ap;generalize upd H l (.lst [])=H1 at s1 hl1 ⊢
  refine av ⟨_,rfl,a,xs,rfl,s1 _ _ hA,xtr,by omega,λp1 H2 sm2 hp1 e1=>?_⟩;have s2:=s1.trans sm2;refine av ⟨_,rfl,b,ys,rfl,s2 _ _ hB,ytr,by omega,λp2 H3 sm3 hp2 e2=>?_⟩;have s3:=s2.trans sm3;have n1l:p1≠l:=λz=>by rw[z,hl1]at hp1;cases hp1
  have n2l:p2≠l:=λz=>by rw[z,sm2 _ _ hl1]at hp2;cases hp2
  generalize ar xs=one' at hrun k e1
  generalize ar ys=other at hrun k e2
  refine⟨λm σ' H'=>∃(po pt:Addr) (one other':Ex) (ps:List Addr) (acc:List Ex) (z5:Option V),σ'=[some (.ref a),some (.ref b),some (.ref l),some (.ref po),some (.ref pt),z5]/\Same H H'/\H' l=some (.lst (ps.map V.ref))/\RwH H' ps acc/\(∀p∈ps,H p=none/\p≠l)/\H' po=some (.lst (one.map V.int))/\H' pt=some (.lst (other'.map V.int))/\H po=none/\H pt=none/\po≠l/\pt≠l/\Run m one other'/\acc++bj m one other'=bj n one' other/\ps.length+m<=1000,
   ⟨_,p1,p2,one',other,[],[],none,rfl,s3,sm3 _ _ (sm2 _ _ hl1),RwH.nil,(λp hp=>nomatch hp),sm3 _ _ e1,e2,s1.free hp1,s2.free hp2,n1l,n2l,hrun,rfl,by show 0+n<=1000;omega⟩,?_⟩
  rintro m σ' H4 ⟨po,pt,one,other',ps,acc,z5,rfl,s4,hl4,hR4,hf4,ho4,ht4,fo,ft,nol,ntl,hrun4,hacc,hlen⟩;refine⟨_,rfl,MQ _,λq hq=>?_⟩;have t5:=Same.upd_new (o:=.lst []) hq;refine⟨po,q,one,[],rfl,rfl,SqL.of (t5 _ _ ho4),SqL.of ap,_,rfl,cY (λhne=>?_) (λhe=>?_)⟩
  rotate_left
  ·have he':one=[]:=he;subst he';rw[kz,Oj]at hacc;refine⟨_,rfl,k l ps _ (s4.trans t5) hl hf4 (t5 _ _ hl4) ?_⟩;rw[<- hacc];exact hR4.same t5
  have hne':one≠[]:=hne
  obtain⟨m1,rfl⟩:∃m1,m=m1+1:=by
   cases m with
   |zero=>exact absurd hrun4 hne'
   |succ m1=>exact⟨m1,rfl⟩
  obtain⟨⟨otr,ttr,nb,bo,bt,hsz,htl⟩,hrun5⟩:=(show one=[]\/(Fit one other'/\Run m1 other' (nxt one other'))from hrun4).resolve_left hne'
  have hacc5:(acc++[one])++bj m1 other' (nxt one other')=bj n one' other:=by rw[<- hacc];show _=acc++(if one=[]then[]else one::bj m1 other' (nxt one other'));rw[if_neg hne',Ox];rfl
  generalize hH5:upd H4 q (.lst [])=H5 at t5 ⊢
  refine⟨_,λ_ _ h=>h,?_⟩;have hl5:=t5 _ _ hl4;refine gd ⟨_,rfl,.inl ⟨rfl,_,SqL.of hl5⟩,_,rfl,l,_,_,rfl,rfl,hl5,by rw[MI];omega,?_⟩;rw[sF];have s6:Same H (upd H5 l (.lst ((ps++[po]).map V.ref))):=dI (s4.trans t5) hl;have hl6:upd H5 l (.lst ((ps++[po]).map V.ref)) l=some (.lst ((ps++[po]).map V.ref)):=ap
  have hf6:∀p∈ps++[po],H p=none/\p≠l:=λp hp=>by
   rcases Nb.mp hp with h |h
   ·exact hf4 p h
   ·rw[MO.mp h];exact⟨fo,nol⟩
  have hR6:RwH (upd H5 l (.lst ((ps++[po]).map V.ref))) (ps++[po]) (acc++[one]):=((hR4.same t5).snoc (t5 _ _ ho4)).upd_ne λp hp=>(hf6 p hp).2
  have ho6:upd H5 l (.lst ((ps++[po]).map V.ref)) po=some (.lst (one.map V.int)):=by rw[L2.upd_ne nol];exact t5 _ _ ho4
  have ht6:upd H5 l (.lst ((ps++[po]).map V.ref)) pt=some (.lst (other'.map V.int)):=by rw[L2.upd_ne ntl];exact t5 _ _ ht4
  generalize upd H5 l (.lst ((ps++[po]).map V.ref))=H6 at s6 hl6 hR6 ho6 ht6 ⊢
  refine mJ (λσ' H'=>∃pr:Addr,σ'=[some (.ref a),some (.ref b),some (.ref l),some (.ref po),some (.ref pt),some (.ref pr)]/\Same H6 H'/\H' pr=some (.lst ((rst one other').map V.int))) ?_ ?_
  case refine_2 =>
   intro rest;refine cS (DV ⟨_,rfl,MQ _,λq2 hq2=>?_⟩);have t7:=Same.upd_new (o:=.lst []) hq2;refine⟨pt,q2,other',[],rfl,rfl,SqL.of (t7 _ _ ht6),SqL.of ap,_,rfl,aH (λh0=>?_) (λh0=>?_)⟩
   ·have h0':other'=[]:=h0;refine⟨MQ _,λq3 hq3=>rest _ _ ⟨q3,rfl,t7.then_new hq3,?_⟩⟩;rw[ap];unfold rst;rw[if_pos h0'];rfl
   ·have h0':other'≠[]:=h0;refine⟨_,rfl,_,rfl,po,pt,one,other',nb,rfl,t7 _ _ ho6,t7 _ _ ht6,h0',bo,bt,hsz,htl,λt q' r H8 sm8 _ _ _ _ _ _ et _ er=>?_⟩;refine⟨t,_,_,_,rfl,rfl,SqT.of et,rfl,rest _ _ ⟨r,rfl,t7.trans sm8,?_⟩⟩;rw[er];unfold rst;rw[if_neg h0']
  rintro σ' H8 ⟨pr,rfl,t8,hr8⟩;refine av ⟨_,rfl,?_⟩;refine cS ⟨MQ _,λq hq=>?_⟩;have t9:=t8.then_new (o:=.lst []) hq
  have hrl:(rst one other').length<=1000000:=by
   unfold rst;split
   ·exact MQ _
   ·rename_i h0
    have:=gL (a:=one) h0;omega
  refine⟨_,rfl,q,pr,[],rst one other',rfl,SqL.of ap,SqL.of (by rw[L2.upd_ne (aN hr8 hq)];exact hr8),MQ _,hrl,λp9 H9 sm9 hp9 e9=>?_⟩;have hsl:(cD [] (rst one other')).length<=1000000:=MV (sJ _) (by unfold dM;rw[MI,N2];exact Nat.max_le.mpr ⟨MQ _,hrl⟩);refine⟨p9,_,rfl,e9,fh _,hsl,λp10 H10 sm10 hp10 e10=>?_⟩;have t10:Same H6 H10:=(t9.trans sm9).trans sm10;have f10:H6 p10=none:=(t9.trans sm9).free hp10;refine⟨m1,NY _,pt,p10,other',nxt one other',ps++[po],acc++[one],_,rfl,s6.trans t10,t10 _ _ hl6,hR6.same t10,hf6,t10 _ _ ht6,e10,ft,s6.free f10,ntl,(λz=>by rw[z,hl6]at f10;cases f10),hrun5,hacc5,by rw[MX];show ps.length+1+m1<=1000;omega⟩
def oW:Sp:=λvs H Q _=>∃(a:Addr) (xs:Ex) (n:Nat),vs=[.ref a]/\H a=some (.lst (xs.map V.int))/\Tr xs/\AllB 90000 xs/\xs.length<=1000/\n<=1000/\Run n (ar xs) (ar (slopeL xs))/\y0 H Q (bj n (ar xs) (ar (slopeL xs)))
theorem vz{xs:Ex}(h:Tr xs):Tr (slopeL xs):=by
 intro n hn;unfold slopeL at *
 rw[MI,N2]at hn;rw[lv,if_pos (by omega)];exact M0 (by omega) (h (n+1) (by omega))
theorem Fj(F:Fun K "row_of" "row_of" qa f fd)(T:Txt K mg)(Kt:Cal P w K mg base 34 "row_from" ["first","second"] wm L7 Li)(uO:Cal P w K mg base 1 "slope" ["row"] (sp1 slopeL) IW Ix):FnOk P w K mg base CX0 35 f fd ["polynomial"] oW:=by
 refine F.ok Dc (λvs H Q E h=>?_) (λcdv A outer s H vs Q E hr h=>?_)
 ·obtain⟨a,xs,n,rfl,_⟩:=h;rfl
 ·obtain⟨a,xs,n,rfl,hA,xtr,bx,hx,hn,hrun,k⟩:=h;refine⟨_,(aj (aC (aq Kt hr (aa (pv 0) (aa (aq uO hr (aa (pv 0) ac)) ac))))),?_⟩;refine aV ⟨_,rfl,_,rfl,a,xs,rfl,hA,by omega,bx.mono,λp H1 s1 hp e1=>?_⟩;have hsl:(slopeL xs).length<=1000:=by unfold slopeL;rw[MI,N2];omega
  exact⟨a,p,xs,slopeL xs,n,rfl,s1 _ _ hA,e1,xtr,vz xtr,hx,hsl,hn,hrun,λl ps H' sm hl hf e r=>k l ps H' (s1.trans sm) (s1.free hl) (λp hp=>⟨s1.free (hf p hp).1,(hf p hp).2⟩) e r⟩
noncomputable def sgs(t b:Int)(xss:List Ex):Ex:=xss.map λp=>sg (hv t b p)
def o7(C:Addr):Sp:=λvs H Q _=>∃(l r:Addr) (ps:List Addr) (xss:List Ex) (t b:Int),vs=[.ref l,.ref r]/\H l=some (.lst (ps.map V.ref))/\RwH H ps xss/\RA C H r t b/\Bits 5000 t/\Bits 5000 b/\(∀xs∈xss,xs.length<=20/\AllB 95000 xs)/\xss.length<=1000000/\∀H',Same H H'->Q (.int (chS (sgs t b xss)).1) H'
theorem CL(t b:Int)(xss:List Ex):∀s∈sgs t b xss,s.natAbs<=1:=λs hs=>by obtain⟨x,_,rfl⟩:=MW.mp hs;exact xr _
theorem CK{t b:Int}{xss:List Ex}{i:Nat}{xs:Ex}(h:xss[i]?=some xs):sgs t b (xss.take (i+1))=sgs t b (xss.take i)++[sg (hv t b xs)]:=by unfold sgs;rw[Nu,h,Nl];rfl
theorem yy{x:Int}(h:x.natAbs<=1):Bits 1000000 x:=Bits.mono (j:=1) (Ob h (by decide)) (by decide)
theorem FM(F:Fun K "changes" "changes" qC f fd)(T:Txt K mg)(R:RCI K mg C)(i6:Cal P w K mg base 2 "sign_at" ["row","ratio"] (j7 C) tR tJ):FnOk P w K mg base CX0 3 f fd ["row","ratio"] (o7 C):=by
 refine F.ok iD (λvs H Q E h=>?_) (λcdv A outer s H vs Q E hr h=>?_)
 ·obtain⟨l,r,ps,xss,t,b,rfl,_⟩:=h;rfl
 ·obtain⟨l,r,ps,xss,t,b,rfl,hL,hR,hRA,bt,bb,hb,hn,k⟩:=h
  refine⟨_,(ag (ao 2 iD ad)
   (ag (ao 3 iD ad)
   (ag (cw PassesOwn.never rfl (c9 (K:=K) rfl (pv 0)) (aT 4 iD)
     (ag (ao 5 iD (aq i6 hr (aa (pv 4) (aa (pv 1) ac))))
       (ag (aR (aG cT (ai aI (pv 5) (pv 3)) ad)
         (aj (ao 2 iD (ai bH (pv 2) ad)))
         aS)
       (aj (aR (aG iK (pv 5) ad)
         (aj (ao 3 iD (pv 5)))
         aS)))))
   (aj (aC (pv 2)))))),?_⟩
  have hpl:(ps.map V.ref).length=xss.length:=by rw[MI,hR.1]
  refine av ?_;refine av ?_;refine⟨_,rfl,l,rfl,⟨_,SqL.of hL⟩,iT (K:=K) (a:=l) (xs:=ps.map V.ref) (λi σ' H'=>∃(z4 z5:Option V),σ'=[some (.ref l),some (.ref r),some (.int (chS (sgs t b (xss.take i))).1),some (.int (chS (sgs t b (xss.take i))).2),z4,z5]/\Same H H') ⟨none,none,rfl,λ_ _ e=>e⟩ ?_ ?_ ?_⟩
  ·rintro i σ' H' _ ⟨z4,z5,rfl,sm⟩;exact SqL.of (sm _ _ hL)
  ·rintro i x σ' H1 hi ⟨z4,z5,rfl,s1⟩;obtain⟨p,xs,rfl,ep,ex,hp,hlt⟩:=hR.of_get hi;obtain⟨hx1,hx2⟩:=hb xs (List.mem_of_getElem? ex);show cN (fY _ (eh 5)) _ _ _ _;refine av ⟨_,rfl,_,rfl,p,r,xs,t,b,⟨rfl,s1 _ _ hp,hRA.same s1,hx1,hx2,bt.mono,bb.mono⟩,λH2 sm2=>?_⟩;have s2:=s1.trans sm2;obtain⟨c1,c2,c3⟩:=JO _ (CL t b (xss.take i));rw[CK ex,AG];have hs:=xr (hv t b xs);generalize sg (hv t b xs)=s at hs ⊢
   generalize chS (sgs t b (xss.take i))=z at c1 ⊢
   obtain⟨m,bf⟩:=z;dsimp only
   refine gY (λσ' H'=>σ'=[some (.ref l),some (.ref r),some (.int (if s*bf<0 then m+1 else m)),some (.int bf),some (.ref p),some (.int s)]/\H2=H') ?_ ?_
   case refine_2 =>
    intro rest;refine⟨_,rfl,_,rfl,_,_,rfl,rfl,⟨yy hs,yy c1⟩,_,_,rfl,rfl,_,rfl,aH (λh1=>?_) (λh1=>?_)⟩
    ·refine cS ⟨_,rfl,_,_,rfl,rfl,rest _ _ ⟨?_,rfl⟩⟩;rw[if_pos h1];rfl
    ·refine rest _ _ ⟨?_,rfl⟩;rw[if_neg h1];rfl
   rintro σ' H' ⟨rfl,rfl⟩;refine⟨_,rfl,_,_,rfl,rfl,_,rfl,cY (λh1=>?_) (λh1=>?_)⟩
   ·refine cS ⟨_,rfl,some (.ref p),some (.int s),?_,s2⟩;unfold chF;have h1':¬s=0:=h1;rw[if_neg h1'];rfl
   ·refine⟨some (.ref p),some (.int s),?_,s2⟩;unfold chF;have h1':s=0:=h1;rw[if_pos h1']
  ·rintro σ' H' ⟨z4,z5,rfl,sm⟩;rw[hpl,NP];exact⟨_,rfl,k H' sm⟩
def wP(C:Addr):Sp:=λvs H Q _=>∃(l r r2:Addr) (ps:List Addr) (xss:List Ex) (t b t2 b2:Int),vs=[.ref l,.ref r,.ref r2]/\H l=some (.lst (ps.map V.ref))/\RwH H ps xss/\RA C H r t b/\RA C H r2 t2 b2/\Bits 5000 t/\Bits 5000 b/\Bits 5000 t2/\Bits 5000 b2/\(∀xs∈xss,xs.length<=20/\AllB 95000 xs)/\xss.length<=1000000/\∀H',Same H H'->Q (.int ((chS (sgs t b xss)).1-(chS (sgs t2 b2 xss)).1)) H'
theorem FJ(F:Fun K "count" "count" qz f fd)(T:Txt K mg)(R:RCI K mg C)(jS:Cal P w K mg base 3 "changes" ["row","ratio"] (o7 C) Jc IF):FnOk P w K mg base CX0 4 f fd ["row","low","high"] (wP C):=by
 refine F.ok Di (λvs H Q E h=>?_) (λcdv A outer s H vs Q E hr h=>?_)
 ·obtain⟨l,r,r2,ps,xss,t,b,t2,b2,rfl,_⟩:=h;rfl
 ·obtain⟨l,r,r2,ps,xss,t,b,t2,b2,rfl,hL,hR,h1,h2,bt,bb,bt2,bb2,hb,hn,k⟩:=h;refine⟨_,(aj (aC (ai bQ (aq jS hr (aa (pv 0) (aa (pv 1) ac))) (aq jS hr (aa (pv 0) (aa (pv 2) ac)))))),?_⟩;refine aV ⟨_,rfl,_,rfl,l,r,ps,xss,t,b,rfl,hL,hR,h1,bt,bb,hb,hn,λH1 s1=>?_⟩;refine⟨_,rfl,_,rfl,l,r2,ps,xss,t2,b2,rfl,s1 _ _ hL,hR.same s1,h2.same s1,bt2,bb2,hb,hn,λH2 s2=>?_⟩;exact⟨_,_,rfl,rfl,k _ (s1.trans s2)⟩
theorem Bc(i:Int):(if i<0 then -i else i)=(i.natAbs:Int):=by split<;>omega
theorem J6{l:Ex}(h:l≠[]):atI (l.map V.int) (-1)=some (.int (al l)):=by obtain⟨r,x,rfl⟩:=(cO l).resolve_left h;rw[di,Nl];exact uD _ _
theorem JC{l:Ex}:ic l none (some (-1))=l.take (l.length-1):=by
 unfold ic;rw[HT.sIx_none]
 have e:HT.sIx l.length l.length (some (-1))=l.length-1:=by unfold HT.sIx;simp;omega
 rw[e,OG,N3]
def isB(os:Ex)(l k:Nat):Prop:=(∀x∈os,x.natAbs<=(2^k-1)*l)/\∀j,j<k->∃x∈os,(2^j-1)*l<x.natAbs
def o9(K:PySem.W.Frag):Sp:=λvs H Q _=>∃(a:Addr) (ns:Ex),vs=[.ref a]/\SqL K H a (ns.map V.int)/\Tr ns/\ns≠[]/\ns.length<=100000/\AllB 100000 ns /\
 ∀(k:Nat) (H':Hp),k<=100000->isB (ns.take (ns.length-1)) (al ns).natAbs k->Same H H'->Q (.int ((2^k:Nat):Int)) H'
theorem Ea{os:Ex}{F:Int->Prop}(h:∀g:Nat,(∀x∈os,x.natAbs<=g)->(g=0\/∃x∈os,x.natAbs=g)->F g) :
 (∀M,M∈os.map (λx=>(x.natAbs:Int))->(∀a∈os.map (λx=>(x.natAbs:Int)),a<=M)->F M)/\(os.map (λx=>(x.natAbs:Int))=[]->F 0):=by
 constructor
 ·intro M hM ha;obtain⟨x,hx,rfl⟩:=MW.mp hM;exact h x.natAbs (λy hy=>Int.ofNat_le.mp (ha _ (MW.mpr ⟨y,hy,rfl⟩))) (.inr ⟨x,hx,rfl⟩)
 ·intro e;have:os=[]:=List.map_eq_nil_iff.mp e;subst this;exact h 0 (λx hx=>nomatch hx) (.inl rfl)
theorem FO(F:Fun K "bound" "bound" qE f fd)(T:Txt K mg):FnOk P w K mg base CX0 1 f fd ["row"] (o9 K):=by
 refine F.ok kn (λvs H Q E h=>?_) (λcdv A outer s H vs Q E hr h=>?_)
 ·obtain⟨a,ns,rfl,_⟩:=h;rfl
 ·obtain⟨a,ns,rfl,hA,ht,hne,hn,hb,k⟩:=h;have big:=sizeLine_eq
  refine⟨_,(ag (ao 1 kn (cF ij (by rfl) T.abs_ PyProof.Rows.boot_abs (aa (bJ K (pv 0) (bC bA ad)) ac)))
   (ag (ao 2 kn (EK (K:=K) rfl rfl (by rfl) T.max_ (eV (own:=["value"]) (fr:=[]) (js:=[]) (by walk_at "comp_ok") rfl (c9 (K:=K) rfl (mV (mi (K:=K) rfl) (pv 0) mT (mS (bC bA ad)))) (λ_ _ _ _=>(dG (i:=0) (show List.Nodup (["value"]:List Str)from by decide +kernel) rfl (Or.inl rfl))) (λ_ _ _ _=>(cF ij (by rfl) T.abs_ PyProof.Rows.boot_abs (aa (pv 0) ac)))) ad))
   (ag (ao 3 kn ad)
   (ag (eR PassesOwn.never (aG cT (ai aI (ai bQ (pv 3) ad) (pv 1)) (pv 2))
     (aj (ao 3 kn (ai aI ad (pv 3)))))
   (aj (aC (pv 3))))))),?_⟩
  refine av ⟨_,rfl,_,rfl,a,_,_,_,rfl,rfl,hA,J6 hne,_,rfl,?_⟩;rw[Bc]
  have hl0:al ns≠0:=by obtain⟨r,x,rfl⟩:=(cO ns).resolve_left hne;rw[di];exact tr_snoc.mp ht
  generalize hL:(al ns).natAbs=L at k ⊢
  have hL1:1<=L:=by omega
  have bL:Bits 100000 (L:Int):=by obtain⟨r,x,rfl⟩:=(cO ns).resolve_left hne;rw[di]at hL;exact(hb x (by simp)).of_le (by omega)
  refine av ⟨_,rfl,_,rfl,_,rfl,a,_,rfl,hA,λp1 hp1=>?_⟩;rw[ug,JC];have s1:Same H (upd H p1 (.lst ((ns.take (ns.length-1)).map V.int))):=Same.upd_new hp1;have q1:upd H p1 (.lst ((ns.take (ns.length-1)).map V.int)) p1=some (.lst ((ns.take (ns.length-1)).map V.int)):=ap;generalize hO:ns.take (ns.length-1)=os at k s1 q1 ⊢
  generalize upd H p1 (.lst (os.map V.int))=H1 at s1 q1 ⊢
  have bO:AllB 100000 os:=λx hx=>hb x (O6 (hO ▸ hx))
  have lO:os.length<=100000:=by rw[<- hO,Nx];omega
  refine⟨p1,rfl,⟨_,SqL.of q1⟩,fN (K:=K) (a:=p1) (xs:=os.map V.int) (λi ys σ' H'=>∃(z0:Option V),σ'=[z0]/\ys=((os.take i).map λx=>(x.natAbs:Int)).map V.int/\H1=H') (by rw[MI];omega) ⟨none,rfl,rfl,rfl⟩ ?_ ?_ ?_⟩
  ·rintro i ys σ' H' _ ⟨z0,rfl,rfl,rfl⟩;exact⟨SqL.of q1,by rw[MI,MI,Nx];exact O7 _ _⟩
  ·rintro i x ys σ' H' hi ⟨z0,rfl,rfl,rfl⟩;rw[List.getElem?_map]at hi;cases e:os[i]? with
   |none=>rw[e]at hi;cases hi
   |some c =>rw[e]at hi;obtain rfl:=Option.some.inj hi;refine⟨_,rfl,_,rfl,_,rfl,?_,rfl⟩;rw[Nu,e,Bc];simp
  ·rintro ys σ' H' p ⟨z0,rfl,rfl,rfl⟩ hp;rw[MI,NP];have s2:Same H (upd H1 p (.lst ((os.map λx=>(x.natAbs:Int)).map V.int))):=s1.then_new hp;refine⟨p,_,rfl,SqL.of ap,?_⟩;generalize upd H1 p (.lst ((os.map λx=>(x.natAbs:Int)).map V.int))=H2 at s2 ⊢
   refine And.symm (Ea λg hg1 hg2=>?_)
   have bg:g<2^100000:=by
    rcases hg2 with rfl |⟨x,hx,rfl⟩
    ·exact N0 (by decide)
    ·exact bO x hx
   refine av ?_;refine⟨λm σ' H'=>∃k0:Nat,σ'=[some (.ref a),some (.int L),some (.int g),some (.int ((2^k0:Nat):Int))]/\H2=H'/\2*g+2-2^k0=m/\2^k0<=2*g+1/\∀j,j<k0->(2^j-1)*L<g,⟨_,0,rfl,rfl,rfl,by omega,λj hj=>absurd hj (OV _)⟩,?_⟩;rintro m σ' H' ⟨k0,rfl,rfl,rfl,h2,h3⟩
   have hk0:k0<=100000:=by
    have e:2^k0<2^100001:=by rw[On 2 100000];omega
    have:=(O8 (a:=2) (by decide)).mp e;omega
   have hp:1<=2^k0:=N0 (by decide)
   have bk:Bits 100002 ((2^k0:Nat):Int):=by show((2^k0:Nat):Int).natAbs<_;rw[Nm];exact(O8 (a:=2) (by decide)).mpr (by omega)
   have bk1:Bits 100002 (((2^k0:Nat):Int)-1):=bk.of_le (by omega)
   have cast:(((2^k0:Nat):Int)-1)*(L:Int)=(((2^k0-1)*L:Nat):Int):=by rw[NK,Int.natCast_sub hp];rfl
   refine⟨_,rfl,_,_,rfl,rfl,_,rfl,_,_,rfl,rfl,⟨bk1.mono,bL.mono⟩,_,rfl,_,_,rfl,rfl,_,rfl,?_⟩;rw[cast];refine aH (λhlt=>?_) (λhge=>?_)
   ·have hlt':(2^k0-1)*L<g:=by exact OH.mp hlt
    have h4:2^k0-1<g:=Ob (Nat.le_mul_of_pos_right _ hL1) hlt';refine⟨_,λ_ _ h=>h,?_⟩;refine⟨_,rfl,_,_,rfl,rfl,⟨Bits.mono (j:=2) (by show(2:Int).natAbs<2^2;decide) (by decide),bk.mono⟩,?_⟩;have e2:(2:Int)*((2^k0:Nat):Int)=((2^(k0+1):Nat):Int):=by rw[On];omega
    have e3:2^(k0+1)=2*2^k0:=by rw[On];omega
    refine⟨2*g+2-2^(k0+1),by omega,k0+1,by rw[<- e2];rfl,rfl,rfl,by omega,λj hj=>?_⟩;by_cases ej:j=k0
    ·subst ej;exact hlt'
    ·exact h3 j (by omega)
   ·have hge':¬(2^k0-1)*L<g:=λz=>hge (OH.mpr z)
    refine⟨_,rfl,k k0 H2 hk0 ⟨λx hx=>MV (hg1 x hx) (by omega),λj hj=>?_⟩ s2⟩;have h5:=h3 j hj;rcases hg2 with rfl |⟨x,hx,e⟩
    ·exact absurd h5 (OV _)
    ·exact⟨x,hx,by rw[e];exact h5⟩
def uM(one other:Ex):Prop:=Tr one/\Tr other/\∃n,AllB n one/\AllB n other/\(one.length+2)*(n+1)<=1000000/\other.length<=1000000
noncomputable def lD:Nat->Ex->Ex->Prop
 |0,_,other=>other=[]
 |n+1,one,other=>other=[]\/(uM one other/\lD n other (aD (aM one other)))
def wO:Sp:=λvs H Q _=>∃(a b:Addr) (xs ys:Ex) (n:Nat),vs=[.ref a,.ref b]/\H a=some (.lst (xs.map V.int))/\H b=some (.lst (ys.map V.int))/\Tr xs/\Tr ys/\xs.length<=1000/\ys.length<=1000/\lD n (aD xs) (aD ys)/\mkL H Q (cJ n (aD xs) (aD ys))
theorem FK(F:Fun K "common" "common" qA f fd)(T:Txt K mg)(gP:Cal P w K mg base 34 "plain" ["row"] j8 tU tL)(i8:Cal P w K mg base 2 "divided" ["first","second"] j9 tV tM):FnOk P w K mg base CX0 35 f fd ["first","second"] wO:=by
 refine F.ok jj (λvs H Q E h=>?_) (λcdv A outer s H vs Q E hr h=>?_)
 ·obtain⟨a,b,xs,ys,n,rfl,_⟩:=h;rfl
 ·obtain⟨a,b,xs,ys,n,rfl,hA,hB,xtr,ytr,hx,hy,hrun,k⟩:=h;have big:=sizeLine_eq;have hu:=hr.units
  refine⟨_,(ag (ao 2 jj (aq gP hr (aa (pv 0) ac)))
   (ag (ao 3 jj (aq gP hr (aa (pv 1) ac)))
   (ag (eR PassesOwn.never (aG (iJ (K:=K) rfl hu) (pv 3) (aP ac))
     (ag (ao 4 jj (aq gP hr (aa (aU K (aq i8 hr (aa (pv 2) (aa (pv 3) ac))) ad) ac)))
       (ag (ao 2 jj (pv 3))
       (aj (ao 3 jj (pv 4))))))
   (aj (aC (pv 2)))))),?_⟩
  refine av ⟨_,rfl,a,xs,rfl,hA,xtr,by omega,λp1 H1 s1 hp1 e1=>?_⟩;refine av ⟨_,rfl,b,ys,rfl,s1 _ _ hB,ytr,by omega,λp2 H2 sm2 hp2 e2=>?_⟩;have s2:=s1.trans sm2;generalize aD xs=one' at hrun k e1
  generalize aD ys=other' at hrun k e2
  refine⟨λm σ' H'=>∃(po pt:Addr) (one other:Ex) (z4:Option V),σ'=[some (.ref a),some (.ref b),some (.ref po),some (.ref pt),z4]/\Same H H'/\H' po=some (.lst (one.map V.int))/\H' pt=some (.lst (other.map V.int))/\H po=none/\H pt=none/\lD m one other/\cJ m one other=cJ n one' other',
   ⟨_,p1,p2,one',other',none,rfl,s2,sm2 _ _ e1,e2,hp1,s1.free hp2,hrun,rfl⟩,?_⟩
  rintro m σ' H3 ⟨po,pt,one,other,z4,rfl,s3,ho,ht,fo,ft,hrun3,hcom⟩;refine⟨_,rfl,MQ _,λq hq=>?_⟩;have t4:=Same.upd_new (o:=.lst []) hq;refine⟨pt,q,other,[],rfl,rfl,SqL.of (t4 _ _ ht),SqL.of ap,_,rfl,cY (λhne=>?_) (λhe=>?_)⟩
  rotate_left
  ·have he':other=[]:=he;subst he';rw[Ay]at hcom;refine⟨_,rfl,k po _ (s3.trans t4) fo ?_⟩;rw[<- hcom];exact t4 _ _ ho
  have hne':other≠[]:=hne
  obtain⟨m1,rfl⟩:∃m1,m=m1+1:=by
   cases m with
   |zero=>exact absurd hrun3 hne'
   |succ m1=>exact⟨m1,rfl⟩
  obtain⟨⟨otr,ttr,nb,bo,bt,hsz,htl⟩,hrun5⟩:=(show other=[]\/(uM one other/\lD m1 other (aD (aM one other)))from hrun3).resolve_left hne'
  have hcom5:cJ m1 other (aD (aM one other))=cJ n one' other':=by
   rw[<- hcom];show _=if other=[]then one else cJ m1 other (aD (aM one other))
   rw[if_neg hne']
  generalize hH5:upd H3 q (.lst [])=H5 at t4 ⊢
  refine⟨_,λ_ _ h=>h,?_⟩
  have hrl:(aM one other).length<=1000000:=by have:=gL (a:=one) hne';omega
  refine av ⟨_,rfl,_,rfl,po,pt,one,other,nb,rfl,t4 _ _ ho,t4 _ _ ht,hne',bo,bt,hsz,htl,λt q' r H8 sm8 _ _ _ _ _ _ et _ er=>?_⟩;refine⟨t,_,_,_,rfl,rfl,SqT.of et,rfl,r,_,rfl,er,fL _ _,hrl,λp9 H9 sm9 hp9 e9=>?_⟩;refine av ⟨_,rfl,?_⟩;refine⟨_,rfl,?_⟩;have t9:=(t4.trans sm8).trans sm9;exact⟨m1,NY _,pt,p9,other,_,_,rfl,s3.trans t9,t9 _ _ ht,e9,ft,s3.free ((t4.trans sm8).free hp9),hrun5,hcom5⟩
def wy:Sp:=λvs H Q _=>∃(a b:Addr) (xs ys:Ex) (n:Nat),vs=[.ref a,.ref b]/\H a=some (.lst (xs.map V.int))/\H b=some (.lst (ys.map V.int))/\Tr xs/\Tr ys/\AllB n xs/\AllB n ys/\(xs.length+2)*(n+1)<=1000000/\ys.length<=1000000/\ys≠[]/\aM xs ys=[]/\mkL H Q (aD (bV xs ys))
theorem Fq(F:Fun K "part" "part" qh f fd)(T:Txt K mg)(i8:Cal P w K mg base 2 "divided" ["first","second"] j9 tV tM)(gP:Cal P w K mg base 34 "plain" ["row"] j8 tU tL):FnOk P w K mg base CX0 35 f fd ["row","divisor"] wy:=by
 refine F.ok xD (λvs H Q E h=>?_) (λcdv A outer s H vs Q E hr h=>?_)
 ·obtain⟨a,b,xs,ys,n,rfl,_⟩:=h;rfl
 ·obtain⟨a,b,xs,ys,nb,rfl,hA,hB,xtr,ytr,bx,by',hsz,hyn,hy,hR,k⟩:=h;have hu:=hr.units
  refine⟨_,(ag (ao 2 xD (aq i8 hr (aa (pv 0) (aa (pv 1) ac))))
   (ag (aR (aG (iJ (K:=K) rfl hu) (aU K (pv 2) ad) (aP ac))
     (aj mP)
     aS)
   (aj (aC (aq gP hr (aa (aU K (pv 2) ad) ac)))))),?_⟩
  refine av ⟨_,rfl,_,rfl,a,b,xs,ys,nb,rfl,hA,hB,hy,bx,by',hsz,hyn,λt q r H1 sm1 ft fq fr _ _ _ et eq er=>?_⟩;refine bn ⟨_,rfl,t,_,_,_,rfl,rfl,SqT.of et,rfl,MQ _,λp hp=>?_⟩;have s2:=Same.upd_new (o:=.lst []) hp;refine⟨r,p,_,[],rfl,rfl,SqL.of (s2 _ _ er),SqL.of ap,_,rfl,cY (λh=>absurd hR h) (λh=>?_)⟩;have lq:=ue (a:=xs) hy
  have hxl:xs.length<=1000000:=by have:=Oe (xs.length+2) (show 1<=nb+1 by omega);omega
  have hN:aX xs ys<=xs.length+1:=by unfold aX;omega
  have hN2:aX xs ys<=xs.length:=by have:=MR.mpr hy;unfold aX;omega
  exact⟨_,rfl,t,_,_,_,rfl,rfl,SqT.of (s2 _ _ et),rfl,q,bV xs ys,rfl,s2 _ _ eq,uc hy xtr ytr,by omega,λp' H' sm' hp' e'=>k p' H' ((sm1.then_new hp).trans sm') ((sm1.then_new hp).free hp') e'⟩
theorem FQ(F:Fun K "added" "added" qG f fd)(T:Txt K mg)(i7:Cal P w K mg base 1 "poly" ["row"] (j4 K) tT tK)(lH:Cal P w K mg base 1 "coefficient" ["row","place"] (iw K) Jb IE):FnOk P w K mg base CX0 2 f fd ["first","second"] (mf K ik):=by
 refine F.ok xF (λvs H Q E h=>?_) (λcdv A outer s H vs Q E hr h=>?_)
 ·obtain⟨a,b,xs,ys,rfl,_⟩:=h;rfl
 ·obtain⟨a,b,xs,ys,rfl,hA,hB,hx,hy,k⟩:=h
  refine⟨_,(ag (ao 2 xF (cF (AR rfl) (by rfl) T.max_ PyProof.Rows.boot_max (aa (ca K T.len_ (aa (pv 0) ac)) (aa (ca K T.len_ (aa (pv 1) ac)) ac))))
   (aj (aC (aq i7 hr (aa (eV (own:=["k"]) (fr:=["first","second"]) (js:=[0,1]) (by walk_at "comp_ok") rfl (g6 rfl T.range_ (aa (pv 2) ac)) (λ_ _ _ _=>(dG (i:=0) (show List.Nodup (["k","first","second"]:List Str)from by decide +kernel) rfl (Or.inl rfl))) (λ_ _ _ _=>(ai bH (aq lH hr (aa (pv 1) (aa (pv 0) ac))) (aq lH hr (aa (pv 2) (aa (pv 0) ac)))))) ac))))),?_⟩
  refine⟨_,rfl,a,_,rfl,.inl hA,_,rfl,b,_,rfl,.inl hB,_,_,rfl,?_⟩;rw[zb,MI,MI];have hz:max xs.length ys.length<=sizeLine:=by have:=sizeLine_eq;omega
  refine⟨_,rfl,_,rfl,(mh hz).1,(mh hz).2,uk (lo:=0) (n:=max xs.length ys.length) (λi zs σ' H'=>∃z:Option V,σ'=[z,some (.ref a),some (.ref b)]/\zs=((List.range i).map λk=>V.int (cf xs k+cf ys k))/\H=H') hz ⟨none,rfl,rfl,rfl⟩ ?_ ?_ ?_⟩
  ·rintro i zs σ' H' _ ⟨z,rfl,rfl,rfl⟩;simp
  ·rintro i zs σ' H' hi ⟨z,rfl,rfl,rfl⟩;refine⟨_,rfl,_,rfl,a,xs,i,?_,hA,_,rfl,_,rfl,b,ys,i,?_,hB,_,_,rfl,rfl,_,rfl,?_,rfl⟩
   ·show[V.ref a,V.int (0+(i:Int))]=_;rw[Ny]
   ·show[V.ref b,V.int (0+(i:Int))]=_;rw[Ny]
   ·rw[List.range_succ,Nl];rfl
  ·rintro zs σ' H' p ⟨z,rfl,rfl,rfl⟩ hp;refine⟨p,(List.range (max xs.length ys.length)).map λk=>cf xs k+cf ys k,rfl,SqL.of ?_,?_⟩
   ·rw[ap,NR];rfl
   ·intro p' H' sm hp' e;refine k p' H' ((Same.upd_new hp).trans sm) ((Same.upd_new hp).free hp') ?_;rw[e,Kc]
def wC:Sp:=λvs H Q _=>∃(a b:Addr) (xs ys:Ex),vs=[.ref a,.ref b]/\H a=some (.lst (xs.map V.int))/\H b=some (.lst (ys.map V.int))/\xs.length<=1000000/\ys.length<=1000000/\AllB 1000000 xs/\AllB 1000000 ys/\mkL H Q (af xs ys)
theorem Fv(F:Fun K "multiplied" "multiplied" qk f fd)(T:Txt K mg):FnOk P w K mg base CX0 1 f fd ["first","second"] wC:=by
 refine F.ok jh (λvs H Q E h=>?_) (λcdv A outer s H vs Q E hr h=>?_)
 ·obtain⟨a,b,xs,ys,rfl,_⟩:=h;rfl
 ·obtain⟨a,b,xs,ys,rfl,hA,hB,hx,hy,bx,by',k⟩:=h;have hu:=hr.units
  refine⟨_,(ag (aR (PW.pt (fz (aG (iL (K:=K) rfl hu) (pv 0) (aP ac)) (iF (aG (iL (K:=K) rfl hu) (pv 1) (aP ac)))))
   (aj (aC (aP ac)))
   aS)
   (ag (ao 2 jh (ai rV (aP (aa ad ac)) (ai bQ (ai bH (ca K T.len_ (aa (pv 0) ac)) (ca K T.len_ (aa (pv 1) ac))) ad)))
   (ag (cw PassesOwn.never rfl (rO rfl T.enumerate_ (aa (pv 0) ac)) (gu rfl (bI (aT 3 jh) (bI (aT 4 jh) gt)))
     (aj (cw PassesOwn.never rfl (rO rfl T.enumerate_ (aa (pv 1) ac)) (gu rfl (bI (aT 5 jh) (bI (aT 6 jh) gt)))
       (aj (eT (ai bH (bJ K (pv 2) (ai bH (pv 3) (pv 5))) (ai aI (pv 4) (pv 6))) (kJ (pv 2) (ai bH (pv 3) (pv 5)) kh))))))
   (aj (aC (pv 2)))))),?_⟩
  refine⟨_,rfl,MQ _,λp1 hp1=>?_⟩;have s1:Same H (upd H p1 (.lst [])):=Same.upd_new hp1;refine⟨a,p1,xs,[],rfl,rfl,SqL.of (s1 _ _ hA),SqL.of ap,_,rfl,?_⟩;refine aH (λh0=>?_) (λh0=>?_)
  ·refine fm ⟨MQ _,λp2 hp2=>k p2 _ (s1.then_new hp2) (s1.free hp2) ?_⟩;rw[ap];unfold af;rw[if_pos (.inl h0)];rfl
  refine⟨_,rfl,MQ _,λp2 hp2=>?_⟩;have s2:Same H (upd (upd H p1 (.lst [])) p2 (.lst [])):=s1.then_new hp2;refine⟨b,p2,ys,[],rfl,rfl,SqL.of (s2 _ _ hB),SqL.of ap,_,rfl,?_⟩;refine aH (λh1=>?_) (λh1=>?_)
  ·refine⟨MQ _,λp3 hp3=>k p3 _ (s2.then_new hp3) (s2.free hp3) ?_⟩;rw[ap];unfold af;rw[if_pos (.inr h1)];rfl
  generalize upd (upd H p1 (.lst [])) p2 (.lst [])=H2 at s2 ⊢
  obtain⟨la,ea⟩:∃la,xs.length=la+1:=⟨xs.length-1,by have:=MR.mpr h0;omega⟩;obtain⟨lb,eb⟩:∃lb,ys.length=lb+1:=⟨ys.length-1,by have:=MR.mpr h1;omega⟩;refine⟨(by show 1<=sizeLine;decide),λp3 hp3=>?_⟩;have s3:=s2.then_new (o:=.lst [V.int 0]) hp3;have big:=sizeLine_eq;refine⟨_,rfl,a,_,rfl,.inl (SqL.of (s3 _ _ hA)),_,rfl,b,_,rfl,.inl (SqL.of (s3 _ _ hB)),_,_,rfl,rfl,_,_,rfl,rfl,p3,_,_,rfl,rfl,ap,?_,?_,?_,λp hp=>?_⟩
  ·rw[MI,MI];omega
  ·rw[MI,MI];omega
  ·rw[MI,MI];show 1*_<=_;omega
  have en:(((xs.map V.int).length:Int)+((ys.map V.int).length:Int)-1).toNat=la+lb+1:=by rw[MI,MI];omega
  rw[en,rm];have s4:=s3.then_new (o:=.lst ((List.replicate (la+lb+1) (0:Int)).map V.int)) hp;have npa:a≠p:=s3.ne hA hp;have npb:b≠p:=s3.ne hB hp;generalize hH4:upd (upd H2 p3 (.lst [V.int 0])) p (.lst ((List.replicate (la+lb+1) (0:Int)).map V.int))=H4 at s4 ⊢
  have hp4:H4 p=some (.lst ((List.replicate (la+lb+1) (0:Int)).map V.int)):=by rw[<- hH4,ap]
  refine⟨_,rfl,a,rfl,⟨_,SqL.of (s4 _ _ hA)⟩,tu (K:=K) (a:=a) (xs:=xs.map V.int) (λj σ' H'=>∃(acc:Ex) (z3 z4 z5 z6:Option V),σ'=[some (.ref a),some (.ref b),some (.ref p),z3,z4,z5,z6]/\SameB p H4 H'/\H' p=some (.lst (acc.map V.int))/\acc.length=la+lb+1/\∀n,n<acc.length->cf acc n=sm xs ys n j)
   ⟨List.replicate (la+lb+1) 0,none,none,none,none,rfl,SameB.refl _ _,hp4,by simp,λn _=>by rw[lu];rfl⟩ ?_ ?_ ?_⟩
  ·rintro j σ' H' _ ⟨acc,z3,z4,z5,z6,rfl,sb,_⟩;exact SqL.of (sb _ _ npa (s4 _ _ hA))
  ·rintro j x σ' H' q hj ⟨acc,z3,z4,z5,z6,rfl,sb,hpa,hal,hac⟩ hq;rw[List.getElem?_map]at hj
   have hjl:j<xs.length:=by apply Classical.byContradiction;intro hn;rw[List.getElem?_eq_none_iff.mpr (NZ hn)]at hj;cases hj
   rw[iS hjl]at hj;obtain rfl:=Option.some.inj hj;refine⟨q,_,rfl,SqT.of ap,rfl,_,_,rfl,_,_,rfl,rfl,?_⟩;have nqp:p≠q:=aN hpa hq;have sb1:SameB p H4 (upd H' q (.tup [.int j,.int (cf xs j)])):=sb.then_new hq
   refine⟨_,rfl,b,rfl,⟨_,SqL.of (sb1 _ _ npb (s4 _ _ hB))⟩,tu (K:=K) (a:=b) (xs:=ys.map V.int) (λi σ' H'=>∃(acc:Ex) (z5 z6:Option V),σ'=[some (.ref a),some (.ref b),some (.ref p),some (.int j),some (.int (cf xs j)),z5,z6]/\SameB p H4 H'/\H' p=some (.lst (acc.map V.int))/\acc.length=la+lb+1/\∀n,n<acc.length->cf acc n=sm xs ys n j+(if j<=n/\n-j<i then tm xs ys n j else 0))
    ⟨acc,z5,z6,rfl,sb1,by rw[upd_ne nqp];exact hpa,hal,yV hac⟩ ?_ ?_ ?_⟩
   ·rintro i σ' H' _ ⟨acc,z5,z6,rfl,sb,_⟩;exact SqL.of (sb _ _ npb (s4 _ _ hB))
   ·rintro i x σ' H' q hi ⟨acc,z5,z6,rfl,sb,hpa,hal,hac⟩ hq;rw[List.getElem?_map]at hi
    have hil:i<ys.length:=by apply Classical.byContradiction;intro hn;rw[List.getElem?_eq_none_iff.mpr (NZ hn)]at hi;cases hi
    rw[iS hil]at hi;obtain rfl:=Option.some.inj hi;refine⟨q,_,rfl,SqT.of ap,rfl,_,_,rfl,_,_,rfl,rfl,?_⟩;have nqp:p≠q:=aN hpa hq;have hpa':upd H' q (.tup [.int i,.int (cf ys i)]) p=some (.lst (acc.map V.int)):=by rw[upd_ne nqp];exact hpa
    have hji:j+i<acc.length:=by omega
    have eji:((j:Nat):Int)+((i:Nat):Int)=((j+i:Nat):Int):=by omega
    refine⟨_,rfl,_,rfl,_,rfl,_,_,rfl,rfl,p,_,_,_,rfl,rfl,SqL.of hpa',jP eji hji,_,rfl,_,rfl,_,_,rfl,rfl,⟨bx.cf j,by'.cf i⟩,_,_,rfl,rfl,_,rfl,_,rfl,_,rfl,_,_,rfl,rfl,p,_,_,j+i,rfl,rfl,hpa',kY eji (by rw[MI];exact hji),?_⟩;refine⟨acc.set (j+i) (cf acc (j+i)+cf xs j*cf ys i),_,_,rfl,(sb.then_new hq).then_upd,by rw[ap,nu],by rw[Ow];exact hal,yU hjl hil hji hac⟩
   ·rintro σ' H' ⟨acc,z5,z6,rfl,sb,hpa,hal,hac⟩;rw[MI]at hac;exact⟨acc,_,_,_,_,rfl,sb,hpa,hal,yW hac⟩
  ·rintro σ' H' ⟨acc,z3,z4,z5,z6,rfl,sb,hpa,hal,hac⟩;rw[MI]at hac;refine⟨_,rfl,k p H' (λb' o e=>sb b' o (s3.ne e hp) (s4 b' o e)) (s3.free hp) ?_⟩;rw[hpa]
   have e:acc=af xs ys:=by
    apply dO
    ·rw[hal];unfold af;rw[if_neg (by intro z;exact z.elim h0 h1),MI,N2];omega
    ·intro n _;rw[aJ,yX (by omega) hac]
   rw[e]
def oX(C:Addr):Sp:=λvs H Q _=>∃(p q:Addr) (t b u d:Int) (i j:Nat),vs=[.ref p,.ref q]/\RA C H p t b/\RA C H q u d/\Bits 100000 t/\Bits i b/\Bits 100000 u/\Bits j d/\i+j<=9000/\0<b/\0<d/\mkR C H Q (t*d+u*b) (b*d)
theorem Gm(F:Fun K "plus" "Ratio.plus" q8 f fd)(T:Txt K mg)(R:RCI K mg C)(cR:KCal P w K mg base 2 C "Ratio" ["self","top","bottom"] (dD C) gJ gH gK [.int 1]):FnOk P w K mg base CX0 4 f fd ["self","other"] (oX C):=by
 obtain⟨cM,cK,cH,c7,eK,eG⟩:=cR;refine F.ok Ds (λvs H Q E h=>?_) (λcdv A outer s H vs Q E hr h=>?_)
 ·obtain⟨p,q,t,b,u,d,i,j,rfl,_⟩:=h;rfl
 ·obtain⟨p,q,t,b,u,d,i,j,rfl,⟨dx,hp⟩,⟨dy,hq⟩,bt,bb,bu,bd,hij,hb,hd,k⟩:=h;have bb':Bits 1000000 b:=bb.mono (by omega);have bd':Bits 1000000 d:=bd.mono (by omega);refine⟨_,(aj (aC (dW cK cM (hr.mono) rfl cH c7 .nil bU (aa (ai bH (ai aI (aL (K:=K) rfl (pv 0) rfl) (aL (K:=K) rfl (pv 1) rfl)) (ai aI (aL (K:=K) rfl (pv 1) rfl) (aL (K:=K) rfl (pv 0) rfl))) (aa (ai aI (aL (K:=K) rfl (pv 0) rfl) (aL (K:=K) rfl (pv 1) rfl)) ac))))),?_⟩;refine⟨_,rfl,p,C,dx,_,_,rfl,hp,R.cl,R.nT,cI _ _,_,rfl,q,C,dy,_,_,rfl,hq,R.cl,R.nB,bF _ _,_,_,rfl,rfl,⟨bt.mono,bd'⟩,?_⟩;refine⟨_,rfl,q,C,dy,_,_,rfl,hq,R.cl,R.nT,cI _ _,_,rfl,p,C,dx,_,_,rfl,hp,R.cl,R.nB,bF _ _,_,_,rfl,rfl,⟨bu.mono,bb'⟩,_,_,rfl,rfl,?_⟩;refine⟨_,rfl,p,C,dx,_,_,rfl,hp,R.cl,R.nB,bF _ _,_,rfl,q,C,dy,_,_,rfl,hq,R.cl,R.nB,bF _ _,_,_,rfl,rfl,⟨bb',bd'⟩,?_⟩;exact fH (Nk (ML hb hd)) ((bb.mul bd).mono hij) k
def oZ(C:Addr):Sp:=λvs H Q _=>∃(p q:Addr) (t b u d:Int) (i j:Nat),vs=[.ref p,.ref q]/\RA C H p t b/\RA C H q u d/\Bits 100000 t/\Bits i b/\Bits 100000 u/\Bits j d/\i+j<=9000/\0<b/\0<d/\mkR C H Q (t*d-u*b) (b*d)
theorem Gn(F:Fun K "minus" "Ratio.minus" rc f fd)(T:Txt K mg)(R:RCI K mg C)(cR:KCal P w K mg base 2 C "Ratio" ["self","top","bottom"] (dD C) gJ gH gK [.int 1]):FnOk P w K mg base CX0 4 f fd ["self","other"] (oZ C):=by
 obtain⟨cM,cK,cH,c7,eK,eG⟩:=cR;refine F.ok Dt (λvs H Q E h=>?_) (λcdv A outer s H vs Q E hr h=>?_)
 ·obtain⟨p,q,t,b,u,d,i,j,rfl,_⟩:=h;rfl
 ·obtain⟨p,q,t,b,u,d,i,j,rfl,⟨dx,hp⟩,⟨dy,hq⟩,bt,bb,bu,bd,hij,hb,hd,k⟩:=h;have bb':Bits 1000000 b:=bb.mono (by omega);have bd':Bits 1000000 d:=bd.mono (by omega);refine⟨_,(aj (aC (dW cK cM (hr.mono) rfl cH c7 .nil bU (aa (ai bQ (ai aI (aL (K:=K) rfl (pv 0) rfl) (aL (K:=K) rfl (pv 1) rfl)) (ai aI (aL (K:=K) rfl (pv 1) rfl) (aL (K:=K) rfl (pv 0) rfl))) (aa (ai aI (aL (K:=K) rfl (pv 0) rfl) (aL (K:=K) rfl (pv 1) rfl)) ac))))),?_⟩;refine⟨_,rfl,p,C,dx,_,_,rfl,hp,R.cl,R.nT,cI _ _,_,rfl,q,C,dy,_,_,rfl,hq,R.cl,R.nB,bF _ _,_,_,rfl,rfl,⟨bt.mono,bd'⟩,?_⟩;refine⟨_,rfl,q,C,dy,_,_,rfl,hq,R.cl,R.nT,cI _ _,_,rfl,p,C,dx,_,_,rfl,hp,R.cl,R.nB,bF _ _,_,_,rfl,rfl,⟨bu.mono,bb'⟩,_,_,rfl,rfl,?_⟩;refine⟨_,rfl,p,C,dx,_,_,rfl,hp,R.cl,R.nB,bF _ _,_,rfl,q,C,dy,_,_,rfl,hq,R.cl,R.nB,bF _ _,_,_,rfl,rfl,⟨bb',bd'⟩,?_⟩;exact fH (Nk (ML hb hd)) ((bb.mul bd).mono hij) k
def j5(C:Addr):Sp:=λvs H Q _=>∃(p q:Addr) (t b u d:Int) (i j:Nat),vs=[.ref p,.ref q]/\RA C H p t b/\RA C H q u d/\Bits 100000 t/\Bits i b/\Bits 100000 u/\Bits j d/\i+j<=9000/\0<b/\0<d/\mkR C H Q (t*u) (b*d)
theorem Gk(F:Fun K "times" "Ratio.times" qZ f fd)(T:Txt K mg)(R:RCI K mg C)(cR:KCal P w K mg base 2 C "Ratio" ["self","top","bottom"] (dD C) gJ gH gK [.int 1]):FnOk P w K mg base CX0 4 f fd ["self","other"] (j5 C):=by
 obtain⟨cM,cK,cH,c7,eK,eG⟩:=cR;refine F.ok Dr (λvs H Q E h=>?_) (λcdv A outer s H vs Q E hr h=>?_)
 ·obtain⟨p,q,t,b,u,d,i,j,rfl,_⟩:=h;rfl
 ·obtain⟨p,q,t,b,u,d,i,j,rfl,⟨dx,hp⟩,⟨dy,hq⟩,bt,bb,bu,bd,hij,hb,hd,k⟩:=h;refine⟨_,(aj (aC (dW cK cM (hr.mono) rfl cH c7 .nil bU (aa (ai aI (aL (K:=K) rfl (pv 0) rfl) (aL (K:=K) rfl (pv 1) rfl)) (aa (ai aI (aL (K:=K) rfl (pv 0) rfl) (aL (K:=K) rfl (pv 1) rfl)) ac))))),?_⟩;refine⟨_,rfl,p,C,dx,_,_,rfl,hp,R.cl,R.nT,cI _ _,_,rfl,q,C,dy,_,_,rfl,hq,R.cl,R.nT,cI _ _,_,_,rfl,rfl,⟨bt.mono,bu.mono⟩,?_⟩;refine⟨_,rfl,p,C,dx,_,_,rfl,hp,R.cl,R.nB,bF _ _,_,rfl,q,C,dy,_,_,rfl,hq,R.cl,R.nB,bF _ _,_,_,rfl,rfl,⟨bb.mono (by omega),bd.mono (by omega)⟩,?_⟩;exact fH (Nk (ML hb hd)) ((bb.mul bd).mono hij) k
theorem Ak{l:Ex}{i:Nat}{c:Int}(hi:i<l.length)(e:l[l.length-1-i]?=some c):l.drop (l.length-(i+1))=c::l.drop (l.length-i):=by
 have h:l.length-(i+1)=l.length-1-i:=by omega
 rw[h,Pc (by omega)];have h2:l.length-1-i+1=l.length-i:=by omega
 rw[h2];have h3:=List.getElem?_eq_getElem (l:=l) (i:=l.length-1-i) (by omega);rw[h3]at e;rw[Option.some.inj e]
theorem jr(n:Nat):(0:Int)<2^n:=NB (by decide)
theorem iH(n:Nat):(2:Int)^n=((2^n:Nat):Int):=by rw[OF];rfl
theorem kG{n k:Nat}(h:n<k):Bits k ((2:Int)^n):=by rw[iH];show(((2^n:Nat):Int)).natAbs<2^k;rw[Nm];exact(O8 (by decide)).mpr h
theorem fV:Bits 1000000 (2:Int):=Bits.mono (j:=2) (by show(2:Int).natAbs<2^2;decide) (by decide)
theorem rX:Bits 1000000 (1:Int):=Bits.mono (j:=1) (by show(1:Int).natAbs<2^1;decide) (by decide)
def wJ(C:Addr):Sp:=λvs H Q _=>∃(r wd:Addr) (r1 r2 w1 w2:Int) (kr kw:Nat),vs=[.ref r,.ref wd]/\RA C H r r1 r2/\RA C H wd w1 w2/\0<r2/\0<w1/\Bits kr r1/\Bits 100000 r2/\Bits 100000 w1/\Bits kw w2/\kr+kw<=100000/\∀n:Nat,n<=kr+kw->r1*w2<=w1*r2*2^n->(∀j:Nat,j<n->w1*r2*2^j<r1*w2)->Q (.int n) H
theorem FD(F:Fun K "halvings" "halvings" qt f fd)(T:Txt K mg)(R:RCI K mg C):FnOk P w K mg base CX0 1 f fd ["reach","width"] (wJ C):=by
 refine F.ok ji (λvs H Q E h=>?_) (λcdv A outer s H vs Q E hr h=>?_)
 ·obtain⟨r,wd,r1,r2,w1,w2,kr,kw,rfl,_⟩:=h;rfl
 ·obtain⟨r,wd,r1,r2,w1,w2,kr,kw,rfl,⟨dr,hR⟩,⟨dw,hW⟩,hr2,hw1,br1,br2,bw1,bw2,hkk,k⟩:=h
  refine⟨_,(ag (ao 2 ji (ai aI (aL (K:=K) rfl (pv 0) rfl) (aL (K:=K) rfl (pv 1) rfl)))
   (ag (ao 3 ji (ai aI (aL (K:=K) rfl (pv 1) rfl) (aL (K:=K) rfl (pv 0) rfl)))
   (ag (ao 4 ji ad)
   (ag (eR PassesOwn.never (aG cQ (pv 2) (pv 3))
     (ag (ao 3 ji (ai aI ad (pv 3)))
       (aj (ao 4 ji (ai bH (pv 4) ad)))))
   (aj (aC (pv 4))))))),?_⟩
  refine av ⟨_,rfl,r,C,dr,_,_,rfl,hR,R.cl,R.nT,cI _ _,_,rfl,wd,C,dw,_,_,rfl,hW,R.cl,R.nB,bF _ _,_,_,rfl,rfl,⟨br1.mono (by omega),bw2.mono (by omega)⟩,?_⟩;refine av ⟨_,rfl,wd,C,dw,_,_,rfl,hW,R.cl,R.nT,cI _ _,_,rfl,r,C,dr,_,_,rfl,hR,R.cl,R.nB,bF _ _,_,_,rfl,rfl,⟨bw1.mono,br2.mono⟩,?_⟩;have bW:Bits (kr+kw) (r1*w2):=br1.mul bw2;have g0:0<w1*r2:=ML hw1 hr2;refine av ?_;dsimp only
  generalize r1*w2=W at *
  generalize w1*r2=g at *
  show cN _ _ _ _ _
  have b0:∀n:Nat,(∀j:Nat,j<n->g*2^j<W)->n<=kr+kw:=λn hn=>by
   rcases Nat.lt_or_ge (kr+kw) n with z |z
   ·have h1:=hn (kr+kw) z
    have h2:(2:Int)^(kr+kw)<=g*2^(kr+kw):=by have:=Np (show(1:Int)<=g by omega) (MN (jr (kr+kw)));omega
    have h3:W.natAbs<2^(kr+kw):=bW;have h5:(W.natAbs:Int)<((2^(kr+kw):Nat):Int):=OH.mpr h3;rw[<- iH]at h5;generalize (2:Int)^(kr+kw)=Y at *
    omega
   ·exact z
  refine⟨λm σ' H'=>∃n:Nat,σ'=[some (.ref r),some (.ref wd),some (.int W),some (.int (g*2^n)),some (.int n)]/\H=H'/\m=(W-g*2^n).toNat/\∀j:Nat,j<n->g*2^j<W,⟨_,0,by rw[NQ,Nt];rfl,rfl,rfl,λj hj=>absurd hj (OV _)⟩,?_⟩;rintro m σ' H' ⟨n,rfl,rfl,rfl,hj⟩;refine⟨_,rfl,_,rfl,_,_,rfl,rfl,_,rfl,aH (λhgt=>?_) (λhle=>?_)⟩
  ·have hgt':g*2^n<W:=hgt;have gp:0<g*2^n:=ML g0 (jr n);have bg:Bits (kr+kw) (g*2^n):=bW.of_le (by omega);refine⟨_,λ_ _ h=>h,?_⟩;have e2:2*(g*2^n)=g*2^(n+1):=by rw[Nf];grind
   refine av ⟨_,rfl,_,_,rfl,rfl,⟨fV,bg.mono (by omega)⟩,?_⟩;refine cS ⟨_,rfl,_,_,rfl,rfl,?_⟩;refine⟨(W-g*2^(n+1)).toNat,by rw[<- e2];omega,n+1,by rw[<- e2];rfl,rfl,rfl,λj h'=>?_⟩;by_cases ej:j=n
   ·subst ej;exact hgt'
   ·exact hj j (by omega)
  ·refine⟨_,rfl,k n (b0 n hj) ?_ hj⟩;have:¬g*2^n<W:=hle;omega
theorem gb{k:Nat}{t b:Int}(hb:b≠0)(h:Bits k t):Bits k (rt t b):=h.of_le (DC hb)
theorem gm{k:Nat}{t b:Int}(hb:b≠0)(h:Bits k b):Bits k (rb t b):=h.of_le (DX hb)
theorem mZ:¬(("plus":Str)="bottom")/\¬(("plus":Str)="top"):=⟨by decide +kernel,by decide +kernel⟩
theorem yF:¬(("minus":Str)="bottom")/\¬(("minus":Str)="top"):=⟨by decide +kernel,by decide +kernel⟩
theorem dX:¬(("times":Str)="bottom")/\¬(("times":Str)="top"):=⟨by decide +kernel,by decide +kernel⟩
def wS(C:Addr):Sp:=λvs H Q _=>∃(l r:Addr) (l1 l2 r1 r2 pl pc:Int) (i j n:Nat),vs=[.ref l,.ref r,.int pl,.int pc]/\RA C H l l1 l2/\RA C H r r1 r2/\0<l2/\0<r2/\0<pc/\Bits i l1/\Bits i l2/\Bits j r1/\Bits j r2/\Bits n pl/\Bits n pc/\i+(j+n)<=9000 /\
 ∀(x:Addr) (H':Hp) (x1 x2:Int),Same H H'->H x=none->RA C H' x x1 x2->0<x2->x1*(l2*r2*pc)=(l1*r2*pc+r1*l2*pl)*x2->Bits (i+(j+n)+1) x1->Bits (i+(j+n)+1) x2->Nat.gcd x1.natAbs x2.natAbs=1->Q (.ref x) H'
theorem FP(F:Fun K "along" "along" qF f fd)(T:Txt K mg)(R:RCI K mg C)(uX:MCal P w K mg base 4 C "plus" ["self","other"] (oX C) Jl IP)(i9:MCal P w K mg base 4 C "times" ["self","other"] (j5 C) tX tN)(cR:KCal P w K mg base 2 C "Ratio" ["self","top","bottom"] (dD C) gJ gH gK [.int 1]):FnOk P w K mg base CX0 5 f fd ["low","reach","place","pieces"] (wS C):=by
 obtain⟨uK,sk,uz⟩:=uX;obtain⟨fR,fE,fO⟩:=i9;obtain⟨cM,cK,cH,c7,eK,eG⟩:=cR;refine F.ok Dk (λvs H Q E h=>?_) (λcdv A outer s H vs Q E hr h=>?_)
 ·obtain⟨l,r,l1,l2,r1,r2,pl,pc,i,j,n,rfl,_⟩:=h;rfl
 ·obtain⟨l,r,l1,l2,r1,r2,pl,pc,i,j,n,rfl,hL,hR,hl2,hr2,hpc,bl1,bl2,br1,br2,bpl,bpc,hijn,k⟩:=h;refine⟨_,(aj (aC (du (pv 0) R.cl sk uK (hr.mono) uz .nil bU (aa (du (pv 1) R.cl fE fR (hr.mono) fO .nil bU (aa (dW cK cM (hr.mono) rfl cH c7 .nil bU (aa (pv 2) (aa (pv 3) ac))) ac)) ac)))),?_⟩;obtain⟨dl,hl⟩:=id hL;obtain⟨dr,hrr⟩:=id hR;have pc0:pc≠0:=Nk hpc;refine aV ⟨_,rfl,l,dl,_,rfl,hl,dN _ _ mZ.1 mZ.2,_,rfl,r,dr,_,rfl,hrr,dN _ _ dX.1 dX.2,_,rfl,_,rfl,fH pc0 (bpc.mono (by omega)) λxa H1 s1 ha hRa=>?_⟩;have a0:0<rb pl pc:=dS pc0;have ba1:Bits n (rt pl pc):=gb pc0 bpl;have ba2:Bits n (rb pl pc):=gm pc0 bpc;have ea:=gZ (t:=pl) pc0;generalize rt pl pc=a1 at *
  generalize rb pl pc=a2 at *
  refine⟨r,xa,r1,r2,a1,a2,j,n,rfl,hR.same s1,hRa,br1.mono (by omega),br2,ba1.mono (by omega),ba2,by omega,hr2,a0,λxc H2 s2 hc hRc=>?_⟩;have d0:r2*a2≠0:=Nk (ML hr2 a0);have c0:0<rb (r1*a1) (r2*a2):=dS d0;have bc1:Bits (j+n) (rt (r1*a1) (r2*a2)):=gb d0 (br1.mul ba1);have bc2:Bits (j+n) (rb (r1*a1) (r2*a2)):=gm d0 (br2.mul ba2);have ec:=gZ (t:=r1*a1) d0;generalize rt (r1*a1) (r2*a2)=c1 at *
  generalize rb (r1*a1) (r2*a2)=c2 at *
  have t2:=s1.trans s2;refine⟨l,xc,l1,l2,c1,c2,i,j+n,rfl,hL.same t2,hRc,bl1.mono (by omega),bl2,bc1.mono (by omega),bc2,hijn,hl2,c0,λxx H3 s3 hx hRx=>?_⟩;have x0:l2*c2≠0:=Nk (ML hl2 c0);refine k xx H3 _ _ (t2.trans s3) (t2.free hx) hRx (dS x0) (J9 a0 c0 ea ec (gZ x0)) ?_ ?_ (rD x0)
  ·refine(gb x0 ?_);exact Bits.add (bl1.mul bc2) ((bc1.mul bl2).mono (by omega))
  ·exact(gm x0 (bl2.mul bc2)).mono (by omega)
theorem G9{i j:Nat}{a b c:Int}{l:Ex}(hl:AllB i l)(ha:Bits j a)(hb:Bits j b)(hc:Bits (i+j) c):AllB (i+j+1) (mb a b c l):=AllB.of_cf λn=>by
 rw[iX];refine Bits.add ?_ ?_
 ·exact(ha.neg.mul (hl.cf n)).mono (by omega)
 ·split
  ·exact hc
  ·exact(hb.mul (hl.cf (n-1))).mono (by omega)
theorem vQ{kv j:Nat}{m s0 s1:Int}(hm:Bits j m)(h0:Bits j s0)(h1:Bits j s1):∀{l:Ex},AllB kv l->AllB (kv+(j+1)*l.length+1) (bT m s0 s1 l)
 | [],_=>AllB.nil
 |v::l,h=>by
  have ih:=vQ hm h0 h1 (l:=l) λx hx=>h x (MK _ hx)
  have hv:=h v (MP ..)
  have:=G9 (c:=v*m^l.length) ih h0.neg h1 ((hv.mul (iY hm l.length)).mono (by
   have:(j+1)*l.length=j*l.length+l.length:=by rw[OB,Nat.one_mul]
   omega))
  refine AllB.mono this ?_;rw[Nh,Nat.mul_add,Nat.mul_one];omega
theorem Cq{a b c:Int}{l:Ex}(hne:l≠[])(hT:Tr (mb a b c l)):ik (af l [-a,b]) (trim [c])=mb a b c l:=by
 refine lf (fh _) hT λk=>?_
 unfold ik;rw[gN,ie,gN,Ni,GM hne,iX,iX];rcases k with _ |k
 ·show _+0+c=_+c;omega
 ·rw[if_neg (by omega),if_neg (by omega)];show _+cf [] k=_;rw[cj];omega
theorem BS{m s0 s1:Int}(hs:0<s1){l:Ex}(hne:l≠[])(hl:Tr l):Tr (bT m s0 s1 l):=by
 have h1:=vP m s0 s1 l;have hlen:=jc m s0 s1 l;have hp:0<l.length:=MR.mpr hne;have h2:cf l (l.length-1)≠0:=hl _ (by omega);intro n hn;have:n=l.length-1:=by omega
 subst this;rw[h1];exact M0 h2 (Nk (NB hs))
theorem BY{l:Ex}(hl:Tr l){i:Nat}(h:i<l.length):Tr (l.drop i):=by
 intro n hn;rw[NJ]at hn
 have e:cf (l.drop i) n=cf l (i+n):=by unfold cf;simp[List.getD]
 rw[e];exact hl _ (by omega)
def we(C:Addr):Sp:=λvs H Q _=>∃(a l r:Addr) (ns:Ex) (l1 l2 r1 r2:Int),vs=[.ref a,.ref l,.ref r]/\H a=some (.lst (ns.map V.int))/\RA C H l l1 l2/\RA C H r r1 r2/\Tr ns/\ns≠[]/\ns.length<=12/\AllB 1000 ns/\0<l2/\0<r1/\0<r2/\Bits 1400 l1/\Bits 1400 l2/\Bits 2900 r1/\Bits 2900 r2 /\
 ∀m s0 s1:Int,0<m->s0*l2=l1*m->s1*r2=r1*m->0<s1->AllB 60000 (bT m s0 s1 ns)->mkL H Q (bT m s0 s1 ns)
theorem E9(F:Fun K "stretched" "stretched" pR f fd)(T:Txt K mg)(R:RCI K mg C)(uQ:Cal P w K mg base 2 "shared" ["row"] (oV K) IZ IA)(KM:Cal P w K mg base 2 "added" ["first","second"] (mf K ik) Mq LG)(Ky:Cal P w K mg base 1 "multiplied" ["first","second"] wC Mc Ln)(i7:Cal P w K mg base 1 "poly" ["row"] (j4 K) tT tK):FnOk P w K mg base CX0 3 f fd ["row","low","reach"] (we C):=by
 refine F.ok f7 (λvs H Q E h=>?_) (λcdv A outer s H vs Q E hr h=>?_)
 ·obtain⟨a,l,r,ns,l1,l2,r1,r2,rfl,_⟩:=h;rfl
 ·obtain⟨a,l,r,ns,l1,l2,r1,r2,rfl,hA,⟨dl,hL⟩,⟨dr,hR⟩,hT,hne,hln,hbn,hl2,hr1,hr2,bl1,bl2,br1,br2,k⟩:=h
  refine⟨_,(ag (ao 3 f7 (ai cG (ai aI (aL (K:=K) rfl (pv 1) rfl) (aL (K:=K) rfl (pv 2) rfl)) (aq uQ hr (aa (aP (aa (aL (K:=K) rfl (pv 1) rfl) (aa (aL (K:=K) rfl (pv 2) rfl) ac))) ac))))
   (ag (ao 4 f7 (ai aI (aL (K:=K) rfl (pv 1) rfl) (ai cG (pv 3) (aL (K:=K) rfl (pv 1) rfl))))
   (ag (ao 5 f7 (ai aI (aL (K:=K) rfl (pv 2) rfl) (ai cG (pv 3) (aL (K:=K) rfl (pv 2) rfl))))
   (ag (ao 6 f7 (aP ac))
   (ag (ao 7 f7 ad)
   (ag (cw PassesOwn.never rfl (rN rfl T.reversed_ (aa (pv 0) ac)) (aT 8 f7)
     (ag (ao 6 f7 (aq KM hr (aa (aq Ky hr (aa (pv 6) (aa (aP (aa (pv 4) (aa (pv 5) ac))) ac))) (aa (aq i7 hr (aa (aP (aa (ai aI (pv 8) (pv 7)) ac)) ac)) ac))))
       (aj (ao 7 f7 (ai aI (pv 7) (pv 3))))))
   (aj (aC (pv 6))))))))),?_⟩
  obtain⟨l',r',pl',pr',pg,el,er,em,e1,e2,pm⟩:=JY hl2 hr2 (g:=aB [l2,r2]) (by show Nat.gcd (Nat.gcd 0 l2.natAbs) r2.natAbs=_;rw[Nat.gcd_zero_left]);have bg:Bits 9000 ((aB [l2,r2]:Nat):Int):=Bits.mono (j:=1400) (bl2.of_le (by rw[Nm];exact Nat.le_of_dvd (by omega) (by show Nat.gcd (Nat.gcd 0 l2.natAbs) r2.natAbs∣_;rw[Nat.gcd_zero_left];exact Oc _ _))) (by decide)
  have bl':Bits 1400 l':=bl2.of_le (by
   rw[el,MY]
   exact O2 _ (by omega))
  have br':Bits 2900 r':=br2.of_le (by
   rw[er,MY]
   exact O2 _ (by omega))
  refine av ⟨_,rfl,l,C,dl,_,_,rfl,hL,R.cl,R.nB,bF _ _,_,rfl,r,C,dr,_,_,rfl,hR,R.cl,R.nB,bF _ _,_,_,rfl,rfl,⟨bl2.mono,br2.mono⟩,?_⟩;refine⟨_,rfl,l,C,dl,_,_,rfl,hL,R.cl,R.nB,bF _ _,_,rfl,r,C,dr,_,_,rfl,hR,R.cl,R.nB,bF _ _,by show 2<=sizeLine;decide,λp0 hp0=>?_⟩;have s0':=Same.upd_new (o:=.lst [V.int l2,V.int r2]) hp0;refine⟨p0,[l2,r2],rfl,SqL.of ap,_,_,rfl,rfl,⟨pg,bg⟩,?_⟩;generalize upd H p0 (.lst [V.int l2,V.int r2])=H0 at s0' ⊢
  dsimp only
  rw[em];refine av ⟨_,rfl,l,C,dl,_,_,rfl,s0' _ _ hL,R.cl,R.nT,cI _ _,_,rfl,_,rfl,l,C,dl,_,_,rfl,s0' _ _ hL,R.cl,R.nB,bF _ _,_,_,rfl,rfl,⟨hl2,bl2.mono⟩,?_⟩;dsimp only
  rw[e1];refine⟨_,_,rfl,rfl,⟨bl1.mono,br'.mono⟩,?_⟩;refine av ⟨_,rfl,r,C,dr,_,_,rfl,s0' _ _ hR,R.cl,R.nT,cI _ _,_,rfl,_,rfl,r,C,dr,_,_,rfl,s0' _ _ hR,R.cl,R.nB,bF _ _,_,_,rfl,rfl,⟨hr2,br2.mono⟩,?_⟩;dsimp only
  rw[e2];refine⟨_,_,rfl,rfl,⟨br1.mono,bl'.mono⟩,?_⟩;have q0:l1*r'*l2=l1*(l2*r'):=by grind
  have q1:r1*l'*r2=r1*(l2*r'):=by
   calc r1*l'*r2=r1*l'*(((aB [l2,r2]:Nat):Int)*r'):=by rw[<- er]
    _=r1*((((aB [l2,r2]:Nat):Int)*l')*r'):=by grind
    _=r1*(l2*r'):=by rw[<- el]
  have q2:0<r1*l':=ML hr1 pl';have bm:Bits 4300 (l2*r'):=bl2.mul br';have bs0:Bits 4300 (l1*r'):=bl1.mul br';have bs1:Bits 4300 (r1*l'):=br1.mul bl';dsimp only
  generalize l2*r'=m at *
  generalize l1*r'=s0 at *
  generalize r1*l'=s1 at *
  have sb:∀{l:Ex},AllB 1000 l->l.length<=12->AllB 60000 (bT m s0 s1 l):=λ{l} h hl=>(vQ bm bs0 bs1 h).mono (by omega)
  refine av ⟨MQ _,λp1 hp1=>?_⟩;have s1':=s0'.then_new (o:=.lst []) hp1;have h1:upd H0 p1 (.lst []) p1=some (.lst []):=ap;have f1:H p1=none:=s0'.free hp1;generalize upd H0 p1 (.lst [])=H1 at s1' h1 ⊢
  refine av ?_;have hl:(ns.map V.int).length=ns.length:=MI _;refine⟨_,rfl,a,_,rfl,SqL.of (s1' _ _ hA),tq (K:=K) (a:=a) (xs:=ns.map V.int) (λi σ' H'=>∃(p:Addr) (z:Option V),σ'=[some (.ref a),some (.ref l),some (.ref r),some (.int m),some (.int s0),some (.int s1),some (.ref p),some (.int (m^i)),z]/\Same H H'/\H p=none/\H' p=some (.lst ((bT m s0 s1 (ns.drop (ns.length-i))).map V.int))) ⟨p1,none,by rw[NQ];rfl,s1',f1,by rw[N3,List.drop_length];exact h1⟩ ?_ ?_ ?_⟩
  ·rintro i σ' H' _ ⟨p,z,rfl,sm,_⟩;exact SqL.of (sm _ _ hA)
  ·rintro i x σ' H2 hi hx ⟨p,z,rfl,s2,fp,e2'⟩;rw[hl]at hi hx;obtain⟨c,ec,rfl,hc,_⟩:=hI hx;have bc:=hbn c hc;have hd:=Ak hi ec;have len:(ns.drop (ns.length-i)).length=i:=by rw[NJ];omega
   have hbd:AllB 1000 (ns.drop (ns.length-i)):=λx hx=>hbn x (OU hx)
   have aF:=sb hbd (by omega);have lF:(bT m s0 s1 (ns.drop (ns.length-i))).length=i:=by rw[jc,len]
   have bP:Bits 60000 (m^i):=(iY bm i).mono (by omega)
   have eF:ik (af (bT m s0 s1 (ns.drop (ns.length-i))) [s0,s1]) (trim [c*m^i])=bT m s0 s1 (ns.drop (ns.length-(i+1))):=by
    have hT':Tr (bT m s0 s1 (ns.drop (ns.length-(i+1)))):=BS q2 (by rw[hd];simp) (BY hT (by omega));rw[hd]at hT' ⊢
    have hT2:Tr (mb (-s0) s1 (c*m^i) (bT m s0 s1 (ns.drop (ns.length-i)))):=by have:bT m s0 s1 (c::ns.drop (ns.length-i))=mb (-s0) s1 (c*m^(ns.drop (ns.length-i)).length) (bT m s0 s1 (ns.drop (ns.length-i))):=rfl;rw[this,len]at hT';exact hT'
    show _=mb (-s0) s1 (c*m^(ns.drop (ns.length-i)).length) (bT m s0 s1 (ns.drop (ns.length-i)));rw[len];by_cases hi0:i=0
    ·subst hi0;have e0:bT m s0 s1 (ns.drop (ns.length-0))=[]:=by rw[N3,List.drop_length];rfl
     rw[e0]at hT2 ⊢;refine lf (fh _) hT2 λk=>?_
     unfold ik;rw[gN,ie,aJ,gN,Ni];show 0+_=_;rw[Ny];rfl
    ·have hn':bT m s0 s1 (ns.drop (ns.length-i))≠[]:=λz=>by rw[z]at lF;exact hi0 lF.symm
     have:=Cq (a := -s0) (b:=s1) (c:=c*m^i) hn' hT2;rw[Int.neg_neg]at this;exact this
   show cN (fY _ (eh 6)) _ _ _ _
   have bs:AllB 4300 [s0,s1]:=λx hx=>by
    simp only[MM,OW,or_false]at hx;rcases hx with rfl |rfl
    ·exact bs0
    ·exact bs1
   generalize bT m s0 s1 (ns.drop (ns.length-i))=Fs at *
   refine av ⟨_,rfl,_,rfl,_,rfl,by show 2<=sizeLine;decide,λp3 hp3=>?_⟩;have s3:=s2.then_new (o:=.lst ([s0,s1].map V.int)) hp3;have e3:upd H2 p3 (.lst ([s0,s1].map V.int)) p=some (.lst (Fs.map V.int)):=(Same.upd_new hp3) _ _ e2';have h3:upd H2 p3 (.lst ([s0,s1].map V.int)) p3=some (.lst ([s0,s1].map V.int)):=ap;refine⟨p,p3,Fs,[s0,s1],rfl,e3,h3,by omega,by show 2<=1000000;decide,aF.mono,bs.mono,λp4 H4 s4 hp4 e4=>?_⟩;have t4:=s3.trans s4;refine⟨_,rfl,_,rfl,_,_,rfl,rfl,⟨bc.mono,bP.mono⟩,by show 1<=sizeLine;decide,λp5 hp5=>?_⟩;have s5:=t4.then_new (o:=.lst ([c*m^i].map V.int)) hp5;have e5:upd H4 p5 (.lst ([c*m^i].map V.int)) p4=some (.lst ((af Fs [s0,s1]).map V.int)):=(Same.upd_new hp5) _ _ e4;have h5:upd H4 p5 (.lst ([c*m^i].map V.int)) p5=some (.lst ([c*m^i].map V.int)):=ap;refine⟨p5,[c*m^i],rfl,SqL.of h5,λp6 H6 s6 hp6 e6=>?_⟩;have t6:=s5.trans s6;refine⟨p4,p6,af Fs [s0,s1],trim [c*m^i],rfl,SqL.of (s6 _ _ e5),SqL.of e6,?_,?_,λp7 H7 s7 hp7 e7=>?_⟩
   ·have:(af Fs [s0,s1]).length<=1000:=by
     unfold af;split
     ·exact MQ _
     ·rw[MI,N2];show _+2-1<=_;omega
    omega
   ·have:=sJ [c*m^i];have:(trim [c*m^i]).length<=1:=this;omega
   rw[eF]at e7;refine cS ⟨_,rfl,_,rfl,_,_,rfl,rfl,⟨bP.mono,bm.mono⟩,?_⟩;refine⟨p7,some (.int c),?_,t6.trans s7,t6.free hp7,e7⟩;rw[Nf];rfl
  ·rintro σ' H' ⟨p,z,rfl,sm,fp,e⟩;rw[hl,Oo,OG]at e;exact⟨_,rfl,k m s0 s1 pm q0 q1 q2 (sb hbn hln) p H' sm fp e⟩
def wg:Sp:=λvs H Q _=>∃(a:Addr) (ns:Ex),vs=[.ref a]/\H a=some (.lst (ns.map V.int))/\ns.length<=1000/\AllB 500000 ns/\mkL H Q (cu ns)
theorem Fb(F:Fun K "spread" "spread" pT f fd)(T:Txt K mg):FnOk P w K mg base CX0 1 f fd ["row"] wg:=by
 refine F.ok kj (λvs H Q E h=>?_) (λcdv A outer s H vs Q E hr h=>?_)
 ·obtain⟨a,ns,rfl,_⟩:=h;rfl
 ·obtain⟨a,ns,rfl,hA,hn,hb,k⟩:=h;have big:=sizeLine_eq
  refine⟨_,(ag (ao 1 kj (aP ac))
   (ag (ao 2 kj ad)
   (ag (cw PassesOwn.never rfl (rN rfl T.reversed_ (aa (pv 0) ac)) (aT 3 kj)
     (ag (dq (fC (pv 1) (aa (ai aI (pv 2) (pv 3)) ac)))
       (aj (ao 2 kj (ai aI ad (pv 2))))))
   (ag (dq (yl PySem.F.plainAttrs_list PySem.F.slot_list_reverse PySem.F.type_list_reverse GN (pv 1)))
   (aj (aC (pv 1))))))),?_⟩
  refine av ⟨MQ _,λp1 hp1=>?_⟩;have s1':=Same.upd_new (o:=.lst []) hp1;have h1:upd H p1 (.lst []) p1=some (.lst []):=ap;generalize upd H p1 (.lst [])=H1 at s1' h1 ⊢
  refine av ?_;have hl:(ns.map V.int).length=ns.length:=MI _;refine⟨_,rfl,a,_,rfl,SqL.of (s1' _ _ hA),tq (K:=K) (a:=a) (xs:=ns.map V.int) (λi σ' H'=>∃z:Option V,σ'=[some (.ref a),some (.ref p1),some (.int (2^i)),z]/\Same H H'/\H' p1=some (.lst ((cu (ns.drop (ns.length-i))).reverse.map V.int))) ⟨none,rfl,s1',by rw[N3,List.drop_length];exact h1⟩ ?_ ?_ ?_⟩
  ·rintro i σ' H' _ ⟨z,rfl,sm,_⟩;exact SqL.of (sm _ _ hA)
  ·rintro i x σ' H2 hi hx ⟨z,rfl,s2,h2⟩;rw[hl]at hi hx;obtain⟨c,ec,rfl,hc,_⟩:=hI hx;have hd:=Ak hi ec;have len:(ns.drop (ns.length-i)).length=i:=by rw[NJ];omega
   show cN (lT _) _ _ _ _;refine gd ⟨_,rfl,.inl ⟨rfl,_,SqL.of h2⟩,_,rfl,_,rfl,_,_,rfl,rfl,⟨(kG (n:=i) (k:=1001) (by omega)).mono,(hb c hc).mono⟩,p1,_,_,rfl,rfl,h2,by rw[MI,List.length_reverse,lY,len];omega,?_⟩;refine cS ⟨_,rfl,_,_,rfl,rfl,⟨fV,(kG (n:=i) (k:=1001) (by omega)).mono⟩,?_⟩;refine⟨some (.int c),?_,dI s2 hp1,?_⟩
   ·show[some (V.ref a),some (V.ref p1),some (V.int (2*2^i)),some (V.int c)]=_;rw[Nf,Nj]
   ·rw[ap,hd,Hc];show some (HO.lst (((cu (ns.drop (ns.length-i))).reverse++[2^i*c]).map V.int))=some (HO.lst ((2^(ns.drop (ns.length-i)).length*c::cu (ns.drop (ns.length-i))).reverse.map V.int));rw[List.reverse_cons,len]
  ·rintro σ' H2 ⟨z,rfl,s2,h2⟩;rw[hl,Oo,OG]at h2;dsimp only
   refine gd ⟨_,rfl,.inl ⟨rfl,_,SqL.of h2⟩,p1,_,rfl,rfl,h2,?_⟩;refine⟨_,rfl,k p1 _ (dI s2 hp1) hp1 ?_⟩;rw[ap,<- List.map_reverse,List.reverse_reverse]
noncomputable def dA(m:Ex)(j:Nat):Ex:=m.take (m.length-1-j)++suf (m.drop (m.length-1-j))
theorem rS:∀(i:Nat) (m:Ex),dH i m=m.take i++suf (m.drop i)
 |0,m=>by rw[List.take_zero,OG];rfl
 |i+1,[]=>rfl
 |i+1,c::m=>by show c::dH i m=c::(m.take i++suf (m.drop i));rw[rS i m]
theorem HX(m:Ex)(j:Nat):(dA m j).length=m.length:=by unfold dA;rw[MX,jb,<- MX,Pf]
theorem HV(m:Ex):dA m 0=m:=by
 unfold dA;rw[N3];cases hd:m.drop (m.length-1)with
 |nil =>have:m.length-1=m.length\/True:=.inr trivial;have h1:m.length<=m.length-1:=List.drop_eq_nil_iff.mp hd;have:m=[]:=Os (by omega);subst this;rfl
 |cons c r =>have hl:=congrArg List.length hd;rw[NJ,Nh]at hl;have:r=[]:=Os (by omega);subst this;show _++[c+0]=_;rw[NE,<- hd,Pf]
theorem HY(m:Ex){i:Nat}(h:i+1<=m.length):dA m (m.length-1-i)=dH i m:=by
 unfold dA;rw[rS];have:m.length-1-(m.length-1-i)=i:=by omega
 rw[this]
theorem HW(m:Ex){j:Nat}(h:j+2<=m.length):(dA m j).set (m.length-2-j) (cf (dA m j) (m.length-2-j)+cf (dA m j) (m.length-1-j))=dA m (j+1):=by
 have e1:m.length-1-(j+1)=m.length-2-j:=by omega
 have e2:m.length-1-j=m.length-2-j+1:=by omega
 have hk:m.length-2-j<m.length:=by omega
 unfold dA;rw[e1,e2];generalize m.length-2-j=k at hk e2
 have hd:m.drop k=m[k]::m.drop (k+1):=Pc hk;have ht:m.take (k+1)=m.take k++[m[k]]:=by rw[Nu,List.getElem?_eq_getElem hk];rfl
 rw[hd,ht];have lt:(m.take k).length=k:=by rw[Nx];omega
 have c1:cf (m.take k++[m[k]]++suf (m.drop (k+1))) k=m[k]:=by rw[Ox,lw (by omega),lt,Oo];rfl
 have c2:cf (m.take k++[m[k]]++suf (m.drop (k+1))) (k+1)=(suf (m.drop (k+1))).headD 0:=by
  rw[lw (by rw[MX,lt];exact MJ _),MX,lt];show cf _ (k+1-(k+1))=_;rw[Oo];cases suf (m.drop (k+1))with
  |nil=>rfl
  |cons _ _=>rfl
 rw[c1,c2];show _=m.take k++((m[k]+(suf (m.drop (k+1))).headD 0)::suf (m.drop (k+1)));rw[Ox,List.set_append_right _ _ (by omega),lt,Oo];rfl
theorem vN{M:Nat}:∀{l:Ex},(∀x∈l,x.natAbs<=M)->∀x∈suf l,x.natAbs<=l.length*M
 | [],_,x,hx=>nomatch hx
 |v::l,h,x,hx=>by
  have ih:=vN (l:=l) λx hx=>h x (MK _ hx)
  have hv:=h v (MP ..)
  have hh:((suf l).headD 0).natAbs<=l.length*M:=by
   cases hs:suf l with
   |nil=>show(0:Int).natAbs<=_;exact MQ _
   |cons g r=>exact ih g (by rw[hs];exact MP ..)
  rw[Nh,OB,Nat.one_mul];rcases MM.mp hx with e |e
  ·subst e;exact MV (Int.natAbs_add_le _ _) (MV (O4 hv hh) (Oi (Nat.add_comm _ _)))
  ·exact MV (ih x e) (Nat.le_add_right _ _)
theorem ER{i k:Nat}{m:Ex}(h:AllB i m)(hl:m.length<=16):AllB (i+4) (dH k m):=by
 rw[rS];refine AllB.app (λx hx=>(h x (O6 hx)).mono (by omega)) λx hx=>?_
 have h1:=vN (M:=2^i-1) (l:=m.drop k) (λy hy=>by have:y.natAbs<2^i:=h y (OU hy);omega) x hx;have h2:(m.drop k).length*(2^i-1)<=16*(2^i-1):=Nz _ (by rw[NJ];omega);have h3:0<2^i:=N0 (by decide);show x.natAbs<2^(i+4);have h4:2^(i+4)=2^i*16:=by rw[Nat.pow_add]
 omega
theorem yY{i:Nat}{m:Ex}(h:AllB i m)(hl:m.length<=16):∀n,AllB (i+4*n) (eY n m)
 |0=>h
 |n+1=>by have:=ER (k:=n) (yY h hl n) (by rw[nc];exact hl);exact this.mono (by omega)
theorem GU{i:Nat}{m:Ex}(h:AllB i m)(hl:m.length<=12):AllB (i+44) (kQ m):=(yY h (by omega) _).mono (by omega)
theorem v3{i:Nat}:∀{m:Ex},AllB i m->m.length<=12->AllB (i+13) (cu m)
 | [],_,_=>AllB.nil
 |v::m,h,hl=>by
  have ih:=v3 (m:=m) (λx hx=>h x (MK _ hx)) (by rw[Nh]at hl;omega);intro x hx;rcases MM.mp hx with e |e
  ·subst e;have:=(kG (n:=m.length) (k:=13) (by rw[Nh]at hl;omega)).mul (h v (MP ..));exact this.mono (by omega)
  ·exact ih x e
def wD:Sp:=λvs H Q _=>∃(a:Addr) (ns:Ex),vs=[.ref a]/\H a=some (.lst (ns.map V.int))/\1<=ns.length/\ns.length<=1000/\mkL H Q (kQ ns)
theorem pH(l:Ex)(k:Nat)(v:Int):(l.map V.int).set k (.int v)=(l.set k v).map V.int:=by rw[List.map_set]
theorem A6{l:Ex}{k:Nat}{j:Int}(e:j=(k:Int))(h:k<l.length):atI (l.map V.int) j=some (.int (cf l k)):=by subst e;refine fQ ?_;rw[List.getElem?_map,List.getElem?_eq_getElem h];show some (V.int l[k])=_;rw[AL (List.getElem?_eq_getElem h)]
theorem Fw(F:Fun K "moved" "moved" qm f fd)(T:Txt K mg)(eN:Cal P w K mg base 1 "degree" ["row"] jd nN nM):FnOk P w K mg base CX0 2 f fd ["row"] wD:=by
 refine F.ok mC (λvs H Q E h=>?_) (λcdv A outer s H vs Q E hr h=>?_)
 ·obtain⟨a,ns,rfl,_⟩:=h;rfl
 ·obtain⟨a,ns,rfl,hA,hn1,hn,k⟩:=h;have big:=sizeLine_eq
  refine⟨_,(ag (ao 1 mC (gv (ly (K:=K) rfl) (by rfl) T.list_ PyProof.Rows.boot_list (aa (pv 0) ac)))
   (ag (cw PassesOwn.never rfl (g6 rfl T.range_ (aa (aq eN hr (aa (pv 0) ac)) ac)) (aT 2 mC)
     (aj (cw PassesOwn.never rfl (yi rfl T.range_ (aa (ai bQ (aq eN hr (aa (pv 0) ac)) ad) (aa (ai bQ (pv 2) ad) (aa (bC bA ad) ac)))) (aT 3 mC)
       (aj (eT (ai bH (bJ K (pv 1) (pv 3)) (bJ K (pv 1) (ai bH (pv 3) ad))) (kJ (pv 1) (pv 3) kh))))))
   (aj (aC (pv 1))))),?_⟩
  refine av ⟨_,rfl,a,_,rfl,.inl (SqL.of hA),λp hp=>?_⟩;have s1':=Same.upd_new (o:=.lst (ns.map V.int)) hp;have h1:upd H p (.lst (ns.map V.int)) p=some (.lst (ns.map V.int)):=ap;generalize upd H p (.lst (ns.map V.int))=H1 at s1' h1 ⊢
  have hl:(ns.map V.int).length=ns.length:=MI _;have ed:((ns.map V.int).length:Int)-1=((ns.length-1:Nat):Int):=by rw[hl];omega
  refine⟨_,rfl,a,_,rfl,s1' _ _ hA,_,rfl,(by rw[ed];omega),(by rw[ed];omega),?_⟩;rw[ed];refine jJ (lo:=0) (n:=ns.length-1) (λi σ' H'=>∃z2 z3:Option V,σ'=[some (.ref a),some (.ref p),z2,z3]/\Same H H'/\H' p=some (.lst ((eY i ns).map V.int))) ⟨none,none,rfl,s1',h1⟩ ?_ ?_
  ·rintro i σ' H2 hi ⟨z2,z3,rfl,s2,h2⟩;have lm:(eY i ns).length=ns.length:=nc _ _;generalize hM:eY i ns=M at h2 lm
   obtain⟨r,er⟩:∃r,ns.length=r+2:=⟨ns.length-2,by omega⟩;have er1:ns.length-1=r+1:=by rw[er];rfl
   have er2:ns.length-2=r:=by rw[er];rfl
   have hr':r+2<=100000:=by rw[<- er];omega
   rw[er1]at hi;refine⟨_,rfl,a,_,rfl,s2 _ _ hA,_,_,rfl,rfl,_,rfl,_,_,rfl,rfl,_,rfl,(r:Int),(i:Int)-1,?_,⟨by omega,by omega,by omega,by omega⟩,?_⟩
   ·rw[ed,er1];have e1:((r+1:Nat):Int)-1=(r:Int):=by omega
    have e2:(0:Int)+(i:Int)-1=(i:Int)-1:=by omega
    dsimp only
    rw[e1,e2]
   have en:((r:Int)-((i:Int)-1)).toNat=r+1-i:=by omega
   rw[en];refine zP (λj σ' H'=>∃z3:Option V,σ'=[some (.ref a),some (.ref p),some (.int (0+(i:Int))),z3]/\Same H H'/\H' p=some (.lst ((dA M j).map V.int))) ⟨z3,rfl,s2,by rw[HV];exact h2⟩ ?_ ?_
   ·rintro j σ' H3 hj ⟨z3,rfl,s3,h3⟩;have hj':j<=r:=by omega
    have lh:(dA M j).length=r+2:=by rw[HX,lm,er]
    have hs:=HW M (j:=j) (by rw[lm,er];omega);rw[lm,er1,er2]at hs;have k1:(r:Int)+(j:Int) * -1=((r-j:Nat):Int):=by omega
    have k2:(r:Int)+(j:Int) * -1+1=((r+1-j:Nat):Int):=by omega
    refine⟨_,rfl,_,rfl,p,_,_,_,rfl,rfl,SqL.of h3,A6 k1 (by omega),_,rfl,_,rfl,_,_,rfl,rfl,p,_,_,_,rfl,rfl,SqL.of h3,A6 k2 (by omega),_,_,rfl,rfl,_,rfl,_,rfl,p,_,_,r-j,rfl,rfl,h3,?_,?_⟩
    ·exact kY k1 (by rw[MI];omega)
    refine⟨_,rfl,dI s3 hp,?_⟩;rw[ap,pH,hs]
   ·rintro σ' H3 ⟨z3,rfl,s3,h3⟩;refine⟨_,_,rfl,s3,?_⟩
    have:dA M (r+1-i)=eY (i+1) ns:=by rw[<- er1,<- lm,HY M (by rw[lm,er];omega),<- hM];rfl
    rw[<- this];exact h3
  ·rintro σ' H2 ⟨z2,z3,rfl,s2,h2⟩;exact⟨_,rfl,k p H2 s2 hp h2⟩
structure RootB(ns:Ex)(ε:Int)(up:Int->Int->Prop):Prop where
 e1:ε=1\/ε = -1
 r1:∀p c,0<p->p<=c->up p c->sg (hv p c ns) = -ε
 r2:∀p c,0<p->p<=c->¬up p c->sg (hv p c ns)=ε\/sg (hv p c ns)=0
 r3:∀p c p' c',0<p->p<=c->0<p'->p'<=c'->¬up p c->p*c'<p'*c->sg (hv p' c' ns)=ε
 sc:∀p c,0<c->(up (2*p) (2*c)↔up p c)
 top:¬up 1 1
theorem HQ(p c:Int)(l:Ex):sg (hv (2*p) (2*c) l)=sg (hv p c l):=by rw[nE];exact dQ (NB (by decide))
def wK:Sp:=λvs H Q _=>∃(a:Addr) (ns:Ex) (e:Int) (n:Nat) (ε:Int) (up:Int->Int->Prop),vs=[.ref a,.int e,.int n]/\H a=some (.lst (ns.map V.int))/\1<=ns.length/\ns.length<=12/\AllB 60000 ns/\n<=4000/\RootB ns ε up/\e=sg (hv 1 1 ns) /\
 ∀(p:Addr) (H':Hp) (pl:Nat),Same H H'->H p=none->H' p=some (.tup [.int pl,.int (2^n)])->pl<2^n->(pl=0\/up pl (2^n))->¬up ((pl:Int)+1) (2^n)->Q (.ref p) H'
theorem FE(F:Fun K "halved" "halved" qu f fd)(T:Txt K mg)(Kr:Cal P w K mg base 1 "spread" ["row"] wg L4 Lf)(iZ:Cal P w K mg base 1 "whole_sign" ["value"] j6 tQ tI)(Kz:Cal P w K mg base 2 "moved" ["row"] wD Md Lo):FnOk P w K mg base CX0 3 f fd ["row","end","steps"] wK:=by
 refine F.ok dF (λvs H Q E h=>?_) (λcdv A outer s H vs Q E hr h=>?_)
 ·obtain⟨a,ns,e,n,ε,up,rfl,_⟩:=h;rfl
 ·obtain⟨a,ns,e,n,ε,up,rfl,hA,h1n,hln,hbn,hn,hB,he,k⟩:=h
  refine⟨_,(ag (ao 3 dF ad)
   (ag (ao 4 dF ad)
   (ag (ao 5 dF (pv 1))
   (ag (ao 6 dF (pv 0))
   (ag (cw PassesOwn.never rfl (g6 rfl T.range_ (aa (pv 2) ac)) (aT 7 dF)
     (ag (ao 3 dF (ai aI ad (pv 3)))
       (ag (ao 4 dF (ai aI ad (pv 4)))
       (ag (ao 6 dF (aq Kr hr (aa (pv 6) ac)))
       (ag (ao 8 dF (aq iZ hr (aa (cF (JR (K:=K) rfl rfl) (by rfl) T.sum_ PyProof.Rows.boot_sum (aa (pv 6) ac)) ac)))
       (aj (aR (PW.pt (fB (aG iK (pv 8) ad) (fA (aG iK (pv 8) (pv 5)))))
         (ag (ao 3 dF (ai bH (pv 3) ad))
           (aj (ao 6 dF (aq Kz hr (aa (pv 6) ac)))))
         (aj (ao 5 dF (pv 8))))))))))
   (aj (aC (cZ (aa (pv 3) (aa (pv 4) ac)))))))))),?_⟩
  refine av ?_;refine av ?_;refine av ⟨_,rfl,?_⟩;refine av ⟨_,rfl,?_⟩;refine⟨_,rfl,n,rfl,by omega,by omega,jJ (lo:=0) (n:=n) (λi σ' H'=>∃(p:Addr) (pl:Nat) (L:Ex) (z7 z8:Option V),σ'=[some (.ref a),some (.int e),some (.int n),some (.int pl),some (.int (2^i)),some (.int (sg (hv ((pl:Int)+1) (2^i) ns))),some (.ref p),z7,z8]/\Same H H'/\H' p=some (.lst (L.map V.int))/\L.length=ns.length/\AllB (60000+60*i) L/\(∀p q:Int,2^i*hv p q L=hv (pl*q+p) (2^i*q) ns)/\pl<2^i/\(pl=0\/up pl (2^i))/\¬up ((pl:Int)+1) (2^i)) ⟨a,0,ns,none,none,by rw[he];rfl,Same.refl _,hA,rfl,hbn,λp q=>by rw[NQ,Ni,Ni];show _=hv (0*q+p) q ns;rw[Nn,Ny],by decide,.inl rfl,by rw[NQ];exact hB.top⟩ ?_ ?_⟩
  ·rintro i σ' H1 hi ⟨p,pl,L,z7,z8,rfl,s1,h1,lL,bL,hval,hpl,hup,hnup⟩;show cN (fY _ (eh 3)) _ _ _ _;have b2i:Bits 4002 ((2:Int)^i):=kG (by omega);have p2i:=jr i;have cpl:(pl:Int)<2^i:=by rw[iH];exact OH.mpr hpl
   have bpl:Bits 4002 (pl:Int):=b2i.of_le (by rw[iH];omega);refine av ⟨_,rfl,_,_,rfl,rfl,⟨fV,bpl.mono⟩,?_⟩;refine av ⟨_,rfl,_,_,rfl,rfl,⟨fV,b2i.mono⟩,?_⟩;refine av ⟨_,rfl,p,L,rfl,h1,by omega,bL.mono (by omega),λp2 H2 s2 hp2 e2=>?_⟩;have t2:=s1.trans s2;have lS:(cu L).length=ns.length:=by rw[lY,lL]
   have bS:AllB (60000+60*i+13) (cu L):=v3 bL (by omega);have e2i:(2:Int)*2^i=2^(i+1):=by rw[Nf,Nj]
   have vS:∀p q:Int,2^(i+1)*hv p q (cu L)=hv (((2*pl:Nat):Int)*q+p) (2^(i+1)*q) ns:=λp q=>by
    have h3:=hval p (2*q);rw[<- zE]at h3;have h4:(2:Int)^(i+1)*hv p q (cu L)=2^i*(2*hv p q (cu L)):=by rw[Nf];grind
    rw[h4,h3]
    have h5:(pl:Int)*(2*q)+p=((2*pl:Nat):Int)*q+p:=by
     have:((2*pl:Nat):Int)=2*(pl:Int):=by omega
     rw[this];grind
    have h6:(2:Int)^i*(2*q)=2^(i+1)*q:=by rw[Nf];grind
    rw[h5,h6]
   refine av ⟨_,rfl,p2,cu L,rfl,SqL.of e2,_,rfl,?_⟩;have p2i1:=jr (i+1)
   have ethere:sg (cu L).sum=sg (hv (((2*pl:Nat):Int)+1) (2^(i+1)) ns):=by have h3:=vS 1 1;rw[Nt,Nt]at h3;rw[<- zC,<- h3,dQ p2i1]
   have c2pl:(((2*pl:Nat):Int)+1)<=2^(i+1):=by rw[<- e2i];omega
   have hold:sg (hv ((pl:Int)+1) (2^i) ns)=sg (hv (2*((pl:Int)+1)) (2^(i+1)) ns):=by rw[<- e2i,HQ]
   have plc:(pl:Int)+1<=2^i:=by omega
   generalize hth:sg (cu L).sum=th at ethere
   show gT _ _ _ _ _ _;have epl:(2:Int)*(pl:Int)=((2*pl:Nat):Int):=by omega
   have n2i:2^(i+1)=2*2^i:=by rw[On,Oa]
   refine dm (λσ' H'=>σ'=[some (.ref a),some (.int e),some (.int n),some (.int (2*(pl:Int))),some (.int (2*2^i)),some (.int (sg (hv ((pl:Int)+1) (2^i) ns))),some (.ref p2),some (.int (0+(i:Int))),some (.int th)]/\H2=H') ⟨by rw[<- hth];rfl,rfl⟩ ?_;rintro σ' H' ⟨rfl,rfl⟩;by_cases hu:up (((2*pl:Nat):Int)+1) (2^(i+1))
   ·
    have r1:=hB.r1 _ _ (by omega) c2pl hu;rw[<- ethere]at r1;have r2:=hB.r2 _ _ (by omega) plc hnup;have n0:th≠0:=by rcases hB.e1 with z |z<;>omega
    have n1:th≠sg (hv ((pl:Int)+1) (2^i) ns):=by rcases hB.e1 with z |z<;>rcases r2 with y |y<;>omega
    refine gj (df ⟨_,rfl,_,_,rfl,rfl,_,rfl,cY (λ_=>?_) (λh0=>absurd h0 n0)⟩);refine⟨_,rfl,_,rfl,_,_,rfl,rfl,_,rfl,cY (λ_=>?_) (λh0=>absurd h0 n1)⟩;refine av ⟨_,rfl,_,_,rfl,rfl,?_⟩;refine cS ⟨_,rfl,p2,cu L,rfl,e2,by omega,by omega,λp3 H3 s3 hp3 e3=>?_⟩;refine⟨p3,2*pl+1,kQ (cu L),some (.int (0+(i:Int))),some (.int th),?_,t2.trans s3,e3,by rw[yZ,lS],(GU bS (by omega)).mono (by omega),λp q=>?_,by omega,.inr ?_,?_⟩
    ·have q1:(2:Int)*(pl:Int)+1=((2*pl+1:Nat):Int):=by omega
     have q2:((2*pl+1:Nat):Int)+1=2*((pl:Int)+1):=by omega
     rw[q2,<- hold,<- q1,<- e2i];rfl
    ·rw[HR,vS]
     have:((2*pl:Nat):Int)*q+(p+q)=((2*pl+1:Nat):Int)*q+p:=by
      have:((2*pl+1:Nat):Int)=((2*pl:Nat):Int)+1:=by omega
      rw[this];grind
     rw[this]
    ·exact hu
    ·have q2:((2*pl+1:Nat):Int)+1=2*((pl:Int)+1):=by omega
     rw[q2,<- e2i,hB.sc _ _ p2i];exact hnup
   ·
    have r2:=hB.r2 _ _ (by omega) c2pl hu;rw[<- ethere]at r2
    have r3:=hB.r3 _ _ ((pl:Int)+1) (2^i) (by omega) c2pl (by omega) plc hu (by
     have h7:(((2*pl:Nat):Int)+1)*2^i<(2*(pl:Int)+2)*2^i:=NO (by omega) p2i;have h8:((pl:Int)+1)*2^(i+1)=(2*(pl:Int)+2)*2^i:=by rw[Nf];grind
     omega)
    have low:∃(p:Addr) (q:Nat) (L':Ex) (z7 z8:Option V),[some (V.ref a),some (V.int e),some (V.int n),some (V.int (2*(pl:Int))),some (V.int (2*2^i)),some (V.int th),some (V.ref p2),some (V.int (0+(i:Int))),some (V.int th)]=[some (.ref a),some (.int e),some (.int n),some (.int q),some (.int (2^(i+1))),some (.int (sg (hv ((q:Int)+1) (2^(i+1)) ns))),some (.ref p),z7,z8]/\Same H H2/\H2 p=some (.lst (L'.map V.int))/\L'.length=ns.length/\AllB (60000+60*(i+1)) L'/\(∀p q':Int,2^(i+1)*hv p q' L'=hv (q*q'+p) (2^(i+1)*q') ns)/\q<2^(i+1)/\(q=0\/up q (2^(i+1)))/\¬up ((q:Int)+1) (2^(i+1)):=by
     refine⟨p2,2*pl,cu L,some (.int (0+(i:Int))),some (.int th),by rw[e2i,epl,ethere],t2,e2,lS,bS.mono (by omega),vS,by omega,?_,hu⟩;rcases hup with z |z
     ·exact .inl (by omega)
     ·refine .inr ?_;rw[<- epl,<- e2i,hB.sc _ _ p2i];exact z
    by_cases n0:th=0
    ·refine gj (df ⟨_,rfl,_,_,rfl,rfl,_,rfl,cY (λh0=>absurd n0 h0) (λ_=>?_)⟩);exact cs (cS ⟨_,rfl,low⟩)
    ·have n1:th=sg (hv ((pl:Int)+1) (2^i) ns):=by
      rcases r2 with z |z
      ·rw[z,r3]
      ·exact absurd z n0
     refine gj (df ⟨_,rfl,_,_,rfl,rfl,_,rfl,cY (λ_=>?_) (λh0=>absurd h0 n0)⟩);refine⟨_,rfl,_,rfl,_,_,rfl,rfl,_,rfl,cY (λh0=>absurd n1 h0) (λ_=>?_)⟩;exact cS ⟨_,rfl,low⟩
  ·rintro σ' H1 ⟨p,pl,L,z7,z8,rfl,s1,h1,lL,bL,hval,hpl,hup,hnup⟩;dsimp only
   refine aV ⟨_,rfl,_,rfl,by show 2<=sizeLine;decide,λp' hp'=>?_⟩;exact k p' _ pl (s1.then_new hp') (s1.free hp') ap hpl hup hnup
structure RootU(ns:Ex)(l1 l2 h1 h2 ε:Int)(Up:Int->Int->Prop):Prop where
 e1:ε=1\/ε = -1
 r1:∀x1 x2,0<x2->l1*x2<x1*l2->x1*h2<=h1*x2->Up x1 x2->sg (hv x1 x2 ns) = -ε
 r2:∀x1 x2,0<x2->l1*x2<x1*l2->x1*h2<=h1*x2->¬Up x1 x2->sg (hv x1 x2 ns)=ε\/sg (hv x1 x2 ns)=0
 r3:∀x1 x2 y1 y2,0<x2->0<y2->l1*x2<x1*l2->y1*h2<=h1*y2->¬Up x1 x2->x1*y2<y1*x2->sg (hv y1 y2 ns)=ε
 sc:∀x1 x2 y1 y2,0<x2->0<y2->x1*y2=y1*x2->Up x1 x2->Up y1 y2
 low:Up l1 l2
 top:¬Up h1 h2
structure EndsG(k:Nat)(l1 l2 h1 h2:Int):Prop where
 l2p:0<l2
 h2p:0<h2
 bl1:Bits k l1
 bl2:Bits k l2
 bh1:Bits k h1
 bh2:Bits k h2
 lt:l1*h2<h1*l2
 gl:Nat.gcd l1.natAbs l2.natAbs=1
 gh:Nat.gcd h1.natAbs h2.natAbs=1
theorem EndsG.mono{j k:Nat}{l1 l2 h1 h2:Int}(e:EndsG j l1 l2 h1 h2)(h:j<=k:=by decide):EndsG k l1 l2 h1 h2:=⟨e.l2p,e.h2p,e.bl1.mono h,e.bl2.mono h,e.bh1.mono h,e.bh2.mono h,e.lt,e.gl,e.gh⟩
structure NarP(l1 l2 h1 h2 w1 w2:Int)(Up:Int->Int->Prop)(kb:Nat)(n pl:Nat)(x1 x2 y1 y2:Int):Prop where
 ends:EndsG kb x1 x2 y1 y2
 ux:Up x1 x2
 uy:¬Up y1 y2
 lo:l1*x2<=x1*l2
 hi:y1*h2<=h1*y2
 wide:(y1*x2-x1*y2)*w2<=w1*(x2*y2)
 pls:pl<2^n
 ex:x1*(l2*h2*2^n)=(l1*h2*2^n+(h1*l2-l1*h2)*pl)*x2
 ey:y1*(l2*h2*2^n)=(l1*h2*2^n+(h1*l2-l1*h2)*(pl+1))*y2
 big:∀j:Nat,j<n->w1*(h2*l2)*2^j<(h1*l2-l1*h2)*w2
 fit:(h1*l2-l1*h2)*w2<=w1*(h2*l2)*2^n
theorem CQ{x1 x2 y1 y2:Int}(hx:0<x2)(hy:0<y2)(e:x1*y2=y1*x2)(l:Ex):sg (hv x1 x2 l)=sg (hv y1 y2 l):=by
 have h1:=nE y2 x1 x2 l;have h2:=nE x2 y1 y2 l;have e1:y2*x1=x2*y1:=by rw[Nj y2,e,Nj]
 rw[e1,Nj y2 x2]at h1;rw[h1]at h2;have h3:=congrArg sg h2;rw[dQ (NB hy),dQ (NB hx)]at h3;exact h3
theorem cancel{a b c:Int}(hc:0<c)(h:a*c=b*c):a=b:=OA (Nk hc) h
theorem jO{a b c:Int}(hc:0<c)(h:a*c<=b*c):a<=b:=Int.le_of_mul_le_mul_right h hc
theorem lx{a b c:Int}(hc:0<c)(h:a*c<b*c):a<b:=Od h (MN hc)
theorem A9{l1 l2 h1 h2 r1 r2 x1 x2 pc pl:Int}(hr:0<r2)(er:r1*(h2*l2)=(h1*l2-l1*h2)*r2)(e:x1*(l2*r2*pc)=(l1*r2*pc+r1*l2*pl)*x2):x1*(l2*h2*pc)=(l1*h2*pc+(h1*l2-l1*h2)*pl)*x2:=by
 refine cancel hr ?_
 calc x1*(l2*h2*pc)*r2=(x1*(l2*r2*pc))*h2:=by grind
  _=(l1*r2*pc+r1*l2*pl)*x2*h2:=by rw[e]
  _=(l1*h2*pc*r2+(r1*(h2*l2))*pl)*x2:=by grind
  _=(l1*h2*pc*r2+((h1*l2-l1*h2)*r2)*pl)*x2:=by rw[er]
  _=(l1*h2*pc+(h1*l2-l1*h2)*pl)*x2*r2:=by grind
theorem yM{l1 l2 h1 h2 w1 w2 x1 x2 y1 y2 pc pl:Int}(hl:0<l2)(hh:0<h2)(hx:0<x2)(hy:0<y2)(hpc:0<pc)(hp0:0<=pl)(hp1:pl+1<=pc)(hD:0<h1*l2-l1*h2)(ex:x1*(l2*h2*pc)=(l1*h2*pc+(h1*l2-l1*h2)*pl)*x2)(ey:y1*(l2*h2*pc)=(l1*h2*pc+(h1*l2-l1*h2)*(pl+1))*y2)(fit:(h1*l2-l1*h2)*w2<=w1*(h2*l2)*pc):x1*y2<y1*x2/\l1*x2<=x1*l2/\y1*h2<=h1*y2/\(y1*x2-x1*y2)*w2<=w1*(x2*y2):=by
 have hlh:0<l2*h2:=ML hl hh;have hM:0<l2*h2*pc:=ML hlh hpc;have hxy:0<x2*y2:=ML hx hy
 have hd:(y1*x2-x1*y2)*(l2*h2*pc)=(h1*l2-l1*h2)*(x2*y2):=by
  calc (y1*x2-x1*y2)*(l2*h2*pc)=(y1*(l2*h2*pc))*x2-(x1*(l2*h2*pc))*y2:=by grind
   _=((l1*h2*pc+(h1*l2-l1*h2)*(pl+1))*y2)*x2-((l1*h2*pc+(h1*l2-l1*h2)*pl)*x2)*y2:=by rw[ex,ey]
   _=(h1*l2-l1*h2)*(x2*y2):=by grind
 have hi:y1*h2<=h1*y2:=by
  refine jO (c:=l2*pc) (ML hl hpc) ?_;have e1:y1*h2*(l2*pc)=y1*(l2*h2*pc):=by grind
  have e2:h1*y2*(l2*pc)=(l1*h2*pc+(h1*l2-l1*h2)*pc)*y2:=by grind
  rw[e1,ey,e2];refine Np ?_ (MN hy);have:=Og hp1 (MN hD);omega
 generalize h1*l2-l1*h2=D at *
 refine⟨?_,?_,hi,?_⟩
 ·have h3:0<(y1*x2-x1*y2)*(l2*h2*pc):=by rw[hd];exact ML hD hxy
  have h4:0<y1*x2-x1*y2:=lx hM (by rw[Nn];exact h3);omega
 ·refine jO (c:=h2*pc) (ML hh hpc) ?_;have e1:x1*l2*(h2*pc)=x1*(l2*h2*pc):=by grind
  have e2:l1*x2*(h2*pc)=l1*h2*pc*x2:=by grind
  rw[e1,ex,e2,Int.add_mul];have:0<=D*pl*x2:=MZ (MZ (MN hD) hp0) (MN hx);omega
 ·refine jO hM ?_;have e1:(y1*x2-x1*y2)*w2*(l2*h2*pc)=((y1*x2-x1*y2)*(l2*h2*pc))*w2:=by grind
  have e2:w1*(x2*y2)*(l2*h2*pc)=w1*(h2*l2)*pc*(x2*y2):=by grind
  have e3:D*(x2*y2)*w2=D*w2*(x2*y2):=by grind
  rw[e1,hd,e2,e3];exact Np fit (MN hxy)
def oY(C:Addr):Sp:=λvs H Q _=>∃(a l h wd:Addr) (ns:Ex) (l1 l2 h1 h2 w1 w2:Int) (k kw:Nat) (ε:Int) (Up:Int->Int->Prop),vs=[.ref a,.ref l,.ref h,.ref wd]/\H a=some (.lst (ns.map V.int))/\Tr ns/\ns≠[]/\ns.length<=12/\AllB 1000 ns/\RA C H l l1 l2/\RA C H h h1 h2/\RA C H wd w1 w2/\EndsG k l1 l2 h1 h2/\0<w1/\0<w2/\Bits kw w1/\Bits kw w2/\k<=1400/\2*k+kw<=3900/\5*k+kw<=8900/\RootU ns l1 l2 h1 h2 ε Up /\
 ∀(p x y:Addr) (H':Hp) (n pl:Nat) (x1 x2 y1 y2:Int),Same H H'->H p=none->H' p=some (.tup [.ref x,.ref y])->RA C H' x x1 x2->RA C H' y y1 y2->NarP l1 l2 h1 h2 w1 w2 Up (5*k+kw+4) n pl x1 x2 y1 y2->Q (.ref p) H'
theorem Fu(F:Fun K "narrowed" "narrowed" qj f fd)(T:Txt K mg)(R:RCI K mg C)(uY:MCal P w K mg base 4 C "minus" ["self","other"] (oZ C) Jm IQ)(KG:Cal P w K mg base 1 "halvings" ["reach","width"] (wJ C) Mi Lv)(KH:Cal P w K mg base 3 "halved" ["row","end","steps"] wK Mj Lx)(Kp:Cal P w K mg base 3 "stretched" ["row","low","reach"] (we C) LZ Ld)(i6:Cal P w K mg base 2 "sign_at" ["row","ratio"] (j7 C) tR tJ)(Bl:Cal P w K mg base 5 "along" ["low","reach","place","pieces"] (wS C) Mp LD):FnOk P w K mg base CX0 6 f fd ["row","low","high","width"] (oY C):=by
 obtain⟨uL,su,uA⟩:=uY;refine F.ok mz (λvs H Q E h=>?_) (λcdv A outer s H vs Q E hr h=>?_)
 ·obtain⟨a,l,h,wd,ns,l1,l2,h1,h2,w1,w2,k,kw,ε,Up,rfl,_⟩:=h;rfl
 ·obtain⟨a,l,h,wd,ns,l1,l2,h1,h2,w1,w2,kb,kw,ε,Up,rfl,hA,hT,hne,hln,hbn,hl,hh,hw,en,hw1,hw2,bw1,bw2,hk1,hk2,hk3,hU,k⟩:=h
  refine⟨_,(ag (ao 4 mz (du (pv 2) R.cl su uL (hr.mono) uA .nil bU (aa (pv 1) ac)))
   (ag (ao 5 mz (aq KG hr (aa (pv 4) (aa (pv 3) ac))))
   (ag (aR (aG cU (pv 5) ad)
     (aj (aC (cZ (aa (pv 1) (aa (pv 2) ac)))))
     aS)
   (ag (ao 6 mz (aq KH hr (aa (aq Kp hr (aa (pv 0) (aa (pv 1) (aa (pv 4) ac)))) (aa (aq i6 hr (aa (pv 0) (aa (pv 2) ac))) (aa (pv 5) ac)))))
   (aj (aC (cZ (aa (aq Bl hr (aa (pv 1) (aa (pv 4) (aa (aU K (pv 6) ad) (aa (aU K (pv 6) ad) ac))))) (aa (aq Bl hr (aa (pv 1) (aa (pv 4) (aa (ai bH (aU K (pv 6) ad) ad) (aa (aU K (pv 6) ad) ac))))) ac))))))))),?_⟩
  obtain⟨dl,hl'⟩:=id hl;obtain⟨dh,hh'⟩:=id hh;obtain⟨l2p,h2p,bl1,bl2,bh1,bh2,lt,_,_⟩:=id en;refine av ⟨_,rfl,h,dh,_,rfl,hh',dN _ _ yF.1 yF.2,_,rfl,h,l,h1,h2,l1,l2,kb,kb,rfl,hh,hl,bh1.mono (by omega),bh2,bl1.mono (by omega),bl2,by omega,h2p,l2p,λr H1 s1 fr hr1=>?_⟩;have d0:h2*l2≠0:=Nk (ML h2p l2p);have er:=gZ (t:=h1*l2-l1*h2) d0;have r2p:0<rb (h1*l2-l1*h2) (h2*l2):=dS d0;have br1:Bits (2*kb+1) (rt (h1*l2-l1*h2) (h2*l2)):=gb d0 (Bits.sub ((bh1.mul bl2).mono (by omega)) ((bl1.mul bh2).mono (by omega)));have br2:Bits (2*kb+1) (rb (h1*l2-l1*h2) (h2*l2)):=gm d0 ((bh2.mul bl2).mono (by omega));generalize rt (h1*l2-l1*h2) (h2*l2)=r1 at *
  generalize rb (h1*l2-l1*h2) (h2*l2)=r2 at *
  have hD:0<h1*l2-l1*h2:=by omega
  have hhl:0<h2*l2:=ML h2p l2p;have r1p:0<r1:=lx hhl (by rw[Nn,er];exact ML hD r2p);have hA1:=s1 _ _ hA;have hl1:=hl.same s1;have hh1:=hh.same s1;refine av ⟨_,rfl,_,rfl,r,wd,r1,r2,w1,w2,2*kb+1,kw,rfl,hr1,hw.same s1,r2p,hw1,br1,br2.mono (by omega),bw1.mono (by omega),bw2,by omega,λn hn hle hmin=>?_⟩
  have fit:(h1*l2-l1*h2)*w2<=w1*(h2*l2)*2^n:=by
   refine jO r2p ?_
   calc (h1*l2-l1*h2)*w2*r2=((h1*l2-l1*h2)*r2)*w2:=by grind
    _=r1*(h2*l2)*w2:=by rw[er]
    _=r1*w2*(h2*l2):=by grind
    _<=w1*r2*2^n*(h2*l2):=Np hle (MN hhl)
    _=w1*(h2*l2)*2^n*r2:=by grind
  have bigg:∀j:Nat,j<n->w1*(h2*l2)*2^j<(h1*l2-l1*h2)*w2:=λj hj=>by
   refine lx r2p ?_
   calc w1*(h2*l2)*2^j*r2=w1*r2*2^j*(h2*l2):=by grind
    _<r1*w2*(h2*l2):=NO (hmin j hj) hhl
    _=r1*(h2*l2)*w2:=by grind
    _=(h1*l2-l1*h2)*r2*w2:=by rw[er]
    _=(h1*l2-l1*h2)*w2*r2:=by grind
  refine bn ⟨_,rfl,_,_,rfl,rfl,_,rfl,aH (λh0=>?_) (λ_=>?_)⟩
  ·obtain rfl:n=0:=by have:(n:Int)=0:=h0;omega
   refine aV ⟨_,rfl,_,rfl,by show 2<=sizeLine;decide,λp hp=>?_⟩;have sp:=Same.upd_new (o:=.tup [V.ref l,V.ref h]) hp;have ex:l1*(l2*h2*2^0)=(l1*h2*2^0+(h1*l2-l1*h2)*((0:Nat):Int))*l2:=by rw[NQ];show _=(_+_*0)*_;grind
   have ey:h1*(l2*h2*2^0)=(l1*h2*2^0+(h1*l2-l1*h2)*(((0:Nat):Int)+1))*h2:=by rw[NQ];show _=(_+_*(0+1))*_;grind
   have nf:=yM (w1:=w1) (w2:=w2) (pc:=2^0) l2p h2p l2p h2p (jr 0) (Nr 0) (by decide) hD ex ey fit;exact k p l h _ 0 0 l1 l2 h1 h2 (s1.then_new hp) (s1.free hp) ap (hl1.same sp) (hh1.same sp) ⟨en.mono (by omega),hU.low,hU.top,Nr _,Nr _,nf.2.2.2,by decide,ex,ey,bigg,fit⟩
  refine av ⟨_,rfl,_,rfl,_,rfl,a,l,r,ns,l1,l2,r1,r2,rfl,hA1,hl1,hr1,hT,hne,hln,hbn,l2p,r1p,r2p,bl1.mono hk1,bl2.mono hk1,br1.mono (by omega),br2.mono (by omega),λm s0 s1' pm e0 e1 hs1 bS p2 H2 s2 hp2 eq2=>?_⟩;have t2:=s1.trans s2;refine⟨_,rfl,_,rfl,a,h,ns,h1,h2,⟨rfl,t2 _ _ hA,hh.same t2,by omega,hbn.mono,bh1.mono (by omega),bh2.mono (by omega)⟩,λH3 s3=>?_⟩;have t3:=t2.trans s3;have lp:0<l2*r2:=ML l2p r2p
  have top:(s0+s1')*h2=h1*m:=by
   refine cancel lp ?_
   calc (s0+s1')*h2*(l2*r2)=((s0*l2)*r2+(s1'*r2)*l2)*h2:=by grind
    _=(l1*m*r2+r1*m*l2)*h2:=by rw[e0,e1]
    _=m*(l1*r2*h2+r1*(h2*l2)):=by grind
    _=m*(l1*r2*h2+(h1*l2-l1*h2)*r2):=by rw[er]
    _=h1*m*(l2*r2):=by grind
  have pt:∀p c:Int,0<p->p<=c->0<m*c/\l1*(m*c)<(s0*c+s1'*p)*l2/\(s0*c+s1'*p)*h2<=h1*(m*c):=λp c hp hc=>by
   refine⟨ML pm (by omega),?_,?_⟩
   ·have:(s0*c+s1'*p)*l2=l1*(m*c)+s1'*p*l2:=by
     calc (s0*c+s1'*p)*l2=(s0*l2)*c+s1'*p*l2:=by grind
      _=l1*m*c+s1'*p*l2:=by rw[e0]
      _=l1*(m*c)+s1'*p*l2:=by grind
    rw[this];have:=ML (ML hs1 hp) l2p;omega
   ·have h3:s1'*p<=s1'*c:=Og hc (MN hs1);have h4:(s0*c+s1'*p)*h2<=(s0*c+s1'*c)*h2:=Np (by omega) (MN h2p)
    have h5:(s0*c+s1'*c)*h2=h1*(m*c):=by
     calc (s0*c+s1'*c)*h2=((s0+s1')*h2)*c:=by grind
      _=h1*m*c:=by rw[top]
      _=h1*(m*c):=by grind
    omega
  have vs:∀p c:Int,sg (hv p c (bT m s0 s1' ns))=sg (hv (s0*c+s1'*p) (m*c) ns):=λp c=>by rw[<- zD,dQ pm]
  have hB:RootB (bT m s0 s1' ns) ε (λp c=>Up (s0*c+s1'*p) (m*c)):=by
   refine⟨hU.e1,λp c hp hc hu=>?_,λp c hp hc hu=>?_,λp c p' c' hp hc hp' hc' hu hlt=>?_,λp c hc=>?_,λhu=>?_⟩
   ·rw[vs];obtain⟨q1,q2,q3⟩:=pt p c hp hc;exact hU.r1 _ _ q1 q2 q3 hu
   ·rw[vs];obtain⟨q1,q2,q3⟩:=pt p c hp hc;exact hU.r2 _ _ q1 q2 q3 hu
   ·rw[vs];obtain⟨q1,q2,q3⟩:=pt p c hp hc;obtain⟨q1',q2',q3'⟩:=pt p' c' hp' hc';refine hU.r3 _ _ _ _ q1 q1' q2 q3' hu ?_;have h3:s1'*m*(p*c')<s1'*m*(p'*c):=Pk hlt (ML hs1 pm);have e3:(s0*c+s1'*p)*(m*c')=s0*c*(m*c')+s1'*m*(p*c'):=by grind
    have e4:(s0*c'+s1'*p')*(m*c)=s0*c*(m*c')+s1'*m*(p'*c):=by grind
    omega
   ·have g1:0<m*c:=ML pm hc;have g2:0<m*(2*c):=ML pm (by omega);constructor
    ·exact hU.sc _ _ _ _ g2 g1 (by grind)
    ·exact hU.sc _ _ _ _ g1 g2 (by grind)
   ·refine hU.top (hU.sc _ _ _ _ (by rw[Nt];exact pm) h2p ?_ hu);rw[Nt,Nt,Nt];exact top
  have lstr:=jc m s0 s1' ns;have hn1:1<=ns.length:=MR.mpr hne;refine⟨_,rfl,p2,bT m s0 s1' ns,_,n,ε,_,rfl,s3 _ _ eq2,by omega,by omega,bS,by omega,hB,?_,λp4 H4 pl s4 hp4 e4 hpl hup hnup=>?_⟩
  ·rw[vs];refine CQ h2p (by rw[Nt];exact pm) ?_ ns;rw[Nt,Nt,Nt];exact top.symm
  have t4:=t3.trans s4;have u4:=(s2.trans s3).trans s4;have b2n:Bits (n+1) ((2:Int)^n):=kG (by omega);have cpl:(pl:Int)<2^n:=by rw[iH];exact OH.mpr hpl
  have bpl:Bits (n+1) (pl:Int):=b2n.of_le (by rw[iH];omega);have bpl1:Bits (n+1) ((pl:Int)+1):=b2n.of_le (by rw[iH];omega);have p2n:=jr n;refine aV ⟨_,rfl,_,rfl,_,rfl,p4,_,_,_,rfl,rfl,SqT.of e4,rfl,_,rfl,p4,_,_,_,rfl,rfl,SqT.of e4,rfl,l,r,l1,l2,r1,r2,pl,2^n,kb,2*kb+1,n+1,rfl,hl.same t4,hr1.same u4,l2p,r2p,p2n,bl1,bl2,br1,br2,bpl,b2n,by omega,λx H5 x1 x2 s5 hx hRx x2p ex bx1 bx2 gx=>?_⟩;have e5:=s5 _ _ e4;have t5:=t4.trans s5;have u5:=u4.trans s5;refine⟨_,rfl,_,rfl,_,rfl,p4,_,_,_,rfl,rfl,SqT.of e5,rfl,_,_,rfl,rfl,_,rfl,p4,_,_,_,rfl,rfl,SqT.of e5,rfl,l,r,l1,l2,r1,r2,pl+1,2^n,kb,2*kb+1,n+1,rfl,hl.same t5,hr1.same u5,l2p,r2p,p2n,bl1,bl2,br1,br2,bpl1,b2n,by omega,λy H6 y1 y2 s6 hy hRy y2p ey by1 by2 gy=>?_⟩;refine⟨by show 2<=sizeLine;decide,λp hp=>?_⟩;have sp:=Same.upd_new (o:=.tup [V.ref x,V.ref y]) hp;have t6:=t5.trans s6;have ex':=A9 r2p er ex;have ey':=A9 r2p er ey;have nf:=yM (w1:=w1) (w2:=w2) l2p h2p x2p y2p p2n (show(0:Int)<=(pl:Int) by omega) (by omega) hD ex' ey' fit
  have cross:∀(q z1 z2:Int),z1*(l2*r2*2^n)=(l1*r2*2^n+r1*l2*q)*z2->(s0*2^n+s1'*q)*z2=z1*(m*2^n):=λq z1 z2 ez=>by
   refine cancel lp ?_
   calc (s0*2^n+s1'*q)*z2*(l2*r2)=((s0*l2)*r2*2^n+(s1'*r2)*l2*q)*z2:=by grind
    _=(l1*m*r2*2^n+r1*m*l2*q)*z2:=by rw[e0,e1]
    _=m*((l1*r2*2^n+r1*l2*q)*z2):=by grind
    _=m*(z1*(l2*r2*2^n)):=by rw[ez]
    _=z1*(m*2^n)*(l2*r2):=by grind
  have hm2:0<m*2^n:=ML pm p2n;refine k p x y _ n pl x1 x2 y1 y2 (t6.then_new hp) (t6.free hp) ap ((hRx.same s6).same sp) (hRy.same sp) ⟨⟨x2p,y2p,bx1.mono (by omega),bx2.mono (by omega),by1.mono (by omega),by2.mono (by omega),nf.1,gx,gy⟩,?_,?_,nf.2.1,nf.2.2.1,nf.2.2.2,hpl,ex',ey',bigg,fit⟩
  ·rcases hup with z |z
   ·refine hU.sc _ _ _ _ l2p x2p ?_ hU.low;rw[z]at ex';refine cancel (ML h2p p2n) ?_
    calc l1*x2*(h2*2^n)=(l1*h2*2^n+(h1*l2-l1*h2)*((0:Nat):Int))*x2:=by show _=(_+_*0)*_;grind
     _=x1*(l2*h2*2^n):=ex'.symm
     _=x1*l2*(h2*2^n):=by grind
   ·exact hU.sc _ _ _ _ hm2 x2p (cross _ _ _ ex) z
  ·intro hu;exact hnup (hU.sc _ _ _ _ y2p hm2 (cross _ _ _ ey).symm hu)
structure NCI(K:PySem.W.Frag)(mg:Str->Option Value)(CN:Addr):Prop where
 cl:Cls K CN
 nP:NoAttr K CN "poly"
 nL:NoAttr K CN "low"
 nH:NoAttr K CN "high"
 mg:mg "Number"=some (.ref CN)
 ha:PySem.W.findIn K (.ref CN) "__class__"=some (some (.builtin "object.__class__"))
 hn:PySem.W.specialIn K (.builtin "object.__class__") "__get__"=some (some (.builtin "getset_descriptor.__get__"))
 ht:PySem.W.takesIn K (.builtin "object.__class__")=some true
 hm:PySem.W.mroIn K CN (.type "object")=some true
noncomputable def hJ(p l h:Addr):List (Str×V):=cE "high" (.ref h) (cE "low" (.ref l) (cE "poly" (.ref p) []))
theorem EF:¬(("poly":Str)="high"):=by decide +kernel
theorem EA:¬(("poly":Str)="low"):=by decide +kernel
theorem Hl:¬(("low":Str)="high"):=by decide +kernel
theorem tF(p l h:Addr):(hJ p l h).lookup ("high":Str)=some (.ref h):=by unfold hJ;rw[dL,if_pos rfl]
theorem tE(p l h:Addr):(hJ p l h).lookup ("low":Str)=some (.ref l):=by unfold hJ;rw[dL,if_neg Hl,dL,if_pos rfl]
theorem tD(p l h:Addr):(hJ p l h).lookup ("poly":Str)=some (.ref p):=by unfold hJ;rw[dL,if_neg EF,dL,if_neg EA,dL,if_pos rfl]
def NA(CN:Addr)(H:Hp)(x p l h:Addr):Prop:=∃dx,H x=some (.ins CN dx (hJ p l h))
theorem NA.same{CN:Addr}{H H':Hp}{x p l h:Addr}(n:NA CN H x p l h)(s:Same H H'):NA CN H' x p l h:=let⟨dx,e⟩:=n;⟨dx,s _ _ e⟩
def me(CN:Addr):Sp:=λvs H Q _=>∃(x dx r l h:Addr) (ns:List V),vs=[.ref x,.ref r,.ref l,.ref h]/\H x=some (.ins CN dx [])/\H r=some (.lst ns)/\∀p,H p=none->Q .non (upd (upd H p (.lst ns)) x (.ins CN dx (hJ p l h)))
theorem Gr(F:Fun K "__init__" "Number.__init__" rf f fd)(T:Txt K mg)(RN:NCI K mg CN):FnOk P w K mg base CX0 1 f fd ["self","row","low","high"] (me CN):=by
 refine F.ok Dx (λvs H Q E h=>?_) (λcdv A outer s H vs Q E hr h=>?_)
 ·obtain⟨x,dx,r,l,h,ns,rfl,_⟩:=h;rfl
 ·obtain⟨x,dx,r,l,h,ns,rfl,hx,hR,k⟩:=h
  refine⟨_,(ag (kE (pv 0) (gv (ly (K:=K) rfl) (by rfl) T.list_ PyProof.Rows.boot_list (aa (pv 1) ac)) rfl)
   (ag (kE (pv 0) (pv 2) rfl)
   (aj (kE (pv 0) (pv 3) rfl)))),?_⟩
  refine⟨_,rfl,r,_,rfl,.inl (SqL.of hR),λp hp=>?_⟩;have npx:x≠p:=aN hx hp;refine⟨_,rfl,x,CN,dx,_,rfl,by rw[upd_ne npx];exact hx,RN.cl,RN.nP,by show 0<1000;decide,?_⟩;refine⟨_,rfl,_,rfl,x,CN,dx,_,rfl,ap,RN.cl,RN.nL,by show 1<1000;decide,?_⟩;refine⟨_,rfl,_,rfl,x,CN,dx,_,rfl,ap,RN.cl,RN.nH,by show 2<1000;decide,?_⟩;show Q .non (upd (upd (upd (upd H p _) x _) x _) x _);rw[lJ,lJ];exact k p hp
def wq:Sp:=λvs H Q _=>∃(a:Addr) (ns:Ex),vs=[.ref a]/\H a=some (.lst (ns.map V.int))/\ns.length<=1000/\AllB 300 ns/\∀H',Same H H'->Q .non H'
theorem J3:Bits 399 (10^60*10^60)/\(2:Int)^300<=10^60*10^60:=by
 constructor
 ·show((10:Int)^60*10^60).natAbs<2^399;decide +kernel
 ·decide +kernel
theorem Fn(F:Fun K "refuse_great" "refuse_great" qe f fd)(T:Txt K mg):FnOk P w K mg base CX0 1 f fd ["row"] wq:=by
 refine F.ok xA (λvs H Q E h=>?_) (λcdv A outer s H vs Q E hr h=>?_)
 ·obtain⟨a,ns,rfl,_⟩:=h;rfl
 ·obtain⟨a,ns,rfl,hA,hl,hb,k⟩:=h;have big:=sizeLine_eq
  refine⟨_,(ag (ao 1 xA (ai aI (ai mW ad ad) (ai mW ad ad)))
   (aj (aR (Eg (cF (JX (K:=K) rfl rfl) (by rfl) T.any_ PyProof.Rows.boot_any (aa (eV (own:=["value"]) (fr:=["limit"]) (js:=[1]) (by walk_at "comp_ok") rfl (c9 (K:=K) rfl (pv 0)) (λ_ _ _ _=>(dG (i:=0) (show List.Nodup (["value","limit"]:List Str)from by decide +kernel) rfl (Or.inl rfl))) (λ_ _ _ _=>(dg mX (cF ij (by rfl) T.abs_ PyProof.Rows.boot_abs (aa (pv 0) ac)) (pv 1)))) ac)) (by intro _;rfl))
     (aj mP)
     aS))),?_⟩
  have b6:Bits 1000000 ((10:Int)^60):=b60.mono;refine av ⟨_,_,rfl,rfl,⟨by decide,by decide,by decide⟩,_,_,rfl,rfl,⟨by decide,by decide,by decide⟩,_,_,rfl,rfl,⟨b6,b6⟩,?_⟩;refine gj ⟨_,rfl,a,rfl,⟨_,SqL.of hA⟩,fN (K:=K) (a:=a) (xs:=ns.map V.int) (λi ys σ' H'=>∃(z0:Option V) (bs:List Bool),σ'=[z0,some (.int (10^60*10^60))]/\ys=bs.map V.bl/\bs.length=i/\(∀x∈bs,x=false)/\H=H') (by rw[MI];omega) ⟨none,[],rfl,rfl,rfl,(λ_ h=>nomatch h),rfl⟩ ?_ ?_ ?_⟩
  ·rintro i ys σ' H' _ ⟨z0,bs,rfl,rfl,rfl,_,rfl⟩;exact⟨SqL.of hA,by rw[MI];exact MJ _⟩
  ·rintro i x ys σ' H' hi ⟨z0,bs,rfl,rfl,rfl,hbs,rfl⟩;obtain⟨c,_,rfl,hc,_⟩:=hI hi;refine⟨_,rfl,_,rfl,_,rfl,_,_,rfl,rfl,?_⟩;refine⟨_,bs++[false],rfl,?_,by rw[MX];rfl,λx hx=>?_,rfl⟩
   ·have hlt:¬((if c<0 then -c else c)≥10^60*10^60):=by
     have h1:c.natAbs<2^300:=hb c hc;have h2:=J3.2;have h3:((2^300:Nat):Int)=(2:Int)^300:=by rw[OF];rfl
     have h4:(c.natAbs:Int)<(2:Int)^300:=by rw[<- h3];exact OH.mpr h1
     generalize (2:Int)^300=X at h2 h4
     generalize (10:Int)^60*10^60=Y at h2 ⊢
     split<;>omega
    rw[Nl];show _++[V.bl (decide _)]=_;rw[decide_eq_false hlt];rfl
   ·rcases Nb.mp hx with h |h
    ·exact hbs x h
    ·exact MO.mp h
  rintro ys σ' H' p ⟨z0,bs,rfl,rfl,hbl,hbs,rfl⟩ hp;refine⟨p,bs,rfl,SqL.of ap,?_⟩
  have e:bs.any id=false:=by rw[List.any_eq_false];intro x hx;rw[hbs x hx];decide
  rw[e];refine⟨_,rfl,cs ?_⟩;exact k _ (Same.upd_new hp)
theorem CO{x:Int}(h:0<x):sg x=1:=by unfold sg;split<;>(try split)<;>omega
theorem jx:(¬("against":Str)="bottom")/\¬("against":Str)="top":=⟨by decide +kernel,by decide +kernel⟩
theorem b1k{k:Nat}(h:1<=k):Bits k (1:Int):=Bits.mono (j:=1) (by show(1:Int).natAbs<2^1;decide) h
theorem Ai(t:Int):dv t 1=1:=by unfold dv;rw[if_neg (by decide)];show((Nat.gcd t.natAbs 1:Nat):Int)=1;rw[Nat.gcd_one_right];rfl
theorem rj(t:Int):rt t 1=t:=by have h:=jo (t:=t) (b:=1) (by decide);rw[Ai,Ni]at h;exact h
theorem rC(t:Int):rb t 1=1:=by have h:=iE (t:=t) (b:=1) (by decide);rw[Ai,Ni]at h;exact h
theorem Ah{b:Int}(hb:0<b):dv 1 b=1:=by unfold dv;rw[if_neg (by omega)];show((Nat.gcd 1 b.natAbs:Nat):Int)=1;rw[Nat.gcd_one_left];rfl
theorem DB{b:Int}(hb:0<b):rt 1 b=1:=by have h:=jo (t:=1) (b:=b) (by omega);rw[Ah hb,Ni]at h;exact h
theorem DW{b:Int}(hb:0<b):rb 1 b=b:=by have h:=iE (t:=1) (b:=b) (by omega);rw[Ah hb,Ni]at h;exact h
theorem Hh{CN:Addr}{H3:Hp}{q:Addr->Hp->Prop}{E:XK}{r l h:Addr}{ns:List V}(e3:H3 r=some (.lst ns))(k:∀(x p:Addr) (H':Hp),Same H3 H'->H3 x=none->NA CN H' x p l h->H' p=some (.lst ns)->H3 p=none->q x H'):∀x dx:Addr,H3 x=none->H3 dx=none->dx≠x->me CN (.ref x::([.ref r,.ref l,.ref h]++[])) (upd (upd H3 dx (.own x)) x (.ins CN dx [])) (λv H2=>v=.non/\q x H2) E:=λx dx nx ndx ne=>by
 have npx:r≠x:=aN e3 nx;have npd:r≠dx:=aN e3 ndx;refine⟨x,dx,r,l,h,_,rfl,ap,by rw[upd_ne npx,upd_ne npd];exact e3,λq hq=>⟨rfl,?_⟩⟩;have nqx:q≠x:=λz=>by rw[z,ap]at hq;cases hq
 have nqd:q≠dx:=λz=>by rw[z,upd_ne ne,ap]at hq;cases hq
 have hq3:H3 q=none:=by rw[upd_ne nqx,upd_ne nqd]at hq;exact hq
 refine k x q _ (λc o ec=>?_) nx ⟨dx,ap⟩ (by rw[upd_ne nqx,ap]) hq3;have ncx:c≠x:=aN ec nx;have ncd:c≠dx:=aN ec ndx;have e4:upd (upd H3 dx (.own x)) x (.ins CN dx []) c=some o:=by rw[upd_ne ncx,upd_ne ncd];exact ec
 rw[upd_ne ncx,upd_ne (aN e4 hq)];exact e4
theorem uf{xs ys:Ex}{x y:Nat}(hx:AllB x xs)(hy:AllB y ys):∀i,AllB (x+i*(y+1)) (aQ xs ys i).1/\AllB (x+i*(y+1)) (aQ xs ys i).2
 |0=>by rw[Nat.zero_mul];exact⟨AllB.zeros,hx⟩
 |i+1=>by
  obtain⟨h1,h2⟩:=uf hx hy i;have e:x+(i+1)*(y+1)=x+i*(y+1)+y+1:=by rw[Nat.succ_mul];omega
  have hs:Bits y (((RM.cf ys (ys.length-1)).natAbs:Nat):Int):=uF (hy.cf _);rw[e];show AllB _ (cV ys (aQ xs ys i) _).1/\AllB _ (cV ys (aQ xs ys i) _).2;unfold cV;dsimp only
  constructor
  ·intro v hv;rcases List.mem_or_eq_of_mem_set hv with h |rfl
   ·obtain⟨u,hu,rfl⟩:=MW.mp h;exact(hs.mul (h1 u hu)).mono (by omega)
   ·exact(kg (h2.cf _)).mono (by omega)
  ·refine AllB.of_cf λn=>?_
   rw[n8];by_cases hn:n<(scL (((RM.cf ys (ys.length-1)).natAbs:Nat):Int) (aQ xs ys i).2).length-1
   ·rw[if_pos hn,bh]
    have m1:Bits (x+i*(y+1)+y) ((((RM.cf ys (ys.length-1)).natAbs:Nat):Int)*RM.cf (aQ xs ys i).2 n):=by have:=hs.mul (h2.cf n);rwa [Nat.add_comm]at this
    refine m1.sub ?_;by_cases hp:(xs.length+1-ys.length-1-i)<=n
    ·rw[if_pos hp];exact(kg (h2.cf _)).mul (hy.cf _)
    ·rw[if_neg hp];exact Bits.zero
   ·rw[if_neg hn];exact Bits.zero
theorem kf{n:Nat}{l:Ex}(h:AllB n l):AllB n (ar l):=by
 intro y hy;obtain⟨x,hx,rfl⟩:=MW.mp hy;obtain⟨d,hd⟩:=iP hx;by_cases hg:(aB l:Int)=0
 ·rw[hg,Int.ediv_zero];exact Bits.zero
 ·have e:x/(aB l:Int)=d:=by rw[hd];exact Int.mul_ediv_cancel_left d hg
  rw[e];refine(h x hx).of_le ?_;rw[hd,MY];exact O2 _ (Oq.mpr hg)
theorem pz(l:Ex):(ar l).length=l.length:=MI _
theorem xJ(n:Nat)(o:Ex):Run n [] o:=by cases n with |zero=>rfl |succ n=>exact .inl rfl
theorem Ad(n:Nat)(o:Ex):RM.Ends n [] o:=by cases n with |zero=>rfl |succ n=>exact .inl rfl
theorem gr8:gr 540 6=91260:=by decide
def Okr(xs:Ex):Prop:=Tr xs/\AllB 91260 xs/\xs.length<=7
theorem xI:∀(n:Nat) (one other:Ex) (x y s:Nat),one.length=s+1->s<=6->other.length<=s->s<n->Tr one->Tr other->AllB x one->AllB y other->x+1<=gr 540 (6-s)->y+1<=gr 540 (6-s+1)->Run n one other/\RM.Ends n one other/\∀xs∈bj n one other,Okr xs
 |0,one,other,x,y,s,_,_,_,h,_,_,_,_,_,_=>absurd h (OV _)
 |m+1,one,other,x,y,s,hl,hs8,hol,hsm,t1,t2,b1,b2,g1,g2=>by
  have hne:one≠[]:=λz=>by rw[z]at hl;simp at hl
  have m1:gr 540 (6-s)<=91260:=by rw[<- gr8];exact fK 540 (by omega)
  have bo1:AllB 91260 one:=b1.mono (by omega)
  have bo2:AllB 91260 other:=by
   by_cases ho:other=[]
   ·rw[ho];exact AllB.nil
   ·have:=MR.mpr ho;have m2:gr 540 (6-s+1)<=91260:=by rw[<- gr8];exact fK 540 (by omega)
    exact b2.mono (by omega)
  have fit:Fit one other:=⟨t1,t2,91260,bo1,bo2,by rw[hl];omega,by omega⟩
  have eS:bj (m+1) one other=one::bj m other (nxt one other):=by show(if one=[]then[]else one::bj m other (nxt one other))=_;rw[if_neg hne]
  have ok1:Okr one:=⟨t1,bo1,by omega⟩;by_cases ho:other=[]
  ·subst ho;refine⟨.inr ⟨fit,xJ _ _⟩,.inr (Ad _ _),λxs hx=>?_⟩;rw[eS,kz]at hx;rw[MO.mp hx];exact ok1
  ·have hop:=MR.mpr ho;obtain⟨d,hd⟩:∃d,other.length=d+1:=⟨other.length-1,by omega⟩;have hN:aX one other=(s-d-1)+2:=by unfold aX;omega
   have e6:6-s+2+(s-d-1)=6-d+1:=by omega
   have rb:AllB (x+aX one other*(y+1)) (aM one other):=((uf b1 b2 (aX one other)).2).trim
   have nb:AllB (x+aX one other*(y+1)) (nxt one other):=by
    unfold nxt rst;rw[if_neg ho,lU (fL _ _)];refine kf λv hv=>?_
    obtain⟨u,hu,rfl⟩:=MW.mp hv;have:=(rb u hu).neg
    rwa [show -1*u = -u by omega]
   have nl:(nxt one other).length<=d:=by unfold nxt rst;rw[if_neg ho,lU (fL _ _),pz,b9];have:=gL (a:=one) ho;omega
   have nt:Tr (nxt one other):=fW (fh _);have jump:=sX 540 (6-s) (s-d-1);rw[e6]at jump;have mm:=Oe (s-d-1+2) g2;obtain⟨r1,r2,r3⟩:=xI m other (nxt one other) y (x+aX one other*(y+1)) d hd (by omega) nl (by omega) t2 nt b2 nb (MV g2 (fK 540 (by omega))) (by rw[hN];omega);refine⟨.inr ⟨fit,r1⟩,.inr r2,λxs hx=>?_⟩;rw[eS]at hx;rcases MM.mp hx with rfl |hx
   ·exact ok1
   ·exact r3 xs hx
theorem xP:∀(n:Nat) (one other:Ex),(bj n one other).length<=n
 |0,_,_=>MJ _
 |n+1,one,other=>by
  show(if one=[]then[]else one::bj n other (nxt one other)).length<=n+1;split
  ·exact MQ _
  ·have:=xP n other (nxt one other);rw[Nh];omega
theorem xi{n:Nat}{xs:Ex}(h:AllB n xs)(hl:xs.length<=9):AllB (n+4) (slopeL xs):=by intro x hx;obtain⟨k,hk,rfl⟩:=MW.mp hx;have hk':k<xs.length-1:=OX.mp hk;have b1:Bits 4 ((k:Int)+1):=Ob (show((k:Int)+1).natAbs<=8 by omega) (by decide);exact(b1.mul (h.cf (k+1))).mono (by omega)
theorem Cw(xs:Ex):(slopeL xs).length=xs.length-1:=by unfold slopeL;rw[MI,N2]
theorem DH{kps:Ex}(ktr:Tr kps)(kb:AllB 530 kps)(kl:kps.length<=7):Run 9 (ar kps) (ar (slopeL kps))/\RM.Ends 9 (ar kps) (ar (slopeL kps))/\∀xs∈bj 9 (ar kps) (ar (slopeL kps)),Okr xs:=by
 by_cases h0:kps=[]
 ·subst h0
  exact⟨xJ _ _,Ad _ _,λxs hx=>by
   have e:ar []=[]:=rfl;rw[e,kz]at hx
   exact nomatch hx⟩
 ·have hl:=MR.mpr h0;obtain⟨s,hs⟩:∃s,kps.length=s+1:=⟨kps.length-1,by omega⟩;refine xI 9 (ar kps) (ar (slopeL kps)) 530 534 s (by rw[pz,hs]) (by omega) (by rw[pz,Cw,hs];omega) (by omega) (fW ktr) (fW (vz ktr)) (kf kb) (kf (xi kb (by omega))) ?_ ?_
  ·exact MV (show 531<=gr 540 0 by decide) (fK 540 (MQ _))
  ·exact MV (show 535<=gr 540 1 by decide) (fK 540 (by omega))
theorem ju{n:Nat}{l:Ex}(h:AllB n l):AllB n (aD l):=by
 unfold aD cz;split
 ·intro y hy;obtain⟨x,hx,rfl⟩:=MW.mp hy;exact(kf h x hx).neg
 ·exact kf h
theorem Ib:∀s:Nat,s<=8->1<=s->(s+3)*(gr 240 (8-s+1)+1)<=1000000
 |0,_,h=>absurd h (by decide)
 |1,_,_=>by show 4*(236400+1)<=1000000;decide
 |2,_,_=>by show 5*(97920+1)<=1000000;decide
 |3,_,_=>by show 6*(40560+1)<=1000000;decide
 |4,_,_=>by show 7*(16800+1)<=1000000;decide
 |5,_,_=>by show 8*(6960+1)<=1000000;decide
 |6,_,_=>by show 9*(2880+1)<=1000000;decide
 |7,_,_=>by show 10*(1200+1)<=1000000;decide
 |8,_,_=>by show 11*(480+1)<=1000000;decide
 |n+9,h,_=>absurd h (by omega)
theorem xK:∀(n:Nat) (one other:Ex) (x y s:Nat),one.length=s+1->s<=8->other.length<=s->s<n->Tr one->Tr other->AllB x one->AllB y other->x+1<=gr 240 (8-s)->y+1<=gr 240 (8-s+1)->lD n one other
 |0,one,other,x,y,s,_,_,_,h,_,_,_,_,_,_=>absurd h (OV _)
 |m+1,one,other,x,y,s,hl,hs8,hol,hsm,t1,t2,b1,b2,g1,g2=>by
  by_cases ho:other=[]
  ·exact .inl ho
  have hop:=MR.mpr ho;obtain⟨d,hd⟩:∃d,other.length=d+1:=⟨other.length-1,by omega⟩;have hN:aX one other=(s-d-1)+2:=by unfold aX;omega
  have e6:8-s+2+(s-d-1)=8-d+1:=by omega
  have rb:AllB (x+aX one other*(y+1)) (aM one other):=((uf b1 b2 (aX one other)).2).trim;have jump:=sX 240 (8-s) (s-d-1);rw[e6]at jump;have mm:=Oe (s-d-1+2) g2;have nl:=gL (a:=one) ho;have m0:=fK 240 (show 8-s<=8-s+1 by omega);have fit:uM one other:=⟨t1,t2,gr 240 (8-s+1),b1.mono (by omega),b2.mono (by omega),by rw[hl];exact Ib s hs8 (by omega),by omega⟩
  exact .inr ⟨fit,xK m other (aD (aM one other)) y (x+aX one other*(y+1)) d hd (by omega) (by rw[RM.plain_len];omega) (by omega) t2 (gS (fL _ _)) b2 (ju rb) (MV g2 (fK 240 (by omega))) (by
   rw[hN];generalize (s-d-1+2)*(y+1)=z at mm ⊢
   generalize (s-d-1+2)*gr 240 (8-s+1)=z2 at mm jump
   omega)⟩
structure Made(kp:Ex)(c:Int)(us:List (Ex×Nat)):Prop where
 is:kp=whl c us
 c0:c≠0
 bc:Bits 10 c
 use:Use us
 deg:dgs id us<=8
 one:1<=kp.length
 bits:AllB 230 (fP id us)
 more:AllB 230 (mor us 1)
theorem Made.len{kp:Ex}{c:Int}{us:List (Ex×Nat)}(h:Made kp c us):kp.length<=9/\(mor us 1).length<=9/\1<=(mor us 1).length/\AllB 241 kp:=by
 have ne:∀p∈us,p.1≠[]:=λp hp=>(h.use.pri p hp).pln.ne
 have h1:=(lc id us ne).1;have h2:=(lc (·-1) us ne).1;have h3:dgs (·-1) us<=dgs id us:=Ap us λp _=>Nat.sub_le _ _
 have h4:=h.deg;refine⟨by rw[h.is,fU,b9];omega,by unfold mor;omega,by unfold mor;omega,?_⟩;rw[h.is,fU];intro x hx;obtain⟨y,hy,rfl⟩:=MW.mp hx;exact(h.bc.mul (h.bits y hy)).mono
theorem Made.slope{kp:Ex}{c:Int}{us:List (Ex×Nat)}(h:Made kp c us):AllB 234 (aD (slopeL kp)):=by
 have pl:=iU h.use id;have hl:=h.len.1
 have e:slopeL kp=scL c (slopeL (fP id us)):=by
  rw[h.is];refine dO ?_ λk _=>?_
  ·rw[b9,gC,gC,fU,b9]
  ·rw[bh,eJ,eJ,fU,bh];grind
 rw[e,kI h.c0 (iq pl.tr)];exact ju (xi h.bits (by rw[h.is,fU,b9]at hl;exact hl))
def v9:Sp:=λvs H Q _=>(∃(a:Addr) (kp:Ex) (c:Int) (us:List (Ex×Nat)),vs=[.ref a]/\H a=some (.lst (kp.map V.int))/\Made kp c us/\mkL H Q (flt us))\/(∃a:Addr,vs=[.ref a]/\H a=some (.lst (([]:Ex).map V.int))/\mkL H Q [])
theorem E4(F:Fun K "without_squares" "without_squares" pM f fd)(T:Txt K mg)(Kw:Cal P w K mg base 35 "part" ["row","divisor"] wy Ma Ll)(KL:Cal P w K mg base 35 "common" ["first","second"] wO Mo LC)(uO:Cal P w K mg base 1 "slope" ["row"] (sp1 slopeL) IW Ix):FnOk P w K mg base CX0 36 f fd ["row"] v9:=by
 refine F.ok CY (λvs H Q E h=>?_) (λcdv A outer s H vs Q E hr h=>?_)
 ·rcases h with⟨a,kp,c,us,rfl,_⟩ |⟨a,rfl,_⟩<;>rfl
 ·obtain⟨a,rfl⟩:∃a,vs=[.ref a]:=by rcases h with⟨a,kp,c,us,rfl,_⟩ |⟨a,rfl,_⟩<;>exact⟨_,rfl⟩
  have hu:=hr.units
  refine⟨_,(ag (aR (aG (iL (K:=K) rfl hu) (pv 0) (aP ac))
   (aj (aC (aP ac)))
   aS)
   (aj (aC (aq Kw hr (aa (pv 0) (aa (aq KL hr (aa (pv 0) (aa (aq uO hr (aa (pv 0) ac)) ac))) ac)))))),?_⟩
  rcases h with⟨a',kp,c,us,ea,hA,hM,k⟩ |⟨a',ea,hA,k⟩
  rotate_left
  ·cases ea;refine bn ⟨_,rfl,MQ _,λp0 hp0=>?_⟩;have s0:Same H (upd H p0 (.lst [])):=Same.upd_new hp0;refine⟨a,p0,[],[],rfl,rfl,SqL.of (s0 _ _ hA),SqL.of ap,_,rfl,aH (λ_=>?_) (λh0=>absurd rfl h0)⟩;exact aV ⟨MQ _,λp hp=>k p _ (s0.then_new hp) (s0.free hp) ap⟩
  cases ea;have eW:=hM.is;obtain⟨tW,nW,pW⟩:=jV hM.use hM.c0;obtain⟨lW,lM,lM1,bW⟩:=hM.len;have hsl:=hM.slope;have l2':=hM.one;have eC:=vb hM.use hM.c0 (by rw[<- eW];omega);obtain⟨r1,r2⟩:=BA hM.use hM.c0;rw[<- eW]at tW nW pW eC r1 r2;have lS:=gC kp;refine bn ⟨_,rfl,MQ _,λp0 hp0=>?_⟩;have s0:Same H (upd H p0 (.lst [])):=Same.upd_new hp0;refine⟨a,p0,kp,[],rfl,rfl,SqL.of (s0 _ _ hA),SqL.of ap,_,rfl,aH (λh0=>absurd h0 nW) (λ_=>?_)⟩;generalize upd H p0 (.lst [])=H0 at s0 ⊢
  have hA0:=s0 _ _ hA;refine aV ⟨_,rfl,_,rfl,_,rfl,a,kp,rfl,hA0,by omega,bW.mono,λp1 H1 s1 hp1 e1=>?_⟩;have t1:=s0.trans s1;obtain⟨s,hs⟩:∃s,kp.length=s+1:=⟨kp.length-1,by omega⟩;refine⟨a,p1,kp,slopeL kp,20,rfl,t1 _ _ hA,e1,tW,iq tW,by omega,by omega,xK 20 (aD kp) (aD (slopeL kp)) 230 234 s (by rw[RM.plain_len];exact hs) (by omega) (by rw[RM.plain_len];omega) (by omega) (gS tW) (gS (iq tW)) (by rw[pW];exact hM.bits) hsl ?_ ?_,λp2 H2 s2 hp2 e2=>?_⟩
  ·exact MV (show 231<=gr 240 0 by decide) (fK 240 (MQ _))
  ·exact MV (show 235<=gr 240 1 by decide) (fK 240 (by omega))
  have e2':H2 p2=some (.lst ((mor us 1).map V.int)):=by rw[<- eC];exact e2
  have t2:=t1.trans s2;refine⟨a,p2,kp,_,241,rfl,t2 _ _ hA,e2',tW,(iU hM.use _).tr,bW,hM.more.mono,by have:(kp.length+2)*(241+1)<=11*242:=Nz _ (by omega);omega,by omega,(iU hM.use _).ne,r1,λp3 H3 s3 hp3 e3=>?_⟩;rw[r2]at e3;exact k p3 H3 (t2.trans s3) (t2.free hp3) e3
structure Whl(fs:List Ex):Prop where
 fam:Fam fs
 l2:2<=(prQ fs).length
 l7:(prQ fs).length<=7
 bits:AllB 250 (prQ fs)
noncomputable def c8(fs:List Ex):List Ex:=bj 9 (ar (prQ fs)) (ar (slopeL (prQ fs)))
theorem rk{fs:List Ex}(hF:Fam fs)(hl:(prQ fs).length<=7){t n t' n':Int}(hn:0<n)(hn':0<n')(hlt:t*n'<t'*n):((chS (sgs t n (c8 fs))).1:Int)-(chS (sgs t' n' (c8 fs))).1=bN (aK fs) t n t' n':=by have:=JD (N:=8) (c:=1) hF.fac hF.nd (by decide) (P:=prQ fs) hF.one.symm (by omega) (by omega) hn hn' hlt;rw[AI,AI];exact this
theorem xN{fs:List Ex}(hF:Fam fs)(hl:(prQ fs).length<=7)(hb:AllB 250 (prQ fs)):Run 9 (ar (prQ fs)) (ar (slopeL (prQ fs)))/\(∀xs∈c8 fs,xs.length<=20/\AllB 95000 xs)/\(c8 fs).length<=1000000:=by
 obtain⟨r1,_,r3⟩:=DH hF.pln.tr (hb.mono) hl;refine⟨r1,λxs hx=>?_,?_⟩
 ·obtain⟨_,b,l⟩:=r3 xs hx;exact⟨by omega,b.mono⟩
 ·have:=xP 9 (ar (prQ fs)) (ar (slopeL (prQ fs)));show(bj 9 _ _).length<=_;omega
theorem fv{Q:Hp->Prop}{H1 H2:Hp}(e:H1=H2)(h:Q H2):Q H1:=by rw[e];exact h
def wE(C:Addr):Sp:=λvs H Q _=>∃(p q:Addr) (t b u d:Int),vs=[.ref p,.ref q]/\RA C H p t b/\RA C H q u d/\Bits 900 t/\Bits 900 b/\Bits 900 u/\Bits 900 d/\0<b/\0<d/\mkR C H Q (t*d+u*b) (2*b*d)
theorem Fx(F:Fun K "middle" "middle" qo f fd)(T:Txt K mg)(R:RCI K mg C)(cR:KCal P w K mg base 2 C "Ratio" ["self","top","bottom"] (dD C) gJ gH gK [.int 1]):FnOk P w K mg base CX0 4 f fd ["low","high"] (wE C):=by
 obtain⟨cM,cK,cH,c7,eK,eG⟩:=cR;refine F.ok De (λvs H Q E h=>?_) (λcdv A outer s H vs Q E hr h=>?_)
 ·obtain⟨p,q,t,b,u,d,rfl,_⟩:=h;rfl
 ·obtain⟨p,q,t,b,u,d,rfl,⟨dx,hp⟩,⟨dy,hq⟩,bt,bb,bu,bd,hb,hd,k⟩:=h;have b2:Bits 2 (2:Int):=by show(2:Int).natAbs<2^2;decide
  have b2b:Bits 902 (2*b):=b2.mul bb |>.mono
  refine⟨_,(aj (aC (dW cK cM (hr.mono) rfl cH c7 .nil bU (aa (ai bH (ai aI (aL (K:=K) rfl (pv 0) rfl) (aL (K:=K) rfl (pv 1) rfl)) (ai aI (aL (K:=K) rfl (pv 1) rfl) (aL (K:=K) rfl (pv 0) rfl))) (aa (ai aI (ai aI ad (aL (K:=K) rfl (pv 0) rfl)) (aL (K:=K) rfl (pv 1) rfl)) ac))))),?_⟩;refine⟨_,rfl,p,C,dx,_,_,rfl,hp,R.cl,R.nT,cI _ _,_,rfl,q,C,dy,_,_,rfl,hq,R.cl,R.nB,bF _ _,_,_,rfl,rfl,⟨bt.mono,bd.mono⟩,?_⟩;refine⟨_,rfl,q,C,dy,_,_,rfl,hq,R.cl,R.nT,cI _ _,_,rfl,p,C,dx,_,_,rfl,hp,R.cl,R.nB,bF _ _,_,_,rfl,rfl,⟨bu.mono,bb.mono⟩,_,_,rfl,rfl,?_⟩;refine⟨_,rfl,p,C,dx,_,_,rfl,hp,R.cl,R.nB,bF _ _,_,_,rfl,rfl,⟨b2.mono,bb.mono⟩,_,rfl,q,C,dy,_,_,rfl,hq,R.cl,R.nB,bF _ _,_,_,rfl,rfl,⟨b2b.mono,bd.mono⟩,?_⟩;exact fH (Nk (ML (by omega) hd)) ((b2b.mul bd).mono) k
theorem zp{os:Ex}{l j k:Nat}(h1:isB os l j)(h2:isB os l k):j=k:=by
 rcases Nat.lt_trichotomy j k with z |z |z
 ·obtain⟨x,hx,h⟩:=h2.2 j z;have:=h1.1 x hx;omega
 ·exact z
 ·obtain⟨x,hx,h⟩:=h1.2 k z;have:=h2.1 x hx;omega
theorem AT{ns:Ex}(h:AllB 250 ns)(hp:0<al ns){kb:Nat}(hB:isB (ns.take (ns.length-1)) (al ns).natAbs kb):kb<=252:=by
 rcases Nat.lt_or_ge kb 253 with z |z
 ·omega
 ·obtain⟨x,hx,h2⟩:=hB.2 252 (by omega);have h3:x.natAbs<2^250:=h x (O6 hx);have h4:2^250<=2^252-1:=by decide +kernel
  have h5:2^252-1<=(2^252-1)*(al ns).natAbs:=Nat.le_mul_of_pos_right _ (by omega);omega
def NL(H H':Hp):Prop:=∀c o,H c=some o->(∀xs,o≠.lst xs)->H' c=some o
theorem NL.of{H H':Hp}(s:Same H H'):NL H H':=λc o e _=>s c o e
theorem NL.upd{H:Hp}{p:Addr}{xs:List V}{o:HO}(hp:H p=some (.lst xs)):NL H (upd H p o):=λc o' e hn=>by
 have:c≠p:=λz=>by rw[z,hp]at e;exact hn xs (Option.some.inj e).symm
 rw[upd_ne this];exact e
theorem NL.trans{H1 H2 H3:Hp}(a:NL H1 H2)(b:NL H2 H3):NL H1 H3:=λc o e hn=>b c o (a c o e hn) hn
theorem RA.nl{C:Addr}{H H':Hp}{p:Addr}{t b:Int}(h:RA C H p t b)(s:NL H H'):RA C H' p t b:=let⟨dx,e⟩:=h;⟨dx,s _ _ e (λ_=>by simp)⟩
structure Cel where
 q:Addr
 lo:Addr
 hi:Addr
 l1:Int
 l2:Int
 h1:Int
 h2:Int
 d:Nat
noncomputable def VV(fs:List Ex)(t n:Int):Int:=(chS (sgs t n (c8 fs))).1
noncomputable def Cel.cn(x:Cel)(fs:List Ex):Int:=bN (aK fs) x.l1 x.l2 x.h1 x.h2
def Cel.inn(x:Cel)(s:Ex):Prop:=0<au s x.l1 x.l2/\au s x.h1 x.h2<=0
structure WtH(C:Addr)(H:Hp)(fs:List Ex)(kb:Nat)(x:Cel):Prop where
 tup:H x.q=some (.tup [.ref x.lo,.ref x.hi,.int (VV fs x.l1 x.l2),.int (VV fs x.h1 x.h2)])
 lo:RA C H x.lo x.l1 x.l2
 hi:RA C H x.hi x.h1 x.h2
 dy:Dya (2^kb) x.d x.l1 x.l2 x.h1 x.h2
 dd:x.d<=kb+201
theorem WtH.nl{C:Addr}{H H':Hp}{fs:List Ex}{kb:Nat}{x:Cel}(h:WtH C H fs kb x)(s:NL H H'):WtH C H' fs kb x:=⟨s _ _ h.tup (λ_=>by simp),h.lo.nl s,h.hi.nl s,h.dy,h.dd⟩
structure FdH(C:Addr)(H:Hp)(fs:List Ex)(kb:Nat)(x:Cel):Prop where
 tup:H x.q=some (.tup [.ref x.lo,.ref x.hi])
 lo:RA C H x.lo x.l1 x.l2
 hi:RA C H x.hi x.h1 x.h2
 dy:Dya (2^kb) x.d x.l1 x.l2 x.h1 x.h2
 dd:x.d<=kb+201
 one:x.cn fs=1
theorem FdH.nl{C:Addr}{H H':Hp}{fs:List Ex}{kb:Nat}{x:Cel}(h:FdH C H fs kb x)(s:NL H H'):FdH C H' fs kb x:=⟨s _ _ h.tup (λ_=>by simp),h.lo.nl s,h.hi.nl s,h.dy,h.dd,h.one⟩
theorem nQ{kb d:Nat}{l1 l2 h1 h2:Int}(h:Dya (2^kb) d l1 l2 h1 h2)(hk:kb<=252)(hd:d<=kb+201):Bits 710 l1/\Bits 710 l2/\Bits 710 h1/\Bits 710 h2:=by obtain⟨⟨a,b⟩,c,e⟩:=h.bits;have hp:2^(kb+d)<2^710:=(O8 (by decide)).mpr (by omega);exact⟨Ob a hp,Ob b hp,Ob c hp,Ob e hp⟩
theorem Ae{kb d:Nat}{l1 l2 h1 h2:Int}(h:Dya (2^kb) d l1 l2 h1 h2)(hk:kb<=252)(hd:d<=kb+201):EndsG 710 l1 l2 h1 h2:=by obtain⟨a,b,c,e⟩:=nQ h hk hd;exact⟨h.l2p,h.h2p,a,b,c,e,h.lt (NB (by decide)),h.gl,h.gh⟩
noncomputable def wgt(fs:List Ex)(kb:Nat)(x:Cel):Nat:=1+2*((x.cn fs).toNat*(kb+201-x.d))
noncomputable def fg(fs:List Ex)(kb:Nat)(ws:List Cel):Nat:=(ws.map (wgt fs kb)).sum
theorem ja(fs:List Ex)(kb:Nat)(ws:List Cel)(x:Cel):fg fs kb (ws++[x])=fg fs kb ws+wgt fs kb x:=by unfold fg;rw[Nl,List.sum_append];simp
theorem oA(fs:List Ex)(kb:Nat):∀ws:List Cel,ws.length<=fg fs kb ws
 | []=>MJ _
 |x::ws=>by have:=oA fs kb ws;show ws.length+1<=wgt fs kb x+fg fs kb ws;unfold wgt;omega
noncomputable def qs(ws:List Cel):List V:=ws.map λx=>V.ref x.q
theorem mL(ws:List Cel)(x:Cel):qs (ws++[x])=qs ws++[V.ref x.q]:=by unfold qs;rw[Nl];rfl
theorem AD(l1 l2 h1 h2:Int):∀ls:List Ex,bN ls l1 l2 h1 h2<=ls.length
 | []=>Nr _
 |l::ls=>by rw[gM];have:=AD l1 l2 h1 h2 ls;rw[Nh];split<;>omega
theorem v4:∀fs:List Ex,(aK fs).length<=2*fs.length
 | []=>MJ _
 |f::fs=>by
  have:=v4 fs;show(spF f++aK fs).length<=2*(fs.length+1);rw[MX]
  have h2:(spF f).length<=2:=by unfold spF;rw[MX];split<;>split<;>simp
  omega
theorem IT{fs:List Ex}(h:Fam fs):fs.length+1<=(prQ fs).length:=by
 have hp:=h.pri;rw[h.prd];generalize hs:fs.map ah=ss at hp
 have e:fs.length=ss.length:=by rw[<- hs,MI]
 rw[e];clear e hs h
 induction ss with
 |nil=>simp[prd]
 |cons s ss ih =>
  have h1:=ih λx hx=>hp x (MK _ hx)
  have h2:=hp s (MP ..);have h3:Pln (prd ss):=iG ss λx hx=>(hp x (MK _ hx)).pln
  have h4:=bM h2.pln.ne h3.ne;have h5:=h2.two;show ss.length+1+1<=(af s (prd ss)).length;omega
def cov(s:Ex)(xs:List Cel):Prop:=∃x∈xs,x.inn s
theorem cov_snoc{s:Ex}{xs:List Cel}{x:Cel}:cov s (xs++[x])↔cov s xs\/x.inn s:=by
 constructor
 ·rintro⟨y,hy,h⟩;rcases Nb.mp hy with z |z
  ·exact .inl ⟨y,z,h⟩
  ·rw[MO.mp z]at h;exact .inr h
 ·rintro(⟨y,hy,h⟩ |h)
  ·exact⟨y,NI _ hy,h⟩
  ·exact⟨x,by simp,h⟩
noncomputable def loR(x:Cel):Rat:=(x.l1:Rat)/(x.l2:Rat)
noncomputable def hiR(x:Cel):Rat:=(x.h1:Rat)/(x.h2:Rat)
def dj(xs:List Cel):Prop:=xs.Pairwise λx y=>hiR x<=loR y
theorem DM{ys B:List Cel}{x:Cel}(h:dj (ys++x::B)):dj (ys++B):=List.Pairwise.sublist (List.Sublist.append_left (List.sublist_cons_self _ _) _) h
theorem DL{ys B:List Cel}{x x':Cel}(h1:loR x=loR x')(h2:hiR x=hiR x')(h:dj (ys++x::B)):dj (ys++x'::B):=by
 obtain⟨a,b,c⟩:=OD.mp h;obtain⟨b1,b2⟩:=NW.mp b;refine OD.mpr ⟨a,NW.mpr ⟨λz hz=>by rw[<- h2];exact b1 z hz,b2⟩,λy hy z hz=>?_⟩;rcases MM.mp hz with e |e
 ·rw[e,<- h1];exact c y hy x (MP ..)
 ·exact c y hy z (MK _ e)
theorem DN{ys B:List Cel}{x l r:Cel}(h1:loR l=loR x)(h2:hiR l=loR r)(h3:hiR r=hiR x)(h4:loR l<=hiR l)(h5:loR r<=hiR r)(h:dj (ys++x::B)):dj (ys++l::r::B):=by
 obtain⟨a,b,c⟩:=OD.mp h;obtain⟨b1,b2⟩:=NW.mp b;refine OD.mpr ⟨a,NW.mpr ⟨λz hz=>?_,NW.mpr ⟨λz hz=>by rw[h3];exact b1 z hz,b2⟩⟩,λy hy z hz=>?_⟩
 ·rcases MM.mp hz with e |e
  ·rw[e,h2];exact Na
  ·rw[h2];exact OR h5 (by rw[h3];exact b1 z e)
 ·have hx:=c y hy x (MP ..);rcases MM.mp hz with e |e
  ·rw[e,h1];exact hx
  rcases MM.mp e with e |e
  ·rw[e,<- h2];exact OR hx (by rw[<- h1];exact h4)
  ·exact c y hy z (MK _ e)
def o8(C:Addr):Sp:=λvs H Q _=>(∃(a:Addr) (fs:List Ex),vs=[.ref a]/\H a=some (.lst ((prQ fs).map V.int))/\Whl fs /\
 ∀(kb:Nat) (p:Addr) (ys:List Cel) (H':Hp),kb<=252->isB ((prQ fs).take ((prQ fs).length-1)) (al (prQ fs)).natAbs kb->Same H H'->H p=none->H' p=some (.lst (qs ys))->(∀y∈ys,FdH C H' fs kb y)->(∀s∈aK fs,cov s ys)->ys.length<=12000->dj ys->Q (.ref p) H')\/(∃(a:Addr) (ns:Ex),vs=[.ref a]/\H a=some (.lst (ns.map V.int))/\ns.length<=1/\mkL H Q [])
theorem FN(F:Fun K "cells" "cells" qD f fd)(T:Txt K mg)(R:RCI K mg C)(eN:Cal P w K mg base 1 "degree" ["row"] jd nN nM)(uR:Cal P w K mg base 35 "row_of" ["polynomial"] oW I0 IB)(cR:KCal P w K mg base 2 C "Ratio" ["self","top","bottom"] (dD C) gJ gH gK [.int 1])(ol:Cal P w K mg base 1 "bound" ["row"] (o9 K) Je IH)(jS:Cal P w K mg base 3 "changes" ["row","ratio"] (o7 C) Jc IF)(KA:Cal P w K mg base 4 "middle" ["low","high"] (wE C) Me Lq):FnOk P w K mg base CX0 36 f fd ["row"] (o8 C):=by
 obtain⟨cM,cK,cH,c7,eK,eG⟩:=cR;refine F.ok fj (λvs H Q E h=>?_) (λcdv A outer s H vs Q E hr h=>?_)
 ·rcases h with⟨a,fs,rfl,_⟩ |⟨a,ns,rfl,_⟩<;>rfl
 ·obtain⟨a,rfl⟩:∃a,vs=[.ref a]:=by rcases h with⟨a,fs,rfl,_⟩ |⟨a,ns,rfl,_⟩<;>exact⟨_,rfl⟩
  have big:=sizeLine_eq
  refine⟨_,(ag (aR (aG cT (aq eN hr (aa (pv 0) ac)) ad)
   (aj (aC (aP ac)))
   aS)
   (ag (ao 1 fj (aq uR hr (aa (pv 0) ac)))
   (ag (ao 2 fj (dW cK cM (hr.mono) rfl cH eK eG bU (aa (aq ol hr (aa (pv 0) ac)) ac)))
   (ag (ao 3 fj (dW cK cM (hr.mono) rfl cH eK eG bU (aa (bC bA (aq ol hr (aa (pv 0) ac))) ac)))
   (ag (ao 4 fj (aP (aa (cZ (aa (pv 3) (aa (pv 2) (aa (aq jS hr (aa (pv 1) (aa (pv 3) ac))) (aa (aq jS hr (aa (pv 1) (aa (pv 2) ac))) ac))))) ac)))
   (ag (ao 5 fj (aP ac))
   (ag (eR PassesOwn.never (aG cQ (ca K T.len_ (aa (pv 4) ac)) ad)
     (ag (ao 6 fj (yl PySem.F.plainAttrs_list PySem.F.slot_list_pop PySem.F.type_list_pop GO (pv 4)))
       (ag (ao 7 fj (ai bQ (aU K (pv 6) ad) (aU K (pv 6) ad)))
       (ag (aR (aG cU (pv 7) ad)
         (aj (dq (fC (pv 5) (aa (cZ (aa (aU K (pv 6) ad) (aa (aU K (pv 6) ad) ac))) ac))))
         aS)
       (aj (aR (aG cQ (pv 7) ad)
         (ag (ao 8 fj (aq KA hr (aa (aU K (pv 6) ad) (aa (aU K (pv 6) ad) ac))))
           (ag (ao 9 fj (aq jS hr (aa (pv 1) (aa (pv 8) ac))))
           (ag (dq (fC (pv 4) (aa (cZ (aa (pv 8) (aa (aU K (pv 6) ad) (aa (pv 9) (aa (aU K (pv 6) ad) ac))))) ac)))
           (aj (dq (fC (pv 4) (aa (cZ (aa (aU K (pv 6) ad) (aa (pv 8) (aa (aU K (pv 6) ad) (aa (pv 9) ac))))) ac)))))))
         aS))))))
   (aj (aC (pv 5)))))))))),?_⟩
  rcases h with⟨a',fs,ea,hA,hW,k⟩ |⟨a',ns,ea,hA,hl1,k⟩
  rotate_left
  ·cases ea;refine bn ⟨_,rfl,a,_,rfl,hA,_,_,rfl,rfl,_,rfl,aH (λ_=>?_) (λh0=>absurd (show((ns.map V.int).length:Int)-1<1 by rw[MI];omega) h0)⟩;exact aV ⟨MQ _,λp hp=>k p _ (Same.upd_new hp) hp ap⟩
  cases ea;have hP:=hW.fam.pln;have l7:=hW.l7;have l2':=hW.l2;have hml:((prQ fs).map V.int).length=(prQ fs).length:=MI _;obtain⟨rn,rx,rl⟩:=xN hW.fam l7 hW.bits;refine bn ⟨_,rfl,a,_,rfl,hA,_,_,rfl,rfl,_,rfl,aH (λh0=>absurd (show(((prQ fs).map V.int).length:Int)-1<1 from h0) (by rw[hml];omega)) (λ_=>?_)⟩;refine av ⟨_,rfl,a,prQ fs,9,rfl,hA,hP.tr,hW.bits.mono,by omega,by decide,rn,λpc ps H1 s1 hpc hnew ec hR=>?_⟩;have hR':RwH H1 ps (c8 fs):=hR;refine av ⟨_,rfl,a,prQ fs,rfl,SqL.of (s1 _ _ hA),hP.tr,hP.ne,by omega,hW.bits.mono,λkb H2 hkb hB s2=>fH (t:=((2^kb:Nat):Int)) (b:=1) (by decide) (b1k (by decide)) λph H3 s3 hph hRh=>?_⟩;rw[rj,rC]at hRh;have t3:=(s1.trans s2).trans s3;refine av ⟨_,rfl,a,prQ fs,rfl,SqL.of (t3 _ _ hA),hP.tr,hP.ne,by omega,hW.bits.mono,λkb' H4 hkb' hB' s4=>?_⟩;obtain rfl:=zp hB hB';refine⟨_,rfl,fH (t := -((2^kb:Nat):Int)) (b:=1) (by decide) (b1k (by decide)) λpl H5 s5 hpl hRl=>?_⟩;rw[rj,rC]at hRl;have hk:=AT hW.bits hP.pos hB;have eB:((2^kb:Nat):Int)=(2:Int)^kb:=by rw[OF];rfl
  rw[eB]at hRh hRl;have B0:(0:Int)<2^kb:=NB (by decide);have t5:=(t3.trans s4).trans s5;have u5:=(s2.trans s3).trans (s4.trans s5);have ec5:=u5 _ _ ec;have hR5:=hR'.same u5;have hRh5:=hRh.same (s4.trans s5);have dy0:Dya (2^kb) 0 (-(2^kb)) 1 (2^kb) 1:=Dya.start;obtain⟨b1,b2,b3,b4⟩:=nQ dy0 hk (by omega);refine av ⟨_,rfl,_,rfl,_,rfl,_,rfl,pc,pl,ps,c8 fs,_,_,rfl,ec5,hR5,hRl,b1.mono,b2.mono,rx,rl,λH6 s6=>?_⟩;refine⟨_,rfl,_,rfl,pc,ph,ps,c8 fs,_,_,rfl,s6 _ _ ec5,hR5.same s6,hRh5.same s6,b3.mono,b4.mono,rx,rl,λH7 s7=>⟨by show 4<=sizeLine;omega,λq0 hq0=>⟨by show 1<=sizeLine;omega,λpw hpw=>?_⟩⟩⟩;have u7:=s6.trans s7;have ec7:=u7 _ _ ec5;have hR7:=hR5.same u7;have hRl7:=hRl.same u7;have hRh7:=hRh5.same u7;have t7:=t5.trans u7;have w7:Same H7 (upd H7 q0 (.tup [.ref pl,.ref ph,.int (VV fs (-(2^kb)) 1),.int (VV fs (2^kb) 1)])):=Same.upd_new hq0;have e8:upd H7 q0 (.tup [.ref pl,.ref ph,.int (VV fs (-(2^kb)) 1),.int (VV fs (2^kb) 1)]) q0=some (.tup [.ref pl,.ref ph,.int (VV fs (-(2^kb)) 1),.int (VV fs (2^kb) 1)]):=ap;have hpw':upd H7 q0 (.tup [.ref pl,.ref ph,.int (VV fs (-(2^kb)) 1),.int (VV fs (2^kb) 1)]) pw=none:=hpw;refine av ⟨MQ _,λpf hpf=>?_⟩;have hpf':upd (upd H7 q0 (.tup [.ref pl,.ref ph,.int (VV fs (-(2^kb)) 1),.int (VV fs (2^kb) 1)])) pw (.lst [V.ref q0]) pf=none:=hpf;show cN _ _ _ _ _;refine dm (λσ' H'=>σ'=[some (.ref a),some (.ref pc),some (.ref ph),some (.ref pl),some (.ref pw),some (.ref pf),none,none,none,none]/\upd (upd (upd H7 q0 (.tup [.ref pl,.ref ph,.int (VV fs (-(2^kb)) 1),.int (VV fs (2^kb) 1)])) pw (.lst [V.ref q0])) pf (.lst [])=H') ⟨rfl,rfl⟩ ?_;rintro σ' H10 ⟨rfl,eH10⟩;generalize upd H7 q0 (.tup [.ref pl,.ref ph,.int (VV fs (-(2^kb)) 1),.int (VV fs (2^kb) 1)])=H8 at w7 e8 hpw' hpf' eH10
  have sw:Same H8 (upd H8 pw (.lst [V.ref q0])):=Same.upd_new hpw';have sf:Same (upd H8 pw (.lst [V.ref q0])) H10:=by rw[<- eH10];exact Same.upd_new hpf'
  have s810:=sw.trans sf;have fw:H8 pw=none:=hpw';have ff:H8 pf=none:=sw.free hpf';have nwf:pw≠pf:=aN (ap (H:=H8) (o:=.lst [V.ref q0])) hpf';have ew10:H10 pw=some (.lst [V.ref q0]):=sf _ _ ap;have ef10:H10 pf=some (.lst []):=by rw[<- eH10];exact ap
  have x0w:WtH C H10 fs kb ⟨q0,pl,ph,-(2^kb),1,2^kb,1,0⟩:=⟨s810 _ _ e8,hRl7.same (w7.trans s810),hRh7.same (w7.trans s810),dy0,MQ _⟩
  have cov0:∀s∈aK fs,cov s [⟨q0,pl,ph,-(2^kb),1,2^kb,1,0⟩]:=λs hs=>by obtain⟨z1,z2⟩:=v6 hW.fam.fac hW.fam.nd (B:=2^kb) (N0 (by decide)) hB.1 hs;rw[eB]at z1 z2;exact⟨_,MO.mpr rfl,z2,MN z1⟩
  clear eH10 sw sf;have hsp:=v4 fs;have hfl:=IT hW.fam
  have hm0:fg fs kb [⟨q0,pl,ph,-(2^kb),1,2^kb,1,0⟩]<=11000:=by
   show wgt fs kb _+0<=11000;unfold wgt;have h1:=AD (-(2^kb)) 1 (2^kb) 1 (aK fs)
   have h2:(Cel.cn ⟨q0,pl,ph,-(2^kb),1,2^kb,1,0⟩ fs).toNat<=12:=by show(bN (aK fs) (-(2^kb)) 1 (2^kb) 1).toNat<=12;omega
   have h3:=N4 h2 (show kb+201-0<=453 by omega);have h4:(kb+201-(Cel.mk q0 pl ph (-(2^kb)) 1 (2^kb) 1 0).d)=kb+201-0:=rfl;rw[h4];omega
  refine⟨λm σ' H'=>∃(ws ys:List Cel) (z6 z7 z8 z9:Option V),m=fg fs kb ws/\σ'=[some (.ref a),some (.ref pc),some (.ref ph),some (.ref pl),some (.ref pw),some (.ref pf),z6,z7,z8,z9]/\Same H8 H'/\H' pw=some (.lst (qs ws))/\H' pf=some (.lst (qs ys))/\(∀x∈ws,WtH C H' fs kb x)/\(∀y∈ys,FdH C H' fs kb y)/\(∀s∈aK fs,cov s ws\/cov s ys)/\ys.length+m<=11000/\dj (ys++ws.reverse),
   ⟨_,[⟨q0,pl,ph,-(2^kb),1,2^kb,1,0⟩],[],none,none,none,none,rfl,rfl,s810,ew10,ef10,λx hx=>by rw[MO.mp hx];exact x0w,(λy hy=>nomatch hy),λs hs=>.inl (cov0 s hs),by show 0+_<=_;omega,by show dj [_];exact List.pairwise_singleton _ _⟩,?_⟩
  clear hm0 cov0 x0w ew10 ef10 s810;rintro m σ' H' ⟨ws,ys,z6,z7,z8,z9,rfl,rfl,sm,ew,ef,hws,hys,hcov,hlen,hri⟩;have hwl:=oA fs kb ws;have hql:(qs ws).length=ws.length:=MI _;refine⟨_,rfl,pw,_,rfl,.inl (SqL.of ew),_,_,rfl,rfl,_,rfl,aH (λhgt=>?_) (λhle=>?_)⟩
  rotate_left
  ·
   have h0:ws=[]:=Op.mp (by have:¬((qs ws).length:Int)>0:=hle;rw[hql]at this;omega);subst h0;refine⟨_,rfl,k kb pf ys H' hk hB (t7.trans (w7.trans sm)) ((t7.trans w7).free ff) ef hys (λs hs=>?_) (by omega) (by rw[List.reverse_nil,Oj]at hri;exact hri)⟩;rcases hcov s hs with⟨x,hx,_⟩ |z
   ·cases hx
   ·exact z
  ·have hne:ws≠[]:=λz=>by rw[z]at hql;have:((qs ws).length:Int)>0:=hgt;rw[z]at this;exact absurd this (by decide)
   obtain⟨ws',x,rfl⟩:∃ws' x,ws=ws'++[x]:=⟨ws.dropLast,ws.getLast hne,(List.dropLast_concat_getLast hne).symm⟩;rw[ja]at hlen
   replace hri:dj (ys++x::ws'.reverse):=by rw[O0]at hri;exact hri
   rw[mL]at ew;have hx:=hws x (by simp);have hw':∀y∈ws',WtH C H' fs kb y:=λy hy=>hws y (by simp[hy])
   clear hws hql hgt hne;have hwl:=oA fs kb ws';refine⟨_,λ_ _ h=>h,?_⟩;rw[ja];refine av ⟨_,rfl,.inl ⟨rfl,_,SqL.of ew⟩,pw,_,V.ref x.q,rfl,rfl,ew,by rw[MX];simp,?_⟩;rw[List.dropLast_concat];have ew1:upd H' pw (.lst (qs ws')) pw=some (.lst (qs ws')):=ap;have ef1:upd H' pw (.lst (qs ws')) pf=some (.lst (qs ys)):=by rw[upd_ne (Ne.symm nwf)];exact ef
   have n1:NL H' (upd H' pw (.lst (qs ws'))):=NL.upd ew;have sm1:Same H8 (upd H' pw (.lst (qs ws'))):=dI sm fw;generalize upd H' pw (.lst (qs ws'))=K1 at ew1 ef1 n1 sm1 ⊢
   have hx1:=hx.nl n1;have hw1:∀y∈ws',WtH C K1 fs kb y:=λy hy=>(hw' y hy).nl n1
   have hy1:∀y∈ys,FdH C K1 fs kb y:=λy hy=>(hys y hy).nl n1
   clear hw' hys ew ef sm n1 hx;refine av ⟨_,rfl,x.q,_,_,_,rfl,rfl,SqT.of hx1.tup,rfl,_,rfl,x.q,_,_,_,rfl,rfl,SqT.of hx1.tup,rfl,_,_,rfl,rfl,?_⟩;have ecn:VV fs x.l1 x.l2-VV fs x.h1 x.h2=x.cn fs:=rk hW.fam l7 hx1.dy.l2p hx1.dy.h2p (hx1.dy.lt B0);dsimp only
   rw[ecn];have cn0:0<=x.cn fs:=li _ _ _ _ _;refine gY (λσ' H'=>∃ys:List Cel,σ'=[some (.ref a),some (.ref pc),some (.ref ph),some (.ref pl),some (.ref pw),some (.ref pf),some (.ref x.q),some (.int (x.cn fs)),z8,z9]/\Same H8 H'/\H' pw=some (.lst (qs ws'))/\H' pf=some (.lst (qs ys))/\WtH C H' fs kb x/\(∀y∈ws',WtH C H' fs kb y)/\(∀y∈ys,FdH C H' fs kb y)/\(∀s∈aK fs,cov s ws'\/(x.cn fs≠1/\x.inn s)\/cov s ys)/\ys.length+fg fs kb ws'+(if x.cn fs=1 then 0 else wgt fs kb x)<=11000/\(x.cn fs≠1->dj (ys++x::ws'.reverse))/\dj (ys++ws'.reverse)) ?_ ?_
   case refine_2 =>
    intro rest;refine⟨_,rfl,_,_,rfl,rfl,_,rfl,aH (λh1=>?_) (λh1=>?_)⟩
    ·have h1':x.cn fs=1:=h1;refine kB ⟨_,rfl,.inl ⟨rfl,_,SqL.of ef1⟩,_,rfl,x.q,_,_,_,rfl,rfl,SqT.of hx1.tup,rfl,_,rfl,x.q,_,_,_,rfl,rfl,SqT.of hx1.tup,rfl,by show 2<=sizeLine;omega,λp hp=>?_⟩;have s2:Same K1 (upd K1 p (.tup [V.ref x.lo,V.ref x.hi])):=Same.upd_new hp;have e2:upd K1 p (.tup [V.ref x.lo,V.ref x.hi]) p=some (.tup [V.ref x.lo,V.ref x.hi]):=ap;generalize upd K1 p (.tup [V.ref x.lo,V.ref x.hi])=K2 at s2 e2 ⊢
     have ef2:=s2 _ _ ef1;have hyl:(qs ys).length=ys.length:=MI _;refine⟨pf,_,_,rfl,rfl,ef2,by rw[hyl];omega,?_⟩;have n3:NL K1 (upd K2 pf (.lst (qs ys++[V.ref p]))):=(NL.of s2).trans (NL.upd ef2);have n4:NL K2 (upd K2 pf (.lst (qs ys++[V.ref p]))):=NL.upd ef2;refine rest _ _ ⟨ys++[⟨p,x.lo,x.hi,x.l1,x.l2,x.h1,x.h2,x.d⟩],rfl,dI (sm1.trans s2) ff,by rw[upd_ne nwf];exact s2 _ _ ew1,by rw[ap,mL],hx1.nl n3,λy hy=>(hw1 y hy).nl n3,λy hy=>?_,λs hs=>?_,?_,λz=>absurd h1' z,?_⟩
     ·rcases Nb.mp hy with z |z
      ·exact(hy1 y z).nl n3
      ·rw[MO.mp z];exact⟨n4 _ _ e2 (λ_=>by simp),hx1.lo.nl n3,hx1.hi.nl n3,hx1.dy,hx1.dd,h1'⟩
     ·rcases hcov s hs with z |z
      ·rcases cov_snoc.mp z with z |z
       ·exact .inl z
       ·exact .inr (.inr (cov_snoc.mpr (.inr z)))
      ·exact .inr (.inr (cov_snoc.mpr (.inl z)))
     ·rw[if_pos h1',MX];show ys.length+1+_+0<=_;have:1<=wgt fs kb x:=by unfold wgt;omega
      omega
     ·rw[Ox];exact DL (x:=x) rfl rfl hri
    ·have h1':¬x.cn fs=1:=h1;refine rest _ _ ⟨ys,rfl,sm1,ew1,ef1,hx1,hw1,hy1,λs hs=>?_,by rw[if_neg h1'];omega,λ_=>hri,DM hri⟩;rcases hcov s hs with z |z
     ·rcases cov_snoc.mp z with z |z
      ·exact .inl z
      ·exact .inr (.inl ⟨h1',z⟩)
     ·exact .inr (.inr z)
   clear hcov hlen hri hy1 hw1 hx1 ef1 ew1 sm1 ys;rintro σ' K3 ⟨ys,rfl,sm1,ew1,ef1,hx1,hw1,hy1,hcov,hlen,hri1,hri2⟩;refine⟨_,rfl,_,_,rfl,rfl,_,rfl,aH (λh2=>?_) (λh2=>?_)⟩
   rotate_left
   ·
    have h2':¬x.cn fs>1:=h2;refine⟨fg fs kb ws',by unfold wgt;omega,ws',ys,_,_,_,_,rfl,rfl,sm1,ew1,ef1,hw1,hy1,λs hs=>?_,by split at hlen<;>omega,hri2⟩;rcases hcov s hs with z |⟨z1,z2⟩ |z
    ·exact .inl z
    ·have:1<=x.cn fs:=AC hs z2;omega
    ·exact .inr z
   have h2':x.cn fs>1:=h2;rw[if_neg (show ¬x.cn fs=1 by omega)]at hlen
   have hdl:x.d<kb+201:=Nat.not_le.mp λz=>by have:x.cn fs<=1:=Dya.few hW.fam.fac hW.fam.nd hx1.dy z;omega
   obtain⟨c1,c2,c3,c4⟩:=nQ hx1.dy hk hx1.dd;refine av ⟨_,rfl,x.q,_,_,_,rfl,rfl,SqT.of hx1.tup,rfl,_,rfl,x.q,_,_,_,rfl,rfl,SqT.of hx1.tup,rfl,x.lo,x.hi,_,_,_,_,rfl,hx1.lo,hx1.hi,c1.mono,c2.mono,c3.mono,c4.mono,hx1.dy.l2p,hx1.dy.h2p,λpm K4 s4 hpm hRm=>?_⟩;have n0:2*x.l2*x.h2≠0:=Nk (ML (by have:=hx1.dy.l2p;omega) hx1.dy.h2p);obtain⟨dl,dr⟩:=hx1.dy.half (dS n0) (rD n0) (gZ n0);generalize rt (x.l1*x.h2+x.h1*x.l2) (2*x.l2*x.h2)=m1 at hRm dl dr
   generalize rb (x.l1*x.h2+x.h1*x.l2) (2*x.l2*x.h2)=m2 at hRm dl dr
   have hx4:=hx1.nl (NL.of s4);obtain⟨g1,g2,g3,g4⟩:=nQ dl hk (by omega);have sm4:=sm1.trans s4;refine av ⟨_,rfl,_,rfl,pc,pm,ps,c8 fs,m1,m2,rfl,sm4 _ _ (w7 _ _ ec7),hR7.same (w7.trans sm4),hRm,g3.mono,g4.mono,rx,rl,λK5 s5=>?_⟩;have hx5:=hx4.nl (NL.of s5);have u5:=s4.trans s5;refine gd ⟨_,rfl,.inl ⟨rfl,_,SqL.of (u5 _ _ ew1)⟩,_,rfl,_,rfl,x.q,_,_,_,rfl,rfl,SqT.of hx5.tup,rfl,_,rfl,_,rfl,x.q,_,_,_,rfl,rfl,SqT.of hx5.tup,rfl,by show 4<=sizeLine;omega,λq1 hq1=>?_⟩;have s6:Same K5 (upd K5 q1 (.tup [V.ref pm,V.ref x.hi,V.int (VV fs m1 m2),V.int (VV fs x.h1 x.h2)])):=Same.upd_new hq1;have e6:upd K5 q1 (.tup [V.ref pm,V.ref x.hi,V.int (VV fs m1 m2),V.int (VV fs x.h1 x.h2)]) q1=some (.tup [V.ref pm,V.ref x.hi,V.int (VV fs m1 m2),V.int (VV fs x.h1 x.h2)]):=ap;refine fv (H2:=upd K5 q1 (.tup [V.ref pm,V.ref x.hi,V.int (VV fs m1 m2),V.int (VV fs x.h1 x.h2)])) rfl ?_;generalize upd K5 q1 (.tup [V.ref pm,V.ref x.hi,V.int (VV fs m1 m2),V.int (VV fs x.h1 x.h2)])=K6 at s6 e6 ⊢
   have u6:=u5.trans s6;have ew6:=u6 _ _ ew1;have ef6:=u6 _ _ ef1;have hql:(qs ws').length=ws'.length:=MI _;refine⟨pw,_,_,rfl,rfl,ew6,by rw[hql];omega,?_⟩;have ew7:upd K6 pw (.lst (qs ws'++[V.ref q1])) pw=some (.lst (qs ws'++[V.ref q1])):=ap;have ef7:upd K6 pw (.lst (qs ws'++[V.ref q1])) pf=some (.lst (qs ys)):=by rw[upd_ne (Ne.symm nwf)];exact ef6
   have n7:NL K6 (upd K6 pw (.lst (qs ws'++[V.ref q1]))):=NL.upd ew6;have sm7:Same H8 (upd K6 pw (.lst (qs ws'++[V.ref q1]))):=dI (sm1.trans u6) fw;generalize upd K6 pw (.lst (qs ws'++[V.ref q1]))=K7 at ew7 ef7 n7 sm7 ⊢
   have m5:NL K5 K7:=(NL.of s6).trans n7;have hx7:=hx5.nl m5;refine kB ⟨_,rfl,.inl ⟨rfl,_,SqL.of ew7⟩,_,rfl,x.q,_,_,_,rfl,rfl,SqT.of hx7.tup,rfl,_,rfl,_,rfl,x.q,_,_,_,rfl,rfl,SqT.of hx7.tup,rfl,_,rfl,by show 4<=sizeLine;omega,λq2 hq2=>?_⟩;have s8:Same K7 (upd K7 q2 (.tup [V.ref x.lo,V.ref pm,V.int (VV fs x.l1 x.l2),V.int (VV fs m1 m2)])):=Same.upd_new hq2;have e8':upd K7 q2 (.tup [V.ref x.lo,V.ref pm,V.int (VV fs x.l1 x.l2),V.int (VV fs m1 m2)]) q2=some (.tup [V.ref x.lo,V.ref pm,V.int (VV fs x.l1 x.l2),V.int (VV fs m1 m2)]):=ap;refine fv (H2:=upd K7 q2 (.tup [V.ref x.lo,V.ref pm,V.int (VV fs x.l1 x.l2),V.int (VV fs m1 m2)])) rfl ?_;generalize upd K7 q2 (.tup [V.ref x.lo,V.ref pm,V.int (VV fs x.l1 x.l2),V.int (VV fs m1 m2)])=K8 at s8 e8' ⊢
   have ew8:=s8 _ _ ew7;have hql8:(qs ws'++[V.ref q1]).length=ws'.length+1:=by rw[MX,hql];rfl
   refine⟨pw,_,_,rfl,rfl,ew8,by rw[hql8];omega,?_⟩;have n9:NL K8 (upd K8 pw (.lst ((qs ws'++[V.ref q1])++[V.ref q2]))):=NL.upd ew8;have m7:NL K7 (upd K8 pw (.lst ((qs ws'++[V.ref q1])++[V.ref q2]))):=(NL.of s8).trans n9;have m6:=n7.trans m7;have mm5:=m5.trans m7;have m3:=(NL.of u5).trans mm5;have ladd:x.cn fs=(Cel.mk q2 x.lo pm x.l1 x.l2 m1 m2 (x.d+1)).cn fs+(Cel.mk q1 pm x.hi m1 m2 x.h1 x.h2 (x.d+1)).cn fs:=JJ hW.fam.q dl.l2p dl.h2p dr.h2p (dl.lt B0) (dr.lt B0)
   have wl:wgt fs kb ⟨q1,pm,x.hi,m1,m2,x.h1,x.h2,x.d+1⟩+wgt fs kb ⟨q2,x.lo,pm,x.l1,x.l2,m1,m2,x.d+1⟩<wgt fs kb x:=by
    have p1:0<=(Cel.mk q2 x.lo pm x.l1 x.l2 m1 m2 (x.d+1)).cn fs:=li _ _ _ _ _;have p2:0<=(Cel.mk q1 pm x.hi m1 m2 x.h1 x.h2 (x.d+1)).cn fs:=li _ _ _ _ _;unfold wgt;show 1+2*(_*(kb+201-(x.d+1)))+(1+2*(_*(kb+201-(x.d+1))))<_;generalize (Cel.mk q2 x.lo pm x.l1 x.l2 m1 m2 (x.d+1)).cn fs=A at *
    generalize (Cel.mk q1 pm x.hi m1 m2 x.h1 x.h2 (x.d+1)).cn fs=B at *
    obtain⟨A,rfl⟩:=OJ p1;obtain⟨B,rfl⟩:=OJ p2;obtain⟨t,ht⟩:∃t,kb+201-x.d=t+1:=⟨kb+201-x.d-1,by omega⟩;have ht':kb+201-(x.d+1)=t:=by omega
    have hc:(x.cn fs).toNat=A+B:=by omega
    rw[hc,ht,ht'];show 1+2*(B*t)+(1+2*(A*t))<1+2*((A+B)*(t+1));have e1:(A+B)*(t+1)=A*t+B*t+(A+B):=by rw[Nat.mul_succ,OB]
    rw[e1];omega
   refine⟨fg fs kb (ws'++[⟨q1,pm,x.hi,m1,m2,x.h1,x.h2,x.d+1⟩]++[⟨q2,x.lo,pm,x.l1,x.l2,m1,m2,x.d+1⟩]),by rw[ja,ja];omega,_,ys,_,_,_,_,rfl,rfl,dI (sm7.trans s8) fw,by rw[ap,mL,mL],by rw[upd_ne (Ne.symm nwf)];exact s8 _ _ ef7,λy hy=>?_,λy hy=>(hy1 y hy).nl m3,λs hs=>?_,by rw[ja,ja];omega,?_⟩
   ·rcases Nb.mp hy with z |z
    ·rcases Nb.mp z with z |z
     ·exact(hw1 y z).nl m3
     ·rw[MO.mp z];exact⟨m6 _ _ e6 (λ_=>by simp),(hRm.same s5).nl mm5,hx5.hi.nl mm5,dr,by show x.d+1<=_;omega⟩
    ·rw[MO.mp z];exact⟨n9 _ _ e8' (λ_=>by simp),hx5.lo.nl mm5,(hRm.same s5).nl mm5,dl,by show x.d+1<=_;omega⟩
   ·rcases hcov s hs with z |⟨_,z2⟩ |z
    ·exact .inl (cov_snoc.mpr (.inl (cov_snoc.mpr (.inl z))))
    ·rcases NF 0 (au s m1 m2)with v |v
     ·exact .inl (cov_snoc.mpr (.inl (cov_snoc.mpr (.inr ⟨v,z2.2⟩))))
     ·exact .inl (cov_snoc.mpr (.inr ⟨z2.1,v⟩))
    ·exact .inr z
   ·rw[O0,O0];exact DN (x:=x) rfl rfl rfl (MT ((fy dl.l2p dl.h2p).mpr (dl.lt B0))) (MT ((fy dr.l2p dr.h2p).mpr (dr.lt B0))) (hri1 (by omega))
theorem kW{ns:Ex}(h:ns≠[]):atI (ns.map V.int) (-1)=some (.int (al ns)):=by obtain⟨r,x,rfl⟩:=(cO ns).resolve_left h;rw[di];exact A5 r x
theorem kU{k:Nat}{ns:Ex}(h:AllB k ns):Bits k (al ns):=h.cf _
def wL(C:Addr):Sp:=λvs H Q _=>∃(a:Addr) (fs:List Ex),vs=[.ref a]/\H a=some (.lst ((prQ fs).map V.int))/\Whl fs/\∀(x:Addr) (H':Hp) (kb:Nat),kb<=252->isB ((prQ fs).take ((prQ fs).length-1)) (al (prQ fs)).natAbs kb->Same H H'->H x=none->RA C H' x 1 (8*al (prQ fs)*2^kb)->0<8*al (prQ fs)*(2:Int)^kb->Bits 520 (8*al (prQ fs)*(2:Int)^kb)->Q (.ref x) H'
theorem FF(F:Fun K "fine_width" "fine_width" qv f fd)(T:Txt K mg)(R:RCI K mg C)(cR:KCal P w K mg base 2 C "Ratio" ["self","top","bottom"] (dD C) gJ gH gK [.int 1])(ol:Cal P w K mg base 1 "bound" ["row"] (o9 K) Je IH):FnOk P w K mg base CX0 4 f fd ["whole"] (wL C):=by
 obtain⟨cM,cK,cH,c7,eK,eG⟩:=cR;refine F.ok Df (λvs H Q E h=>?_) (λcdv A outer s H vs Q E hr h=>?_)
 ·obtain⟨a,fs,rfl,_⟩:=h;rfl
 ·obtain⟨a,fs,rfl,hA,hW,k⟩:=h;refine⟨_,(aj (aC (dW cK cM (hr.mono) rfl cH c7 .nil bU (aa ad (aa (ai aI (ai aI ad (bJ K (pv 0) (bC bA ad))) (aq ol hr (aa (pv 0) ac))) ac))))),?_⟩;have hP:=hW.fam.pln;have l7:=hW.l7;have hb:=hW.bits;have b8:Bits 4 (8:Int):=by show(8:Int).natAbs<2^4;decide
  have hp:=hP.pos;refine aV ⟨_,rfl,_,rfl,a,_,_,_,rfl,rfl,SqL.of hA,kW hP.ne,_,_,rfl,rfl,⟨b8.mono,(kU hb).mono⟩,_,rfl,a,prQ fs,rfl,SqL.of hA,hP.tr,hP.ne,by omega,hb.mono,λkb H1 hkb hB s1=>?_⟩;have hk:=AT hb hp hB
  have b2:Bits 253 ((2^kb:Nat):Int):=by show(((2^kb:Nat):Int)).natAbs<2^253;rw[Nm];exact(O8 (by decide)).mpr (by omega)
  have b3:Bits 254 (8*al (prQ fs)):=(b8.mul (kU hb)).mono;have pk:(0:Int)<((2^kb:Nat):Int):=OH.mpr (N0 (by decide));have hD:0<8*al (prQ fs)*((2^kb:Nat):Int):=ML (by omega) pk;have bD:Bits 520 (8*al (prQ fs)*((2^kb:Nat):Int)):=(b3.mul b2).mono;refine⟨_,_,rfl,rfl,⟨b3.mono,b2.mono⟩,fH (t:=1) (by omega) (bD.mono) λx H2 s2 hx hR=>?_⟩;rw[DB hD,DW hD]at hR;have eB:((2^kb:Nat):Int)=(2:Int)^kb:=by rw[OF];rfl
  rw[eB]at hR hD bD;exact k x H2 kb hk hB (s1.trans s2) (s1.free hx) hR hD bD
def wM(C:Addr):Sp:=λvs H Q _=>∃(p:Addr) (t b:Int),vs=[.ref p]/\RA C H p t b/\0<b/\Bits 9000 b/\Q (.int (t/b)) H
theorem Go(F:Fun K "floor" "Ratio.floor" rd f fd)(T:Txt K mg)(R:RCI K mg C):FnOk P w K mg base CX0 1 f fd ["self"] (wM C):=by
 refine F.ok Du (λvs H Q E h=>?_) (λcdv A outer s H vs Q E hr h=>?_)
 ·obtain⟨p,t,b,rfl,_⟩:=h;rfl
 ·obtain⟨p,t,b,rfl,⟨dx,hp⟩,hb,bb,k⟩:=h;refine⟨_,(aj (aC (ai cG (aL (K:=K) rfl (pv 0) rfl) (aL (K:=K) rfl (pv 0) rfl)))),?_⟩;exact⟨_,rfl,p,C,dx,_,_,rfl,hp,R.cl,R.nT,cI _ _,_,rfl,p,C,dx,_,_,rfl,hp,R.cl,R.nB,bF _ _,_,_,rfl,rfl,⟨hb,bb⟩,k⟩
theorem yG:¬(("floor":Str)="bottom")/\¬(("floor":Str)="top"):=⟨by decide +kernel,by decide +kernel⟩
theorem D5{a c:Int}(hc:0<c):rt a c/rb a c=a/c:=by
 have h0:c≠0:=by omega
 have e1:=jo (t:=a) h0;have e2:=iE (t:=a) h0
 have hp:0<dv a c:=by unfold dv;rw[if_neg (by omega)];have:=jH (t:=a) h0;omega
 have e3:dv a c*rt a c/(dv a c*rb a c)=rt a c/rb a c:=Int.mul_ediv_mul_of_pos _ _ hp;rw[e1,e2]at e3;exact e3.symm
def oS(C:Addr):Sp:=λvs H Q _=>∃(r:Addr) (c t b:Int),vs=[.int c,.ref r]/\RA C H r t b/\0<b/\Bits 10000 c/\Bits 10000 t/\Bits 8900 b/\∀H',Same H H'->Q (.int (c*t/b)) H'
theorem E7(F:Fun K "times_floor" "times_floor" pP f fd)(T:Txt K mg)(R:RCI K mg C)(cR:KCal P w K mg base 2 C "Ratio" ["self","top","bottom"] (dD C) gJ gH gK [.int 1])(i9:MCal P w K mg base 4 C "times" ["self","other"] (j5 C) tX tN)(KU:MCal P w K mg base 1 C "floor" ["self"] (wM C) MD LU):FnOk P w K mg base CX0 5 f fd ["factor","ratio"] (oS C):=by
 obtain⟨cM,cK,cH,c7,eK,eG⟩:=cR;obtain⟨fR,fE,fO⟩:=i9;obtain⟨Ki,GR,J1⟩:=KU;refine F.ok C0 (λvs H Q E h=>?_) (λcdv A outer s H vs Q E hr h=>?_)
 ·obtain⟨r,c,t,b,rfl,_⟩:=h;rfl
 ·obtain⟨r,c,t,b,rfl,hR,hb,bc,bt,bb,k⟩:=h;refine⟨_,(aj (aC (EJ (du (dW cK cM (hr.mono) rfl cH eK eG bU (aa (pv 0) ac)) R.cl fE fR (hr.mono) fO .nil bU (aa (pv 1) ac)) R.cl GR Ki (hr.mono) J1 .nil bU))),?_⟩;refine aV ⟨_,rfl,fH (t:=c) (b:=1) (by decide) (b1k (by decide)) λx H1 s1 hx hX=>?_⟩;rw[rj,rC]at hX;obtain⟨dx,hX'⟩:=id hX;refine⟨x,dx,_,rfl,hX',dN _ _ dX.1 dX.2,_,rfl,x,r,c,1,t,b,1,8900,rfl,hX,hR.same s1,bc.mono,b1k (by decide),bt.mono,bb,by decide,by decide,hb,λy H2 s2 hy hY=>?_⟩;obtain⟨dy,hY'⟩:=id hY;have d0:1*b≠0:=by omega
  refine⟨y,dy,_,rfl,hY',dN _ _ yG.1 yG.2,y,_,_,rfl,hY,dS d0,(gm d0 (by rw[Ni];exact bb)).mono,?_⟩;rw[D5 (show 0<1*b by omega),Ni];exact k H2 (s1.trans s2)
noncomputable def vl(p:Int×Int):Rat:=(p.1:Rat)/(p.2:Rat)
theorem BC{a b c d:Int}(hb:0<b)(hd:0<d)(h:¬c*b<a*d):(a:Rat)/(b:Rat)<=(c:Rat)/(d:Rat):=NU.mp λz=>h ((fy hd hb).mp z)
theorem vh{t b:Int}(hb:0<b):((rt t b:Int):Rat)/((rb t b:Int):Rat)=(t:Rat)/(b:Rat):=by
 have h0:b≠0:=by omega
 have hc:=gZ (t:=t) h0;have hp:=dS (t:=t) h0;have cb:(0:Rat)<(b:Rat):=MU.mpr hb;have cr:(0:Rat)<((rb t b:Int):Rat):=MU.mpr hp;have e1:((rt t b:Int):Rat)/((rb t b:Int):Rat)*((rb t b:Int):Rat)=((rt t b:Int):Rat):=M6 (NH cr);have e2:(t:Rat)/(b:Rat)*(b:Rat)=(t:Rat):=M6 (NH cb);have e3:((rt t b:Int):Rat)*(b:Rat)=(t:Rat)*((rb t b:Int):Rat):=by rw[<- MS,hc,MS]
 generalize ((rt t b:Int):Rat)/((rb t b:Int):Rat)=X at e1 ⊢
 generalize (t:Rat)/(b:Rat)=Y at e2 ⊢
 rw[<- e1,<- e2]at e3;have hM:=M5 cr cb;have e4:(((rb t b:Int):Rat)*(b:Rat))*X=(((rb t b:Int):Rat)*(b:Rat))*Y:=by grind
 exact Rat.le_antisymm (eO hM (by rw[e4];exact Na)) (eO hM (by rw[e4];exact Na))
theorem BB{a b c d:Int}(hb:0<b)(hd:0<d):((a*c:Int):Rat)/((b*d:Int):Rat)=(a:Rat)/(b:Rat)*((c:Rat)/(d:Rat)):=by
 have cb:(0:Rat)<(b:Rat):=MU.mpr hb;have cd:(0:Rat)<(d:Rat):=MU.mpr hd;rw[MS,MS];have hM:=M5 cb cd;have e1:(a:Rat)/(b:Rat)*(b:Rat)=(a:Rat):=M6 (NH cb);have e2:(c:Rat)/(d:Rat)*(d:Rat)=(c:Rat):=M6 (NH cd);have e3:(a:Rat)*(c:Rat)/((b:Rat)*(d:Rat))*((b:Rat)*(d:Rat))=(a:Rat)*(c:Rat):=M6 (NH hM);generalize (a:Rat)/(b:Rat)=X at e1 ⊢
 generalize (c:Rat)/(d:Rat)=Y at e2 ⊢
 generalize (a:Rat)*(c:Rat)/((b:Rat)*(d:Rat))=Z at e3 ⊢
 rw[<- e1,<- e2]at e3;have e4:((b:Rat)*(d:Rat))*Z=((b:Rat)*(d:Rat))*(X*Y):=by grind
 exact Rat.le_antisymm (eO hM (by rw[e4];exact Na)) (eO hM (by rw[e4];exact Na))
theorem BD{a b c d:Int}(hb:0<b)(hd:0<d):((a*d+c*b:Int):Rat)/((b*d:Int):Rat)=(a:Rat)/(b:Rat)+(c:Rat)/(d:Rat):=by
 have cb:(0:Rat)<(b:Rat):=MU.mpr hb;have cd:(0:Rat)<(d:Rat):=MU.mpr hd;rw[OO,MS,MS,MS];have hM:=M5 cb cd;have e1:(a:Rat)/(b:Rat)*(b:Rat)=(a:Rat):=M6 (NH cb);have e2:(c:Rat)/(d:Rat)*(d:Rat)=(c:Rat):=M6 (NH cd);have e3:((a:Rat)*(d:Rat)+(c:Rat)*(b:Rat))/((b:Rat)*(d:Rat))*((b:Rat)*(d:Rat))=(a:Rat)*(d:Rat)+(c:Rat)*(b:Rat):=M6 (NH hM);generalize ((a:Rat)*(d:Rat)+(c:Rat)*(b:Rat))/((b:Rat)*(d:Rat))=Z at e3 ⊢
 generalize (a:Rat)/(b:Rat)=X at e1 ⊢
 generalize (c:Rat)/(d:Rat)=Y at e2 ⊢
 rw[<- e1,<- e2]at e3;have e4:((b:Rat)*(d:Rat))*Z=((b:Rat)*(d:Rat))*(X+Y):=by grind
 exact Rat.le_antisymm (eO hM (by rw[e4];exact Na)) (eO hM (by rw[e4];exact Na))
structure MaxP(x1 x2 y1 y2 p1 p2 q1 q2 m1 m2:Int):Prop where
 m2p:0<m2
 b1:Bits 8200 m1
 b2:Bits 8200 m2
 c1:vl (x1,x2)*vl (p1,p2)<=vl (m1,m2)
 c2:vl (x1,x2)*vl (q1,q2)<=vl (m1,m2)
 c3:vl (y1,y2)*vl (p1,p2)<=vl (m1,m2)
 c4:vl (y1,y2)*vl (q1,q2)<=vl (m1,m2)
 is:vl (m1,m2)=vl (x1,x2)*vl (p1,p2)\/vl (m1,m2)=vl (x1,x2)*vl (q1,q2)\/vl (m1,m2)=vl (y1,y2)*vl (p1,p2)\/vl (m1,m2)=vl (y1,y2)*vl (q1,q2)
structure TwoS(C:Addr)(H:Hp)(p q x y x' y':Addr)(x1 x2 y1 y2 p1 p2 q1 q2:Int):Prop where
 hp:H p=some (.tup [.ref x,.ref y])
 hq:H q=some (.tup [.ref x',.ref y'])
 hx:RA C H x x1 x2
 hy:RA C H y y1 y2
 hx':RA C H x' p1 p2
 hy':RA C H y' q1 q2
 e1:EndsG 4074 x1 x2 y1 y2
 e2:EndsG 4074 p1 p2 q1 q2
theorem TwoS.same{C:Addr}{H H':Hp}{p q x y x' y':Addr}{x1 x2 y1 y2 p1 p2 q1 q2:Int}(h:TwoS C H p q x y x' y' x1 x2 y1 y2 p1 p2 q1 q2)(s:Same H H'):TwoS C H' p q x y x' y' x1 x2 y1 y2 p1 p2 q1 q2:=⟨s _ _ h.hp,s _ _ h.hq,h.hx.same s,h.hy.same s,h.hx'.same s,h.hy'.same s,h.e1,h.e2⟩
def wj(C:Addr):Sp:=λvs H Q _=>∃(p q x y x' y':Addr) (x1 x2 y1 y2 p1 p2 q1 q2:Int),vs=[.ref p,.ref q]/\TwoS C H p q x y x' y' x1 x2 y1 y2 p1 p2 q1 q2/\∀(t lo hi:Addr) (H':Hp) (m1 m2:Int),Same H H'->H t=none->H' t=some (.tup [.ref lo,.ref hi])->RA C H' hi m1 m2->MaxP x1 x2 y1 y2 p1 p2 q1 q2 m1 m2->Q (.ref t) H'
structure PrH(C:Addr)(H:Hp)(r:Addr)(m1 m2:Int)(v:Rat):Prop where
 ra:RA C H r m1 m2
 m2p:0<m2
 b1:Bits 8200 m1
 b2:Bits 8200 m2
 is:vl (m1,m2)=v
theorem PrH.same{C:Addr}{H H':Hp}{r:Addr}{m1 m2:Int}{v:Rat}(h:PrH C H r m1 m2 v)(s:Same H H'):PrH C H' r m1 m2 v:=⟨h.ra.same s,h.m2p,h.b1,h.b2,h.is⟩
theorem mR{C:Addr}{H:Hp}{r:Addr}{a b c d:Int}(hb:0<b)(hd:0<d)(ba:Bits 4074 a)(bb:Bits 4074 b)(bc:Bits 4074 c)(bd:Bits 4074 d)(h:RA C H r (rt (a*c) (b*d)) (rb (a*c) (b*d))):PrH C H r (rt (a*c) (b*d)) (rb (a*c) (b*d)) (vl (a,b)*vl (c,d)):=by
 have hp:0<b*d:=ML hb hd;have h0:b*d≠0:=by omega
 refine⟨h,dS h0,(gb h0 (ba.mul bc)).mono,(gm h0 (bb.mul bd)).mono,?_⟩;show((rt (a*c) (b*d):Int):Rat)/((rb (a*c) (b*d):Int):Rat)=_;rw[vh hp,BB hb hd];rfl
theorem Fc(F:Fun K "span_product" "span_product" pU f fd)(T:Txt K mg)(R:RCI K mg C)(i9:MCal P w K mg base 4 C "times" ["self","other"] (j5 C) tX tN)(uZ:MCal P w K mg base 2 C "against" ["self","other"] (pi C) Jn IR):FnOk P w K mg base CX0 5 f fd ["first","second"] (wj C):=by
 obtain⟨fR,fE,fO⟩:=i9;obtain⟨oh,m9,og⟩:=uZ;refine F.ok jf (λvs H Q E h=>?_) (λcdv A outer s H vs Q E hr h=>?_)
 ·obtain⟨p,q,x,y,x',y',x1,x2,y1,y2,p1,p2,q1,q2,rfl,_⟩:=h;rfl
 ·obtain⟨p,q,x,y,x',y',x1,x2,y1,y2,p1,p2,q1,q2,rfl,h,k⟩:=h;have big:=sizeLine_eq
  refine⟨_,(ag (ao 2 jf (du (aU K (pv 0) ad) R.cl fE fR (hr.mono) fO .nil bU (aa (aU K (pv 1) ad) ac)))
   (ag (ao 3 jf (pv 2))
   (ag (cw PassesOwn.never rfl (EB (K:=K) rfl (cZ (aa (du (aU K (pv 0) ad) R.cl fE fR (hr.mono) fO .nil bU (aa (aU K (pv 1) ad) ac)) (aa (du (aU K (pv 0) ad) R.cl fE fR (hr.mono) fO .nil bU (aa (aU K (pv 1) ad) ac)) (aa (du (aU K (pv 0) ad) R.cl fE fR (hr.mono) fO .nil bU (aa (aU K (pv 1) ad) ac)) ac))))) (aT 4 jf)
     (ag (aR (aG cT (du (pv 4) R.cl m9 oh (hr.mono) og .nil bU (aa (pv 2) ac)) ad)
       (aj (ao 2 jf (pv 4)))
       aS)
       (aj (aR (aG cQ (du (pv 4) R.cl m9 oh (hr.mono) og .nil bU (aa (pv 3) ac)) ad)
         (aj (ao 3 jf (pv 4)))
         aS))))
   (aj (aC (cZ (aa (pv 2) (aa (pv 3) ac)))))))),?_⟩
  have e1:=h.e1;have e2:=h.e2;obtain⟨dx,hx0⟩:=id h.hx;refine av ⟨_,rfl,p,_,_,_,rfl,rfl,SqT.of h.hp,rfl,x,dx,_,rfl,hx0,dN _ _ dX.1 dX.2,_,rfl,q,_,_,_,rfl,rfl,SqT.of h.hq,rfl,x,x',x1,x2,p1,p2,4074,4074,rfl,h.hx,h.hx',e1.bl1.mono,e1.bl2,e2.bl1.mono,e2.bl2,by decide,e1.l2p,e2.l2p,λr0 H1 s1 hr0 hR0=>?_⟩;have P0:=mR e1.l2p e2.l2p e1.bl1 e1.bl2 e2.bl1 e2.bl2 hR0;refine av ⟨_,rfl,?_⟩;have h1:=h.same s1;obtain⟨dx1,hx1⟩:=id h1.hx;refine⟨_,rfl,p,_,_,_,rfl,rfl,SqT.of h1.hp,rfl,x,dx1,_,rfl,hx1,dN _ _ dX.1 dX.2,_,rfl,q,_,_,_,rfl,rfl,SqT.of h1.hq,rfl,x,y',x1,x2,q1,q2,4074,4074,rfl,h1.hx,h1.hy',e1.bl1.mono,e1.bl2,e2.bh1.mono,e2.bh2,by decide,e1.l2p,e2.h2p,λr1 H2 s2 hr1 hR1=>?_⟩;have P1:=mR e1.l2p e2.h2p e1.bl1 e1.bl2 e2.bh1 e2.bh2 hR1;have h2:=h1.same s2;obtain⟨dy2,hy2⟩:=id h2.hy;refine⟨_,rfl,p,_,_,_,rfl,rfl,SqT.of h2.hp,rfl,y,dy2,_,rfl,hy2,dN _ _ dX.1 dX.2,_,rfl,q,_,_,_,rfl,rfl,SqT.of h2.hq,rfl,y,x',y1,y2,p1,p2,4074,4074,rfl,h2.hy,h2.hx',e1.bh1.mono,e1.bh2,e2.bl1.mono,e2.bl2,by decide,e1.h2p,e2.l2p,λr2 H3 s3 hr2 hR2=>?_⟩;have P2:=mR e1.h2p e2.l2p e1.bh1 e1.bh2 e2.bl1 e2.bl2 hR2;have h3:=h2.same s3;obtain⟨dy3,hy3⟩:=id h3.hy;refine⟨_,rfl,p,_,_,_,rfl,rfl,SqT.of h3.hp,rfl,y,dy3,_,rfl,hy3,dN _ _ dX.1 dX.2,_,rfl,q,_,_,_,rfl,rfl,SqT.of h3.hq,rfl,y,y',y1,y2,q1,q2,4074,4074,rfl,h3.hy,h3.hy',e1.bh1.mono,e1.bh2,e2.bh1.mono,e2.bh2,by decide,e1.h2p,e2.h2p,λr3 H4 s4 hr3 hR3=>⟨by show 3<=sizeLine;omega,λpt hpt=>?_⟩⟩;have P3:=mR e1.h2p e2.h2p e1.bh1 e1.bh2 e2.bh1 e2.bh2 hR3;have s5:Same H4 (upd H4 pt (.tup [V.ref r1,V.ref r2,V.ref r3])):=Same.upd_new hpt;have q5:upd H4 pt (.tup [V.ref r1,V.ref r2,V.ref r3]) pt=some (.tup [V.ref r1,V.ref r2,V.ref r3]):=ap;refine fv (H2:=upd H4 pt (.tup [V.ref r1,V.ref r2,V.ref r3])) rfl ?_;generalize upd H4 pt (.tup [V.ref r1,V.ref r2,V.ref r3])=H5 at s5 q5 ⊢
  have A0:=(P0.same s2).same (s3.trans (s4.trans s5));have A1:=P1.same (s3.trans (s4.trans s5));have A2:=P2.same (s4.trans s5);have A3:=P3.same s5;have t5:=(s1.trans s2).trans (s3.trans (s4.trans s5));clear P0 P1 P2 P3 hR0 hR1 hR2 hR3
  have get:∀(i:Nat) (z:V),[V.ref r1,V.ref r2,V.ref r3][i]?=some z->∃(r:Addr) (t b:Int) (v:Rat),z=.ref r/\PrH C H5 r t b v/\[vl (x1,x2)*vl (p1,p2),vl (x1,x2)*vl (q1,q2),vl (y1,y2)*vl (p1,p2),vl (y1,y2)*vl (q1,q2)].take (i+1+1)=[vl (x1,x2)*vl (p1,p2),vl (x1,x2)*vl (q1,q2),vl (y1,y2)*vl (p1,p2),vl (y1,y2)*vl (q1,q2)].take (i+1)++[v]:=λi z hz=>by
   match i,hz with
   |0,hz=>exact⟨r1,_,_,_,(Option.some.inj hz).symm,A1,rfl⟩
   |1,hz=>exact⟨r2,_,_,_,(Option.some.inj hz).symm,A2,rfl⟩
   |2,hz=>exact⟨r3,_,_,_,(Option.some.inj hz).symm,A3,rfl⟩
  generalize hV:[vl (x1,x2)*vl (p1,p2),vl (x1,x2)*vl (q1,q2),vl (y1,y2)*vl (p1,p2),vl (y1,y2)*vl (q1,q2)]=W at get
  refine⟨pt,rfl,⟨_,SqT.of q5⟩,Iv (K:=K) (a:=pt) (xs:=[V.ref r1,V.ref r2,V.ref r3]) (λi σ' H'=>∃(lo g:Addr) (l1 l2 g1 g2:Int) (vo vg:Rat) (z4:Option V),σ'=[some (.ref p),some (.ref q),some (.ref lo),some (.ref g),z4]/\H5=H'/\PrH C H5 lo l1 l2 vo/\PrH C H5 g g1 g2 vg/\vg∈W.take (i+1)/\∀v∈W.take (i+1),v<=vg)
   ⟨r0,r0,_,_,_,_,_,_,none,rfl,rfl,A0,A0,by rw[<- hV];exact MO.mpr rfl,λv hv=>by rw[<- hV]at hv;rw[MO.mp hv];exact Na⟩ ?_ ?_ ?_⟩
  ·rintro i σ' H' _ ⟨lo,g,l1,l2,g1,g2,vo,vg,z4,rfl,rfl,_⟩;exact SqT.of q5
  ·rintro i z σ' H' hi ⟨lo,g,l1,l2,g1,g2,vo,vg,z4,rfl,rfl,Po,Pg,hmem,hall⟩;obtain⟨r,t,b,v,rfl,Pr,ht⟩:=get i z hi;obtain⟨dr,hr'⟩:=id Pr.ra;dsimp only
   refine gY (λσ' H'=>∃(lo:Addr) (l1 l2:Int) (vo:Rat),σ'=[some (.ref p),some (.ref q),some (.ref lo),some (.ref g),some (.ref r)]/\H5=H'/\PrH C H5 lo l1 l2 vo) ?_ ?_
   case refine_2 =>
    intro rest;refine⟨_,rfl,r,dr,_,rfl,hr',dN _ _ jx.1 jx.2,_,rfl,r,lo,t,b,l1,l2,rfl,Pr.ra,Po.ra,Pr.b1.mono,Pr.b2.mono,Po.b1.mono,Po.b2.mono,_,_,rfl,rfl,_,rfl,aH (λ_=>?_) (λ_=>?_)⟩
    ·exact⟨_,rfl,rest _ _ ⟨r,t,b,v,rfl,rfl,Pr⟩⟩
    ·exact rest _ _ ⟨lo,l1,l2,vo,rfl,rfl,Po⟩
   rintro σ' H' ⟨lo',l1',l2',vo',rfl,rfl,Po'⟩;refine⟨_,rfl,r,dr,_,rfl,hr',dN _ _ jx.1 jx.2,_,rfl,r,g,t,b,g1,g2,rfl,Pr.ra,Pg.ra,Pr.b1.mono,Pr.b2.mono,Pg.b1.mono,Pg.b2.mono,_,_,rfl,rfl,_,rfl,aH (λh0=>?_) (λh0=>?_)⟩
   ·have h0':sg (t*g2-g1*b)>0:=h0
    have hlt:g1*b<t*g2:=Of.mp λz=>by
     have:sg (t*g2-g1*b)<=0:=by unfold sg;split<;>(try split)<;>omega
     omega
    have hv:vg<v:=by rw[<- Pg.is,<- Pr.is];exact(fy Pg.m2p Pr.m2p).mpr hlt
    refine⟨_,rfl,lo',r,l1',l2',t,b,vo',v,_,rfl,rfl,Po',Pr,by rw[ht];simp,λu hu=>?_⟩;rw[ht]at hu;rcases Nb.mp hu with z |z
    ·exact OR (hall u z) (MT hv)
    ·rw[MO.mp z];exact Na
   ·have h0':¬sg (t*g2-g1*b)>0:=h0
    have hle:v<=vg:=by
     rw[<- Pg.is,<- Pr.is];refine BC Pr.m2p Pg.m2p λz=>h0' ?_
     have z':g1*b<t*g2:=z;have:sg (t*g2-g1*b)=1:=CO (by omega);omega
    refine⟨lo',g,l1',l2',g1,g2,vo',vg,_,rfl,rfl,Po',Pg,by rw[ht];exact NI _ hmem,λu hu=>?_⟩;rw[ht]at hu;rcases Nb.mp hu with z |z
    ·exact hall u z
    ·rw[MO.mp z];exact hle
  ·rintro σ' H' ⟨lo,g,l1,l2,g1,g2,vo,vg,z4,rfl,rfl,Po,Pg,hmem,hall⟩;refine⟨_,rfl,_,rfl,by show 2<=sizeLine;omega,λt ht=>?_⟩;have s6:Same H5 (upd H5 t (.tup [V.ref lo,V.ref g])):=Same.upd_new ht;refine k t lo g _ g1 g2 (t5.trans s6) (t5.free ht) ap (Pg.ra.same s6) ⟨Pg.m2p,Pg.b1,Pg.b2,?_,?_,?_,?_,?_⟩
   all_goals rw[Pg.is]
   ·exact hall _ (by rw[<- hV];exact MP ..)
   ·exact hall _ (by rw[<- hV];exact MK _ (MP ..))
   ·exact hall _ (by rw[<- hV];exact MK _ (MK _ (MP ..)))
   ·exact hall _ (by rw[<- hV];exact MK _ (MK _ (MK _ (MP ..))))
   ·rw[<- hV]at hmem;rcases MM.mp hmem with z |z
    ·exact .inl z
    rcases MM.mp z with z |z
    ·exact .inr (.inl z)
    rcases MM.mp z with z |z
    ·exact .inr (.inr (.inl z))
    ·exact .inr (.inr (.inr (MO.mp z)))
structure SqR(x1 x2 y1 y2 p1 p2 q1 q2 t1 t2 m1 m2:Int):Prop where
 mx:MaxP x1 x2 y1 y2 p1 p2 q1 q2 m1 m2
 t2p:0<t2
 bt:Bits 8200 t1
 sum:vl (t1,t2)=vl (y1,y2)+vl (q1,q2)
def wf(C:Addr):Sp:=λvs H Q _=>∃(a p q x y x' y':Addr) (ns:Ex) (x1 x2 y1 y2 p1 p2 q1 q2:Int),vs=[.ref a,.ref p,.ref q]/\H a=some (.lst (ns.map V.int))/\Pln ns/\AllB 250 ns/\TwoS C H p q x y x' y' x1 x2 y1 y2 p1 p2 q1 q2/\∀t1 t2 m1 m2:Int,SqR x1 x2 y1 y2 p1 p2 q1 q2 t1 t2 m1 m2->mkL H Q (aD [al ns*m1/m2,-(al ns*t1/t2),al ns])
theorem Fa(F:Fun K "square_of" "square_of" pS f fd)(T:Txt K mg)(R:RCI K mg C)(oi:Cal P w K mg base 5 "times_floor" ["factor","ratio"] (oS C) IV Iw)(uX:MCal P w K mg base 4 C "plus" ["self","other"] (oX C) Jl IP)(Ks:Cal P w K mg base 5 "span_product" ["first","second"] (wj C) L5 Lg)(gP:Cal P w K mg base 34 "plain" ["row"] j8 tU tL):FnOk P w K mg base CX0 35 f fd ["whole","span","other"] (wf C):=by
 obtain⟨uK,sk,uz⟩:=uX;refine F.ok pI (λvs H Q E h=>?_) (λcdv A outer s H vs Q E hr h=>?_)
 ·obtain⟨a,p,q,x,y,x',y',ns,x1,x2,y1,y2,p1,p2,q1,q2,rfl,_⟩:=h;rfl
 ·obtain⟨a,p,q,x,y,x',y',ns,x1,x2,y1,y2,p1,p2,q1,q2,rfl,hA,hP,hb,h,k⟩:=h;have big:=sizeLine_eq
  refine⟨_,(ag (ao 3 pI (bJ K (pv 0) (bC bA ad)))
   (ag (ao 4 pI (aq oi hr (aa (pv 3) (aa (du (aU K (pv 1) ad) R.cl sk uK (hr.mono) uz .nil bU (aa (aU K (pv 2) ad) ac)) ac))))
   (aj (aC (aq gP hr (aa (aP (aa (aq oi hr (aa (pv 3) (aa (aU K (aq Ks hr (aa (pv 1) (aa (pv 2) ac))) ad) ac))) (aa (bC bA (pv 4)) (aa (pv 3) ac)))) ac)))))),?_⟩
  have e1:=h.e1;have e2:=h.e2;have bl:=kU hb;have lp:=hP.pos;refine av ⟨_,rfl,_,rfl,a,_,_,_,rfl,rfl,SqL.of hA,kW hP.ne,?_⟩;obtain⟨dy,hy0⟩:=id h.hy;have hp2:0<y2*q2:=ML e1.h2p e2.h2p;have h0:y2*q2≠0:=by omega
  have bsum:Bits 8150 (y1*q2+q1*y2):=by have a1:Bits 8148 (y1*q2):=e1.bh1.mul e2.bh2;have a2:Bits 8148 (q1*y2):=(e2.bh1.mul e1.bh2).mono;exact(a1.add a2).mono
  refine av ⟨_,rfl,_,rfl,p,_,_,_,rfl,rfl,SqT.of h.hp,rfl,y,dy,_,rfl,hy0,dN _ _ mZ.1 mZ.2,_,rfl,q,_,_,_,rfl,rfl,SqT.of h.hq,rfl,y,y',y1,y2,q1,q2,4074,4074,rfl,h.hy,h.hy',e1.bh1.mono,e1.bh2,e2.bh1.mono,e2.bh2,by decide,e1.h2p,e2.h2p,λr H1 s1 hr0 hR=>?_⟩;refine⟨r,al ns,_,_,rfl,hR,dS h0,bl.mono,(gb h0 bsum).mono,(gm h0 (e1.bh2.mul e2.bh2)).mono,λH2 s2=>?_⟩;have t2:=s1.trans s2;have h2:=h.same t2;refine aV ⟨_,rfl,_,rfl,_,rfl,p,q,x,y,x',y',x1,x2,y1,y2,p1,p2,q1,q2,rfl,h2,λt lo hi H3 m1 m2 s3 ht et hm mx=>?_⟩;refine⟨t,_,_,_,rfl,rfl,SqT.of et,rfl,hi,al ns,m1,m2,rfl,hm,mx.m2p,bl.mono,mx.b1.mono,mx.b2.mono,λH4 s4=>?_⟩;refine⟨_,rfl,_,rfl,_,rfl,by show 3<=sizeLine;omega,λpl hpl=>?_⟩;have t4:=(t2.trans s3).trans s4;have trl:Tr [al ns*m1/m2,-(al ns*rt (y1*q2+q1*y2) (y2*q2)/rb (y1*q2+q1*y2) (y2*q2)),al ns]:=(tr_snoc (r:=[al ns*m1/m2,-(al ns*rt (y1*q2+q1*y2) (y2*q2)/rb (y1*q2+q1*y2) (y2*q2))])).mpr (by omega);refine⟨pl,[al ns*m1/m2,-(al ns*rt (y1*q2+q1*y2) (y2*q2)/rb (y1*q2+q1*y2) (y2*q2)),al ns],rfl,ap,trl,by show 3<=1000000;decide,λp5 H5 s5 hp5 e5=>?_⟩;have t5:=(t4.then_new (o:=.lst _) hpl).trans s5;refine k _ _ m1 m2 ⟨mx,dS h0,(gb h0 bsum).mono,?_⟩ p5 H5 t5 ((t4.then_new hpl).free hp5) e5;show((rt (y1*q2+q1*y2) (y2*q2):Int):Rat)/((rb (y1*q2+q1*y2) (y2*q2):Int):Rat)=_;rw[vh hp2,BD e1.h2p e2.h2p];rfl
theorem vZ{t n t' n':Int}:∀{ls:List Ex},(∀l∈ls,au l t n=au l t' n')->spr t n ls=spr t' n' ls
 | [],_=>rfl
 |l::ls,h=>by show -au l t n*spr t n ls = -au l t' n'*spr t' n' ls;rw[h l (MP ..),vZ λx hx=>h x (MK _ hx)]
theorem vY{t n:Int}:∀{ls:List Ex},(∀l∈ls,au l t n≠0)->spr t n ls=1\/spr t n ls = -1
 | [],_=>.inl rfl
 |l::ls,h=>by
  have h1:=h l (MP ..);have h2:=vY (ls:=ls) λx hx=>h x (MK _ hx)
  show -au l t n*spr t n ls=1 \/ -au l t n*spr t n ls = -1;rcases gU l t n with z |z |z
  ·rw[z];omega
  ·exact absurd z h1
  ·rw[z];omega
theorem CC{l:Ex}(hl:Spt l){t n t' n':Int}(hn:0<n)(hn':0<n')(h:t*n'<=t'*n)(hs:0<au l t' n'):0<au l t n:=by
 rcases NF 0 (au l t n)with z |z
 ·exact z
 ·exfalso;rcases O5 h with y |y
  ·have:=ix hl hn hn' y z;omega
  ·rw[mj l hn hn' y]at z;omega
theorem xk{l:Ex}(hl:Spt l){l1 l2 h1 h2 x1 x2:Int}(l2p:0<l2)(h2p:0<h2)(x2p:0<x2)(lt:l1*h2<h1*l2)(hno:¬(0<au l l1 l2/\au l h1 h2<=0))(hx:l1*x2<x1*l2)(hx':x1*h2<=h1*x2):au l x1 x2=au l h1 h2/\au l h1 h2≠0:=by
 rcases NF 0 (au l l1 l2)with z |z
 ·have h3:0<au l h1 h2:=by
   rcases NF 0 (au l h1 h2)with y |y
   ·exact y
   ·exact absurd ⟨z,y⟩ hno
  have h4:=CC hl x2p h2p hx' h3;rcases gU l x1 x2 with y |y |y<;>rcases gU l h1 h2 with w |w |w<;>omega
 ·have e1:=ix hl l2p x2p hx z;have e2:=ix hl l2p h2p lt z;omega
theorem DI{fs pre post:List Ex}{s:Ex}{c l1 l2 h1 h2:Int}(hF:∀f∈fs,fc f)(hc:c≠0)(hsp:aK fs=pre++s::post)(l2p:0<l2)(h2p:0<h2)(lt:l1*h2<h1*l2)(hin:0<au s l1 l2/\au s h1 h2<=0)(hno:∀x∈pre++post,¬(0<au x l1 l2/\au x h1 h2<=0)) :
 ∃ε,RootU (af [c] (aO [1] (fs.map ah))) l1 l2 h1 h2 ε (λx1 x2=>0<au s x1 x2):=by
 have hS:∀x∈aK fs,Spt x:=λx hx=>dk hF hx
 have hs:Spt s:=hS s (by rw[hsp];simp);have ho:∀x∈pre++post,Spt x:=λx hx=>hS x (by rw[hsp];simp at hx ⊢;rcases hx with h |h<;>simp[h])
 have val:∀x1 x2,0<x2->l1*x2<x1*l2->x1*h2<=h1*x2->sg (hv x1 x2 (af [c] (aO [1] (fs.map ah))))=sg c*spr h1 h2 (pre++post) * -au s x1 x2:=λx1 x2 x2p a b=>by
  rw[mQ x2p hF,hsp,lX];show sg c*(spr x1 x2 pre*(-au s x1 x2*spr x1 x2 post))=_;have e:spr x1 x2 (pre++post)=spr h1 h2 (pre++post):=vZ λy hy=>(xk (ho y hy) l2p h2p x2p lt (hno y hy) a b).1
  rw[<- e,lX];grind
 have hu:=vY (t:=h1) (n:=h2) (ls:=pre++post) λy hy=>(xk (ho y hy) l2p h2p h2p lt (hno y hy) lt (Nr _)).2
 have hsg:sg c=1\/sg c = -1:=by
  rcases Ot hc with z |z
  ·right;unfold sg;rw[if_pos z]
  ·left;unfold sg;rw[if_neg (by omega),if_pos z]
 have e1:sg c*spr h1 h2 (pre++post)=1\/sg c*spr h1 h2 (pre++post) = -1:=by rcases hsg with z |z<;>rcases hu with y |y<;>rw[z,y]<;>decide
 generalize sg c*spr h1 h2 (pre++post)=ε at val e1
 refine⟨ε,e1,λx1 x2 x2p a b hU=>?_,λx1 x2 x2p a b hU=>?_,λx1 x2 y1 y2 x2p y2p a b hU hlt=>?_,λx1 x2 y1 y2 x2p y2p e hU=>?_,hin.1,λz=>?_⟩
 ·rw[val x1 x2 x2p a b];rcases gU s x1 x2 with z |z |z
  ·rw[z];omega
  ·rw[z]at hU;exact absurd hU (by decide)
  ·rw[z]at hU;exact absurd hU (by decide)
 ·rw[val x1 x2 x2p a b];rcases gU s x1 x2 with z |z |z
  ·exact absurd (show 0<au s x1 x2 by omega) hU
  ·rw[z];right;omega
  ·rw[z];left;omega
 ·have hU':au s x1 x2<=0:=NT.mp hU;have z:=ix hs x2p y2p hlt hU'
  have a':l1*y2<y1*l2:=by
   refine lx x2p ?_;have q1:=NO a y2p;have q2:=NO hlt l2p;have e2:l1*y2*x2=l1*x2*y2:=by grind
   have e3:x1*l2*y2=x1*y2*l2:=by grind
   have e4:y1*l2*x2=y1*x2*l2:=by grind
   omega
  rw[val y1 y2 y2p a' b,z];omega
 ·show 0<au s y1 y2;rw[<- mj s x2p y2p e];exact hU
 ·have z':0<au s h1 h2:=z;omega
noncomputable def gB(f0:Ex):Ex:=if cf f0 1=0 then ah f0 else[]
structure Nar1(fs:List Ex)(s0:Ex)(l1 l2 h1 h2 x1 x2 y1 y2:Int)(kb:Nat):Prop where
 ends:EndsG 4074 x1 x2 y1 y2
 ux:0<au s0 x1 x2
 uy:au s0 y1 y2<=0
 lo:l1*x2<=x1*l2
 hi:y1*h2<=h1*y2
 wide:(y1*x2-x1*y2)*(8*al (prQ fs)*2^kb)<=1*(x2*y2)
def wH(C:Addr):Sp:=λvs H Q _=>∃(a p x y:Addr) (fs:List Ex) (f0 s0:Ex) (l1 l2 h1 h2 x1 x2 y1 y2:Int) (kb:Nat),vs=[.ref a,.ref p]/\H a=some (.lst ((prQ fs).map V.int))/\H p=some (.tup [.ref x,.ref y])/\RA C H x x1 x2/\RA C H y y1 y2/\Whl fs/\OneS fs f0 s0 l1 l2 h1 h2/\Nar1 fs s0 l1 l2 h1 h2 x1 x2 y1 y2 kb/\mkL H Q (gB f0)
theorem Fz(F:Fun K "line_of" "line_of" qq f fd)(T:Txt K mg)(R:RCI K mg C)(cR:KCal P w K mg base 2 C "Ratio" ["self","top","bottom"] (dD C) gJ gH gK [.int 1])(oi:Cal P w K mg base 5 "times_floor" ["factor","ratio"] (oS C) IV Iw)(uZ:MCal P w K mg base 2 C "against" ["self","other"] (pi C) Jn IR)(i6:Cal P w K mg base 2 "sign_at" ["row","ratio"] (j7 C) tR tJ):FnOk P w K mg base CX0 6 f fd ["whole","span"] (wH C):=by
 obtain⟨cM,cK,cH,c7,eK,eG⟩:=cR;obtain⟨oh,m9,og⟩:=uZ;refine F.ok xE (λvs H Q E h=>?_) (λcdv A outer s H vs Q E hr h=>?_)
 ·obtain⟨a,p,x,y,fs,f0,s0,l1,l2,h1,h2,x1,x2,y1,y2,kb,rfl,_⟩:=h;rfl
 ·obtain⟨a,p,x,y,fs,f0,s0,l1,l2,h1,h2,x1,x2,y1,y2,kb,rfl,hA,hp,hx,hy,hW,hO,hN,k⟩:=h
  refine⟨_,(ag (ao 2 xE (dW cK cM (hr.mono) rfl cH c7 .nil bU (aa (aq oi hr (aa (bJ K (pv 0) (bC bA ad)) (aa (aU K (pv 1) ad) ac))) (aa (bJ K (pv 0) (bC bA ad)) ac))))
   (ag (aR (PW.pt (fB (aG cQ (du (pv 2) R.cl m9 oh (hr.mono) og .nil bU (aa (aU K (pv 1) ad) ac)) ad) (fA (aG cU (aq i6 hr (aa (pv 0) (aa (pv 2) ac))) ad))))
     (aj (aC (aP (aa (bC bA (aL (K:=K) rfl (pv 2) rfl)) (aa (aL (K:=K) rfl (pv 2) rfl) ac)))))
     aS)
   (aj (aC (aP ac))))),?_⟩
  have big:=sizeLine_eq;have en:=hN.ends;have hb:=hW.bits;have hP:=hW.fam.pln;have l7:=hW.l7;have bl:=kU hb;have lp:=hP.pos;have B1:(1:Int)<=2^kb:=by have:=NB (n:=2) (m:=kb) (by decide);omega
  refine av ⟨_,rfl,_,rfl,a,_,_,_,rfl,rfl,SqL.of hA,kW hP.ne,_,rfl,p,_,_,_,rfl,rfl,SqT.of hp,rfl,y,al (prQ fs),y1,y2,rfl,hy,en.h2p,bl.mono,en.bh1.mono,en.bh2.mono,λH1 s1=>?_⟩;have bm:Bits 4400 (al (prQ fs)*y1/y2):=Bits.of_le ((bl.mul en.bh1).mono (k:=4400) (by decide)) (Pm _ _);have l0:al (prQ fs)≠0:=by omega
  have two:(gB f0=[-(rt (al (prQ fs)*y1/y2) (al (prQ fs))),rb (al (prQ fs)*y1/y2) (al (prQ fs))]/\x1*rb (al (prQ fs)*y1/y2) (al (prQ fs))<rt (al (prQ fs)*y1/y2) (al (prQ fs))*x2/\hv (rt (al (prQ fs)*y1/y2) (al (prQ fs))) (rb (al (prQ fs)*y1/y2) (al (prQ fs))) (prQ fs)=0)\/(gB f0=[]/\(x1*rb (al (prQ fs)*y1/y2) (al (prQ fs))<rt (al (prQ fs)*y1/y2) (al (prQ fs))*x2->hv (rt (al (prQ fs)*y1/y2) (al (prQ fs))) (rb (al (prQ fs)*y1/y2) (al (prQ fs))) (prQ fs)≠0)):=by
   obtain⟨u,e,b,σ,rfl,rfl,hb1,hNS,hc⟩:=hO.cases;rcases hc with⟨rfl,rfl⟩ |⟨hσ,he⟩
   ·left;have e0:gB [u,0,b]=ah [u,0,b]:=if_pos rfl;rw[e0];exact hO.line en.l2p en.h2p B1 hN.ux hN.uy en.lt hN.wide
   ·right;refine⟨if_neg (show ¬e=0 by omega),λhlt=>?_⟩;have hpos:=dS (t:=al (prQ fs)*y1/y2) l0;have hc:=gZ (t:=al (prQ fs)*y1/y2) l0;have hfl:al (prQ fs)*y1/y2*y2<=al (prQ fs)*y1:=Int.ediv_mul_le _ (by have:=en.h2p;omega);generalize rt (al (prQ fs)*y1/y2) (al (prQ fs))=m1 at *
    generalize rb (al (prQ fs)*y1/y2) (al (prQ fs))=m2 at *
    generalize al (prQ fs)*y1/y2=Z at *
    have my:m1*y2<=y1*m2:=by
     refine jO lp ?_;have:=Np hfl (MN hpos);have e1:m1*y2*al (prQ fs)=Z*y2*m2:=by rw[Int.mul_right_comm,hc];grind
     have e2:y1*m2*al (prQ fs)=al (prQ fs)*y1*m2:=by grind
     omega
    refine hO.none rfl hNS he hpos ?_ ?_
    ·refine lx en.l2p ?_;have q1:=Np hN.lo (MN hpos);have q2:=NO hlt hO.l2p;have e1:l1*m2*x2=l1*x2*m2:=by grind
     have e2:x1*l2*m2=x1*m2*l2:=by grind
     have e3:m1*l2*x2=m1*x2*l2:=by grind
     omega
    ·refine jO en.h2p ?_;have q1:=Np hN.hi (MN hpos);have q2:=Np my (MN hO.h2p);have e1:m1*h2*y2=m1*y2*h2:=by grind
     have e2:y1*m2*h2=y1*h2*m2:=by grind
     have e3:h1*m2*y2=h1*y2*m2:=by grind
     omega
  generalize al (prQ fs)*y1/y2=m at bm two ⊢
  refine⟨_,rfl,_,rfl,a,_,_,_,rfl,rfl,SqL.of (s1 _ _ hA),kW hP.ne,fH l0 (bl.mono) λr H2 s2 hr2 hR=>?_⟩;have t2:=s1.trans s2;obtain⟨dr,hR'⟩:=id hR
  have sgl:∀c d:Int,sg (c-d)>0↔d<c:=λc d=>by unfold sg;split<;>(try split)<;>constructor<;>intro z<;>omega
  refine bn (df ⟨_,rfl,r,dr,_,rfl,hR',dN _ _ jx.1 jx.2,_,rfl,p,_,_,_,rfl,rfl,SqT.of (t2 _ _ hp),rfl,r,x,_,_,x1,x2,rfl,hR,hx.same t2,(gb l0 bm).mono,(gm l0 bl).mono,en.bl1.mono,en.bl2.mono,_,_,rfl,rfl,_,rfl,aH (λh0=>?_) (λh0=>?_)⟩)
  ·have h0':=(sgl _ _).mp h0;refine⟨_,rfl,_,rfl,a,r,prQ fs,_,_,⟨rfl,t2 _ _ hA,hR,by omega,hb.mono,(gb l0 bm).mono,(gm l0 bl).mono⟩,λH3 s3=>⟨_,_,rfl,rfl,_,rfl,aH (λh3=>?_) (λh3=>?_)⟩⟩
   ·have h3':sg (hv (rt m (al (prQ fs))) (rb m (al (prQ fs))) (prQ fs))=0:=h3;rcases two with⟨z1,_,_⟩ |⟨_,z2⟩
    ·have hR3:=s3 _ _ hR';refine aV ⟨_,rfl,r,C,dr,_,_,rfl,hR3,R.cl,R.nT,cI _ _,_,rfl,_,rfl,r,C,dr,_,_,rfl,hR3,R.cl,R.nB,bF _ _,by show 2<=sizeLine;omega,λq hq=>?_⟩;refine k q _ ((t2.trans s3).then_new hq) ((t2.trans s3).free hq) ?_;rw[ap,z1];rfl
    ·exact absurd ((pE _).mp h3') (z2 h0')
   ·rcases two with⟨_,_,z3⟩ |⟨z1,_⟩
    ·exact absurd ((pE _).mpr z3) h3
    ·exact aV ⟨MQ _,λq hq=>k q _ ((t2.trans s3).then_new hq) ((t2.trans s3).free hq) (by rw[ap,z1];rfl)⟩
  ·rcases two with⟨_,z2,_⟩ |⟨z1,_⟩
   ·exact absurd ((sgl _ _).mpr z2) h0
   ·exact cs (aV ⟨MQ _,λq hq=>k q _ (t2.then_new hq) (t2.free hq) (by rw[ap,z1];rfl)⟩)
theorem xQ{fs:List Ex}{l1 l2 h1 h2:Int}(hF:Fam fs)(l2p:0<l2)(h2p:0<h2)(lt:l1*h2<h1*l2)(h:bN (aK fs) l1 l2 h1 h2=1):∃s ε,s∈aK fs/\0<au s l1 l2/\au s h1 h2<=0/\RootU (prQ fs) l1 l2 h1 h2 ε (λt n=>0<au s t n):=by obtain⟨pre,s,post,e,hin,hno⟩:=nY h;obtain⟨ε,hr⟩:=DI (c:=1) hF.q (by decide) e l2p h2p lt hin hno;rw[show af [1] (aO [1] (fs.map ah))=prQ fs from hF.one]at hr;exact⟨s,ε,by rw[e];simp,hin.1,hin.2,hr⟩
theorem w9{i j:Nat}{a b:Ex}{n:Nat}(ha:AllB i a)(hb:AllB j b):∀m,Bits (i+j+m) (sm a b n m)
 |0=>Bits.zero
 |m+1=>by
  rw[sm];refine(w9 ha hb m).add ?_;unfold tm;split
  ·exact((ha.cf m).mul (hb.cf _)).mono (by omega)
  ·exact Bits.zero
theorem jC{i j k:Nat}{a b:Ex}(ha:AllB i a)(hb:AllB j b)(hk:i+j+a.length<=k):AllB k (af a b):=AllB.of_cf λn=>by rw[aJ];exact(w9 ha hb a.length).mono hk
def wN:Sp:=λvs H Q _=>∃(a b:Addr) (xs ys:Ex) (n:Nat),vs=[.ref b,.ref a]/\H a=some (.lst (xs.map V.int))/\H b=some (.lst (ys.map V.int))/\ys≠[]/\AllB n xs/\AllB n ys/\(xs.length+2)*(n+1)<=1000000/\ys.length<=1000000/\∀H',Same H H'->Q (.bl (decide (aM xs ys=[]))) H'
theorem FG(F:Fun K "divides" "divides" qw f fd)(T:Txt K mg)(i8:Cal P w K mg base 2 "divided" ["first","second"] j9 tV tM):FnOk P w K mg base CX0 3 f fd ["divisor","row"] wN:=by
 refine F.ok Dg (λvs H Q E h=>?_) (λcdv A outer s H vs Q E hr h=>?_)
 ·obtain⟨a,b,xs,ys,n,rfl,_⟩:=h;rfl
 ·obtain⟨a,b,xs,ys,nb,rfl,hA,hB,hy,bx,by',hsz,hyn,k⟩:=h;have hu:=hr.units;refine⟨_,(aj (aC (dg (iL (K:=K) rfl hu) (aU K (aq i8 hr (aa (pv 1) (aa (pv 0) ac))) ad) (aP ac)))),?_⟩;refine aV ⟨_,rfl,_,rfl,a,b,xs,ys,nb,rfl,hA,hB,hy,bx,by',hsz,hyn,λt q r H1 sm1 ht hq hr' _ _ _ et eq er=>?_⟩;refine⟨t,_,_,_,rfl,rfl,SqT.of et,rfl,MQ _,λp hp=>?_⟩;exact⟨r,p,_,[],rfl,rfl,SqL.of (by rw[upd_ne (aN er hp)];exact er),SqL.of ap,k _ (sm1.then_new hp)⟩
theorem iy{f:Ex}(h:FacG f):AllB 62 (ah f)/\(ah f).length<=3:=by
 obtain⟨u,e,b,rfl,h1,h2,h3,h4,h5,h6,_⟩:=h;have sm:∀{x:Int} {n:Nat},x.natAbs<n->n<=2^62->Bits 62 x:=λh1 h2=>Nd h1 h2
 have hr:AllB 62 (aE u e b)/\(aE u e b).length<=3:=by
  unfold aE;split
  ·refine⟨λx hx=>?_,by show 2<=3;decide⟩;rcases MM.mp hx with rfl |hx
   ·exact sm (n:=1000000001) (by omega) (by decide)
   ·rw[MO.mp hx];exact sm (n:=1001) (by omega) (by decide)
  ·refine⟨λx hx=>?_,MJ _⟩;have u1:u.natAbs<=1000000000:=by omega
   have uu:(u*u).natAbs<=1000000000*1000000000:=by rw[MY];exact N4 u1 u1
   have bu:(b*u).natAbs<=1000*1000000000:=by rw[MY];exact N4 (by omega) u1
   have bb:(b*b).natAbs<=1000*1000:=by rw[MY];exact N4 (by omega) (by omega)
   have e2 : -2*b*u = -2*(b*u):=Ng _ _ _;rw[e2]at hx;generalize u*u=A at *
   generalize b*u=B at *
   generalize b*b=D at *
   rcases MM.mp hx with rfl |hx
   ·exact sm (n:=2000000000000000000) (by omega) (by decide)
   rcases MM.mp hx with rfl |hx
   ·exact sm (n:=2000000000001) (by omega) (by decide)
   ·rw[MO.mp hx];exact sm (n:=1000001) (by omega) (by decide)
 exact⟨ju hr.1,by show(aD _).length<=3;rw[RM.plain_len];exact hr.2⟩
theorem BG{gs:List Ex}(h:Fam gs)(hl:gs.length<=2):AllB 250 (prQ gs):=by
 have one:AllB 1 ([1]:Ex):=λx hx=>by rw[MO.mp hx];exact b1k (by decide)
 rw[h.prd]
 match gs,hl with
 | [],_=>exact one.mono
 | [f],_ =>obtain⟨b,l⟩:=iy (h.fac f (by simp));show AllB 250 (af (ah f) [1]);rw[d7];exact b.mono
 | [f,f'],_ =>obtain⟨b,l⟩:=iy (h.fac f (by simp));obtain⟨b',l'⟩:=iy (h.fac f' (by simp));show AllB 250 (af (ah f) (af (ah f') [1]));rw[d7];exact(jC b b' (MJ _)).mono (by omega)
theorem Cr{fs:List Ex}{u e b σ l1 l2 h1 h2 x1 x2 y1 y2 p1 p2 q1 q2 t1 t2 m1 m2:Int}{kb:Nat}(hO:OneS fs [u,e,b] [u,e,b,σ] l1 l2 h1 h2)(hW:Whl fs)(he:0<e)(hσ:σ=1\/σ = -1)(hB:isB ((prQ fs).take ((prQ fs).length-1)) (al (prQ fs)).natAbs kb)(N1:Nar1 fs [u,e,b,σ] l1 l2 h1 h2 x1 x2 y1 y2 kb)
 (E2:EndsG 4074 p1 p2 q1 q2) (up:0<au [u,e,b,-σ] p1 p2) (uq:au [u,e,b,-σ] q1 q2<=0) (wide:(q1*p2-p1*q2)*(8*al (prQ fs)*2^kb)<=1*(p2*q2)) (hS:SqR x1 x2 y1 y2 p1 p2 q1 q2 t1 t2 m1 m2):aD [al (prQ fs)*m1/m2,-(al (prQ fs)*t1/t2),al (prQ fs)]=ah [u,e,b]:=by
 have hF:=hW.fam;have hL:=hF.pln.pos;have B1:(1:Int)<=2^kb:=by have:=NB (n:=2) (m:=kb) (by decide);omega
 have eB:((2^kb:Nat):Int)=(2:Int)^kb:=by rw[OF];rfl
 have mem0:[u,e,b,σ]∈aK fs:=N5.mpr ⟨_,hO.mem,hO.sp⟩;have mem1:[u,e,b,-σ]∈aK fs:=N5.mpr ⟨_,hO.mem,by rw[j3 he];rcases hσ with rfl |rfl<;>simp⟩
 have bd:∀s∈aK fs,au s (2^kb) 1<0/\0<au s (-(2^kb)) 1:=λs hs=>by have:=v6 hF.fac hF.nd (B:=2^kb) (N0 (by decide)) hB.1 hs;rw[eB]at this;exact this
 have en:=N1.ends;obtain⟨a1,a2,a3,a4⟩:=yJ (dk hF.q mem0) B1 (show 1<=al (prQ fs) by omega) (bd _ mem0) en.l2p en.h2p N1.ux N1.uy en.lt N1.wide;obtain⟨c1,c2,c3,c4⟩:=yJ (dk hF.q mem1) B1 (show 1<=al (prQ fs) by omega) (bd _ mem1) E2.l2p E2.h2p up uq E2.lt wide;have mx:=hS.mx;have i1:=mx.c1;have i2:=mx.c2;have i3:=mx.c3;have i4:=mx.c4;have im:=mx.is;have is:=hS.sum;unfold vl at i1 i2 i3 i4 im is
 dsimp only at i1 i2 i3 i4 im is
 rcases hσ with rfl |rfl
 ·exact vW hF hO.mem he rfl B1 (oE en.l2p en.h2p E2.l2p E2.h2p N1.ux N1.uy up uq) a3 c3 a4 c4 a1 a2 c1 c2 i1 i2 i3 i4 im hS.t2p mx.m2p is rfl
 ·skip
  exact vW hF hO.mem he rfl B1 (oE E2.l2p E2.h2p en.l2p en.h2p up uq N1.ux N1.uy) c3 a3 c4 a4 c1 c2 a1 a2 (by rw[Ou];exact i1) (by rw[Ou];exact i3) (by rw[Ou];exact i2) (by rw[Ou];exact i4) (by
   rcases im with z |z |z |z
   ·exact .inl (by rw[z,Ou])
   ·exact .inr (.inr (.inl (by rw[z,Ou])))
   ·exact .inr (.inl (by rw[z,Ou]))
   ·exact .inr (.inr (.inr (by rw[z,Ou])))) hS.t2p mx.m2p (by rw[is,Rat.add_comm]) rfl
theorem Jr{fs:List Ex}{f0:Ex}(hF:Fam fs)(hm:f0∈fs):aM (prQ fs) (ah f0)=[]:=by
 obtain⟨pre,post,e⟩:=OQ (OT (f:=ah) hm);have hp:=hF.pri;have hP:=hF.pln;have e0:=hF.prd;rw[e]at hp e0;have hq:Pln (RM.prd (pre++post)):=iG _ λs hs=>(hp s (by simp at hs ⊢;rcases hs with z |z<;>simp[z])).pln
 have hs:Pln (ah f0):=(hp _ (by simp)).pln;rw[kF]at e0;exact(yo hP.tr hP.ne hs hq (by rw[hP.plain,e0])).1
def wF(C:Addr):Sp:=λvs H Q _=>∃(a l h:Addr) (fs:List Ex) (f0 s0:Ex) (l1 l2 h1 h2:Int),vs=[.ref a,.ref l,.ref h]/\H a=some (.lst ((prQ fs).map V.int))/\RA C H l l1 l2/\RA C H h h1 h2/\Whl fs/\OneS fs f0 s0 l1 l2 h1 h2/\bN (aK fs) l1 l2 h1 h2=1/\EndsG 710 l1 l2 h1 h2/\mkL H Q (ah f0)
theorem FA(F:Fun K "least" "least" qr f fd)(T:Txt K mg)(gP:Cal P w K mg base 34 "plain" ["row"] j8 tU tL)(eN:Cal P w K mg base 1 "degree" ["row"] jd nN nM)(KI:Cal P w K mg base 4 "fine_width" ["whole"] (wL C) Ml Ly)(oj:Cal P w K mg base 6 "narrowed" ["row","low","high","width"] (oY C) Ja ID)(KE:Cal P w K mg base 6 "line_of" ["whole","span"] (wH C) Mg Ls)(uU:Cal P w K mg base 36 "cells" ["row"] (o8 C) Jd IG)(Kq:Cal P w K mg base 35 "square_of" ["whole","span","other"] (wf C) L3 Le)(KJ:Cal P w K mg base 3 "divides" ["divisor","row"] wN Mm Lz)(KK:Cal P w K mg base 4 "count" ["row","low","high"] (wP C) Mn LA)(uR:Cal P w K mg base 35 "row_of" ["polynomial"] oW I0 IB):FnOk P w K mg base CX0 37 f fd ["row","low","high"] (wF C):=by
 refine F.ok iC (λvs H Q E h=>?_) (λcdv A outer s H vs Q E hr h=>?_)
 ·obtain⟨a,l,h,fs,f0,s0,l1,l2,h1,h2,rfl,_⟩:=h;rfl
 ·obtain⟨a,l,h,fs,f0,s0,l1,l2,h1,h2,rfl,hA,hl,hh,hW,hO,hcn,en,k⟩:=h;have hu:=hr.units;have big:=sizeLine_eq;have hF:=hW.fam;have hP:=hF.pln;have l7:=hW.l7;have l2':=hW.l2;have hml:((prQ fs).map V.int).length=(prQ fs).length:=MI _;have pf0:=gI (hF.fac f0 hO.mem);have hL:=hP.pos
  refine⟨_,(ag (ao 3 iC (aq gP hr (aa (pv 0) ac)))
   (ag (aR (aG cT (aq eN hr (aa (pv 3) ac)) ad)
     (aj (aC (pv 3)))
     aS)
   (ag (ao 4 iC (aq KI hr (aa (pv 3) ac)))
   (ag (ao 5 iC (aq oj hr (aa (pv 3) (aa (pv 1) (aa (pv 2) (aa (pv 4) ac))))))
   (ag (ao 6 iC (aq KE hr (aa (pv 3) (aa (pv 5) ac))))
   (ag (aR (aG (iJ (K:=K) rfl hu) (pv 6) (aP ac))
     (aj (aC (pv 6)))
     aS)
   (ag (aR (aG cU (aq eN hr (aa (pv 3) ac)) ad)
     (aj (aC (pv 3)))
     aS)
   (ag (cw PassesOwn.never rfl (c9 (K:=K) rfl (aq uU hr (aa (pv 3) ac))) (aT 7 iC)
     (ag (ao 8 iC (aq Kq hr (aa (pv 3) (aa (pv 5) (aa (aq oj hr (aa (pv 3) (aa (aU K (pv 7) ad) (aa (aU K (pv 7) ad) (aa (pv 4) ac))))) ac)))))
       (aj (aR (PW.pt (fB (dU (aq KJ hr (aa (pv 8) (aa (pv 3) ac)))) (fA (aG cU (aq KK hr (aa (aq uR hr (aa (pv 8) ac)) (aa (pv 1) (aa (pv 2) ac)))) ad))))
         (aj (aC (pv 8)))
         aS))))
   (aj (aC (pv 3))))))))))),?_⟩
  refine av ⟨_,rfl,a,prQ fs,rfl,hA,hP.tr,by omega,λp H1 s1 hp e1=>?_⟩;rw[hP.plain]at e1;refine bn ⟨_,rfl,p,_,rfl,e1,_,_,rfl,rfl,_,rfl,aH (λh0=>?_) (λh0=>?_)⟩
  ·have h0':((prQ fs).map V.int).length-(1:Int)<2:=h0;rw[hml]at h0';have e:=va hF hO.mem (by have:=pf0.two;omega);rw[e]at e1;exact⟨_,rfl,k p H1 s1 hp e1⟩
  refine av ⟨_,rfl,p,fs,rfl,e1,hW,λwd H2 kb hk hB s2 hwd hWd hD bD=>?_⟩;have t2:=s1.trans s2;have e2:=s2 _ _ e1;obtain⟨sx,ε,hsx,hx1,hx2,ru⟩:=xQ hF en.l2p en.h2p en.lt hcn;obtain rfl:=hO.only sx hsx hx1 hx2;refine av ⟨_,rfl,_,rfl,_,rfl,_,rfl,p,l,h,wd,prQ fs,l1,l2,h1,h2,1,8*al (prQ fs)*2^kb,710,520,ε,_,rfl,e2,hP.tr,hP.ne,by omega,hW.bits.mono,hl.same t2,hh.same t2,hWd,en,by decide,hD,b1k (by decide),bD,by decide,by decide,by decide,ru,λps x y H3 n pl x1 x2 y1 y2 s3 hps e3 hx hy nar=>?_⟩;have t3:=t2.trans s3;have ep3:=s3 _ _ e2;have N1:Nar1 fs sx l1 l2 h1 h2 x1 x2 y1 y2 kb:=⟨nar.ends,nar.ux,NT.mp nar.uy,nar.lo,nar.hi,nar.wide⟩;refine av ⟨_,rfl,_,rfl,p,ps,x,y,fs,f0,sx,l1,l2,h1,h2,x1,x2,y1,y2,kb,rfl,ep3,e3,hx,hy,hW,hO,N1,λpl' H4 s4 hpl e4=>?_⟩;refine bn ⟨_,rfl,MQ _,λp0 hp0=>?_⟩;have s5:=Same.upd_new (o:=.lst []) hp0;obtain⟨u,e,b,σ,rfl,rfl,hb1,hNS,hc⟩:=hO.cases;have hne:ah [u,e,b]≠[]:=pf0.pln.ne;refine⟨pl',p0,gB [u,e,b],[],rfl,rfl,SqL.of (s5 _ _ e4),SqL.of ap,_,rfl,cY (λh3=>?_) (λh3=>?_)⟩
  ·have h3':gB [u,e,b]≠[]:=h3
   have e0:gB [u,e,b]=ah [u,e,b]:=by
    by_cases z:e=0
    ·exact if_pos z
    ·exact absurd (if_neg z) h3'
   rw[e0]at e4;exact⟨_,rfl,k pl' _ (t3.trans (s4.trans s5)) (t3.free hpl) (s5 _ _ e4)⟩
  have h3':gB [u,e,b]=[]:=h3
  have he:0<e:=by
   rcases hc with⟨_,rfl⟩ |⟨_,he⟩
   ·exact absurd ((if_pos rfl:gB [u,0,b]=ah [u,0,b]).symm.trans h3') hne
   ·exact he
  have hσ:σ=1\/σ = -1:=by
   rcases hc with⟨z,_⟩ |⟨z,_⟩
   ·exact .inl z
   ·exact z
  have hl3:(ah [u,e,b]).length=3:=by obtain⟨g,A0,A1,A2,_,eS,_⟩:=mq (u:=u) hb1 (show e≠0 by omega);rw[eS];rfl
  generalize upd H4 p0 (.lst [])=H5 at s5 ⊢
  have u5:=s3.trans (s4.trans s5);have ep5:=u5 _ _ e2;refine bn ⟨_,rfl,p,_,rfl,ep5,_,_,rfl,rfl,_,rfl,aH (λh0=>?_) (λ_=>?_)⟩
  ·have h0':(((prQ fs).map V.int).length:Int)-1=2:=h0;rw[hml]at h0';have eW:=va hF hO.mem (by omega);rw[eW]at ep5;exact⟨_,rfl,k p H5 (t2.trans u5) hp ep5⟩
  refine⟨_,rfl,.inl ⟨p,fs,rfl,ep5,hW,λkb' pc ys H6 hk' hB' s6 hpc ec hys hcov hyl _=>?_⟩⟩;obtain rfl:=zp hB hB';have t5:=t2.trans u5;have u6:=u5.trans s6;have hsp1:[u,e,b,-σ]∈aK fs:=N5.mpr ⟨_,hO.mem,by rw[j3 he];rcases hσ with rfl |rfl<;>simp⟩;have hql:(qs ys).length=ys.length:=MI _;refine⟨pc,rfl,⟨_,SqL.of ec⟩,iT (K:=K) (a:=pc) (xs:=qs ys) (λi σ' H'=>∃(z7 z8:Option V),σ'=[some (.ref a),some (.ref l),some (.ref h),some (.ref p),some (.ref wd),some (.ref ps),some (.ref pl'),z7,z8]/\Same H6 H'/\∀(j:Nat) (c:Cel),j<i->ys[j]?=some c->¬c.inn [u,e,b,-σ]) ⟨none,none,rfl,Same.refl _,λj c hj=>absurd hj (OV _)⟩ ?_ ?_ ?_⟩
  ·rintro i σ' H' _ ⟨z7,z8,rfl,sm,_⟩;exact SqL.of (sm _ _ ec)
  ·rintro i z σ' H' hi ⟨z7,z8,rfl,sm,hno⟩
   have hil:i<ys.length:=by apply Classical.byContradiction;intro hn;rw[List.getElem?_eq_none_iff.mpr (by rw[hql];omega)]at hi;cases hi
   have ey:ys[i]?=some ys[i]:=List.getElem?_eq_getElem hil
   have hz:z=V.ref ys[i].q:=by
    unfold qs at hi
    rw[List.getElem?_map,ey]at hi;exact(Option.some.inj hi).symm
   subst hz;generalize hc0:ys[i]=c at *
   have hcf:=(hys c (by rw[<- hc0];exact ND hil)).nl (NL.of sm);have dE:=Ae hcf.dy hk hcf.dd;obtain⟨fx,sx',hO2⟩:=yw hF dE.l2p dE.h2p dE.lt hcf.one;obtain⟨sc,εc,hsc,hcx1,hcx2,ruc⟩:=xQ hF dE.l2p dE.h2p dE.lt hcf.one;have esc:=hO2.only sc hsc hcx1 hcx2;have u7:=u6.trans sm;have t7:=t2.trans u7;refine av ⟨_,rfl,_,rfl,_,rfl,_,rfl,c.q,_,_,_,rfl,rfl,SqT.of hcf.tup,rfl,_,rfl,c.q,_,_,_,rfl,rfl,SqT.of hcf.tup,rfl,_,rfl,p,c.lo,c.hi,wd,prQ fs,c.l1,c.l2,c.h1,c.h2,1,8*al (prQ fs)*2^kb,710,520,εc,_,rfl,u7 _ _ e2,hP.tr,hP.ne,by omega,hW.bits.mono,hcf.lo,hcf.hi,hWd.same u7,dE,by decide,hD,b1k (by decide),bD,by decide,by decide,by decide,ruc,λps' x' y' H7 n' pl7 p1 p2 q1 q2 s7 hps' e7 hx' hy' nar'=>?_⟩;have u8:=u7.trans s7;have v8:=(s4.trans s5).trans (s6.trans (sm.trans s7));have tw:TwoS C H7 ps ps' x y x' y' x1 x2 y1 y2 p1 p2 q1 q2:=⟨v8 _ _ e3,e7,hx.same v8,hy.same v8,hx',hy',nar.ends,nar'.ends⟩;refine⟨p,ps,ps',x,y,x',y',prQ fs,x1,x2,y1,y2,p1,p2,q1,q2,rfl,u8 _ _ e2,hP,hW.bits,tw,λt1 t2' m1 m2 hS psq H8 s8 hpsq e8=>?_⟩;have bl:=kU hW.bits;have trE:Tr [al (prQ fs)*m1/m2,-(al (prQ fs)*t1/t2'),al (prQ fs)]:=(tr_snoc (r:=[al (prQ fs)*m1/m2,-(al (prQ fs)*t1/t2')])).mpr (by omega);have hPE:=eU trE (by simp);have hlE:(aD [al (prQ fs)*m1/m2,-(al (prQ fs)*t1/t2'),al (prQ fs)]).length=3:=RM.plain_len _
   have bE:AllB 8500 (aD [al (prQ fs)*m1/m2,-(al (prQ fs)*t1/t2'),al (prQ fs)]):=by
    refine ju λv hv=>?_
    rcases MM.mp hv with rfl |hv
    ·exact Bits.of_le ((bl.mul hS.mx.b1).mono (k:=8500) (by decide)) (Pm _ _)
    rcases MM.mp hv with rfl |hv
    ·exact(Bits.of_le ((bl.mul hS.bt).mono (k:=8500) (by decide)) (Pm _ _)).neg
    ·rw[MO.mp hv];exact bl.mono
   have fell:c.inn [u,e,b,-σ]->aD [al (prQ fs)*m1/m2,-(al (prQ fs)*t1/t2'),al (prQ fs)]=ah [u,e,b]:=λhin=>by
    have ex:=hO2.only _ hsp1 hin.1 hin.2;have e9:sc=[u,e,b,-σ]:=by rw[esc,ex]
    have ux:=nar'.ux;have uy:=NT.mp nar'.uy;rw[e9]at ux uy;exact Cr hO hW he hσ hB N1 nar'.ends ux uy nar'.wide hS
   generalize aD [al (prQ fs)*m1/m2,-(al (prQ fs)*t1/t2'),al (prQ fs)]=Es at e8 hPE hlE bE fell
   have u9:=u8.trans s8;have t9:=t2.trans u9
   have next:∀H',Same H8 H'->¬c.inn [u,e,b,-σ]->∃(z7 z8:Option V),[some (V.ref a),some (V.ref l),some (V.ref h),some (V.ref p),some (V.ref wd),some (V.ref ps),some (V.ref pl'),some (V.ref c.q),some (V.ref psq)]=[some (V.ref a),some (V.ref l),some (V.ref h),some (V.ref p),some (V.ref wd),some (V.ref ps),some (V.ref pl'),z7,z8]/\Same H6 H'/\∀(j:Nat) (c:Cel),j<i+1->ys[j]?=some c->¬c.inn [u,e,b,-σ]:=λH' s' hn=>⟨_,_,rfl,sm.trans (s7.trans (s8.trans s')),λj c' hj ej=>by
    rcases Nat.lt_or_eq_of_le (Nat.lt_succ_iff.mp hj)with v |v
    ·exact hno j c' v ej
    ·subst v;rw[ey,<- hc0]at ej
     rw[<- Option.some.inj ej,hc0];exact hn⟩
   refine df ⟨_,rfl,_,rfl,p,psq,prQ fs,Es,8500,rfl,u9 _ _ e2,e8,hPE.ne,hW.bits.mono,bE,by have:((prQ fs).length+2)*(8500+1)<=9*8501:=Nz _ (by omega);omega,by omega,λH9 s9=>?_⟩;refine⟨_,rfl,aH (λhd=>?_) (λhd=>?_)⟩
   ·have hd':aM (prQ fs) Es=[]:=hd
    obtain⟨gs,hG,hgl,hEg,hone,hfel⟩:∃gs,Fam gs/\gs.length<=2/\Es=prQ gs/\(bN (aK gs) l1 l2 h1 h2=1->Es=ah [u,e,b])/\(c.inn [u,e,b,-σ]->bN (aK gs) l1 l2 h1 h2=1):=by
     by_cases hin:c.inn [u,e,b,-σ]
     ·have hG:=hF.single hO.mem;exact⟨[[u,e,b]],hG,by simp,by rw[rL hG];exact fell hin,λ_=>fell hin,λ_=>hO.cnt⟩
     ·obtain⟨gs,g1,_,g3,g4,g5⟩:=hO.sq hl3 hPE hlE (ua hPE.ne hPE.tr hd');exact⟨gs,g1,g3,g4,g5,λz=>absurd z hin⟩
    have bG:=BG hG hgl;obtain⟨rn,rx,rl⟩:=xN hG (by rw[<- hEg];omega) bG;rw[<- hEg]at rn bG;refine⟨_,rfl,psq,Es,9,rfl,s9 _ _ e8,hPE.tr,bE.mono,by omega,by decide,rn,λlr rs H10 s10 hlr hnew el hR=>?_⟩;have t10:=(t9.trans s9).trans s10;have hR':RwH H10 rs (c8 gs):=by unfold c8;rw[<- hEg];exact hR
    refine⟨_,rfl,_,rfl,lr,l,h,rs,c8 gs,l1,l2,h1,h2,rfl,el,hR',hl.same t10,hh.same t10,en.bl1.mono,en.bl2.mono,en.bh1.mono,en.bh2.mono,rx,rl,λH11 s11=>⟨_,_,rfl,rfl,_,rfl,aH (λh4=>?_) (λh4=>?_)⟩⟩
    ·have h4':((chS (sgs l1 l2 (c8 gs))).1:Int)-(chS (sgs h1 h2 (c8 gs))).1=1:=h4;rw[rk hG (by rw[<- hEg];omega) en.l2p en.h2p en.lt]at h4';rw[hone h4']at e8;have w11:=s9.trans (s10.trans s11);refine aV ⟨_,rfl,?_⟩;exact k psq H11 (t9.trans w11) ((t2.trans u8).free hpsq) (w11 _ _ e8)
    ·have h4':¬((chS (sgs l1 l2 (c8 gs))).1:Int)-(chS (sgs h1 h2 (c8 gs))).1=1:=h4;rw[rk hG (by rw[<- hEg];omega) en.l2p en.h2p en.lt]at h4';exact next _ (s9.trans (s10.trans s11)) λz=>h4' (hfel z)
   ·have hd':¬aM (prQ fs) Es=[]:=hd;refine cs (next _ s9 λz=>hd' ?_);rw[fell z];exact Jr hF hO.mem
  ·rintro σ' H' ⟨z7,z8,rfl,sm,hno⟩;obtain⟨c,hc1,hc2⟩:=hcov _ hsp1;obtain⟨j,hj,ej⟩:=List.mem_iff_getElem.mp hc1;exact absurd hc2 (hno j c (by rw[hql];exact hj) (by rw[<- ej];exact List.getElem?_eq_getElem hj))
structure OneW(fs:List Ex)(f0 s0:Ex)(l1 l2 h1 h2:Int):Prop where
 whl:Whl fs
 one:OneS fs f0 s0 l1 l2 h1 h2
 cnt:bN (aK fs) l1 l2 h1 h2=1
 en:EndsG 710 l1 l2 h1 h2
def wA(C CN:Addr):Sp:=λvs H Q _=>∃(a l h:Addr) (fs:List Ex) (f0 s0:Ex) (l1 l2 h1 h2:Int),vs=[.ref a,.ref l,.ref h]/\H a=some (.lst ((prQ fs).map V.int))/\RA C H l l1 l2/\RA C H h h1 h2/\OneW fs f0 s0 l1 l2 h1 h2/\∀(x q:Addr) (H':Hp),Same H H'->H x=none->NA CN H' x q l h->H' q=some (.lst ((ah f0).map V.int))->H q=none->Q (.ref x) H'
theorem Ft(F:Fun K "number_in" "number_in" qi f fd)(T:Txt K mg)(R:RCI K mg C)(KF:Cal P w K mg base 37 "least" ["row","low","high"] (wF C) Mh Lu)(i6:Cal P w K mg base 2 "sign_at" ["row","ratio"] (j7 C) tR tJ)(oj:Cal P w K mg base 6 "narrowed" ["row","low","high","width"] (oY C) Ja ID)(uY:MCal P w K mg base 4 C "minus" ["self","other"] (oZ C) Jm IQ)(i9:MCal P w K mg base 4 C "times" ["self","other"] (j5 C) tX tN)(cR:KCal P w K mg base 2 C "Ratio" ["self","top","bottom"] (dD C) gJ gH gK [.int 1])(KW:KCal P w K mg base 1 CN "Number" ["self","row","low","high"] (me CN) ME LV MF []):FnOk P w K mg base CX0 38 f fd ["simple","low","high"] (wA C CN):=by
 obtain⟨uL,su,uA⟩:=uY;obtain⟨fR,fE,fO⟩:=i9;obtain⟨cM,cK,cH,c7,eK,eG⟩:=cR;obtain⟨Kj,Kf,Hj,J2,MH,MG⟩:=KW;refine F.ok km (λvs H Q E h=>?_) (λcdv A outer s H vs Q E hr h=>?_)
 ·obtain⟨a,l,h,fs,f0,s0,l1,l2,h1,h2,rfl,_⟩:=h;rfl
 ·obtain⟨a,l,h,fs,f0,s0,l1,l2,h1,h2,rfl,hA,hl,hh,hN,k⟩:=h
  refine⟨_,(ag (ao 3 km (aq KF hr (aa (pv 0) (aa (pv 1) (aa (pv 2) ac)))))
   (ag (ao 4 km (cZ (aa (pv 1) (aa (pv 2) ac))))
   (ag (eR PassesOwn.never (aG cU (aq i6 hr (aa (pv 3) (aa (aU K (pv 4) ad) ac))) ad)
     (ag (ao 5 km (du (du (aU K (pv 4) ad) R.cl su uL (hr.mono) uA .nil bU (aa (aU K (pv 4) ad) ac)) R.cl fE fR (hr.mono) fO .nil bU (aa (dW cK cM (hr.mono) rfl cH c7 .nil bU (aa ad (aa ad ac))) ac)))
       (aj (ao 4 km (aq oj hr (aa (pv 3) (aa (aU K (pv 4) ad) (aa (aU K (pv 4) ad) (aa (pv 5) ac)))))))))
   (aj (aC (dW Kf Kj (hr.mono) rfl Hj J2 .nil bU (aa (pv 3) (aa (aU K (pv 4) ad) (aa (aU K (pv 4) ad) ac))))))))),?_⟩
  obtain⟨bS,lS⟩:=iy (hN.one.fam.fac f0 hN.one.mem);refine av ⟨_,rfl,_,rfl,_,rfl,a,l,h,fs,f0,s0,l1,l2,h1,h2,rfl,hA,hl,hh,hN.whl,hN.one,hN.cnt,hN.en,λp H1 s1 hp e1=>?_⟩;refine av ⟨_,rfl,_,rfl,by show 2<=sizeLine;decide,λps hps=>?_⟩;have s2:=s1.then_new (o:=.tup [V.ref l,V.ref h]) hps;have q2:upd H1 ps (.tup [V.ref l,V.ref h]) ps=some (.tup [V.ref l,V.ref h]):=ap;have e2:=(Same.upd_new (o:=.tup [V.ref l,V.ref h]) hps) _ _ e1;generalize upd H1 ps (.tup [V.ref l,V.ref h])=H2 at s2 q2 e2 ⊢
  refine⟨λm σ' H'=>m=0/\(∃z5:Option V,σ'=[some (.ref a),some (.ref l),some (.ref h),some (.ref p),some (.ref ps),z5])/\H2=H',⟨0,rfl,⟨none,rfl⟩,rfl⟩,?_⟩;rintro m σ' H' ⟨rfl,⟨z5,rfl⟩,rfl⟩;refine⟨_,rfl,_,rfl,ps,_,_,_,rfl,rfl,SqT.of q2,rfl,p,l,ah f0,l1,l2,⟨rfl,e2,hl.same s2,by omega,bS.mono,hN.en.bl1.mono,hN.en.bl2.mono⟩,λH3 s3=>⟨_,_,rfl,rfl,_,rfl,aH (λh0=>absurd h0 hN.one.low) (λ_=>?_)⟩⟩;have q3:=s3 _ _ q2;have e3:=s3 _ _ e2;have t3:=s2.trans s3;dsimp only
  refine aV ⟨_,rfl,_,rfl,ps,_,_,_,rfl,rfl,SqT.of q3,rfl,_,rfl,ps,_,_,_,rfl,rfl,SqT.of q3,rfl,Hh e3 λx q H4 s4 hx hNA hq hqn=>?_⟩;exact k x q H4 (t3.trans s4) (t3.free hx) hNA hq (t3.free hqn)
def XV(C:Addr)(att:Str)(v:Int)(H:Hp)(E:XK):Prop:=∀(H':Hp) (dx:Addr),Same H H'->H' dx=some (.xd [(att,V.int v)])->E (.ref C) (some dx) H'
theorem XV.step{C:Addr}{att:Str}{v:Int}{H H1:Hp}{E:XK}(h:XV C att v H E)(s:Same H H1):XV C att v H1 E:=λH' dx s' e=>h H' dx (s.trans s') e
theorem Gj{CTooHigh f:Addr}{fd:FuncData}(F:Fun K "__init__" "TooHigh.__init__" jm f fd)(T:Txt K mg)(hX:XCls K CTooHigh)(hN:NoAttr K CTooHigh "degree"):FnOk P w K mg base CX0 1 f fd ["self","degree"] (lZ CTooHigh "degree"):=by
 refine F.ok Dq (λvs H Q E h=>?_) (λcdv A outer s H vs Q E hr h=>?_)
 ·obtain⟨e,v,rfl,_⟩:=h;rfl
 ·obtain⟨e,v,rfl,he,k⟩:=h;refine⟨_,(aj (Ei (pv 0) (pv 1) rfl)),?_⟩;exact⟨_,rfl,_,rfl,e,CTooHigh,rfl,he,hX,hN,λdx h1 h2=>k dx h1 h2⟩
def wo(CT:Addr):Sp:=λvs H Q E=>∃i:Int,vs=[.int i]/\(i<=8->Q .non H)/\(8<i->XV CT "degree" i H E)
theorem Fm{CTooHigh f:Addr}{fd:FuncData}(F:Fun K "refuse_high" "refuse_high" qd f fd)(T:Txt K mg)(C_TooHigh:XCal P w K mg base 1 CTooHigh "TooHigh" "degree" ["self","degree"] Jk IN):FnOk P w K mg base (CXV P w) 3 f fd ["height"] (wo CTooHigh):=by
 obtain⟨tH,hHIGHEST⟩:=T.HIGHEST_;refine F.okV Dd (λvs H Q E h=>?_) (λcdv A outer s H vs Q E hr h=>?_)
 ·obtain⟨i,rfl,_⟩:=h;rfl
 ·obtain⟨i,rfl,k1,k2⟩:=h
  refine⟨_,(aj (aR (aG cQ (pv 0) (rQ (v:=.int 8) rfl hHIGHEST ⟨_,rfl⟩))
   (aj (Em (C:=CTooHigh) rfl C_TooHigh.ow PySem.F.excBase_ValueError C_TooHigh.ok (hr.mono) C_TooHigh.bd C_TooHigh.kp (aa (pv 0) ac)))
   aS)),?_⟩
  refine gj ⟨_,rfl,_,_,rfl,rfl,_,rfl,aH (λh=>?_) (λh=>?_)⟩
  ·have h':i>8:=h;exact⟨_,rfl,_,rfl,λd hd=>k2 (by omega) _ d (Same.upd_new hd) ap⟩
  ·have h':¬i>8:=h;exact k1 (by omega)
def NmH(C CN:Addr)(H:Hp)(fs:List Ex)(x:Addr)(y:Cel):Prop:=∃(q:Addr) (f0 s0:Ex),NA CN H x q y.lo y.hi/\H q=some (.lst ((ah f0).map V.int))/\RA C H y.lo y.l1 y.l2/\RA C H y.hi y.h1 y.h2/\EndsG 710 y.l1 y.l2 y.h1 y.h2/\OneS fs f0 s0 y.l1 y.l2 y.h1 y.h2
theorem NmH.same{C CN:Addr}{H H':Hp}{fs:List Ex}{x:Addr}{y:Cel}(h:NmH C CN H fs x y)(s:Same H H'):NmH C CN H' fs x y:=let⟨q,f0,s0,a,b,c,d,e,f⟩:=h;⟨q,f0,s0,a.same s,s _ _ b,c.same s,d.same s,e,f⟩
def NsH(C CN:Addr)(H:Hp)(fs:List Ex)(xs:List Addr)(ys:List Cel):Prop:=xs.length=ys.length/\∀(i:Nat) (x:Addr) (y:Cel),xs[i]?=some x->ys[i]?=some y->NmH C CN H fs x y
def iu(C CN CT:Addr):Sp:=λvs H Q E=>∃(a:Addr) (kp:Ex),vs=[.ref a]/\H a=some (.lst (kp.map V.int))/\((9<kp.length/\XV CT "degree" (kp.length-1) H E)\/(kp=[]/\mkL H Q [])\/(∃(c:Int) (us:List (Ex×Nat)),Made kp c us/\(flt us).length=1/\AllB 250 (flt us)/\mkL H Q []) \/
 (∃(c:Int) (us:List (Ex×Nat)) (fs:List Ex),Made kp c us/\flt us=prQ fs/\Whl fs/\∀(p:Addr) (H':Hp) (xs:List Addr) (ys:List Cel),Same H H'->H p=none->H' p=some (.lst (xs.map V.ref))->NsH C CN H' fs xs ys->dj ys->(∀s∈aK fs,cov s ys)->ys.length<=12000->Q (.ref p) H'))
theorem Fl{C CN CTooHigh f:Addr}{fd:FuncData}(F:Fun K "roots" "roots" qc f fd)(T:Txt K mg)(R:RCI K mg C)(Ku:CalV P w K mg base 3 "refuse_high" ["height"] (wo CTooHigh) L8 Lj)(eN:Cal P w K mg base 1 "degree" ["row"] jd nN nM)(Km:Cal P w K mg base 36 "without_squares" ["row"] v9 LW La)(Kv:Cal P w K mg base 1 "refuse_great" ["row"] wq L9 Lk)(uU:Cal P w K mg base 36 "cells" ["row"] (o8 C) Jd IG)(Kx:Cal P w K mg base 38 "number_in" ["simple","low","high"] (wA C CN) Mb Lm):FnOk P w K mg base (CXV P w) 39 f fd ["row"] (iu C CN CTooHigh):=by
 obtain⟨Kh,Hi,Hy,J0⟩:=Ku;refine F.okV xz (λvs H Q E h=>?_) (λcdv A outer s H vs Q E hr h=>?_)
 ·obtain⟨a,kp,rfl,_⟩:=h;rfl
 ·obtain⟨a,kp,rfl,hA,hk⟩:=h;have big:=sizeLine_eq;have hml:(kp.map V.int).length=kp.length:=MI _
  refine⟨_,(ag (dq (kK Kh (hr.mono) rfl Hi Hy J0 .nil (ES (λ_ _ _ z=>z)) (aa (aq eN hr (aa (pv 0) ac)) ac)))
   (ag (ao 1 xz (aq Km hr (aa (pv 0) ac)))
   (ag (dq (aq Kv hr (aa (pv 1) ac)))
   (aj (aC (eV (own:=["cell"]) (fr:=["simple"]) (js:=[1]) (by walk_at "comp_ok") rfl (c9 (K:=K) rfl (aq uU hr (aa (pv 1) ac))) (λ_ _ _ _=>(dG (i:=0) (show List.Nodup (["cell","simple"]:List Str)from by decide +kernel) rfl (Or.inl rfl))) (λ_ _ _ _=>(aq Kx hr (aa (pv 1) (aa (aU K (pv 0) ad) (aa (aU K (pv 0) ad) ac))))))))))),?_⟩
  refine gd ⟨_,rfl,a,_,rfl,hA,_,rfl,λh8=>?_,λh8=>?_⟩
  rotate_left
  ·rw[hml]at h8 ⊢;rcases hk with⟨_,k⟩ |⟨rfl,_⟩ |⟨c,us,hM,_⟩ |⟨c,us,fs,hM,_⟩
   ·exact k
   ·exact absurd h8 (by decide)
   ·have:=hM.len.1;omega
   ·have:=hM.len.1;omega
  rw[hml]at h8;refine mJ (λσ' H'=>∃(pw:Addr) (ns:Ex),σ'=[some (.ref a),some (.ref pw)]/\Same H H'/\H' pw=some (.lst (ns.map V.int))/\AllB 300 ns/\ns.length<=1000/\((ns.length<=1/\mkL H Q [])\/(∃fs:List Ex,ns=prQ fs/\Whl fs/\∀(p:Addr) (H':Hp) (xs:List Addr) (ys:List Cel),Same H H'->H p=none->H' p=some (.lst (xs.map V.ref))->NsH C CN H' fs xs ys->dj ys->(∀s∈aK fs,cov s ys)->ys.length<=12000->Q (.ref p) H'))) ?_ (λrest=>?_)
  rotate_left
  ·rcases hk with⟨h9,_⟩ |⟨rfl,k⟩ |⟨c,us,hM,hf1,hfb,k⟩ |⟨c,us,fs,hM,hfl,hW,k⟩
   ·omega
   ·exact cS ⟨_,rfl,.inr ⟨a,rfl,hA,λpw H1 s1 hpw e1=>rest _ _ ⟨pw,[],rfl,s1,e1,λx hx=>(nomatch hx),by decide,.inl ⟨by decide,k⟩⟩⟩⟩
   ·exact cS ⟨_,rfl,.inl ⟨a,kp,c,us,rfl,hA,hM,λpw H1 s1 hpw e1=>rest _ _ ⟨pw,_,rfl,s1,e1,hfb.mono,by omega,.inl ⟨by omega,k⟩⟩⟩⟩
   ·exact cS ⟨_,rfl,.inl ⟨a,kp,c,us,rfl,hA,hM,λpw H1 s1 hpw e1=>rest _ _ ⟨pw,_,rfl,s1,e1,by rw[hfl];exact hW.bits.mono,by rw[hfl];have:=hW.l7;omega,.inr ⟨fs,hfl,hW,k⟩⟩⟩⟩
  clear hk;rintro σ' H1 ⟨pw,ns,rfl,s1,e1,hb,hl,hk⟩;refine gd ⟨_,rfl,pw,ns,rfl,e1,hl,hb,λH2 s2=>?_⟩;have t2:=s1.trans s2;have e2:=s2 _ _ e1;rcases hk with⟨hl1,k⟩ |⟨fs,rfl,hW,k⟩
  ·refine aV ⟨_,rfl,.inr ⟨pw,ns,rfl,e2,hl1,λpc H3 s3 hpc ec=>?_⟩⟩;have t3:=t2.trans s3;refine⟨pc,rfl,⟨_,SqL.of ec⟩,fN (K:=K) (a:=pc) (xs:=[]) (λi vs σ' H'=>vs=[]/\i=0/\Same H3 H') (by show 0<=sizeLine;decide) ⟨rfl,rfl,Same.refl _⟩ ?_ ?_ ?_⟩
   ·rintro i vs σ' H' _ ⟨rfl,rfl,sm⟩;exact⟨SqL.of (sm _ _ ec),MJ _⟩
   ·intro i z vs σ' H' hi;simp at hi
   ·rintro vs σ' H' p ⟨rfl,_,sm⟩ hp;exact k p _ ((t3.trans sm).then_new hp) ((t3.trans sm).free hp) ap
  ·refine aV ⟨_,rfl,.inl ⟨pw,fs,rfl,e2,hW,λkb pc ys H3 hkb hB s3 hpc ec hys hcov hyl hri=>?_⟩⟩;have t3:=t2.trans s3;have hql:(qs ys).length=ys.length:=MI _;refine⟨pc,rfl,⟨_,SqL.of ec⟩,fN (K:=K) (a:=pc) (xs:=qs ys) (λi vs σ' H'=>∃(z0:Option V) (xs:List Addr),σ'=[z0,some (.ref pw)]/\vs=xs.map V.ref/\Same H3 H'/\xs.length=i/\∀(j:Nat) (x:Addr) (y:Cel),xs[j]?=some x->ys[j]?=some y->NmH C CN H' fs x y) (by rw[hql];omega) ⟨none,[],rfl,rfl,Same.refl _,rfl,λj x y h=>by simp at h⟩ ?_ ?_ ?_⟩
   ·rintro i vs σ' H' _ ⟨z0,xs,rfl,rfl,sm,hxl,_⟩;exact⟨SqL.of (sm _ _ ec),by rw[MI,hxl];exact MJ _⟩
   ·rintro i z vs σ' H' hi ⟨z0,xs,rfl,rfl,sm,hxl,hN⟩
    have hil:i<ys.length:=by apply Classical.byContradiction;intro hn;rw[List.getElem?_eq_none_iff.mpr (by rw[hql];omega)]at hi;cases hi
    have ey:ys[i]?=some ys[i]:=List.getElem?_eq_getElem hil
    have hz:z=V.ref ys[i].q:=by
     unfold qs at hi
     rw[List.getElem?_map,ey]at hi;exact(Option.some.inj hi).symm
    subst hz;have hcm:ys[i]∈ys:=ND hil;generalize ys[i]=c at ey hcm
    have hcf:=(hys c hcm).nl (NL.of sm);have dE:=Ae hcf.dy hkb hcf.dd;obtain⟨f0,s0,hO⟩:=yw hW.fam dE.l2p dE.h2p dE.lt hcf.one;refine⟨_,rfl,_,rfl,c.q,_,_,_,rfl,rfl,SqT.of hcf.tup,rfl,_,rfl,c.q,_,_,_,rfl,rfl,SqT.of hcf.tup,rfl,pw,c.lo,c.hi,fs,f0,s0,c.l1,c.l2,c.h1,c.h2,rfl,(s3.trans sm) _ _ e2,hcf.lo,hcf.hi,⟨hW,hO,hcf.one,dE⟩,λx q H4 s4 hx hNA hq hqn=>?_⟩;refine⟨_,xs++[x],rfl,by rw[Nl];rfl,sm.trans s4,by rw[MX,hxl];rfl,λj x' y' h1 h2=>?_⟩;by_cases hj:j<xs.length
    ·rw[List.getElem?_append_left hj]at h1;exact(hN j x' y' h1 h2).same s4
    ·rw[List.getElem?_append_right (by omega)]at h1;by_cases h0:j-xs.length=0
     ·rw[h0]at h1;obtain rfl:x=x':=by simpa using h1
      have ej:j=i:=by omega
      subst ej;rw[ey]at h2;cases h2;exact⟨q,f0,s0,hNA,hq,hcf.lo.same s4,hcf.hi.same s4,dE,hO⟩
     ·rw[List.getElem?_eq_none_iff.mpr (by simp;omega)]at h1;cases h1
   ·rintro vs σ' H' p ⟨z0,xs,rfl,rfl,sm,hxl,hN⟩ hp;rw[hql]at hxl;have sp:=Same.upd_new (o:=.lst (xs.map V.ref)) hp;exact k p _ xs ys ((t3.trans sm).then_new hp) ((t3.trans sm).free hp) ap ⟨hxl,λj x y h1 h2=>(hN j x y h1 h2).same sp⟩ hri hcov hyl
theorem Gg(F:Fun K "_law_cell_at" "_law_cell_at" qW f fd)(T:Txt K mg):FnOk P w K mg base CX0 1 f fd ["_law_script","_law_k"] (iw K):=by
 refine F.ok Do (λvs H Q E h=>?_) (λcdv A outer s H vs Q E hr h=>?_)
 ·obtain⟨a,ns,k,rfl,_⟩:=h;rfl
 ·obtain⟨a,ns,n,rfl,hS,k⟩:=h
  refine⟨_,(ag (aR (aG cT (pv 1) (ca K T.len_ (aa (pv 0) ac)))
   (aj (aC (bJ K (pv 0) (pv 1))))
   aS)
   (aj (aC ad))),?_⟩
  refine⟨_,rfl,_,rfl,a,_,rfl,.inl hS,_,_,rfl,rfl,_,rfl,?_⟩;refine aH (λh1=>?_) (λh1=>?_)
  ·rw[MI]at h1;have h2:n<ns.length:=by omega
   refine⟨_,rfl,_,rfl,a,_,_,_,rfl,rfl,hS,fQ (v:=.int (ns.getD n 0)) ?_,k⟩;rw[List.getElem?_map,List.getElem?_eq_getElem h2];simp[List.getD,h2]
  ·rw[MI]at h1;have h2:ns.length<=n:=by omega
   have e:ns.getD n 0=0:=by simp[List.getD,List.getElem?_eq_none_iff.mpr h2]
   rw[e]at k;exact k
def ma:Sp:=λvs H Q _=>∃i:Int,vs=[.int i]/\Q (.bl true) H
theorem FT(F:Fun K "_law_whole" "_law_whole" qJ f fd)(T:Txt K mg):FnOk P w K mg base CX0 1 f fd ["_law_found"] ma:=by
 refine F.ok Dl (λvs H Q E h=>?_) (λcdv A outer s H vs Q E hr h=>?_)
 ·obtain⟨i,rfl,_⟩:=h;rfl
 ·obtain⟨i,rfl,k⟩:=h;refine⟨_,(aj (aC (kL (cF (ii (K:=K) rfl) (by rfl) T.isinstance_ PyProof.Rows.boot_isinstance (aa (pv 0) (aa (jv (v:=.ty "int") (by rfl) T.int_ PyProof.Rows.boot_int (by rfl)) ac))) (iI (EI (cF (ii (K:=K) rfl) (by rfl) T.isinstance_ PyProof.Rows.boot_isinstance (aa (pv 0) (aa (jv (v:=.ty "bool") (by rfl) T.bool_ PyProof.Rows.boot_bool (by rfl)) ac)))))))),?_⟩;refine aV (kC (gX ⟨_,rfl,jF (.int i) (k:=true) (by rfl) ⟨_,rfl,fm ?_⟩⟩));refine DR (gX ⟨_,rfl,jF (.int i) (k:=false) (by rfl) ⟨_,rfl,?_⟩⟩);exact k
def WT(H:Hp)(p:Addr)(u v w d:Int):Prop:=H p=some (.tup [.int u,.int v,.int w,.int d])
structure WOk(u v w d:Int):Prop where
 bu:Bits 21 u
 bv:Bits 21 v
 w1:0<w
 w12:w<=12
 d2:2<=d
 d13:d<=13
 ns:NSq d
theorem WOk.bw{u v w d:Int}(h:WOk u v w d):Bits 4 w:=by show w.natAbs<2^4;have:=h.w1;have:=h.w12;omega
theorem WOk.bd{u v w d:Int}(h:WOk u v w d):Bits 4 d:=by show d.natAbs<2^4;have:=h.d2;have:=h.d13;omega
def oT:Sp:=λvs H Q _=>∃u v d:Int,vs=[.int u,.int v,.int d]/\Bits 100000 u/\Bits 100000 v/\Bits 10 d/\Q (.int (sgq u v d)) H
theorem FV(F:Fun K "_law_sign" "_law_sign" qL f fd)(T:Txt K mg):FnOk P w K mg base CX0 1 f fd ["_law_u","_law_v","_law_d"] oT:=by
 refine F.ok Dm (λvs H Q E h=>?_) (λcdv A outer s H vs Q E hr h=>?_)
 ·obtain⟨u,v,d,rfl,_⟩:=h;rfl
 ·obtain⟨u,v,d,rfl,bu,bv,bd,k⟩:=h
  refine⟨_,(ag (aR (PW.pt (fB (aG mX (pv 0) ad) (fA (aG mX (pv 1) ad))))
   (aj (aC (gv oa (by rfl) T.int_ PyProof.Rows.boot_int (aa (rP (dg cQ (pv 0) ad) (iI (dg cQ (pv 1) ad))) ac))))
   aS)
   (ag (aR (PW.pt (fB (aG rW (pv 0) ad) (fA (aG rW (pv 1) ad))))
     (aj (aC (bC bA ad)))
     aS)
   (ag (aR (aG cQ (pv 0) ad)
     (aj (aC (ai bQ ad (ai aI ad (gv oa (by rfl) T.int_ PyProof.Rows.boot_int (aa (dg cT (ai aI (pv 0) (pv 0)) (ai aI (ai aI (pv 2) (pv 1)) (pv 1))) ac))))))
     aS)
   (aj (aC (ai bQ ad (ai aI ad (gv oa (by rfl) T.int_ PyProof.Rows.boot_int (aa (dg cQ (ai aI (pv 0) (pv 0)) (ai aI (ai aI (pv 2) (pv 1)) (pv 1))) ac))))))))),?_⟩
  have bdv:Bits 100010 (d*v):=(bd.mul bv).mono;by_cases h1:0<=u/\0<=v
  ·refine bn (df ⟨_,rfl,_,_,rfl,rfl,_,rfl,aH (λ_=>?_) (λz=>absurd (show u≥0 from h1.1) z)⟩);refine⟨_,rfl,_,_,rfl,rfl,_,rfl,aH (λ_=>?_) (λz=>absurd (show v≥0 from h1.2) z)⟩;refine aV (rA ⟨_,rfl,_,_,rfl,rfl,_,rfl,?_⟩);unfold sgq at k
   rw[if_pos h1]at k;by_cases h2:0<u
   ·rw[decide_eq_true (show u>0 from h2)];refine fm (.inr ⟨_,rfl,?_⟩);rw[if_pos (.inl h2)]at k;exact k
   ·rw[decide_eq_false (show ¬u>0 from h2)];refine cs ⟨_,rfl,_,_,rfl,rfl,.inr ⟨_,rfl,?_⟩⟩;by_cases h3:0<v
    ·rw[if_pos (.inr h3)]at k;rw[decide_eq_true (show v>0 from h3)];exact k
    ·rw[if_neg (by omega)]at k;rw[decide_eq_false (show ¬v>0 from h3)];exact k
  unfold sgq at k
  rw[if_neg h1]at k
  have go:∀{A B:Prop},B->(if(decide (u≥0))=true then(if(decide (v≥0))=true then A else B)else B):=λ{A B} b=>by
   by_cases a1:u≥0
   ·rw[if_pos (decide_eq_true a1),if_neg (by rw[decide_eq_false (λz=>h1 ⟨a1,z⟩)];decide)];exact b
   ·rw[if_neg (by rw[decide_eq_false a1];decide)];exact b
  refine bn (df ⟨_,rfl,_,_,rfl,rfl,_,rfl,aH (λa1=>?_) (λa1=>?_)⟩)
  ·refine⟨_,rfl,_,_,rfl,rfl,_,rfl,aH (λa2=>absurd ⟨a1,a2⟩ h1) (λ_=>?_)⟩;by_cases h2:u<=0/\v<=0
   ·rw[if_pos h2]at k;refine bn (df ⟨_,rfl,_,_,rfl,rfl,_,rfl,aH (λ_=>?_) (λz=>absurd h2.1 z)⟩);refine⟨_,rfl,_,_,rfl,rfl,_,rfl,aH (λ_=>?_) (λz=>absurd h2.2 z)⟩;exact aV ⟨_,rfl,k⟩
   rw[if_neg h2]at k;have a1':0<=u:=a1;have up:0<u:=by omega
   rw[if_pos up]at k;refine bn (df ⟨_,rfl,_,_,rfl,rfl,_,rfl,aH (λz=>absurd (show u<=0 from z) (by omega)) (λ_=>cs ?_)⟩);refine bn ⟨_,rfl,_,_,rfl,rfl,_,rfl,aH (λ_=>?_) (λz=>absurd (show u>0 from up) z)⟩;refine aV ⟨_,rfl,_,rfl,_,_,rfl,rfl,⟨bu.mono,bu.mono⟩,_,rfl,_,rfl,_,_,rfl,rfl,⟨bd.mono,bv.mono⟩,_,rfl,_,_,rfl,rfl,⟨bdv.mono,bv.mono⟩,_,_,rfl,rfl,.inr ⟨_,rfl,?_⟩⟩;by_cases h3:u*u<d*v*v
   ·rw[if_pos h3]at k;rw[decide_eq_true h3];exact⟨_,_,rfl,rfl,⟨fV,rX⟩,_,_,rfl,rfl,k⟩
   ·rw[if_neg h3]at k;rw[decide_eq_false h3];exact⟨_,_,rfl,rfl,⟨fV,Bits.zero⟩,_,_,rfl,rfl,k⟩
  ·have a1':¬0<=u:=a1;refine cs ?_;by_cases h2:u<=0/\v<=0
   ·rw[if_pos h2]at k;refine bn (df ⟨_,rfl,_,_,rfl,rfl,_,rfl,aH (λ_=>?_) (λz=>absurd h2.1 z)⟩);refine⟨_,rfl,_,_,rfl,rfl,_,rfl,aH (λ_=>?_) (λz=>absurd h2.2 z)⟩;exact aV ⟨_,rfl,k⟩
   rw[if_neg h2,if_neg (by omega)]at k;refine bn (df ⟨_,rfl,_,_,rfl,rfl,_,rfl,aH (λ_=>?_) (λz=>absurd (show u<=0 by omega) z)⟩);refine⟨_,rfl,_,_,rfl,rfl,_,rfl,aH (λz=>absurd (show v<=0 from z) (by omega)) (λ_=>?_)⟩;refine bn ⟨_,rfl,_,_,rfl,rfl,_,rfl,aH (λz=>absurd (show u>0 from z) (by omega)) (λ_=>?_)⟩;refine aV ⟨_,rfl,_,rfl,_,_,rfl,rfl,⟨bu.mono,bu.mono⟩,_,rfl,_,rfl,_,_,rfl,rfl,⟨bd.mono,bv.mono⟩,_,rfl,_,_,rfl,rfl,⟨bdv.mono,bv.mono⟩,_,_,rfl,rfl,.inr ⟨_,rfl,?_⟩⟩;by_cases h3:u*u>d*v*v
   ·rw[if_pos h3]at k;rw[decide_eq_true h3];exact⟨_,_,rfl,rfl,⟨fV,rX⟩,_,_,rfl,rfl,k⟩
   ·rw[if_neg h3]at k;rw[decide_eq_false h3];exact⟨_,_,rfl,rfl,⟨fV,Bits.zero⟩,_,_,rfl,rfl,k⟩
def wR(C:Addr):Sp:=λvs H Q _=>∃(p r:Addr) (u v w d t b:Int),vs=[.ref p,.ref r]/\WT H p u v w d/\WOk u v w d/\RA C H r t b/\Bits 3000 t/\Bits 3000 b/\Q (.int (sgq (u*b-t*w) (v*b) d)) H
theorem Gh(F:Fun K "_law_beside" "_law_beside" qX f fd)(T:Txt K mg)(R:RCI K mg C)(uV:Cal P w K mg base 1 "_law_sign" ["_law_u","_law_v","_law_d"] oT Jg IJ):FnOk P w K mg base CX0 2 f fd ["_law_worth_here","_law_r"] (wR C):=by
 refine F.ok kx (λvs H Q E h=>?_) (λcdv A outer s H vs Q E hr h=>?_)
 ·obtain⟨p,r,u,v,w,d,t,b,rfl,_⟩:=h;rfl
 ·obtain⟨p,r,u,v,w,d,t,b,rfl,hp,hW,⟨dr,hR⟩,bt,bb,k⟩:=h
  refine⟨_,(ag (eT (pv 0) (gu rfl (bI (aT 2 kx) (bI (aT 3 kx) (bI (aT 4 kx) (bI (aT 5 kx) gt))))))
   (aj (aC (aq uV hr (aa (ai bQ (ai aI (pv 2) (aL (K:=K) rfl (pv 1) rfl)) (ai aI (aL (K:=K) rfl (pv 1) rfl) (pv 4))) (aa (ai aI (pv 3) (aL (K:=K) rfl (pv 1) rfl)) (aa (pv 5) ac))))))),?_⟩
  refine⟨_,rfl,p,_,rfl,SqT.of hp,rfl,_,_,rfl,_,_,rfl,_,_,rfl,_,_,rfl,rfl,?_⟩;refine⟨_,rfl,_,rfl,r,C,dr,_,_,rfl,hR,R.cl,R.nB,bF _ _,_,_,rfl,rfl,⟨hW.bu.mono,bb.mono⟩,_,rfl,r,C,dr,_,_,rfl,hR,R.cl,R.nT,cI _ _,_,rfl,_,_,rfl,rfl,⟨bt.mono,hW.bw.mono⟩,_,_,rfl,rfl,?_⟩;refine⟨_,rfl,_,rfl,r,C,dr,_,_,rfl,hR,R.cl,R.nB,bF _ _,_,_,rfl,rfl,⟨hW.bv.mono,bb.mono⟩,_,rfl,_,_,_,rfl,?_,?_,hW.bd.mono,k⟩
  ·exact Bits.mono (Bits.sub (k:=3100) ((hW.bu.mul bb).mono) ((bt.mul hW.bw).mono)) (by decide)
  ·exact(hW.bv.mul bb).mono
def o6:Sp:=λvs H Q _=>∃x y:Int,vs=[.int x,.int y]/\0<=x/\0<=y/\Q (.int (Nat.gcd x.natAbs y.natAbs:Nat)) H
theorem Ge(F:Fun K "_law_divisor" "_law_divisor" qU f fd)(T:Txt K mg):FnOk P w K mg base CX0 1 f fd ["_law_one","_law_other"] o6:=by
 refine F.ok mG (λvs H Q E h=>?_) (λcdv A outer s H vs Q E hr h=>?_)
 ·obtain⟨a,b,rfl,_⟩:=h;rfl
 ·obtain⟨a,b,rfl,ha,h0,k⟩:=h
  refine⟨_,(ag (eR PassesOwn.never (aG iK (pv 1) ad)
   (ag (ao 2 mG (ai ci (pv 0) (pv 1)))
     (ag (ao 0 mG (pv 1))
     (aj (ao 1 mG (pv 2))))))
   (aj (aC (pv 0)))),?_⟩
  refine⟨λm σ' H'=>∃(x y:Int) (z:Option V),σ'=[some (.int x),some (.int y),z]/\H=H'/\0<=x/\0<=y/\y.natAbs=m/\Nat.gcd x.natAbs y.natAbs=Nat.gcd a.natAbs b.natAbs,⟨_,_,_,none,rfl,rfl,ha,h0,rfl,rfl⟩,?_⟩;rintro m σ' H' ⟨x,y,z,rfl,rfl,hx,hy,rfl,hg⟩;refine⟨_,rfl,_,_,rfl,rfl,_,rfl,?_⟩;refine cY (λhn=>?_) (λh0=>?_)
  ·have hp:0<y:=by have:y≠0:=hn;omega
   refine⟨_,λ_ _ h=>h,?_⟩;refine⟨_,rfl,_,rfl,_,_,rfl,rfl,hp,?_⟩;refine⟨_,rfl,?_⟩;refine⟨_,rfl,?_⟩;have h1:=N6 x (Nk hp);have h2:=N7 x hp;exact⟨(x%y).natAbs,by omega,y,x%y,_,rfl,rfl,hy,h1,rfl,by rw[zL hx hp];exact hg⟩
  ·have e:(y:Int)=0:=h0;subst e;refine⟨_,rfl,?_⟩
   have e2:(x:Int)=((Nat.gcd a.natAbs b.natAbs:Nat):Int):=by rw[<- hg];show x=((Nat.gcd x.natAbs 0:Nat):Int);rw[Nat.gcd_zero_right];omega
   rw[e2];exact k
def wx:Sp:=λvs H Q _=>∃(a:Addr) (ns:Ex),vs=[.ref a]/\H a=some (.lst (ns.map V.int))/\Tr ns/\ns≠[]/\0<al ns/\ns.length<=100/\AllB 8000 ns/\mkL H Q (aD ns)
theorem kH{ns:Ex}(hT:Tr ns)(hne:ns≠[])(hp:0<al ns):0<(aB ns:Int)/\aD ns=ar ns:=by
 have hs:=ml (l:=ns)
 have hlast:al ns=(aB ns:Int)*al (ar ns):=by have h5:cf (scL (aB ns:Int) (ar ns)) (ns.length-1)=(aB ns:Int)*cf (ar ns) (ns.length-1):=bh _ _ _;rw[hs]at h5;have h6:(ar ns).length=ns.length:=MI _;unfold al;rw[h6];exact h5
 have g0:(0:Int)<=(aB ns:Int):=by omega
 have gp:0<(aB ns:Int):=by
  refine Classical.byContradiction λz=>?_
  have:(aB ns:Int)=0:=by omega
  rw[this,Nn]at hlast;omega
 refine⟨gp,?_⟩;unfold aD cz;rw[if_neg (λz=>?_)];have:=Pd gp z;omega
theorem Ga(F:Fun K "_law_plain" "_law_plain" qQ f fd)(T:Txt K mg)(uW:Cal P w K mg base 1 "_law_divisor" ["_law_one","_law_other"] o6 Ji IL):FnOk P w K mg base CX0 2 f fd ["_law_row"] wx:=by
 refine F.ok kt (λvs H Q E h=>?_) (λcdv A outer s H vs Q E hr h=>?_)
 ·obtain⟨a,ns,rfl,_⟩:=h;rfl
 ·obtain⟨a,ns,rfl,hA,hT,hne,hp,hl,hb,k⟩:=h;have big:=sizeLine_eq;have hS:=SqL.of (K:=K) hA
  refine⟨_,(ag (ao 1 kt ad)
   (ag (cw PassesOwn.never rfl (c9 (K:=K) rfl (pv 0)) (aT 2 kt)
     (aj (ao 1 kt (aq uW hr (aa (pv 1) (aa (cF ij (by rfl) T.abs_ PyProof.Rows.boot_abs (aa (pv 2) ac)) ac))))))
   (ag (aR (aG cT (bJ K (pv 0) (bC bA ad)) ad)
     (aj (ao 1 kt (bC bA (pv 1))))
     aS)
   (aj (aC (eV (own:=["_law_one"]) (fr:=["_law_by"]) (js:=[1]) (by walk_at "comp_ok") rfl (c9 (K:=K) rfl (pv 0)) (λ_ _ _ _=>(dG (i:=0) (show List.Nodup (["_law_one","_law_by"]:List Str)from by decide +kernel) rfl (Or.inl rfl))) (λ_ _ _ _=>(ai cG (pv 0) (pv 1))))))))),?_⟩
  refine av ?_;refine⟨_,rfl,a,rfl,⟨_,hS⟩,iT (K:=K) (a:=a) (xs:=ns.map V.int) (λi σ' H'=>∃z:Option V,σ'=[some (.ref a),some (.int (aB (ns.take i):Nat)),z]/\H=H') ⟨none,rfl,rfl⟩ (λi σ' H' _ ⟨z,_,e⟩=>by rw[<- e];exact hS) ?_ ?_⟩
  ·rintro i y σ' H' hi ⟨z,rfl,rfl⟩;obtain⟨n,en,rfl,_,_⟩:=hI hi;refine cS ⟨_,rfl,_,rfl,_,rfl,_,_,rfl,by omega,by split<;>omega,?_⟩;have e3:ns.take (i+1)=ns.take i++[n]:=by rw[Nu,en];rfl
   refine⟨some (.int n),?_,rfl⟩;have e4:(if n<0 then -n else n).natAbs=n.natAbs:=by split<;>omega
   rw[e3,zM,Nm,e4];rfl
  ·rintro σ' H' ⟨z,rfl,rfl⟩;rw[MI,NP];dsimp only
   obtain⟨gp,ep⟩:=kH hT hne hp;refine bn ⟨_,rfl,_,rfl,a,_,_,_,rfl,rfl,hS,kW hne,_,_,rfl,rfl,_,rfl,aH (λz=>absurd (show al ns<0 from z) (by omega)) (λ_=>?_)⟩
   have bg:Bits 9000 (aB ns:Int):=by
    obtain⟨x,hx,hx0⟩:∃x∈ns,x≠0:=by obtain⟨r,x,e⟩:=(cO ns).resolve_left hne;refine⟨x,by rw[e];simp,λz=>?_⟩;rw[e,di,z]at hp;exact absurd hp (by decide)
    have hd:=iP hx;exact((hb x hx).mono (show 8000<=9000 by decide)).of_le (Nat.le_of_dvd (by omega) (O1.mpr hd))
   refine aV ⟨_,rfl,a,rfl,⟨_,hS⟩,fN (K:=K) (a:=a) (xs:=ns.map V.int) (λi ys σ' H'=>∃z0:Option V,σ'=[z0,some (.int (aB ns:Nat))]/\ys=((ns.take i).map λx=>x/(aB ns:Int)).map V.int/\H=H') (by rw[MI];omega) ⟨none,rfl,rfl,rfl⟩ ?_ ?_ ?_⟩
   ·rintro i ys σ' H' _ ⟨z0,rfl,rfl,rfl⟩;exact⟨hS,by rw[MI,MI,Nx];exact O7 _ _⟩
   ·rintro i x ys σ' H' hi ⟨z0,rfl,rfl,rfl⟩;obtain⟨c,ec,rfl,hc,_⟩:=hI hi;refine⟨_,rfl,_,rfl,_,_,rfl,rfl,⟨gp,bg⟩,?_⟩;refine⟨_,rfl,?_,rfl⟩;rw[Nu,ec];simp only[Option.toList_some,Nl,Nw,List.map_nil]
   ·rintro ys σ' H' q ⟨z0,rfl,rfl,rfl⟩ hq;refine k q _ (Same.upd_new hq) hq ?_;rw[ap,MI,NP,ep];rfl
theorem vy{a b c:Int}(h:c≠0):Tr [a,b,c]:=(tr_snoc (r:=[a,b])).mpr h
theorem BU{a b:Int}(h:b≠0):Tr [a,b]:=(tr_snoc (r:=[a])).mpr h
noncomputable def jD(u v w d:Int):Ex:=if v=0 then aD [-u,w]else aD [u*u-d*v*v,-2*u*w,w*w]
noncomputable def UpW(u v w d:Int):Int->Int->Prop:=λx1 x2=>0<sgq (u*x2-x1*w) (v*x2) d
theorem nv{u v w d:Int}(hd:0<d):jD u v w d=ah [u,d*v*v,w]:=by
 unfold jD;show _=aD (aE u (d*v*v) w);unfold aE;by_cases hv:v=0
 ·subst hv;rw[if_pos rfl,if_pos (by omega)]
 ·have he:d*v*v≠0:=M0 (M0 (by omega) hv) hv;rw[if_neg hv,if_neg he];have : -2*u*w = -2*w*u:=by grind
  rw[this]
theorem yC{k:Int}(hk:1<=k):ah [0,-k,1]=[k,0,1]:=by
 have hr:aE 0 (-k) 1=[k,0,1]:=by unfold aE;rw[if_neg (by omega)];simp
 show aD (aE 0 (-k) 1)=_;rw[hr];refine Pln.plain ⟨vy (by decide),by simp,?_,(by decide:(0:Int)<1)⟩;show aB [k,0,1]=1;unfold aB;rw[jI,jI,jI,sZ];exact Nat.gcd_one_right _
theorem Be{k:Nat}{x:Int}(h:Bits k x):x.natAbs<2^k:=h
theorem IU{u v w d:Int}(hW:WOk u v w d):FacG [u,d*v*v,w]:=by
 have h1:=Be hW.bu;have h2:=Be hW.bv;have e1:(2:Nat)^21=2097152:=rfl;have hvv:(v*v).natAbs<=2097152*2097152:=by rw[MY];exact N4 (by omega) (by omega)
 have hd:(d*(v*v)).natAbs<=13*(2097152*2097152):=by rw[MY];exact N4 (by have:=hW.d2;have:=hW.d13;omega) hvv
 have e2:d*v*v=d*(v*v):=Ng _ _ _;have hn:=Gz hW.ns v;rw[e2]at hn ⊢;exact⟨u,d*(v*v),w,rfl,by omega,by omega,by omega,by omega,by have:=hW.w1;omega,by have:=hW.w12;omega,hn⟩
theorem JZ{k n:Nat}{x:Int}(h:x.natAbs<n)(hn:n<=2^k):Bits k x:=Nd h hn
theorem Ba{k:Nat}{x y:Int}(h1:Bits k x)(h2:Bits k y):AllB k [x,y]:=λz hz=>by
 rcases MM.mp hz with rfl |hz
 ·exact h1
 ·rw[MO.mp hz];exact h2
theorem sL{a b:Ex}(ha:a≠[])(hb:b≠[]):(af a b).length+1=a.length+b.length:=by have:=MR.mpr ha;rw[bM ha hb];omega
theorem Ct{α:Type}{M:List α->Prop}(h0:M [])(h1:∀l x,M l->M (l++[x]))(l:List α):M l:=by
 have:∀r:List α,M r.reverse:=λr=>by
  induction r with
  |nil=>exact h0
  |cons x r ih=>rw[List.reverse_cons];exact h1 _ _ ih
 have:=this l.reverse
 rwa [List.reverse_reverse]at this
def wt(C:Addr):Sp:=λvs H Q _=>∃(r:Addr) (t b:Int),vs=[.ref r]/\RA C H r t b/\0<b/\Nat.gcd t.natAbs b.natAbs=1/\Q (.bl true) H
theorem FX(F:Fun K "_law_ratio" "_law_ratio" qN f fd)(T:Txt K mg)(R:RCI K mg C)(jT:Cal P w K mg base 1 "_law_whole" ["_law_found"] ma zW zU)(uW:Cal P w K mg base 1 "_law_divisor" ["_law_one","_law_other"] o6 Ji IL):FnOk P w K mg base CX0 2 f fd ["_law_found"] (wt C):=by
 refine F.ok Dn (λvs H Q E h=>?_) (λcdv A outer s H vs Q E hr h=>?_)
 ·obtain⟨r,t,b,rfl,_⟩:=h;rfl
 ·obtain⟨p,t,b,rfl,⟨dx,hp⟩,hb,hg,k⟩:=h
  refine⟨_,(ag (aR (PW.pt (fz (eQ (dU (cF (ii (K:=K) rfl) (by rfl) T.isinstance_ PyProof.Rows.boot_isinstance (aa (pv 0) (aa (rQ (v:=.ref C) rfl R.mg rfl) ac))))) (fz (eQ (dU (aq jT hr (aa (aL (K:=K) rfl (pv 0) rfl) ac)))) (iF (eQ (dU (aq jT hr (aa (aL (K:=K) rfl (pv 0) rfl) ac))))))))
   (aj (aC gw))
   aS)
   (aj (aC (kL (dg cQ (aL (K:=K) rfl (pv 0) rfl) ad) (iI (dg cU (aq uW hr (aa (cF ij (by rfl) T.abs_ PyProof.Rows.boot_abs (aa (aL (K:=K) rfl (pv 0) rfl) ac)) (aa (aL (K:=K) rfl (pv 0) rfl) ac))) ad)))))),?_⟩
  refine bn (gf (fu (mK (gX ⟨_,rfl,zn (.ins hp R.cl R.ha R.hn R.ht R.hm) (k:=true) (by unfold PySem.W.kitOne;rw[if_pos (by simp)]) ⟨_,rfl,cs ?_⟩⟩))));refine gf (fu ⟨_,rfl,p,C,dx,_,_,rfl,hp,R.cl,R.nT,cI _ _,_,rfl,_,rfl,cs ?_⟩);refine fu ⟨_,rfl,p,C,dx,_,_,rfl,hp,R.cl,R.nB,bF _ _,_,rfl,_,rfl,cs ?_⟩;refine aV (kC ⟨_,rfl,p,C,dx,_,_,rfl,hp,R.cl,R.nB,bF _ _,_,_,rfl,rfl,_,rfl,?_⟩);rw[decide_eq_true (show b>0 from hb)];refine fm ⟨_,rfl,p,C,dx,_,_,rfl,hp,R.cl,R.nT,cI _ _,_,rfl,_,rfl,p,C,dx,_,_,rfl,hp,R.cl,R.nB,bF _ _,_,b,rfl,by split<;>omega,MN hb,?_⟩
  have e:Nat.gcd (if t<0 then -t else t).natAbs b.natAbs=1:=by
   have:(if t<0 then -t else t).natAbs=t.natAbs:=by split<;>omega
   rw[this];exact hg
  rw[e];exact⟨_,_,rfl,rfl,k⟩
def wv:Sp:=λvs H Q _=>∃(a:Addr) (ns:Ex),vs=[.ref a]/\H a=some (.lst (ns.map V.int))/\Q (.bl true) H
theorem FZ(F:Fun K "_law_poly" "_law_poly" qP f fd)(T:Txt K mg)(jT:Cal P w K mg base 1 "_law_whole" ["_law_found"] ma zW zU):FnOk P w K mg base CX0 2 f fd ["_law_found"] wv:=by
 refine F.ok xG (λvs H Q E h=>?_) (λcdv A outer s H vs Q E hr h=>?_)
 ·obtain⟨a,ns,rfl,_⟩:=h;rfl
 ·obtain⟨a,ns,rfl,hA,k⟩:=h
  refine⟨_,(ag (aR (eQ (dU (cF (ii (K:=K) rfl) (by rfl) T.isinstance_ PyProof.Rows.boot_isinstance (aa (pv 0) (aa (jv (v:=.ty "list") (by rfl) T.list_ PyProof.Rows.boot_list (by rfl)) ac)))))
   (aj (aC gw))
   aS)
   (ag (cw PassesOwn.never rfl (c9 (K:=K) rfl (pv 0)) (aT 1 xG)
     (aj (aR (eQ (dU (aq jT hr (aa (pv 1) ac))))
       (aj (aC gw))
       aS)))
   (aj (aC gw)))),?_⟩
  refine bn (fu (mK (gX ⟨_,rfl,jF (.lst hA) (k:=true) (by rfl) ⟨_,rfl,cs ?_⟩⟩)));refine⟨_,rfl,a,rfl,⟨_,SqL.of hA⟩,iT (K:=K) (a:=a) (xs:=ns.map V.int) (λi σ' H'=>∃z:Option V,σ'=[some (.ref a),z]/\H=H') ⟨none,rfl,rfl⟩ ?_ ?_ ?_⟩
  ·rintro i σ' H' _ ⟨z,rfl,rfl⟩;exact SqL.of hA
  ·rintro i x σ' H' hi ⟨z,rfl,rfl⟩;obtain⟨y,_,rfl,_,_⟩:=hI hi;exact⟨_,rfl,_,rfl,_,rfl,cs ⟨_,rfl,rfl⟩⟩
  ·rintro σ' H' ⟨z,rfl,rfl⟩;exact k
def o0:Sp:=λvs H Q _=>∃(p:Addr) (u v w d:Int),vs=[.ref p]/\WT H p u v w d/\WOk u v w d/\mkL H Q (jD u v w d)
theorem Gc(F:Fun K "_law_least" "_law_least" qS f fd)(T:Txt K mg)(Bo:Cal P w K mg base 2 "_law_plain" ["_law_row"] wx Mx LO):FnOk P w K mg base CX0 3 f fd ["_law_worth_here"] o0:=by
 refine F.ok ku (λvs H Q E h=>?_) (λcdv A outer s H vs Q E hr h=>?_)
 ·obtain⟨p,u,v,w,d,rfl,_⟩:=h;rfl
 ·obtain⟨p,u,v,w,d,rfl,hp,hW,k⟩:=h;have hw:=hW.w1
  refine⟨_,(ag (eT (pv 0) (gu rfl (bI (aT 1 ku) (bI (aT 2 ku) (bI (aT 3 ku) (bI (aT 4 ku) gt))))))
   (ag (aR (aG cU (pv 2) ad)
     (aj (aC (aq Bo hr (aa (aP (aa (bC bA (pv 1)) (aa (pv 3) ac))) ac))))
     aS)
   (aj (aC (aq Bo hr (aa (aP (aa (ai bQ (ai aI (pv 1) (pv 1)) (ai aI (ai aI (pv 4) (pv 2)) (pv 2))) (aa (ai aI (ai aI (bC bA ad) (pv 1)) (pv 3)) (aa (ai aI (pv 3) (pv 3)) ac)))) ac)))))),?_⟩
  refine⟨_,rfl,p,_,rfl,SqT.of hp,rfl,_,_,rfl,_,_,rfl,_,_,rfl,_,_,rfl,rfl,?_⟩;dsimp only
  refine dm (λσ' H'=>σ'=[some (.ref p),some (.int u),some (.int v),some (.int w),some (.int d)]/\H=H') ⟨rfl,rfl⟩ ?_;rintro σ' H' ⟨rfl,rfl⟩;refine bn ⟨_,rfl,_,_,rfl,rfl,_,rfl,aH (λh0=>?_) (λh0=>?_)⟩
  ·have h0':v=0:=h0;refine aV ⟨_,rfl,_,rfl,_,rfl,by show 2<=sizeLine;decide,λq hq=>?_⟩;have s1:Same H (upd H q (.lst [V.int (-u),V.int w])):=Same.upd_new hq;refine⟨q,[-u,w],rfl,ap,BU (by omega),by simp,hw,by show 2<=100;decide,λx hx=>?_,λy H' s' hy e=>?_⟩
   ·simp only[MM,OW,or_false]at hx;rcases hx with rfl |rfl
    ·exact hW.bu.neg.mono
    ·exact hW.bw.mono
   ·refine k y H' (s1.trans s') (s1.free hy) ?_;unfold jD;rw[if_pos h0'];exact e
  ·have h0':¬v=0:=h0;have b2:Bits 1000000 (-2:Int):=Bits.mono (j:=2) (by show(-2:Int).natAbs<2^2;decide) (by decide);have bdv:Bits 30 (d*v):=(hW.bd.mul hW.bv).mono
   have b2u:Bits 30 (-2*u):=by
    have:Bits 2 (-2:Int):=by show(-2:Int).natAbs<2^2;decide
    exact(this.mul hW.bu).mono
   have ww:0<w*w:=ML hw hw;refine aV ⟨_,rfl,_,rfl,_,_,rfl,rfl,⟨hW.bu.mono,hW.bu.mono⟩,_,rfl,_,rfl,_,_,rfl,rfl,⟨hW.bd.mono,hW.bv.mono⟩,_,rfl,_,_,rfl,rfl,⟨bdv.mono,hW.bv.mono⟩,_,_,rfl,rfl,?_⟩;refine⟨_,rfl,_,rfl,_,_,rfl,rfl,⟨b2,hW.bu.mono⟩,_,rfl,_,_,rfl,rfl,⟨b2u.mono,hW.bw.mono⟩,?_⟩;refine⟨_,rfl,_,rfl,_,_,rfl,rfl,⟨hW.bw.mono,hW.bw.mono⟩,by show 3<=sizeLine;decide,λq hq=>?_⟩;have s1:Same H (upd H q (.lst [V.int (u*u-d*v*v),V.int (-2*u*w),V.int (w*w)])):=Same.upd_new hq;refine⟨q,[u*u-d*v*v,-2*u*w,w*w],rfl,ap,vy (by omega),by simp,ww,by show 3<=100;decide,λx hx=>?_,λy H' s' hy e=>?_⟩
   ·simp only[MM,OW,or_false]at hx;rcases hx with rfl |rfl |rfl
    ·exact Bits.mono (Bits.sub (k:=60) ((hW.bu.mul hW.bu).mono) ((bdv.mul hW.bv).mono)) (by decide)
    ·exact(b2u.mul hW.bw).mono
    ·exact(hW.bw.mul hW.bw).mono
   ·refine k y H' (s1.trans s') (s1.free hy) ?_;unfold jD;rw[if_neg h0'];exact e
theorem nh{x m:Int}(h:0<m):0<=x%m/\x%m<m:=⟨N6 _ (Nk h),N7 _ h⟩
theorem db{k:Int}(h0:0<=k)(h:k<2^12):Bits 9000 k:=Bits.mono (j:=12) (by show k.natAbs<2^12;omega) (by decide)
def pb:Sp:=λvs H Q _=>∃c:Int,vs=[.int c]/\∀z:Int,Bits 21 z->Q (.int z) H
theorem Gi(F:Fun K "_law_amount" "_law_amount" qY f fd)(T:Txt K mg):FnOk P w K mg base CX0 1 f fd ["_law_cell"] pb:=by
 refine F.ok Dp (λvs H Q E h=>?_) (λcdv A outer s H vs Q E hr h=>?_)
 ·obtain⟨c,rfl,_⟩:=h;rfl
 ·obtain⟨c,rfl,k⟩:=h
  refine⟨_,(ag (aR (aG cU (ai ci (pv 0) ad) ad)
   (aj (aC (ai bQ (ai ci (ai cG (pv 0) ad) (ai bH (ai aI ad (ai mW ad ad)) ad)) (ai mW ad ad))))
   aS)
   (aj (aC (ai bQ (ai ci (ai cG (pv 0) ad) ad) ad)))),?_⟩
  refine bn ⟨_,rfl,_,_,rfl,rfl,(by show(0:Int)<4;decide),_,_,rfl,rfl,_,rfl,aH (λ_=>?_) (λ_=>?_)⟩
  ·have b6:Bits 1000000 ((10:Int)^6):=Bits.mono (j:=21) (by show((10:Int)^6).natAbs<2^21;decide) (by decide);refine aV ⟨_,rfl,_,_,rfl,rfl,⟨by show(0:Int)<4;decide,db (by decide) (by decide)⟩,_,_,rfl,rfl,⟨by decide,by decide,by decide⟩,_,_,rfl,rfl,⟨fV,b6⟩,_,_,rfl,rfl,_,_,rfl,rfl,(by show(0:Int)<2*10^6+1;decide),_,_,rfl,rfl,⟨by decide,by decide,by decide⟩,_,_,rfl,rfl,k _ ?_⟩;obtain⟨m0,m1⟩:=nh (x:=c/4) (m:=2*10^6+1) (by decide);show(c/4%(2*10^6+1)-10^6).natAbs<2^21;omega
  ·refine aV ⟨_,rfl,_,_,rfl,rfl,⟨by show(0:Int)<4;decide,db (by decide) (by decide)⟩,_,_,rfl,rfl,(by show(0:Int)<21;decide),_,_,rfl,rfl,k _ ?_⟩;obtain⟨m0,m1⟩:=nh (x:=c/4) (m:=21) (by decide);show(c/4%21-10).natAbs<2^21;omega
def wb(K:PySem.W.Frag):Sp:=λvs H Q _=>∃(a:Addr) (ns:Ex),vs=[.ref a,.int 0]/\SqL K H a (ns.map V.int)/\∀(p:Addr) (H':Hp) (u v w d:Int),Same H H'->H p=none->WT H' p u v w d->WOk u v w d->Q (.ref p) H'
theorem DJ{v:V}(h:v∈[V.int 2,V.int 3,V.int 5,V.int 6,V.int 7,V.int 10,V.int 11,V.int 13]):∃d:Int,v=.int d/\2<=d/\d<=13/\NSq d:=by
 simp only[MM,OW,or_false]at h;rcases h with rfl |rfl |rfl |rfl |rfl |rfl |rfl |rfl
 ·exact⟨_,rfl,by decide,by decide,g7 (n:=1) (d:=2) (by decide) (by decide)⟩
 ·exact⟨_,rfl,by decide,by decide,g7 (n:=1) (d:=3) (by decide) (by decide)⟩
 ·exact⟨_,rfl,by decide,by decide,g7 (n:=2) (d:=5) (by decide) (by decide)⟩
 ·exact⟨_,rfl,by decide,by decide,g7 (n:=2) (d:=6) (by decide) (by decide)⟩
 ·exact⟨_,rfl,by decide,by decide,g7 (n:=2) (d:=7) (by decide) (by decide)⟩
 ·exact⟨_,rfl,by decide,by decide,g7 (n:=3) (d:=10) (by decide) (by decide)⟩
 ·exact⟨_,rfl,by decide,by decide,g7 (n:=3) (d:=11) (by decide) (by decide)⟩
 ·exact⟨_,rfl,by decide,by decide,g7 (n:=3) (d:=13) (by decide) (by decide)⟩
theorem FS(F:Fun K "_law_worth" "_law_worth" qI f fd)(T:Txt K mg)(ou:Cal P w K mg base 1 "_law_amount" ["_law_cell"] pb Jj IM)(gQ:Cal P w K mg base 1 "_law_cell_at" ["_law_script","_law_k"] (iw K) zX zV):FnOk P w K mg base CX0 2 f fd ["_law_script","_law_k"] (wb K):=by
 refine F.ok pK (λvs H Q E h=>?_) (λcdv A outer s H vs Q E hr h=>?_)
 ·obtain⟨a,ns,rfl,_⟩:=h;rfl
 ·obtain⟨a,ns,rfl,hS,k⟩:=h
  refine⟨_,(ag (ao 2 pK (ai aI (aq ou hr (aa (aq gQ hr (aa (pv 0) (aa (ai bH (pv 1) ad) ac))) ac)) (gv oa (by rfl) T.int_ PyProof.Rows.boot_int (aa (dg cQ (ai ci (aq gQ hr (aa (pv 0) (aa (ai bH (pv 1) ad) ac))) ad) ad) ac))))
   (ag (ao 3 pK (aq gQ hr (aa (pv 0) (aa (ai bH (pv 1) ad) ac))))
   (aj (aC (cZ (aa (aq ou hr (aa (aq gQ hr (aa (pv 0) (aa (pv 1) ac))) ac)) (aa (pv 2) (aa (ai bH ad (ai ci (ai cG (pv 3) ad) ad)) (aa (bJ K (aP (aa ad (aa ad (aa ad (aa ad (aa ad (aa ad (aa ad (aa ad ac))))))))) (ai ci (pv 3) ad)) ac))))))))),?_⟩
  refine av ⟨_,rfl,_,rfl,_,_,rfl,rfl,a,ns,1,rfl,hS,_,rfl,λz hz=>?_⟩;have b1:Bits 1000000 (if decide (ns.getD 1 0%5>0)=true then(1:Int)else 0):=by split;exact rX;exact Bits.zero
  refine⟨_,rfl,_,rfl,_,_,rfl,rfl,a,ns,1,rfl,hS,_,_,rfl,rfl,(by show(0:Int)<5;decide),_,_,rfl,rfl,.inr ⟨_,rfl,_,_,rfl,rfl,⟨hz.mono,b1⟩,?_⟩⟩
  have bv:Bits 21 (z*(if decide (ns.getD 1 0%5>0)=true then(1:Int)else 0)):=by
   split
   ·rw[Nt];exact hz
   ·rw[M8];exact Bits.zero
  show cN _ _ _ _ _;generalize z*(if decide (ns.getD 1 0%5>0)=true then(1:Int)else 0)=v at bv
  refine dm (λσ' H'=>∃v:Int,σ'=[some (.ref a),some (.int 0),some (.int v),none]/\H=H'/\Bits 21 v) ⟨_,rfl,rfl,?_⟩ ?_
  ·split
   ·rw[Nt];exact hz
   ·rw[M8];exact Bits.zero
  rintro σ' H' ⟨v,rfl,rfl,bv⟩;refine av ⟨_,rfl,_,rfl,_,_,rfl,rfl,a,ns,2,rfl,hS,?_⟩;refine aV ⟨_,rfl,_,rfl,a,ns,0,rfl,hS,_,rfl,λu bu=>?_⟩;refine⟨_,rfl,_,rfl,_,_,rfl,rfl,⟨by show(0:Int)<8;decide,db (by decide) (by decide)⟩,_,_,rfl,rfl,(by show(0:Int)<12;decide),_,_,rfl,rfl,by show 8<=sizeLine;decide,λp hp=>?_⟩;obtain⟨x,hx,ex⟩:=uC (xs:=[V.int 2,V.int 3,V.int 5,V.int 6,V.int 7,V.int 10,V.int 11,V.int 13]) (n:=8) rfl (by decide) (ns.getD 2 0);obtain⟨d,rfl,hd2,hd13,hns⟩:=DJ hx;have s1:Same H (upd H p (.lst [V.int 2,V.int 3,V.int 5,V.int 6,V.int 7,V.int 10,V.int 11,V.int 13])):=Same.upd_new hp;refine⟨_,rfl,_,_,rfl,rfl,(by show(0:Int)<8;decide),p,_,_,_,rfl,rfl,SqL.of ap,ex,by show 4<=sizeLine;decide,λq hq=>?_⟩;obtain⟨m0,m1⟩:=nh (x:=ns.getD 2 0/8) (m:=12) (by decide);exact k q _ u v _ d (s1.then_new hq) (s1.free hq) ap ⟨bu,bv,by omega,by omega,hd2,hd13,hns⟩
structure Wr where
 u:Int
 v:Int
 w:Int
 d:Int
noncomputable def Wr.l(x:Wr):Ex:=[x.u,x.v,x.w,x.d]
def Wr.ok(x:Wr):Prop:=WOk x.u x.v x.w x.d
noncomputable def Wr.up(x:Wr):Int->Int->Prop:=UpW x.u x.v x.w x.d
noncomputable def Wr.lea(x:Wr):Ex:=jD x.u x.v x.w x.d
noncomputable def Wr.fac(x:Wr):Ex:=[x.u,x.d*x.v*x.v,x.w]
noncomputable def Wr.con(x:Wr):Wr:=⟨x.u,-x.v,x.w,x.d⟩
noncomputable def aW(x y:Wr):Int:=sgq (x.u*y.w-y.u*x.w) (x.v*y.w-y.v*x.w) x.d
theorem JE(x:Wr):x.con.con=x:=by unfold Wr.con;simp
theorem uj(x:Wr):x.con.fac=x.fac:=by show[x.u,x.d * -x.v * -x.v,x.w]=[x.u,x.d*x.v*x.v,x.w];rw[show x.d * -x.v * -x.v=x.d*x.v*x.v by grind]
theorem ui{x:Wr}(h:x.ok):x.con.ok:=⟨h.bu,h.bv.neg,h.w1,h.w12,h.d2,h.d13,h.ns⟩
theorem lj{x y:Wr}(hx:x.ok)(hd:x.d=y.d):aW y x = -aW x y:=by have:=xo hx.ns (x.u*y.w-y.u*x.w) (x.v*y.w-y.v*x.w);rw[Int.neg_sub,Int.neg_sub]at this;unfold aW;rw[<- hd];exact this
theorem JL{x y:Wr}(hx:x.ok)(hy:y.ok)(hd:x.d=y.d)(h:aW x y<0){t n:Int}(hn:0<n)(hu:x.up t n):y.up t n:=by
 have h1:0<aW y x:=by rw[lj hx hd];omega
 have hu':0<sgq (x.u*n-t*x.w) (x.v*n) x.d:=hu;unfold aW at h1
 rw[<- hd]at h1;have a1:0<sgq (n*(y.u*x.w-x.u*y.w)) (n*(y.v*x.w-x.v*y.w)) x.d:=by rw[fi hn];exact h1
 have a2:0<sgq (y.w*(x.u*n-t*x.w)) (y.w*(x.v*n)) x.d:=by rw[fi hy.w1];exact hu'
 have e:=pC hx.ns a1 (MN a2);have e1:n*(y.u*x.w-x.u*y.w)+y.w*(x.u*n-t*x.w)=x.w*(y.u*n-t*y.w):=by grind
 have e2:n*(y.v*x.w-x.v*y.w)+y.w*(x.v*n)=x.w*(y.v*n):=by grind
 rw[e1,e2,fi hx.w1,hd]at e;show 0<sgq _ _ _;rw[e];decide
theorem JM{x y z:Wr}(hx:x.ok)(hy:y.ok)(hz:z.ok)(hd:x.d=y.d)(hd':y.d=z.d)(h:aW x y<0)(h':aW y z<0):aW x z<0:=by
 have h1:0<aW y x:=by rw[lj hx hd];omega
 have h2:0<aW z y:=by rw[lj hy hd'];omega
 have h3:aW z x = -aW x z:=lj hx (hd.trans hd');unfold aW at h1 h2 h3
 rw[<- hd',<- hd]at h2;rw[<- hd]at h1;rw[<- hd',<- hd]at h3;have a1:0<sgq (z.w*(y.u*x.w-x.u*y.w)) (z.w*(y.v*x.w-x.v*y.w)) x.d:=by rw[fi hz.w1];exact h1
 have a2:0<sgq (x.w*(z.u*y.w-y.u*z.w)) (x.w*(z.v*y.w-y.v*z.w)) x.d:=by rw[fi hx.w1];exact h2
 have e:=pC hx.ns a1 (MN a2);have e1:z.w*(y.u*x.w-x.u*y.w)+x.w*(z.u*y.w-y.u*z.w)=y.w*(z.u*x.w-x.u*z.w):=by grind
 have e2:z.w*(y.v*x.w-x.v*y.w)+x.w*(z.v*y.w-y.v*z.w)=y.w*(z.v*x.w-x.v*z.w):=by grind
 rw[e1,e2,fi hy.w1]at e;rw[e]at h3;unfold aW;omega
theorem JK{x y:Wr}(hx:x.ok)(hy:y.ok)(hd:x.d=y.d)(h:aW x y=0)(t n:Int):x.up t n↔y.up t n:=by
 obtain⟨h1,h2⟩:=pB h;have e1:y.w*(x.u*n-t*x.w)=x.w*(y.u*n-t*y.w):=by grind
 have e2:y.w*(x.v*n)=x.w*(y.v*n):=by grind
 show(0<sgq (x.u*n-t*x.w) (x.v*n) x.d)↔(0<sgq (y.u*n-t*y.w) (y.v*n) y.d);rw[<- fi (g:=y.w) (u:=x.u*n-t*x.w) hy.w1,e1,e2,fi hx.w1,hd]
theorem vq{x:Wr}(hx:x.ok){t n t' n':Int}(hn:0<n)(hn':0<n')(h:t*n'<=t'*n)(hu:x.up t' n'):x.up t n:=by
 have hu':0<sgq (x.u*n'-t'*x.w) (x.v*n') x.d:=hu;have a1:0<sgq (n*(x.u*n'-t'*x.w)) (n*(x.v*n')) x.d:=by rw[fi hn];exact hu'
 have a2:0<=sgq (x.w*(t'*n-t*n')) 0 x.d:=by
  have:=MZ (MN hx.w1) (show 0<=t'*n-t*n' by omega);rcases O5 this with z |z
  ·rw[fZ (by omega) (Nr _) (.inl z)];decide
  ·rw[<- z,pD];decide
 have e:=pC hx.ns a1 a2;have e1:n*(x.u*n'-t'*x.w)+x.w*(t'*n-t*n')=n'*(x.u*n-t*x.w):=by grind
 have e2:n*(x.v*n')+0=n'*(x.v*n):=by grind
 rw[e1,e2,fi hn']at e;show 0<sgq _ _ _;rw[e];decide
structure Rep(x:Wr)(f s:Ex):Prop where
 ex:∃a e b:Int,f=[a,e,b]/\s=[a,e,b,cX x.v]/\0<b/\a*x.w=x.u*b/\e*(x.w*x.w)=x.d*x.v*x.v*(b*b)
 mem:s∈spF f
 lea:ah f=x.lea
 up:∀t n,0<n->(0<au s t n↔x.up t n)
theorem oK{d v:Int}(hd:0<d)(hv:v≠0):0<d*v*v:=by
 rw[Ng];refine ML hd ?_;rcases Ot hv with z |z
 ·exact ON z z
 ·exact ML z z
theorem rp{x:Wr}(h:x.ok):Rep x x.fac [x.u,x.d*x.v*x.v,x.w,cX x.v]:=by
 have hd:=h.d2;refine⟨⟨x.u,x.d*x.v*x.v,x.w,rfl,rfl,h.w1,rfl,rfl⟩,?_,(nv (by omega)).symm,λt n hn=>CB h.ns hn⟩;unfold Wr.fac;by_cases hv:x.v=0
 ·have e0:x.d*x.v*x.v=0:=by rw[hv];simp
  rw[e0,jZ,hv];exact MO.mpr rfl
 ·rw[j3 (oK (by omega) hv)];unfold cX;split<;>simp
theorem xR{x y:Wr}{f f' s:Ex}(hx:x.ok)(hy:y.ok)(hd:x.d=y.d)(r:Rep x f s)(r':Rep y f' s):aW x y=0:=by
 obtain⟨a,e,b,_,es,hb,h1,h2⟩:=r.ex;obtain⟨a',e',b',_,es',_,h1',h2'⟩:=r'.ex;rw[es]at es';simp only[List.cons.injEq,and_true]at es';obtain⟨rfl,rfl,rfl,hs⟩:=es';have hxw:=hx.w1;have hyw:=hy.w1
 have eu:x.u*y.w=y.u*x.w:=by
  refine OA (a:=b) (by omega) ?_;have q1:x.u*y.w*b=x.u*b*y.w:=by grind
  have q2:y.u*x.w*b=y.u*b*x.w:=by grind
  rw[q1,q2,<- h1,<- h1'];grind
 have ev:(x.v*y.w)*(x.v*y.w)=(y.v*x.w)*(y.v*x.w):=by
  refine OA (a:=x.d*(b*b)) (M0 (by have:=hx.d2;omega) (M0 (by omega) (by omega))) ?_;rw[<- hd]at h2';have q1:(x.v*y.w)*(x.v*y.w)*(x.d*(b*b))=x.d*x.v*x.v*(b*b)*(y.w*y.w):=by grind
  have q2:(y.v*x.w)*(y.v*x.w)*(x.d*(b*b))=x.d*y.v*y.v*(b*b)*(x.w*x.w):=by grind
  rw[q1,q2,<- h2,<- h2'];grind
 have ev':x.v*y.w=y.v*x.w:=by
  have h3:(x.v*y.w-y.v*x.w)*(x.v*y.w+y.v*x.w)=0:=by grind
  rcases NM.mp h3 with z |z
  ·omega
  ·unfold cX at hs
   by_cases c1:x.v<0
   ·rw[if_pos c1]at hs;by_cases c2:y.v<0
    ·have p1:=OI c1 hyw;have p2:=OI c2 hxw;omega
    ·rw[if_neg c2]at hs;omega
   ·rw[if_neg c1]at hs;by_cases c2:y.v<0
    ·rw[if_pos c2]at hs;omega
    ·have p1:=MZ (show 0<=x.v by omega) (MN hyw);have p2:=MZ (show 0<=y.v by omega) (MN hxw);omega
 unfold aW;rw[eu,ev',Int.sub_self,Int.sub_self];rfl
theorem zc{α β:Type}{I:α->β->Prop}{B:α->α->Prop}{L:β->β->Prop}:∀(ys:List α) (ss:List β),ys.Pairwise B->ss.Pairwise L->(∀y∈ys,∃s∈ss,I y s)->(∀y∈ys,∀s∈ss,∀s'∈ss,I y s->I y s'->¬L s s')->(∀s∈ss,∃y∈ys,I y s)->(∀y∈ys,∀y'∈ys,∀s∈ss,∀s'∈ss,B y y'->L s s'->I y s'->I y' s->False)->(∀y∈ys,∀y'∈ys,∀s∈ss,B y y'->I y s->I y' s->False) ->
 ys.length=ss.length/\∀(i:Nat) (y:α) (s:β),ys[i]?=some y->ss[i]?=some s->I y s
 | [],[],_,_,_,_,_,_,_=>⟨rfl,λi y s h=>by simp at h⟩
 | [],s::ss,_,_,_,_,h3,_,_=>by obtain⟨y,hy,_⟩:=h3 s (MP ..);cases hy
 |y::ys,[],_,_,h1,_,_,_,_=>by obtain⟨s,hs,_⟩:=h1 y (MP ..);cases hs
 |y::ys,s::ss,hy,hs,h1,h2,h3,h4,h5=>by
  obtain⟨yb,yr⟩:=NW.mp hy;obtain⟨sb,sr⟩:=NW.mp hs;have my:=MP (a:=y) (l:=ys);have ms:=MP (a:=s) (l:=ss)
  have hin:I y s:=by
   obtain⟨y',hy',hi⟩:=h3 s ms;rcases MM.mp hy' with z |z
   ·rw[<- z];exact hi
   ·exfalso;obtain⟨s',hs',hi'⟩:=h1 y my;rcases MM.mp hs' with v |v
    ·rw[v]at hi';exact h5 y my y' hy' s ms (yb y' z) hi' hi
    ·exact h4 y my y' hy' s ms s' hs' (yb y' z) (sb s' v) hi' hi
  obtain⟨el,ei⟩:=zc ys ss yr sr (λy' hy'=>by
   obtain⟨s',hs',hi'⟩:=h1 y' (MK _ hy');rcases MM.mp hs' with v |v
   ·rw[v]at hi';exact(h5 y my y' (MK _ hy') s ms (yb y' hy') hin hi').elim
   ·exact⟨s',v,hi'⟩)
   (λy' hy' a ha b hb=>h2 y' (MK _ hy') a (MK _ ha) b (MK _ hb))
   (λs' hs'=>by
     obtain⟨y',hy',hi'⟩:=h3 s' (MK _ hs');rcases MM.mp hy' with v |v
     ·rw[v]at hi';exact(h2 y my s ms s' (MK _ hs') hin hi' (sb s' hs')).elim
     ·exact⟨y',v,hi'⟩)
   (λa ha b hb c hc d hd=>h4 a (MK _ ha) b (MK _ hb) c (MK _ hc) d (MK _ hd))
   (λa ha b hb c hc=>h5 a (MK _ ha) b (MK _ hb) c (MK _ hc))
  refine⟨by rw[Nh,Nh,el],λi z t e1 e2=>?_⟩;cases i with
  |zero=>simp at e1 e2;rw[<- e1,<- e2];exact hin
  |succ j=>exact ei j z t (by simpa using e1) (by simpa using e2)
noncomputable def aZ(f:Ex)(m:Nat):List (Ex×Nat)->List (Ex×Nat)
 | []=>[(f,m)]
 |p::gs=>if ah p.1=ah f then(p.1,p.2+m)::gs else p::aZ f m gs
noncomputable def uS(gs:List (Ex×Nat)):List (Ex×Nat):=gs.map λp=>(ah p.1,p.2)
noncomputable def fS(gs:List (Ex×Nat)):List Ex:=gs.map (·.1)
theorem vv(gs:List (Ex×Nat)):(uS gs).map (·.1)=(fS gs).map ah:=by unfold uS fS;rw[NR,NR];rfl
theorem zw(f:Ex)(m:Nat):∀gs,fP id (uS (aZ f m gs))=af (fP id (uS gs)) (pw (ah f) m)
 | []=>by show af (pw (ah f) m) [1]=af [1] (pw (ah f) m);rw[kP,d7]
 |p::gs=>by
  unfold aZ;by_cases h:ah p.1=ah f
  ·rw[if_pos h];show af (pw (ah p.1) (p.2+m)) (fP id (uS gs))=af (af (pw (ah p.1) p.2) (fP id (uS gs))) (pw (ah f) m);rw[<- rJ,h];ac_rfl
  ·rw[if_neg h];show af (pw (ah p.1) p.2) (fP id (uS (aZ f m gs)))=af (af (pw (ah p.1) p.2) (fP id (uS gs))) (pw (ah f) m);rw[zw f m gs];ac_rfl
theorem sS{f g:Ex}{m:Nat}:∀{gs:List (Ex×Nat)},g∈fS gs->g∈fS (aZ f m gs)
 |p::gs,h=>by
  unfold aZ;by_cases hp:ah p.1=ah f
  ·rw[if_pos hp];exact h
  ·rw[if_neg hp];rcases MM.mp (show g∈p.1::fS gs from h)with z |z
   ·rw[z];exact MP ..
   ·exact MK _ (sS z)
theorem iQ{f g:Ex}{m:Nat}:∀{gs:List (Ex×Nat)},g∈fS (aZ f m gs)->g∈fS gs\/g=f
 | [],h=>.inr (MO.mp (show g∈[f]from h))
 |p::gs,h=>by
  unfold aZ at h
  by_cases hp:ah p.1=ah f
  ·rw[if_pos hp]at h;exact .inl h
  ·rw[if_neg hp]at h;rcases MM.mp (show g∈p.1::fS (aZ f m gs)from h)with z |z
   ·exact .inl (by rw[z];exact MP ..)
   ·rcases iQ z with y |y
    ·exact .inl (MK _ y)
    ·exact .inr y
theorem zv(f:Ex)(m:Nat):∀gs:List (Ex×Nat),∃g∈fS (aZ f m gs),ah g=ah f
 | []=>⟨f,MO.mpr rfl,rfl⟩
 |p::gs=>by
  unfold aZ;by_cases hp:ah p.1=ah f
  ·rw[if_pos hp];exact⟨p.1,MP ..,hp⟩
  ·rw[if_neg hp];obtain⟨g,h1,h2⟩:=zv f m gs;exact⟨g,MK _ h1,h2⟩
theorem zu{f:Ex}{m:Nat}:∀{gs:List (Ex×Nat)},((fS gs).map ah).Nodup->((fS (aZ f m gs)).map ah).Nodup
 | [],_=>by show[ah f].Nodup;simp
 |p::gs,h=>by
  unfold aZ;by_cases hp:ah p.1=ah f
  ·rw[if_pos hp];exact h
  ·rw[if_neg hp];obtain⟨h1,h2⟩:=N9.mp (show(ah p.1::(fS gs).map ah).Nodup from h);show(ah p.1::(fS (aZ f m gs)).map ah).Nodup;refine N9.mpr ⟨λz=>?_,zu h2⟩;obtain⟨g,hg,e⟩:=MW.mp z;rcases iQ hg with y |y
   ·exact h1 (MW.mpr ⟨g,y,e⟩)
   ·rw[y]at e;exact hp e.symm
theorem zt{f:Ex}{m:Nat}(hm:1<=m):∀{gs:List (Ex×Nat)},(∀p∈gs,1<=p.2)->∀p∈aZ f m gs,1<=p.2
 | [],_,p,hp=>by rw[MO.mp (show p∈[(f,m)]from hp)];exact hm
 |q::gs,h,p,hp=>by
  unfold aZ at hp
  by_cases hq:ah q.1=ah f
  ·rw[if_pos hq]at hp;rcases MM.mp hp with z |z
   ·rw[z];show 1<=q.2+m;omega
   ·exact h p (MK _ z)
  ·rw[if_neg hq]at hp;rcases MM.mp hp with z |z
   ·rw[z];exact h q (MP ..)
   ·exact zt hm (λr hr=>h r (MK _ hr)) p z
theorem sT(f:Ex)(m:Nat):∀gs,dgs id (uS (aZ f m gs))=dgs id (uS gs)+m*((ah f).length-1)
 | []=>by show m*((ah f).length-1)+0=0+_;omega
 |p::gs=>by
  unfold aZ;by_cases h:ah p.1=ah f
  ·rw[if_pos h];show(p.2+m)*((ah p.1).length-1)+dgs id (uS gs)=p.2*((ah p.1).length-1)+dgs id (uS gs)+_;rw[h,OB];omega
  ·rw[if_neg h];show p.2*((ah p.1).length-1)+dgs id (uS (aZ f m gs))=p.2*((ah p.1).length-1)+dgs id (uS gs)+_;rw[sT f m gs];omega
theorem sU(f:Ex)(m:Nat):∀gs,dgs bZ (uS (aZ f m gs))<=dgs bZ (uS gs)+((ah f).length-1)
 | []=>by show 1*((ah f).length-1)+0<=0+_;omega
 |p::gs=>by
  unfold aZ;by_cases h:ah p.1=ah f
  ·rw[if_pos h];show 1*((ah p.1).length-1)+dgs bZ (uS gs)<=1*((ah p.1).length-1)+dgs bZ (uS gs)+_;omega
  ·rw[if_neg h];have:=sU f m gs;show 1*((ah p.1).length-1)+dgs bZ (uS (aZ f m gs))<=1*((ah p.1).length-1)+dgs bZ (uS gs)+_;omega
noncomputable def bB(s:Ex):Nat:=if s.length<=2 then 21 else 47
noncomputable def wB:List (Ex×Nat)->Nat
 | []=>0
 |p::us=>(bB p.1+5)*p.2+2+wB us
theorem sR(f:Ex)(m:Nat):∀gs,wB (uS (aZ f m gs))<=wB (uS gs)+((bB (ah f)+5)*m+2)
 | []=>by show(bB (ah f)+5)*m+2+0<=0+_;omega
 |p::gs=>by
  unfold aZ;by_cases h:ah p.1=ah f
  ·rw[if_pos h];show(bB (ah p.1)+5)*(p.2+m)+2+wB (uS gs)<=(bB (ah p.1)+5)*p.2+2+wB (uS gs)+_;rw[h,Nat.mul_add];omega
  ·rw[if_neg h];have:=sR f m gs;show(bB (ah p.1)+5)*p.2+2+wB (uS (aZ f m gs))<=(bB (ah p.1)+5)*p.2+2+wB (uS gs)+_;omega
theorem x8{s:Ex}{k:Nat}(hk:AllB k s)(hl:s.length<=3):∀n,AllB ((k+3)*n+1) (pw s n)
 |0=>λx hx=>by rw[MO.mp hx];exact b1k (by omega)
 |n+1=>jC hk (x8 hk hl n) (by rw[Nat.mul_succ];omega)
theorem nO{g:Nat->Nat}(hg:∀m,1<=m->g m<=m):∀us:List (Ex×Nat),(∀p∈us,AllB (bB p.1) p.1/\p.1.length<=3/\p.1≠[]/\1<=p.2)->AllB (1+wB us) (fP g us)
 | [],_=>λx hx=>by rw[MO.mp hx];exact b1k (by omega)
 |p::us,h=>by
  obtain⟨h5,hl,hne,h1⟩:=h p (MP ..);have ih:=nO hg us λq hq=>h q (MK _ hq)
  have hgm:=hg p.2 h1;have hw:wB (p::us)=(bB p.1+5)*p.2+2+wB us:=rfl;have hpl:=(rH hne (g p.2)).1;have q1:g p.2*(p.1.length-1)<=p.2*2:=N4 hgm (by omega);have q2:(bB p.1+3)*g p.2<=(bB p.1+3)*p.2:=Oe _ hgm;have q3:(bB p.1+5)*p.2=(bB p.1+3)*p.2+p.2*2:=by grind
  exact jC (x8 h5 hl (g p.2)) ih (by omega)
structure GS(gs:List (Ex×Nat)):Prop where
 fac:∀f∈fS gs,FacG f
 pos:∀p∈gs,1<=p.2
 nd:((fS gs).map ah).Nodup
 bit:∀f∈fS gs,AllB (bB (ah f)) (ah f)
theorem GS.nil:GS []:=⟨λ_ h=>(nomatch h),λ_ h=>(nomatch h),List.nodup_nil,λ_ h=>(nomatch h)⟩
theorem GS.ins{gs:List (Ex×Nat)}{f:Ex}{m:Nat}(h:GS gs)(hf:FacG f)(hb:AllB (bB (ah f)) (ah f))(hm:1<=m):GS (aZ f m gs):=by
 refine⟨λg hg=>?_,zt hm h.pos,zu h.nd,λg hg=>?_⟩
 ·rcases iQ hg with z |z
  ·exact h.fac g z
  ·rw[z];exact hf
 ·rcases iQ hg with z |z
  ·exact h.bit g z
  ·rw[z];exact hb
theorem GS.fam{gs:List (Ex×Nat)}(h:GS gs):Fam (fS gs):=⟨h.fac,h.nd⟩
theorem GS.use{gs:List (Ex×Nat)}(h:GS gs):Use (uS gs):=by
 refine⟨λp hp=>?_,λp hp=>?_,by rw[vv];exact h.nd⟩
 ·obtain⟨q,hq,rfl⟩:=MW.mp hp;exact gI (h.fac q.1 (OT hq))
 ·obtain⟨q,hq,rfl⟩:=MW.mp hp;exact h.pos q hq
theorem GS.small{gs:List (Ex×Nat)}(h:GS gs):∀p∈uS gs,AllB (bB p.1) p.1/\p.1.length<=3/\p.1≠[]/\1<=p.2:=λp hp=>by have h1:=h.use.pri p hp;have h2:=h.use.pos p hp;obtain⟨q,hq,rfl⟩:=MW.mp hp;have hf:=h.fac q.1 (OT hq);exact⟨h.bit q.1 (OT hq),(iy hf).2,h1.pln.ne,h2⟩
theorem GS.made{gs:List (Ex×Nat)}(h:GS gs){c:Int}(hc:c≠0)(bc:Bits 10 c)(h8:dgs id (uS gs)<=8)(hw:wB (uS gs)<=225):Made (whl c (uS gs)) c (uS gs)/\flt (uS gs)=prQ (fS gs)/\(flt (uS gs)).length=1+dgs bZ (uS gs)/\AllB 250 (flt (uS gs)):=by
 have sm:=h.small;have b1:AllB 230 (fP id (uS gs)):=(nO (g:=id) (λm _=>MJ m) _ sm).mono (by omega);have b2:AllB 230 (mor (uS gs) 1):=(nO (g:=(·-1)) (λm _=>Nat.sub_le m 1) _ sm).mono (by omega);have b3:AllB 250 (flt (uS gs)):=(nO (g:=bZ) (λm h=>h) _ sm).mono (by omega);have hl:(whl c (uS gs)).length=1+dgs id (uS gs):=by rw[fU,b9,(lc id _ λp hp=>(sm p hp).2.2.1).1]
 have l3:(flt (uS gs)).length=1+dgs bZ (uS gs):=(lc bZ _ λp hp=>(sm p hp).2.2.1).1;refine⟨⟨rfl,hc,bc,h.use,h8,by omega,b1,b2⟩,?_,l3,b3⟩;rw[h.fam.prd,<- vv,tz]
noncomputable def stW(tw:Bool)(gs:List (Ex×Nat))(x:Wr):List (Ex×Nat):=if x.v<0 then gs else aZ x.fac (if 0<x.v/\tw=true then 2 else 1) gs
noncomputable def gsW(tw:Bool)(S:List Wr):List (Ex×Nat):=S.foldl (stW tw) []
theorem HZ(tw:Bool)(S:List Wr)(x:Wr):gsW tw (S++[x])=stW tw (gsW tw S) x:=by unfold gsW;rw[List.foldl_append];rfl
structure SomeW(S:List Wr)(d:Int):Prop where
 ok:∀x∈S,x.ok/\x.d=d
 sh:((∀x∈S,x.v=0)/\S.length<=3)\/(∃x ls,x.v≠0/\S=x::x.con::ls/\(∀y∈ls,y.v=0)/\ls.length<=2)
theorem SomeW.con{S:List Wr}{d:Int}(h:SomeW S d){x:Wr}(hx:x∈S)(hv:x.v≠0):x.con∈S:=by
 rcases h.sh with⟨z,_⟩ |⟨y,ls,_,rfl,hl,_⟩
 ·exact absurd (z x hx) hv
 ·rcases MM.mp hx with z |z
  ·rw[z];simp
  rcases MM.mp z with z |z
  ·rw[z,JE];simp
  ·exact absurd (hl x z) hv
structure Tell(gs:List (Ex×Nat))(S:List Wr):Prop where
 ok:GS gs
 r1:∀f∈fS gs,∀s∈spF f,∃x∈S,Rep x f s
 r2:∀x∈S,∃f∈fS gs,∃s,Rep x f s
theorem sH{x:Wr}(hv:x.v=0):x.fac=[x.u,0,x.w]:=by unfold Wr.fac;rw[hv];simp
theorem sI{x:Wr}(h:x.ok)(hv:x.v=0):AllB 21 (ah x.fac)/\(ah x.fac).length=2:=by
 rw[sH hv];have hr:aE x.u 0 x.w=[-x.u,x.w]:=by unfold aE;rw[if_pos rfl]
 refine⟨?_,?_⟩
 ·show AllB 21 (aD (aE x.u 0 x.w));rw[hr];exact ju (Ba h.bu.neg (h.bw.mono))
 ·obtain⟨g,A0,A1,_,eS,_⟩:=mr (u:=x.u) (b:=x.w) (by have:=h.w1;omega);rw[eS];rfl
theorem yt{x:Wr}(h:x.ok)(hv:x.v≠0):AllB 47 (ah x.fac)/\(ah x.fac).length=3:=by
 have hd:=h.d2;have he:x.d*x.v*x.v≠0:=by have:=oK (d:=x.d) (by omega) hv;omega
 have hr:aE x.u (x.d*x.v*x.v) x.w=[x.u*x.u-x.d*x.v*x.v,-2*x.w*x.u,x.w*x.w]:=by unfold aE;rw[if_neg he]
 refine⟨?_,?_⟩
 ·show AllB 47 (aD (aE x.u (x.d*x.v*x.v) x.w));rw[hr];refine ju λy hy=>?_
  rcases MM.mp hy with rfl |hy
  ·exact Bits.sub (k:=46) ((h.bu.mul h.bu).mono) (((h.bd.mul h.bv).mul h.bv).mono)
  rcases MM.mp hy with rfl |hy
  ·have b2:Bits 2 (-2:Int):=by show(-2:Int).natAbs<2^2;decide
   exact((b2.mul h.bw).mul h.bu).mono
  ·rw[MO.mp hy];exact(h.bw.mul h.bw).mono
 ·obtain⟨g,A0,A1,A2,_,eS,_⟩:=mq (u:=x.u) (b:=x.w) (by have:=h.w1;omega) he;show(ah [x.u,x.d*x.v*x.v,x.w]).length=3;rw[eS];rfl
theorem jK{x:Wr}(h:x.ok):FacG x.fac:=IU h
theorem DP{x:Wr}{g:Ex}(h:x.ok)(hv:x.v=0)(hg:FacG g)(e:ah g=ah x.fac):∃s,Rep x g s:=by
 have hl:=(sI h hv).2;have hle:ah x.fac=x.lea:=(nv (by have:=h.d2;omega)).symm;obtain⟨a,e',b,rfl,_,_,_,_,hb,_⟩:=hg
 have e0:e'=0:=by apply Classical.byContradiction;intro z;obtain⟨g,A0,A1,A2,_,eS,_⟩:=mq (u:=a) (b:=b) hb z;rw[<- e,eS]at hl;simp at hl
 subst e0;have hxw:=h.w1
 have cr:a*x.w=x.u*b:=by
  obtain⟨g,A0,A1,hg,eS,q0,q1,_⟩:=mr (u:=a) hb;obtain⟨g',A0',A1',hg',eS',q0',q1',_⟩:=mr (u:=x.u) (b:=x.w) (by omega);rw[sH hv,eS,eS']at e;simp at e
  obtain⟨rfl,rfl⟩:=e;have k1:a=g * -A0:=by grind
  have k2:x.u=g' * -A0:=by grind
  rw[k1,k2,q1,q1'];grind
 have hs:cX x.v=1:=by rw[hv];rfl
 refine⟨[a,0,b,1],⟨a,0,b,rfl,by rw[hs],by omega,cr,by rw[hv];simp⟩,by rw[jZ];simp,by rw[e,hle],λt n hn=>?_⟩;rw[side_line]
 have e2:x.up t n↔0<x.u*n-t*x.w:=by
  show 0<sgq (x.u*n-t*x.w) (x.v*n) x.d↔_;rw[hv,Nn];rcases Int.lt_trichotomy (x.u*n-t*x.w) 0 with z |z |z
  ·rw[gW (by omega) (Nr _) (.inl z)];omega
  ·rw[z,pD]
  ·rw[fZ (by omega) (Nr _) (.inl z)];omega
 rw[e2]
 have k1:(a*n-b*t)*x.w=(x.u*n-t*x.w)*b:=by
  have q1:(a*n-b*t)*x.w=a*x.w*n-b*t*x.w:=by grind
  rw[q1,cr];grind
 constructor
 ·intro z;have:=ML (show 0<a*n-b*t by omega) hxw;rw[k1]at this;exact Int.pos_of_mul_pos_left this (by omega)
 ·intro z;have:=ML z (show 0<b by omega);rw[<- k1]at this;have:=Int.pos_of_mul_pos_left this hxw;omega
theorem B4{gs:List (Ex×Nat)}{S:List Wr}(h:Tell gs S){x:Wr}(hx:x.ok)(hv:x.v=0):Tell (aZ x.fac 1 gs) (S++[x]):=by
 obtain⟨b,l⟩:=sI hx hv;refine⟨h.ok.ins (jK hx) (by unfold bB;rw[if_pos (by omega)];exact b) (MJ _),λf hf s hs=>?_,λy hy=>?_⟩
 ·rcases iQ hf with z |z
  ·obtain⟨y,hy,r⟩:=h.r1 f z s hs;exact⟨y,NI _ hy,r⟩
  ·subst z;refine⟨x,by simp,?_⟩;have r:=rp hx
   have e:s=[x.u,x.d*x.v*x.v,x.w,cX x.v]:=by rw[sH hv,jZ]at hs;rw[MO.mp hs,hv];simp[cX]
   rw[e];exact r
 ·rcases Nb.mp hy with z |z
  ·obtain⟨f,hf,s,r⟩:=h.r2 y z;exact⟨f,sS hf,s,r⟩
  ·rw[MO.mp z];obtain⟨g,hg,e⟩:=zv x.fac 1 gs
   have hG:FacG g:=by
    rcases iQ hg with z |z
    ·exact h.ok.fac g z
    ·rw[z];exact jK hx
   obtain⟨s,r⟩:=DP hx hv hG e;exact⟨g,hg,s,r⟩
theorem vA{tw:Bool}{gs:List (Ex×Nat)}{S:List Wr}(h:Tell gs S):∀ls:List Wr,(∀x∈ls,x.ok/\x.v=0)->Tell (ls.foldl (stW tw) gs) (S++ls)/\dgs id (uS (ls.foldl (stW tw) gs))<=dgs id (uS gs)+ls.length/\dgs bZ (uS (ls.foldl (stW tw) gs))<=dgs bZ (uS gs)+ls.length/\wB (uS (ls.foldl (stW tw) gs))<=wB (uS gs)+28*ls.length:=λls=>by
 refine Ct (M:=λls=>(∀x∈ls,x.ok/\x.v=0)->Tell (ls.foldl (stW tw) gs) (S++ls)/\dgs id (uS (ls.foldl (stW tw) gs))<=dgs id (uS gs)+ls.length/\dgs bZ (uS (ls.foldl (stW tw) gs))<=dgs bZ (uS gs)+ls.length/\wB (uS (ls.foldl (stW tw) gs))<=wB (uS gs)+28*ls.length) ?_ ?_ ls
 ·exactλ_=>⟨by rw[Oj];exact h,MJ _,MJ _,MJ _⟩
 ·intro l x ih hl;obtain⟨i1,i2,i3,i4⟩:=ih λp hp=>hl p (NI _ hp)
  obtain⟨x1,x2⟩:=hl x (by simp)
  have e:(l++[x]).foldl (stW tw) gs=aZ x.fac 1 (l.foldl (stW tw) gs):=by rw[List.foldl_append];show stW tw _ x=_;unfold stW;rw[if_neg (by omega),if_neg (by omega)]
  rw[e,<- Ox,MX];obtain⟨b,bl⟩:=sI x1 x2;have d1:=sT x.fac 1 (l.foldl (stW tw) gs);have d2:=sU x.fac 1 (l.foldl (stW tw) gs);have d3:=sR x.fac 1 (l.foldl (stW tw) gs);have d4:bB (ah x.fac)=21:=by unfold bB;rw[if_pos (by omega)]
  rw[d4]at d3;rw[bl]at d1 d2;refine⟨B4 i1 x1 x2,?_,?_,?_⟩
  ·show _<=_+(l.length+1);omega
  ·show _<=_+(l.length+1);omega
  ·show _<=_+28*(l.length+1);omega
theorem B3{x:Wr}{m:Nat}(hx:x.ok)(hv:x.v≠0)(hm:1<=m):Tell [(x.fac,m)] [x,x.con]:=by
 have hd:=h2 hx;have he:=oK (d:=x.d) (by omega) hv;obtain⟨b,l⟩:=yt hx hv;have r:=rp hx;have r':=rp (ui hx);rw[uj]at r'
 have es:[x.con.u,x.con.d*x.con.v*x.con.v,x.con.w,cX x.con.v]=[x.u,x.d*x.v*x.v,x.w,cX (-x.v)]:=by
  have:x.con.fac=x.fac:=uj x;unfold Wr.fac at this
  simp only[List.cons.injEq,and_true]at this;rw[this.1,this.2.1,this.2.2];rfl
 rw[es]at r';refine⟨⟨λf hf=>?_,λp hp=>?_,by show[ah x.fac].Nodup;simp,λf hf=>?_⟩,λf hf s hs=>?_,λy hy=>?_⟩
 ·rw[MO.mp (show f∈[x.fac]from hf)];exact jK hx
 ·rw[MO.mp hp];exact hm
 ·rw[MO.mp (show f∈[x.fac]from hf)];unfold bB;rw[if_neg (by omega)];exact b
 ·obtain rfl:=MO.mp (show f∈[x.fac]from hf);have hs':s∈spF [x.u,x.d*x.v*x.v,x.w]:=hs;rw[j3 he]at hs'
  have two:s=[x.u,x.d*x.v*x.v,x.w,cX x.v]\/s=[x.u,x.d*x.v*x.v,x.w,cX (-x.v)]:=by
   rcases MM.mp hs' with z |z
   ·by_cases c:x.v<0
    ·right;rw[z];unfold cX;rw[if_neg (by omega)]
    ·left;rw[z];unfold cX;rw[if_neg c]
   ·have z:=MO.mp z;by_cases c:x.v<0
    ·left;rw[z];unfold cX;rw[if_pos c]
    ·right;rw[z];unfold cX;rw[if_pos (by omega)]
  rcases two with z |z
  ·rw[z];exact⟨x,by simp,r⟩
  ·rw[z];exact⟨x.con,by simp,r'⟩
 ·rcases MM.mp hy with z |z
  ·rw[z];exact⟨x.fac,MO.mpr rfl,_,r⟩
  ·rw[MO.mp z];exact⟨x.fac,MO.mpr rfl,_,r'⟩
where h2 {x:Wr} (h:x.ok):2<=x.d:=h.d2
theorem B6{S:List Wr}{d:Int}(h:SomeW S d)(tw:Bool):Tell (gsW tw S) S/\dgs id (uS (gsW tw S))<=6/\dgs bZ (uS (gsW tw S))<=4/\wB (uS (gsW tw S))<=162:=by
 rcases h.sh with⟨z,hl⟩ |⟨x,ls,hv,rfl,hl,hl2⟩
 ·obtain⟨a,b,c,e⟩:=vA (tw:=tw) (gs:=[]) (S:=[]) ⟨GS.nil,λf h=>absurd h (by simp[fS]),λ_ h=>(nomatch h)⟩ S λx hx=>⟨(h.ok x hx).1,z x hx⟩
  have e1:dgs id (uS [])=0:=rfl;have e2:dgs bZ (uS [])=0:=rfl;have e3:wB (uS [])=0:=rfl;exact⟨a,by show dgs id (uS (S.foldl (stW tw) []))<=6;omega,by show dgs bZ (uS (S.foldl (stW tw) []))<=4;omega,by show wB (uS (S.foldl (stW tw) []))<=162;omega⟩
 ·have hx:=(h.ok x (by simp)).1
  obtain⟨m,hm1,hm2,em⟩:∃m,1<=m/\m<=2/\gsW tw (x::x.con::ls)=ls.foldl (stW tw) [(x.fac,m)]:=by
   have hk:∀y:Wr,0<y.v->∃m,1<=m/\m<=2/\stW tw [] y=[(y.fac,m)]:=λy hy=>by refine⟨if 0<y.v/\tw=true then 2 else 1,by split<;>omega,by split<;>omega,?_⟩;unfold stW;rw[if_neg (by omega)];rfl
   have hn:∀(y:Wr) gs,y.v<0->stW tw gs y=gs:=λy gs hy=>by unfold stW;rw[if_pos hy]
   show ∃m,1<=m/\m<=2/\ls.foldl (stW tw) (stW tw (stW tw [] x) x.con)=_;rcases Ot hv with c |c
   ·obtain⟨m,a,b,e⟩:=hk x.con (show 0 < -x.v by omega);exact⟨m,a,b,by rw[hn x [] c,e,uj]⟩
   ·obtain⟨m,a,b,e⟩:=hk x c;exact⟨m,a,b,by rw[e,hn x.con _ (show -x.v<0 by omega)]⟩
  obtain⟨b,l3⟩:=yt hx hv;obtain⟨a,b,c,e⟩:=vA (tw:=tw) (B3 hx hv hm1) ls λy hy=>⟨(h.ok y (by simp[hy])).1,hl y hy⟩
  rw[<- em]at a b c e;have e1:dgs id (uS [(x.fac,m)])=m*((ah x.fac).length-1):=rfl;have e2:dgs bZ (uS [(x.fac,m)])=1*((ah x.fac).length-1):=rfl;have e3:wB (uS [(x.fac,m)])=(bB (ah x.fac)+5)*m+2:=rfl;have d4:bB (ah x.fac)=47:=by unfold bB;rw[if_neg (by omega)]
  rw[l3]at e1 e2;rw[d4]at e3;exact⟨a,by omega,by omega,by omega⟩
theorem B5{gs:List (Ex×Nat)}{S:List Wr}(h:Tell gs S){k:Int}(h1:1<=k)(h9:k<=9):Tell (aZ [0,-k,1] 1 gs) S/\dgs id (uS (aZ [0,-k,1] 1 gs))<=dgs id (uS gs)+2/\dgs bZ (uS (aZ [0,-k,1] 1 gs))<=dgs bZ (uS gs)+2/\wB (uS (aZ [0,-k,1] 1 gs))<=wB (uS gs)+54:=by
 have eS:=yC h1;have hF:FacG [0,-k,1]:=⟨0,-k,1,rfl,by decide,by decide,by omega,by omega,by decide,by decide,.inl (by omega)⟩;have hl:(ah [0,-k,1]).length=3:=by rw[eS];rfl
 have hb:bB (ah [0,-k,1])=47:=by unfold bB;rw[if_neg (by omega)]
 have d1:=sT [0,-k,1] 1 gs;have d2:=sU [0,-k,1] 1 gs;have d3:=sR [0,-k,1] 1 gs;rw[hb]at d3;rw[hl]at d1 d2;refine⟨⟨h.ok.ins hF ?_ (MJ _),λf hf s hs=>?_,λy hy=>?_⟩,by omega,by omega,by omega⟩
 ·rw[hb,eS]
  refineλx hx=>?_
  rcases MM.mp hx with rfl |hx
  ·exact JZ (n:=10) (by omega) (by decide)
  ·exact Bits.mono (j:=1) (Ba (k:=1) (x:=0) (y:=1) (by show(0:Int).natAbs<2^1;decide) (by show(1:Int).natAbs<2^1;decide) x hx) (by decide)
 ·rcases iQ hf with z |z
  ·exact h.r1 f z s hs
  ·rw[z]at hs
   have:spF [0,-k,1]=[]:=by show(if 0 <= -k then _ else[])++(if 0 < -k then _ else[])=[];rw[if_neg (by omega),if_neg (by omega)];rfl
   rw[this]at hs;cases hs
 ·obtain⟨f,hf,s,r⟩:=h.r2 y hy;exact⟨f,sS hf,s,r⟩
def TuH(H:Hp)(ps:List Addr)(xss:List Ex):Prop:=ps.length=xss.length/\∀(i:Nat) (p:Addr) (xs:Ex),ps[i]?=some p->xss[i]?=some xs->H p=some (.tup (xs.map V.int))
theorem TuH.nil{H:Hp}:TuH H [] []:=⟨rfl,λi p xs h=>by simp at h⟩
theorem TuH.same{H H':Hp}{ps:List Addr}{xss:List Ex}(h:TuH H ps xss)(s:Same H H'):TuH H' ps xss:=⟨h.1,λi p xs a b=>s _ _ (h.2 i p xs a b)⟩
theorem TuH.snoc{H:Hp}{ps:List Addr}{xss:List Ex}{p:Addr}{xs:Ex}(h:TuH H ps xss)(hp:H p=some (.tup (xs.map V.int))):TuH H (ps++[p]) (xss++[xs]):=by
 refine⟨by rw[MX,MX,h.1];rfl,λi q ys a b=>?_⟩;by_cases hi:i<ps.length
 ·rw[List.getElem?_append_left hi]at a;rw[List.getElem?_append_left (by rw[<- h.1];exact hi)]at b;exact h.2 i q ys a b
 ·rw[List.getElem?_append_right (by omega)]at a;rw[List.getElem?_append_right (by rw[<- h.1];omega),<- h.1]at b;by_cases h0:i-ps.length=0
  ·rw[h0]at a b;obtain rfl:p=q:=by simpa using a
   obtain rfl:xs=ys:=by simpa using b
   exact hp
  ·rw[List.getElem?_eq_none_iff.mpr (by simp;omega)]at a;cases a
theorem TuH.of_get{H:Hp}{ps:List Addr}{xss:List Ex}{i:Nat}{x:V}(h:TuH H ps xss)(hx:(ps.map V.ref)[i]?=some x):∃p xs,x=.ref p/\ps[i]?=some p/\xss[i]?=some xs/\H p=some (.tup (xs.map V.int))/\i<xss.length:=by
 rw[List.getElem?_map]at hx;cases e:ps[i]? with
 |none=>rw[e]at hx;cases hx
 |some p =>
  rw[e]at hx;have hi:i<ps.length:=(List.getElem?_eq_some_iff.mp e).1;have hi':i<xss.length:=by rw[<- h.1];exact hi
  exact⟨p,xss[i],(Option.some.inj hx).symm,rfl,List.getElem?_eq_getElem hi',h.2 i p _ e (List.getElem?_eq_getElem hi'),hi'⟩
theorem TuH.upd_lst{H:Hp}{ps:List Addr}{xss:List Ex}{a:Addr}{vs:List V}{o:HO}(h:TuH H ps xss)(ha:H a=some (.lst vs)):TuH (upd H a o) ps xss:=⟨h.1,λi p xs e1 e2=>by
 have e3:=h.2 i p xs e1 e2
 rw[L2.upd_ne (λz=>by rw[z,ha]at e3;cases e3)];exact e3⟩
theorem RwH.upd_no{H:Hp}{ps:List Addr}{xss:List Ex}{a:Addr}{o:HO}(h:RwH H ps xss)(hn:∀p∈ps,p≠a):RwH (upd H a o) ps xss:=⟨h.1,λi p xs e1 e2=>by rw[L2.upd_ne (hn p (List.mem_of_getElem? e1))];exact h.2 i p xs e1 e2⟩
def wQ:Sp:=λvs H Q _=>∃(p q:Addr) (x y:Wr),vs=[.ref p,.ref q]/\H p=some (.tup (x.l.map V.int))/\H q=some (.tup (y.l.map V.int))/\x.ok/\y.ok/\Q (.int (aW x y)) H
theorem Gf(F:Fun K "_law_compared" "_law_compared" qV f fd)(T:Txt K mg)(uV:Cal P w K mg base 1 "_law_sign" ["_law_u","_law_v","_law_d"] oT Jg IJ):FnOk P w K mg base CX0 2 f fd ["_law_one","_law_other"] wQ:=by
 refine F.ok f9 (λvs H Q E h=>?_) (λcdv A outer s H vs Q E hr h=>?_)
 ·obtain⟨p,q,x,y,rfl,_⟩:=h;rfl
 ·obtain⟨p,q,x,y,rfl,hp,hq,hx,hy,k⟩:=h
  refine⟨_,(ag (eT (pv 0) (gu rfl (bI (aT 2 f9) (bI (aT 3 f9) (bI (aT 4 f9) (bI (aT 5 f9) gt))))))
   (ag (eT (pv 1) (gu rfl (bI (aT 6 f9) (bI (aT 7 f9) (bI (aT 8 f9) (bI (aT 9 f9) gt))))))
   (aj (aC (aq uV hr (aa (ai bQ (ai aI (pv 2) (pv 8)) (ai aI (pv 6) (pv 4))) (aa (ai bQ (ai aI (pv 3) (pv 8)) (ai aI (pv 7) (pv 4))) (aa (pv 5) ac)))))))),?_⟩
  refine⟨_,rfl,p,_,rfl,SqT.of hp,rfl,_,_,rfl,_,_,rfl,_,_,rfl,_,_,rfl,rfl,?_⟩;dsimp only
  refine dm (λσ' H'=>σ'=[some (.ref p),some (.ref q),some (.int x.u),some (.int x.v),some (.int x.w),some (.int x.d),none,none,none,none]/\H=H') ⟨rfl,rfl⟩ ?_;rintro σ' H' ⟨rfl,rfl⟩;refine⟨_,rfl,q,_,rfl,SqT.of hq,rfl,_,_,rfl,_,_,rfl,_,_,rfl,_,_,rfl,rfl,?_⟩;dsimp only
  refine dm (λσ' H'=>σ'=[some (.ref p),some (.ref q),some (.int x.u),some (.int x.v),some (.int x.w),some (.int x.d),some (.int y.u),some (.int y.v),some (.int y.w),some (.int y.d)]/\H=H') ⟨rfl,rfl⟩ ?_;rintro σ' H' ⟨rfl,rfl⟩;have b1:Bits 26 (x.u*y.w-y.u*x.w):=Bits.sub (k:=25) (hx.bu.mul hy.bw) (hy.bu.mul hx.bw);have b2:Bits 26 (x.v*y.w-y.v*x.w):=Bits.sub (k:=25) (hx.bv.mul hy.bw) (hy.bv.mul hx.bw);refine aV ⟨_,rfl,_,rfl,_,_,rfl,rfl,⟨hx.bu.mono,hy.bw.mono⟩,_,rfl,_,rfl,_,_,rfl,rfl,⟨hy.bu.mono,hx.bw.mono⟩,_,_,rfl,rfl,?_⟩;refine⟨_,rfl,_,rfl,_,_,rfl,rfl,⟨hx.bv.mono,hy.bw.mono⟩,_,rfl,_,rfl,_,_,rfl,rfl,⟨hy.bv.mono,hx.bw.mono⟩,_,_,rfl,rfl,_,rfl,?_⟩;exact⟨_,_,_,rfl,b1.mono,b2.mono,hx.bd.mono,k⟩
def wa(K:PySem.W.Frag):Sp:=λvs H Q _=>∃(a:Addr) (ns:Ex),vs=[.ref a]/\SqL K H a (ns.map V.int)/\∀(p:Addr) (H':Hp) (ps:List Addr) (S:List Wr) (d:Int),Same H H'->H p=none->H' p=some (.lst (ps.map V.ref))->TuH H' ps (S.map Wr.l)->SomeW S d->Q (.ref p) H'
theorem FR(F:Fun K "_law_worths" "_law_worths" qH f fd)(T:Txt K mg)(KO:Cal P w K mg base 2 "_law_worth" ["_law_script","_law_k"] (wb K) Ms LJ)(gQ:Cal P w K mg base 1 "_law_cell_at" ["_law_script","_law_k"] (iw K) zX zV)(ou:Cal P w K mg base 1 "_law_amount" ["_law_cell"] pb Jj IM):FnOk P w K mg base CX0 3 f fd ["_law_script"] (wa K):=by
 refine F.ok f8 (λvs H Q E h=>?_) (λcdv A outer s H vs Q E hr h=>?_)
 ·obtain⟨a,ns,rfl,_⟩:=h;rfl
 ·obtain⟨a,ns,rfl,hS,kk⟩:=h;have big:=sizeLine_eq
  refine⟨_,(ag (eT (aq KO hr (aa (pv 0) (aa ad ac))) (gu rfl (bI (aT 1 f8) (bI (aT 2 f8) (bI (aT 3 f8) (bI (aT 4 f8) gt))))))
   (ag (ao 5 f8 (aq gQ hr (aa (pv 0) (aa ad ac))))
   (ag (ao 6 f8 (aP ac))
   (ag (aR (aG cT (ai ci (pv 5) ad) ad)
     (ag (dq (fC (pv 6) (aa (cZ (aa (pv 1) (aa (pv 2) (aa (pv 3) (aa (pv 4) ac))))) ac)))
       (aj (aR (aG iK (pv 2) ad)
         (aj (dq (fC (pv 6) (aa (cZ (aa (pv 1) (aa (bC bA (pv 2)) (aa (pv 3) (aa (pv 4) ac))))) ac))))
         aS)))
     aS)
   (ag (cw PassesOwn.never rfl (g6 rfl T.range_ (aa (ai ci (ai cG (pv 5) ad) ad) ac)) (aT 7 f8)
     (ag (ao 8 f8 (aq gQ hr (aa (pv 0) (aa (ai bH ad (pv 7)) ac))))
       (aj (dq (fC (pv 6) (aa (cZ (aa (aq ou hr (aa (ai cG (pv 8) ad) ac)) (aa ad (aa (ai bH ad (ai ci (pv 8) ad)) (aa (pv 4) ac))))) ac))))))
   (aj (aC (pv 6)))))))),?_⟩
  refine⟨_,rfl,a,ns,rfl,hS,λp H1 u v w d s1 hp1 hp hW=>?_⟩;refine⟨p,_,rfl,SqT.of hp,rfl,_,_,rfl,_,_,rfl,_,_,rfl,_,_,rfl,rfl,?_⟩;dsimp only
  refine dm (λσ' H'=>σ'=[some (.ref a),some (.int u),some (.int v),some (.int w),some (.int d),none,none,none,none]/\H1=H') ⟨rfl,rfl⟩ ?_;rintro σ' H' ⟨rfl,rfl⟩;have hx:(Wr.mk u v w d).ok:=hW;refine av ⟨_,rfl,a,ns,3,rfl,s1.seq hS,?_⟩;generalize ns.getD 3 0=c;refine av ⟨MQ _,λp0 hp0=>?_⟩;have s2:=s1.then_new (o:=.lst []) hp0;have f0:=s1.free hp0;have e2:upd H1 p0 (.lst []) p0=some (.lst []):=ap;show cN _ _ _ _ _;refine dm (λσ' H'=>σ'=[some (.ref a),some (.int u),some (.int v),some (.int w),some (.int d),some (.int c),some (.ref p0),none,none]/\upd H1 p0 (.lst [])=H') ⟨rfl,rfl⟩ ?_;rintro σ' H2 ⟨rfl,rfl⟩;generalize upd H1 p0 (.lst [])=H2 at s2 e2 ⊢
  refine gY (λσ' H'=>∃(ps:List Addr) (S:List Wr),σ'=[some (.ref a),some (.int u),some (.int v),some (.int w),some (.int d),some (.int c),some (.ref p0),none,none]/\Same H H'/\H' p0=some (.lst (ps.map V.ref))/\TuH H' ps (S.map Wr.l)/\(S=[]\/(v=0/\S=[Wr.mk u v w d])\/(v≠0/\S=[Wr.mk u v w d,(Wr.mk u v w d).con]))) ?_ (λrest=>⟨_,rfl,_,_,rfl,rfl,(by show(0:Int)<6;decide),_,_,rfl,rfl,_,rfl,aH (λ_=>?_) (λ_=>?_)⟩)
  rotate_left
  ·refine gd ⟨_,rfl,.inl ⟨rfl,_,SqL.of e2⟩,_,rfl,_,rfl,_,rfl,_,rfl,by show 4<=sizeLine;decide,λq1 hq1=>?_⟩;have s3:=Same.upd_new (o:=.tup [V.int u,V.int v,V.int w,V.int d]) hq1;have e3:upd H2 q1 (.tup [V.int u,V.int v,V.int w,V.int d]) q1=some (.tup ((Wr.mk u v w d).l.map V.int)):=ap;refine fv (H2:=upd H2 q1 (.tup [V.int u,V.int v,V.int w,V.int d])) rfl ?_;generalize upd H2 q1 (.tup [V.int u,V.int v,V.int w,V.int d])=H3 at s3 e3 ⊢
   have e2':=s3 _ _ e2;refine⟨p0,_,_,rfl,rfl,e2',by show 0<sizeLine;decide,?_⟩;have s4:Same H (upd H3 p0 (.lst ([]++[V.ref q1]))):=dI (s2.trans s3) f0;have T4:TuH (upd H3 p0 (.lst ([]++[V.ref q1]))) [q1] ([Wr.mk u v w d].map Wr.l):=(TuH.snoc TuH.nil e3).upd_lst e2';have e4:upd H3 p0 (.lst ([]++[V.ref q1])) p0=some (.lst ([q1].map V.ref)):=ap;refine fv (H2:=upd H3 p0 (.lst ([]++[V.ref q1]))) rfl ?_;generalize upd H3 p0 (.lst ([]++[V.ref q1]))=H4 at s4 T4 e4 ⊢
   refine⟨_,rfl,_,_,rfl,rfl,_,rfl,cY (λhv=>?_) (λhv=>?_)⟩
   ·have hv':v≠0:=hv;refine kB ⟨_,rfl,.inl ⟨rfl,_,SqL.of e4⟩,_,rfl,_,rfl,_,rfl,_,rfl,_,rfl,by show 4<=sizeLine;decide,λq2 hq2=>?_⟩;have s5:=Same.upd_new (o:=.tup [V.int u,V.int (-v),V.int w,V.int d]) hq2;have e5:upd H4 q2 (.tup [V.int u,V.int (-v),V.int w,V.int d]) q2=some (.tup ((Wr.mk u v w d).con.l.map V.int)):=ap;refine fv (H2:=upd H4 q2 (.tup [V.int u,V.int (-v),V.int w,V.int d])) rfl ?_;generalize upd H4 q2 (.tup [V.int u,V.int (-v),V.int w,V.int d])=H5 at s5 e5 ⊢
    have e4':=s5 _ _ e4;refine⟨p0,_,_,rfl,rfl,e4',by show 1<sizeLine;decide,?_⟩;exact rest _ _ ⟨[q1,q2],[Wr.mk u v w d,(Wr.mk u v w d).con],rfl,dI (s4.trans s5) f0,ap,((T4.same s5).snoc e5).upd_lst e4',.inr (.inr ⟨hv',rfl⟩)⟩
   ·have hv':v=0:=hv;exact rest _ _ ⟨[q1],[Wr.mk u v w d],rfl,s4,e4,T4,.inr (.inl ⟨hv',rfl⟩)⟩
  ·exact rest _ _ ⟨[],[],rfl,s2,e2,TuH.nil,.inl rfl⟩
  clear s2 e2;rintro σ' H3 ⟨ps0,S0,rfl,s3,e3,T3,hS0⟩;have m0:=N6 (c/6) (b:=3) (by decide);have m1:=N7 (c/6) (b:=3) (by decide);obtain⟨n,hn⟩:∃n:Nat,c/6%3=(n:Int):=⟨(c/6%3).toNat,by omega⟩;have hl0:S0.length<=2:=by rcases hS0 with z |⟨_,z⟩ |⟨_,z⟩<;>rw[z]<;>simp
  refine⟨_,rfl,_,_,rfl,rfl,⟨by show(0:Int)<6;decide,db (by decide) (by decide)⟩,_,_,rfl,rfl,(by show(0:Int)<3;decide),_,rfl,by omega,by omega,?_⟩;rw[hn,Int.toNat_natCast];refine jJ (lo:=0) (n:=n) (λi σ' H'=>∃(z7 z8:Option V) (ps:List Addr) (ls:List Wr),σ'=[some (.ref a),some (.int u),some (.int v),some (.int w),some (.int d),some (.int c),some (.ref p0),z7,z8]/\Same H H'/\H' p0=some (.lst (ps.map V.ref))/\TuH H' ps ((S0++ls).map Wr.l)/\(∀y∈ls,y.ok/\y.d=d/\y.v=0)/\ls.length=i) ⟨none,none,ps0,[],rfl,s3,e3,by rw[Oj];exact T3,λ_ h=>(nomatch h),rfl⟩ ?_ ?_
  ·rintro i σ' H4 hi ⟨z7,z8,ps,ls,rfl,s4,e4,T4,hls,hll⟩;rw[show(0:Int)+(i:Int)=i from Ny _];show cN _ _ _ _ _;refine av ⟨_,rfl,_,rfl,_,_,rfl,rfl,a,ns,4+i,by rw[Int.natCast_add];rfl,s4.seq hS,?_⟩;generalize ns.getD (4+i) 0=e;refine kB ⟨_,rfl,.inl ⟨rfl,_,SqL.of e4⟩,_,rfl,_,_,rfl,rfl,⟨by show(0:Int)<12;decide,db (by decide) (by decide)⟩,_,rfl,λz hz=>?_⟩;refine⟨_,rfl,_,_,rfl,rfl,(by show(0:Int)<12;decide),_,_,rfl,rfl,_,rfl,by show 4<=sizeLine;decide,λq hq=>?_⟩;obtain⟨r0,r1⟩:=nh (x:=e) (m:=12) (by decide);have hy:(Wr.mk z 0 (1+e%12) d).ok:=⟨hz,Bits.zero,by show 0<1+e%12;omega,by show 1+e%12<=12;omega,hW.d2,hW.d13,hW.ns⟩;have s5:=Same.upd_new (o:=.tup [V.int z,V.int 0,V.int (1+e%12),V.int d]) hq;have e5:upd H4 q (.tup [V.int z,V.int 0,V.int (1+e%12),V.int d]) q=some (.tup ((Wr.mk z 0 (1+e%12) d).l.map V.int)):=ap;generalize upd H4 q (.tup [V.int z,V.int 0,V.int (1+e%12),V.int d])=H5 at s5 e5 ⊢
   have e4':=s5 _ _ e4;have hpl:ps.length=S0.length+ls.length:=by rw[T4.1,MI,MX]
   refine⟨p0,_,_,rfl,rfl,e4',by rw[MI];omega,?_⟩;refine⟨_,_,ps++[q],ls++[Wr.mk z 0 (1+e%12) d],rfl,dI (s4.trans s5) f0,by rw[ap,Nl];rfl,?_,λy hy'=>?_,by rw[MX,hll];rfl⟩
   ·rw[<- Ox,Nl];exact((T4.same s5).snoc e5).upd_lst e4'
   ·rcases Nb.mp hy' with r |r
    ·exact hls y r
    ·rw[MO.mp r];exact⟨hy,rfl,rfl⟩
  ·rintro σ' H4 ⟨z7,z8,ps,ls,rfl,s4,e4,T4,hls,hll⟩;refine⟨_,rfl,kk p0 H4 ps (S0++ls) d s4 f0 e4 T4 ⟨λy hy=>?_,?_⟩⟩
   ·rcases Nb.mp hy with r |r
    ·rcases hS0 with z |⟨_,z⟩ |⟨_,z⟩
     ·rw[z]at r;cases r
     ·rw[z]at r;rw[MO.mp r];exact⟨hx,rfl⟩
     ·rw[z]at r;rcases MM.mp r with r |r
      ·rw[r];exact⟨hx,rfl⟩
      ·rw[MO.mp r];exact⟨ui hx,rfl⟩
    ·exact⟨(hls y r).1,(hls y r).2.1⟩
   ·rcases hS0 with z |⟨v0,z⟩ |⟨v0,z⟩
    ·left;rw[z];exact⟨λy hy=>(hls y hy).2.2,by show ls.length<=3;omega⟩
    ·left;rw[z];refine⟨λy hy=>?_,by show ls.length+1<=3;omega⟩;rcases MM.mp hy with r |r
     ·rw[r];exact v0
     ·exact(hls y r).2.2
    ·right;exact⟨Wr.mk u v w d,ls,v0,by rw[z];rfl,λy hy=>(hls y hy).2.2,by omega⟩
structure IsN(C CN:Addr)(H:Hp)(x q l h:Addr)(ns:Ex)(l1 l2 h1 h2:Int)(u v w d:Int):Prop where
 na:NA CN H x q l h
 po:H q=some (.lst (ns.map V.int))
 rl:RA C H l l1 l2
 rh:RA C H h h1 h2
 en:EndsG 3000 l1 l2 h1 h2
 lo:UpW u v w d l1 l2
 hi:¬UpW u v w d h1 h2
 ot:v≠0->UpW u (-v) w d l1 l2->UpW u (-v) w d h1 h2
theorem IsN.same{C CN:Addr}{H H':Hp}{x q l h:Addr}{ns:Ex}{l1 l2 h1 h2 u v w d:Int}(i:IsN C CN H x q l h ns l1 l2 h1 h2 u v w d)(s:Same H H'):IsN C CN H' x q l h ns l1 l2 h1 h2 u v w d:=⟨i.na.same s,s _ _ i.po,i.rl.same s,i.rh.same s,i.en,i.lo,i.hi,i.ot⟩
def wI(C CN:Addr):Sp:=λvs H Q _=>∃(x q l h p b:Addr) (ns:Ex) (l1 l2 h1 h2 u v w d:Int),vs=[.ref x,.ref p,.ref b]/\IsN C CN H x q l h ns l1 l2 h1 h2 u v w d/\WT H p u v w d/\WOk u v w d/\H b=some (.lst (ns.map V.int))/\ns.length<=100/\∀H',Same H H'->Q (.bl true) H'
theorem Gd(F:Fun K "_law_is" "_law_is" qT f fd)(T:Txt K mg)(R:RCI K mg C)(RN:NCI K mg CN)(KR:Cal P w K mg base 2 "_law_poly" ["_law_found"] wv Mw LN)(Bm:Cal P w K mg base 2 "_law_ratio" ["_law_found"] (wt C) Mu LL)(oq:Cal P w K mg base 2 "_law_beside" ["_law_worth_here","_law_r"] (wR C) MC LS):FnOk P w K mg base CX0 3 f fd ["_law_found","_law_worth_here","_law_due"] (wI C CN):=by
 refine F.ok jl (λvs H Q E h=>?_) (λcdv A outer s H vs Q E hr h=>?_)
 ·obtain⟨x,q,l,h,p,b,ns,l1,l2,h1,h2,u,v,w,d,rfl,_⟩:=h;rfl
 ·obtain⟨x,q,l,h,p,b,ns,l1,l2,h1,h2,u,v,w,d,rfl,⟨⟨dx,hx⟩,hq,hl,hh,en,lo,hi,ot⟩,hp,hW,hb,hlen,k⟩:=h;have hu:=hr.units;have hw:=hW.w1;have hup:0<sgq (u*l2-l1*w) (v*l2) d:=lo;have hdn:¬0<sgq (u*h2-h1*w) (v*h2) d:=hi
  refine⟨_,(ag (aR (PW.pt (fz (eQ (dU (cF (ii (K:=K) rfl) (by rfl) T.isinstance_ PyProof.Rows.boot_isinstance (aa (pv 0) (aa (rQ (v:=.ref CN) rfl RN.mg rfl) ac))))) (fz (eQ (dU (aq KR hr (aa (aL (K:=K) rfl (pv 0) rfl) ac)))) (iF (aG (iJ (K:=K) rfl hu) (aL (K:=K) rfl (pv 0) rfl) (pv 2))))))
   (aj (aC gw))
   aS)
   (ag (aR (PW.pt (fz (eQ (dU (aq Bm hr (aa (aL (K:=K) rfl (pv 0) rfl) ac)))) (iF (eQ (dU (aq Bm hr (aa (aL (K:=K) rfl (pv 0) rfl) ac)))))))
     (aj (aC gw))
     aS)
   (ag (eT (pv 1) (gu rfl (bI (aT 3 jl) (bI (aT 4 jl) (bI (aT 5 jl) (bI (aT 6 jl) gt))))))
   (ag (aR (PW.pt (fz (aG rW (aq oq hr (aa (pv 1) (aa (aL (K:=K) rfl (pv 0) rfl) ac))) ad) (iF (aG cQ (aq oq hr (aa (pv 1) (aa (aL (K:=K) rfl (pv 0) rfl) ac))) ad))))
     (aj (aC gw))
     aS)
   (ag (ao 7 jl (cZ (aa (pv 3) (aa (bC bA (pv 4)) (aa (pv 5) (aa (pv 6) ac))))))
   (aj (aC (rP (dg cU (pv 4) ad) (rP (dg cT (aq oq hr (aa (pv 7) (aa (aL (K:=K) rfl (pv 0) rfl) ac))) ad) (iI (dg cQ (aq oq hr (aa (pv 7) (aa (aL (K:=K) rfl (pv 0) rfl) ac))) ad))))))))))),?_⟩
  refine bn (gf (fu (mK (gX ⟨_,rfl,zn (.ins hx RN.cl RN.ha RN.hn RN.ht RN.hm) (k:=true) (by unfold PySem.W.kitOne;rw[if_pos (by simp)]) ⟨_,rfl,cs ?_⟩⟩))));refine gf (fu ⟨_,rfl,x,CN,dx,_,_,rfl,hx,RN.cl,RN.nP,tD _ _ _,q,ns,rfl,hq,_,rfl,cs ?_⟩);refine⟨_,rfl,x,CN,dx,_,_,rfl,hx,RN.cl,RN.nP,tD _ _ _,_,rfl,q,b,ns,ns,rfl,rfl,SqL.of hq,SqL.of hb,_,rfl,cY (λz=>absurd rfl z) (λ_=>?_)⟩;refine bn (gf (fu ⟨_,rfl,x,CN,dx,_,_,rfl,hx,RN.cl,RN.nL,tE _ _ _,l,l1,l2,rfl,hl,en.l2p,en.gl,_,rfl,cs ?_⟩));refine fu ⟨_,rfl,x,CN,dx,_,_,rfl,hx,RN.cl,RN.nH,tF _ _ _,h,h1,h2,rfl,hh,en.h2p,en.gh,_,rfl,cs ?_⟩;refine⟨_,rfl,p,_,rfl,SqT.of hp,rfl,_,_,rfl,_,_,rfl,_,_,rfl,_,_,rfl,rfl,?_⟩;dsimp only
  refine dm (λσ' H'=>σ'=[some (.ref x),some (.ref p),some (.ref b),some (.int u),some (.int v),some (.int w),some (.int d),none]/\H=H') ⟨rfl,rfl⟩ ?_;rintro σ' H' ⟨rfl,rfl⟩;refine bn (gf ⟨_,rfl,_,rfl,x,CN,dx,_,_,rfl,hx,RN.cl,RN.nL,tE _ _ _,p,l,u,v,w,d,l1,l2,rfl,hp,hW,hl,en.bl1,en.bl2,_,_,rfl,rfl,_,rfl,aH (λz=>absurd (show sgq (u*l2-l1*w) (v*l2) d<=0 from z) (by omega)) (λ_=>?_)⟩);refine⟨_,rfl,_,rfl,x,CN,dx,_,_,rfl,hx,RN.cl,RN.nH,tF _ _ _,p,h,u,v,w,d,h1,h2,rfl,hp,hW,hh,en.bh1,en.bh2,_,_,rfl,rfl,_,rfl,aH (λz=>absurd (show sgq (u*h2-h1*w) (v*h2) d>0 from z) hdn) (λ_=>?_)⟩;refine av ⟨_,rfl,_,rfl,_,rfl,_,rfl,_,rfl,by show 4<=sizeLine;decide,λpo hpo=>?_⟩;have s1:Same H (upd H po (.tup [V.int u,V.int (-v),V.int w,V.int d])):=Same.upd_new hpo;have ho:WT (upd H po (.tup [V.int u,V.int (-v),V.int w,V.int d])) po u (-v) w d:=ap;have hWo:WOk u (-v) w d:=⟨hW.bu,hW.bv.neg,hW.w1,hW.w12,hW.d2,hW.d13,hW.ns⟩;generalize upd H po (.tup [V.int u,V.int (-v),V.int w,V.int d])=H1 at s1 ho ⊢
  have hx1:=s1 _ _ hx;refine aV (rA ⟨_,rfl,_,_,rfl,rfl,_,rfl,aH (λ_=>k H1 s1) (λh0=>?_)⟩);have h0':¬v=0:=h0;refine rA ⟨_,rfl,_,rfl,x,CN,dx,_,_,rfl,hx1,RN.cl,RN.nL,tE _ _ _,po,l,u,-v,w,d,l1,l2,rfl,ho,hWo,hl.same s1,en.bl1,en.bl2,_,_,rfl,rfl,_,rfl,aH (λ_=>k H1 s1) (λh3=>?_)⟩;have h3':¬sgq (u*l2-l1*w) (-v*l2) d<0:=h3;refine⟨_,rfl,_,rfl,x,CN,dx,_,_,rfl,hx1,RN.cl,RN.nH,tF _ _ _,po,h,u,-v,w,d,h1,h2,rfl,ho,hWo,hh.same s1,en.bh1,en.bh2,_,_,rfl,rfl,?_⟩
  have up:UpW u (-v) w d l1 l2:=by
   show 0<sgq (u*l2-l1*w) (-v*l2) d;rcases xq (u*l2-l1*w) (-v*l2) d with z |z |z
   ·omega
   ·have:=(pB z).2;rcases NM.mp this with y |y
    ·omega
    ·have:=en.l2p;omega
   ·omega
  have up2:0<sgq (u*h2-h1*w) (-v*h2) d:=ot h0' up
  have e1:sgq (u*h2-h1*w) (-v*h2) d=1:=by rcases xq (u*h2-h1*w) (-v*h2) d with z |z |z<;>omega
  rw[e1];exact k H1 s1
theorem TuH.append{H:Hp}{ps qs:List Addr}{xss yss:List Ex}(h:TuH H ps xss)(h':TuH H qs yss):TuH H (ps++qs) (xss++yss):=by
 refine⟨by rw[MX,MX,h.1,h'.1],λi p xs a b=>?_⟩;by_cases hi:i<ps.length
 ·rw[List.getElem?_append_left hi]at a;rw[List.getElem?_append_left (by rw[<- h.1];exact hi)]at b;exact h.2 i p xs a b
 ·rw[List.getElem?_append_right (by omega)]at a;rw[List.getElem?_append_right (by rw[<- h.1];omega),<- h.1]at b;exact h'.2 _ p xs a b
theorem TuH.take{H:Hp}{ps:List Addr}{xss:List Ex}(h:TuH H ps xss)(k:Nat):TuH H (ps.take k) (xss.take k):=by
 refine⟨by rw[Nx,Nx,h.1],λi p xs a b=>?_⟩;rw[List.getElem?_take]at a b;split at a
 ·rename_i hi
  rw[if_pos hi]at b;exact h.2 i p xs a b
 ·cases a
theorem TuH.drop{H:Hp}{ps:List Addr}{xss:List Ex}(h:TuH H ps xss)(k:Nat):TuH H (ps.drop k) (xss.drop k):=by refine⟨by rw[NJ,NJ,h.1],λi p xs a b=>?_⟩;rw[List.getElem?_drop]at a b;exact h.2 _ p xs a b
theorem HJ(ps:List Addr)(k:Nat)(q:Addr):sQ (ps.map V.ref) k (V.ref q)=(ps.take k++q::ps.drop k).map V.ref:=by unfold sQ;rw[Nl,Nw,List.map_take,List.map_drop]
theorem DU{D:Ends}{σ:St}{H:Hp}{t1 t2:TS}{c1 c2:TT}(b1 b2:Bool)(e1:∀G:Bool->Hp->Prop,G b1 H->c1 σ H G)(e2:b1=false->∀G:Bool->Hp->Prop,G b2 H->c2 σ H G)(h1:b1=true\/b2=true->t1 D σ H)(h2:b1=false->b2=false->t2 D σ H):gT (tOr c1 c2) t1 t2 D σ H:=by
 refine gj (gf (e1 _ ?_));cases hb1:b1 with
 |true=>exact fm (fm (h1 (.inl hb1)))
 |false =>
  refine cs (e2 hb1 _ ?_);cases hb2:b2 with
  |true=>exact fm (h1 (.inr hb2))
  |false=>exact cs (h2 hb1 hb2)
theorem HI{D:List Wr}{x:Wr}{d:Int}{k:Nat}(hD:D.Pairwise λa b=>aW a b<0)(ok:∀y∈D,y.ok/\y.d=d)(hx:x.ok/\x.d=d)(h1:∀y∈D.take k,aW y x<0)(h2:∀y,D[k]?=some y->0<aW y x):(D.take k++x::D.drop k).Pairwise λa b=>aW a b<0:=by
 have hD':=hD;rw[<- Pf k D]at hD';obtain⟨p1,p2,p3⟩:=OD.mp hD'
 have hdrop:∀y∈D.drop k,aW x y<0:=by
  by_cases hk:k<D.length
  ·have e:D.drop k=D[k]::D.drop (k+1):=Pc hk;have g:D[k]?=some D[k]:=List.getElem?_eq_getElem hk;have m:D[k]∈D:=ND hk;have q:=h2 _ g
   have q':aW x D[k]<0:=by have:=lj (x:=D[k]) (y:=x) (ok _ m).1 ((ok _ m).2.trans hx.2.symm);omega
   rw[e]at p2;obtain⟨r1,_⟩:=NW.mp p2;intro y hy;rw[e]at hy;rcases MM.mp hy with z |z
   ·rw[z];exact q'
   ·have my:y∈D:=OU z;exact JM hx.1 (ok _ m).1 (ok y my).1 (hx.2.trans (ok _ m).2.symm) ((ok _ m).2.trans (ok y my).2.symm) q' (r1 y z)
  ·intro y hy;rw[List.drop_eq_nil_of_le (by omega)]at hy;cases hy
 refine OD.mpr ⟨p1,NW.mpr ⟨hdrop,p2⟩,λy hy z hz=>?_⟩;rcases MM.mp hz with e |e
 ·rw[e];exact h1 y hy
 ·exact p3 y hy z e
def wn:Sp:=λvs H Q _=>∃(a:Addr) (ps:List Addr) (S:List Wr) (d:Int),vs=[.ref a]/\H a=some (.lst (ps.map V.ref))/\TuH H ps (S.map Wr.l)/\(∀x∈S,x.ok/\x.d=d)/\S.length<=10/\∀(p:Addr) (H':Hp) (qs:List Addr) (D:List Wr),Same H H'->H p=none->H' p=some (.lst (qs.map V.ref))->TuH H qs (D.map Wr.l)->(D.Pairwise λx y=>aW x y<0)->(∀x∈D,x∈S)->(∀x∈S,∃y∈D,aW y x=0)->D.length<=10->Q (.ref p) H'
theorem FW(F:Fun K "_law_rising" "_law_rising" qM f fd)(T:Txt K mg)(Bp:Cal P w K mg base 2 "_law_compared" ["_law_one","_law_other"] wQ MB LR):FnOk P w K mg base CX0 3 f fd ["_law_some"] wn:=by
 refine F.ok ko (λvs H Q E h=>?_) (λcdv A outer s H vs Q E hr h=>?_)
 ·obtain⟨a,ps,S,d,rfl,_⟩:=h;rfl
 ·obtain⟨a,ps,S,d,rfl,hA,hT,hok,hl10,kk⟩:=h;have big:=sizeLine_eq;have hpl:ps.length=S.length:=by rw[hT.1,MI]
  refine⟨_,(ag (ao 1 ko (aP ac))
   (ag (cw PassesOwn.never rfl (c9 (K:=K) rfl (pv 0)) (aT 2 ko)
     (ag (ao 3 ko ad)
       (ag (eR PassesOwn.never (PW.pt (fB (aG cT (pv 3) (ca K T.len_ (aa (pv 1) ac))) (fA (aG cT (aq Bp hr (aa (bJ K (pv 1) (pv 3)) (aa (pv 2) ac))) ad))))
         (aj (ao 3 ko (ai bH (pv 3) ad))))
       (aj (aR (PW.pt (fz (aG cU (pv 3) (ca K T.len_ (aa (pv 1) ac))) (iF (aG cQ (aq Bp hr (aa (bJ K (pv 1) (pv 3)) (aa (pv 2) ac))) ad))))
         (aj (dq (yn PySem.F.plainAttrs_list PySem.F.slot_list_insert PySem.F.type_list_insert GP (pv 1) (aa (pv 3) (aa (pv 2) ac)))))
         aS)))))
   (aj (aC (pv 1))))),?_⟩
  refine av ⟨MQ _,λp hp=>?_⟩;have s1:=Same.upd_new (o:=.lst []) hp;have e1:upd H p (.lst []) p=some (.lst []):=ap;generalize upd H p (.lst [])=H1 at s1 e1 ⊢
  refine⟨_,rfl,a,rfl,⟨_,SqL.of (s1 _ _ hA)⟩,iT (K:=K) (a:=a) (xs:=ps.map V.ref) (λi σ' H'=>∃(z2 z3:Option V) (qs:List Addr) (D:List Wr),σ'=[some (.ref a),some (.ref p),z2,z3]/\Same H H'/\H' p=some (.lst (qs.map V.ref))/\TuH H qs (D.map Wr.l)/\(D.Pairwise λx y=>aW x y<0)/\(∀x∈D,x∈S)/\(∀x∈S.take i,∃y∈D,aW y x=0)/\D.length<=i) ⟨none,none,[],[],rfl,s1,e1,TuH.nil,List.Pairwise.nil,λ_ h=>(nomatch h),λx h=>absurd h (by simp),MJ _⟩ ?_ ?_ ?_⟩
  ·rintro i σ' H2 _ ⟨z2,z3,qs,D,rfl,s2,_⟩;exact SqL.of (s2 _ _ hA)
  ·rintro i z σ' H2 hz ⟨z2,z3,qs,D,rfl,s2,e2,T2,hD,hsub,hcov,hDl⟩;obtain⟨q,xs,rfl,hq,hxs,eq,hi⟩:=hT.of_get hz;rw[MI]at hi;obtain⟨x,hx⟩:∃x,S[i]?=some x:=⟨S[i],List.getElem?_eq_getElem hi⟩;have hxt:xs=x.l:=by rw[List.getElem?_map,hx]at hxs;exact(Option.some.inj hxs).symm
   subst hxt;have mx:x∈S:=List.mem_of_getElem? hx;have hxo:=hok x mx;have htk:S.take (i+1)=S.take i++[x]:=by rw[Nu,hx];rfl
   have hql:qs.length=D.length:=by rw[T2.1,MI]
   have hqm:(qs.map V.ref).length=D.length:=by rw[MI,hql]
   have at_k:∀(k:Nat) (y:Wr),D[k]?=some y->∃pk,atI (qs.map V.ref) (k:Int)=some (.ref pk)/\H pk=some (.tup (y.l.map V.int)):=λk y hy=>by
    have hk:k<qs.length:=by rw[hql];exact(List.getElem?_eq_some_iff.mp hy).1
    refine⟨qs[k],fQ (by rw[List.getElem?_map,List.getElem?_eq_getElem hk];rfl),T2.2 k _ _ (List.getElem?_eq_getElem hk) (by rw[List.getElem?_map,hy];rfl)⟩
   have okD:∀y∈D,y.ok/\y.d=d:=λy hy=>hok y (hsub y hy)
   have eq2:=s2 _ _ eq;show cN _ _ _ _ _;refine av ?_;show cN _ _ _ _ _;refine dm (λσ' H'=>σ'=[some (.ref a),some (.ref p),some (.ref q),some (.int 0)]/\H2=H') ⟨rfl,rfl⟩ ?_;rintro σ' H3 ⟨rfl,rfl⟩;refine mJ (λσ' H'=>∃k:Nat,σ'=[some (.ref a),some (.ref p),some (.ref q),some (.int k)]/\H2=H'/\k<=D.length/\(∀y∈D.take k,aW y x<0)/\(∀y,D[k]?=some y->0<=aW y x)) ?_ (λrest=>?_)
   rotate_left
   ·refine⟨λm σ' H'=>∃k:Nat,σ'=[some (.ref a),some (.ref p),some (.ref q),some (.int k)]/\H2=H'/\k<=D.length/\m=D.length-k/\(∀y∈D.take k,aW y x<0),⟨_,0,rfl,rfl,MQ _,rfl,λy h=>absurd h (by simp)⟩,?_⟩;rintro m σ' H' ⟨k,rfl,rfl,hk,rfl,hlt⟩;refine df ⟨_,rfl,_,rfl,p,_,rfl,.inl (SqL.of e2),_,_,rfl,rfl,_,rfl,aH (λh1=>?_) (λh1=>?_)⟩
    ·have h1':(k:Int)<((qs.map V.ref).length:Int):=h1;rw[hqm]at h1';have hkl:k<D.length:=by omega
     have gk:D[k]?=some D[k]:=List.getElem?_eq_getElem hkl;obtain⟨pk,ak,ek⟩:=at_k k _ gk;have mk:=ND hkl;refine⟨_,rfl,_,rfl,p,_,_,_,rfl,rfl,SqL.of e2,ak,_,rfl,pk,q,D[k],x,rfl,s2 _ _ ek,eq2,(okD _ mk).1,hxo.1,_,_,rfl,rfl,_,rfl,aH (λh2=>?_) (λh2=>?_)⟩
     ·have h2':aW D[k] x<0:=h2;refine⟨_,λ_ _ h=>h,?_⟩;refine⟨_,rfl,_,_,rfl,rfl,D.length-(k+1),by omega,k+1,by rw[Int.natCast_add];rfl,rfl,by omega,rfl,λy hy=>?_⟩;rw[Nu,gk]at hy;rcases Nb.mp hy with r |r
      ·exact hlt y r
      ·rw[show y=D[k] by simpa using r];exact h2'
     ·have h2':¬aW D[k] x<0:=h2;refine rest _ _ ⟨k,rfl,rfl,hk,hlt,λy hy=>?_⟩;rw[gk]at hy;cases hy;omega
    ·have h1':¬(k:Int)<((qs.map V.ref).length:Int):=h1;rw[hqm]at h1';refine cs (rest _ _ ⟨k,rfl,rfl,hk,hlt,λy hy=>?_⟩);rw[List.getElem?_eq_none_iff.mpr (by omega)]at hy;cases hy
   rintro σ' H' ⟨k,rfl,rfl,hk,hlt,hge⟩;refine DU (decide ((k:Int)=((qs.map V.ref).length:Int))) ((D[k]?.map λy=>decide (aW y x>0)).getD false) (λG hG=>⟨_,rfl,_,rfl,p,_,rfl,.inl (SqL.of e2),_,_,rfl,rfl,_,rfl,hG⟩) (λhb G hG=>?_) (λhb=>?_) (λhb1 hb2=>?_)
   ·have hb':=of_decide_eq_false hb;rw[hqm]at hb';have hkl:k<D.length:=by omega
    have gk:D[k]?=some D[k]:=List.getElem?_eq_getElem hkl;obtain⟨pk,ak,ek⟩:=at_k k _ gk;have mk:=ND hkl;rw[gk]at hG;exact⟨_,rfl,_,rfl,p,_,_,_,rfl,rfl,SqL.of e2,ak,_,rfl,pk,q,D[k],x,rfl,s2 _ _ ek,eq2,(okD _ mk).1,hxo.1,_,_,rfl,rfl,_,rfl,hG⟩
   ·have h2:∀y,D[k]?=some y->0<aW y x:=λy hy=>by
     rcases hb with z |z
     ·have z':=of_decide_eq_true z;rw[hqm]at z';rw[List.getElem?_eq_none_iff.mpr (by omega)]at hy;cases hy
     ·rw[hy]at z;exact of_decide_eq_true z
    refine kB ⟨_,rfl,.inl ⟨rfl,_,SqL.of e2⟩,_,rfl,_,rfl,p,_,_,_,rfl,rfl,e2,by omega,by rw[hqm];omega,by rw[hqm];omega,?_⟩;rw[Int.toNat_natCast,HJ];have eqH:=eq;refine⟨_,_,qs.take k++q::qs.drop k,D.take k++x::D.drop k,rfl,dI s2 hp,ap,?_,HI hD okD hxo hlt h2,λy hy=>?_,λy hy=>?_,?_⟩
    ·rw[Nl,Nw,List.map_take,List.map_drop];exact(T2.take k).append ((TuH.snoc TuH.nil eqH).append (T2.drop k))
    ·rcases Nb.mp hy with r |r
     ·exact hsub y (O6 r)
     rcases MM.mp r with r |r
     ·rw[r];exact mx
     ·exact hsub y (OU r)
    ·rw[htk]at hy;rcases Nb.mp hy with r |r
     ·obtain⟨t,ht,hc⟩:=hcov y r;refine⟨t,?_,hc⟩;rw[<- Pf k D]at ht;rcases Nb.mp ht with r |r
      ·exact NI _ r
      ·exact Nq _ (MK _ r)
     ·rw[MO.mp r];refine⟨x,Nq _ (MP ..),?_⟩;unfold aW;rw[Int.sub_self,Int.sub_self];rfl
    ·rw[MX,Nh,Nx,NJ];omega
   ·have hb1':=of_decide_eq_false hb1;rw[hqm]at hb1';have hkl:k<D.length:=by omega
    have gk:D[k]?=some D[k]:=List.getElem?_eq_getElem hkl;rw[gk]at hb2;have hb2':¬aW D[k] x>0:=of_decide_eq_false hb2;have:=hge _ gk;refine kA ⟨_,_,qs,D,rfl,s2,e2,T2,hD,hsub,λy hy=>?_,by omega⟩;rw[htk]at hy;rcases Nb.mp hy with r |r
    ·exact hcov y r
    ·rw[MO.mp r];exact⟨D[k],ND hkl,by omega⟩
  ·rintro σ' H2 ⟨z2,z3,qs,D,rfl,s2,e2,T2,hD,hsub,hcov,hDl⟩;rw[MI,hpl]at hcov hDl;rw[NP]at hcov;exact⟨_,rfl,kk p H2 qs D s2 hp e2 T2 hD hsub hcov (by omega)⟩
def oR:Sp:=λvs H Q _=>∃(a b:Addr) (xs ys:Ex),vs=[.ref a,.ref b]/\H a=some (.lst (xs.map V.int))/\H b=some (.lst (ys.map V.int))/\xs≠[]/\ys≠[]/\xs.length<=1000/\ys.length<=1000/\AllB 1000000 xs/\AllB 1000000 ys/\mkL H Q (af xs ys)
theorem FU(F:Fun K "_law_times" "_law_times" qK f fd)(T:Txt K mg):FnOk P w K mg base CX0 1 f fd ["_law_one","_law_other"] oR:=by
 refine F.ok mF (λvs H Q E h=>?_) (λcdv A outer s H vs Q E hr h=>?_)
 ·obtain⟨a,b,xs,ys,rfl,_⟩:=h;rfl
 ·obtain⟨a,b,xs,ys,rfl,hA,hB,hx0,hy0,hx,hy,bx,by',k⟩:=h;have big:=sizeLine_eq
  refine⟨_,(ag (ao 2 mF (ai rV (aP (aa ad ac)) (ai bQ (ai bH (ca K T.len_ (aa (pv 0) ac)) (ca K T.len_ (aa (pv 1) ac))) ad)))
   (ag (cw PassesOwn.never rfl (g6 rfl T.range_ (aa (ca K T.len_ (aa (pv 0) ac)) ac)) (aT 3 mF)
     (aj (cw PassesOwn.never rfl (g6 rfl T.range_ (aa (ca K T.len_ (aa (pv 1) ac)) ac)) (aT 4 mF)
       (aj (eT (ai bH (bJ K (pv 2) (ai bH (pv 3) (pv 4))) (ai aI (bJ K (pv 0) (pv 3)) (bJ K (pv 1) (pv 4)))) (kJ (pv 2) (ai bH (pv 3) (pv 4)) kh))))))
   (aj (aC (pv 2))))),?_⟩
  have hlx:(xs.map V.int).length=xs.length:=MI _;have hly:(ys.map V.int).length=ys.length:=MI _;obtain⟨la,ea⟩:∃la,xs.length=la+1:=⟨xs.length-1,by have:=MR.mpr hx0;omega⟩;obtain⟨lb,eb⟩:∃lb,ys.length=lb+1:=⟨ys.length-1,by have:=MR.mpr hy0;omega⟩;have en:((xs.map V.int).length:Int)+((ys.map V.int).length:Int)-1=((la+lb+1:Nat):Int):=by rw[hlx,hly];omega
  refine av ⟨by show 1<=sizeLine;omega,λp2 hp2=>?_⟩;have s0:=Same.upd_new (o:=.lst [V.int 0]) hp2;refine⟨_,rfl,a,_,rfl,.inl (SqL.of (s0 _ _ hA)),_,rfl,b,_,rfl,.inl (SqL.of (s0 _ _ hB)),_,_,rfl,rfl,_,_,rfl,rfl,?_⟩;dsimp only
  rw[en];refine⟨p2,_,_,rfl,rfl,ap,by omega,by omega,by show 1*_<=_;omega,λp hp=>?_⟩;rw[show((la+lb+1:Nat):Int).toNat=la+lb+1 from rfl,rm];have s4:=s0.then_new (o:=.lst ((List.replicate (la+lb+1) (0:Int)).map V.int)) hp;have hp0:=s0.free hp;have npa:a≠p:=aN hA hp0;have npb:b≠p:=aN hB hp0;have hp4:upd (upd H p2 (.lst [V.int 0])) p (.lst ((List.replicate (la+lb+1) (0:Int)).map V.int)) p=some (.lst ((List.replicate (la+lb+1) (0:Int)).map V.int)):=ap;generalize upd (upd H p2 (.lst [V.int 0])) p (.lst ((List.replicate (la+lb+1) (0:Int)).map V.int))=H4 at s4 hp4 ⊢
  refine⟨_,rfl,a,_,rfl,.inl (SqL.of (s4 _ _ hA)),_,rfl,by rw[hlx];omega,by rw[hlx];omega,?_⟩;rw[hlx]
  refine jJ (lo:=0) (n:=xs.length) (λj σ' H'=>∃(acc:Ex) (z3 z4:Option V),σ'=[some (.ref a),some (.ref b),some (.ref p),z3,z4]/\SameB p H4 H'/\H' p=some (.lst (acc.map V.int))/\acc.length=la+lb+1/\∀n,n<acc.length->cf acc n=sm xs ys n j)
   ⟨List.replicate (la+lb+1) 0,none,none,rfl,SameB.refl _ _,hp4,by simp,λn _=>by rw[lu];rfl⟩ ?_ ?_
  ·rintro j σ' H' hjl ⟨acc,z3,z4,rfl,sb,hpa,hal,hac⟩;have hA':=sb _ _ npa (s4 _ _ hA);have hB':=sb _ _ npb (s4 _ _ hB);refine⟨_,rfl,b,_,rfl,.inl (SqL.of hB'),_,rfl,by rw[hly];omega,by rw[hly];omega,?_⟩;rw[hly]
   refine jJ (lo:=0) (n:=ys.length) (λi σ' H'=>∃(acc:Ex) (z4:Option V),σ'=[some (.ref a),some (.ref b),some (.ref p),some (.int (0+(j:Int))),z4]/\SameB p H4 H'/\H' p=some (.lst (acc.map V.int))/\acc.length=la+lb+1/\∀n,n<acc.length->cf acc n=sm xs ys n j+(if j<=n/\n-j<i then tm xs ys n j else 0))
    ⟨acc,z4,rfl,sb,hpa,hal,yV hac⟩ ?_ ?_
   ·rintro i σ' H' hil ⟨acc,z4,rfl,sb,hpa,hal,hac⟩;have hA':=sb _ _ npa (s4 _ _ hA);have hB':=sb _ _ npb (s4 _ _ hB);have hji:j+i<acc.length:=by omega
    have eji:(0+((j:Nat):Int))+(0+((i:Nat):Int))=((j+i:Nat):Int):=by omega
    have e0:∀x:Nat,(0:Int)+((x:Nat):Int)=((x:Nat):Int):=λx=>by omega
    refine⟨_,rfl,_,rfl,_,rfl,_,_,rfl,rfl,p,_,_,_,rfl,rfl,SqL.of hpa,jP eji hji,_,rfl,_,rfl,a,_,_,_,rfl,rfl,SqL.of hA',jP (e0 j) hjl,_,rfl,_,rfl,b,_,_,_,rfl,rfl,SqL.of hB',jP (e0 i) hil,_,_,rfl,rfl,⟨bx.cf j,by'.cf i⟩,_,_,rfl,rfl,_,rfl,_,rfl,_,rfl,_,_,rfl,rfl,p,_,_,j+i,rfl,rfl,hpa,kY eji (by rw[MI];exact hji),?_⟩;exact⟨acc.set (j+i) (cf acc (j+i)+cf xs j*cf ys i),_,rfl,sb.then_upd,by rw[ap,nu],by rw[Ow];exact hal,yU hjl hil hji hac⟩
   ·rintro σ' H' ⟨acc,z4,rfl,sb,hpa,hal,hac⟩;exact⟨acc,_,_,rfl,sb,hpa,hal,yW hac⟩
  ·rintro σ' H' ⟨acc,z3,z4,rfl,sb,hpa,hal,hac⟩;refine⟨_,rfl,k p H' (λb' o e=>sb b' o (aN e hp0) (s4 b' o e)) hp0 ?_⟩;rw[hpa]
   have e:acc=af xs ys:=by
    apply dO
    ·rw[hal];unfold af;rw[if_neg (by intro z;exact z.elim hx0 hy0),MI,N2];omega
    ·intro n _;rw[aJ,yX (by omega) hac]
   rw[e]
theorem oB(c:Int)(f:Ex)(m:Nat)(gs:List (Ex×Nat)):whl c (uS (aZ f m gs))=af (whl c (uS gs)) (pw (ah f) m):=by unfold whl;rw[zw];ac_rfl
theorem Ee(s acc:Ex):af (af acc s) s=af acc (pw s 2):=by show _=af acc (af s (af s [1]));rw[d7];ac_rfl
def wu:Sp:=λvs H Q _=>∃(a:Addr) (cell:Int) (ps:List Addr) (S:List Wr) (d:Int),vs=[.ref a,.int cell]/\H a=some (.lst (ps.map V.ref))/\TuH H ps (S.map Wr.l)/\SomeW S d/\∀(p:Addr) (H':Hp) (c:Int) (gs:List (Ex×Nat)),Same H H'->H p=none->H' p=some (.lst ((whl c (uS gs)).map V.int))->c≠0->Bits 10 c->Tell gs S->dgs id (uS gs)<=8->dgs bZ (uS gs)<=6->wB (uS gs)<=220->Q (.ref p) H'
theorem wT{S:List Wr}{d:Int}(h:SomeW S d):S.length<=4:=by
 rcases h.sh with⟨_,z⟩ |⟨x,ls,_,rfl,_,z⟩
 ·omega
 ·show ls.length+1+1<=4;omega
theorem FY(F:Fun K "_law_product" "_law_product" qO f fd)(T:Txt K mg)(lI:Cal P w K mg base 1 "_law_times" ["_law_one","_law_other"] oR Jf II)(om:Cal P w K mg base 3 "_law_least" ["_law_worth_here"] o0 Jh IK):FnOk P w K mg base CX0 4 f fd ["_law_some","_law_cell"] wu:=by
 refine F.ok jk (λvs H Q E h=>?_) (λcdv A outer s H vs Q E hr h=>?_)
 ·obtain⟨a,cell,ps,S,d,rfl,_⟩:=h;rfl
 ·obtain⟨a,cell,ps,S,d,rfl,hA,hT,hS,kk⟩:=h;have big:=sizeLine_eq;have hpl:ps.length=S.length:=by rw[hT.1,MI]
  have hl4:=wT hS
  refine⟨_,(ag (ao 2 jk (bJ K (aP (aa (aP (aa ad ac)) (aa (aP (aa (bC bA ad) ac)) (aa (aP (aa ad ac)) (aa (aP (aa (bC bA ad) ac)) ac))))) (ai ci (pv 1) ad)))
   (ag (cw PassesOwn.never rfl (c9 (K:=K) rfl (pv 0)) (aT 3 jk)
     (aj (aR (aG mX (aU K (pv 3) ad) ad)
       (ag (ao 2 jk (aq lI hr (aa (pv 2) (aa (aq om hr (aa (pv 3) ac)) ac))))
         (aj (aR (PW.pt (fB (aG cQ (aU K (pv 3) ad) ad) (fA (aG cU (ai ci (ai cG (pv 1) ad) ad) ad))))
           (aj (ao 2 jk (aq lI hr (aa (pv 2) (aa (aq om hr (aa (pv 3) ac)) ac)))))
           aS)))
       aS)))
   (ag (aR (PW.pt (fB (aG cU (ai ci (ai cG (pv 1) ad) ad) ad) (fA (aG cT (ca K T.len_ (aa (pv 2) ac)) ad))))
     (aj (ao 2 jk (aq lI hr (aa (pv 2) (aa (aP (aa (ai bH ad (ai ci (ai cG (pv 1) ad) ad)) (aa ad (aa ad ac)))) ac)))))
     aS)
   (aj (aC (pv 2)))))),?_⟩
  refine av ⟨by show 1<=sizeLine;decide,λq0 hq0=>⟨_,rfl,by show 1<=sizeLine;decide,λq1 hq1=>⟨by show 1<=sizeLine;decide,λq2 hq2=>⟨_,rfl,by show 1<=sizeLine;decide,λq3 hq3=>⟨by show 4<=sizeLine;decide,λql hql=>?_⟩⟩⟩⟩⟩;have s0:=Same.upd_new (o:=.lst [V.int 1]) hq0;have e0:upd H q0 (.lst [V.int 1]) q0=some (.lst [V.int 1]):=ap;generalize upd H q0 (.lst [V.int 1])=G0 at *
  have s1:=Same.upd_new (o:=.lst [V.int (-1)]) hq1;have e1:upd G0 q1 (.lst [V.int (-1)]) q1=some (.lst [V.int (-1)]):=ap;generalize upd G0 q1 (.lst [V.int (-1)])=G1 at *
  have s2:=Same.upd_new (o:=.lst [V.int 5]) hq2;have e2:upd G1 q2 (.lst [V.int 5]) q2=some (.lst [V.int 5]):=ap;generalize upd G1 q2 (.lst [V.int 5])=G2 at *
  have s3:=Same.upd_new (o:=.lst [V.int (-12)]) hq3;have e3:upd G2 q3 (.lst [V.int (-12)]) q3=some (.lst [V.int (-12)]):=ap;generalize upd G2 q3 (.lst [V.int (-12)])=G3 at *
  have s4:=Same.upd_new (o:=.lst [V.ref q0,V.ref q1,V.ref q2,V.ref q3]) hql;have el:upd G3 ql (.lst [V.ref q0,V.ref q1,V.ref q2,V.ref q3]) ql=some (.lst [V.ref q0,V.ref q1,V.ref q2,V.ref q3]):=ap;generalize upd G3 ql (.lst [V.ref q0,V.ref q1,V.ref q2,V.ref q3])=G4 at *
  obtain⟨x,hx,ex⟩:=uC (xs:=[V.ref q0,V.ref q1,V.ref q2,V.ref q3]) (n:=4) rfl (by decide) cell
  obtain⟨q,c,rfl,hq,eq,hc,bc⟩:∃(q:Addr) (c:Int),x=.ref q/\H q=none/\G4 q=some (.lst [V.int c])/\c≠0/\Bits 10 c:=by
   simp only[MM,OW,or_false]at hx;rcases hx with rfl |rfl |rfl |rfl
   ·exact⟨_,1,rfl,hq0,s4 _ _ (s3 _ _ (s2 _ _ (s1 _ _ e0))),by decide,by show(1:Int).natAbs<2^10;decide⟩
   ·exact⟨_,-1,rfl,s0.free hq1,s4 _ _ (s3 _ _ (s2 _ _ e1)),by decide,by show(-1:Int).natAbs<2^10;decide⟩
   ·exact⟨_,5,rfl,(s0.trans s1).free hq2,s4 _ _ (s3 _ _ e2),by decide,by show(5:Int).natAbs<2^10;decide⟩
   ·exact⟨_,-12,rfl,((s0.trans s1).trans s2).free hq3,s4 _ _ e3,by decide,by show(-12:Int).natAbs<2^10;decide⟩
  have sG:=(((s0.trans s1).trans s2).trans s3).trans s4;refine⟨_,rfl,_,_,rfl,rfl,(by show(0:Int)<4;decide),ql,_,_,_,rfl,rfl,SqL.of el,ex,?_⟩;clear s0 s1 s2 s3 s4 e0 e1 e2 e3 el hx ex hq0 hq1 hq2 hq3 hql;obtain⟨tw,htw⟩:∃tw:Bool,tw=decide (cell/4%3=1):=⟨_,rfl⟩
  have acc0:whl c (uS (gsW tw (S.take 0)))=[c]:=by rw[List.take_zero];show af [c] [1]=[c];rw[d7]
  have eq':G4 q=some (.lst ((whl c (uS (gsW tw (S.take 0)))).map V.int)):=by rw[acc0];exact eq
  refine⟨_,rfl,a,rfl,⟨_,SqL.of (sG _ _ hA)⟩,iT (K:=K) (a:=a) (xs:=ps.map V.ref) (λi σ' H'=>∃(z3:Option V) (q:Addr),σ'=[some (.ref a),some (.int cell),some (.ref q),z3]/\Same H H'/\H q=none/\H' q=some (.lst ((whl c (uS (gsW tw (S.take i)))).map V.int))/\(whl c (uS (gsW tw (S.take i)))).length<=1+4*i/\whl c (uS (gsW tw (S.take i)))≠[]/\AllB (20+300*i) (whl c (uS (gsW tw (S.take i))))) ⟨none,q,rfl,sG,hq,eq',by rw[acc0];exact MJ _,by rw[acc0];simp,by rw[acc0];exactλx hx=>by rw[MO.mp hx];exact bc.mono⟩ ?_ ?_ ?_⟩
  ·rintro i σ' H2 _ ⟨z3,q,rfl,s2,_⟩;exact SqL.of (s2 _ _ hA)
  ·rintro i z σ' H2 hz ⟨z3,q,rfl,s2,hq,e2,hl2,hne2,hb2⟩;obtain⟨pt,xs,rfl,hpt,hxs,ept,hi⟩:=(hT.same s2).of_get hz;rw[MI]at hi;obtain⟨x,hx⟩:∃x,S[i]?=some x:=⟨S[i],List.getElem?_eq_getElem hi⟩;have hxt:xs=x.l:=by rw[List.getElem?_map,hx]at hxs;exact(Option.some.inj hxs).symm
   subst hxt;have hxo:=(hS.ok x (List.mem_of_getElem? hx)).1;have htk:S.take (i+1)=S.take i++[x]:=by rw[Nu,hx];rfl
   rw[htk,HZ];generalize gsW tw (S.take i)=gs at e2 hl2 hne2 hb2 ⊢
   have hle:x.lea=ah x.fac:=nv (by have:=hxo.d2;omega);obtain⟨bS,lS⟩:=iy (jK hxo);have nS:=(gI (jK hxo)).pln.ne;refine gj ⟨_,rfl,pt,_,_,_,rfl,rfl,SqT.of ept,rfl,_,_,rfl,rfl,_,rfl,aH (λhv=>?_) (λhv=>?_)⟩
   ·have hv':x.v≥0:=hv;have i4:i<=4:=by omega
    refine av ⟨_,rfl,_,rfl,pt,x.u,x.v,x.w,x.d,rfl,ept,hxo,λb H3 s3 hb3 eb=>?_⟩;have eb':H3 b=some (.lst ((ah x.fac).map V.int)):=by rw[<- hle];exact eb
    refine⟨q,b,whl c (uS gs),ah x.fac,rfl,s3 _ _ e2,eb',hne2,nS,by omega,by omega,hb2.mono (by omega),bS.mono,λq2 H4 s4 hq2 e4=>?_⟩;have l4:=sL hne2 nS;have n4:=jB hne2 nS;have b4:AllB (20+300*i+62+(1+4*i)) (af (whl c (uS gs)) (ah x.fac)):=jC hb2 bS (by omega);have t4:=s2.trans (s3.trans s4);have f4:H q2=none:=(s2.trans s3).free hq2
    have done1:¬(0<x.v/\tw=true)->∃(z3:Option V) (q:Addr),([some (.ref a),some (.int cell),some (.ref q2),some (.ref pt)]:St)=[some (.ref a),some (.int cell),some (.ref q),z3]/\Same H H4/\H q=none/\H4 q=some (.lst ((whl c (uS (stW tw gs x))).map V.int))/\(whl c (uS (stW tw gs x))).length<=1+4*(i+1)/\whl c (uS (stW tw gs x))≠[]/\AllB (20+300*(i+1)) (whl c (uS (stW tw gs x))):=λhn=>by
     have e:whl c (uS (stW tw gs x))=af (whl c (uS gs)) (ah x.fac):=by unfold stW;rw[if_neg (by omega),if_neg hn,oB,mM]
     rw[e];exact⟨_,q2,rfl,t4,f4,e4,by omega,n4,b4.mono (by omega)⟩
    show gT _ _ _ _ _ _;refine dm (u:=gT _ _ _) (λσ' H'=>σ'=[some (.ref a),some (.int cell),some (.ref q2),some (.ref pt)]/\H4=H') ⟨rfl,rfl⟩ ?_;rintro σ' H' ⟨rfl,rfl⟩;have ept4:=(s3.trans s4) _ _ ept;refine gj (df ⟨_,rfl,pt,_,_,_,rfl,rfl,SqT.of ept4,rfl,_,_,rfl,rfl,_,rfl,aH (λp1=>⟨_,rfl,_,_,rfl,rfl,⟨by show(0:Int)<4;decide,db (by decide) (by decide)⟩,_,_,rfl,rfl,(by show(0:Int)<3;decide),_,_,rfl,rfl,_,rfl,aH (λp2=>?_) (λp2=>kA (done1 λz=>p2 (of_decide_eq_true (htw ▸ z.2))))⟩) (λp1=>cs (kA (done1 λz=>p1 z.1)))⟩);have p1':x.v>0:=p1;have p2':cell/4%3=1:=p2;refine cS ⟨_,rfl,_,rfl,pt,x.u,x.v,x.w,x.d,rfl,ept4,hxo,λb5 H5 s5 hb5 eb5=>?_⟩;have eb5':H5 b5=some (.lst ((ah x.fac).map V.int)):=by rw[<- hle];exact eb5
    refine⟨q2,b5,af (whl c (uS gs)) (ah x.fac),ah x.fac,rfl,s5 _ _ e4,eb5',n4,nS,by omega,by omega,b4.mono (by omega),bS.mono,λq6 H6 s6 hq6 e6=>?_⟩;have l6:=sL n4 nS;have n6:=jB n4 nS;have b6:=jC b4 bS (MJ _)
    have e:whl c (uS (stW tw gs x))=af (af (whl c (uS gs)) (ah x.fac)) (ah x.fac):=by unfold stW;rw[if_neg (by omega),if_pos ⟨by omega,by rw[htw];exact decide_eq_true p2'⟩,oB,Ee]
    rw[e];exact⟨_,q6,rfl,t4.trans (s5.trans s6),(t4.trans s5).free hq6,e6,by omega,n6,b6.mono (by omega)⟩
   ·have hv':¬x.v≥0:=hv;have e:stW tw gs x=gs:=by unfold stW;rw[if_pos (by omega)]
    rw[e];exact kA ⟨_,q,rfl,s2,hq,e2,by omega,hne2,hb2.mono (by omega)⟩
  ·rintro σ' H2 ⟨z3,q,rfl,s2,hq,e2,hl2,hne2,hb2⟩;rw[MI,hpl,NP]at e2 hl2 hne2 hb2;obtain⟨tl,d1,d2,d3⟩:=B6 hS tw;generalize gsW tw S=gs at e2 hl2 hne2 hb2 tl d1 d2 d3
   dsimp only
   refine gY (λσ' H'=>∃(q:Addr) (gs:List (Ex×Nat)),σ'=[some (.ref a),some (.int cell),some (.ref q),z3]/\Same H H'/\H q=none/\H' q=some (.lst ((whl c (uS gs)).map V.int))/\Tell gs S/\dgs id (uS gs)<=8/\dgs bZ (uS gs)<=6/\wB (uS gs)<=220) ?_ (λrest=>df ⟨_,rfl,_,_,rfl,rfl,⟨by show(0:Int)<12;decide,db (by decide) (by decide)⟩,_,_,rfl,rfl,(by show(0:Int)<2;decide),_,_,rfl,rfl,_,rfl,aH (λ_=>⟨_,rfl,q,_,rfl,.inl (SqL.of e2),_,_,rfl,rfl,_,rfl,aH (λ_=>?_) (λ_=>?_)⟩) (λ_=>cs ?_)⟩)
   rotate_left
   ·have r0:=N6 (cell/24) (b:=9) (by decide);have r1:=N7 (cell/24) (b:=9) (by decide);have k1:1<=1+cell/24%9:=by omega
    have k9:1+cell/24%9<=9:=by omega
    refine cS ⟨_,rfl,_,rfl,_,_,rfl,rfl,⟨by show(0:Int)<24;decide,db (by decide) (by decide)⟩,_,_,rfl,rfl,(by show(0:Int)<9;decide),_,_,rfl,rfl,by show 3<=sizeLine;decide,λp2 hp2=>?_⟩;have u4:=Same.upd_new (o:=.lst [V.int (1+cell/24%9),V.int 0,V.int 1]) hp2
    have bK:AllB 5 ([1+cell/24%9,0,1]:Ex):=λx hx=>by
     have:x=1+cell/24%9\/x=0\/x=1:=by simpa using hx
     rcases this with rfl |rfl |rfl
     ·show(1+cell/24%9).natAbs<2^5;omega
     ·show Int.natAbs _<2^5;decide
     ·show Int.natAbs _<2^5;decide
    refine⟨q,p2,whl c (uS gs),[1+cell/24%9,0,1],rfl,u4 _ _ e2,ap,hne2,by simp,by omega,(by show 3<=1000;decide),hb2.mono (by omega),bK.mono,λq2 H5 s5 hq2 e5=>?_⟩;obtain⟨x1,x2,x3,x4⟩:=B5 tl k1 k9;have e:whl c (uS (aZ [0,-(1+cell/24%9),1] 1 gs))=af (whl c (uS gs)) [1+cell/24%9,0,1]:=by rw[oB,mM,yC k1]
    exact rest _ _ ⟨q2,aZ [0,-(1+cell/24%9),1] 1 gs,rfl,s2.trans (u4.trans s5),s2.free (u4.free hq2),by rw[e];exact e5,x1,by omega,by omega,by omega⟩
   ·exact rest _ _ ⟨q,gs,rfl,s2,hq,e2,tl,by omega,by omega,by omega⟩
   ·exact rest _ _ ⟨q,gs,rfl,s2,hq,e2,tl,by omega,by omega,by omega⟩
   rintro σ' H3 ⟨q3,gs3,rfl,s3,hq3,e3,t3,d1',d2',d3'⟩;exact⟨_,rfl,kk q3 H3 c gs3 s3 hq3 e3 hc bc t3 d1' d2' d3'⟩
def wz:Sp:=λvs H Q _=>∃cell:Int,vs=[.int cell]/\∀H',Same H H'->Q (.bl true) H'
theorem J5{x y z:V}{j:Int}(h0 : -1<=j)(h1:j<=2):∃v,atI [x,y,z] j=some v/\(v=x\/v=y\/v=z):=by
 have:j = -1\/j=0\/j=1\/j=2:=by omega
 rcases this with rfl |rfl |rfl |rfl
 ·exact⟨z,rfl,.inr (.inr rfl)⟩
 ·exact⟨x,rfl,.inl rfl⟩
 ·exact⟨y,rfl,.inr (.inl rfl)⟩
 ·exact⟨z,rfl,.inr (.inr rfl)⟩
theorem Gb(F:Fun K "_law_nine" "_law_nine" qR f fd)(T:Txt K mg)(R:RCI K mg C){CTooHigh:Addr}(XE:EXC K mg base CTooHigh)(lI:Cal P w K mg base 1 "_law_times" ["_law_one","_law_other"] oR Jf II)(uT:CalV P w K mg base 39 "roots" ["row"] (iu C CN CTooHigh) I9 IC)(jT:Cal P w K mg base 1 "_law_whole" ["_law_found"] ma zW zU)(C_TooHigh:XCal P w K mg base 1 CTooHigh "TooHigh" "degree" ["self","degree"] Jk IN):FnOk P w K mg base CX0 41 f fd ["_law_cell"] wz:=by
 obtain⟨lE,kS,kX,lA⟩:=uT;refine F.ok sc__law_nine (λvs H Q E h=>?_) (λcdv A outer s H vs Q E hr h=>?_)
 ·obtain⟨cell,rfl,_⟩:=h;rfl
 ·obtain⟨cell,rfl,kk⟩:=h;have big:=sizeLine_eq
  refine⟨_,(ag (ao 1 sc__law_nine yj)
   (ag (ao 2 sc__law_nine (aP (aa (ai bQ (ai ci (ai cG (pv 0) ad) ad) ad) (aa ad (aa ad (aa ad (aa ad (aa ad (aa ad (aa ad (aa ad (aa ad ac))))))))))))
   (ag (ao 3 sc__law_nine (bJ K (aP (aa (aP (aa (ai bQ ad (ai ci (ai cG (pv 0) ad) ad)) (aa ad ac))) (aa (aP (aa (ai bQ (bC bA ad) (ai ci (ai cG (pv 0) ad) ad)) (aa ad (aa ad ac)))) (aa (aP (aa (ai bH ad (ai ci (ai cG (pv 0) ad) ad)) (aa ad (aa ad ac)))) ac)))) (ai bQ (ai ci (pv 0) ad) ad)))
   (ag (aR (aG cQ (ai ci (pv 0) ad) ad)
     (ag (ao 2 sc__law_nine (aP (aa ad ac)))
       (aj (eR PassesOwn.never (aG cT (ca K T.len_ (aa (pv 2) ac)) ad)
         (aj (ao 2 sc__law_nine (aq lI hr (aa (pv 2) (aa (pv 3) ac))))))))
     aS)
   (ag (Ej rfl rfl (Ed lE (hr.mono) (λ_=>rfl) kS kX lA .nil (λ_=>(aa (gv (ly (K:=K) rfl) (by rfl) T.list_ PyProof.Rows.boot_list (aa (pv 2) ac)) ac))) (λ_ _=>rfl) XE.mgTooHigh sc__law_nine.nd (i:=4) rfl rfl (λea oe=>(aj (ao 1 sc__law_nine (EG (pv 4) rfl)))))
   (aj (aC (kL (aq jT hr (aa (pv 1) ac)) (iI (dg cU (pv 1) (ai bQ (ca K T.len_ (aa (pv 2) ac)) ad))))))))))),?_⟩
  have a0:=N6 (cell/4) (b:=100) (by decide);have a1:=N7 (cell/4) (b:=100) (by decide);have b0:=N6 (cell/4) (b:=15) (by decide);have b1:=N7 (cell/4) (b:=15) (by decide);have c0:=N6 (cell/4) (b:=9) (by decide);have c1:=N7 (cell/4) (b:=9) (by decide);have d0:=N6 cell (b:=4) (by decide);have d1:=N7 cell (b:=4) (by decide);refine av ?_;refine av ⟨_,rfl,_,_,rfl,rfl,⟨by show(0:Int)<4;decide,db (by decide) (by decide)⟩,_,_,rfl,rfl,(by show(0:Int)<100;decide),_,_,rfl,rfl,by show 10<=sizeLine;decide,λp0 hp0=>?_⟩;have s0:=Same.upd_new (o:=.lst [V.int (cell/4%100-50),V.int 0,V.int 0,V.int 0,V.int 0,V.int 1,V.int 0,V.int 0,V.int 0,V.int 3]) hp0;have e0:upd H p0 (.lst [V.int (cell/4%100-50),V.int 0,V.int 0,V.int 0,V.int 0,V.int 1,V.int 0,V.int 0,V.int 0,V.int 3]) p0=some (.lst ([cell/4%100-50,0,0,0,0,1,0,0,0,3].map V.int)):=ap;show cN _ _ _ _ _;refine dm (λσ' H'=>σ'=[some (.int cell),some .non,some (.ref p0),none,none]/\upd H p0 (.lst [V.int (cell/4%100-50),V.int 0,V.int 0,V.int 0,V.int 0,V.int 1,V.int 0,V.int 0,V.int 0,V.int 3])=H') ⟨rfl,rfl⟩ ?_;rintro σ' H1 ⟨rfl,rfl⟩;generalize upd H p0 (.lst [V.int (cell/4%100-50),V.int 0,V.int 0,V.int 0,V.int 0,V.int 1,V.int 0,V.int 0,V.int 0,V.int 3])=H1 at s0 e0 ⊢
  refine av ⟨_,rfl,_,_,rfl,rfl,⟨by show(0:Int)<4;decide,db (by decide) (by decide)⟩,_,_,rfl,rfl,(by show(0:Int)<15;decide),_,_,rfl,rfl,by show 2<=sizeLine;decide,λq0 hq0=>?_⟩;refine⟨_,rfl,_,rfl,_,_,rfl,rfl,⟨by show(0:Int)<4;decide,db (by decide) (by decide)⟩,_,_,rfl,rfl,(by show(0:Int)<9;decide),_,_,rfl,rfl,by show 3<=sizeLine;decide,λq1 hq1=>?_⟩;refine⟨_,rfl,_,_,rfl,rfl,⟨by show(0:Int)<4;decide,db (by decide) (by decide)⟩,_,_,rfl,rfl,(by show(0:Int)<9;decide),_,_,rfl,rfl,by show 3<=sizeLine;decide,λq2 hq2=>⟨by show 3<=sizeLine;decide,λql hql=>?_⟩⟩;have s1:=Same.upd_new (o:=.lst [V.int (7-cell/4%15),V.int 1]) hq0;have e1:upd H1 q0 (.lst [V.int (7-cell/4%15),V.int 1]) q0=some (.lst ([7-cell/4%15,1].map V.int)):=ap;generalize upd H1 q0 (.lst [V.int (7-cell/4%15),V.int 1])=G1 at *
  have s2:=Same.upd_new (o:=.lst [V.int (-2-cell/4%9),V.int 0,V.int 1]) hq1;have e2:upd G1 q1 (.lst [V.int (-2-cell/4%9),V.int 0,V.int 1]) q1=some (.lst ([-2-cell/4%9,0,1].map V.int)):=ap;generalize upd G1 q1 (.lst [V.int (-2-cell/4%9),V.int 0,V.int 1])=G2 at *
  have s3:=Same.upd_new (o:=.lst [V.int (1+cell/4%9),V.int 0,V.int 1]) hq2;have e3:upd G2 q2 (.lst [V.int (1+cell/4%9),V.int 0,V.int 1]) q2=some (.lst ([1+cell/4%9,0,1].map V.int)):=ap;generalize upd G2 q2 (.lst [V.int (1+cell/4%9),V.int 0,V.int 1])=G3 at *
  have s4:=Same.upd_new (o:=.lst [V.ref q0,V.ref q1,V.ref q2]) hql;have el:upd G3 ql (.lst [V.ref q0,V.ref q1,V.ref q2]) ql=some (.lst [V.ref q0,V.ref q1,V.ref q2]):=ap;generalize upd G3 ql (.lst [V.ref q0,V.ref q1,V.ref q2])=G4 at *
  obtain⟨v,ev,hv⟩:=J5 (x:=V.ref q0) (y:=V.ref q1) (z:=V.ref q2) (j:=cell%4-1) (by omega) (by omega);have sm:∀(x:Int),x.natAbs<=20->Bits 10 x:=λx h=>by show x.natAbs<2^10;omega
  have l2:∀x:Int,x.natAbs<=20->AllB 10 [x,1]:=λx h y hy=>by
   have:y=x\/y=1:=by simpa using hy
   rcases this with rfl |rfl
   ·exact sm _ h
   ·exact sm _ (by decide)
  have l3:∀x:Int,x.natAbs<=20->AllB 10 [x,0,1]:=λx h y hy=>by
   have:y=x\/y=0\/y=1:=by simpa using hy
   rcases this with rfl |rfl |rfl
   ·exact sm _ h
   ·exact sm _ (by decide)
   ·exact sm _ (by decide)
  obtain⟨q,os,rfl,eq,ho2,ho3,bo⟩:∃(q:Addr) (os:Ex),v=.ref q/\G4 q=some (.lst (os.map V.int))/\2<=os.length/\os.length<=3/\AllB 10 os:=by
   rcases hv with rfl |rfl |rfl
   ·exact⟨_,_,rfl,s4 _ _ (s3 _ _ (s2 _ _ e1)),MJ _,(by show 2<=3;decide),l2 _ (by omega)⟩
   ·exact⟨_,_,rfl,s4 _ _ (s3 _ _ e2),(by show 2<=3;decide),MJ _,l3 _ (by omega)⟩
   ·exact⟨_,_,rfl,s4 _ _ e3,(by show 2<=3;decide),MJ _,l3 _ (by omega)⟩
  have sG:=(s1.trans s2).trans (s3.trans s4);have e0G:=sG _ _ e0;have tG:=s0.trans sG;refine⟨_,rfl,_,_,rfl,rfl,(by show(0:Int)<4;decide),_,_,rfl,rfl,ql,_,_,_,rfl,rfl,SqL.of el,ev,?_⟩;clear s1 s2 s3 s4 e1 e2 e3 el hv ev hq0 hq1 hq2 hql sG e0 s0;have no:os≠[]:=λz=>by rw[z]at ho2;exact absurd ho2 (by decide)
  show cN _ _ _ _ _;refine dm (λσ' H'=>σ'=[some (.int cell),some .non,some (.ref p0),some (.ref q),none]/\G4=H') ⟨rfl,rfl⟩ ?_;rintro σ' H' ⟨rfl,rfl⟩;refine gY (λσ' H'=>∃(pk:Addr) (kp:Ex),σ'=[some (.int cell),some .non,some (.ref pk),some (.ref q),none]/\Same H H'/\H' pk=some (.lst (kp.map V.int))/\9<kp.length/\kp.length<=20) ?_ (λrest=>⟨_,rfl,_,_,rfl,rfl,(by show(0:Int)<4;decide),_,_,rfl,rfl,_,rfl,aH (λ_=>?_) (λ_=>?_)⟩)
  rotate_left
  ·refine av ⟨by show 1<=sizeLine;decide,λp1 hp1=>?_⟩;have u1:=Same.upd_new (o:=.lst [V.int 1]) hp1;have f1:upd G4 p1 (.lst [V.int 1]) p1=some (.lst (([1]:Ex).map V.int)):=ap;refine fv (H2:=upd G4 p1 (.lst [V.int 1])) rfl ?_;generalize upd G4 p1 (.lst [V.int 1])=G5 at u1 f1 ⊢
   refine⟨λm σ' H'=>∃(pk:Addr) (kp:Ex),σ'=[some (.int cell),some .non,some (.ref pk),some (.ref q),none]/\Same G5 H'/\H' pk=some (.lst (kp.map V.int))/\kp≠[]/\kp.length<=13/\AllB (100*kp.length) kp/\m=20-kp.length,⟨_,p1,[1],rfl,Same.refl _,f1,by simp,by decide,λx hx=>by rw[MO.mp hx];exact sm _ (by decide) |>.mono,rfl⟩,?_⟩;rintro m σ' H' ⟨pk,kp,rfl,sm',ek,nk,lk,bk,rfl⟩;have hkl:(kp.map V.int).length=kp.length:=MI _;refine⟨_,rfl,pk,_,rfl,.inl (SqL.of ek),_,_,rfl,rfl,_,rfl,aH (λh10=>?_) (λh10=>?_)⟩
   ·have h10':((kp.map V.int).length:Int)<10:=h10;rw[hkl]at h10';refine⟨_,λ_ _ h=>h,?_⟩;have ln:=sL nk no;refine cS ⟨_,rfl,_,rfl,pk,q,kp,os,rfl,ek,(u1.trans sm') _ _ eq,nk,no,by omega,by omega,bk.mono (by omega),bo.mono,λp2 H2 s2 hp2 e2=>?_⟩;exact⟨_,by omega,p2,af kp os,rfl,sm'.trans s2,e2,jB nk no,by omega,jC bk bo (by omega),rfl⟩
   ·have h10':¬((kp.map V.int).length:Int)<10:=h10;rw[hkl]at h10';exact rest _ _ ⟨pk,kp,rfl,tG.trans (u1.trans sm'),ek,by omega,by omega⟩
  ·exact rest _ _ ⟨p0,_,rfl,tG,e0G,by show 9<10;decide,by show 10<=20;decide⟩
  clear e0G tG eq;rintro σ' H2 ⟨pk,kp,rfl,s2,ek,h9,h20⟩;refine mJ (λσ' H'=>σ'=[some (.int cell),some (.int ((kp.length:Int)-1)),some (.ref pk),some (.ref q),none]/\Same H H'/\H' pk=some (.lst (kp.map V.int))) ?_ (λrest=>?_)
  rotate_left
  ·refine⟨_,rfl,pk,_,rfl,.inl (SqL.of ek),λph hph=>?_⟩;have s3:=Same.upd_new (o:=.lst (kp.map V.int)) hph;have e3:upd H2 ph (.lst (kp.map V.int)) ph=some (.lst (kp.map V.int)):=ap;refine DS ?_;change iu C CN CTooHigh _ (upd H2 ph (.lst (kp.map V.int))) _ _;generalize upd H2 ph (.lst (kp.map V.int))=H3 at s3 e3 ⊢
   refine⟨ph,kp,rfl,e3,.inl ⟨h9,λH' dx s' ed=>⟨XE.hit_TooHigh_TooHigh,λea oe vs ce de fe he=>?_⟩⟩⟩;have lk:([(("degree":Str),V.int ((kp.length:Int)-1))]:List (Str×V)).lookup ("degree":Str)=some (V.int ((kp.length:Int)-1)):=by simp[List.lookup]
   refine cS ⟨_,rfl,_,dx,vs,_,_,rfl,ce,de,fe,C_TooHigh.xc,C_TooHigh.ec,C_TooHigh.na,ed,lk,?_⟩;have s4:=s3.trans s';exact rest _ _ ⟨rfl,s2.trans s4,s4 _ _ ek⟩
  rintro σ' H3 ⟨rfl,s3,e3⟩;refine aV (kC ⟨_,rfl,_,rfl,_,rfl,fm ⟨_,rfl,_,rfl,pk,_,rfl,.inl (SqL.of e3),_,_,rfl,rfl,_,_,rfl,rfl,?_⟩⟩);have q:=kk H3 s3;simpa using q
theorem As{x y:Cel}(hx:0<x.h2)(hy:0<y.l2)(h:hiR x<=loR y):x.h1*y.l2<=y.l1*x.h2:=NT.mp λz=>by have:loR y<hiR x:=(fy hy hx).mpr z;exact absurd h (Oh.mpr this)
structure All45(gs:List (Ex×Nat))(S D:List Wr)(d:Int)(ys:List Cel):Prop where
 so:SomeW S d
 tl:Tell gs S
 one:∀y∈ys,∃f0 s0,OneS (fS gs) f0 s0 y.l1 y.l2 y.h1 y.h2
 ri:dj ys
 cv:∀s∈aK (fS gs),cov s ys
 up:D.Pairwise λx y=>aW x y<0
 sub:∀x∈D,x∈S
 all:∀x∈S,∃y∈D,aW y x=0
theorem Rep.spot{gs:List (Ex×Nat)}{x:Wr}{f s:Ex}(r:Rep x f s)(hf:f∈fS gs):s∈aK (fS gs):=N5.mpr ⟨f,hf,r.mem⟩
theorem Rep.inn{x:Wr}{f s:Ex}(r:Rep x f s){l1 l2 h1 h2:Int}(hl:0<l2)(hh:0<h2):(0<au s l1 l2/\au s h1 h2<=0)↔(x.up l1 l2/\¬x.up h1 h2):=by rw[<- r.up l1 l2 hl,<- r.up h1 h2 hh,NT]
theorem ky{gs:List (Ex×Nat)}{S:List Wr}{d:Int}(so:SomeW S d)(tl:Tell gs S){f0 s0:Ex}{l1 l2 h1 h2:Int}(hO:OneS (fS gs) f0 s0 l1 l2 h1 h2){x:Wr}(hx:x∈S)(hi:x.up l1 l2/\¬x.up h1 h2):Rep x f0 s0:=by obtain⟨f,hf,s,r⟩:=tl.r2 x hx;obtain⟨a,b⟩:=(r.inn hO.l2p hO.h2p).mpr hi;have e:=hO.only s (r.spot hf) a b;subst e;obtain⟨a,e,b,ef,es,_⟩:=r.ex;have hb:f0=[a,e,b]:=v7 (hO.fam.q f0 hO.mem) (by rw[<- es];exact hO.sp);rw[hb,<- ef];exact r
theorem All45.match{gs:List (Ex×Nat)}{S D:List Wr}{d:Int}{ys:List Cel}(h:All45 gs S D d ys):ys.length=D.length/\∀(i:Nat) (y:Cel) (x:Wr),ys[i]?=some y->D[i]?=some x->x.up y.l1 y.l2/\¬x.up y.h1 y.h2:=by
 have okD:∀x∈D,x.ok/\x.d=d:=λx hx=>h.so.ok x (h.sub x hx)
 refine zc (I:=λ(y:Cel) (x:Wr)=>x.up y.l1 y.l2/\¬x.up y.h1 y.h2) (B:=λx y=>hiR x<=loR y) (L:=λx y=>aW x y<0) ys D h.ri h.up (λy hy=>?_) (λy hy x hx x' hx' hi hi'=>?_) (λx hx=>?_) (λy hy y' hy' x hx x' hx' hB hL hi hi'=>?_) (λy hy y' hy' x hx hB hi hi'=>?_)
 ·obtain⟨f0,s0,hO⟩:=h.one y hy;obtain⟨x,hx,r⟩:=h.tl.r1 f0 hO.mem s0 hO.sp;obtain⟨a,b⟩:=(r.inn hO.l2p hO.h2p).mp hO.inn;obtain⟨x',hx',e⟩:=h.all x hx;have o:=h.so.ok x hx;have o':=okD x' hx';have ez:=JK o'.1 o.1 (o'.2.trans o.2.symm) e;exact⟨x',hx',(ez _ _).mpr a,λz=>b ((ez _ _).mp z)⟩
 ·obtain⟨f0,s0,hO⟩:=h.one y hy;have r:=ky h.so h.tl hO (h.sub x hx) hi;have r':=ky h.so h.tl hO (h.sub x' hx') hi';have o:=okD x hx;have o':=okD x' hx';have:=xR o.1 o'.1 (o.2.trans o'.2.symm) r r';omega
 ·obtain⟨f,hf,s,r⟩:=h.tl.r2 x (h.sub x hx);obtain⟨y,hy,hin⟩:=h.cv s (r.spot hf);obtain⟨f0,s0,hO⟩:=h.one y hy;exact⟨y,hy,(r.inn hO.l2p hO.h2p).mp hin⟩
 ·obtain⟨f0,s0,hO⟩:=h.one y hy;obtain⟨f1,s1,hO'⟩:=h.one y' hy';have o:=okD x hx;have o':=okD x' hx';have u1:=JL o.1 o'.1 (o.2.trans o'.2.symm) hL hO'.l2p hi'.1;exact hi.2 (vq o'.1 hO.h2p hO'.l2p (As hO.h2p hO'.l2p hB) u1)
 ·obtain⟨f0,s0,hO⟩:=h.one y hy;obtain⟨f1,s1,hO'⟩:=h.one y' hy';exact hi.2 (vq (okD x hx).1 hO.h2p hO'.l2p (As hO.h2p hO'.l2p hB) hi'.1)
theorem fellow{gs:List (Ex×Nat)}{S:List Wr}{d:Int}(so:SomeW S d)(tl:Tell gs S){f0 s0:Ex}{l1 l2 h1 h2:Int}(hO:OneS (fS gs) f0 s0 l1 l2 h1 h2){x:Wr}(hx:x∈S)(hi:x.up l1 l2/\¬x.up h1 h2)(hv:x.v≠0)(hl:x.con.up l1 l2):x.con.up h1 h2:=by
 apply Classical.byContradiction;intro hn;have o:=(so.ok x hx).1;have r:=ky so tl hO hx hi;have r':=ky so tl hO (so.con hx hv) ⟨hl,hn⟩;have e:=(pB (xR o (ui o) rfl r r')).2;have e':x.v*x.w - -x.v*x.w=0:=e;have:=o.w1;have e2:x.v*x.w - -x.v*x.w=2*(x.v*x.w):=by grind
 rw[e2]at e';rcases NM.mp e' with z |z
 ·omega
 ·rcases NM.mp z with z |z<;>omega
def Kk(C CN:Addr)(H:Hp)(xs:List Addr)(D:List Wr):Prop:=xs.length=D.length/\∀(i:Nat) (x:Addr) (y:Wr),xs[i]?=some x->D[i]?=some y->∃(q l h:Addr) (l1 l2 h1 h2:Int),IsN C CN H x q l h y.lea l1 l2 h1 h2 y.u y.v y.w y.d
theorem xL{C CN CT:Addr}{c d:Int}{gs:List (Ex×Nat)}{S D:List Wr}(hc:c≠0)(bc:Bits 10 c)(so:SomeW S d)(tl:Tell gs S)(d8:dgs id (uS gs)<=8)(d6:dgs bZ (uS gs)<=6)(dw:wB (uS gs)<=220)(up:D.Pairwise λx y=>aW x y<0)(sub:∀x∈D,x∈S)(all:∀x∈S,∃y∈D,aW y x=0){H:Hp}{pk:Addr}{Q:VK}{E:XK}(ek:H pk=some (.lst ((whl c (uS gs)).map V.int)))(k:∀(p:Addr) (H':Hp) (xs:List Addr),Same H H'->H p=none->H' p=some (.lst (xs.map V.ref))->Kk C CN H' xs D->Q (.ref p) H'):iu C CN CT [.ref pk] H Q E:=by
 obtain⟨hM,hfl,hln,hb⟩:=tl.ok.made hc bc d8 (by omega);refine⟨pk,_,rfl,ek,.inr (.inr ?_)⟩;by_cases hg:gs=[]
 ·subst hg
  have hD:D=[]:=by
   cases D with
   |nil=>rfl
   |cons x D =>obtain⟨f,hf,_⟩:=tl.r2 x (sub x (MP ..));exact absurd hf (by simp[fS])
  refine .inl ⟨c,uS [],hM,hln,hb,λp H' s hp e=>k p H' [] s hp e ⟨by rw[hD];rfl,λi x y h=>by simp at h⟩⟩
 ·refine .inr ⟨c,uS gs,fS gs,hM,hfl,⟨tl.ok.fam,?_,?_,?_⟩,λp H' xs ys s hp e hN hri hcv _=>k p H' xs s hp e ?_⟩
  ·rw[<- hfl,hln];obtain⟨g,gs',rfl⟩:=List.exists_cons_of_ne_nil hg;have h2:=(tl.ok.use.pri (ah g.1,g.2) (MP ..)).two;show 2<=1+(1*((ah g.1).length-1)+dgs bZ (uS gs'));have h2':2<=(ah g.1).length:=h2;omega
  ·rw[<- hfl,hln];omega
  ·rw[<- hfl];exact hb
  ·have hone:∀y∈ys,∃f0 s0,OneS (fS gs) f0 s0 y.l1 y.l2 y.h1 y.h2:=λy hy=>by
    obtain⟨i,hi,ei⟩:=List.mem_iff_getElem.mp hy;have hx:i<xs.length:=by rw[hN.1];exact hi
    obtain⟨q,f0,s0,_,_,_,_,_,hO⟩:=hN.2 i xs[i] ys[i] (List.getElem?_eq_getElem hx) (List.getElem?_eq_getElem hi);rw[ei]at hO;exact⟨f0,s0,hO⟩
   have hA:All45 gs S D d ys:=⟨so,tl,hone,hri,hcv,up,sub,all⟩;obtain⟨el,em⟩:=hA.match;refine⟨by rw[hN.1,el],λi x y h1 h2=>?_⟩;have hi:i<ys.length:=by rw[el];exact(List.getElem?_eq_some_iff.mp h2).1
   have gy:ys[i]?=some ys[i]:=List.getElem?_eq_getElem hi;have hin:=em i _ y gy h2;obtain⟨q,f0,s0,na,eq,rl,rh,en,hO⟩:=hN.2 i x _ h1 gy;have hyS:=sub y (List.mem_of_getElem? h2);have r:=ky so tl hO hyS hin;rw[r.lea]at eq;exact⟨q,_,_,_,_,_,_,na,eq,rl,rh,en.mono,hin.1,hin.2,λhv hl=>fellow so tl hO hyS hin hv hl⟩
theorem FC{C CN CTooHigh f:Addr}{fd:FuncData}(F:Fun K "law" "law" mI f fd)(T:Txt K mg)(R:RCI K mg C)(RN:NCI K mg CN)(KN:Cal P w K mg base 3 "_law_worths" ["_law_script"] (wa K) Mr LH)(gQ:Cal P w K mg base 1 "_law_cell_at" ["_law_script","_law_k"] (iw K) zX zV)(KS:Cal P w K mg base 41 "_law_nine" ["_law_cell"] wz Mz LP)(uT:CalV P w K mg base 39 "roots" ["row"] (iu C CN CTooHigh) I9 IC)(KQ:Cal P w K mg base 4 "_law_product" ["_law_some","_law_cell"] wu Mv LM)(KP:Cal P w K mg base 3 "_law_rising" ["_law_some"] wn Mt LK)(om:Cal P w K mg base 3 "_law_least" ["_law_worth_here"] o0 Jh IK)(KT:Cal P w K mg base 3 "_law_is" ["_law_found","_law_worth_here","_law_due"] (wI C CN) MA LQ):FnOk P w K mg base CX0 42 f fd ["_law_script"] (md K):=by
 obtain⟨lE,kS,kX,lA⟩:=uT;refine F.ok sc_law (λvs H Q E h=>?_) (λcdv A outer s H vs Q E hr h=>?_)
 ·obtain⟨a,ns,rfl,_⟩:=h;rfl
 ·obtain⟨a,ns,rfl,hS,hlen,k⟩:=h;have big:=sizeLine_eq;have hu:=hr.units;have hu2:(A.deeper (PyProof.Rows.envOfC "law" (aA mI) s.heap.objs.size f cdv)).units+66<cLine:=by have:=hr.un;omega
  refine⟨_,(ag (ao 1 sc_law (aq KN hr (aa (pv 0) ac)))
   (ag (ao 2 sc_law (aq gQ hr (aa (pv 0) (aa ad ac))))
   (ag (aR (aG cU (ai ci (pv 2) ad) ad)
     (aj (aC (aq KS hr (aa (ai cG (pv 2) ad) ac))))
     aS)
   (ag (aR (aG cU (ai ci (pv 2) ad) ad)
     (ag (ao 3 sc_law (kK lE (hr.mono) rfl kS kX lA .nil rT (aa (bJ K (aP (aa (aP ac) (aa (aP (aa ad ac)) (aa (aP (aa (bC bA ad) ac)) ac)))) (ai ci (ai cG (pv 2) ad) ad)) ac)))
       (aj (aC (kL (cF (ii (K:=K) rfl) (by rfl) T.isinstance_ PyProof.Rows.boot_isinstance (aa (pv 3) (aa (jv (v:=.ty "list") (by rfl) T.list_ PyProof.Rows.boot_list (by rfl)) ac))) (iI (dg (iL (K:=K) rfl hu) (pv 3) (aP ac)))))))
     aS)
   (ag (ao 4 sc_law (aq KQ hr (aa (pv 1) (aa (ai cG (pv 2) ad) ac))))
   (ag (ao 5 sc_law (aq KP hr (aa (pv 1) ac)))
   (ag (Ek (i:=6) sc_law.nd rfl (Or.inl rfl) (own:=["_law_one"]) (fr:=[]) (js:=[]) (by walk_at "comp_ok") rfl (c9 (K:=K) rfl (pv 5)) (λ_ _ _ _=>(dG (i:=0) (show List.Nodup (["_law_one"]:List Str)from by decide +kernel) rfl (Or.inl rfl))) (λ_ _ _ _=>(aq om hr (aa (pv 0) ac))) (by rfl))
   (ag (ao 7 sc_law (gv (ly (K:=K) rfl) (by rfl) T.list_ PyProof.Rows.boot_list (aa (pv 4) ac)))
   (ag (ao 3 sc_law (kK lE (hr.mono) rfl kS kX lA .nil rT (aa (pv 7) ac)))
   (ag (aR (PW.pt (fz (eQ (dU (cF (ii (K:=K) rfl) (by rfl) T.isinstance_ PyProof.Rows.boot_isinstance (aa (pv 3) (aa (jv (v:=.ty "list") (by rfl) T.list_ PyProof.Rows.boot_list (by rfl)) ac))))) (fz (aG iK (ca K T.len_ (aa (pv 3) ac)) (ca K T.len_ (aa (pv 5) ac))) (iF (aG (iJ (K:=K) rfl hu) (pv 7) (pv 4))))))
     (aj (aC gw))
     aS)
   (ag (cw PassesOwn.never rfl (g6 rfl T.range_ (aa (ca K T.len_ (aa (pv 5) ac)) ac)) (aT 8 sc_law)
     (aj (aR (eQ (dU (aq KT hr (aa (bJ K (pv 3) (pv 8)) (aa (bJ K (pv 5) (pv 8)) (aa (bJ K (pv 6) (pv 8)) ac))))))
       (aj (aC gw))
       aS)))
   (ag (dq (fC (pv 7) (aa ad ac)))
   (ag (dq (fC (pv 3) (aa yj ac)))
   (ag (ao 9 sc_law (kK lE (hr.mono) rfl kS kX lA .nil rT (aa (pv 4) ac)))
   (aj (aC (kL (cF (ii (K:=K) rfl) (by rfl) T.isinstance_ PyProof.Rows.boot_isinstance (aa (pv 9) (aa (jv (v:=.ty "list") (by rfl) T.list_ PyProof.Rows.boot_list (by rfl)) ac))) (iI (dg (EY (K:=K) rfl hu2) (eV (own:=["_law_n"]) (fr:=[]) (js:=[]) (by walk_at "comp_ok") rfl (c9 (K:=K) rfl (pv 9)) (λ_ _ _ _=>(dG (i:=0) (show List.Nodup (["_law_n"]:List Str)from by decide +kernel) rfl (Or.inl rfl))) (λ_ _ _ _=>(aL (K:=K) rfl (pv 0) rfl))) (pv 6)))))))))))))))))))),?_⟩
  refine av ⟨_,rfl,a,ns,rfl,hS,λp H1 ps S d s1 hp e1 T1 so=>?_⟩;refine av ⟨_,rfl,a,ns,7,rfl,s1.seq hS,?_⟩;generalize ns.getD 7 0=c;refine bn ⟨_,rfl,_,_,rfl,rfl,(by show(0:Int)<9;decide),_,_,rfl,rfl,_,rfl,aH (λ_=>?_) (λ_=>?_)⟩
  ·exact aV ⟨_,rfl,_,_,rfl,rfl,⟨by show(0:Int)<9;decide,db (by decide) (by decide)⟩,_,rfl,λH2 _=>k H2⟩
  refine bn ⟨_,rfl,_,_,rfl,rfl,(by show(0:Int)<9;decide),_,_,rfl,rfl,_,rfl,aH (λ_=>?_) (λ_=>?_)⟩
  ·
   refine av ⟨MQ _,λq0 hq0=>⟨by show 1<=sizeLine;decide,λq1 hq1=>⟨_,rfl,by show 1<=sizeLine;decide,λq2 hq2=>⟨by show 3<=sizeLine;decide,λql hql=>?_⟩⟩⟩⟩;have u0:=Same.upd_new (o:=.lst []) hq0;have f0:upd H1 q0 (.lst []) q0=some (.lst []):=ap;generalize upd H1 q0 (.lst [])=G0 at *
   have u1:=Same.upd_new (o:=.lst [V.int 1]) hq1;have f1:upd G0 q1 (.lst [V.int 1]) q1=some (.lst [V.int 1]):=ap;generalize upd G0 q1 (.lst [V.int 1])=G1 at *
   have u2:=Same.upd_new (o:=.lst [V.int (-6)]) hq2;have f2:upd G1 q2 (.lst [V.int (-6)]) q2=some (.lst [V.int (-6)]):=ap;generalize upd G1 q2 (.lst [V.int (-6)])=G2 at *
   have u3:=Same.upd_new (o:=.lst [V.ref q0,V.ref q1,V.ref q2]) hql;have fl:upd G2 ql (.lst [V.ref q0,V.ref q1,V.ref q2]) ql=some (.lst [V.ref q0,V.ref q1,V.ref q2]):=ap;generalize upd G2 ql (.lst [V.ref q0,V.ref q1,V.ref q2])=G3 at *
   obtain⟨x,hx,ex⟩:=uC (xs:=[V.ref q0,V.ref q1,V.ref q2]) (n:=3) rfl (by decide) (c/9)
   have one:∀(q:Addr) (z:Int),G3 q=some (.lst [V.int z])->z≠0->Bits 10 z->∀(Q:VK) (E:XK),mkL G3 Q []->iu C CN CTooHigh [.ref q] G3 Q E:=λq z e hz bz Q E kq=>by
    obtain⟨hM,_,hln,hb⟩:=GS.nil.made hz bz (by decide) (by decide);have ez:whl z (uS [])=[z]:=by show af [z] [1]=[z];rw[d7]
    rw[ez]at hM;exact⟨q,[z],rfl,e,.inr (.inr (.inl ⟨z,uS [],hM,hln,hb,kq⟩))⟩
   obtain⟨q,rfl,hq⟩:∃q:Addr,x=.ref q/\∀(Q:VK) (E:XK),mkL G3 Q []->iu C CN CTooHigh [.ref q] G3 Q E:=by
    simp only[MM,OW,or_false]at hx;rcases hx with rfl |rfl |rfl
    ·exact⟨_,rfl,λQ E kq=>⟨q0,[],rfl,u3 _ _ (u2 _ _ (u1 _ _ f0)),.inr (.inl ⟨rfl,kq⟩)⟩⟩
    ·exact⟨_,rfl,one q1 1 (u3 _ _ (u2 _ _ f1)) (by decide) (by show(1:Int).natAbs<2^10;decide)⟩
    ·exact⟨_,rfl,one q2 (-6) (u3 _ _ f2) (by decide) (by show(-6:Int).natAbs<2^10;decide)⟩
   refine⟨_,rfl,_,_,rfl,rfl,⟨by show(0:Int)<9;decide,db (by decide) (by decide)⟩,_,_,rfl,rfl,(by show(0:Int)<3;decide),ql,_,_,_,rfl,rfl,SqL.of fl,ex,?_⟩;refine hq _ _ λpf G4 s4 hpf ef=>?_
   refine aV (kC (gX ⟨_,rfl,jF (.lst ef) (k:=true) (by rfl) ⟨_,rfl,fm ?_⟩⟩));refine⟨_,rfl,MQ _,λp5 hp5=>?_⟩;refine⟨pf,p5,[],[],rfl,rfl,SqL.of ((Same.upd_new hp5) _ _ ef),SqL.of ap,?_⟩;exact k _
  refine av ⟨_,rfl,_,rfl,_,_,rfl,rfl,⟨by show(0:Int)<9;decide,db (by decide) (by decide)⟩,p,_,ps,S,d,rfl,e1,T1,so,λpk H2 cc gs s2 hpk ek hcc bcc tl d8 d6 dw=>?_⟩;refine av ⟨_,rfl,p,ps,S,d,rfl,s2 _ _ e1,T1.same s2,so.ok,by have:=wT so;omega,λpd H3 qs D s3 hpd ed T3 up sub all hDl=>?_⟩;have T3':=T3.same s3;have okD:∀x∈D,x.ok:=λx hx=>(so.ok x (sub x hx)).1
  have hql:qs.length=D.length:=by rw[T3.1,MI]
  have hqm:(qs.map V.ref).length=D.length:=by rw[MI,hql]
  have ek3:=s3 _ _ ek;have kl:=(tl.ok.made hcc bcc d8 (by omega)).1.len.1;refine⟨_,rfl,pd,rfl,⟨_,SqL.of ed⟩,fN (K:=K) (a:=pd) (xs:=qs.map V.ref) (λi ys σ' H'=>∃(z0:Option V) (rs:List Addr),σ'=[z0]/\ys=rs.map V.ref/\rs.length=i/\Same H3 H'/\RwH H' rs ((D.map Wr.lea).take i)) (by rw[hqm];omega) ⟨none,[],rfl,rfl,rfl,Same.refl _,RwH.nil⟩ ?_ ?_ ?_⟩
  ·rintro i ys σ' H' _ ⟨z0,rs,rfl,rfl,rfl,sm,_⟩;exact⟨SqL.of (sm _ _ ed),by rw[MI];exact MJ _⟩
  ·rintro i z ys σ' H' hz ⟨z0,rs,rfl,rfl,rfl,sm,hR⟩;obtain⟨pt,xs,rfl,hpt,hxs,ept,hi⟩:=(T3'.same sm).of_get hz;rw[MI]at hi;obtain⟨x,hx⟩:∃x,D[rs.length]?=some x:=⟨D[rs.length],List.getElem?_eq_getElem hi⟩;have hxt:xs=x.l:=by rw[List.getElem?_map,hx]at hxs;exact(Option.some.inj hxs).symm
   subst hxt;refine⟨_,rfl,pt,x.u,x.v,x.w,x.d,rfl,ept,okD x (List.mem_of_getElem? hx),λb H4 s4 hb eb=>?_⟩;refine⟨_,rs++[b],rfl,sF rs b,by rw[MX];rfl,sm.trans s4,?_⟩;have et:(D.map Wr.lea).take (rs.length+1)=(D.map Wr.lea).take rs.length++[x.lea]:=by rw[Nu,List.getElem?_map,hx];rfl
   rw[et];exact(hR.same s4).snoc eb
  rintro ys σ' H4 pp ⟨z0,rs,rfl,rfl,hrl,s4,hR4⟩ hpp;rw[hqm]at hrl hR4;rw[List.take_of_length_le (by rw[MI];exact MJ _)]at hR4;have s5:=Same.upd_new (o:=.lst (rs.map V.ref)) hpp;have ep5:upd H4 pp (.lst (rs.map V.ref)) pp=some (.lst (rs.map V.ref)):=ap;have hR5:=hR4.same s5;refine DT ?_;generalize upd H4 pp (.lst (rs.map V.ref))=H5 at s5 ep5 hR5 ⊢
  dsimp only
  have t5:=s4.trans s5;have ek5:=t5 _ _ ek3;have ed5:=t5 _ _ ed;have T5:=T3'.same t5;refine dm (λσ' H'=>σ'=[some (.ref a),some (.ref p),some (.int c),none,some (.ref pk),some (.ref pd),some (.ref pp),none,none,none]/\H5=H') ⟨rfl,rfl⟩ ?_;rintro σ' H' ⟨rfl,rfl⟩;refine av ⟨_,rfl,pk,_,rfl,.inl (SqL.of ek5),λph hph=>?_⟩;have s6:Same H5 (upd H5 ph (.lst ((whl cc (uS gs)).map V.int))):=Same.upd_new hph;have eh6:upd H5 ph (.lst ((whl cc (uS gs)).map V.int)) ph=some (.lst ((whl cc (uS gs)).map V.int)):=ap;have npk:pk≠ph:=aN ek5 hph;have npp:pp≠ph:=aN ep5 hph
  have nrs:∀r∈rs,r≠ph:=λr hr=>by
   obtain⟨j,hj⟩:=List.mem_iff_getElem?.mp hr;have hj':j<(D.map Wr.lea).length:=by rw[<- hR5.1];exact(List.getElem?_eq_some_iff.mp hj).1
   exact aN (hR5.2 j r _ hj (List.getElem?_eq_getElem hj')) hph
  refine fv (H2:=upd H5 ph (.lst ((whl cc (uS gs)).map V.int))) rfl ?_;generalize upd H5 ph (.lst ((whl cc (uS gs)).map V.int))=H6 at s6 eh6 ⊢
  refine av ⟨_,rfl,xL hcc bcc so tl d8 d6 dw up sub all eh6 λpf H7 xs s7 hpf ef hN=>?_⟩;have u7:=s6.trans s7;have eh7:=s7 _ _ eh6;have ek7:=u7 _ _ ek5;have ed7:=u7 _ _ ed5;have ep7:=u7 _ _ ep5;have hR7:=hR5.same u7;have T7:=T5.same u7;have nfh:ph≠pf:=aN eh6 hpf;have nfk:pk≠pf:=aN (s6 _ _ ek5) hpf;have nfp:pp≠pf:=aN (s6 _ _ ep5) hpf
  have nfr:∀r∈rs,r≠pf:=λr hr=>by
   obtain⟨j,hj⟩:=List.mem_iff_getElem?.mp hr;have hj':j<(D.map Wr.lea).length:=by rw[<- hR5.1];exact(List.getElem?_eq_some_iff.mp hj).1
   exact aN (s6 _ _ (hR5.2 j r _ hj (List.getElem?_eq_getElem hj'))) hpf
  have hxm:(xs.map V.ref).length=D.length:=by rw[MI,hN.1]
  refine bn (gf (fu (mK (gX ⟨_,rfl,jF (.lst ef) (k:=true) (by rfl) ⟨_,rfl,cs ?_⟩⟩))));refine gf ⟨_,rfl,pf,_,rfl,.inl (SqL.of ef),_,rfl,pd,_,rfl,.inl (SqL.of ed7),_,_,rfl,rfl,_,rfl,cY (λz=>absurd (show((xs.map V.ref).length:Int)=((qs.map V.ref).length:Int) by rw[hxm,hqm]) z) (λ_=>?_)⟩;refine⟨_,rfl,_,rfl,ph,pk,_,_,rfl,rfl,SqL.of eh7,SqL.of ek7,_,rfl,cY (λz=>absurd rfl z) (λ_=>?_)⟩;refine⟨_,rfl,pd,_,rfl,.inl (SqL.of ed7),_,rfl,by omega,by rw[hqm];omega,?_⟩;rw[hqm,Int.toNat_natCast];refine jJ (lo:=0) (n:=D.length) (λi σ' H'=>∃z8:Option V,σ'=[some (.ref a),some (.ref p),some (.int c),some (.ref pf),some (.ref pk),some (.ref pd),some (.ref pp),some (.ref ph),z8,none]/\Same H7 H') ⟨none,rfl,Same.refl _⟩ ?_ ?_
  ·rintro i σ' H' hi ⟨z8,rfl,sm⟩;rw[show(0:Int)+(i:Int)=i from Ny _];have gD:D[i]?=some D[i]:=List.getElem?_eq_getElem hi;have gx:xs[i]?=some (xs[i]'(by rw[hN.1];exact hi)):=List.getElem?_eq_getElem _;have gq:qs[i]?=some (qs[i]'(by rw[hql];exact hi)):=List.getElem?_eq_getElem _;have gr:rs[i]?=some (rs[i]'(by rw[hrl];exact hi)):=List.getElem?_eq_getElem _;generalize xs[i]'(by rw[hN.1];exact hi)=x at gx
   generalize qs[i]'(by rw[hql];exact hi)=q at gq
   generalize rs[i]'(by rw[hrl];exact hi)=r at gr
   have mD:D[i]∈D:=ND hi;generalize D[i]=y at gD mD
   obtain⟨b,l,h,l1,l2,h1,h2,iN⟩:=hN.2 i x y gx gD;have et:=T7.2 i q y.l gq (by rw[List.getElem?_map,gD];rfl);have er:=hR7.2 i r y.lea gr (by rw[List.getElem?_map,gD];rfl);have oy:=okD y mD;have hle:y.lea=ah y.fac:=nv (by have:=oy.d2;omega);refine gj (fu ⟨_,rfl,_,rfl,pf,_,_,_,rfl,rfl,SqL.of (sm _ _ ef),fQ (by rw[List.getElem?_map,gx];rfl),_,rfl,_,rfl,pd,_,_,_,rfl,rfl,SqL.of (sm _ _ ed7),fQ (by rw[List.getElem?_map,gq];rfl),_,rfl,_,rfl,pp,_,_,_,rfl,rfl,SqL.of (sm _ _ ep7),fQ (by rw[List.getElem?_map,gr];rfl),x,b,l,h,q,r,y.lea,l1,l2,h1,h2,y.u,y.v,y.w,y.d,rfl,iN.same sm,sm _ _ et,oy,sm _ _ er,by rw[hle];have:=(iy (jK oy)).2;omega,λH8 s8=>⟨_,rfl,cs (kA ⟨_,rfl,sm.trans s8⟩)⟩⟩)
  rintro σ' H8 ⟨z8,rfl,sm⟩;have eh8:=sm _ _ eh7;have ek8:=sm _ _ ek7;have ep8:=sm _ _ ep7;have ef8:=sm _ _ ef;have hR8:=hR7.same sm;dsimp only
  refine gd ⟨_,rfl,.inl ⟨rfl,_,SqL.of eh8⟩,ph,_,_,rfl,rfl,eh8,by rw[MI];omega,?_⟩;have ek9:upd H8 ph (.lst ((whl cc (uS gs)).map V.int++[V.int 7])) pk=some (.lst ((whl cc (uS gs)).map V.int)):=by rw[upd_ne npk];exact ek8
  have ep9:upd H8 ph (.lst ((whl cc (uS gs)).map V.int++[V.int 7])) pp=some (.lst (rs.map V.ref)):=by rw[upd_ne npp];exact ep8
  have ef9:upd H8 ph (.lst ((whl cc (uS gs)).map V.int++[V.int 7])) pf=some (.lst (xs.map V.ref)):=by rw[upd_ne (Ne.symm nfh)];exact ef8
  have hR9:RwH (upd H8 ph (.lst ((whl cc (uS gs)).map V.int++[V.int 7]))) rs (D.map Wr.lea):=RwH.upd_no hR8 nrs;refine fv (H2:=upd H8 ph (.lst ((whl cc (uS gs)).map V.int++[V.int 7]))) rfl ?_;generalize upd H8 ph (.lst ((whl cc (uS gs)).map V.int++[V.int 7]))=H9 at ek9 ep9 ef9 hR9 ⊢
  refine gd ⟨_,rfl,.inl ⟨rfl,_,SqL.of ef9⟩,pf,_,_,rfl,rfl,ef9,by rw[hxm];omega,?_⟩;have ek10:upd H9 pf (.lst (xs.map V.ref++[V.non])) pk=some (.lst ((whl cc (uS gs)).map V.int)):=by rw[upd_ne nfk];exact ek9
  have ep10:upd H9 pf (.lst (xs.map V.ref++[V.non])) pp=some (.lst (rs.map V.ref)):=by rw[upd_ne nfp];exact ep9
  have hR10:RwH (upd H9 pf (.lst (xs.map V.ref++[V.non]))) rs (D.map Wr.lea):=RwH.upd_no hR9 nfr;refine fv (H2:=upd H9 pf (.lst (xs.map V.ref++[V.non]))) rfl ?_;generalize upd H9 pf (.lst (xs.map V.ref++[V.non]))=H10 at ek10 ep10 hR10 ⊢
  refine av ⟨_,rfl,xL hcc bcc so tl d8 d6 dw up sub all ek10 λpg H11 ws s11 hpg eg hN2=>?_⟩;have ep11:=s11 _ _ ep10;have hR11:=hR10.same s11;have hwm:(ws.map V.ref).length=D.length:=by rw[MI,hN2.1]
  refine aV (kC (gX ⟨_,rfl,jF (.lst eg) (k:=true) (by rfl) ⟨_,rfl,fm ?_⟩⟩));refine⟨_,rfl,pg,rfl,⟨_,SqL.of eg⟩,fN (K:=K) (a:=pg) (xs:=ws.map V.ref) (λi ys σ' H'=>∃(z0:Option V) (us:List Addr),σ'=[z0]/\ys=us.map V.ref/\us.length=i/\H11=H'/\RwH H11 us ((D.map Wr.lea).take i)) (by rw[hwm];omega) ⟨none,[],rfl,rfl,rfl,rfl,RwH.nil⟩ ?_ ?_ ?_⟩
  ·rintro i ys σ' H' _ ⟨z0,us,rfl,rfl,rfl,rfl,_⟩;exact⟨SqL.of eg,by rw[MI];exact MJ _⟩
  ·rintro i z ys σ' H' hz ⟨z0,us,rfl,rfl,rfl,rfl,hR⟩
   have hi:us.length<D.length:=by apply Classical.byContradiction;intro hn;rw[List.getElem?_eq_none_iff.mpr (by rw[hwm];omega)]at hz;cases hz
   have gD:D[us.length]?=some D[us.length]:=List.getElem?_eq_getElem hi;have gx:ws[us.length]?=some (ws[us.length]'(by rw[hN2.1];exact hi)):=List.getElem?_eq_getElem _;generalize ws[us.length]'(by rw[hN2.1];exact hi)=x at gx
   have ez:z=V.ref x:=by rw[List.getElem?_map,gx]at hz;exact(Option.some.inj hz).symm
   subst ez;generalize D[us.length]=y at gD
   obtain⟨b,l,h,l1,l2,h1,h2,iN⟩:=hN2.2 _ x y gx gD;obtain⟨dx,hx⟩:=iN.na;refine⟨_,rfl,x,CN,dx,_,_,rfl,hx,RN.cl,RN.nP,tD _ _ _,?_⟩;refine⟨_,us++[b],rfl,sF us b,by rw[MX];rfl,rfl,?_⟩;have et:(D.map Wr.lea).take (us.length+1)=(D.map Wr.lea).take us.length++[y.lea]:=by rw[Nu,List.getElem?_map,gD];rfl
   rw[et];exact hR.snoc iN.po
  rintro ys σ' H' pn ⟨z0,us,rfl,rfl,hul,rfl,hR⟩ hpn;rw[hwm,List.take_of_length_le (by rw[MI];exact MJ _)]at hR;have sn:=Same.upd_new (o:=.lst (us.map V.ref)) hpn;refine⟨_,rfl,pn,pp,us,rs,_,_,rfl,rfl,SqL.of ap,SqL.of (sn _ _ ep11),(hR.same sn).rws,(hR11.same sn).rws,?_⟩;rw[decide_eq_true rfl];exact k _
end
def FnL(K:PySem.W.Frag)(n:Str)(st:Stmt):Prop:=∃f fd,PySem.W.nsIn K mainGlobals n=some (some (.ref f))/\Fun K n n st f fd
def MtL(K:PySem.W.Frag)(C:Addr)(n q:Str)(st:Stmt):Prop:=∃f fd,PySem.W.findIn K (.ref C) n=some (some (.ref f))/\PySem.W.isFn K (.ref f)=true/\Fun K n q st f fd
structure ClL(K:PySem.W.Frag)(n:Str)(C:Addr):Prop where
 a:PySem.W.nsIn K mainGlobals n=some (some (.ref C))
 pg:PySem.W.plainGet K C Str.empty=true
 hd:PySem.W.hasDictIn K C=true
 po:PySem.W.plainOver K C=true
 sa:PySem.W.findIn K (.ref C) "__setattr__"=some (some (.builtin "object.__setattr__"))
 mkr:PySem.W.makesIn K C=true
 kc:PySem.W.keepIn K (.ref C)=true
 ha:PySem.W.findIn K (.ref C) "__class__"=some (some (.builtin "object.__class__"))
 hn:PySem.W.specialIn K (.builtin "object.__class__") "__get__"=some (some (.builtin "getset_descriptor.__get__"))
 ht:PySem.W.takesIn K (.builtin "object.__class__")=some true
 hm:PySem.W.mroIn K C (.type "object")=some true
section
variable {P:Program}{w:World}{K:PySem.W.Frag}{mg:Str->Option Value}{h base:Heap}{n q:Str}{st:Stmt}{f C:Addr}{oc kV dc pm cd ct:Value}{od an:Option Addr}{sl:Array (Option Value)}{fd:FuncData}{k:Nat}{ps:List Str}{sp:Sp}
theorem fnL(a:PySem.W.nsIn K mainGlobals n=some (some (.ref f)))(l:K.lookup f=some ⟨oc,od,.func (PySem.W.fnOf n n (dB st) (cW st) (aA st) .none kV dc pm an cd ct),sl⟩)(c:PySem.W.codeIn K cd n=true)(k:PySem.W.keepIn K (.ref f)=true):FnL K n st:=⟨_,_,a,tj l c k⟩
theorem mtL(a:PySem.W.findIn K (.ref C) n=some (some (.ref f)))(i:PySem.W.isFn K (.ref f)=true)(l:K.lookup f=some ⟨oc,od,.func (PySem.W.fnOf n q (dB st) (cW st) (aA st) .none kV dc pm an cd ct),sl⟩)(c:PySem.W.codeIn K cd q=true)(k:PySem.W.keepIn K (.ref f)=true):MtL K C n q st:=⟨_,_,a,i,tj l c k⟩
def Bx(P:Program)(w:World)(base:Heap):Prop:=P=P/\w=w/\base=base
def BdR(n q:Str)(st:Stmt)(ps:List Str):Prop:=∀(kV doc pm:Value) (an:Option Addr) (cdv ct:Value) (us:List Value),us.length=ps.length->bindArgs (PySem.W.fnOf n q (dB st) (cW st) (aA st) .none kV doc pm an cdv ct) ⟨us,[]⟩=pure (ps.zip us)
theorem cal(_:Bx P w base)(X:K.In h)(G:h.Ns mainGlobals mg)(a:PySem.W.nsIn K mainGlobals n=some (some (.ref f)))(F:Fun K n n st f fd)(o:FnOk P w K mg base CX0 k f fd ps sp)(b:BdR n n st ps):Cal P w K mg base k n ps sp f fd:=⟨o,PySem.W.mg_of X G a,F.kp,F.binds b⟩
theorem AS(_:Bx P w base)(X:K.In h)(G:h.Ns mainGlobals mg)(a:PySem.W.nsIn K mainGlobals n=some (some (.ref f)))(F:Fun K n n st f fd)(o:FnOk P w K mg base (CXV P w) k f fd ps sp)(b:BdR n n st ps):CalV P w K mg base k n ps sp f fd:=⟨o,PySem.W.mg_of X G a,F.kp,F.binds b⟩
theorem kR(_:Bx P w base)(a:PySem.W.findIn K (.ref C) n=some (some (.ref f)))(i:PySem.W.isFn K (.ref f)=true)(F:Fun K n q st f fd)(o:FnOk P w K mg base CX0 k f fd ps sp)(b:BdR n q st ps):MCal P w K mg base k C n ps sp f fd:=⟨o,⟨a,i,F.kp⟩,F.binds b⟩
theorem us1{A:List Value->Prop}(h:∀a,A [a]):∀us:List Value,us.length=1->A us
 | [a],_=>h a
theorem us2{A:List Value->Prop}(h:∀a b,A [a,b]):∀us:List Value,us.length=2->A us
 | [a,b],_=>h a b
theorem us3{A:List Value->Prop}(h:∀a b c,A [a,b,c]):∀us:List Value,us.length=3->A us
 | [a,b,c],_=>h a b c
theorem us4{A:List Value->Prop}(h:∀a b c d,A [a,b,c,d]):∀us:List Value,us.length=4->A us
 | [a,b,c,d],_=>h a b c d
end
theorem all_mk{l:PySem.W.OpenLaw}{w:World}{K:PySem.W.Frag}{h:Heap}{mg:Str->Option Value}{fa CC1 CC2 CTooHigh f25 f4 dt4:Addr}(X:K.In h)(G:h.Ns mainGlobals mg)(hfa:mg "law"=some (.ref fa))
 {od25 an25 od4 an4 odt4:Option Addr} {sl25 sl4 slt4:Array (Option Value)} {oc25 kV25 dc25 pm25 cd25 ct25 oc4 kV4 dc4 pm4 cd4 ct4 oct4:Value} {nt4:Nat} {tk4_0:Tok} {tk_HIGHEST:Tok}
 (cc1:ClL K "Ratio" CC1)
 (n1_top:PySem.W.findIn K (.ref CC1) "top"=some none)
 (n1_bottom:PySem.W.findIn K (.ref CC1) "bottom"=some none)
 (cc2:ClL K "Number" CC2)
 (n2_poly:PySem.W.findIn K (.ref CC2) "poly"=some none)
 (n2_low:PySem.W.findIn K (.ref CC2) "low"=some none)
 (n2_high:PySem.W.findIn K (.ref CC2) "high"=some none)
 (aETooHigh:PySem.W.nsIn K mainGlobals "TooHigh"=some (some (.ref CTooHigh)))
 (e0TooHigh:PySem.W.findIn K (.ref CTooHigh) "__getattribute__"=some (some (.builtin "BaseException.__getattribute__")))
 (e1TooHigh:PySem.W.findIn K (.ref CTooHigh) "__getattr__"=some none)
 (e2TooHigh:PySem.W.mroIn K CTooHigh (.type "BaseException")=some true)
 (e3TooHigh:PySem.W.findIn K (.ref CTooHigh) "__class__"=some (some (.builtin "object.__class__")))
 (e4TooHigh:PySem.W.specialIn K (.builtin "object.__class__") "__get__"=some (some (.builtin "getset_descriptor.__get__")))
 (e5TooHigh:PySem.W.takesIn K (.builtin "object.__class__")=some true)
 (e6TooHigh:PySem.W.mroIn K CTooHigh (.type "object")=some true)
 (yKTooHigh:PySem.W.keepIn K (.ref CTooHigh)=true)
 (yNTooHigh:PySem.W.findIn K (.ref CTooHigh) "degree"=some none)
 (yCTooHigh:oz K CTooHigh=true)
 (yXTooHigh:tZ K CTooHigh f25 jW "ValueError.__new__"=true)
 (a25:PySem.W.findIn K (.ref CTooHigh) "__init__"=some (some (.ref f25)))
 (l25:K.lookup f25=some ⟨oc25,od25,.func (PySem.W.fnOf "__init__" "TooHigh.__init__" (dB jm) (cW jm) (aA jm) .none kV25 dc25 pm25 an25 cd25 ct25),sl25⟩) (c25:PySem.W.codeIn K cd25 "TooHigh.__init__"=true) (k25:PySem.W.keepIn K (.ref f25)=true)
 (xh_TooHigh_TooHigh:PySem.W.exmOne K (.ref CTooHigh) (.ref CTooHigh)=some true)
 (a4:PySem.W.findIn K (.ref CC1) "__init__"=some (some (.ref f4))) (i4:PySem.W.isFn K (.ref f4)=true)
 (l4:K.lookup f4=some ⟨oc4,od4,.func (PySem.W.fnOf "__init__" "Ratio.__init__" (dB jn) (cW jn) (aA jn) (.ref dt4) kV4 dc4 pm4 an4 cd4 ct4),sl4⟩) (c4:PySem.W.codeIn K cd4 "Ratio.__init__"=true) (k4:PySem.W.keepIn K (.ref f4)=true)
 (t4:K.lookup dt4=some ⟨oct4,odt4,.seq #[.int 1 tk4_0] nt4,slt4⟩)
 (aI_HIGHEST:PySem.W.nsIn K mainGlobals "HIGHEST"=some (some (.int 8 tk_HIGHEST)))
 (z0:PySem.W.nsIn K mainGlobals "abs"=some none)
 (z1:PySem.W.nsIn K mainGlobals "len"=some none)
 (z2:PySem.W.nsIn K mainGlobals "max"=some none)
 (z3:PySem.W.nsIn K mainGlobals "range"=some none)
 (z4:PySem.W.nsIn K mainGlobals "enumerate"=some none)
 (z5:PySem.W.nsIn K mainGlobals "reversed"=some none)
 (z6:PySem.W.nsIn K mainGlobals "list"=some none)
 (z7:PySem.W.nsIn K mainGlobals "sum"=some none)
 (z8:PySem.W.nsIn K mainGlobals "any"=some none)
 (z9:PySem.W.nsIn K mainGlobals "isinstance"=some none)
 (z10:PySem.W.nsIn K mainGlobals "int"=some none)
 (z11:PySem.W.nsIn K mainGlobals "bool"=some none)
 (l1:FnL K "shared_by_two" pY)
 (l2:FnL K "shared" pZ)
 (l3:FnL K "whole_sign" pN)
 (l5:MtL K CC1 "against" "Ratio.against" re)
 (l6:FnL K "poly" qf)
 (l7:FnL K "degree" qy)
 (l8:FnL K "coefficient" qB)
 (l9:FnL K "taken" pQ)
 (l10:FnL K "slope" pV)
 (l11:FnL K "shrunk" mH)
 (l12:FnL K "plain" qg)
 (l13:FnL K "scaled" p8)
 (l14:FnL K "lowered" qp)
 (l15:FnL K "divided" qx)
 (l16:FnL K "value_parts" pO)
 (l17:FnL K "sign_at" pX)
 (l18:FnL K "row_from" qb)
 (l19:FnL K "row_of" qa)
 (l20:FnL K "changes" qC)
 (l21:FnL K "count" qz)
 (l22:FnL K "bound" qE)
 (l23:FnL K "common" qA)
 (l24:FnL K "part" qh)
 (l26:FnL K "refuse_high" qd)
 (l27:FnL K "without_squares" pM)
 (l28:MtL K CC2 "__init__" "Number.__init__" rf)
 (l29:FnL K "fine_width" qv)
 (l30:MtL K CC1 "floor" "Ratio.floor" rd)
 (l31:FnL K "middle" qo)
 (l32:FnL K "cells" qD)
 (l33:FnL K "divides" qw)
 (l34:FnL K "added" qG)
 (l35:FnL K "multiplied" qk)
 (l36:MtL K CC1 "plus" "Ratio.plus" q8)
 (l37:MtL K CC1 "minus" "Ratio.minus" rc)
 (l38:MtL K CC1 "times" "Ratio.times" qZ)
 (l39:FnL K "times_floor" pP)
 (l40:FnL K "span_product" pU)
 (l41:FnL K "square_of" pS)
 (l42:FnL K "line_of" qq)
 (l43:FnL K "halvings" qt)
 (l44:FnL K "stretched" pR)
 (l45:FnL K "spread" pT)
 (l46:FnL K "moved" qm)
 (l47:FnL K "halved" qu)
 (l48:FnL K "along" qF)
 (l49:FnL K "narrowed" qj)
 (l50:FnL K "refuse_great" qe)
 (l51:FnL K "least" qr)
 (l52:FnL K "number_in" qi)
 (l53:FnL K "roots" qc)
 (l54:FnL K "_law_cell_at" qW)
 (l55:FnL K "_law_whole" qJ)
 (l56:FnL K "_law_divisor" qU)
 (l57:FnL K "_law_sign" qL)
 (l58:FnL K "_law_beside" qX)
 (l59:FnL K "_law_plain" qQ)
 (l60:FnL K "_law_ratio" qN)
 (l61:FnL K "_law_poly" qP)
 (l62:FnL K "_law_least" qS)
 (l63:FnL K "_law_amount" qY)
 (l64:FnL K "_law_worth" qI)
 (l65:FnL K "_law_is" qT)
 (l66:FnL K "_law_times" qK)
 (l67:FnL K "_law_compared" qV)
 (l68:FnL K "_law_worths" qH)
 (l69:FnL K "_law_rising" qM)
 (l70:FnL K "_law_product" qO)
 (l71:FnL K "_law_nine" qR)
 (l72:FnL K "law" mI)
 (hTr:l.prog.given.tree=none)
 : ∃fd:FuncData,(∀(s:Shared) (v:Value),BindsTo s fd ⟨[v],[]⟩ [("_law_script",v)])/\∀base:Heap,K.In base->base.Ns mainGlobals mg->base.NoSeer->FnOk l.prog w K mg base CX0 42 fa fd ["_law_script"] (md K):=by
 obtain⟨_,_,a1,F1⟩:=l1;obtain⟨_,_,a2,F2⟩:=l2;obtain⟨_,_,a3,F3⟩:=l3;obtain⟨_,_,a5,i5,F5⟩:=l5;obtain⟨_,_,a6,F6⟩:=l6;obtain⟨_,_,a7,F7⟩:=l7;obtain⟨_,_,a8,F8⟩:=l8;obtain⟨_,_,a9,F9⟩:=l9;obtain⟨_,_,a10,F10⟩:=l10;obtain⟨_,_,a11,F11⟩:=l11;obtain⟨_,_,a12,F12⟩:=l12;obtain⟨_,_,a13,F13⟩:=l13;obtain⟨_,_,a14,F14⟩:=l14;obtain⟨_,_,a15,F15⟩:=l15;obtain⟨_,_,a16,F16⟩:=l16;obtain⟨_,_,a17,F17⟩:=l17;obtain⟨_,_,a18,F18⟩:=l18;obtain⟨_,_,a19,F19⟩:=l19;obtain⟨_,_,a20,F20⟩:=l20;obtain⟨_,_,a21,F21⟩:=l21;obtain⟨_,_,a22,F22⟩:=l22;obtain⟨_,_,a23,F23⟩:=l23;obtain⟨_,_,a24,F24⟩:=l24;obtain⟨_,_,a26,F26⟩:=l26;obtain⟨_,_,a27,F27⟩:=l27;obtain⟨_,_,a28,i28,F28⟩:=l28;obtain⟨_,_,a29,F29⟩:=l29;obtain⟨_,_,a30,i30,F30⟩:=l30;obtain⟨_,_,a31,F31⟩:=l31;obtain⟨_,_,a32,F32⟩:=l32;obtain⟨_,_,a33,F33⟩:=l33;obtain⟨_,_,a34,F34⟩:=l34;obtain⟨_,_,a35,F35⟩:=l35;obtain⟨_,_,a36,i36,F36⟩:=l36;obtain⟨_,_,a37,i37,F37⟩:=l37;obtain⟨_,_,a38,i38,F38⟩:=l38;obtain⟨_,_,a39,F39⟩:=l39;obtain⟨_,_,a40,F40⟩:=l40;obtain⟨_,_,a41,F41⟩:=l41;obtain⟨_,_,a42,F42⟩:=l42;obtain⟨_,_,a43,F43⟩:=l43;obtain⟨_,_,a44,F44⟩:=l44;obtain⟨_,_,a45,F45⟩:=l45;obtain⟨_,_,a46,F46⟩:=l46;obtain⟨_,_,a47,F47⟩:=l47;obtain⟨_,_,a48,F48⟩:=l48;obtain⟨_,_,a49,F49⟩:=l49;obtain⟨_,_,a50,F50⟩:=l50;obtain⟨_,_,a51,F51⟩:=l51;obtain⟨_,_,a52,F52⟩:=l52;obtain⟨_,_,a53,F53⟩:=l53;obtain⟨_,_,a54,F54⟩:=l54;obtain⟨_,_,a55,F55⟩:=l55;obtain⟨_,_,a56,F56⟩:=l56;obtain⟨_,_,a57,F57⟩:=l57;obtain⟨_,_,a58,F58⟩:=l58;obtain⟨_,_,a59,F59⟩:=l59;obtain⟨_,_,a60,F60⟩:=l60;obtain⟨_,_,a61,F61⟩:=l61;obtain⟨_,_,a62,F62⟩:=l62;obtain⟨_,_,a63,F63⟩:=l63;obtain⟨_,_,a64,F64⟩:=l64;obtain⟨_,_,a65,F65⟩:=l65;obtain⟨_,_,a66,F66⟩:=l66;obtain⟨_,_,a67,F67⟩:=l67;obtain⟨_,_,a68,F68⟩:=l68;obtain⟨_,_,a69,F69⟩:=l69;obtain⟨_,_,a70,F70⟩:=l70;obtain⟨_,_,a71,F71⟩:=l71;obtain⟨_,fdL,a72,F72⟩:=l72;cases hfa.symm.trans (PySem.W.mg_of X G a72);have T:Txt K mg:=⟨PySem.W.mg_none_of X G z0,PySem.W.mg_none_of X G z1,PySem.W.mg_none_of X G z2,PySem.W.mg_none_of X G z3,PySem.W.mg_none_of X G z4,PySem.W.mg_none_of X G z5,PySem.W.mg_none_of X G z6,PySem.W.mg_none_of X G z7,PySem.W.mg_none_of X G z8,PySem.W.mg_none_of X G z9,PySem.W.mg_none_of X G z10,PySem.W.mg_none_of X G z11,⟨_,PySem.W.mg_of X G aI_HIGHEST⟩⟩;have R1:RCI K mg CC1:=⟨⟨cc1.pg,cc1.hd,cc1.po,cc1.sa⟩,n1_top,n1_bottom,PySem.W.mg_of X G cc1.a,cc1.ha,cc1.hn,cc1.ht,cc1.hm⟩;have R2:NCI K mg CC2:=⟨⟨cc2.pg,cc2.hd,cc2.po,cc2.sa⟩,n2_poly,n2_low,n2_high,PySem.W.mg_of X G cc2.a,cc2.ha,cc2.hn,cc2.ht,cc2.hm⟩;have F4:=Is (st:=jn) l4 c4 k4;have b4:=FunD.bindsD (ps:=["self","top","bottom"]) (ds:=[]) (tup:=[.int 1 tk4_0]) 3 F4 t4 rfl rfl λ_ _ _ _ _ _=>us3 λ_ _ _=>⟨_,rfl,rfl⟩
 have bD4:=FunD.bindsD (ps:=["self","top","bottom"]) (ds:=[.int 1 tk4_0]) (tup:=[.int 1 tk4_0]) 2 F4 t4 rfl rfl λ_ _ _ _ _ _=>us2 λ_ _=>⟨_,rfl,rfl⟩
 obtain⟨_,_,_,_,_,_,_,_,_,e,_,_⟩:=F72.ex;refine⟨fdL,λs v=>.of_eq (by rw[e];rfl),λbase KB GB hNS=>?_⟩;have Z:Bx l.prog w base:=⟨rfl,rfl,rfl⟩;have XE:EXC K mg base CTooHigh:=⟨PySem.W.mg_of X G aETooHigh,xh_TooHigh_TooHigh⟩;have C1:=cal Z X G a1 F1 (Fg F1 T) λ_ _ _ _ _ _=>us2 λ_ _=>rfl
 have C2:=cal Z X G a2 F2 (Fh F2 T C1) λ_ _ _ _ _ _=>us1 λ_=>rfl
 have C3:=cal Z X G a3 F3 (E5 F3 T) λ_ _ _ _ _ _=>us1 λ_=>rfl
 have K1:KCal l.prog w K mg base 2 CC1 "Ratio" ["self","top","bottom"] (dD CC1) _ _ _ [.int 1]:=⟨Gq F4 T R1 C1,⟨cc1.mkr,a4,i4,cc1.kc⟩,PySem.W.mg_of X G cc1.a,b4,bD4,.cons ⟨_,rfl⟩ .nil⟩;have C5:=kR Z a5 i5 F5 (Gp F5 T R1 C3) λ_ _ _ _ _ _=>us2 λ_ _=>rfl
 have C6:=cal Z X G a6 F6 (Fo F6 T) λ_ _ _ _ _ _=>us1 λ_=>rfl
 have C7:=cal Z X G a7 F7 (FI F7 T) λ_ _ _ _ _ _=>us1 λ_=>rfl
 have C8:=cal Z X G a8 F8 (FL F8 T) λ_ _ _ _ _ _=>us2 λ_ _=>rfl
 have C9:=cal Z X G a9 F9 (E8 F9 T C6 C8) λ_ _ _ _ _ _=>us2 λ_ _=>rfl
 have C10:=cal Z X G a10 F10 (Fd F10 T) λ_ _ _ _ _ _=>us1 λ_=>rfl
 have C11:=cal Z X G a11 F11 (Ff F11 T hNS hTr C2) λ_ _ _ _ _ _=>us1 λ_=>rfl
 have C12:=cal Z X G a12 F12 (Fp F12 T C11) λ_ _ _ _ _ _=>us1 λ_=>rfl
 have C13:=cal Z X G a13 F13 (Fi F13 T) λ_ _ _ _ _ _=>us2 λ_ _=>rfl
 have C14:=cal Z X G a14 F14 (Fy F14 T) λ_ _ _ _ _ _=>us4 λ_ _ _ _=>rfl
 have C15:=cal Z X G a15 F15 (FH F15 T C3 C7 C13 C14 C6) λ_ _ _ _ _ _=>us2 λ_ _=>rfl
 have C16:=cal Z X G a16 F16 (E6 F16 T) λ_ _ _ _ _ _=>us3 λ_ _ _=>rfl
 have C17:=cal Z X G a17 F17 (Fe F17 T R1 C16 C3) λ_ _ _ _ _ _=>us2 λ_ _=>rfl
 have C18:=cal Z X G a18 F18 (Fk F18 T C11 C15 C9) λ_ _ _ _ _ _=>us2 λ_ _=>rfl
 have C19:=cal Z X G a19 F19 (Fj F19 T C18 C10) λ_ _ _ _ _ _=>us1 λ_=>rfl
 have C20:=cal Z X G a20 F20 (FM F20 T R1 C17) λ_ _ _ _ _ _=>us2 λ_ _=>rfl
 have C21:=cal Z X G a21 F21 (FJ F21 T R1 C20) λ_ _ _ _ _ _=>us3 λ_ _ _=>rfl
 have C22:=cal Z X G a22 F22 (FO F22 T) λ_ _ _ _ _ _=>us1 λ_=>rfl
 have C23:=cal Z X G a23 F23 (FK F23 T C12 C15) λ_ _ _ _ _ _=>us2 λ_ _=>rfl
 have C24:=cal Z X G a24 F24 (Fq F24 T C15 C12) λ_ _ _ _ _ _=>us2 λ_ _=>rfl
 have F25:=tj (st:=jm) l25 c25 k25;have b25:Binds K _ ["self","degree"] []:=F25.binds (λ_ _ _ _ _ _=>us2 λ_ _=>rfl);have C25:XCal l.prog w K mg base 1 CTooHigh "TooHigh" "degree" ["self","degree"] _ _:=⟨Gj F25 T (XCls.of yCTooHigh) yNTooHigh,ET KB GB aETooHigh yXTooHigh,yKTooHigh,b25,XCls.of yCTooHigh,⟨JN e6TooHigh,e0TooHigh,e1TooHigh,e2TooHigh,e3TooHigh,e4TooHigh,e5TooHigh,e6TooHigh⟩,yNTooHigh⟩;have C26:=AS Z X G a26 F26 (Fm F26 T C25) λ_ _ _ _ _ _=>us1 λ_=>rfl
 have C27:=cal Z X G a27 F27 (E4 F27 T C24 C23 C10) λ_ _ _ _ _ _=>us1 λ_=>rfl
 have b28:Binds K _ ["self","row","low","high"] []:=F28.binds (λ_ _ _ _ _ _=>us4 λ_ _ _ _=>rfl);have K2:KCal l.prog w K mg base 1 CC2 "Number" ["self","row","low","high"] (me CC2) _ _ _ []:=⟨Gr F28 T R2,⟨cc2.mkr,a28,i28,cc2.kc⟩,PySem.W.mg_of X G cc2.a,b28,b28,.nil⟩;have C29:=cal Z X G a29 F29 (FF F29 T R1 K1 C22) λ_ _ _ _ _ _=>us1 λ_=>rfl
 have C30:=kR Z a30 i30 F30 (Go F30 T R1) λ_ _ _ _ _ _=>us1 λ_=>rfl
 have C31:=cal Z X G a31 F31 (Fx F31 T R1 K1) λ_ _ _ _ _ _=>us2 λ_ _=>rfl
 have C32:=cal Z X G a32 F32 (FN F32 T R1 C7 C19 K1 C22 C20 C31) λ_ _ _ _ _ _=>us1 λ_=>rfl
 have C33:=cal Z X G a33 F33 (FG F33 T C15) λ_ _ _ _ _ _=>us2 λ_ _=>rfl
 have C34:=cal Z X G a34 F34 (FQ F34 T C6 C8) λ_ _ _ _ _ _=>us2 λ_ _=>rfl
 have C35:=cal Z X G a35 F35 (Fv F35 T) λ_ _ _ _ _ _=>us2 λ_ _=>rfl
 have C36:=kR Z a36 i36 F36 (Gm F36 T R1 K1) λ_ _ _ _ _ _=>us2 λ_ _=>rfl
 have C37:=kR Z a37 i37 F37 (Gn F37 T R1 K1) λ_ _ _ _ _ _=>us2 λ_ _=>rfl
 have C38:=kR Z a38 i38 F38 (Gk F38 T R1 K1) λ_ _ _ _ _ _=>us2 λ_ _=>rfl
 have C39:=cal Z X G a39 F39 (E7 F39 T R1 K1 C38 C30) λ_ _ _ _ _ _=>us2 λ_ _=>rfl
 have C40:=cal Z X G a40 F40 (Fc F40 T R1 C38 C5) λ_ _ _ _ _ _=>us2 λ_ _=>rfl
 have C41:=cal Z X G a41 F41 (Fa F41 T R1 C39 C36 C40 C12) λ_ _ _ _ _ _=>us3 λ_ _ _=>rfl
 have C42:=cal Z X G a42 F42 (Fz F42 T R1 K1 C39 C5 C17) λ_ _ _ _ _ _=>us2 λ_ _=>rfl
 have C43:=cal Z X G a43 F43 (FD F43 T R1) λ_ _ _ _ _ _=>us2 λ_ _=>rfl
 have C44:=cal Z X G a44 F44 (E9 F44 T R1 C2 C34 C35 C6) λ_ _ _ _ _ _=>us3 λ_ _ _=>rfl
 have C45:=cal Z X G a45 F45 (Fb F45 T) λ_ _ _ _ _ _=>us1 λ_=>rfl
 have C46:=cal Z X G a46 F46 (Fw F46 T C7) λ_ _ _ _ _ _=>us1 λ_=>rfl
 have C47:=cal Z X G a47 F47 (FE F47 T C45 C3 C46) λ_ _ _ _ _ _=>us3 λ_ _ _=>rfl
 have C48:=cal Z X G a48 F48 (FP F48 T R1 C36 C38 K1) λ_ _ _ _ _ _=>us4 λ_ _ _ _=>rfl
 have C49:=cal Z X G a49 F49 (Fu F49 T R1 C37 C43 C47 C44 C17 C48) λ_ _ _ _ _ _=>us4 λ_ _ _ _=>rfl
 have C50:=cal Z X G a50 F50 (Fn F50 T) λ_ _ _ _ _ _=>us1 λ_=>rfl
 have C51:=cal Z X G a51 F51 (FA F51 T C12 C7 C29 C49 C42 C32 C41 C33 C21 C19) λ_ _ _ _ _ _=>us3 λ_ _ _=>rfl
 have C52:=cal Z X G a52 F52 (Ft F52 T R1 C51 C17 C49 C37 C38 K1 K2) λ_ _ _ _ _ _=>us3 λ_ _ _=>rfl
 have C53:=AS Z X G a53 F53 (Fl F53 T R1 C26 C7 C27 C50 C32 C52) λ_ _ _ _ _ _=>us1 λ_=>rfl
 have C54:=cal Z X G a54 F54 (Gg F54 T) λ_ _ _ _ _ _=>us2 λ_ _=>rfl
 have C55:=cal Z X G a55 F55 (FT F55 T) λ_ _ _ _ _ _=>us1 λ_=>rfl
 have C56:=cal Z X G a56 F56 (Ge F56 T) λ_ _ _ _ _ _=>us2 λ_ _=>rfl
 have C57:=cal Z X G a57 F57 (FV F57 T) λ_ _ _ _ _ _=>us3 λ_ _ _=>rfl
 have C58:=cal Z X G a58 F58 (Gh F58 T R1 C57) λ_ _ _ _ _ _=>us2 λ_ _=>rfl
 have C59:=cal Z X G a59 F59 (Ga F59 T C56) λ_ _ _ _ _ _=>us1 λ_=>rfl
 have C60:=cal Z X G a60 F60 (FX F60 T R1 C55 C56) λ_ _ _ _ _ _=>us1 λ_=>rfl
 have C61:=cal Z X G a61 F61 (FZ F61 T C55) λ_ _ _ _ _ _=>us1 λ_=>rfl
 have C62:=cal Z X G a62 F62 (Gc F62 T C59) λ_ _ _ _ _ _=>us1 λ_=>rfl
 have C63:=cal Z X G a63 F63 (Gi F63 T) λ_ _ _ _ _ _=>us1 λ_=>rfl
 have C64:=cal Z X G a64 F64 (FS F64 T C63 C54) λ_ _ _ _ _ _=>us2 λ_ _=>rfl
 have C65:=cal Z X G a65 F65 (Gd F65 T R1 R2 C61 C60 C58) λ_ _ _ _ _ _=>us3 λ_ _ _=>rfl
 have C66:=cal Z X G a66 F66 (FU F66 T) λ_ _ _ _ _ _=>us2 λ_ _=>rfl
 have C67:=cal Z X G a67 F67 (Gf F67 T C57) λ_ _ _ _ _ _=>us2 λ_ _=>rfl
 have C68:=cal Z X G a68 F68 (FR F68 T C64 C54 C63) λ_ _ _ _ _ _=>us1 λ_=>rfl
 have C69:=cal Z X G a69 F69 (FW F69 T C67) λ_ _ _ _ _ _=>us1 λ_=>rfl
 have C70:=cal Z X G a70 F70 (FY F70 T C66 C62) λ_ _ _ _ _ _=>us2 λ_ _=>rfl
 have C71:=cal Z X G a71 F71 (Gb F71 T R1 XE C66 C53 C55 C25) λ_ _ _ _ _ _=>us1 λ_=>rfl
 exact FC F72 T R1 R2 C68 C54 C71 C53 C70 C69 C62 C65
theorem walk{l:PySem.W.OpenLaw}{q:Program}{loose:List Str}{XP:(Str->Option Value)->Heap->Prop}{YP:World->Heap->Prop}{d:DefRec}{K:Params->PySem.W.Frag}(hi:PyProof.Rows.importsNone q=true)(hn:l.most=some 63)(hdf:d.params.defaults=[])
 (hY:∀(w:World) (h:Heap),YP w h->(K w.params).In h)
 (F:∀(w:World) (mg:Str->Option Value) (fa:Addr) (h:Heap),(K w.params).In h->h.Ns mainGlobals mg->mg d.name=some (.ref fa) ->
   ∃fd:FuncData,(∀(s:Shared) (u:Value),BindsTo s fd ⟨[u],[]⟩ [("_law_script",u)])/\∀base:Heap,(K w.params).In base->base.Ns mainGlobals mg->base.NoSeer->FnOk l.prog w (K w.params) mg base CX0 42 fa fd ["_law_script"] (md (K w.params))) :
 PySem.W.WalkO q loose XP YP l.row.toRowW d [] (λf vs=>PySem.call f vs) :=
 L2.walk_ofS (n:=63) (k:=42) (x:="_law_script") (CX:=λ_=>CX0) (sp:=λw=>md (K w.params)) hi hn (by decide) hdf ⟨rfl,by decide,by decide⟩ hY F (λ_ _ a ns hl _ hS=>⟨a,ns,rfl,hS,hl,λ_=>rfl⟩) λ_ _ _ _ _ z=>z
section
end
end R45
open PySem PySem.W PyProof.Rows
set_option maxRecDepth 100000 in
set_option maxHeartbeats 0 in
theorem PySem.Challenge.cw_rootspan_k45_all_roots_holds : PySem.Challenge.rw_rootspan_k45_all_roots.Holds := by
 w_on;o_law;k_head;(case hw=>w_witness2)
 k_fill
 refine R45.walk (l:=PySem.Challenge.rw_rootspan_k45_all_roots) (by decide +kernel) rfl rfl (λw h Y=>PySem.W.kIn_of Y) ?F
 case F =>
  intro w mg fa h KX G hmg
  refine' R45.all_mk KX G hmg ?cc1 ?n1_top ?n1_bottom ?cc2 ?n2_poly ?n2_low ?n2_high ?aETooHigh ?e0TooHigh ?e1TooHigh ?e2TooHigh ?e3TooHigh ?e4TooHigh ?e5TooHigh ?e6TooHigh ?yKTooHigh ?yNTooHigh ?yCTooHigh ?yXTooHigh ?a25 ?l25 ?c25 ?k25 ?xh_TooHigh_TooHigh ?a4 ?i4 ?l4 ?c4 ?k4 ?t4 ?aI_HIGHEST ?_ ?_ ?_ ?_ ?_ ?_ ?_ ?_ ?_ ?_ ?_ ?_ ?_ ?_ ?_ ?_ ?_ ?_ ?_ ?_ ?_ ?_ ?_ ?_ ?_ ?_ ?_ ?_ ?_ ?_ ?_ ?_ ?_ ?_ ?_ ?_ ?_ ?_ ?_ ?_ ?_ ?_ ?_ ?_ ?_ ?_ ?_ ?_ ?_ ?_ ?_ ?_ ?_ ?_ ?_ ?_ ?_ ?_ ?_ ?_ ?_ ?_ ?_ ?_ ?_ ?_ ?_ ?_ ?_ ?_ ?_ ?_ ?_ ?_ ?_ ?_ ?_ ?_ ?_ ?_ ?_ ?_ rfl
  (case cc1=>apply R45.ClL.mk<;>k_is)
  (case n1_top=>k_is)
  (case n1_bottom=>k_is)
  (case cc2=>apply R45.ClL.mk<;>k_is)
  (case n2_poly=>k_is)
  (case n2_low=>k_is)
  (case n2_high=>k_is)
  (case aETooHigh=>k_is)
  (case e0TooHigh=>k_is)
  (case e1TooHigh=>k_is)
  (case e2TooHigh=>k_is)
  (case e3TooHigh=>k_is)
  (case e4TooHigh=>k_is)
  (case e5TooHigh=>k_is)
  (case e6TooHigh=>k_is)
  (case yKTooHigh=>k_is)
  (case yNTooHigh=>k_is)
  (case yCTooHigh=>first |rfl |with_unfolding_all rfl)
  (case a25=>k_is)
  (case l25=>k_is)
  (case c25=>k_is)
  (case k25=>k_is)
  (case xh_TooHigh_TooHigh=>kts_exm)
  (case a4=>k_is)
  (case i4=>k_is)
  (case l4=>k_is)
  (case c4=>k_is)
  (case k4=>k_is)
  (case t4=>k_is)
  (case aI_HIGHEST=>k_is)
  (case yXTooHigh=>first |rfl |with_unfolding_all rfl)
  all_goals first | (apply R45.fnL<;>k_is) | (apply R45.mtL<;>k_is) |k_is
