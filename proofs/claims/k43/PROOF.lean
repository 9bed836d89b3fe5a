import PyProof.Rows.All
import Wide.All
import OpenK.AllK
import Wide.FinOn
import Lean
import PyProof.EqAt
import PyProof.EqKinds
import PyProof.TupleCall
import PySem.Challenge.RW_rootspan_k43_roots_in_a_span
set_option Elab.async false
set_option linter.all false
set_option maxRecDepth 100000
local macro_rules | `(tactic|omega)=>`(tactic|first |lia |omega (splitDisjunctions:=true))
noncomputable section
namespace Al
def MZ:=@List.length_map
def M0:=@Nat.le_refl
def M5:=@List.length_pos_iff
def M6:=@Int.mul_pos
def M7:=@Int.le_of_lt
def M8:=@List.mem_cons_of_mem
def M9:=@Nat.zero_le
def Na:=@List.mem_cons_self
def Nb:=@Nat.le_trans
def Nc:=@List.mem_map
def Nd:=@List.mem_cons
def Nf:=@List.mem_singleton
def Ng:=@Nat.ne_of_lt
def Nh:=@List.length_append
def Ni:=@Int.natAbs_mul
def Nj:=@Int.mul_zero
def Nk:=@Int.mul_ne_zero
def Nl:=@Nat.lt_of_lt_of_le
def Nm:=@Int.mul_comm
def Nn:=@Int.pow_succ
def No:=@List.map_append
def Np:=@List.size_toArray
def Nq:=@List.length_cons
def Nr:=@Int.natAbs_natCast
def Nt:=@Rat.le_of_lt
def Nu:=@List.mem_append
def Nv:=@Int.one_mul
def Nw:=@Int.mul_le_mul_of_nonneg_right
def Nx:=@List.map_cons
def Ny:=@Int.ne_of_gt
def Nz:=@Int.zero_mul
def NB:=@Rat.mul_nonneg
def NC:=@List.mem_append_right
def ND:=@Int.add_zero
def NE:=@Int.mul_nonneg
def NF:=@Int.zero_add
def NG:=@Int.mul_assoc
def NH:=@List.map_map
def NI:=@Nat.lt_irrefl
def NJ:=@Int.mul_one
def NK:=@Nat.mul_le_mul_right
def NL:=@Rat.div_mul_cancel
def NM:=@Int.mul_lt_mul_of_pos_right
def NO:=@List.take_add_one
def NP:=@Int.pow_zero
def NQ:=@List.mem_append_left
def NR:=@Int.mul_eq_zero
def NT:=@Int.lt_of_mul_lt_mul_right
def NU:=@Bool.false_ne_true
def NV:=@Nat.lt_succ_self
def NW:=@List.length_take
def NX:=@Nat.le_of_not_lt
def NY:=@Int.le_refl
def NZ:=@List.getElem_mem
def N0:=@List.take_length
def N2:=@List.length_range
def N3:=@Nat.gcd_dvd_left
def N4:=@Nat.sub_zero
def N5:=@Rat.mul_le_mul_of_nonneg_right
def N6:=@List.sum_cons
def N7:=@Rat.intCast_lt_intCast
def N8:=@Int.emod_nonneg
def N9:=@Int.emod_lt_of_pos
def Oa:=@Int.natAbs_pos
def Ob:=@Nat.gcd_dvd_right
def Oc:=@Int.ofNat_dvd_left
def Od:=@Int.pow_pos
def Oe:=@Rat.le_total
def Of:=@Nat.le_of_eq
def Og:=@List.length_drop
def Oh:=@List.replicate_succ
def Oi:=@List.lookup_cons
def Oj:=@Nat.pow_pos
def Ol:=@Nat.sub_self
def Om:=@List.length_eq_zero_iff
def On:=@List.eq_nil_of_length_eq_zero
def Oo:=@Nat.mul_le_mul_left
def Op:=@Rat.intCast_mul
def Oq:=@Rat.mul_pos
def Os:=@List.drop_zero
def Ot:=@List.nodup_cons
def Ou:=@List.length_set
def Ov:=@Nat.mul_comm
def Ow:=@List.map_congr_left
def Ox:=@Int.lt_or_le
def Oy:=@List.mem_flatMap
def Oz:=@Rat.mul_le_mul_of_nonneg_left
def OA:=@Nat.gcd_one_right
def OB:=@Int.ofNat_lt
def OC:=@Nat.le_of_lt
def OD:=@List.append_nil
def OE:=@Bool.and_eq_true
def OF:=@Nat.pow_succ
def OG:=@List.getElem_of_mem
def OH:=@Nat.dvd_trans
def OI:=@Int.natAbs_sub_le
def OJ:=@Nat.lt_or_ge
def OK:=@List.mem_map_of_mem
def OL:=@List.mem_filter
def OM:=@Option.isSome_iff_exists
def ON:=@List.flatten_cons
def OO:=@Nat.lt_of_le_of_lt
def OP:=@Nat.le_mul_of_pos_left
def OQ:=@List.foldl_append
def OR:=@Nat.gcd_zero_left
def OS:=@Int.natCast_mul
def OT:=@List.length_eq_one_iff
def OU:=@Int.eq_of_mul_eq_mul_right
def OV:=@List.length_nil
def OW:=@Int.mul_le_mul_of_nonneg_left
def OX:=@Nat.add_le_add
def OY:=@Rat.intCast_inj
def OZ:=@List.mem_of_mem_take
def O0:=@Nat.not_lt_zero
def O1:=@List.filterMap_cons
def O2:=@List.length_replicate
def O3:=@Bool.false_eq_true
def O4:=@Int.natAbs_dvd_natAbs
def O5:=@Int.mul_nonneg_of_nonpos_of_nonpos
def O6:=@List.drop_eq_getElem_cons
def O7:=@Int.eq_ofNat_of_zero_le
def O8:=@Int.mul_ediv_cancel_left
def O9:=@Int.natCast_nonneg
def Pa:=@Int.lt_or_gt_of_ne
def Pb:=@List.append_of_mem
def Pc:=@List.mem_of_mem_drop
def Pd:=@Nat.pow_lt_pow_iff_right
def Pe:=@Nat.eq_of_mul_eq_mul_left
def Pf:=@Int.mul_neg_of_neg_of_pos
def Pg:=@Int.lt_of_mul_lt_mul_left
def Ph:=@Int.mul_lt_mul_of_pos_left
end Al
open Al
namespace PySem.W.Fast
def tw140777340619078619:=()
def tw17338598980070802809:=()
def tw14390779331479110756:=()
def tw15158895708516502662:=()
def tw8981169791040011672:=()
def tw7745430414503391713:=()
def tw14266263954844445236:=()
def tw11938578580218973791:=()
def tw3502758873197290875:=()
def tw8799134134378453074:=()
def tw16978516310289360878:=()
def tw3821524379376943736:=()
def tw10033130891552229614:=()
def tw2539625969579843387:=()
def tw3966642992689999046:=()
def tw9158976183081176972:=()
def tw2797836558239139977:=()
def tw2562165612461113245:=()
def tw7123898475180526638:=()
def tw5710255586656540665:=()
def tw5769815199314359819:=()
def tw6988145699411324332:=()
def tw1707169336052839290:=()
def tw3067705162105318619:=()
def tw15927520050792836493:=()
def tw13232621606904201201:=()
def tw14586950176250423273:=()
def tw3817227100163469379:=()
def tw4601394515670927994:=()
def tw14573496956723890198:=()
def tw18005091466043872296:=()
def tw2027450082565968134:=()
def tw3351760909361694260:=()
def tw2930954833720450730:=()
def tw13879746049702939758:=()
def tw17905307696444049545:=()
def tw6012628271235453717:=()
def tw5048195580169677680:=()
def tw1918449956349972863:=()
def tw12081951600398757643:=()
def tw1633467507335490118:=()
def tw13679923271294575635:=()
def tw9496572800646984209:=()
def tw15405841256241926745:=()
def tw14110935105389728321:=()
def tw11490285101206342557:=()
def tw11261450272690369005:=()
def tw18417072725531587736:=()
def tw2689241509481187327:=()
def tw13753003743882144485:=()
def tw14097813069221585596:=()
def tw15948098515106073946:=()
def tw2001154022608558913:=()
def tw16066055473354451660:=()
def tw16732198833255176729:=()
def tw10506694294974477544:=()
def tw17424057075582647488:=()
def tw9967999523354560253:=()
def tw12428953529319304990:=()
def tw11677777807132853298:=()
def tw1574520854739147627:=()
def tw1159737058654728347:=()
def tw3597196221082725712:=()
def tw12256667235562236728:=()
def tw13254506166806581218:=()
def tw5719526044808842795:=()
def tw11262136028646226458:=()
def tw4412584956188981493:=()
def tw16463346337838650514:=()
def tw13609214315854244676:=()
def tw838217672746747977:=()
def tw6187331419914186054:=()
def tw11846210838948658367:=()
def tw18026463489353594873:=()
def tw3539357111994891557:=()
def tw2650698231273074247:=()
def tw13259858651395322390:=()
def tw932430806317441922:=()
def tw18342862273371088915:=()
def tw2648755540451018945:=()
def tw16649514010691539591:=()
def tw9535594657697580870:=()
def tw13151923022773665848:=()
def tw66689171378516096:=()
def tw2155443065403672089:=()
def tw1081399115737833515:=()
def tw2817583706012956704:=()
def tw9731947277786341303:=()
def tw11806441759424651112:=()
def tw13290577642140606308:=()
def tw2875186179191325193:=()
def tw13348735810963712581:=()
def tw4039434645568643589:=()
def tw3292137863660762760:=()
def tw8438550684372272741:=()
def tw14051783698540620679:=()
def tw9741470911236846333:=()
def tw6596066185841738289:=()
def tw3505976262873210415:=()
def tw6443648496370595047:=()
def tw17366653527109681644:=()
def tw15234870448918700144:=()
def tw8561508172150783994:=()
def tw9596308490251162141:=()
def tw6337735741812021988:=()
def tw9017126664071809872:=()
def tw3485767323736227949:=()
def tw17862343935092128724:=()
def tw11971087578730942953:=()
def tw3825738139108945624:=()
def tw4605536200570322773:=()
def tw17269897975549709484:=()
def tw15175128247000356275:=()
def tw13044289211831389140:=()
def tw14725154781955486677:=()
def tw17248474682279988282:=()
def tw6138751261324254544:=()
def tw11510788468395727513:=()
def tw16611651294050890346:=()
def tw3194808671796859205:=()
def tw14190953339487246533:=()
def tw13605326626603927134:=()
def tw18282351947444189486:=()
def tw2491337537727634396:=()
def tw3213154166530583515:=()
def tw5858887183595686115:=()
def tw13839548197074643538:=()
def tw1295227315902490563:=()
def tw5796265461350318590:=()
def tw3435312923883309120:=()
def tw1610699426591688019:=()
def tw6585345275341993455:=()
def tw6857565983691084642:=()
def tw2080992951212479749:=()
def tw18364189545029581126:=()
def tw3962599216667638836:=()
def tw13089193238126279769:=()
def tw12025545849519657717:=()
def tw9346905222145959829:=()
def tw10581663790190701983:=()
def tw3643479172917816746:=()
def tw13917584939356411920:=()
def tw759811897124173373:=()
def tw7877820995403826619:=()
def tw7066538154224726227:=()
def tw8357051852936318135:=()
def tw2118029419086454579:=()
def tw8230156962095565487:=()
def tw10741015920898499954:=()
def tw1243099177107862198:=()
def tw7710628307067186252:=()
def tw7513202186544201576:=()
def tw3361227865025677264:=()
def tw9075143445139004172:=()
def tw16727813131086622956:=()
def tw8375079418928753414:=()
def tw2986602900390055465:=()
def tw15668573254683596171:=()
def tw4287301574101618480:=()
def tw16298320691927876396:=()
def tw7426844232472807493:=()
def tw3892731259559245171:=()
def tw8335191479672412401:=()
def tw840902573601909917:=()
def tw13841704785676348368:=()
def tw12517254775710509761:=()
def tw16392886849502919739:=()
def tw18382307169852862875:=()
def tw1943110769163915524:=()
def tw4539255021870912430:=()
def tw17438383709035198182:=()
def tw3058760646442509439:=()
def tw15572118404256406513:=()
def tw3535760236697170500:=()
def tw2007875167730471761:=()
def tw444117235392145573:=()
def tw638544902147351670:=()
def tw4681705228516382567:=()
def tw2365212389318036265:=()
def tw11026418106765454553:=()
def tw3895140323895877112:=()
def tw10671027475680265823:=()
def tw4369631808509186638:=()
def tw17787517231204982739:=()
def tw7201636255354609118:=()
def tw5068712587476946064:=()
def tw10910462568665589313:=()
def tw10765562794046435988:=()
def tw10159017109477965581:=()
def tw4592029637586749737:=()
def tw5062667903686906408:=()
def tw6655049276476618874:=()
def tw665880352395912324:=()
def tw3297805547871800743:=()
def tw4878843974494536000:=()
def tw9458680747099191569:=()
def tw6985688932383856041:=()
def tw15806059185334222650:=()
def tw880149619405930763:=()
def tw2025413111760801074:=()
def tw13178896327456771115:=()
def tw15596027700505810490:=()
def tw5534194358549733988:=()
def tw17990289711621130791:=()
def tw6122894190237023090:=()
def tw4356721393659524002:=()
def tw18161172153808626778:=()
def tw5357766628995780604:=()
def tw8782920855266126412:=()
def tw5350167798082292693:=()
end PySem.W.Fast
namespace L2
open PySem PySem.Spec PyProof.Rows
abbrev Key:=Sum Int Str
noncomputable def yg:Key->Value->Bool
 |.inl k,v=>Value.isInt k v
 |.inr x,v=>Value.isStrOf x v
noncomputable def GU(w:World):Key->Int
 |.inl k=>hashInt k
 |.inr x=>hashStr w x
theorem eT:∀{k:Key} {v:Value},yg k v=true->(∃i t,k=Sum.inl i/\v=Value.int i t)\/(∃x t,k=Sum.inr x/\v=Value.str x t)
 |.inl i,v,h=>by obtain⟨t,e⟩:=Value.isInt_shape (k:=i) (v:=v) h;exact .inl ⟨i,t,rfl,e⟩
 |.inr x,v,h=>by obtain⟨t,e⟩:=Value.isStrOf_shape (x:=x) (v:=v) h;exact .inr ⟨x,t,rfl,e⟩
theorem GT(a b:Int):decide ((Sum.inl a:Key)=Sum.inl b)=(a == b):=by
 by_cases e:a=b
 ·subst e;simp
 ·have h:¬(Sum.inl a:Key)=Sum.inl b:=λq=>e (Sum.inl.inj q)
  rw[decide_eq_false h];exact(beq_eq_false_iff_ne.mpr e).symm
theorem GQ(a b:Str):decide ((Sum.inr a:Key)=Sum.inr b)=decide (a=b):=by
 by_cases e:a=b
 ·subst e;simp
 ·have h:¬(Sum.inr a:Key)=Sum.inr b:=λq=>e (Sum.inr.inj q)
  rw[decide_eq_false h,decide_eq_false e]
theorem GS(a:Int)(b:Str):decide ((Sum.inl a:Key)=Sum.inr b)=false:=decide_eq_false (λq=>nomatch q)
theorem GR(a:Str)(b:Int):decide ((Sum.inr a:Key)=Sum.inl b)=false:=decide_eq_false (λq=>nomatch q)
noncomputable def rH(prog:Program)(w:World):PySem.KeyKind prog w Key where
 is:=yg
 hash:=GU w
 inj:=λv a b ha hb=>by
  rcases eT ha with⟨i,t,rfl,rfl⟩ |⟨x,t,rfl,rfl⟩
  ·rcases eT hb with⟨j,u,rfl,e⟩ |⟨y,u,rfl,e⟩
   ·injection e with e1 _;rw[e1]
   ·exact nomatch e
  ·rcases eT hb with⟨j,u,rfl,e⟩ |⟨y,u,rfl,e⟩
   ·exact nomatch e
   ·injection e with e1 _;rw[e1]
 byValue:=λk v h=>by rcases eT h with⟨i,t,rfl,rfl⟩ |⟨x,t,rfl,rfl⟩<;>rfl
 pyHash:=λhv h=>by
  rcases eT hv with⟨i,t,rfl,rfl⟩ |⟨x,t,rfl,rfl⟩
  ·exact wpAny_pyHash_int h
  ·exact wpAny_pyHash_str h
 eqBool:=λhu hv h=>by
  rcases eT hu with⟨i,t,rfl,rfl⟩ |⟨x,t,rfl,rfl⟩
  ·rcases eT hv with⟨j,u,rfl,rfl⟩ |⟨y,u,rfl,rfl⟩
   ·rw[GT]at h;exact wpAny_eqBool_int h
   ·rw[GS]at h;exact SeqAt.EqAt.int_str i t y u _ _ _ _ h
  ·rcases eT hv with⟨j,u,rfl,rfl⟩ |⟨y,u,rfl,rfl⟩
   ·rw[GR]at h;exact SeqAt.EqAt.str_int x t j u _ _ _ _ h
   ·rw[GQ]at h;exact wpAny_eqBool_str h
 «strs»:=λk x t v h=>by
  rcases eT h with⟨i,u,rfl,e⟩ |⟨y,u,rfl,e⟩
  ·exact nomatch e
  ·injection e with e1 _
   subst e1;cases v<;>rfl
inductive V where
 |non |bl (b:Bool) |int (i:Int) |str (x:Str) |byt (b:Array UInt8) |flt (b:UInt64) |ref (a:Addr) |ty (n:String)
 deriving DecidableEq
noncomputable def RelV:V->Value->Prop
 |.non,u=>u=Value.none
 |.bl b,u=>u=Value.bool b
 |.int i,u=>∃t,u=Value.int i t
 |.str x,u=>∃t,u=Value.str x t
 |.byt b,u=>∃t,u=Value.bytes b t
 |.flt b,u=>∃t,u=Value.float b t
 |.ref a,u=>u=Value.ref a
 |.ty n,u=>u=Value.type n
abbrev Vals:List V->List Value->Prop:=Paired RelV
theorem Vals.length{xs:List V}{us:List Value}(r:Vals xs us):xs.length=us.length:=Paired.length r
theorem Vals.get:∀{xs:List V} {us:List Value} {i:Nat} {x:V},Vals xs us->xs[i]?=some x->∃u,us[i]?=some u/\RelV x u
 |_,_,_,_,.nil,e=>by simp at e
 |_,_,0,_,.cons r _,e=>by simp at e;subst e;exact⟨_,rfl,r⟩
 |_,_,i+1,x,.cons _ t,e=>by obtain⟨u,h1,h2⟩:=Vals.get (i:=i) (x:=x) t (by simpa using e);exact⟨u,by simpa using h1,h2⟩
theorem Vals.set{x:V}{u:Value}(r:RelV x u):∀{xs:List V} {us:List Value} (i:Nat),Vals xs us->Vals (xs.set i x) (us.set i u)
 |_,_,_,.nil=>.nil
 |_,_,0,.cons _ t=>.cons r t
 |_,_,i+1,.cons q t=>.cons q (Vals.set r i t)
theorem Vals.append:∀{xs ys:List V} {us ws:List Value},Vals xs us->Vals ys ws->Vals (xs++ys) (us++ws)
 |_,_,_,_,.nil,s=>s
 |_,_,_,_,.cons r t,s=>.cons r (Vals.append t s)
theorem Vals.take:∀{xs:List V} {us:List Value} (n:Nat),Vals xs us->Vals (xs.take n) (us.take n)
 |_,_,0,_=>.nil
 |_,_,_+1,.nil=>.nil
 |_,_,n+1,.cons r t=>.cons r (Vals.take n t)
theorem Vals.drop:∀{xs:List V} {us:List Value} (n:Nat),Vals xs us->Vals (xs.drop n) (us.drop n)
 |_,_,0,r=>r
 |_,_,_+1,.nil=>.nil
 |_,_,n+1,.cons _ t=>Vals.drop n t
theorem Vals.none_of:∀{xs:List V} {us:List Value} {i:Nat},Vals xs us->xs[i]?=none->us[i]?=none:=λ{xs us i} r e=>by have h1:=r.length;have h2:xs.length<=i:=List.getElem?_eq_none_iff.mp e;exact List.getElem?_eq_none_iff.mpr (by omega)
noncomputable def RelO:Option V->Option Value->Prop
 |some v,some u=>RelV v u
 |none,none=>True
 |_,_=>False
noncomputable def KV{κ:Type}:List (κ×V)->List (κ×Value)->Prop:=Paired λ(p:κ×V) (q:κ×Value)=>p.1=q.1/\RelV p.2 q.2
noncomputable def kV:Key->V
 |.inl i=>.int i
 |.inr x=>.str x
inductive HO where
 |lst (xs:List V)
 |tup (xs:List V)
 |dK (kvs:List (Key×V)) |dT (kvs:List (List Key×V))
 |set (S:Int->Bool) (n:Nat)
 |ins (C dx:Addr) (fs:List (Str×V))
 |own (x:Addr)
 |xd (fs:List (Str×V))
 |met (f x:Addr)
 |rng (lo hi:Int)
 |frz (o:Obj) (u:HO)
 |tbl (ps:Array Value)
 |ext (φ:Heap->Prop)
abbrev Hp:=Addr->Option HO
noncomputable def upd(H:Hp)(a:Addr)(o:HO):Hp:=λb=>if b=a then some o else H b
theorem ao{H:Hp}{a:Addr}{o:HO}:upd H a o a=some o:=by unfold upd;rw[if_pos rfl]
theorem upd_ne{H:Hp}{a b:Addr}{o:HO}(h:b≠a):upd H a o b=H b:=by unfold upd;rw[if_neg h]
theorem mU{H:Hp}{a:Addr}{o u:HO}:upd (upd H a o) a u=upd H a u:=by funext b;unfold upd;split<;>rfl
theorem aN{H:Hp}{a b:Addr}{o:HO}(h:H a=some o)(h':H b=none):a≠b:=by intro e;subst e;rw[h]at h';cases h'
section
variable (P:Program)(w:World)
noncomputable def ObjOk(H:Hp)(h:Heap)(a:Addr):HO->Prop
 |.lst xs=>xs.length<=sizeLine/\∃(its:List Value) (n:Nat),Vals xs its/\h.get? a=some { cls:=.type "list",data:=.seq its.toArray n }
 |.tup xs=>xs.length<=sizeLine/\∃its:List Value,Vals xs its/\IsTup h a its.toArray
 |.dK kvs=>kvs.length<=sizeLine/\(a == sysModules)=false/\∃vs,KV kvs vs/\h.DictOf (rH P w) a vs
 |.dT kvs=>kvs.length<=sizeLine/\(a == sysModules)=false/\∃xs:List (List Key×Addr×Value),
  Paired (λ(p:List Key×V) (q:List Key×Addr×Value)=>p.1=q.1/\H q.2.1=some (.tup (p.1.map kV))/\RelV p.2 q.2.2) kvs xs /\
  ∃o es ep,h.get? a=some o/\o.ExactDict/\o.data=.dict es ep/\es.toList=xs.map (entryOfKey (tupleKind (rH P w)))/\(xs.map (·.1)).Nodup
 |.set S n=>h.SetOf (intKind P w) a S n
 |.ins C dx fs=>H dx=some (.own a)/\fs.length<=1000/\dx≠a/\h.get? a=some (PySem.W.instObj C dx) /\
  ∃mA,h.Ns1 dx mA/\(∀f,RelO (fs.lookup f) (mA f))/\PySem.Within mA (fs.map (·.1))
 |.own _=>∃o,h.get? a=some o
 |.xd fs=>∃mA,h.Ns1 a mA/\∀f,RelO (fs.lookup f) (mA f)
 |.rng lo hi=>∃t u v,h.get? a=some { cls:=.type "range",data:=.fields #[.int lo t,.int hi u,.int 1 v] }
 |.frz o u=>h.get? a=some o/\ObjOk H h a u
 |.tbl ps=>h.get? a=some { cls:=.none,data:=.fields ps }
 |.met f x=>h.get? a=some (PySem.W.methodObj (.ref f) (.ref x))
 |.ext φ=>φ h/\(∃o,h.get? a=some o)/\∀h1 h2:Heap,φ h1->(∀o,h1.get? a=some o->h2.get? a=some o)->φ h2
def HOk(H:Hp)(h:Heap):Prop:=∀a o,H a=some o->ObjOk P w H h a o
end
section
variable {P:Program}{w:World}{H H':Hp}{h h':Heap}{a:Addr}{o:HO}
theorem ObjOk.lt(x:ObjOk P w H h a o):a<h.objs.size:=by
 cases o with
 |lst xs=>obtain⟨_,_,_,_,e⟩:=x;exact Heap.lt_size e
 |tup xs=>obtain⟨_,_,_,p⟩:=x;exact p.lt
 |dK kvs=>obtain⟨_,_,_,_,o,_,_,e,_⟩:=x;exact Heap.lt_size e
 |dT kvs=>obtain⟨_,_,_,_,o,_,_,e,_⟩:=x;exact Heap.lt_size e
 |set S n=>obtain⟨o,_,_,_,e,_⟩:=x;exact Heap.lt_size e
 |ins C dx fs=>obtain⟨_,_,_,e,_⟩:=x;exact Heap.lt_size e
 |own y=>obtain⟨_,e⟩:=x;exact Heap.lt_size e
 |xd fs=>obtain⟨_,⟨_,_,_,e,_⟩,_⟩:=x;exact Heap.lt_size e
 |rng lo hi=>obtain⟨_,_,_,e⟩:=x;exact Heap.lt_size e
 |frz ob u=>obtain⟨e,_⟩:=x;exact Heap.lt_size e
 |tbl ps=>exact Heap.lt_size (show h.get? a=some _ from x)
 |met f y=>exact Heap.lt_size (show h.get? a=some _ from x)
 |ext φ=>obtain⟨_,⟨_,e⟩,_⟩:=x;exact Heap.lt_size e
theorem Paired.mapP{α β:Type}{F G:α->β->Prop}:∀{l₁:List α} {l₂:List β},Paired F l₁ l₂->(∀a b,F a b->G a b)->Paired G l₁ l₂
 |_,_,.nil,_=>.nil
 |_,_,.cons r t,f=>.cons (f _ _ r) (Paired.mapP t f)
theorem ObjOk.stay(x:ObjOk P w H h a o)(k:∀b u,(b=a\/H b=some (.own a))->h.get? b=some u->h'.get? b=some u)
 (ho:∀b,H b=some (.own a)->H' b=some (.own a)) (ht:∀b xs,H b=some (.tup xs)->H' b=some (.tup xs)):ObjOk P w H' h' a o:=by
 induction o with
 |lst xs=>obtain⟨z,its,n,r,e⟩:=x;exact⟨z,its,n,r,k _ _ (.inl rfl) e⟩
 |tup xs=>obtain⟨z,its,r,ob,e,c⟩:=x;exact⟨z,its,r,ob,k _ _ (.inl rfl) e,c⟩
 |dK kvs=>obtain⟨z,y,vs,r,ob,es,ep,e,c⟩:=x;exact⟨z,y,vs,r,ob,es,ep,k _ _ (.inl rfl) e,c⟩
 |dT kvs =>obtain⟨z,y,xs,r,ob,es,ep,e,c⟩:=x;exact⟨z,y,xs,Paired.mapP r λp q z=>⟨z.1,ht _ _ z.2.1,z.2.2⟩,ob,es,ep,k _ _ (.inl rfl) e,c⟩
 |set S n=>obtain⟨ob,es,ep,t,e,c⟩:=x;exact⟨ob,es,ep,t,k _ _ (.inl rfl) e,c⟩
 |ins C dx fs =>obtain⟨d,z,ne,e,mA,⟨od,es,ep,e2,c⟩,r⟩:=x;exact⟨ho _ d,z,ne,k _ _ (.inl rfl) e,mA,⟨od,es,ep,k _ _ (.inr d) e2,c⟩,r⟩
 |own y=>obtain⟨ob,e⟩:=x;exact⟨ob,k _ _ (.inl rfl) e⟩
 |xd fs=>obtain⟨mA,⟨od,es,ep,e,c⟩,r⟩:=x;exact⟨mA,⟨od,es,ep,k _ _ (.inl rfl) e,c⟩,r⟩
 |rng lo hi=>obtain⟨t,u,v,e⟩:=x;exact⟨t,u,v,k _ _ (.inl rfl) e⟩
 |frz ob u ih=>obtain⟨e,q⟩:=x;exact⟨k _ _ (.inl rfl) e,ih q⟩
 |tbl ps =>have e:h.get? a=some { cls:=.none,data:=.fields ps }:=x;show h'.get? a=some { cls:=.none,data:=.fields ps };exact k a _ (.inl rfl) e
 |met f y =>have e:h.get? a=some (PySem.W.methodObj (.ref f) (.ref y)):=x;show h'.get? a=some (PySem.W.methodObj (.ref f) (.ref y));exact k a _ (.inl rfl) e
 |ext φ=>obtain⟨p,⟨o,e⟩,st⟩:=x;exact⟨st _ _ p λo q=>k _ _ (.inl rfl) q,⟨o,k _ _ (.inl rfl) e⟩,st⟩
theorem HOk.lt(x:HOk P w H h)(e:H a=some o):a<h.objs.size:=(x a o e).lt
theorem HOk.fresh(x:HOk P w H h)(e:h.objs.size<=a):H a=none:=by
 cases q:H a with
 |none=>rfl
 |some u=>exact absurd (Nl (x.lt q) e) (NI _)
theorem HOk.kept(x:HOk P w H h)(k:∀b u,h.get? b=some u->h'.get? b=some u):HOk P w H h':=λa o e =>(x a o e).stay (λb u _ q=>k b u q) (λ_ q=>q) λ_ _ q=>q
theorem HOk.laid(x:HOk P w H h)(k:∀b u,h.get? b=some u->h'.get? b=some u)(hp:h.objs.size<=a)(new:ObjOk P w (upd H a o) h' a o):HOk P w (upd H a o) h':=λb u e=>by
 have hn:=x.fresh hp;by_cases hb:b=a
 ·subst hb;rw[ao]at e;cases e;exact new
 ·rw[upd_ne hb]at e;exact(x b u e).stay (λc v _ q=>k c v q) (λc q=>by rw[upd_ne (aN q hn)];exact q) λc xs q=>by rw[upd_ne (aN q hn)];exact q
end
def Rd(H:Hp)(a:Addr)(u:HO):Prop:=H a=some u\/∃o,H a=some (.frz o u)
theorem Rd.of{H:Hp}{a:Addr}{u:HO}(h:H a=some u):Rd H a u:=.inl h
theorem Rd.ok{P:Program}{w:World}{H:Hp}{h:Heap}{a:Addr}{u:HO}(r:Rd H a u)(x:HOk P w H h):ObjOk P w H h a u:=by
 rcases r with r |⟨o,r⟩
 ·exact x a u r
 ·obtain⟨_,q⟩:=x a _ r;exact q
noncomputable def Mut:Option HO->Prop
 |some (.lst _)=>True
 |some (.dK _)=>True
 |some (.dT _)=>True
 |some (.set _ _)=>True
 |some (.ins _ _ _)=>True
 |some (.ext _)=>True
 |_=>False
section
variable {P:Program}{w:World}{H:Hp}{h h':Heap}{x e:Addr}{o':HO}
theorem HOk.write(ok:HOk P w H h)(mu:Mut (H x))(he:e=x\/H e=some (.own x))(k:∀b u,b≠e->h.get? b=some u->h'.get? b=some u)(heo:∃u,h'.get? e=some u)
 (new:ObjOk P w (upd H x o') h' x o'):HOk P w (upd H x o') h':=λb u q=>by
 have nown:∀c y,H c=some (.own y)->c≠x:=λc y r z=>by subst z;rw[r]at mu;exact mu
 have ntup:∀c xs,H c=some (.tup xs)->c≠x:=λc xs r z=>by subst z;rw[r]at mu;exact mu
 by_cases hb:b=x
 ·subst hb;rw[ao]at q;cases q;exact new
 ·rw[upd_ne hb]at q;by_cases hbe:b=e
  ·have q':H b=some (.own x):=by
    rcases he with z |z
    ·exact absurd (hbe.trans z) hb
    ·rw[hbe];exact z
   rw[q]at q';cases q';obtain⟨v,hv⟩:=heo;exact⟨v,by rw[hbe];exact hv⟩
  ·refine(ok b u q).stay (λc v hc r=>k c v ?_ r) (λc r=>by rw[upd_ne (nown c b r)];exact r) λc xs r=>by rw[upd_ne (ntup c xs r)];exact r
   rcases hc with rfl |hc
   ·exact hbe
   ·rintro rfl;rcases he with z |z
    ·exact nown c b hc z
    ·rw[hc]at z;cases z;exact hb rfl
end
structure Un(fs ex:List Addr)(H H':Hp)(h h':Heap):Prop where
 keep:∀b o,h.get? b=some o->H b=none->b∉fs->b∉ex->h'.get? b=some o
 slot:∀b o,h.get? b=some o->H b=none->b∈fs->b∉ex->∃sl,h'.get? b=some { o with slots:=sl }
 free:∀b o,h.get? b=some o->H b=none->b∉ex->H' b=none
 there:∀b o,h.get? b=some o->b∉ex->∃o',h'.get? b=some o'
 tups:∀b xs,H b=some (.tup xs)->H' b=some (.tup xs)
 frzs:∀b o u,H b=some (.frz o u)->H' b=some (.frz o u)
 tbls:∀b ps,H b=some (.tbl ps)->∃more,H' b=some (.tbl (ps++more))
section
variable {fs fs' ex ex':List Addr}{H H1 H2:Hp}{h h1 h2 h':Heap}{a x e:Addr}{o:HO}
theorem Un.any(u:Un fs ex H H1 h h1){b:Addr}{ob:Obj}(q:h.get? b=some ob)(n:H b=none)(hx:b∉ex):∃sl,h1.get? b=some { ob with slots:=sl }:=by
 by_cases hb:b∈fs
 ·exact u.slot b ob q n hb hx
 ·exact⟨ob.slots,u.keep b ob q n hb hx⟩
theorem Un.trans(a:Un fs ex H H1 h h1)(b:Un fs ex H1 H2 h1 h2):Un fs ex H H2 h h2 where
 keep:=λc ob q n hc hx=>b.keep c ob (a.keep c ob q n hc hx) (a.free c ob q n hx) hc hx
 slot:=λc ob q n hc hx=>by obtain⟨sl,e1⟩:=a.slot c ob q n hc hx;obtain⟨sl',e2⟩:=b.slot c _ e1 (a.free c ob q n hx) hc hx;exact⟨sl',e2⟩
 free:=λc ob q n hx=>by obtain⟨o',e1⟩:=a.there c ob q hx;exact b.free c o' e1 (a.free c ob q n hx) hx
 there:=λc ob q hx=>by obtain⟨o',e1⟩:=a.there c ob q hx;exact b.there c o' e1 hx
 tups:=λc xs q=>b.tups c xs (a.tups c xs q)
 frzs:=λc ob xs q=>b.frzs c ob xs (a.frzs c ob xs q)
 tbls:=λc ps q=>by obtain⟨m1,e1⟩:=a.tbls c ps q;obtain⟨m2,e2⟩:=b.tbls c _ e1;exact⟨m1++m2,by rw[e2,Array.append_assoc]⟩
theorem Un.kept(k:∀b u,h.get? b=some u->h'.get? b=some u):Un fs ex H H h h' :=
 ⟨λb ob q _ _ _=>k b ob q,λb ob q _ _ _=>⟨ob.slots,k b ob q⟩,λ_ _ _ n _=>n,λb ob q _=>⟨ob,k b ob q⟩,λ_ _ q=>q,λ_ _ _ q=>q,λ_ ps q=>⟨#[],by rw[q];simp⟩⟩
theorem Un.refl:Un fs ex H H h h:=Un.kept λ_ _ q=>q
theorem Un.laid(k:∀b u,h.get? b=some u->h'.get? b=some u)(hp:h.objs.size<=a)(hn:H a=none):Un fs ex H (upd H a o) h h' where
 keep:=λb u q _ _ _=>k b u q
 slot:=λb u q _ _ _=>⟨u.slots,k b u q⟩
 free:=λb u q n _=>by rw[upd_ne (Ng (Nl (Heap.lt_size q) hp))];exact n
 there:=λb u q _=>⟨u,k b u q⟩
 tups:=λb xs q=>by rw[upd_ne (aN q hn)];exact q
 frzs:=λb u xs q=>by rw[upd_ne (aN q hn)];exact q
 tbls:=λb ps q=>⟨#[],by rw[upd_ne (aN q hn),q];simp⟩
theorem Un.write(mu:Mut (H x))(he:e=x\/H e=some (.own x))(k:∀b u,b≠e->h.get? b=some u->h'.get? b=some u)(heo:∃u,h'.get? e=some u):Un fs ex H (upd H x o) h h':=by
 have hx:∀b,H b=none->b≠x:=λb n z=>by subst z;rw[n]at mu;exact mu
 have hb:∀b,H b=none->b≠e:=λb n z=>by
  subst z;rcases he with r |r
  ·exact hx b n r
  ·rw[n]at r;cases r
 have hm:∀b u,H b=some u->¬Mut (some u)->b≠x:=λb u q nm z=>by subst z;rw[q]at mu;exact nm mu
 refine⟨λb u q n _ _=>k b u (hb b n) q,λb u q n _ _=>⟨u.slots,k b u (hb b n) q⟩,λb u q n _=>by rw[upd_ne (hx b n)];exact n,λb u q _=>?_,
  λb xs q=>by rw[upd_ne (hm b _ q λz=>z)];exact q,λb u xs q=>by rw[upd_ne (hm b _ q λz=>z)];exact q,λb ps q=>⟨#[],by rw[upd_ne (hm b _ q λz=>z),q];simp⟩⟩
 by_cases hbe:b=e
 ·subst hbe;exact heo
 ·exact⟨u,k b u hbe q⟩
theorem Un.mono(u:Un fs ex H H1 h h1)(hs:∀b∈fs,b∈fs')(hx:∀b∈ex,b∈ex'):Un fs' ex' H H1 h h1 :=
 ⟨λb ob q n hb he=>u.keep b ob q n (λz=>hb (hs b z)) λz=>he (hx b z),λ_ _ q n _ he=>u.any q n λz=>he (hx _ z),λb ob q n he=>u.free b ob q n λz=>he (hx b z),λb ob q he=>u.there b ob q λz=>he (hx b z),u.tups,u.frzs,u.tbls⟩
end
noncomputable def trk(h:Heap)(H:Hp):List Addr:=(List.range h.objs.size).filter λa=>(H a).isSome
noncomputable def dR(h:Heap)(H:Hp):Heap:=PySem.W.hideAll h (trk h H)
theorem HH(h:Heap)(H:Hp):(dR h H).objs.size=h.objs.size:=PySem.W.hideAll_size _ _
theorem HI{h:Heap}{H:Hp}{b:Addr}{o:Obj}(e:h.get? b=some o)(n:H b=none):(dR h H).get? b=some o :=
 PySem.W.hideAll_get _ e λhm=>by have q:(H b).isSome=true:=(OL.mp hm).2;rw[n]at q;simp at q
theorem Fl{h:Heap}{H:Hp}{b:Addr}{o:Obj}(e:(dR h H).get? b=some o):h.get? b=some o/\H b=none:=by
 have e':h.get? b=some o:=PySem.W.of_hideAll (trk h H) e;refine⟨e',?_⟩;cases q:H b with
 |none=>rfl
 |some x =>have hm:b∈trk h H:=OL.mpr ⟨List.mem_range.mpr (Heap.lt_size e'),by simp[q]⟩;have z:(dR h H).get? b=none:=PySem.W.hideAll_none (trk h H) hm;rw[z]at e;cases e
noncomputable def Ln(g h:Heap)(L:Addr):List (Addr×Obj):=(List.range h.objs.size).filterMap λa=>if a=L\/(g.get? a).isSome=true then none else(h.get? a).map λo=>(a,o)
noncomputable def rest(g h:Heap)(L d:Addr):List (Addr×Obj):=(Ln g h L).filter λp=>decide (p.1≠d)
structure Mod(K:PySem.W.Frag)(mg:Str->Option Value)(base:Heap):Prop where
 kin:K.In base
 glob:base.Ns mainGlobals mg
 blt:∃mb,base.Ns builtinsNs mb/\∀x:Str,x≠"__name__"->mb x=bootBuiltins x
 nolimit:base.NoLimit
structure Cx where
 prog:Program
 w:World
 K:PySem.W.Frag
 mg:Str->Option Value
 base:Heap
 A:Around
 N:List Str
 s₀:Shared
 H₀:Hp
 env:Env
 outer:List Env
 stack:List Env
 ex:List Addr
 fn:Str->Bool
 calm:Bool
 pn:List (Addr×Obj)
 xe:Value->Shared->Prop
noncomputable def frs(l:List Env):List Addr:=l.filterMap (·.frame)
abbrev Cx.fs(X:Cx):List Addr:=frs X.outer
def Vis(sc:Scope)(x:Str):Prop:=sc.names.lookup x=some .local\/sc.names.lookup x=some .cell\/sc.names.lookup x=some .free
def Loc(sc:Scope)(x:Str):Prop:=sc.names.lookup x=some .local\/sc.names.lookup x=some .cell
noncomputable def Lw(env:Env)(h:Heap)(m:Str->Option Value)(x:Str)(u:Value):Prop :=
 (env.kindOf x=some .local/\m x=some u)\/((env.kindOf x=some .cell\/env.kindOf x=some .free)/\∃c,env.cells.lookup x=some c/\h.IsCell c (some u))
structure Cx.Ok(X:Cx):Prop where
 mod:Mod X.K X.mg X.base
 kind:X.env.scope.kind=.function
 glob:X.env.globals=mainGlobals
 blt:X.env.builtins=builtinsNs
 above:X.s₀.heap.objs.size<=X.env.locals
 inj:∀x y c,X.env.cells.lookup x=some c->X.env.cells.lookup y=some c->x=y
 has:∀x,(X.env.kindOf x=some .cell\/X.env.kindOf x=some .free)->∃c,X.env.cells.lookup x=some c
 cab:∀x c,X.fn x=true->X.env.cells.lookup x=some c->X.s₀.heap.objs.size<=c
 hd:X.calm=true->X.A.handled=none
 frames:X.A.frames=some X.stack
 stk:X.stack=X.outer\/(X.stack=X.env::X.outer/\X.env.frame=some X.env.locals)
 exf:∀b∈X.ex,b≠X.env.locals/\∀x c,X.env.cells.lookup x=some c->c≠b
 bs:∀b o,X.base.get? b=some o->X.s₀.heap.get? b=some o/\X.H₀ b=none
 bsz:X.base.objs.size<=X.s₀.heap.objs.size
 noex:∀b o,X.base.get? b=some o->b∉X.ex
 exfs:∀b∈X.ex,b∉X.fs
 funs:X.s₀.heap.FunFrames X.base X.outer
 frf:∀b∈X.fs,X.H₀ b=none
structure Inv(X:Cx)(pins:List (Addr×Obj))(σ:List (Option V))(H:Hp)(s:Shared):Prop where
 ok:X.Ok
 os:s.os=X.s₀.os
 bare:AllBare s.gens
 base:Un X.fs X.ex X.H₀ H X.s₀.heap s.heap
 loc:∃m,s.heap.Ns X.env.locals m/\∀(i:Nat) (x:Str) (v:V),X.N[i]?=some x->σ[i]?=some (some v)->Vis X.env.scope x->∃u,RelV v u/\Lw X.env s.heap m x u
 cell:∀x c,X.env.cells.lookup x=some c->∃v,s.heap.IsCell c v
 free:H X.env.locals=none
 freeC:∀x c,X.env.cells.lookup x=some c->H c=none
 pin:∀p∈X.pn++pins,s.heap.get? p.1=some p.2/\H p.1=none/\p.1≠X.env.locals/\p.1∉X.fs/\∀v,p.2.data≠.cell v
 hok:HOk X.prog X.w H s.heap
 len:σ.length=X.N.length
section
variable {X:Cx}{pins:List (Addr×Obj)}{σ:List (Option V)}{H H':Hp}{s:Shared}{h':Heap}
theorem Cx.Ok.nofr(ok:X.Ok){b:Addr}{o:Obj}(e:X.base.get? b=some o):b∉X.fs:=λhb=>by have:=(ok.funs.mem hb).1;rw[e]at this;cases this
theorem Inv.bs(I:Inv X pins σ H s):∀b o,X.base.get? b=some o->s.heap.get? b=some o/\H b=none:=λb o e =>⟨I.base.keep b o (I.ok.bs b o e).1 (I.ok.bs b o e).2 (I.ok.nofr e) (I.ok.noex b o e),I.base.free b o (I.ok.bs b o e).1 (I.ok.bs b o e).2 (I.ok.noex b o e)⟩
theorem Inv.bk(I:Inv X pins σ H s):∀b o,X.base.get? b=some o->s.heap.get? b=some o:=λb o e=>(I.bs b o e).1
theorem Inv.mod(I:Inv X pins σ H s):Mod X.K X.mg X.base:=I.ok.mod
theorem Inv.kIn(I:Inv X pins σ H s):X.K.In s.heap:=I.ok.mod.kin.keeps I.bk
theorem Inv.nolimit(I:Inv X pins σ H s):s.heap.NoLimit:=I.ok.mod.nolimit.keeps I.bk
theorem Inv.fr(I:Inv X pins σ H s):∃m,Fr X.base X.env.locals s.heap m :=
 let⟨m,hn,_⟩:=I.loc
 ⟨m,hn,I.bk,Nb I.ok.bsz I.ok.above⟩
theorem Inv.lt(I:Inv X pins σ H s):X.env.locals<s.heap.objs.size:=let⟨_,hn,_⟩:=I.loc;hn.lt
theorem Inv.sz(I:Inv X pins σ H s):X.s₀.heap.objs.size<=s.heap.objs.size:=Nb I.ok.above (OC I.lt)
theorem Inv.nofs(I:Inv X pins σ H s){a:Addr}(h:s.heap.objs.size<=a):a∉X.fs:=λhb=>by obtain⟨_,o,ho,_⟩:=I.ok.funs.mem hb;exact absurd (Nl (Heap.lt_size ho) (Nb I.sz h)) (NI _)
theorem Inv.cne(I:Inv X pins σ H s):∀x c,X.env.cells.lookup x=some c->c≠X.env.locals:=λx c e z=>by obtain⟨v,o,ho,hd⟩:=I.cell x c e;obtain⟨m,⟨o',es,ep,ho',hd',_⟩,_⟩:=I.loc;rw[z,ho']at ho;cases ho;rw[hd']at hd;cases hd
theorem Inv.funs(I:Inv X pins σ H s):s.heap.FunFrames X.base X.outer:=by
 have all:∀(l:List Env),(∀b∈frs l,b∈X.fs)->X.s₀.heap.FunFrames X.base l->s.heap.FunFrames X.base l:=by
  intro l
  induction l with
  |nil=>intro _ _;trivial
  |cons env r ih =>
   intro hs hl;obtain⟨hk,⟨L,o,hf,hn,ho,hd⟩,hr⟩:=hl;have hL:L∈X.fs:=hs L (by unfold frs;rw[O1,hf];exact Na);obtain⟨sl,e⟩:=I.base.slot L o ho (I.ok.frf L hL) hL λz=>I.ok.exfs L z hL
   exact⟨hk,⟨L,_,hf,hn,e,hd⟩,ih (λb hb=>hs b (by unfold frs;rw[O1,hf];exact M8 _ hb)) hr⟩
 exact all X.outer (λ_ hb=>hb) I.ok.funs
theorem Inv.stack(I:Inv X pins σ H s):s.heap.FunFrames X.base X.stack:=by
 rcases I.ok.stk with e |⟨e,hf⟩
 ·rw[e];exact I.funs
 ·rw[e];obtain⟨m,hn,_⟩:=I.loc;refine .cons (by rw[I.ok.kind];decide) hf hn ?_ I.funs;exact Heap.get?_none_of_le (Nb I.ok.bsz I.ok.above)
theorem Inv.stkSub(I:Inv X pins σ H s):∀b∈frs X.stack,b∈X.env.locals::X.fs:=λb hb=>by
 rcases I.ok.stk with e |⟨e,hf⟩
 ·rw[e]at hb;exact M8 _ hb
 ·rw[e]at hb;unfold frs at hb
  rw[O1,hf]at hb;exact hb
theorem Inv.stkFree(I:Inv X pins σ H s):∀b∈frs X.stack,H b=none:=λb hb=>by
 rcases Nd.mp (I.stkSub b hb)with e |hb
 ·rw[e];exact I.free
 ·obtain⟨_,o,ho,_⟩:=I.ok.funs.mem hb;exact I.base.free b o ho (I.ok.frf b hb) λz=>I.ok.exfs b z hb
theorem Inv.step{g':Array GenState}{t':Nat}{d':Drawn}{ch:List Addr}(I:Inv X pins σ H s)
 (hch:∀b∈ch,(b∈X.ex\/X.s₀.heap.objs.size<=b)/\b≠X.env.locals/\(∀x c,X.env.cells.lookup x=some c->c≠b)/\∀p∈X.pn++pins,p.1≠b)
 (keep:∀b o,b≠X.env.locals->b∉X.fs->b∉ch->s.heap.get? b=some o->H b=none->h'.get? b=some o)
 (slot:∀b o,b≠X.env.locals->b∈X.fs->b∉ch->s.heap.get? b=some o->H b=none->∃sl,h'.get? b=some { o with slots:=sl }) (free:∀b o,b∉ch->s.heap.get? b=some o->H b=none->H' b=none)
 (there:∀b o,b∉ch->s.heap.get? b=some o->∃o',h'.get? b=some o')
 (tups:∀b xs,H b=some (.tup xs)->H' b=some (.tup xs)) (frzs:∀b o u,H b=some (.frz o u)->H' b=some (.frz o u)) (tbls:∀b ps,H b=some (.tbl ps)->∃more,H' b=some (.tbl (ps++more)))
 (ns:∀m,s.heap.Ns X.env.locals m->h'.Ns X.env.locals m) (hok:HOk X.prog X.w H' h') (hg:AllBare g') :
 Inv X pins σ H' { s with heap:=h',gens:=g',drawn:=d',toks:=t' }:=by
 have neL:∀b o,X.s₀.heap.get? b=some o->b≠X.env.locals:=λb o e=>Ng (Nl (Heap.lt_size e) I.ok.above)
 have neC:∀b o,X.s₀.heap.get? b=some o->b∉X.ex->b∉ch:=λb o e hx hb=>by
  rcases(hch b hb).1 with z |z
  ·exact hx z
  ·exact absurd (Nl (Heap.lt_size e) z) (NI _)
 have cellK:∀x c,X.env.cells.lookup x=some c->∀v,s.heap.IsCell c v->h'.IsCell c v:=λx c e v ⟨o,ho,hd⟩=>by
  have nch:c∉ch:=λz=>(hch c z).2.2.1 x c e rfl
  by_cases hc:c∈X.fs
  ·obtain⟨sl,q⟩:=slot c o (I.cne x c e) hc nch ho (I.freeC x c e);exact⟨_,q,hd⟩
  ·exact⟨o,keep c o (I.cne x c e) hc nch ho (I.freeC x c e),hd⟩
 refine⟨I.ok,I.os,hg,⟨λb o e n hb hx=>?_,λb o e n hb hx=>?_,λb o e n hx=>?_,λb o e hx=>?_,λb xs e=>tups b xs (I.base.tups b xs e),λb o xs e=>frzs b o xs (I.base.frzs b o xs e),λb ps e=>?_⟩,?_,λx c e=>?_,?_,λx c e=>?_,λp hp=>?_,hok,I.len⟩
 ·exact keep b o (neL b o e) hb (neC b o e hx) (I.base.keep b o e n hb hx) (I.base.free b o e n hx)
 ·obtain⟨sl,e1⟩:=I.base.slot b o e n hb hx;obtain⟨sl',e2⟩:=slot b _ (neL b o e) hb (neC b o e hx) e1 (I.base.free b o e n hx);exact⟨sl',e2⟩
 ·obtain⟨o',e1⟩:=I.base.there b o e hx;exact free b o' (neC b o e hx) e1 (I.base.free b o e n hx)
 ·obtain⟨o',e1⟩:=I.base.there b o e hx;exact there b o' (neC b o e hx) e1
 ·obtain⟨m1,e1⟩:=I.base.tbls b ps e;obtain⟨m2,e2⟩:=tbls b _ e1;exact⟨m1++m2,by rw[e2,Array.append_assoc]⟩
 ·obtain⟨m,hn,hl⟩:=I.loc;refine⟨m,ns m hn,λi x v e1 e2 e3=>?_⟩;obtain⟨u,r,l⟩:=hl i x v e1 e2 e3;refine⟨u,r,?_⟩;rcases l with l |⟨k,c,e,z⟩
  ·exact .inl l
  ·exact .inr ⟨k,c,e,cellK x c e _ z⟩
 ·obtain⟨v,z⟩:=I.cell x c e;exact⟨v,cellK x c e v z⟩
 ·obtain⟨m,⟨o,_,_,ho,_⟩,_⟩:=I.loc;exact free _ o (λz=>(hch _ z).2.1 rfl) ho I.free
 ·obtain⟨v,o,ho,hd⟩:=I.cell x c e;exact free c o (λz=>(hch c z).2.2.1 x c e rfl) ho (I.freeC x c e)
 ·obtain⟨e,n,ne,nf,d⟩:=I.pin p hp;have nch:p.1∉ch:=λz=>(hch p.1 z).2.2.2 p hp rfl
  exact⟨keep p.1 p.2 ne nf nch e n,free p.1 p.2 nch e n,ne,nf,d⟩
theorem Inv.un{t':Nat}(I:Inv X pins σ H s)(u:Un X.fs [] H H' s.heap h')(hok:HOk X.prog X.w H' h'):Inv X pins σ H' { s with heap:=h',toks:=t' }:=by
 obtain⟨m,⟨o,es,ep,ho,r⟩,_⟩:=id I.loc;obtain⟨sl,hL⟩:=u.any ho I.free (by simp)
 exact I.step (g':=s.gens) (d':=s.drawn) (ch:=[]) (λ_ z=>nomatch z) (λb o _ hb _ e n=>u.keep b o e n hb (by simp)) (λb o _ hb _ e n=>u.slot b o e n hb (by simp)) (λb o _ e n=>u.free b o e n (by simp)) (λb o _ e=>u.there b o e (by simp)) u.tups u.frzs u.tbls (λm' hm=>by
  obtain⟨o',es',ep',ho',r'⟩:=hm;rw[ho]at ho';cases ho'
  exact⟨_,es',ep',hL,r'⟩) hok I.bare
theorem Inv.call{g':Array GenState}{t':Nat}{d':Drawn}{ch:List Addr}(I:Inv X pins σ H s)(u:Un (frs X.stack) ch H H' s.heap h')(hok:HOk X.prog X.w H' h')(hg:AllBare g')
 (hch:∀b∈ch,(b∈X.ex\/X.s₀.heap.objs.size<=b)/\b≠X.env.locals/\(∀x c,X.env.cells.lookup x=some c->c≠b)/\∀p∈X.pn++pins,p.1≠b) :
 Inv X pins σ H' { s with heap:=h',gens:=g',drawn:=d',toks:=t' }:=by
 obtain⟨m,⟨o,es,ep,ho,r⟩,_⟩:=id I.loc;obtain⟨sl,hL⟩:=u.any ho I.free λz=>(hch _ z).2.1 rfl
 exact I.step (ch:=ch) hch (λb o hL hb hc e n=>u.keep b o e n (λz=>(Nd.mp (I.stkSub b z)).elim hL hb) hc) (λb o _ _ hc e n=>u.any e n hc) (λb o hc e n=>u.free b o e n hc) (λb o hc e=>u.there b o e hc) u.tups u.frzs u.tbls (λm' hm=>by
  obtain⟨o',es',ep',ho',r'⟩:=hm;rw[ho]at ho';cases ho'
  exact⟨_,es',ep',hL,r'⟩) hok hg
theorem Inv.turned{t':Nat}{it:Addr}(I:Inv X pins σ H s)(k:∀b o,b≠it->s.heap.get? b=some o->h'.get? b=some o)(hn:H it=none)(hL:it≠X.env.locals)
 (h1:it∈X.ex\/X.s₀.heap.objs.size<=it) (h2:∀x c,X.env.cells.lookup x=some c->c≠it) (h3:∀p∈X.pn++pins,p.1≠it):Inv X pins σ H { s with heap:=h',toks:=t' }:=by
 have nit:∀b u,H b=some u->b≠it:=λb u e z=>by rw[z,hn]at e;cases e
 refine I.step (g':=s.gens) (d':=s.drawn) (ch:=[it]) (λb hb=>?_) (λb o _ _ hc e _=>k b o (λz=>hc (by simp[z])) e) (λb o _ _ hc e _=>⟨o.slots,k b o (λz=>hc (by simp[z])) e⟩) (λ_ _ _ _ n=>n)
  (λb o hc e=>⟨o,k b o (λz=>hc (by simp[z])) e⟩) (λ_ _ e=>e) (λ_ _ _ e=>e) (λb ps e=>⟨#[],by rw[e];simp⟩) (λm hm=>?_) (λb u e=>?_) I.bare
 ·have e:b=it:=by simpa using hb
  subst e;exact⟨h1,hL,h2,h3⟩
 ·obtain⟨o,es,ep,ho,r⟩:=hm;exact⟨o,es,ep,k _ o (Ne.symm hL) ho,r⟩
 ·refine(I.hok b u e).stay (λc v hc q=>k c v ?_ q) (λ_ q=>q) λ_ _ q=>q
  rcases hc with z |z
  ·rw[z];exact nit b u e
  ·exact nit c _ z
theorem Inv.tok(I:Inv X pins σ H s)(t:Nat):Inv X pins σ H { s with toks:=t }:=I.un (h':=s.heap) (t':=t) Un.refl I.hok
theorem Inv.kept{t':Nat}(I:Inv X pins σ H s)(k:∀b u,s.heap.get? b=some u->h'.get? b=some u):Inv X pins σ H { s with heap:=h',toks:=t' }:=I.un (Un.kept k) (I.hok.kept k)
theorem Inv.laid{a:Addr}{o:HO}{t':Nat}(I:Inv X pins σ H s)(k:∀b u,s.heap.get? b=some u->h'.get? b=some u)(hp:s.heap.objs.size<=a)(new:ObjOk X.prog X.w (upd H a o) h' a o) :
 Inv X pins σ (upd H a o) { s with heap:=h',toks:=t' }:=I.un (Un.laid k hp (I.hok.fresh hp)) (I.hok.laid k hp new)
theorem Inv.write{x e:Addr}{o:HO}{t':Nat}(I:Inv X pins σ H s)(mu:Mut (H x))(he:e=x\/H e=some (.own x))(k:∀b u,b≠e->s.heap.get? b=some u->h'.get? b=some u)(heo:∃u,h'.get? e=some u)
 (new:ObjOk X.prog X.w (upd H x o) h' x o):Inv X pins σ (upd H x o) { s with heap:=h',toks:=t' }:=I.un (Un.write mu he k heo) (I.hok.write mu he k heo new)
theorem Inv.pins_of{pins':List (Addr×Obj)}(I:Inv X pins σ H s)(h:∀p∈pins',s.heap.get? p.1=some p.2/\H p.1=none/\p.1≠X.env.locals/\p.1∉X.fs/\∀v,p.2.data≠.cell v):Inv X pins' σ H s :=
 ⟨I.ok,I.os,I.bare,I.base,I.loc,I.cell,I.free,I.freeC,λp hp=>(Nu.mp hp).elim (λz=>I.pin p (NQ _ z)) (h p),I.hok,I.len⟩
theorem rp{N:List Str}(hN:N.Nodup){i j:Nat}{x:Str}(a:N[i]?=some x)(b:N[j]?=some x):i=j:=by obtain⟨h1,e1⟩:=List.getElem?_eq_some_iff.mp a;obtain⟨h2,e2⟩:=List.getElem?_eq_some_iff.mp b;exact(List.getElem_inj hN).mp (e1.trans e2.symm)
theorem BA{M:Model}{A:Around}{E:Value->Shared->Prop}{i:Nat}{x:Str}{v:V}{u:Value}{Q:Unit->Shared->Prop}(I:Inv X pins σ H s)(hN:X.N.Nodup)(hi:X.N[i]?=some x)(hx:Loc X.env.scope x)(r:RelV v u)
 (h:∀s',Inv X pins (σ.set i (some v)) H s'->(∃a,Heap.SameBut a s.heap s'.heap/\(a=X.env.locals\/X.env.cells.lookup x=some a))->Q () s') (hf:X.fn x=true\/X.env.scope.names.lookup x=some .local:=by first |exact .inl rfl |exact .inr rfl |assumption):wpAny M A (storeName X.env x u) Q E s:=by
 obtain⟨m,hn,hl⟩:=id I.loc;have hcls:(X.env.scope.kind == .class || (X.env.scope.kind == .module&&X.env.locals != X.env.globals))=false:=by rw[I.ok.kind];rfl
 have hiσ:i<σ.length:=by rw[I.len];exact(List.getElem?_eq_some_iff.mp hi).1
 have cne:=I.cne
 have tracked:∀{a:Addr} {h':Heap},(∃o,s.heap.get? a=some o/\H a=none)->Heap.SameBut a s.heap h'->HOk X.prog X.w H h':=λ{a h'} ha hs b ob e=>by
  obtain⟨_,_,hfree⟩:=ha;refine(I.hok b ob e).stay (λc w' hc q=>(hs.2 c ?_).trans q) (λ_ q=>q) λ_ _ q=>q
  rintro rfl;rcases hc with rfl |hc
  ·rw[hfree]at e;cases e
  ·rw[hfree]at hc;cases hc
 rcases hx with hk |hk
 ·refine wpAny_storeName_local hk hn (λh' hn' hs=>?_) hcls;obtain⟨oL,_,_,hoL,_⟩:=id hn;refine h _ ⟨I.ok,I.os,I.bare,⟨λb o e n hb hx=>?_,λb o e n hb hx=>?_,I.base.free,λb o e hx=>?_,I.base.tups,I.base.frzs,I.base.tbls⟩,⟨_,hn',λj y v' e1 e2 e3=>?_⟩,λy c e=>?_,I.free,I.freeC,λp hp=>?_,tracked ⟨oL,hoL,I.free⟩ hs,by simpa using I.len⟩ ⟨_,hs,.inl rfl⟩
  ·exact(hs.2 b (Ng (Nl (Heap.lt_size e) I.ok.above))).trans (I.base.keep b o e n hb hx)
  ·obtain⟨sl,e1⟩:=I.base.slot b o e n hb hx;exact⟨sl,(hs.2 b (Ng (Nl (Heap.lt_size e) I.ok.above))).trans e1⟩
  ·obtain⟨o',e1⟩:=I.base.there b o e hx;exact⟨o',(hs.2 b (Ng (Nl (Heap.lt_size e) I.ok.above))).trans e1⟩
  ·by_cases hj:j=i
   ·subst hj;rw[hi]at e1;cases e1;rw[List.getElem?_set_self hiσ]at e2;cases e2;exact⟨u,r,.inl ⟨hk,by simp⟩⟩
   ·rw[List.getElem?_set_ne (Ne.symm hj)]at e2;obtain⟨u',r',q⟩:=hl j y v' e1 e2 e3;refine⟨u',r',?_⟩;rcases q with⟨k,e⟩ |⟨k,c,e,z⟩
    ·refine .inl ⟨k,?_⟩;have:y≠x:=λe=>hj (rp hN e1 (e ▸ hi))
     simp[this,e]
    ·exact .inr ⟨k,c,e,z.sameBut hs (cne y c e)⟩
  ·obtain⟨w',z⟩:=I.cell y c e;exact⟨w',z.sameBut hs (cne y c e)⟩
  ·obtain⟨e,n,ne,nf,d⟩:=I.pin p hp;exact⟨(hs.2 p.1 ne).trans e,n,ne,nf,d⟩
 ·have hfn:X.fn x=true:=by
   rcases hf with z |z
   ·exact z
   ·rw[z]at hk;cases hk
  obtain⟨c,hc⟩:=I.ok.has x (.inl hk);obtain⟨w',z⟩:=I.cell x c hc;refine wpAny_storeName_cell I.ok.kind hk hc z (λh' hc' hs=>?_);obtain⟨oc,hoc,hocd⟩:=id z;refine h { s with heap:=h' } ⟨I.ok,I.os,I.bare,⟨λb o e n hb hx=>?_,λb o e n hb hx=>?_,I.base.free,λb o e hx=>?_,I.base.tups,I.base.frzs,I.base.tbls⟩,⟨m,hn.sameBut hs (Ne.symm (cne x c hc)),λj y v' e1 e2 e3=>?_⟩,λy c' e=>?_,I.free,I.freeC,λp hp=>?_,tracked ⟨oc,hoc,I.freeC x c hc⟩ hs,by simpa using I.len⟩ ⟨c,hs,.inr hc⟩
  ·exact(hs.2 b (Ng (Nl (Heap.lt_size e) (I.ok.cab x c hfn hc)))).trans (I.base.keep b o e n hb hx)
  ·obtain⟨sl,e1⟩:=I.base.slot b o e n hb hx;exact⟨sl,(hs.2 b (Ng (Nl (Heap.lt_size e) (I.ok.cab x c hfn hc)))).trans e1⟩
  ·obtain⟨o',e1⟩:=I.base.there b o e hx;exact⟨o',(hs.2 b (Ng (Nl (Heap.lt_size e) (I.ok.cab x c hfn hc)))).trans e1⟩
  ·by_cases hj:j=i
   ·subst hj;rw[hi]at e1;cases e1;rw[List.getElem?_set_self hiσ]at e2;cases e2;exact⟨u,r,.inr ⟨.inl hk,c,hc,hc'⟩⟩
   ·rw[List.getElem?_set_ne (Ne.symm hj)]at e2;obtain⟨u',r',q⟩:=hl j y v' e1 e2 e3;refine⟨u',r',?_⟩;rcases q with q |⟨k,c',e,z'⟩
    ·exact .inl q
    ·refine .inr ⟨k,c',e,z'.sameBut hs ?_⟩;rintro rfl;exact hj (rp hN e1 (I.ok.inj _ _ _ e hc ▸ hi))
  ·by_cases hcc:c'=c
   ·subst hcc;exact⟨_,hc'⟩
   ·obtain⟨w2,z2⟩:=I.cell y c' e;exact⟨w2,z2.sameBut hs hcc⟩
  ·obtain⟨e,n,ne,nf,d⟩:=I.pin p hp;refine⟨(hs.2 p.1 ?_).trans e,n,ne,nf,d⟩;intro q;rw[q,hoc]at e;have q':oc=p.2:=Option.some.inj e;exact d w' (by rw[<- q'];exact hocd)
theorem kE{M:Model}{A:Around}{E:Value->Shared->Prop}{i:Nat}{x:Str}{v:V}{u:Value}{Q:Unit->Shared->Prop}(I:Inv X pins σ H s)(hN:X.N.Nodup)(hi:X.N[i]?=some x)(hx:Loc X.env.scope x)(r:RelV v u)
 (h:∀s',Inv X pins (σ.set i (some v)) H s'->Q () s') (hf:X.fn x=true\/X.env.scope.names.lookup x=some .local:=by first |exact .inl rfl |exact .inr rfl |assumption):wpAny M A (storeName X.env x u) Q E s :=
 BA I hN hi hx r (λs' I' _=>h s' I') hf
theorem Inv.call'{s':Shared}{ch:List Addr}(I:Inv X pins σ H s)(ho:s'.os=s.os)(u:Un (frs X.stack) ch H H' s.heap s'.heap)(hok:HOk X.prog X.w H' s'.heap)(hg:AllBare s'.gens)
 (hch:∀b∈ch,(b∈X.ex\/X.s₀.heap.objs.size<=b)/\b≠X.env.locals/\(∀x c,X.env.cells.lookup x=some c->c≠b)/\∀p∈X.pn++pins,p.1≠b):Inv X pins σ H' s':=by
 obtain⟨h',g',d',t',o'⟩:=s';have e:o'=s.os:=ho;subst e;exact I.call (g':=g') (t':=t') (d':=d') u hok hg hch
end
abbrev XK:=Value->Option Addr->Hp->Prop
abbrev St:=List (Option V)
abbrev VK:=V->Hp->Prop
abbrev TE:=St->Hp->VK->Prop
abbrev TT:=St->Hp->(Bool->Hp->Prop)->Prop
abbrev TA:=St->Hp->(List V->Hp->Prop)->Prop
structure Ends where
 nx:St->Hp->Prop
 rt:VK
 bk:St->Hp->Prop:=λ_ _=>False
 ct:St->Hp->Prop:=λ_ _=>False
abbrev TS:=Ends->St->Hp->Prop
def EP(X:Cx)(pins:List (Addr×Obj))(σ:St)(Q:VK)(u:Value)(s':Shared):Prop:=∃v H',Inv X pins σ H' s'/\RelV v u/\Q v H'
def TP(X:Cx)(pins:List (Addr×Obj))(σ:St)(Q:Bool->Hp->Prop)(b:Bool)(s':Shared):Prop:=∃H',Inv X pins σ H' s'/\Q b H'
def AP(X:Cx)(pins:List (Addr×Obj))(σ:St)(Q:List V->Hp->Prop)(us:List Value)(s':Shared):Prop:=∃vs H',Inv X pins σ H' s'/\Vals vs us/\Q vs H'
noncomputable def SP(X:Cx)(pins:List (Addr×Obj))(D:Ends)(f:Flow)(s':Shared):Prop :=
 match f with
 |.next=>∃σ' H',Inv X pins σ' H' s'/\D.nx σ' H'
 |.brk=>∃σ' H',Inv X pins σ' H' s'/\D.bk σ' H'
 |.cont=>∃σ' H',Inv X pins σ' H' s'/\D.ct σ' H'
 |.ret u=>∃v σ' H',Inv X pins σ' H' s'/\RelV v u/\D.rt v H'
noncomputable def PE(X:Cx)(e:Expr)(t:TE):Prop :=
 ∀(pins:List (Addr×Obj)) (s:Shared) (σ:St) (H:Hp) (Q:VK),Inv X pins σ H s->t σ H Q->wpAny (model X.prog X.w) X.A (eval e X.env) (EP X pins σ Q) X.xe s
noncomputable def PT(X:Cx)(e:Expr)(t:TT):Prop :=
 ∀(pins:List (Addr×Obj)) (s:Shared) (σ:St) (H:Hp) (Q:Bool->Hp->Prop),Inv X pins σ H s->t σ H Q->wpAny (model X.prog X.w) X.A (isTrue e X.env (eval e X.env)) (TP X pins σ Q) X.xe s
noncomputable def PW(X:Cx)(e:Expr)(t:TT):Prop :=
 ∀(whole:Sem Value) (pins:List (Addr×Obj)) (s:Shared) (σ:St) (H:Hp) (Q:Bool->Hp->Prop),Inv X pins σ H s->t σ H Q->wpAny (model X.prog X.w) X.A (isTrue e X.env whole) (TP X pins σ Q) X.xe s
theorem PW.pt{X:Cx}{e:Expr}{t:TT}(h:PW X e t):PT X e t:=h _
noncomputable def PA(X:Cx)(es:List Expr)(t:TA):Prop :=
 ∀(pos:Pos) (pins:List (Addr×Obj)) (s:Shared) (σ:St) (H:Hp) (Q:List V->Hp->Prop),Inv X pins σ H s->t σ H Q->wpAny (model X.prog X.w) X.A (spliced (backTo pos (starEach es X.env))) (AP X pins σ Q) X.xe s
noncomputable def PS(X:Cx)(st:Stmt)(t:TS):Prop :=
 ∀(pins:List (Addr×Obj)) (s:Shared) (σ:St) (H:Hp) (D:Ends),Inv X pins σ H s->t D σ H->wpAny (model X.prog X.w) X.A (exec st X.env) (SP X pins D) X.xe s
noncomputable def PSs(X:Cx)(st:List Stmt)(t:TS):Prop :=
 ∀(pins:List (Addr×Obj)) (s:Shared) (σ:St) (H:Hp) (D:Ends),Inv X pins σ H s->t D σ H->wpAny (model X.prog X.w) X.A (execs st X.env) (SP X pins D) X.xe s
theorem thn{α:Type}{t:Sem α}{Q Q':α->Shared->Prop}{M:Model}{A:Around}{E:Value->Shared->Prop}{s:Shared}(h:wpAny M A t Q E s)(hQ:∀a s,Q a s->Q' a s):wpAny M A t Q' E s:=wpAny_mono h hQ λ_ _ x=>x
section
variable {X:Cx}
def pN(i:Nat):TE:=λσ H Q=>∃v,σ[i]?=some (some v)/\Q v H
def tC(v:V):TE:=λ_ H Q=>Q v H
theorem DL{i:Nat}{x:Str}{pos:Pos}(hN:X.N[i]?=some x)(hv:Vis X.env.scope x)(hd:(x == ("__debug__":Str))=false:=by decide)(hcd:(x == ("__classdict__":Str))=false:=by decide):PE X (.Name x pos) (pN i):=by
 intro pins s σ H Q I h;obtain⟨v,e,h⟩:=h;obtain⟨m,hn,hl⟩:=I.loc;obtain⟨u,r,l⟩:=hl i x v hN e hv;have fin:EP X pins σ Q u s:=⟨v,H,I,r,h⟩;rcases l with⟨hk,hm⟩ |⟨hk,c,hc,hcell⟩
 ·exact wpAny_Name (wpAny_loadName_local I.ok.kind hk hn hm fin) hd
 ·rcases hk with hk |hk
  ·exact wpAny_Name (wpAny_loadName_cell I.ok.kind hk hc hcell fin) hd
  ·exact wpAny_Name (wpAny_loadName_free I.ok.kind hk hc hcell fin hcd) hd
theorem ae{i j pos}:PE X (.Constant (.int i) j pos) (tC (.int i)):=λ_ _ _ H _ I h=>wpAny_Constant_int ⟨.int i,H,I.tok _,⟨_,rfl⟩,h⟩
theorem fG{b j pos}:PE X (.Constant (.bool b) j pos) (tC (.bl b)):=λ_ _ _ H _ I h=>Constant_bool ⟨.bl b,H,I,rfl,h⟩
theorem eG{j pos}:PE X (.Constant .none j pos) (tC .non):=λ_ _ _ H _ I h=>Constant_none ⟨.non,H,I,rfl,h⟩
def Gl(X:Cx)(x:Str):Prop:=X.env.kindOf x=some .globalImplicit
theorem eQ{E:Value->Shared->Prop}{pins:List (Addr×Obj)}{s:Shared}{σ:St}{H:Hp}{x:Str}{u:Value}{pos:Pos}{Q:Value->Shared->Prop}(I:Inv X pins σ H s)(hg:Gl X x)(hm:X.mg x=some u)(h:Q u s)
 (hd:(x == ("__debug__":Str))=false:=by decide):wpAny (model X.prog X.w) X.A (eval (.Name x pos) X.env) Q E s :=
 Calls.Name_function_global I.ok.kind hg (Calls.loadGlobal_global (by rw[I.ok.glob];exact I.mod.glob.keeps I.bk) hm h) hd
theorem eR{E:Value->Shared->Prop}{pins:List (Addr×Obj)}{s:Shared}{σ:St}{H:Hp}{x:Str}{u:Value}{pos:Pos}{Q:Value->Shared->Prop}(I:Inv X pins σ H s)(hg:Gl X x)(hm:X.mg x=none)(hv:bootBuiltins x=some u)(h:Q u s)
 (hn:x≠"__name__":=by decide) (hd:(x == ("__debug__":Str))=false:=by decide):wpAny (model X.prog X.w) X.A (eval (.Name x pos) X.env) Q E s:=by
 obtain⟨mb,h1,h2⟩:=I.mod.blt;exact Calls.Name_function_global I.ok.kind hg (Calls.loadGlobal_builtin (by rw[I.ok.glob];exact I.mod.glob.keeps I.bk) hm (by rw[I.ok.blt];exact h1.keeps I.bk) ((h2 x hn).trans hv) h) hd
theorem lw{x:Str}{v:V}{u:Value}{pos:Pos}(hg:Gl X x)(hm:X.mg x=some u)(r:RelV v u)(hd:(x == ("__debug__":Str))=false:=by decide):PE X (.Name x pos) (tC v) :=
 λ_ _ _ H _ I h=>eQ I hg hm ⟨v,H,I,r,h⟩ hd
theorem oh{x:Str}{v:V}{u:Value}{pos:Pos}(hg:Gl X x)(hm:X.mg x=none)(hv:bootBuiltins x=some u)(r:RelV v u)(hn:x≠"__name__":=by decide)(hd:(x == ("__debug__":Str))=false:=by decide):PE X (.Name x pos) (tC v) :=
 λ_ _ _ H _ I h=>eR I hg hm hv ⟨v,H,I,r,h⟩ hn hd
variable {a b:Expr}{ta tb:TE}{pos:Pos}
def tB(t:TE):TT:=λσ H Q=>t σ H λx H1=>∃c,x=.bl c/\Q c H1
theorem db{e:Expr}{t:TE}(h:PE X e t)(he:∀whole,isTrue e X.env whole=(do let v <- whole;standAt e.pos;holding [v] (truthy v)):=by intro _;rfl):PT X e (tB t):=by intro pins s σ H Q I hw;refine isTrue_plain (thn (h pins s σ H _ I hw) λv s1 ⟨x,H1,I1,r1,q1⟩=>?_) (he _);obtain⟨d,rfl,q⟩:=q1;cases r1;exact wpAny_truthy_bool ⟨H1,I1,q⟩
variable {tA tB':TT}{rest:List Expr}
def pP(t u:TT):TT:=λσ H Q=>t σ H λc H1=>if c=true then u σ H1 Q else Q false H1
def tOr(t u:TT):TT:=λσ H Q=>t σ H λc H1=>if c=true then Q true H1 else u σ H1 Q
def vD(t:TT):TT:=λσ H Q=>t σ H λc H1=>Q (!c) H1
theorem fz(ha:PT X a tA):PW X (.BoolOp .And [a] pos) tA:=by
 intro wh pins s σ H Q I h;refine isTrue_and (thn (ha pins s σ H Q I h) λc s1 e=>?_);cases c with
 |true=>exact isTrue_and_nil e
 |false=>exact e
theorem gv(ha:PT X a tA):PW X (.BoolOp .Or [a] pos) tA:=by
 intro wh pins s σ H Q I h;refine isTrue_or (thn (ha pins s σ H Q I h) λc s1 e=>?_);cases c with
 |false=>exact isTrue_or_nil e
 |true=>exact e
theorem fA(ha:PT X a tA)(hb:PW X (.BoolOp .And (b::rest) pos) tB'):PW X (.BoolOp .And (a::b::rest) pos) (pP tA tB'):=by
 intro wh pins s σ H Q I h;refine isTrue_and (thn (ha pins s σ H _ I h) λc s1 ⟨H1,I1,q1⟩=>?_);cases c with
 |true=>exact hb wh pins s1 σ H1 Q I1 q1
 |false=>exact⟨H1,I1,q1⟩
theorem ei(ha:PT X a tA)(hb:PW X (.BoolOp .Or (b::rest) pos) tB'):PW X (.BoolOp .Or (a::b::rest) pos) (tOr tA tB'):=by
 intro wh pins s σ H Q I h;refine isTrue_or (thn (ha pins s σ H _ I h) λc s1 ⟨H1,I1,q1⟩=>?_);cases c with
 |true=>exact⟨H1,I1,q1⟩
 |false=>exact hb wh pins s1 σ H1 Q I1 q1
theorem dN(ha:PT X a tA):PT X (.UnaryOp .Not a pos) (vD tA):=by intro pins s σ H Q I h;exact isTrue_not (ha pins s σ H (λc H1=>Q (!c) H1) I h)
def vI(ta tb:TE):TE:=λσ H Q=>ta σ H λx H1=>∃c,x=.bl c/\if c=true then tb σ H1 Q else Q (.bl false) H1
def vC(ta:TE):TE:=λσ H Q=>ta σ H λx H1=>∃c,x=.bl c/\Q (.bl (!c)) H1
theorem og{op}{t:TE}(h:PE X a t):PE X (.BoolOp op [a] pos) t:=λpins s σ H Q I hw=>BoolOp_one (h pins s σ H Q I hw)
theorem oi(ha:PE X a ta)(hb:PE X (.BoolOp .And (b::rest) pos) tb):PE X (.BoolOp .And (a::b::rest) pos) (vI ta tb):=by
 intro pins s σ H Q I h;refine BoolOp_and (thn (ha pins s σ H _ I h) λv s1 ⟨x,H1,I1,r1,q1⟩=>?_);obtain⟨c,rfl,q1⟩:=q1;cases r1;refine wpAny_truthy_bool ?_;cases c with
 |true=>exact hb pins s1 σ H1 Q I1 q1
 |false=>exact⟨.bl false,H1,I1,rfl,q1⟩
theorem xj(ha:PE X a ta):PE X (.UnaryOp .Not a pos) (vC ta):=by intro pins s σ H Q I h;refine UnaryOp_ (thn (ha pins s σ H _ I h) λv s1 ⟨x,H1,I1,r1,q1⟩=>?_);obtain⟨c,rfl,q1⟩:=q1;cases r1;exact not_of (wpAny_truthy_bool ⟨.bl (!c),H1,I1,rfl,q1⟩)
def tIf(t:TT)(ta tb:TE):TE:=λσ H Q=>t σ H λc H1=>if c=true then ta σ H1 Q else tb σ H1 Q
theorem rf{c:Expr}(hc:PT X c tA)(ha:PE X a ta)(hb:PE X b tb):PE X (.IfExp c a b pos) (tIf tA ta tb):=by
 intro pins s σ H Q I h;refine wpAny_IfExp (thn (hc pins s σ H _ I h) λd s1 ⟨H1,I1,q1⟩=>?_);cases d with
 |true=>exact ha pins s1 σ H1 Q I1 q1
 |false=>exact hb pins s1 σ H1 Q I1 q1
end
noncomputable def SqL(K:PySem.W.Frag)(H:Hp)(a:Addr)(xs:List V):Prop :=
 Rd H a (.lst xs) \/
  ∃(o:Obj) (its:Array Value) (n:Nat),K.lookup a=some o/\o.cls=.type "list"/\o.dict=none/\o.data=.seq its n/\its.size<=sizeLine/\Vals xs its.toList
noncomputable def SqT(K:PySem.W.Frag)(H:Hp)(a:Addr)(xs:List V):Prop :=
 Rd H a (.tup xs) \/
  ∃(o:Obj) (its:Array Value) (n:Nat),K.lookup a=some o/\o.cls=.type "tuple"/\o.data=.seq its n/\its.size<=sizeLine/\Vals xs its.toList
noncomputable def Lr:Value->Option V
 |.none=>some .non
 |.bool b=>some (.bl b)
 |.int i _=>some (.int i)
 |.str x _=>some (.str x)
 |.bytes b _=>some (.byt b)
 |.float b _=>some (.flt b)
 |.ref a=>some (.ref a)
 |.type n=>some (.ty n)
 |_=>none
theorem RelV.abs{x:V}{u:Value}(r:RelV x u):Lr u=some x:=by
 cases x with
 |non=>cases r;rfl
 |bl _=>cases r;rfl
 |int _=>obtain⟨t,rfl⟩:=r;rfl
 |str _=>obtain⟨t,rfl⟩:=r;rfl
 |byt _=>obtain⟨t,rfl⟩:=r;rfl
 |flt _=>obtain⟨t,rfl⟩:=r;rfl
 |ref _=>cases r;rfl
 |ty _=>cases r;rfl
theorem RelV.inj{x y:V}{u:Value}(r:RelV x u)(q:RelV y u):x=y:=Option.some.inj (r.abs.symm.trans q.abs)
theorem Vals.inj:∀{xs ys:List V} {us:List Value},Vals xs us->Vals ys us->xs=ys
 |_,_,_,.nil,.nil=>rfl
 |_,_,_,.cons r t,.cons r' t'=>by rw[r.inj r',Vals.inj t t']
section
variable {X:Cx}{pins:List (Addr×Obj)}{σ:St}{H:Hp}{s:Shared}{a:Addr}{xs ys:List V}
theorem SqL.of{K:PySem.W.Frag}(h:H a=some (.lst xs)):SqL K H a xs:=.inl (.inl h)
theorem SqT.of{K:PySem.W.Frag}(h:H a=some (.tup xs)):SqT K H a xs:=.inl (.inl h)
theorem Inv.list(I:Inv X pins σ H s)(h:SqL X.K H a xs):∃its:List Value,Vals xs its/\PlainL s.heap a its.toArray/\xs.length<=sizeLine:=by
 rcases h with h |⟨o,its,n,hk,hc,hd,hs,hz,r⟩
 ·obtain⟨z,its,n,r,e⟩:=h.ok I.hok;exact⟨its,r,⟨_,n,e,rfl,rfl,rfl⟩,z⟩
 ·refine⟨its.toList,r,⟨o,n,I.kIn a o hk,hc,hd,by simpa using hs⟩,?_⟩;have e:=r.length;simp only[Array.length_toList]at e;omega
theorem Inv.tuple(I:Inv X pins σ H s)(h:SqT X.K H a xs):∃its:List Value,Vals xs its/\IsTup s.heap a its.toArray/\xs.length<=sizeLine:=by
 rcases h with h |⟨o,its,n,hk,hc,hs,hz,r⟩
 ·obtain⟨z,its,r,p⟩:=h.ok I.hok;exact⟨its,r,p,z⟩
 ·refine⟨its.toList,r,⟨o,I.kIn a o hk,hc,n,by simpa using hs⟩,?_⟩;have e:=r.length;simp only[Array.length_toList]at e;omega
theorem Inv.list_inj(I:Inv X pins σ H s)(h:SqL X.K H a xs)(h':SqL X.K H a ys):xs=ys:=by
 obtain⟨its,r,⟨o,n,e,_,_,d⟩,_⟩:=I.list h;obtain⟨its',r',⟨o',n',e',_,_,d'⟩,_⟩:=I.list h';rw[e]at e';cases e';rw[d]at d'
 injection d' with d1 _
 have:its=its':=by simpa using congrArg Array.toList d1
 subst this;exact r.inj r'
theorem Inv.tuple_inj(I:Inv X pins σ H s)(h:SqT X.K H a xs)(h':SqT X.K H a ys):xs=ys:=by
 obtain⟨its,r,⟨o,e,_,n,d⟩,_⟩:=I.tuple h;obtain⟨its',r',⟨o',e',_,n',d'⟩,_⟩:=I.tuple h';rw[e]at e';cases e';rw[d]at d'
 injection d' with d1 _
 have:its=its':=by simpa using congrArg Array.toList d1
 subst this;exact r.inj r'
end
abbrev Cx.wish(X:Cx)(E:Value->Shared->Prop):Cx:={ X with xe:=E }
abbrev Cx.nox(X:Cx):Cx:=X.wish λ_ _=>False
theorem Cx.Ok.wish{X:Cx}(ok:X.Ok)(E:Value->Shared->Prop):(X.wish E).Ok :=
 ⟨ok.mod,ok.kind,ok.glob,ok.blt,ok.above,ok.inj,ok.has,ok.cab,ok.hd,ok.frames,ok.stk,ok.exf,ok.bs,ok.bsz,ok.noex,ok.exfs,ok.funs,ok.frf⟩
theorem Cx.Ok.unwish{X:Cx}{E:Value->Shared->Prop}(ok:(X.wish E).Ok):X.Ok :=
 ⟨ok.mod,ok.kind,ok.glob,ok.blt,ok.above,ok.inj,ok.has,ok.cab,ok.hd,ok.frames,ok.stk,ok.exf,ok.bs,ok.bsz,ok.noex,ok.exfs,ok.funs,ok.frf⟩
section
variable {X:Cx}{pins:List (Addr×Obj)}{σ:St}{H:Hp}{s:Shared}{E:Value->Shared->Prop}
theorem Inv.wish(I:Inv X pins σ H s)(E:Value->Shared->Prop):Inv (X.wish E) pins σ H s:=⟨I.ok.wish E,I.os,I.bare,I.base,I.loc,I.cell,I.free,I.freeC,I.pin,I.hok,I.len⟩
theorem Inv.unwish(I:Inv (X.wish E) pins σ H s):Inv X pins σ H s:=⟨I.ok.unwish,I.os,I.bare,I.base,I.loc,I.cell,I.free,I.freeC,I.pin,I.hok,I.len⟩
theorem SP.unwish{D:Ends}{f:Flow}{s':Shared}(h:SP (X.wish E) pins D f s'):SP X pins D f s':=by
 cases f with
 |next=>obtain⟨σ',H',I,q⟩:=h;exact⟨σ',H',I.unwish,q⟩
 |brk=>obtain⟨σ',H',I,q⟩:=h;exact⟨σ',H',I.unwish,q⟩
 |cont=>obtain⟨σ',H',I,q⟩:=h;exact⟨σ',H',I.unwish,q⟩
 |ret u=>obtain⟨v,σ',H',I,r,q⟩:=h;exact⟨v,σ',H',I.unwish,r,q⟩
theorem PE.nox{e:Expr}{t:TE}(h:PE X.nox e t):PE X e t:=λpins s σ H Q I hw =>wpAny_mono (h pins s σ H Q (I.wish _) hw) (λ_ _ ⟨v,H',I',r,q⟩=>⟨v,H',I'.unwish,r,q⟩) λ_ _ z=>False.elim z
theorem PT.nox{e:Expr}{t:TT}(h:PT X.nox e t):PT X e t:=λpins s σ H Q I hw =>wpAny_mono (h pins s σ H Q (I.wish _) hw) (λ_ _ ⟨H',I',q⟩=>⟨H',I'.unwish,q⟩) λ_ _ z=>False.elim z
theorem PSs.nox{st:List Stmt}{t:TS}(h:PSs X.nox st t):PSs X st t:=λpins s σ H D I hw =>wpAny_mono (h pins s σ H D (I.wish _) hw) (λ_ _ q=>q.unwish) λ_ _ z=>False.elim z
end
section
variable {X:Cx}{st:Stmt}{rest:List Stmt}{t u:TS}{e:Expr}{te:TE}{pos:Pos}
def pO:TS:=λD σ H=>D.nx σ H
def cD(t u:TS):TS:=λD σ H=>t { D with nx:=u D } σ H
theorem aP:PSs X [] pO:=λ_ _ σ H _ I h=>wpAny_execs_nil ⟨σ,H,I,h⟩
theorem af(h1:PS X st t)(h2:PSs X rest u):PSs X (st::rest) (cD t u):=by
 intro pins s σ H D I h;refine wpAny_execs_cons (thn (h1 pins s σ H { D with nx:=u D } I h) λf s1 q=>?_);cases f with
 |next =>obtain⟨σ',H',I',q⟩:=q;exact h2 pins s1 σ' H' D I' q
 |ret v=>exact q
 |brk=>exact q
 |cont=>exact q
theorem ah(h1:PS X st t):PSs X [st] t:=by
 intro pins s σ H D I h;refine wpAny_execs_cons (thn (h1 pins s σ H D I h) λf s1 q=>?_);cases f with
 |next=>exact wpAny_execs_nil q
 |ret v=>exact q
 |brk=>exact q
 |cont=>exact q
theorem Inv.quiet{pins:List (Addr×Obj)}{σ:St}{H:Hp}{s:Shared}(I:Inv X pins σ H s):interactive X.env=false:=by simp[interactive,I.ok.kind]
def m6(te:TE):TS:=λD σ H=>te σ H λ_ H1=>D.nx σ H1
theorem eu(he:PE X e te)(hs:swapsWith e none pos.line X.env=pure false:=by rfl):PS X (.Expr e pos) (m6 te):=by intro pins s σ H D I h;exact wpAny_Expr_any (thn (he pins s σ H _ I h) λv s1 ⟨x,H1,I1,r1,q1⟩=>⟨σ,H1,I1,q1⟩) I.quiet hs
def m5(te:TE):TS:=λD σ H=>te σ H D.rt
theorem aw(he:PE X e te):PS X (.Return (some e) pos) (m5 te):=by intro pins s σ H D I h;exact wpAny_Return_some (thn (he pins s σ H _ I h) λv s1 ⟨x,H1,I1,r1,q1⟩=>⟨x,σ,H1,I1,r1,q1⟩)
def dY(c:TT)(t u:TS):TS:=λD σ H=>c σ H λb H1=>if b=true then t D σ H1 else u D σ H1
theorem aO{c:Expr}{a b:List Stmt}{tc:TT}(hc:PT X c tc)(ha:PSs X a t)(hb:PSs X b u):PS X (.If c a b pos) (dY tc t u):=by
 intro pins s σ H D I h;refine wpAny_If (thn (hc pins s σ H _ I h) λd s1 ⟨H1,I1,q1⟩=>?_);cases d with
 |true=>exact ha pins s1 σ H1 D I1 q1
 |false=>exact hb pins s1 σ H1 D I1 q1
def Bq:TS:=λ_ _ _=>False
theorem nX:PS X st Bq:=λ_ _ _ _ _ _ h=>h.elim
end
abbrev TG:=V->St->Hp->(St->Hp->Prop)->Prop
abbrev TGs:=List V->St->Hp->(St->Hp->Prop)->Prop
noncomputable def PG(X:Cx)(target:Expr)(t:TG):Prop :=
 ∀(pins:List (Addr×Obj)) (s:Shared) (σ:St) (H:Hp) (v:V) (u:Value) (Q:St->Hp->Prop),Inv X pins σ H s->RelV v u->t v σ H Q ->
  wpAny (model X.prog X.w) X.A (assign target X.env u) (λ_ s'=>∃σ' H',Inv X pins σ' H' s'/\Q σ' H') X.xe s
noncomputable def PGs(X:Cx)(ts:List Expr)(t:TGs):Prop :=
 ∀(pins:List (Addr×Obj)) (s:Shared) (σ:St) (H:Hp) (vs:List V) (us:List Value) (Q:St->Hp->Prop),Inv X pins σ H s->Vals vs us->t vs σ H Q ->
  wpAny (model X.prog X.w) X.A (assignInOrder ((assignEach ts X.env).map (·.2)) us) (λ_ s'=>∃σ' H',Inv X pins σ' H' s'/\Q σ' H') X.xe s
abbrev uD:=V->V->V->Hp->(Hp->Prop)->Prop
noncomputable def As(X:Cx)(t:uD):Prop :=
 ∀(pins:List (Addr×Obj)) (s:Shared) (σ:St) (H:Hp) (o i v:V) (ov iv u:Value) (Q:Hp->Prop),Inv X pins σ H s->RelV o ov->RelV i iv->RelV v u->t o i v H Q ->
  wpAny (model X.prog X.w) X.A (setItem ov iv u) (λ_ s'=>∃H',Inv X pins σ H' s'/\Q H') X.xe s
section
variable {X:Cx}{pos:Pos}
def gP(i:Nat):TG:=λv σ H Q=>Q (σ.set i (some v)) H
theorem aU{i:Nat}{x:Str}(hN:X.N.Nodup)(hi:X.N[i]?=some x)(hx:Loc X.env.scope x)(hf:X.fn x=true\/X.env.scope.names.lookup x=some .local:=by first |exact .inl rfl |exact .inr rfl |assumption):PG X (.Name x pos) (gP i):=by intro pins s σ H v u Q I r h;exact wpAny_assign_Name (kE I hN hi hx r (λs' I'=>⟨_,H,I',h⟩) hf)
noncomputable def Ib:TGs:=λvs σ H Q=>vs=[]/\Q σ H
noncomputable def Ie(t:TG)(u:TGs):TGs:=λvs σ H Q=>∃v r,vs=v::r/\t v σ H λσ' H'=>u r σ' H' Q
theorem ln:PGs X [] Ib:=by intro pins s σ H vs us Q I r h;obtain⟨e,h⟩:=h;subst e;cases r;exact assignInOrder_nil ⟨σ,H,I,h⟩
theorem dB{e:Expr}{es:List Expr}{t:TG}{u:TGs}(h1:PG X e t)(h2:PGs X es u)
 (hs:(assignEach (e::es) X.env).map (·.2)=assign e X.env::(assignEach es X.env).map (·.2):=by rfl):PGs X (e::es) (Ie t u):=by
 intro pins s σ H vs us Q I r h;obtain⟨v,vr,e1,h⟩:=h;subst e1;cases r with
 |cons r rr =>rw[hs];refine assignInOrder_cons (thn (h1 pins s σ H _ _ _ I r h) λ_ s1 ⟨σ1,H1,I1,q1⟩=>?_);exact h2 pins s1 σ1 H1 _ _ Q I1 rr q1
def HZ(K:PySem.W.Frag)(n:Nat)(t:TGs):TG:=λv σ H Q=>∃a xs,v=.ref a/\SqT K H a xs/\xs.length=n/\t xs σ H Q
theorem n9{es:List Expr}{k:Nat}{t:TGs}{n:Nat}(hc:X.calm=true)(h:PGs X es t)
 (hn:(assignEach es X.env).length=n:=by rfl) (hst:(assignEach es X.env).findIdx? (·.1)=none:=by rfl):PG X (.Tuple es k pos) (HZ X.K n t):=by
 intro pins s σ H v u Q I r hw;obtain⟨a,xs,e1,hq,hl,hw⟩:=hw;subst e1;cases r;obtain⟨its,rv,ht,hz⟩:=I.tuple hq;refine assign_Tuple_tuple (I.ok.hd hc) ht (by simp[hn,<- hl,rv.length]) hst λh' hx=>?_
 have I1:Inv X pins σ H { s with heap:=h' }:=I.kept (t':=s.toks) λb o e=>hx b o (Ng (Heap.lt_size e)) e
 exact h pins _ σ H xs _ Q I1 (by simpa using rv) hw
def Ia(to ti:TE)(t:uD):TG:=λv σ H Q=>to σ H λo H1=>ti σ H1 λi H2=>t o i v H2 λH3=>Q σ H3
theorem lu{o i:Expr}{to ti:TE}{t:uD}(ho:PE X o to)(hi:PE X i ti)(hs:As X t)
 (ha:∀v,assign (.Subscript o i pos) X.env v=(do
   let ov <- holding [v] (eval o X.env)
   let iv <- holding [v,ov] (eval i X.env)
   standAt pos
   holding [v,ov,iv] (setItem ov iv v)
   release [v,ov,iv] []):=by intro _;rfl):PG X (.Subscript o i pos) (Ia to ti t):=by
 intro pins s σ H v u Q I r h;rw[ha];refine wpAny_bind (wpAny_holding (thn (ho pins s σ H _ I h) λov s1 ⟨x,H1,I1,r1,q1⟩=>?_));refine wpAny_bind (wpAny_holding (thn (hi pins s1 σ H1 _ I1 q1) λiv s2 ⟨y,H2,I2,r2,q2⟩=>?_));refine wpAny_bind (wpAny_standAt (wpAny_bind (wpAny_holding (thn (hs pins s2 σ H2 x y v ov iv u _ I2 r1 r2 r q2) λ_ s3 ⟨H3,I3,q3⟩=>?_))));exact wpAny_release ⟨σ,H3,I3,q3⟩
def fY(te:TE)(g:TG):TS:=λD σ H=>te σ H λx H1=>g x σ H1 D.nx
theorem jT{tg e:Expr}{te:TE}{g:TG}(he:PE X e te)(hg:PG X tg g)(hs:swapsWithSole [tg] e pos.line X.env=pure false:=by rfl)(hw:swappedStores [tg] e X.env=pure none:=by rfl)
 (h1:(assignEach [tg] X.env).map (·.2)=[assign tg X.env]:=by rfl):PS X (.Assign [tg] e pos) (fY te g):=by
 intro pins s σ H D I h;refine wpAny_Assign_stores (thn (he pins s σ H _ I h) λv s1 ⟨x,H1,I1,r1,q1⟩=>?_) hs hw;rw[h1];exact thn (hg pins s1 σ H1 x v _ I1 r1 q1) λ_ s2 q=>q
theorem aj{i:Nat}{x:Str}{e:Expr}{te:TE}{pos':Pos}(hN:X.N.Nodup)(hi:X.N[i]?=some x)(hx:Loc X.env.scope x)(he:PE X e te)(hs:swapsWith e (some (.Name x pos')) pos.line X.env=pure false:=by rfl)(hf:X.fn x=true\/X.env.scope.names.lookup x=some .local:=by first |exact .inl rfl |exact .inr rfl |assumption) :
 PS X (.Assign [.Name x pos'] e pos) (fY te (gP i)):=by
 intro pins s σ H D I h;refine wpAny_Assign_Name (thn (he pins s σ H _ I h) λv s1 ⟨y,H1,I1,r1,q1⟩=>?_) hs;exact kE I1 hN hi hx r1 (λs2 I2=>⟨_,H1,I2,q1⟩) hf
end
section
variable {X:Cx}{pos:Pos}
def Bi(c:TT)(tb:TS):TS:=λD σ H=>∃W:Nat->St->Hp->Prop,(∃m,W m σ H)/\∀m σ H,W m σ H ->
 c σ H λb H1=>if b=true then ∃N:St->Hp->Prop,(∀σ' H',N σ' H'->∃m',m'<m/\W m' σ' H')/\tb { D with nx:=N,ct:=N,bk:=D.nx } σ H1 else D.nx σ H1
theorem fB{c:Expr}{body:List Stmt}{tc:TT}{tb:TS}(hp:PassesOwn (model X.prog X.w) X.A X.env X.xe)(hc:PT X c tc)(hb:PSs X body tb):PS X (.While c body [] pos) (Bi tc tb):=by
 intro pins s σ H D I h;obtain⟨W,⟨m0,w0⟩,turn⟩:=h;refine wpAny_While (codeAny_whileLoop (λn s'=>∃σ' H',Inv X pins σ' H' s'/\W n σ' H') ?_ m0 ⟨σ,H,I,w0⟩);rintro n s1 ⟨σ1,H1,I1,w1⟩;refine wpAny_passesOwn hp (thn (hc pins s1 σ1 H1 _ I1 (turn n σ1 H1 w1)) λb s2 ⟨H2,I2,q2⟩=>?_);cases b with
 |true =>
  obtain⟨N,hN,q2⟩:=q2;rw[if_pos rfl];refine wpAny_passesOwn hp (thn (hb pins s2 σ1 H2 _ I2 q2) λf s3 q3=>?_);cases f with
  |next =>obtain⟨σ3,H3,I3,n3⟩:=q3;obtain⟨m',hm,w3⟩:=hN σ3 H3 n3;exact⟨m',hm,σ3,H3,I3,w3⟩
  |cont =>obtain⟨σ3,H3,I3,n3⟩:=q3;obtain⟨m',hm,w3⟩:=hN σ3 H3 n3;exact⟨m',hm,σ3,H3,I3,w3⟩
  |brk=>exact q3
  |ret v=>exact q3
 |false =>rw[if_neg NU];exact wpAny_execs_nil ⟨σ1,H2,I2,q2⟩
end
structure It where
 go:Nat->Hp->Prop
 yld:Nat->Hp->V->Hp->Prop
 stop:Nat->Hp->Prop
noncomputable def dW(X:Cx)(pins:List (Addr×Obj))(H:Hp)(b:Addr):Prop :=
 H b=none/\b≠X.env.locals/\b∉X.fs/\(b∈X.ex\/X.s₀.heap.objs.size<=b)/\(∀x c,X.env.cells.lookup x=some c->c≠b)/\∀p∈X.pn++pins,p.1≠b
theorem Inv.fpOk{X:Cx}{pins:List (Addr×Obj)}{σ:St}{H H':Hp}{s:Shared}{b:Addr}(I:Inv X pins σ H s)(hb:s.heap.objs.size<=b)(hn:H' b=none):dW X pins H' b:=by
 refine⟨hn,Nat.ne_of_gt (Nl I.lt hb),I.nofs hb,.inr (Nb I.sz hb),λx c e z=>?_,λp hp z=>?_⟩
 ·obtain⟨v,q⟩:=I.cell x c e;exact absurd (Nl q.lt (by rw[z];exact hb)) (NI _)
 ·exact absurd (Nl (Heap.lt_size (I.pin p hp).1) (by rw[z];exact hb)) (NI _)
structure Turn(P:Program)(w:World)(K:PySem.W.Frag)(tg:Expr)(J:It)(fp:List Addr)(it:Addr)(tn:Nat->Heap->Prop):Prop where
 mem:it∈fp
 obj:∀i h,tn i h->∀b∈fp,∃o,h.get? b=some o/\∀v,o.data≠.cell v
 keep:∀i h h',tn i h->(∀b∈fp,∀o,h.get? b=some o->h'.get? b=some o)->tn i h'
 item:∀(X:Cx),X.prog=P->X.w=w->X.K=K->X.calm=true->∀(i:Nat) (pins:List (Addr×Obj)) (s:Shared) (σ:St) (H:Hp) (E:Value->Shared->Prop),Inv X pins σ H s->(∀b∈fp,dW X pins H b)->tn i s.heap->J.go i H ->
  wpAny (model P w) X.A (pyNext (.ref it)) (λr s1=>∃u,r=some u /\
   wpAny (model P w) X.A (letOwnedTupleGo tg (.ref it) u) (λ_ s2=>∃x H',Inv X pins σ H' s2/\RelV x u/\J.yld i H x H'/\tn (i+1) s2.heap/\∀b∈fp,H' b=none) E s1) E s
 done:∀(X:Cx),X.prog=P->X.w=w->X.K=K->X.calm=true->∀(i:Nat) (pins:List (Addr×Obj)) (s:Shared) (σ:St) (H:Hp) (E:Value->Shared->Prop),Inv X pins σ H s->(∀b∈fp,dW X pins H b)->tn i s.heap->J.stop i H ->
  wpAny (model P w) X.A (pyNext (.ref it)) (λr s1=>r=none/\Inv X pins σ H s1) E s
 self:∀(A:Around) (i:Nat) (s:Shared) (Q:Value->Shared->Prop) (E:Value->Shared->Prop),tn i s.heap->Q (.ref it) s->wpAny (model P w) A (pyIter (.ref it)) Q E s
abbrev TI:=St->Hp->(It->Hp->Prop)->Prop
noncomputable def PIE(X:Cx)(pins:List (Addr×Obj))(σ:St)(tg:Expr)(R:It->Hp->Prop)(itv:Value)(s2:Shared):Prop :=
 ∃(it:Addr) (fp:List Addr) (tn:Nat->Heap->Prop) (J:It) (H':Hp),itv=.ref it/\Inv X pins σ H' s2/\Turn X.prog X.w X.K tg J fp it tn/\tn 0 s2.heap/\(∀b∈fp,dW X pins H' b)/\R J H'
noncomputable def PI(X:Cx)(tg iter:Expr)(wi:TI):Prop :=
 ∀(pins:List (Addr×Obj)) (s:Shared) (σ:St) (H:Hp) (R:It->Hp->Prop),Inv X pins σ H s->wi σ H R ->
  wpAny (model X.prog X.w) X.A (eval iter X.env) (λv s1=>wpAny (model X.prog X.w) X.A (pyIter v) (PIE X pins σ tg R) X.xe s1) X.xe s
theorem lR{M:Model}{A:Around}{E:Value->Shared->Prop}{s:Shared}{tg:Expr}{it:Addr}{u:Value}{o:Obj}{n:String}{vs:Array Value}{Q:Unit->Shared->Prop}(ho:s.heap.get? it=some o)(hc:o.cls=.type n)(hd:o.data=.fields vs)
 (hn:["enumerate","zip","dict_itemiterator","dict_reverseitemiterator","odict_iterator","itertools.zip_longest","itertools.pairwise"].contains n=false) (hQ:Q () s):wpAny M A (letOwnedTupleGo tg (.ref it) u) Q E s:=by
 unfold letOwnedTupleGo
 cases tg<;>first
  |exact wpAny_pure hQ
  | (cases u<;>first
      |exact wpAny_pure hQ
      | (refine wpAny_bind (wpAny_load ho ?_)
         rw[hc,hd];show wpAny M A (if(["enumerate","zip","dict_itemiterator","dict_reverseitemiterator","odict_iterator","itertools.zip_longest","itertools.pairwise"].contains n&&vs[0]? == some (rawInt _))=true then _ else _) Q E s;rw[if_neg (by intro h;rw[hn,Bool.false_and]at h;cases h)]
         exact wpAny_pure hQ))
noncomputable def Itl(K:PySem.W.Frag)(a:Addr):It :=
 ⟨λi H=>∃xs x,SqL K H a xs/\xs[i]?=some x,λi H x H'=>H'=H/\∀xs,SqL K H a xs->xs[i]?=some x,λi H=>∃xs,SqL K H a xs/\xs.length<=i⟩
noncomputable def Itt(K:PySem.W.Frag)(a:Addr):It :=
 ⟨λi H=>∃xs x,SqT K H a xs/\xs[i]?=some x,λi H x H'=>H'=H/\∀xs,SqT K H a xs->xs[i]?=some x,λi H=>∃xs,SqT K H a xs/\xs.length<=i⟩
noncomputable def Itr(lo:Int)(n:Nat):It:=⟨λi _=>i<n,λi H x H'=>H'=H/\x=.int (lo+i),λi _=>n<=i⟩
theorem AY{P:Program}{w:World}{K:PySem.W.Frag}{tg:Expr}(a it:Addr):Turn P w K tg (Itl K a) [it] it (λi h=>h.IsListIter it a i) where
 mem:=by simp
 obj:=λi h st b hb=>by
  have e:b=it:=by simpa using hb
  subst e;obtain⟨o,e,c,d⟩:=st;exact⟨o,e,λv z=>by rw[d]at z;cases z⟩
 keep:=λi h h' st k=>st.at λo e=>k it (by simp) o e
 item:=by
  intro X hP hw hK hc i pins s σ H E I hf st hg;subst hP hw hK;obtain⟨xs,x,hq,hx⟩:=hg;obtain⟨its,rv,p,hz⟩:=I.list hq;obtain⟨u,hu,ru⟩:=rv.get hx;obtain⟨f0,f1,f2,f3,f4,f5⟩:=hf it (by simp);refine wpAny_pyNext_list_item st p.isList (x:=u) (by simpa using hu) λh' st' sb=>?_
  have I1:Inv X pins σ H { s with heap:=h' }:=I.turned (t':=s.toks) (λb o hb e=>(sb.2 b hb).trans e) f0 f1 f3 f4 f5;obtain⟨o,e,c,d⟩:=id st';exact⟨u,rfl,lR (s:={ s with heap:=h' }) e c d (by decide) ⟨x,H,I1,ru,⟨rfl,λys hy=>by rw[I.list_inj hy hq];exact hx⟩,st',λb hb=>(hf b hb).1⟩⟩
 done:=by intro X hP hw hK hc i pins s σ H E I hf st hg;subst hP hw hK;obtain⟨xs,hq,hx⟩:=hg;obtain⟨its,rv,p,hz⟩:=I.list hq;obtain⟨f0,f1,f2,f3,f4,f5⟩:=hf it (by simp);have hl:=rv.length;exact wpAny_pyNext_list_end (I.ok.hd hc) st p.isList (by simp;omega) λh' eb=>⟨rfl,I.turned (t':=s.toks) (λb o hb e=>eb b o hb e) f0 f1 f3 f4 f5⟩
 self:=λ_ _ _ _ _ st h=>wpAny_pyIter_listiter st h
theorem AU{P:Program}{w:World}{K:PySem.W.Frag}{tg:Expr}(a it:Addr):Turn P w K tg (Itt K a) [it] it (λi h=>h.IsTupleIter it a i) where
 mem:=by simp
 obj:=λi h st b hb=>by
  have e:b=it:=by simpa using hb
  subst e;obtain⟨o,e,c,d⟩:=st;exact⟨o,e,λv z=>by rw[d]at z;cases z⟩
 keep:=λi h h' st k=>st.at λo e=>k it (by simp) o e
 item:=by
  intro X hP hw hK hc i pins s σ H E I hf st hg;subst hP hw hK;obtain⟨xs,x,hq,hx⟩:=hg;obtain⟨its,rv,p,hz⟩:=I.tuple hq;obtain⟨u,hu,ru⟩:=rv.get hx;obtain⟨f0,f1,f2,f3,f4,f5⟩:=hf it (by simp);refine wpAny_pyNext_tuple_item st (show s.heap.IsTuple a its.toArray from p) (x:=u) (by simpa using hu) λh' st' sb=>?_
  have I1:Inv X pins σ H { s with heap:=h' }:=I.turned (t':=s.toks) (λb o hb e=>(sb.2 b hb).trans e) f0 f1 f3 f4 f5;obtain⟨o,e,c,d⟩:=id st';exact⟨u,rfl,lR (s:={ s with heap:=h' }) e c d (by decide) ⟨x,H,I1,ru,⟨rfl,λys hy=>by rw[I.tuple_inj hy hq];exact hx⟩,st',λb hb=>(hf b hb).1⟩⟩
 done:=by intro X hP hw hK hc i pins s σ H E I hf st hg;subst hP hw hK;obtain⟨xs,hq,hx⟩:=hg;obtain⟨its,rv,p,hz⟩:=I.tuple hq;obtain⟨f0,f1,f2,f3,f4,f5⟩:=hf it (by simp);have hl:=rv.length;exact wpAny_pyNext_tuple_end (I.ok.hd hc) st (show s.heap.IsTuple a its.toArray from p) (by simp;omega) λh' eb=>⟨rfl,I.turned (t':=s.toks) (λb o hb e=>eb b o hb e) f0 f1 f3 f4 f5⟩
 self:=λ_ _ _ _ _ st h=>wpAny_pyIter_tupleiter st h
theorem AX{P:Program}{w:World}{K:PySem.W.Frag}{tg:Expr}(it:Addr)(lo:Int)(n:Nat):Turn P w K tg (Itr lo n) [it] it (λi h=>IsRangeIter h it (lo+(i:Nat)*1) ((n:Int)-(i:Nat)) 1) where
 mem:=by simp
 obj:=λi h st b hb=>by
  have e:b=it:=by simpa using hb
  subst e
  exact⟨_,st,λv z=>by
   have z':Data.fields _=Data.cell v:=z
   cases z'⟩
 keep:=λi h h' st k=>k it (by simp) _ st
 item:=by
  intro X hP hw hK hc i pins s σ H E I hf st hg;subst hP hw hK;obtain⟨f0,f1,f2,f3,f4,f5⟩:=hf it (by simp);have W:=Walks.range (prog:=X.prog) (w:=X.w) (I.ok.hd hc) it lo 1 n;refine W.item i s _ _ hg st λv h' tk hv st' kk=>?_
  obtain⟨t,rfl⟩:=hv;have I1:Inv X pins σ H { s with heap:=h',toks:=tk }:=I.turned (λb o hb e=>kk b o (by simpa using hb) e) f0 f1 f3 f4 f5;refine⟨_,rfl,lR (s:={ s with heap:=h',toks:=tk }) (n:="range_iterator") st' rfl rfl (by decide) ⟨.int (lo+i),H,I1,⟨t,?_⟩,⟨rfl,rfl⟩,st',λb hb=>(hf b hb).1⟩⟩;rw[NJ]
 done:=by intro X hP hw hK hc i pins s σ H E I hf st hg;subst hP hw hK;obtain⟨f0,f1,f2,f3,f4,f5⟩:=hf it (by simp);exact wpAny_pyNext_range_end (I.ok.hd hc) st (by have:n<=i:=hg;omega) λh' eb=>⟨rfl,I.turned (t':=s.toks) (λb o hb e=>eb b o hb e) f0 f1 f3 f4 f5⟩
 self:=λ_ _ _ _ _ st h=>wpAny_pyIter_rangeiter st h
section
variable {X:Cx}{tg:Expr}
def yE(K:PySem.W.Frag)(tl:TE):TI:=λσ H R=>tl σ H λx H1=>∃a,x=.ref a/\(∃xs,SqL K H1 a xs)/\R (Itl K a) H1
def yD(K:PySem.W.Frag)(tl:TE):TI:=λσ H R=>tl σ H λx H1=>∃a,x=.ref a/\(∃xs,SqT K H1 a xs)/\R (Itt K a) H1
theorem DI{l:Expr}{tl:TE}(hl:PE X l tl):PI X tg l (yE X.K tl):=by
 intro pins s σ H R I h;refine thn (hl pins s σ H _ I h) λv s1 ⟨x,H1,I1,r1,q1⟩=>?_
 obtain⟨a,e,⟨xs,hq⟩,q⟩:=q1;subst e;cases r1;obtain⟨its,rv,p,hz⟩:=I1.list hq;refine wpAny_pyIter_list p.isList ?_;refine⟨s1.heap.objs.size,[s1.heap.objs.size],_,_,H1,rfl,I1.kept (t':=s1.toks) λb o e=>Heap.get?_push_of_some _ e,AY a _,⟨_,Heap.get?_push_size _ rfl,rfl,rfl⟩,λb hb=>?_,q⟩;have e:b=s1.heap.objs.size:=by simpa using hb
 subst e;exact I1.fpOk (M0 _) (I1.hok.fresh (M0 _))
theorem DG{l:Expr}{tl:TE}(hl:PE X l tl):PI X tg l (yD X.K tl):=by
 intro pins s σ H R I h;refine thn (hl pins s σ H _ I h) λv s1 ⟨x,H1,I1,r1,q1⟩=>?_
 obtain⟨a,e,⟨xs,hq⟩,q⟩:=q1;subst e;cases r1;obtain⟨its,rv,p,hz⟩:=I1.tuple hq;refine wpAny_pyIter_tuple (show s1.heap.IsTuple a its.toArray from p) ?_;refine⟨s1.heap.objs.size,[s1.heap.objs.size],_,_,H1,rfl,I1.kept (t':=s1.toks) λb o e=>Heap.get?_push_of_some _ e,AU a _,⟨_,Heap.get?_push_size _ rfl,rfl,rfl⟩,λb hb=>?_,q⟩;have e:b=s1.heap.objs.size:=by simpa using hb
 subst e;exact I1.fpOk (M0 _) (I1.hok.fresh (M0 _))
theorem wG{pins:List (Addr×Obj)}{σ:St}{H:Hp}{s:Shared}{R:It->Hp->Prop}{E:Value->Shared->Prop}{lo hi:Int}{t u v:Tok}{tk:Nat}(I:Inv X pins σ H s)(h1 : -(2^62)<=lo)(h2:lo<2^62)(h3 : -(2^62)<=hi)(h4:hi<2^62)
 (q:R (Itr lo (hi-lo).toNat) H):wpAny (model X.prog X.w) X.A (pyIter (.ref s.heap.objs.size)) (PIE X pins σ tg R) E { s with heap:=s.heap.push { cls:=.type "range",data:=.fields #[.int lo t,.int hi u,.int 1 v] },toks:=tk }:=by
 refine wpAny_pyIter_range (IsRange.new ..) (small_one h1 h2 h3 h4) ?_;have I1:Inv X pins σ H { s with heap:=s.heap.push { cls:=.type "range",data:=.fields #[.int lo t,.int hi u,.int 1 v] },toks:=tk }:=I.kept λb o e=>Heap.get?_push_of_some _ e
 refine⟨(s.heap.push { cls:=.type "range",data:=.fields #[.int lo t,.int hi u,.int 1 v] }).objs.size,[(s.heap.push { cls:=.type "range",data:=.fields #[.int lo t,.int hi u,.int 1 v] }).objs.size],_,_,H,rfl,
  I1.kept (t':=tk) λb o e=>Heap.get?_push_of_some _ e,AX _ lo (hi-lo).toNat,?_,λb hb=>?_,q⟩
 ·have e1:lo+((0:Nat):Int)*1=lo:=by simp
  have e2:(((hi-lo).toNat:Nat):Int)-((0:Nat):Int)=Builtin.Range.rangeSize lo hi 1:=by rw[rangeSize_one];split<;>omega
  show IsRangeIter _ _ (lo+((0:Nat):Int)*1) ((((hi-lo).toNat:Nat):Int)-((0:Nat):Int)) 1;rw[e1,e2];exact Heap.get?_push_size _ rfl
 ·have e:b=(s.heap.push { cls:=.type "range",data:=.fields #[.int lo t,.int hi u,.int 1 v] }).objs.size:=by simpa using hb
  subst e;exact I1.fpOk (M0 _) (I1.hok.fresh (M0 _))
def HC(ta:TA):TI:=λσ H R=>ta σ H λvs H1=>∃j:Int,vs=[.int j] /\ -(2^62)<=j/\j<2^62/\R (Itr 0 j.toNat) H1
def HB(ta:TA):TI:=λσ H R=>ta σ H λvs H1=>∃i j:Int,vs=[.int i,.int j]/\(-(2^62)<=i/\i<2^62 /\ -(2^62)<=j/\j<2^62)/\R (Itr i (j-i).toNat) H1
theorem fC{a:Expr}{ta:TA}{p pos:Pos}(hg:Gl X "range")(hm:X.mg "range"=none)(ha:PA X [a] ta)(hs:starEach [a] X.env=[(false,eval a X.env)]:=by rfl):PI X tg (.Call (.Name "range" p) [a] [] pos) (HC ta):=by
 intro pins s σ H R I h;refine Call_ (eR I hg hm boot_range (PyProof.Rows.callWith_type1 (thn (ha pos pins s σ H _ I h) λus s1 ⟨vs,H1,I1,r1,q1⟩=>?_) hs rfl));obtain⟨j,e,q1,q2,q⟩:=q1;subst e;cases r1 with
 |cons r rr =>cases rr;obtain⟨t,rfl⟩:=r;exact call_range_1 (wG I1 (by omega) (by omega) q1 q2 (by simpa using q))
theorem DH{a b:Expr}{ta:TA}{p pos:Pos}(hg:Gl X "range")(hm:X.mg "range"=none)(ha:PA X [a,b] ta)(hs:starEach [a,b] X.env=[(false,eval a X.env),(false,eval b X.env)]:=by rfl)(hs2:starEach [b] X.env=[(false,eval b X.env)]:=by rfl) :
 PI X tg (.Call (.Name "range" p) [a,b] [] pos) (HB ta):=by
 intro pins s σ H R I h;refine Call_ (eR I hg hm boot_range (PyProof.Rows.callWith_type1 (thn (ha pos pins s σ H _ I h) λus s1 ⟨vs,H1,I1,r1,q1⟩=>?_) (by rw[hs,hs2]) (by rw[hs2];rfl)));obtain⟨i,j,e,⟨q1,q2,q3,q4⟩,q⟩:=q1;subst e;cases r1 with
 |cons r rr =>
  cases rr with
  |cons r' rr =>cases rr;obtain⟨t,rfl⟩:=r;obtain⟨t',rfl⟩:=r';exact call_range_2 (wG I1 q1 q2 q3 q4 q)
def Bs(wi:TI)(g:TG)(tb:TS):TS:=λD σ H=>wi σ H λJ H1=>∃W:Nat->Nat->St->Hp->Prop,(∃m,W 0 m σ H1)/\∀i m σ H,W i m σ H ->
 (J.stop i H/\D.nx σ H)\/(J.go i H/\∃N:St->Hp->Prop,(∀σ' H',N σ' H'->∃m',m'<m/\W (i+1) m' σ' H')/\∀x H',J.yld i H x H'->g x σ H' λσ2 H2=>tb { D with nx:=N,ct:=N,bk:=D.nx } σ2 H2)
noncomputable def n8(fp:List Addr)(h:Heap):List (Addr×Obj):=fp.filterMap λb=>(h.get? b).map λo=>(b,o)
theorem oC{fp:List Addr}{h:Heap}{b:Addr}{o:Obj}(hb:b∈fp)(e:h.get? b=some o):(b,o)∈n8 fp h:=List.mem_filterMap.mpr ⟨b,hb,by rw[e];rfl⟩
theorem Fk{fp:List Addr}{h:Heap}{p:Addr×Obj}(hp:p∈n8 fp h):p.1∈fp/\h.get? p.1=some p.2:=by
 obtain⟨b,hb,e⟩:=List.mem_filterMap.mp hp;cases q:h.get? b with
 |none=>rw[q]at e;cases e
 |some o =>rw[q]at e;have e':(b,o)=p:=Option.some.inj e;subst e';exact⟨hb,q⟩
theorem Inv.pinned{pins:List (Addr×Obj)}{σ:St}{H:Hp}{s:Shared}{fp:List Addr}(I:Inv X pins σ H s)(hf:∀b∈fp,dW X pins H b)(ho:∀b∈fp,∃o,s.heap.get? b=some o/\∀v,o.data≠.cell v):Inv X (pins++n8 fp s.heap) σ H s :=
 I.pins_of λp hp=>(Nu.mp hp).elim (λz=>I.pin p (NC _ z)) λz=>by obtain⟨hb,e⟩:=Fk z;obtain⟨f0,f1,f2,_⟩:=hf p.1 hb;obtain⟨o,e',d⟩:=ho p.1 hb;rw[e]at e';cases e';exact⟨e,f0,f1,f2,d⟩
theorem Inv.unpinned{pins pl:List (Addr×Obj)}{σ:St}{H:Hp}{s:Shared}(I:Inv X (pins++pl) σ H s):Inv X pins σ H s:=I.pins_of λp hp=>I.pin p (NC _ (NQ _ hp))
theorem ck{iter:Expr}{body:List Stmt}{wi:TI}{g:TG}{tb:TS}{pos:Pos}(hp:PassesOwn (model X.prog X.w) X.A X.env X.xe)(hc:X.calm=true)(hi:PI X tg iter wi)(hg:PG X tg g)(hb:PSs X body tb)
 (hs:∀x,foldedSetIterable iter X.env x=pure x:=by intro _;rfl):PS X (.For tg iter body [] pos) (Bs wi g tb):=by
 intro pins s σ H D I h;refine wpAny_For (thn (hi pins s σ H _ I h) λv s1 h1=>thn h1 λitv s2 h2=>?_) hs;obtain⟨it,fp,tn,J,H2,e,I2,T,st2,f2,W,⟨m0,w0⟩,turn⟩:=h2;subst e;have stat:∀{H':Hp},(∀b∈fp,H' b=none)->∀b∈fp,dW X pins H' b:=λhn b hb=>⟨hn b hb,(f2 b hb).2⟩
 refine codeAny_forLoop_any (λn s'=>∃i σ' H',Inv X pins σ' H' s'/\tn i s'.heap/\(∀b∈fp,H' b=none)/\W i n σ' H') ?_ m0 ⟨0,σ,H2,I2,st2,λb hb=>(f2 b hb).1,w0⟩;rintro n s3 ⟨i,σ3,H3,I3,st3,fr3,w3⟩;rcases turn i n σ3 H3 w3 with⟨stop,qn⟩ |⟨go,N,hN,step⟩
 ·refine wpAny_passesOwn hp (thn (T.done X rfl rfl rfl hc i pins s3 σ3 H3 X.xe I3 (stat fr3) st3 stop) λr s4 ⟨hr,I4⟩=>?_);subst hr;exact wpAny_execs_nil ⟨σ3,H3,I4,qn⟩
 ·refine wpAny_passesOwn hp (thn (T.item X rfl rfl rfl hc i pins s3 σ3 H3 X.xe I3 (stat fr3) st3 go) λr s4 ⟨u,hr,h4⟩=>?_);subst hr;refine wpAny_passesOwn hp (thn h4 λ_ s5 ⟨x,H5,I5,r5,y5,st5,fr5⟩=>?_);have I5':=I5.pinned (stat fr5) (T.obj _ _ st5);refine wpAny_passesOwn hp (thn (hg _ s5 σ3 H5 x u _ I5' r5 (step x H5 y5)) λ_ s6 ⟨σ6,H6,I6,q6⟩=>?_);refine wpAny_passesOwn hp (thn (hb _ s6 σ6 H6 _ I6 q6) λf s7 q7=>?_)
  have again:∀{σ7:St} {H7:Hp},Inv X (pins++n8 fp s5.heap) σ7 H7 s7->N σ7 H7->∃m,m<n/\∃i σ' H',Inv X pins σ' H' s7/\tn i s7.heap/\(∀b∈fp,H' b=none)/\W i m σ' H':=λ{σ7 H7} I7 n7=>by obtain⟨m',hm,w7⟩:=hN σ7 H7 n7;refine⟨m',hm,i+1,σ7,H7,I7.unpinned,T.keep _ _ _ st5 λb hb o e=>(I7.pin (b,o) (NC _ (NC _ (oC hb e)))).1,λb hb=>?_,w7⟩;obtain⟨o,e,d⟩:=T.obj _ _ st5 b hb;exact(I7.pin (b,o) (NC _ (NC _ (oC hb e)))).2.1
  cases f with
  |next=>obtain⟨σ7,H7,I7,n7⟩:=q7;exact again I7 n7
  |cont=>obtain⟨σ7,H7,I7,n7⟩:=q7;exact again I7 n7
  |brk=>obtain⟨σ7,H7,I7,q7⟩:=q7;exact⟨σ7,H7,I7.unpinned,q7⟩
  |ret v=>obtain⟨x7,σ7,H7,I7,r7,q7⟩:=q7;exact⟨x7,σ7,H7,I7.unpinned,r7,q7⟩
end
theorem lU{K:PySem.W.Frag}{a:Addr}{xs:List V}{g:TG}{tb:TS}{D:Ends}{σ:St}{H:Hp}(Pv:Nat->St->Hp->Prop)(h0:Pv 0 σ H)(hl:∀i σ H,i<=xs.length->Pv i σ H->SqL K H a xs)
 (hs:∀i x σ H,xs[i]?=some x->Pv i σ H->g x σ H λσ2 H2=>tb { D with nx:=Pv (i+1),ct:=Pv (i+1),bk:=D.nx } σ2 H2) (hd:∀σ H,Pv xs.length σ H->D.nx σ H) :
 ∃W:Nat->Nat->St->Hp->Prop,(∃m,W 0 m σ H)/\∀i m σ H,W i m σ H ->
  ((Itl K a).stop i H/\D.nx σ H)\/((Itl K a).go i H/\∃N:St->Hp->Prop,(∀σ' H',N σ' H'->∃m',m'<m/\W (i+1) m' σ' H')/\∀x H',(Itl K a).yld i H x H'->g x σ H' λσ2 H2=>tb { D with nx:=N,ct:=N,bk:=D.nx } σ2 H2):=by
 refine⟨λi m σ H=>m=xs.length-i/\i<=xs.length/\Pv i σ H,⟨xs.length,by simp,M9 _,h0⟩,?_⟩;rintro i m σ H ⟨rfl,hi,p⟩;have q:=hl i σ H hi p;by_cases hlt:i<xs.length
 ·refine .inr ⟨⟨xs,xs[i],q,by simp[hlt]⟩,Pv (i+1),λσ' H' p'=>⟨xs.length-(i+1),by omega,rfl,hlt,p'⟩,λx H' y=>?_⟩;obtain⟨e,y⟩:=y;subst e;exact hs i x σ _ (y xs q) p
 ·have e:i=xs.length:=by omega
  subst e;exact .inl ⟨⟨xs,q,M0 _⟩,hd σ H p⟩
theorem Ii{K:PySem.W.Frag}{a:Addr}{xs:List V}{g:TG}{tb:TS}{D:Ends}{σ:St}{H:Hp}(Pv:Nat->St->Hp->Prop)(h0:Pv 0 σ H)(hl:∀i σ H,i<=xs.length->Pv i σ H->SqT K H a xs)
 (hs:∀i x σ H,xs[i]?=some x->Pv i σ H->g x σ H λσ2 H2=>tb { D with nx:=Pv (i+1),ct:=Pv (i+1),bk:=D.nx } σ2 H2) (hd:∀σ H,Pv xs.length σ H->D.nx σ H) :
 ∃W:Nat->Nat->St->Hp->Prop,(∃m,W 0 m σ H)/\∀i m σ H,W i m σ H ->
  ((Itt K a).stop i H/\D.nx σ H)\/((Itt K a).go i H/\∃N:St->Hp->Prop,(∀σ' H',N σ' H'->∃m',m'<m/\W (i+1) m' σ' H')/\∀x H',(Itt K a).yld i H x H'->g x σ H' λσ2 H2=>tb { D with nx:=N,ct:=N,bk:=D.nx } σ2 H2):=by
 refine⟨λi m σ H=>m=xs.length-i/\i<=xs.length/\Pv i σ H,⟨xs.length,by simp,M9 _,h0⟩,?_⟩;rintro i m σ H ⟨rfl,hi,p⟩;have q:=hl i σ H hi p;by_cases hlt:i<xs.length
 ·refine .inr ⟨⟨xs,xs[i],q,by simp[hlt]⟩,Pv (i+1),λσ' H' p'=>⟨xs.length-(i+1),by omega,rfl,hlt,p'⟩,λx H' y=>?_⟩;obtain⟨e,y⟩:=y;subst e;exact hs i x σ _ (y xs q) p
 ·have e:i=xs.length:=by omega
  subst e;exact .inl ⟨⟨xs,q,M0 _⟩,hd σ H p⟩
theorem kf{lo:Int}{n:Nat}{g:TG}{tb:TS}{D:Ends}{σ:St}{H:Hp}(Pv:Nat->St->Hp->Prop)(h0:Pv 0 σ H)
 (hs:∀i σ H,i<n->Pv i σ H->g (.int (lo+i)) σ H λσ2 H2=>tb { D with nx:=Pv (i+1),ct:=Pv (i+1),bk:=D.nx } σ2 H2) (hd:∀σ H,Pv n σ H->D.nx σ H) :
 ∃W:Nat->Nat->St->Hp->Prop,(∃m,W 0 m σ H)/\∀i m σ H,W i m σ H ->
  ((Itr lo n).stop i H/\D.nx σ H)\/((Itr lo n).go i H/\∃N:St->Hp->Prop,(∀σ' H',N σ' H'->∃m',m'<m/\W (i+1) m' σ' H')/\∀x H',(Itr lo n).yld i H x H'->g x σ H' λσ2 H2=>tb { D with nx:=N,ct:=N,bk:=D.nx } σ2 H2):=by
 refine⟨λi m σ H=>m=n-i/\i<=n/\Pv i σ H,⟨n,by simp,M9 _,h0⟩,?_⟩;rintro i m σ H ⟨rfl,hi,p⟩;by_cases hlt:i<n
 ·refine .inr ⟨hlt,Pv (i+1),λσ' H' p'=>⟨n-(i+1),by omega,rfl,hlt,p'⟩,λx H' y=>?_⟩;obtain⟨e,y⟩:=y;subst e y;exact hs i σ _ hlt p
 ·have e:i=n:=by omega
  subst e;exact .inl ⟨M0 _,hd σ H p⟩
abbrev R2:=V->V->Hp->VK->Prop
noncomputable def OpR(X:Cx)(f:Value->Value->Sem Value)(r:R2):Prop :=
 ∀(pins:List (Addr×Obj)) (s:Shared) (σ:St) (H:Hp) (x y:V) (v u:Value) (Q:VK),Inv X pins σ H s->RelV x v->RelV y u->r x y H Q ->
  wpAny (model X.prog X.w) X.A (f v u) (EP X pins σ Q) X.xe s
noncomputable def UnR(X:Cx)(f:Value->Sem Value)(r:V->Hp->VK->Prop):Prop :=
 ∀(pins:List (Addr×Obj)) (s:Shared) (σ:St) (H:Hp) (x:V) (v:Value) (Q:VK),Inv X pins σ H s->RelV x v->r x H Q ->
  wpAny (model X.prog X.w) X.A (f v) (EP X pins σ Q) X.xe s
noncomputable def CallR(X:Cx)(f:Value)(r:List V->Hp->VK->Prop):Prop :=
 ∀(pins:List (Addr×Obj)) (s:Shared) (σ:St) (H:Hp) (xs:List V) (us:List Value) (Q:VK),Inv X pins σ H s->Vals xs us->r xs H Q ->
  wpAny (model X.prog X.w) X.A (call f us) (EP X pins σ Q) X.xe s
noncomputable def Ls(X:Cx)(r:V->Hp->(Bool->Hp->Prop)->Prop):Prop :=
 ∀(pins:List (Addr×Obj)) (s:Shared) (σ:St) (H:Hp) (x:V) (v:Value) (Q:Bool->Hp->Prop),Inv X pins σ H s->RelV x v->r x H Q ->
  wpAny (model X.prog X.w) X.A (truthy v) (TP X pins σ Q) X.xe s
def tOp(r:R2)(ta tb:TE):TE:=λσ H Q=>ta σ H λx H1=>tb σ H1 λy H2=>r x y H2 Q
def tUn(r:V->Hp->VK->Prop)(ta:TE):TE:=λσ H Q=>ta σ H λx H1=>r x H1 Q
def rI(C:Int->Int->Prop)(g:Int->Int->V):R2:=λx y H Q=>∃i j,x=.int i/\y=.int j/\C i j/\Q (g i j) H
def rI0(g:Int->Int->V):R2:=λx y H Q=>∃i j,x=.int i/\y=.int j/\Q (g i j) H
noncomputable def rU(g:Int->V):V->Hp->VK->Prop:=λx H Q=>∃i,x=.int i/\Q (g i) H
section
variable {X:Cx}{a b c:Expr}{ta tb tc:TE}{pos:Pos}
theorem ul(ha:PE X a ta)(hb:PE X b tb){pins:List (Addr×Obj)}{s:Shared}{σ:St}{H:Hp}{R:V->V->Hp->Prop}(I:Inv X pins σ H s)
 (h:ta σ H λx H1=>tb σ H1 λy H2=>R x y H2) {Q:Value->Shared->Prop} {f:Value->Value->Sem Value}
 (hf:∀v u s2 x y H2,Inv X pins σ H2 s2->RelV x v->RelV y u->R x y H2->wpAny (model X.prog X.w) X.A (f v u) Q X.xe s2) :
 wpAny (model X.prog X.w) X.A (eval a X.env) (λv s₁=>wpAny (model X.prog X.w) X.A (eval b X.env) (λu s₂=>wpAny (model X.prog X.w) X.A (f v u) Q X.xe s₂) X.xe s₁) X.xe s:=by
 refine thn (ha pins s σ H _ I h) λv s1 ⟨x,H1,I1,r1,q1⟩=>?_
 refine thn (hb pins s1 σ H1 _ I1 q1) λu s2 ⟨y,H2,I2,r2,q2⟩=>?_
 exact hf v u s2 x y H2 I2 r1 r2 q2
theorem al{op:Operator}{r:R2}(ho:OpR X (binaryOp op) r)(ha:PE X a ta)(hb:PE X b tb):PE X (.BinOp a op b pos) (tOp r ta tb):=by intro pins s σ H Q I h;exact wpAny_BinOp (ul ha hb I h λv u s2 x y H2 I2 rx ry q=>ho pins s2 σ H2 x y v u Q I2 rx ry q)
theorem bY{op:UnaryOp}{r:V->Hp->VK->Prop}(ho:UnR X (unaryOp op) r)(ha:PE X a ta):PE X (.UnaryOp op a pos) (tUn r ta):=by intro pins s σ H Q I h;exact UnaryOp_ (thn (ha pins s σ H _ I h) λv s1 ⟨x,H1,I1,r1,q1⟩=>ho pins s1 σ H1 x v Q I1 r1 q1)
theorem opI{f:Value->Value->Sem Value}{C:Int->Int->Prop}{g:Int->Int->Int}
 (rule:∀(i j:Int) (t u:Tok) (s:Shared) (Q:Value->Shared->Prop) (E:Value->Shared->Prop),C i j->Q (.int (g i j) s.toks) { s with toks:=s.toks+1 }->wpAny (model X.prog X.w) X.A (f (.int i t) (.int j u)) Q E s) :
 OpR X f (rI C λi j=>.int (g i j)):=by
 intro pins s σ H x y v u Q I rx ry h;obtain⟨i,j,rfl,rfl,hc,q⟩:=h;obtain⟨t,rfl⟩:=rx;obtain⟨t',rfl⟩:=ry;exact rule i j t t' s _ _ hc ⟨.int (g i j),H,I.tok _,⟨_,rfl⟩,q⟩
theorem xr{f:Value->Value->Sem Value}{g:Int->Int->Int}
 (rule:∀(i j:Int) (t u:Tok) (s:Shared) (Q:Value->Shared->Prop) (E:Value->Shared->Prop),Q (.int (g i j) s.toks) { s with toks:=s.toks+1 }->wpAny (model X.prog X.w) X.A (f (.int i t) (.int j u)) Q E s) :
 OpR X f (rI0 λi j=>.int (g i j)):=by
 intro pins s σ H x y v u Q I rx ry h;obtain⟨i,j,rfl,rfl,q⟩:=h;obtain⟨t,rfl⟩:=rx;obtain⟨t',rfl⟩:=ry;exact rule i j t t' s _ _ ⟨.int (g i j),H,I.tok _,⟨_,rfl⟩,q⟩
theorem jZ{f:Value->Value->Sem Value}{g:Int->Int->Bool}
 (rule:∀(i j:Int) (t u:Tok) (s:Shared) (Q:Value->Shared->Prop) (E:Value->Shared->Prop),Q (.bool (g i j)) s->wpAny (model X.prog X.w) X.A (f (.int i t) (.int j u)) Q E s) :
 OpR X f (rI0 λi j=>.bl (g i j)):=by
 intro pins s σ H x y v u Q I rx ry h;obtain⟨i,j,rfl,rfl,q⟩:=h;obtain⟨t,rfl⟩:=rx;obtain⟨t',rfl⟩:=ry;exact rule i j t t' s _ _ ⟨.bl (g i j),H,I,rfl,q⟩
def MT(i j:Int):Prop:=0<=j/\j<=1000000/\i.natAbs<2^64
def CMul(i j:Int):Prop:=(-(2^64)<i/\i<2^64)\/(-(2^64)<j/\j<2^64)
theorem CMul.ok{i j:Int}(h:CMul i j):IntMulOk i j:=by
 rcases h with⟨h1,h2⟩ |⟨h1,h2⟩
 ·exact .of_left (intBits_le_64 h1 h2)
 ·exact .of_right (intBits_le_64 h1 h2)
theorem bR:OpR X (binaryOp .Add) (rI0 λi j=>.int (i+j)):=xr λ_ _ _ _ _ _ _ q=>add_int q
theorem cs:OpR X (binaryOp .Sub) (rI0 λi j=>.int (i-j)):=xr λ_ _ _ _ _ _ _ q=>sub_int q
theorem D1:OpR X (binaryOp .Mod) (rI (λ_ j=>0<j) λi j=>.int (i%j)):=opI λi j _ _ _ _ _ hc q=>by have h1:(0:Int)<j:=hc;exact mod_int' (by omega) (by rw[Int.fmod_eq_emod_of_nonneg i (by omega)];exact q)
theorem xn:OpR X (binaryOp .Pow) (rI MT λi j=>.int (i^j.toNat)):=opI λ_ _ _ _ _ _ _ hc q=>pow_int_small hc.1 hc.2.1 hc.2.2 q
theorem unI{f:Value->Sem Value}{g:Int->Int}
 (rule:∀(i:Int) (t:Tok) (s:Shared) (Q:Value->Shared->Prop) (E:Value->Shared->Prop),Q (.int (g i) s.toks) { s with toks:=s.toks+1 }->wpAny (model X.prog X.w) X.A (f (.int i t)) Q E s) :
 UnR X f (rU λi=>.int (g i)):=by
 intro pins s σ H x v Q I rx h;obtain⟨i,rfl,q⟩:=h;obtain⟨t,rfl⟩:=rx;exact rule i t s _ _ ⟨.int (g i),H,I.tok _,⟨_,rfl⟩,q⟩
theorem bT:UnR X (unaryOp .USub) (rU λi=>.int (-i)):=unI λ_ _ _ _ _ q=>neg_int q
end
section
variable {X:Cx}{a b c:Expr}{ta tb tc:TE}{pos:Pos}
theorem Ij{pins:List (Addr×Obj)}{σ:St}{H:Hp}{s:Shared}{Q:VK}{k k':Bool}(I:Inv X pins σ H s)(q:Q (.bl k) H)(e:k=k'):EP X pins σ Q (.bool k') s:=by subst e;exact⟨.bl k,H,I,rfl,q⟩
theorem dc:OpR X (compareOp .Lt) (rI0 λi j=>.bl (decide (i<j))):=jZ λ_ _ _ _ _ _ _ q=>lt_int q
theorem D2:OpR X (compareOp .LtE) (rI0 λi j=>.bl (decide (i<=j))):=jZ λ_ _ _ _ _ _ _ q=>le_int q
theorem dD:OpR X (compareOp .Gt) (rI0 λi j=>.bl (decide (j<i))):=jZ λ_ _ _ _ _ _ _ q=>gt_int q
theorem xo:OpR X (compareOp .GtE) (rI0 λi j=>.bl (decide (j<=i))):=jZ λ_ _ _ _ _ _ _ q=>ge_int q
theorem jY:OpR X (compareOp .Is) (λx y H Q=>y=.non/\Q (.bl (decide (x=.non))) H):=by
 intro pins s σ H x y v u Q I rx ry h;obtain⟨rfl,q⟩:=h;cases ry;refine is_none_gen (Ij I q ?_)
 cases x<;>first
  | (cases rx;rfl)
  | (obtain⟨t,rfl⟩:=rx;rfl)
theorem OpR.or{f:Value->Value->Sem Value}{r r':R2}(h:OpR X f r)(h':OpR X f r'):OpR X f (λx y H Q=>r x y H Q\/r' x y H Q):=by
 intro pins s σ H x y v u Q I rx ry q;rcases q with q |q
 ·exact h pins s σ H x y v u Q I rx ry q
 ·exact h' pins s σ H x y v u Q I rx ry q
theorem aC(b:Expr){op:CmpOp}(h:op≠.In:=by decide)(h2:op≠.NotIn:=by decide):behindInMarks op b=false:=by
 have e1:(op == CmpOp.In)=false:=by cases op<;>first |rfl |exact absurd rfl h
 have e2:(op == CmpOp.NotIn)=false:=by cases op<;>first |rfl |exact absurd rfl h2
 cases b<;>simp[behindInMarks,e1,e2]
theorem gz{op:CmpOp}{r:R2}(ho:OpR X (compareOp op) r)(ha:PE X a ta)(hb:PE X b tb)(hm:behindInMarks op b=false):PE X (.Compare a [op] [b] pos) (tOp r ta tb):=by intro pins s σ H Q I h;exact wpAny_Compare1 (ul ha hb I h λv u s2 x y H2 I2 rx ry q=>ho pins s2 σ H2 x y v u Q I2 rx ry q) hm
def vB(t:TE):TT:=λσ H Q=>t σ H λx H'=>∃k,x=.bl k/\Q k H'
theorem aH{op:CmpOp}{r:R2}(ho:OpR X (compareOp op) r)(ha:PE X a ta)(hb:PE X b tb)(hm:behindInMarks op b=false):PT X (.Compare a [op] [b] pos) (vB (tOp r ta tb)):=by
 intro pins s σ H Q I h
 refine wpAny_isTrue_Compare1 (thn (ha pins s σ H _ I h) λv s1 ⟨x,H1,I1,r1,q1⟩=>thn (hb pins s1 σ H1 _ I1 q1) λu s2 ⟨y,H2,I2,r2,q2⟩ =>thn (ho pins s2 σ H2 x y v u _ I2 r1 r2 q2) λc s3 ⟨z,H3,I3,r3,k,e,q3⟩=>?_) hm
 subst e;cases r3;exact wpAny_truthy_bool ⟨H3,I3,q3⟩
noncomputable def Aq(K:PySem.W.Frag)(x:V)(H:Hp)(k:Bool):Prop :=
 match x with
 |.non=>k=false
 |.bl b=>k=b
 |.int i=>k=(i != 0)
 |.str y=>y.length<=sizeLine/\k=((y.length:Int) != 0)
 |.byt y=>y.size<=sizeLine/\k=((y.size:Int) != 0)
 |.ref p=>(∃xs,SqL K H p xs/\k=!xs.isEmpty)\/(∃xs,SqT K H p xs/\k=!xs.isEmpty)\/∃kvs,H p=some (.dK kvs)/\k=!kvs.isEmpty
 |_=>False
theorem Hv{κ:Type}{kvs:List (κ×V)}{vs:List (κ×Value)}(r:KV kvs vs):(!vs.isEmpty)=!kvs.isEmpty:=by cases r<;>rfl
theorem yt{xs:List V}{its:List Value}(r:Vals xs its):(!its.toArray.isEmpty)=!xs.isEmpty:=by cases r<;>simp
theorem lI:(sizeLine:Nat)<2^63:=by rw[sizeLine_eq];decide
theorem A2:Ls X (λx H Q=>∃k,Aq X.K x H k/\Q k H):=by
 intro pins s σ H x v Q I rx h;obtain⟨k,e,q⟩:=h;have hl:=lI;have hs:sizeLine=16777216:=sizeLine_eq;cases x with
 |non =>cases rx;have e':k=false:=e;subst e';exact truthy_none ⟨H,I,q⟩
 |bl b =>cases rx;have e':k=b:=e;subst e';exact wpAny_truthy_bool ⟨H,I,q⟩
 |int i =>obtain⟨t,rfl⟩:=rx;have e':k=(i != 0):=e;subst e';exact PySem.P.truthy_int ⟨H,I,q⟩
 |str y =>obtain⟨t,rfl⟩:=rx;obtain⟨hy,e'⟩:y.length<=sizeLine/\k=((y.length:Int) != 0):=e;subst e';exact PySem.P.truthy_str (by omega) ⟨H,I.tok _,q⟩
 |byt y =>obtain⟨t,rfl⟩:=rx;obtain⟨hy,e'⟩:y.size<=sizeLine/\k=((y.size:Int) != 0):=e;subst e';exact PySem.W.truthy_bytes (by omega) ⟨H,I.tok _,q⟩
 |ref p =>
  cases rx;have e':(∃xs,SqL X.K H p xs/\k=!xs.isEmpty)\/(∃xs,SqT X.K H p xs/\k=!xs.isEmpty)\/∃kvs,H p=some (.dK kvs)/\k=!kvs.isEmpty:=e;rcases e' with⟨xs,hx,e'⟩ |⟨xs,hx,e'⟩ |⟨kvs,hx,e'⟩
  ·subst e';obtain⟨its,r,pl,hz⟩:=I.list hx;have hlen:=r.length;exact wpAny_truthy_list pl.isList (by simp only[Np];omega) ⟨H,I.tok _,by rw[yt r];exact q⟩
  ·subst e';obtain⟨its,r,pl,hz⟩:=I.tuple hx;have hlen:=r.length;exact truthy_tuple pl (by simp only[Np];omega) ⟨H,I.tok _,by rw[yt r];exact q⟩
  ·subst e';obtain⟨hz,hS,vs,r,m⟩:kvs.length<=sizeLine/\(p == sysModules)=false/\∃vs,KV kvs vs/\s.heap.DictOf (rH X.prog X.w) p vs:=I.hok p _ hx;have hlen:kvs.length=vs.length:=Paired.length r;exact wpAny_truthy_dict hS m (by omega) ⟨H,I.tok _,by rw[Hv r];exact q⟩
 |_=>exact(show False from e).elim
theorem Dr(ha:PE X a ta)(he:∀whole,isTrue a X.env whole=(do let v <- whole;standAt a.pos;holding [v] (truthy v))) :
 PT X a (λσ H Q=>ta σ H λx H'=>∃k,Aq X.K x H' k/\Q k H'):=by
 intro pins s σ H Q I h;exact isTrue_plain (thn (ha pins s σ H _ I h) λv s1 ⟨x,H1,I1,r1,q1⟩=>A2 pins s1 σ H1 x v Q I1 r1 q1) (he _)
theorem ix{x:V}{us:List Value}(r:Vals [x] us):∃u,us=[u]/\RelV x u:=by
 cases r with
 |cons r1 r2=>cases r2;exact⟨_,rfl,r1⟩
theorem AM{x y:V}{us:List Value}(r:Vals [x,y] us):∃u w',us=[u,w']/\RelV x u/\RelV y w':=by
 cases r with
 |cons r1 r2 =>
  cases r2 with
  |cons r3 r4=>cases r4;exact⟨_,_,rfl,r1,r3⟩
theorem fU:CallR X (.builtin "abs") (λxs H Q=>∃i,xs=[.int i]/\Q (.int (if i<0 then -i else i)) H):=by intro pins s σ H xs us Q I r h;obtain⟨i,rfl,q⟩:=h;obtain⟨u,rfl,t,rfl⟩:=ix r;exact call_abs_int λu tk=>⟨.int (if i<0 then -i else i),H,I.tok _,⟨_,rfl⟩,q⟩
theorem zW(hc:X.calm=true):CallR X (.builtin "max") (λxs H Q=>∃i j,xs=[.int i,.int j]/\Q (.int (if j>i then j else i)) H):=by
 intro pins s σ H xs us Q I r h;obtain⟨i,j,rfl,q⟩:=h;obtain⟨u,w',rfl,⟨t,rfl⟩,⟨t',rfl⟩⟩:=AM r;refine max_two_ints (I.ok.hd hc) λh' tk k=>⟨_,H,I.kept k,?_,q⟩
 by_cases hj:j>i
 ·rw[if_pos hj,if_pos hj];exact⟨_,rfl⟩
 ·rw[if_neg hj,if_neg hj];exact⟨_,rfl⟩
end
structure ObjM(h:Heap)(x dx C:Addr)(mA:Str->Option Value):Prop where
 obj:h.get? x=some (PySem.W.instObj C dx)
 ns:h.Ns1 dx mA
 ne:dx≠x
theorem x8{h:Heap}{dx:Addr}{mA:Str->Option Value}(n:h.Ns1 dx mA):∃od,h.get? dx=some od/\∀name,PySem.W.lookIn name od=some (mA name):=by
 obtain⟨o,es,ep,ho,hd,hk,_,hm⟩:=n;refine⟨o,ho,λname=>?_⟩;have e:=hm name;unfold nsFind findBy at e
 rw[<- Array.find?_toList]at e;unfold PySem.W.lookIn;rw[hd];dsimp only
 split
 ·rename_i y q
  rw[q]at e;exact congrArg some e
 ·rename_i q
  rw[q]at e
  have a:es.toList.any (·.refKey)=false:=by rw[List.any_eq_false];intro y hy;obtain⟨z,t,hkey⟩:=hk y (Array.mem_toList_iff.mp hy);simp[DictEntry.refKey,hkey]
  have a':¬es.toList.any (·.refKey)=true:=by rw[a];exact NU
  rw[if_neg a'];exact congrArg some e
theorem ObjM.look{h:Heap}{x dx C:Addr}{mA:Str->Option Value}(I:ObjM h x dx C mA):∃od,PySem.W.InstAt h x (PySem.W.instObj C dx) C (some od)/\∀name,PySem.W.lookIn name od=some (mA name) :=
 let⟨od,ho,hl⟩:=x8 I.ns
 ⟨od,⟨I.obj,rfl,rfl,ho⟩,hl⟩
section
variable {prog:Program}{w:World}{A:Around}{E:Value->Shared->Prop}{s:Shared}{K:PySem.W.Frag}{x dx C f:Addr}{mA:Str->Option Value}{name:Str}{v:Value}
theorem HS{expr:Bool}{Q:Value->Shared->Prop}(X:K.In s.heap)(I:ObjM s.heap x dx C mA)(hg:PySem.W.plainGet K C name=true)(hh:PySem.W.hasDictIn K C=true)
 (ha:PySem.W.findIn K (.ref C) name=some none) (hv:mA name=some v) (hv':PySem.W.handedIn v=true) (h:Q v { s with toks:=s.toks+1 }) :
 wpAny (model prog w) A (getAttr (.ref x) name expr) Q E s:=by
 obtain⟨od,J,hl⟩:=I.look;exact PySem.W.get_value X J (PySem.W.plainGet_of hg).1 (PySem.W.findObj_own hh ha rfl (by rw[hl,hv])) hv' h
theorem HR{pl:Sem Bool}{Q:Value×List Value->Shared->Prop}(X:K.In s.heap)(I:ObjM s.heap x dx C mA)(hg:PySem.W.plainGet K C name=true)
 (hf:PySem.W.findIn K (.ref C) name=some (some (.ref f))) (ht:PySem.W.isFn K (.ref f)=true) (hv:mA name=none) (h:Q (.ref f,[.ref x]) s) :
 wpAny (model prog w) A (getMethod (.ref x) name pl) Q E s:=by
 obtain⟨od,J,hl⟩:=I.look;exact PySem.W.method_fn X J (PySem.W.plainGet_of hg).1 (PySem.W.plainGet_of hg).2 hf (beq_iff_eq.mp ht) (by show(PySem.W.lookIn name od).map (·.isSome)=some false;rw[hl,hv];rfl) h
theorem qM{ns:List Str}{Q:Unit->Shared->Prop}(X:K.In s.heap)(I:ObjM s.heap x dx C mA)
 (hs:PySem.W.findIn K (.ref C) "__setattr__"=some (some (.builtin "object.__setattr__"))) (hp:PySem.W.plainOver K C=true) (ht:PySem.W.takerIn K C name=some none) (hh:PySem.W.hasDictIn K C=true)
 (hw:PySem.Within mA ns) (hsz:ns.length<=sizeLine)
 (h:∀h',ObjM h' x dx C (λy=>if y=name then some v else mA y)->Heap.SameBut dx s.heap h'->Q () { s with heap:=h',toks:=s.toks+2 }) :
 wpAny (model prog w) A (setAttr (.ref x) name v) Q E s:=by
 obtain⟨od,J,hl⟩:=I.look;refine PySem.W.set_plain X J hs (PySem.W.osa_open (s:={ s with toks:=s.toks+1 }) (r:=none) X J hp ht λb=>?_);obtain⟨cd,hc,hd'⟩:=PySem.W.any_some hh;have hx:s.heap.get? x=some ⟨.ref C,some dx,.plain,#[]⟩:=I.obj;refine wpAny_bind (wpAny_pure (wpAny_bind (wpAny_bind (wpAny_loadPart hx (wpAny_bind (PySem.W.Looks.here (s:={ s with toks:=s.toks+1 }) (PySem.W.looks_clsIn X hc) ?_))))));rw[hd'];refine wpAny_pure (a:=some dx) (wpAny_bind (wpAny_pure (wpAny_bind ?_)));refine wpAny_nsSet1 (s:={ s with toks:=s.toks+1 }) I.ns λh' hn2 hs2=>?_
 obtain⟨oD,esD,epD,hoD,hdD,hcD⟩:=hn2.count (PySem.Within.cons name v hw);refine wpAny_bind (wpAny_lookBehind hoD (by rw[hdD];exact pastItsLine_dict (Nb hcD (by rw[Nq];omega))) ?_);exact wpAny_pure (h _ ⟨(hs2.2 _ (Ne.symm I.ne)).trans I.obj,hn2,I.ne⟩ hs2)
theorem FV{R:Result->Shared->Prop}{vs:List Value}{kw:List (Str×Value)}(X:K.In s.heap)(hm:PySem.W.makesIn K C=true)
 (hi:PySem.W.findIn K (.ref C) "__init__"=some (some (.ref f))) (hf:PySem.W.typeIn K (.ref f)=some (.type "function"))
 (h:codeAny (model prog w) (A.under (.builtin "type.__call__" ⟨.ref C::vs,kw⟩)) (.call (.ref f) ⟨.ref (s.heap.objs.size+1)::vs,kw⟩) (PySem.W.InitBack (s.heap.objs.size+1) R)
   { s with heap:=(s.heap.push PySem.W.emptyDict).push (PySem.W.instObj C s.heap.objs.size) }) :
 codeAny (model prog w) A (.call (.ref C) ⟨vs,kw⟩) R s:=by
 obtain⟨hh,g,d,t,os⟩:=s;exact PySem.W.make_core (PySem.W.makes_of X hm) (PySem.W.looks_findIn X hi) (λself=>PySem.W.bind_fn X self hf) (.inl rfl) h
end
noncomputable def cj(f:Str)(v:V):List (Str×V)->List (Str×V)
 | []=>[(f,v)]
 | (g,x)::r=>if g=f then(g,v)::r else(g,x)::cj f v r
theorem cV(f g:Str)(v:V):∀fs:List (Str×V),(cj f v fs).lookup g=if g=f then some v else fs.lookup g
 | []=>by
  show List.lookup g [(f,v)]=_;by_cases h:g=f
  ·have hb:(g == f)=true:=beq_iff_eq.mpr h;simp only[List.lookup,hb,if_pos h]
  ·have hb:(g == f)=false:=beq_eq_false_iff_ne.mpr h;simp only[List.lookup,hb,if_neg h]
 | (k,x)::r=>by
  have ih:=cV f g v r;rw[show cj f v ((k,x)::r)=(if k=f then(k,v)::r else(k,x)::cj f v r)from rfl];by_cases hk:k=f
  ·rw[if_pos hk];by_cases h:g=k
   ·have hb:(g == k)=true:=beq_iff_eq.mpr h;simp only[List.lookup,hb,if_pos (h.trans hk)]
   ·have hb:(g == k)=false:=beq_eq_false_iff_ne.mpr h;simp only[List.lookup,hb,if_neg (λe:g=f=>h (e.trans hk.symm))]
  ·rw[if_neg hk];by_cases h:g=k
   ·have hb:(g == k)=true:=beq_iff_eq.mpr h;simp only[List.lookup,hb,if_neg (λe:g=f=>hk (h.symm.trans e))]
   ·have hb:(g == k)=false:=beq_eq_false_iff_ne.mpr h;simp only[List.lookup,hb];exact ih
theorem rZ(f:Str)(v:V):∀fs:List (Str×V),f∈(cj f v fs).map (·.1)/\∀g,g∈fs.map (·.1)->g∈(cj f v fs).map (·.1)
 | []=>⟨by simp[cj],λg h=>by simp at h⟩
 | (k,x)::r=>by
  obtain⟨i1,i2⟩:=rZ f v r;rw[show cj f v ((k,x)::r)=(if k=f then(k,v)::r else(k,x)::cj f v r)from rfl];by_cases hk:k=f
  ·rw[if_pos hk];subst hk;exact⟨by simp,λg h=>by simpa using h⟩
  ·rw[if_neg hk];refine⟨?_,λg h=>?_⟩
   ·rw[Nx];exact M8 _ i1
   ·rw[Nx]at h ⊢;rcases Nd.mp h with e |e
    ·exact Nd.mpr (.inl e)
    ·exact M8 _ (i2 g e)
theorem ya(f:Str)(v:V):∀fs:List (Str×V),(cj f v fs).length<=fs.length+1
 | []=>by simp[cj]
 | (k,x)::r=>by
  have ih:=ya f v r;rw[show cj f v ((k,x)::r)=(if k=f then(k,v)::r else(k,x)::cj f v r)from rfl];by_cases hk:k=f
  ·rw[if_pos hk,Nq,Nq];omega
  ·rw[if_neg hk,Nq,Nq];omega
theorem RelO.some_of{v:V}{o:Option Value}(r:RelO (some v) o):∃u,o=some u/\RelV v u:=by
 cases o with
 |none=>exact(show False from r).elim
 |some u=>exact⟨u,rfl,r⟩
theorem RelO.none_of{o:Option Value}(r:RelO none o):o=none:=by
 cases o with
 |none=>rfl
 |some u=>exact(show False from r).elim
theorem yO{v:V}{u:Value}(r:RelV v u):PySem.W.handedIn u=true:=by
 cases v with
 |non=>cases(show u=Value.none from r);rfl
 |bl b=>cases(show u=Value.bool b from r);rfl
 |int i=>obtain⟨t,e⟩:=(show ∃t,u=Value.int i t from r);cases e;rfl
 |str x=>obtain⟨t,e⟩:=(show ∃t,u=Value.str x t from r);cases e;rfl
 |byt b=>obtain⟨t,e⟩:=(show ∃t,u=Value.bytes b t from r);cases e;rfl
 |flt b=>obtain⟨t,e⟩:=(show ∃t,u=Value.float b t from r);cases e;rfl
 |ref a=>cases(show u=Value.ref a from r);rfl
 |ty n=>cases(show u=Value.type n from r);rfl
section
variable {P:Program}{w:World}{H H':Hp}{h h':Heap}{a C dx:Addr}{fs fs':List (Str×V)}
theorem oV(hok:HOk P w H h)(e:H a=some (.ins C dx fs)):∃mA,ObjM h a dx C mA/\(∀f,RelO (fs.lookup f) (mA f))/\PySem.Within mA (fs.map (·.1))/\fs.length<=1000/\H dx=some (.own a):=by obtain⟨d,z,ne,ob,mA,n,r,q⟩:=(show ObjOk P w H h a (.ins C dx fs)from hok a _ e);exact⟨mA,⟨ob,n,ne⟩,r,q,z,d⟩
end
structure Cls(K:PySem.W.Frag)(C:Addr):Prop where
 pg:PySem.W.plainGet K C Str.empty=true
 hd:PySem.W.hasDictIn K C=true
 po:PySem.W.plainOver K C=true
 sa:PySem.W.findIn K (.ref C) "__setattr__"=some (some (.builtin "object.__setattr__"))
theorem Cls.get{K:PySem.W.Frag}{C:Addr}(c:Cls K C)(f:Str):PySem.W.plainGet K C f=true:=c.pg
def NoAttr(K:PySem.W.Frag)(C:Addr)(f:Str):Prop:=PySem.W.findIn K (.ref C) f=some none
theorem NoAttr.taker{K:PySem.W.Frag}{C:Addr}{f:Str}(n:NoAttr K C f):PySem.W.takerIn K C f=some none:=by unfold PySem.W.takerIn;rw[show PySem.W.findIn K (.ref C) f=some none from n];rfl
structure Meth(K:PySem.W.Frag)(C:Addr)(m:Str)(f:Addr):Prop where
 at_:PySem.W.findIn K (.ref C) m=some (some (.ref f))
 fn:PySem.W.isFn K (.ref f)=true
 kp:PySem.W.keepIn K (.ref f)=true
section
variable {X:Cx}{pins:List (Addr×Obj)}{σ:St}{H:Hp}{s:Shared}{a C dx:Addr}{fs:List (Str×V)}{f:Str}{v:V}{A:Around}{E:Value->Shared->Prop}
theorem HQ{b:Bool}{Q:Value->Shared->Prop}(I:Inv X pins σ H s)(e:H a=some (.ins C dx fs))(c:Cls X.K C)(n:NoAttr X.K C f)(l:fs.lookup f=some v)
 (h:∀u s',Inv X pins σ H s'->RelV v u->Q u s'):wpAny (model X.prog X.w) A (getAttr (.ref a) f b) Q E s:=by
 obtain⟨mA,O,r,_,_,_⟩:=oV I.hok e;obtain⟨u,hu,ru⟩:=RelO.some_of (v:=v) (o:=mA f) (by rw[<- l];exact r f);exact HS I.kIn O (c.get f) c.hd n hu (yO ru) (h u _ (I.tok _) ru)
theorem yR{m:Str}{g:Addr}{pl:Sem Bool}{Q:Value×List Value->Shared->Prop}(I:Inv X pins σ H s)(e:H a=some (.ins C dx fs))(c:Cls X.K C)(k:Meth X.K C m g)(l:fs.lookup m=none)
 (h:Q (.ref g,[.ref a]) s):wpAny (model X.prog X.w) A (getMethod (.ref a) m pl) Q E s:=by
 obtain⟨mA,O,r,_,_,_⟩:=oV I.hok e;have hn:mA m=none:=RelO.none_of (by rw[<- l];exact r m);exact HR I.kIn O (c.get m) k.at_ k.fn hn h
theorem B7{y:V}{u:Value}{Q:Unit->Shared->Prop}(I:Inv X pins σ H s)(e:H a=some (.ins C dx fs))(c:Cls X.K C)(n:NoAttr X.K C f)(hl:fs.length<1000)(ry:RelV y u)
 (h:∀s',Inv X pins σ (upd H a (.ins C dx (cj f y fs))) s'->Q () s'):wpAny (model X.prog X.w) A (setAttr (.ref a) f u) Q E s:=by
 obtain⟨mA,O,r,wi,_,ho⟩:=oV I.hok e;have hz:(fs.map (·.1)).length<=sizeLine:=by rw[MZ,sizeLine_eq];omega
 refine qM I.kIn O c.sa c.po n.taker c.hd wi hz λh' O' sb=>h _ ?_
 have hd:∃o,h'.get? dx=some o:=let⟨o,_,_,e',_⟩:=O'.ns;⟨o,e'⟩;refine I.write (x:=a) (e:=dx) (by rw[e];exact True.intro) (.inr ho) (λb q hb z=>(sb.2 b hb).trans z) hd ?_;refine⟨by rw[upd_ne O.ne];exact ho,?_,O.ne,O'.obj,_,O'.ns,λg=>?_,λg hg=>?_⟩
 ·have:=ya f y fs;omega
 ·show RelO ((cj f y fs).lookup g) (if g=f then some u else mA g);rw[cV];by_cases q:g=f
  ·rw[if_pos q,if_pos q];exact ry
  ·rw[if_neg q,if_neg q];exact r g
 ·by_cases q:g=f
  ·rw[q];exact(rZ f y fs).1
  ·refine(rZ f y fs).2 g (wi g λz=>hg ?_);show(if g=f then some u else mA g)=none;rw[if_neg q];exact z
theorem Inv.made(I:Inv X pins σ H s):Inv X pins σ (upd (upd H s.heap.objs.size (.own (s.heap.objs.size+1))) (s.heap.objs.size+1) (.ins C s.heap.objs.size []))
 { s with heap:=(s.heap.push PySem.W.emptyDict).push (PySem.W.instObj C s.heap.objs.size) }:=by
 have e1:(s.heap.push PySem.W.emptyDict).get? s.heap.objs.size=some PySem.W.emptyDict:=Heap.get?_push_size s.heap rfl
 have e2:((s.heap.push PySem.W.emptyDict).push (PySem.W.instObj C s.heap.objs.size)).get? (s.heap.objs.size+1)=some (PySem.W.instObj C s.heap.objs.size):=by
  have:=Heap.get?_push_size (s.heap.push PySem.W.emptyDict) (o:=PySem.W.instObj C s.heap.objs.size) rfl
  rwa [Heap.size_push]at this
 have e3:(s.heap.push PySem.W.emptyDict).Ns s.heap.objs.size (λ_=>none):=⟨PySem.W.emptyDict,#[],_,e1,rfl,(λe he=>absurd he (by simp)),λ_=>rfl⟩;have I1:=I.laid (a:=s.heap.objs.size) (o:=.own (s.heap.objs.size+1)) (h':=s.heap.push PySem.W.emptyDict) (t':=s.toks) (λb u q=>Heap.get?_push_of_some _ q) (M0 _) ⟨_,e1⟩;refine I1.laid (a:=s.heap.objs.size+1) (o:=.ins C s.heap.objs.size []) (t':=s.toks) (λb u q=>Heap.get?_push_of_some _ q) (Of (Heap.size_push _ _)) ?_;have ne:s.heap.objs.size≠s.heap.objs.size+1:=Ng (NV _);refine⟨by rw[upd_ne ne,ao],M9 _,ne,e2,λ_=>none,(Heap.Ns1.of_empty e3).at λo q=>Heap.get?_push_of_some _ q,λ_=>True.intro,λy hy=>absurd rfl hy⟩
theorem Ai{prog:Program}{w:World}{env:Env}{e:Expr}{f:Str}{pos:Pos}{s:Shared}{Q:Value->Shared->Prop}(hb:attributeBase e f env (eval e env)=eval e env)
 (h:wpAny (model prog w) A (eval e env) (λo s₁=>wpAny (model prog w) A (getAttr o f true) Q E s₁) E s):wpAny (model prog w) A (eval (.Attribute e f pos) env) Q E s :=
 Attribute_any_ h (by rw[arm_eval_Attribute,hb])
end
def vG(K:PySem.W.Frag)(ta:TE)(f:Str):TE:=λσ H Q=>ta σ H λx H1=>∃a C dx fs v,x=.ref a/\H1 a=some (.ins C dx fs)/\Cls K C/\NoAttr K C f/\fs.lookup f=some v/\Q v H1
def CF(K:PySem.W.Frag)(ta tv:TE)(f:Str):TS:=λD σ H=>tv σ H λy H1=>ta σ H1 λx H2=>∃a C dx fs,x=.ref a/\H2 a=some (.ins C dx fs)/\Cls K C/\NoAttr K C f/\fs.length<1000 /\
 D.nx σ (upd H2 a (.ins C dx (cj f y fs)))
section
variable {X:Cx}{o e value:Expr}{f:Str}{pos pos' tpos:Pos}{ta tv:TE}
theorem DO(he:PE X e ta)(hb:attributeBase e f X.env (eval e X.env)=eval e X.env):PE X (.Attribute e f pos) (vG X.K ta f):=by intro pins s σ H Q I h;refine Ai hb (thn (he pins s σ H _ I h) λu s1 ⟨x,H1,I1,rx,a,C,dx,fs,v,ex,ea,c,n,l,q⟩=>?_);subst ex;obtain rfl:u=Value.ref a:=rx;exact HQ I1 ea c n l λu' s2 I2 ru=>⟨v,H1,I2,ru,q⟩
theorem li(ha:PE X o ta)(hv:PE X value tv)(hs:swapsWith value (some (.Attribute o f pos')) pos.line X.env=pure false):PS X (.Assign [.Attribute o f pos'] value pos) (CF X.K ta tv f):=by intro pins s σ H D I h;refine plainObj_wpAny_Assign_Attribute (thn (hv pins s σ H _ I h) λu s1 ⟨y,H1,I1,ry,q⟩=>thn (ha pins s1 σ H1 _ I1 q) λov s2 ⟨x,H2,I2,rx,a,C,dx,fs,ex,ea,c,n,l,q2⟩=>?_) hs;subst ex;obtain rfl:ov=Value.ref a:=rx;exact B7 I2 ea c n l ry λs3 I3=>⟨σ,_,I3,q2⟩
end
section
variable {X:Cx}{pins:List (Addr×Obj)}{σ:St}{H:Hp}{s:Shared}{A:Around}{E:Value->Shared->Prop}{Q:Value->Shared->Prop}{c:Value}{b:Bool}
inductive TyOf(K:PySem.W.Frag)(H:Hp):V->Value->Prop where
 |non:TyOf K H .non (.type "NoneType")
 |bl (x:Bool):TyOf K H (.bl x) (.type "bool")
 |int (i:Int):TyOf K H (.int i) (.type "int")
 |str (x:Str):TyOf K H (.str x) (.type "str")
 |flt (x:UInt64):TyOf K H (.flt x) (.type "float")
 |lst {a:Addr} {xs:List V} (e:H a=some (.lst xs)):TyOf K H (.ref a) (.type "list")
 |frz {a:Addr} {o:Obj} {xs:List V} (e:H a=some (.frz o (.lst xs))):TyOf K H (.ref a) (.type "list")
 |tup {a:Addr} {xs:List V} (e:H a=some (.tup xs)):TyOf K H (.ref a) (.type "tuple")
 |dK {a:Addr} {kvs:List (Key×V)} (e:H a=some (.dK kvs)):TyOf K H (.ref a) (.type "dict")
 |dT {a:Addr} {kvs:List (List Key×V)} (e:H a=some (.dT kvs)):TyOf K H (.ref a) (.type "dict")
 |ins {a C dx:Addr} {fs:List (Str×V)} (e:H a=some (.ins C dx fs)) (cl:Cls K C) (ha:PySem.W.findIn K (.ref C) "__class__"=some (some (.builtin "object.__class__")))
  (hn:PySem.W.specialIn K (.builtin "object.__class__") "__get__"=some (some (.builtin "getset_descriptor.__get__"))) (htk:PySem.W.takesIn K (.builtin "object.__class__")=some true)
  (hm:PySem.W.mroIn K C (.type "object")=some true):TyOf K H (.ref a) (.ref C)
theorem Hu{x:V}{u t:Value}(I:Inv X pins σ H s)(rx:RelV x u)(ty:TyOf X.K H x t)(e:PySem.W.kitOne X.K t c=some b)(h:∀tk,Q (.bool b) { s with toks:=tk }) :
 wpAny (model X.prog X.w) A (call (.builtin "isinstance") [u,c]) Q E s:=by
 cases ty with
 |non=>cases(show u=Value.none from rx);exact PySem.W.kia_one PySem.W.kitx_none I.kIn True.intro e (λz=>nomatch z) h
 |bl y=>cases(show u=Value.bool y from rx);exact PySem.W.kia_one PySem.W.kitx_bool I.kIn True.intro e (λz=>nomatch z) h
 |int i=>obtain⟨t,q⟩:=(show ∃t,u=Value.int i t from rx);cases q;exact PySem.W.kia_one PySem.W.kitx_int I.kIn True.intro e (λz=>nomatch z) h
 |str y=>obtain⟨t,q⟩:=(show ∃t,u=Value.str y t from rx);cases q;exact PySem.W.kia_one PySem.W.kitx_str I.kIn True.intro e (λz=>nomatch z) h
 |flt y=>obtain⟨t,q⟩:=(show ∃t,u=Value.float y t from rx);cases q;exact PySem.W.kia_one PySem.W.kitx_float I.kIn True.intro e (λz=>nomatch z) h
 | @lst a xs ea =>cases(show u=Value.ref a from rx);obtain⟨_,_,n,_,h1⟩:=(show ObjOk X.prog X.w H s.heap a (.lst xs)from I.hok a _ ea);exact PySem.W.kia_one PySem.W.kitx_list I.kIn ⟨_,h1,rfl⟩ e (λz=>nomatch z) h
 | @frz a ob xs ea =>cases(show u=Value.ref a from rx);obtain⟨_,_,_,n,_,h1⟩:=(show ObjOk X.prog X.w H s.heap a (.frz ob (.lst xs))from I.hok a _ ea);exact PySem.W.kia_one PySem.W.kitx_list I.kIn ⟨_,h1,rfl⟩ e (λz=>nomatch z) h
 | @tup a xs ea =>cases(show u=Value.ref a from rx);obtain⟨_,_,_,p⟩:=(show ObjOk X.prog X.w H s.heap a (.tup xs)from I.hok a _ ea);obtain⟨o,h1,h2,_⟩:=p;exact PySem.W.kia_one PySem.W.kitx_tuple I.kIn ⟨o,h1,h2⟩ e (λz=>nomatch z) h
 | @dK a kvs ea =>cases(show u=Value.ref a from rx);obtain⟨_,_,vs,_,p⟩:=(show ObjOk X.prog X.w H s.heap a (.dK kvs)from I.hok a _ ea);obtain⟨o,es,ep,h1,h2,_⟩:=p;exact PySem.W.kia_one PySem.W.kitx_dict I.kIn ⟨o,h1,h2.1⟩ e (λz=>nomatch z) h
 | @dT a kvs ea =>cases(show u=Value.ref a from rx);obtain⟨_,_,xs,_,o,es,ep,h1,h2,_⟩:=(show ObjOk X.prog X.w H s.heap a (.dT kvs)from I.hok a _ ea);exact PySem.W.kia_one PySem.W.kitx_dict I.kIn ⟨o,h1,h2.1⟩ e (λz=>nomatch z) h
 | @ins a C dx fs ea cl ha hn htk hm =>cases(show u=Value.ref a from rx);obtain⟨mA,O,_⟩:=oV I.hok ea;obtain⟨od,J,_⟩:=O.look;exact PySem.W.kia_one (PySem.W.kitx_own (cl.get _) cl.hd ha hn htk hm) I.kIn J e (λz=>nomatch z) h
end
structure Room(k:Nat)(A:Around):Prop where
 hd:A.handled=none
 dp:A.depth+3*k+5<recursionLimit
 un:A.units+16*k+200<cLine
theorem Room.mono{j k:Nat}{A:Around}(r:Room k A)(h:j<=k:=by decide):Room j A:=⟨r.hd,by have:=r.dp;omega,by have:=r.un;omega⟩
theorem Room.deeper{k:Nat}{A:Around}(r:Room (k+1) A)(env:Env):Room k (A.deeper env) :=
 ⟨r.hd,by have:=r.dp;show A.depth+1+3*k+5<_;omega,by have:=r.un;show A.units+3+16*k+200<_;omega⟩
theorem Room.in1{k:Nat}{A:Around}(r:Room (k+1) A):Room k A.in1 :=
 ⟨r.hd,by have:=r.dp;show A.depth+3*k+5<_;omega,by have:=r.un;show A.units+1+16*k+200<_;omega⟩
theorem FW{A:Around}{C:Addr}{us:List Value}{kw:List (Str×Value)}:(A.under (.builtin "type.__call__" ⟨.ref C::us,kw⟩)).depth=A.depth+1:=by first |rfl |simp[Around.under,Code.weight,Code.isCreation,Code.isGuard,Code.isCaller,Code.frames,Code.isFrame,guardIds]
theorem FU{A:Around}{C:Addr}{us:List Value}{kw:List (Str×Value)}:(A.under (.builtin "type.__call__" ⟨.ref C::us,kw⟩)).units=A.units+1:=by first |rfl |simp[Around.under,Code.cUnits,Code.frames,Code.isFrame]
theorem Room.make{k:Nat}{A:Around}(r:Room (k+1) A)(C:Addr)(us:List Value)(kw:List (Str×Value)):Room k (A.under (.builtin "type.__call__" ⟨.ref C::us,kw⟩)) :=
 ⟨r.hd,by have:=r.dp;rw[FW];omega,by have:=r.un;rw[FU];omega⟩
theorem Room.depth{k:Nat}{A:Around}(r:Room k A):A.depth<recursionLimit:=by have:=r.dp;omega
theorem Room.units{k:Nat}{A:Around}(r:Room k A):A.units+64<cLine:=by have:=r.un;omega
def kD:TA:=λ_ H Q=>Q [] H
def iy(ta:TE)(tr:TA):TA:=λσ H Q=>ta σ H λx H1=>tr σ H1 λxs H2=>Q (x::xs) H2
section
variable {X:Cx}{e:Expr}{es:List Expr}{te:TE}{t:TA}{pos:Pos}
theorem ac:PA X [] kD:=λ_ _ _ _ H Q I h=>Calls.spliced_nil ⟨[],H,I,.nil,h⟩
theorem aa(ha:PE X e te)(hr:PA X es t)(hs:starEach (e::es) X.env=(false,eval e X.env)::starEach es X.env:=by rfl):PA X (e::es) (iy te t):=by intro pos pins s σ H Q I h;rw[hs];show wpAny _ _ (spliced ((false,eval e X.env)::backTo pos (starEach es X.env))) _ _ s;refine Calls.spliced_cons (thn (ha pins s σ H _ I h) λu s1 ⟨x,H1,I1,r1,q1⟩=>?_);exact thn (hr pos pins s1 σ H1 _ I1 q1) λus s2 ⟨xs,H2,I2,r2,q2⟩=>⟨x::xs,H2,I2,.cons r1 r2,q2⟩
def Bj(t:TA):TE:=λσ H Q=>t σ H λxs H1=>xs.length<=sizeLine/\∀p,H1 p=none->Q (.ref p) (upd H1 p (.tup xs))
def vF(t:TA):TE:=λσ H Q=>t σ H λxs H1=>xs.length<=sizeLine/\∀p,H1 p=none->Q (.ref p) (upd H1 p (.lst xs))
theorem cQ{x1}(h:PA X es t):PE X (.Tuple es x1 pos) (Bj t):=by intro pins s σ H Q I hq;refine wpAny_Tuple_spliced (thn (h pos pins s σ H _ I hq) λus s1 ⟨xs,H1,I1,r,z,q⟩=>⟨by rw[<- r.length];exact z,?_⟩);have hf:H1 s1.heap.objs.size=none:=I1.hok.fresh (M0 _);refine⟨.ref s1.heap.objs.size,upd H1 s1.heap.objs.size (.tup xs),I1.laid (t':=s1.toks) (λb u e=>Heap.get?_push_of_some _ e) (M0 _) ?_,rfl,q _ hf⟩;exact⟨z,us,r,⟨_,Heap.get?_push_size _ rfl,rfl,_,rfl⟩⟩
theorem aT(h:PA X es t):PE X (.List es pos) (vF t):=by intro pins s σ H Q I hq;refine wpAny_List_spliced (thn (h pos pins s σ H _ I hq) λus s1 ⟨xs,H1,I1,r,z,q⟩=>⟨by rw[<- r.length];exact z,?_⟩);have hf:H1 s1.heap.objs.size=none:=I1.hok.fresh (M0 _);refine⟨.ref s1.heap.objs.size,upd H1 s1.heap.objs.size (.lst xs),I1.laid (t':=s1.toks) (λb u e=>Heap.get?_push_of_some _ e) (M0 _) ?_,rfl,q _ hf⟩;exact⟨z,us,0,r,Heap.get?_push_size _ rfl⟩
end
abbrev Sp:=List V->Hp->VK->XK->Prop
abbrev CXT:=List Env->Hp->Shared->XK->Value->Shared->Prop
structure Env0(P:Program)(w:World)(K:PySem.W.Frag)(mg:Str->Option Value)(base:Heap)(A:Around)(outer:List Env)(s:Shared)(H:Hp):Prop where
 frames:A.frames=some outer
 mod:Mod K mg base
 bs:∀b o,base.get? b=some o->s.heap.get? b=some o/\H b=none
 bsz:base.objs.size<=s.heap.objs.size
 funs:s.heap.FunFrames base outer
 frf:∀b∈frs outer,H b=none
 hok:HOk P w H s.heap
 bare:AllBare s.gens
noncomputable def CE(outer:List Env)(P:Program)(w:World)(H:Hp)(s:Shared)(Q:VK)(u:Value)(s':Shared):Prop :=
 ∃v H',s'.os=s.os/\AllBare s'.gens/\Un (frs outer) [] H H' s.heap s'.heap/\HOk P w H' s'.heap/\RelV v u/\Q v H'
noncomputable def CR(CX:CXT)(outer:List Env)(P:Program)(w:World)(H:Hp)(s:Shared)(Q:VK)(E:XK)(r:Result)(s':Shared):Prop :=
 match r with
 |.ok (.ret u)=>CE outer P w H s Q u s'
 |.ok _=>False
 |.error e=>CX outer H s E e s'
structure FnOk(P:Program)(w:World)(K:PySem.W.Frag)(mg:Str->Option Value)(base:Heap)(CX:CXT)(k:Nat)(f:Addr)(fd:FuncData)(ps:List Str)(sp:Sp):Prop where
 len:∀vs H Q E,sp vs H Q E->vs.length=ps.length
 run:∀(A:Around) (outer:List Env) (s:Shared) (H:Hp) (args:Args) (us:List Value) (vs:List V) (Q:VK) (E:XK),Room k A->Env0 P w K mg base A outer s H->BindsTo s fd args (ps.zip us)->Vals vs us->sp vs H Q E ->
  codeAny (model P w) A (.call (.ref f) args) (CR CX outer P w H s Q E) s
theorem FnOk.mono{P:Program}{w:World}{K:PySem.W.Frag}{mg:Str->Option Value}{base:Heap}{CX:CXT}{j k:Nat}{f:Addr}{fd:FuncData}{ps:List Str}{sp:Sp}(F:FnOk P w K mg base CX j f fd ps sp)(h:j<=k:=by decide) :
 FnOk P w K mg base CX k f fd ps sp:=⟨F.len,λA outer s H args us vs Q E hr=>F.run A outer s H args us vs Q E (hr.mono h)⟩
theorem Env0.make{P:Program}{w:World}{K:PySem.W.Frag}{mg:Str->Option Value}{base:Heap}{A:Around}{outer:List Env}{s:Shared}{H:Hp}(e:Env0 P w K mg base A outer s H)(C:Addr)(us:List Value)(kw:List (Str×Value)) :
 Env0 P w K mg base (A.under (.builtin "type.__call__" ⟨.ref C::us,kw⟩)) outer s H:=⟨by first |exact e.frames | (simpa[Around.under,Code.envs,Code.isFrame,pushEnvs]using e.frames),e.mod,e.bs,e.bsz,e.funs,e.frf,e.hok,e.bare⟩
section
variable {X:Cx}{pins:List (Addr×Obj)}{σ:St}{H:Hp}{s s':Shared}
theorem Inv.env0(I:Inv X pins σ H s):Env0 X.prog X.w X.K X.mg X.base X.A X.stack s H :=
 ⟨I.ok.frames,I.ok.mod,I.bs,Nb I.ok.bsz I.sz,I.stack,I.stkFree,I.hok,I.bare⟩
theorem Inv.after{Q:VK}{u:Value}(I:Inv X pins σ H s)(h:CE X.stack X.prog X.w H s Q u s'):EP X pins σ Q u s':=by obtain⟨v,H',os,bare,un,hok,r,q⟩:=h;obtain⟨hh,g,d,t,os'⟩:=s';obtain rfl:os'=s.os:=os;exact⟨v,H',I.call (h':=hh) (g':=g) (d':=d) (t':=t) (ch:=[]) un hok bare (λb z=>absurd z (by simp)),r,q⟩
end
def vH(sp:Sp)(dvs:List V)(E:XK)(t:TA):TE:=λσ H Q=>t σ H λvs H1=>sp (vs++dvs) H1 Q E
def vE(C:Addr)(m:Str)(sp:Sp)(dvs:List V)(E:XK)(ta:TE)(t:TA):TE:=λσ H Q=>ta σ H λx H1=>∃a dx fs,x=.ref a/\H1 a=some (.ins C dx fs)/\fs.lookup m=none /\
 t σ H1 λvs H2=>sp (x::(vs++dvs)) H2 Q E
def Br(C:Addr)(sp:Sp)(dvs:List V)(E:XK)(t:TA):TE:=λσ H Q=>t σ H λvs H1=>∀x dx,H1 x=none->H1 dx=none->dx≠x ->
 sp (.ref x::(vs++dvs)) (upd (upd H1 dx (.own x)) x (.ins C dx [])) (λv H2=>v=.non/\Q (.ref x) H2) E
noncomputable def Binds(K:PySem.W.Frag)(fd:FuncData)(ps:List Str)(ds:List Value):Prop :=
 ∀(s:Shared) (us:List Value),K.In s.heap->(us++ds).length=ps.length->BindsTo s fd ⟨us,[]⟩ (ps.zip (us++ds))
theorem Binds.all{K:PySem.W.Frag}{fd:FuncData}{ps:List Str}(h:∀us:List Value,us.length=ps.length->bindArgs fd ⟨us,[]⟩=pure (ps.zip us)):Binds K fd ps []:=λs us _ hl=>by rw[OD]at hl ⊢;exact .of_eq (h us hl)
def fi(CX:CXT)(X:Cx)(E:XK):Prop:=∀(pins:List (Addr×Obj)) (σ:St) (H:Hp) (s:Shared) (e:Value) (s':Shared),Inv X pins σ H s->CX X.stack H s E e s'->X.xe e s'
section
variable {X:Cx}{CX:CXT}{k:Nat}{f C:Addr}{fd:FuncData}{ps:List Str}{sp:Sp}{dvs:List V}{ds:List Value}{E:XK}{x m:Str}{p pos apos:Pos}{e o:Expr}{es:List Expr}{ta:TE}{t:TA}
theorem qN{pins:List (Addr×Obj)}{σ:St}{H:Hp}{s:Shared}{Q:VK}{us:List Value}{vs:List V}(F:FnOk X.prog X.w X.K X.mg X.base CX k f fd ps sp)(hr:Room k X.A)(hb:Binds X.K fd ps ds)(hd:Vals dvs ds)(hx:fi CX X E)
 (I:Inv X pins σ H s) (r:Vals vs us) (h:sp (vs++dvs) H Q E):wpAny (model X.prog X.w) X.A (call (.ref f) us) (EP X pins σ Q) X.xe s:=by
 have r2:Vals (vs++dvs) (us++ds):=r.append hd;have hl:(us++ds).length=ps.length:=by rw[<- r2.length];exact F.len _ _ _ _ h
 refine wpAny_call (codeAny_mono (F.run X.A X.stack s H ⟨us,[]⟩ (us++ds) (vs++dvs) Q E hr I.env0 (hb s us I.kIn hl) r2 h) λr s' hq=>?_);cases r with
 |error e=>exact hx pins σ H s e s' I hq
 |ok fl =>
  cases fl with
  |ret u=>exact I.after hq
  |next=>exact False.elim hq
  |brk=>exact False.elim hq
  |cont=>exact False.elim hq
theorem am(F:FnOk X.prog X.w X.K X.mg X.base CX k f fd ps sp)(hr:Room k X.A)(hg:Gl X x)(hm:X.mg x=some (.ref f))(hk:PySem.W.keepIn X.K (.ref f)=true)(hb:Binds X.K fd ps ds)(hd:Vals dvs ds)(hx:fi CX X E)
 (ha:PA X (e::es) t) (hdb:(x == ("__debug__":Str))=false:=by decide) (he:starEach (e::es) X.env=(false,eval e X.env)::starEach es X.env:=by rfl) (hpl:(backTo pos (starEach es X.env)).any (·.1)=false:=by rfl) :
 PE X (.Call (.Name x p) (e::es) [] pos) (vH sp dvs E t):=by
 intro pins s σ H Q I h;refine wpAny_Call_Name_kw (eQ I hg hm ?_ hdb);refine PySem.W.callWith_K (h₀:=X.base) I.ok.mod.kin hk (thn (ha pos pins s σ H _ I h) λus s1 ⟨vs,H1,I1,r,q⟩=>⟨I1.kIn,?_⟩) he hpl;exact qN F hr hb hd hx I1 r q
theorem fD{pl:Sem Bool}(he:PE X o ta)(c:Cls X.K C)(hm:Meth X.K C m f)(F:FnOk X.prog X.w X.K X.mg X.base CX k f fd ps sp)(hr:Room k X.A)(hb:Binds X.K fd ps ds)(hd:Vals dvs ds)(hx:fi CX X E)(ha:PA X (e::es) t)
 (hst:starEach (e::es) X.env=(false,eval e X.env)::starEach es X.env:=by rfl) (hpl:(backTo pos (starEach es X.env)).any (·.1)=false:=by rfl)
 (ht:eval (.Call (.Attribute o m apos) (e::es) [] pos) X.env=(do
   let ov <- eval o X.env
   standAt apos.atName
   let(f,first) <- holding [ov] (getMethod ov m pl)
   callWith pos f first (backTo pos (starEach (e::es) X.env)) (backToKw pos (keywordEach [] X.env))):=by rfl) :
 PE X (.Call (.Attribute o m apos) (e::es) [] pos) (vE C m sp dvs E ta t):=by
 intro pins s σ H Q I h;refine PySem.W.methodCall_KW (pl:=pl) (thn (he pins s σ H _ I h) λu s1 ⟨x,H1,I1,rx,a,dx,fs,ex,ea,l,q⟩=>?_) ht;subst ex;obtain rfl:u=Value.ref a:=rx;refine yR I1 ea c hm l ?_;refine PySem.W.callWith_K (first:=[.ref a]) (h₀:=X.base) I.ok.mod.kin hm.kp (thn (ha pos pins s1 σ H1 _ I1 q) λus s2 ⟨vs,H2,I2,r,q2⟩=>⟨I2.kIn,?_⟩) hst hpl;exact qN (us:=.ref a::us) (vs:=.ref a::vs) F hr hb hd hx I2 (.cons rfl r) q2
theorem DM{pl:Sem Bool}(he:PE X o ta)(c:Cls X.K C)(hm:Meth X.K C m f)(F:FnOk X.prog X.w X.K X.mg X.base CX k f fd ps sp)(hr:Room k X.A)(hb:Binds X.K fd ps ds)(hd:Vals dvs ds)(hx:fi CX X E)
 (ht:eval (.Call (.Attribute o m apos) [] [] pos) X.env=(do
   let ov <- eval o X.env
   standAt apos.atName
   let(f,first) <- holding [ov] (getMethod ov m pl)
   callWith pos f first (backTo pos (starEach [] X.env)) (backToKw pos (keywordEach [] X.env))):=by rfl) :
 PE X (.Call (.Attribute o m apos) [] [] pos) (vE C m sp dvs E ta kD):=by
 intro pins s σ H Q I h;refine PySem.W.methodCall_KW (pl:=pl) (thn (he pins s σ H _ I h) λu s1 ⟨x,H1,I1,rx,a,dx,fs,ex,ea,l,q⟩=>?_) ht;subst ex;obtain rfl:u=Value.ref a:=rx;refine yR I1 ea c hm l ?_;exact PySem.W.callWith_K0 (first:=[.ref a]) I1.kIn hm.kp (qN (us:=[.ref a]) (vs:=[.ref a]) F hr hb hd hx I1 (.cons rfl .nil) q)
structure Mk(K:PySem.W.Frag)(C f:Addr):Prop where
 makes:PySem.W.makesIn K C=true
 init:PySem.W.findIn K (.ref C) "__init__"=some (some (.ref f))
 fn:PySem.W.isFn K (.ref f)=true
 kp:PySem.W.keepIn K (.ref C)=true
theorem CI{pins:List (Addr×Obj)}{σ:St}{H:Hp}{s:Shared}{Q:VK}{us:List Value}{vs:List V}(M:Mk X.K C f)(F:FnOk X.prog X.w X.K X.mg X.base CX k f fd ps sp)(hr:Room (k+1) X.A)(hb:Binds X.K fd ps ds)(hd:Vals dvs ds)
 (hx:fi CX X E) (I:Inv X pins σ H s) (r:Vals vs us)
 (h:∀x dx,H x=none->H dx=none->dx≠x->sp (.ref x::(vs++dvs)) (upd (upd H dx (.own x)) x (.ins C dx [])) (λv H2=>v=.non/\Q (.ref x) H2) E) :
 wpAny (model X.prog X.w) X.A (call (.ref C) us) (EP X pins σ Q) X.xe s:=by
 have hq:=h (s.heap.objs.size+1) s.heap.objs.size (I.hok.fresh (Nat.le_succ _)) (I.hok.fresh (M0 _)) (Ng (NV _));have I2:=Inv.made (C:=C) I;have r2:Vals (V.ref (s.heap.objs.size+1)::(vs++dvs)) (Value.ref (s.heap.objs.size+1)::(us++ds)):=.cons rfl (r.append hd)
 have hl:(Value.ref (s.heap.objs.size+1)::us++ds).length=ps.length:=by have e:=r2.length;rw[F.len _ _ _ _ hq]at e;exact e.symm
 refine wpAny_call (FV (f:=f) I.kIn M.makes M.init (beq_iff_eq.mp M.fn) (codeAny_mono (F.run _ X.stack _ _ ⟨Value.ref (s.heap.objs.size+1)::us,[]⟩ (Value.ref (s.heap.objs.size+1)::(us++ds)) _ _ E (hr.make C us [])
  (I2.env0.make C us []) (hb _ (Value.ref (s.heap.objs.size+1)::us) I2.kIn hl) r2 hq) λr s' hq'=>?_))
 cases r with
 |error e=>exact hx pins σ _ _ e s' I2 hq'
 |ok fl =>
  cases fl with
  |ret u =>obtain⟨v,H',I3,rv,ev,q3⟩:=I2.after hq';subst ev;exact⟨rv,⟨V.ref (s.heap.objs.size+1),H',I3,rfl,q3⟩⟩
  |next=>exact False.elim hq'
  |brk=>exact False.elim hq'
  |cont=>exact False.elim hq'
theorem cM(M:Mk X.K C f)(F:FnOk X.prog X.w X.K X.mg X.base CX k f fd ps sp)(hr:Room (k+1) X.A)(hg:Gl X x)(hm:X.mg x=some (.ref C))(hb:Binds X.K fd ps ds)(hd:Vals dvs ds)(hx:fi CX X E)
 (ha:PA X (e::es) t) (hdb:(x == ("__debug__":Str))=false:=by decide) (he:starEach (e::es) X.env=(false,eval e X.env)::starEach es X.env:=by rfl) (hpl:(backTo pos (starEach es X.env)).any (·.1)=false:=by rfl) :
 PE X (.Call (.Name x p) (e::es) [] pos) (Br C sp dvs E t):=by
 intro pins s σ H Q I h;refine wpAny_Call_Name_kw (eQ I hg hm ?_ hdb);refine PySem.W.callWith_K (h₀:=X.base) I.ok.mod.kin M.kp (thn (ha pos pins s σ H _ I h) λus s1 ⟨vs,H1,I1,r,q⟩=>⟨I1.kIn,?_⟩) he hpl;exact CI M F hr hb hd hx I1 r q
end
section
variable {X:Cx}{CX:CXT}{k:Nat}{f C:Addr}{fd:FuncData}{ps ks:List Str}{sp:Sp}{E:XK}{x m:Str}{p pos apos kpos:Pos}{e o:Expr}{es:List Expr}{kws:List Keyword}{te ta:TE}{t tk:TA}{nm:Option Str}
variable {g:List Value->List Value->List Value}{gV:List V->List V->List V}
end
structure FnScope(N P:List Str)(sc:Scope):Prop where
 kind:sc.kind=.function
 co:sc.isCoroutine=false
 gen:sc.isGenerator=false
 nd:N.Nodup
 pre:N.take P.length=P
 par:∀x∈P,sc.names.lookup x=some .local\/sc.names.lookup x=some .cell
 nofree:∀y∈sc.names,y.2≠.free
theorem zY{kindOf:Str->Option NameKind}{x:Str}:∀{binds:List (Str×Value)} {m:Str->Option Value},(∀v,(x,v)∉binds)->bindL kindOf binds m x=m x
 | [],_,_=>rfl
 | (n,v)::r,m,h=>by
  unfold bindL;rw[zY λw hw=>h w (M8 _ hw)];split
  ·have:x≠n:=by rintro rfl;exact h v Na
   simp[this]
  ·rfl
theorem Aa{kindOf:Str->Option NameKind}{x:Str}:∀{binds:List (Str×Value)} {m:Str->Option Value},(∀v,(x,v)∉binds)->bindC kindOf binds m x=m x
 | [],_,_=>rfl
 | (n,v)::r,m,h=>by
  unfold bindC;rw[Aa λw hw=>h w (M8 _ hw)];split
  ·rfl
  ·have:x≠n:=by rintro rfl;exact h v Na
   simp[this]
theorem zZ{kindOf:Str->Option NameKind}{x:Str}{v:Value}:∀{P:List Str} {vs:List Value} {i:Nat} {m:Str->Option Value},P.Nodup->P[i]?=some x->vs[i]?=some v->kindOf x=some .local ->
 bindL kindOf (P.zip vs) m x=some v
 | [],_,_,_,_,h,_,_=>by simp at h
 |_::_,[],_,_,_,_,h,_=>by simp at h
 |p::P,w::vs,0,m,nd,h1,h2,hk=>by
  simp at h1 h2;subst h1;subst h2
  show bindL kindOf ((p,w)::P.zip vs) m p=_;unfold bindL;rw[zY λv hv=>(Ot.mp nd).1 (List.of_mem_zip hv).1,if_pos hk];simp
 |p::P,w::vs,i+1,m,nd,h1,h2,hk=>by show bindL kindOf ((p,w)::P.zip vs) m x=_;unfold bindL;exact zZ (i:=i) (Ot.mp nd).2 (by simpa using h1) (by simpa using h2) hk
theorem Ab{kindOf:Str->Option NameKind}{x:Str}{v:Value}:∀{P:List Str} {vs:List Value} {i:Nat} {m:Str->Option Value},P.Nodup->P[i]?=some x->vs[i]?=some v->kindOf x≠some .local ->
 bindC kindOf (P.zip vs) m x=some v
 | [],_,_,_,_,h,_,_=>by simp at h
 |_::_,[],_,_,_,_,h,_=>by simp at h
 |p::P,w::vs,0,m,nd,h1,h2,hk=>by
  simp at h1 h2;subst h1;subst h2
  show bindC kindOf ((p,w)::P.zip vs) m p=_;unfold bindC;rw[Aa λv hv=>(Ot.mp nd).1 (List.of_mem_zip hv).1,if_neg hk];simp
 |p::P,w::vs,i+1,m,nd,h1,h2,hk=>by show bindC kindOf ((p,w)::P.zip vs) m x=_;unfold bindC;exact Ab (i:=i) (Ot.mp nd).2 (by simpa using h1) (by simpa using h2) hk
noncomputable def start(N:List Str)(vs:List V):St:=vs.map some++List.replicate (N.length-vs.length) none
noncomputable def bw(CX:CXT)(P:Program)(w:World)(K:PySem.W.Frag)(mg:Str->Option Value)(base:Heap)(N:List Str)(qual:Str)(scope:Scope)(f:Addr)(cd:Value)(A:Around)(outer:List Env)(s:Shared)(H:Hp)(E:XK):Cx where
 prog:=P
 w:=w
 K:=K
 mg:=mg
 base:=base
 A:=A.deeper (envOfC qual scope s.heap.objs.size f cd)
 N:=N
 s₀:=s
 H₀:=H
 env:=envOfC qual scope s.heap.objs.size f cd
 outer:=outer
 stack:=envOfC qual scope s.heap.objs.size f cd::outer
 ex:=[]
 calm:=true
 fn:=λ_=>true
 pn:=[]
 xe:=λe s'=>wpAny (model P w) (A.deeper (envOfC qual scope s.heap.objs.size f cd)) (leaving (envOfC qual scope s.heap.objs.size f cd) e) (λ_ s''=>CX outer H s E e s'') (λe' s''=>CX outer H s E e' s'') s'
theorem zS{sc:Scope}{n:Nat}{x:Str}(h:sc.names.lookup x=some .cell):∃c,(cellsFrom n sc.names []).lookup x=some c:=by have q:=PySem.W.cellsFrom_some sc.names n [] (.inl h);exact OM.mp q
theorem Hy{CX:CXT}{P:Program}{w:World}{K:PySem.W.Frag}{mg:Str->Option Value}{base:Heap}{N ps:List Str}{qual:Str}{scope:Scope}{f:Addr}{cd:Value}{A:Around}{outer:List Env}{s s1:Shared}{H:Hp}{E:XK}{us:List Value}{vs:List V}
 (S:FnScope N ps scope) (hd:A.handled=none) (e0:Env0 P w K mg base A outer s H) (hl:vs.length=ps.length) (r:Vals vs us)
 (x:InCallC s s.heap.objs.size (bindL (envOfC qual scope s.heap.objs.size f cd).kindOf (ps.zip us) λ_=>none) (cellsFrom (s.heap.objs.size+1) scope.names []) (bindC (envOfC qual scope s.heap.objs.size f cd).kindOf (ps.zip us) λ_=>none) s1) :
 Inv (bw CX P w K mg base N qual scope f cd A outer s H E) [] (start N vs) H s1:=by
 have hpl:ps.length<=N.length:=by have:=congrArg List.length S.pre;rw[NW]at this;omega
 obtain⟨h1,tk,rfl,hk⟩:=x.done;have noA:∀b:Addr,b∉(bw CX P w K mg base N qual scope f cd A outer s H E).ex:=λb z=>absurd (show b∈([]:List Addr)from z) (by simp)
 refine⟨⟨e0.mod,S.kind,rfl,rfl,M0 _,λy z c h1 h2=>?_,λy hy=>?_,λy c _ h=>?_,λ_=>hd,Around.frames_deeper e0.frames,.inr ⟨rfl,rfl⟩,λb z=>absurd z (noA b),e0.bs,e0.bsz,λb _ _=>noA b,λb z=>absurd z (noA b),e0.funs,e0.frf⟩,
  rfl,e0.bare,Un.kept hk,⟨_,x.toInCall.ns,λi y v h1 h2 h3=>?_⟩,λy c h=>⟨_,x.cell y c h⟩,e0.hok.fresh (M0 _),λy c h=>?_,λp hp=>absurd (show p∈([]:List (Addr×Obj))from hp) (by simp),e0.hok.kept hk,?_⟩
 ·exact name_of_addr x.apart (PySem.mem_of_lookup h1) (PySem.mem_of_lookup h2)
 ·have hy:scope.names.lookup y=some .cell\/scope.names.lookup y=some .free:=hy;rcases hy with hy |hy
  ·exact zS hy
  ·exact absurd rfl (S.nofree _ (PySem.mem_of_lookup hy))
 ·exact OC (x.above y c (PySem.mem_of_lookup h))
 ·have hi:i<vs.length:=by
   unfold start at h2
   by_cases hi:i<vs.length
   ·exact hi
   ·rw[List.getElem?_append_right (by simpa using hi)]at h2;rw[List.getElem?_replicate]at h2;split at h2<;>cases h2
  have ha:vs[i]?=some v:=by
   unfold start at h2
   rw[List.getElem?_append_left (by simpa using hi),List.getElem?_map]at h2;cases e:vs[i]? with
   |none=>rw[e]at h2;cases h2
   |some a=>rw[e]at h2;cases h2;rfl
  obtain⟨u,hu,rv⟩:=r.get ha
  have hp:ps[i]?=some y:=by rw[<- S.pre,List.getElem?_take_of_lt (by omega)];exact h1
  have ndP:ps.Nodup:=by rw[<- S.pre];exact S.nd.sublist (List.take_sublist _ _)
  refine⟨u,rv,?_⟩;rcases S.par y (List.mem_of_getElem? hp)with k |k
  ·exact .inl ⟨k,zZ ndP hp hu k⟩
  ·obtain⟨c,e⟩:=zS (n:=s.heap.objs.size+1) k;refine .inr ⟨.inl k,c,e,?_⟩;have q:=x.cell y c e;rw[Ab ndP hp hu (by show scope.names.lookup y≠_;rw[k];decide)]at q;exact q
 ·exact e0.hok.fresh (OC (x.above y c (PySem.mem_of_lookup h)))
 ·unfold start;show _=N.length;rw[Nh,MZ,O2];omega
theorem o8{CX:CXT}{P:Program}{w:World}{K:PySem.W.Frag}{mg:Str->Option Value}{base:Heap}{k:Nat}{f:Addr}{name qual:Str}{params:Arguments}{body:List Stmt}{scope:Scope}{dV kV doc pm cdv ct oc:Value}{an od:Option Addr}
 {osl:Array (Option Value)} {N ps:List Str} {sp:Sp} (lk:K.lookup f=some ⟨oc,od,.func (PySem.W.fnOf name qual params body scope dV kV doc pm an cdv ct),osl⟩) (hcd:PySem.W.codeIn K cdv qual=true) (S:FnScope N ps scope)
 (len:∀vs H Q E,sp vs H Q E->vs.length=ps.length)
 (hbody:∀(A:Around) (outer:List Env) (s:Shared) (H:Hp) (vs:List V) (Q:VK) (E:XK),Room k (A.deeper (envOfC qual scope s.heap.objs.size f cdv))->sp vs H Q E ->
   ∃t,PSs (bw CX P w K mg base N qual scope f cdv A outer s H E) body t/\t { nx:=λ_ H'=>Q .non H',rt:=Q } (start N vs) H) :
 FnOk P w K mg base CX (k+1) f (PySem.W.fnOf name qual params body scope dV kV doc pm an cdv ct) ps sp:=by
 refine⟨len,λA outer s H args us vs Q E hr e0 hb r hsp=>?_⟩;have hl:=len _ _ _ _ hsp;have KX:K.In s.heap:=e0.mod.kin.keeps λb o e=>(e0.bs b o e).1
 have lim:s.heap.NoLimit:=e0.mod.nolimit.keeps λb o e=>(e0.bs b o e).1
 have hkind:∀y∈ps.zip us,scope.names.lookup y.1=some .local\/(scope.names.lookup y.1=some .cell/\((cellsFrom (s.heap.objs.size+1) scope.names []).lookup y.1).isSome=true):=λ⟨n,v⟩ hy=>by
  rcases S.par n (List.of_mem_zip hy).1 with q |q
  ·exact .inl q
  ·exact .inr ⟨q,PySem.W.cellsFrom_some _ _ _ (.inl q)⟩
 refine codeAny_call_function hr.depth (KX _ _ lk) rfl S.co S.gen rfl (PySem.W.codeRec_of KX hcd) (hb _ _ _ _ ?_);refine wpAny_newFunctionEnv_cells S.kind hkind λenv he s1 x=>?_
 subst he;refine⟨lim.keeps x.toInCall.keep,codeAny_func ?_⟩;obtain⟨t,ht,hq⟩:=hbody A outer s H vs Q E (hr.deeper _) hsp;have I:Inv (bw CX P w K mg base N qual scope f cdv A outer s H E) [] (start N vs) H s1:=Hy S hr.hd e0 hl r x;refine wpAny_mono (ht [] s1 (start N vs) H _ I hq) (λfl s' hs=>?_) λe s' hs=>hs
 have fin:∀{σ':St} {H':Hp} {v:V} {u:Value},Inv (bw CX P w K mg base N qual scope f cdv A outer s H E) [] σ' H' s'->RelV v u->Q v H'->CE outer P w H s Q u s' :=
  λ{σ' H' v u} J rv q=>⟨v,H',J.os,J.bare,J.base,J.hok,rv,q⟩
 cases fl with
 |ret u =>obtain⟨v,σ',H',J,rv,q⟩:=hs;exact fin J rv q
 |next =>obtain⟨σ',H',J,q⟩:=hs;exact fin (v:=V.non) (u:=Value.none) J rfl q
 |brk =>obtain⟨_,_,_,q⟩:=hs;exact False.elim q
 |cont =>obtain⟨_,_,_,q⟩:=hs;exact False.elim q
section
variable {X:Cx}{x:Str}{p pos:Pos}{e:Expr}{es:List Expr}{t:TA}{id T:String}{r:List V->Hp->VK->Prop}
def tCB(r:List V->Hp->VK->Prop)(t:TA):TE:=λσ H Q=>t σ H λvs H1=>r vs H1 Q
theorem aQ(hc:CallR X (.builtin id) r)(hg:Gl X x)(hm:X.mg x=none)(hv:bootBuiltins x=some (.builtin id))(ha:PA X (e::es) t)(hn:x≠"__name__":=by decide)(hdb:(x == ("__debug__":Str))=false:=by decide)
 (he:starEach (e::es) X.env=(false,eval e X.env)::starEach es X.env:=by rfl) (hpl:(backTo pos (starEach es X.env)).any (·.1)=false:=by rfl):PE X (.Call (.Name x p) (e::es) [] pos) (tCB r t):=by
 intro pins s σ H Q I h;refine wpAny_Call_Name_kw (eR I hg hm hv ?_ hn hdb);exact PyProof.Rows.callWith_builtin1 (thn (ha pos pins s σ H _ I h) λus s1 ⟨vs,H1,I1,r1,q1⟩=>hc pins s1 σ H1 vs us Q I1 r1 q1) he hpl
theorem rg(hc:CallR X (.type T) r)(hg:Gl X x)(hm:X.mg x=none)(hv:bootBuiltins x=some (.type T))(ha:PA X (e::es) t)(hn:x≠"__name__":=by decide)(hdb:(x == ("__debug__":Str))=false:=by decide)
 (he:starEach (e::es) X.env=(false,eval e X.env)::starEach es X.env:=by rfl) (hpl:(backTo pos (starEach es X.env)).any (·.1)=false:=by rfl):PE X (.Call (.Name x p) (e::es) [] pos) (tCB r t):=by
 intro pins s σ H Q I h;refine wpAny_Call_Name_kw (eR I hg hm hv ?_ hn hdb);exact PyProof.Rows.callWith_type1 (thn (ha pos pins s σ H _ I h) λus s1 ⟨vs,H1,I1,r1,q1⟩=>hc pins s1 σ H1 vs us Q I1 r1 q1) he hpl
end
end L2
namespace HT
open PySem PyProof.Rows
section
open PySem.SeqAt
open PySem.AutoSeq1 (wpAny_loadPart')
open PySem.MeetsSeq PySem.MeetsSeq2 PySem.MeetsSeq3
end
section
variable {prog:Program}{w:World}{A:Around}{E:Value->Shared->Prop}{s:Shared}
noncomputable def sIx(n d:Nat):Option Int->Nat
 |none=>d
 |some v=>if v<0 then(v+(n:Int)).toNat else min v.toNat n
theorem sIx_none(n d:Nat):sIx n d none=d:=rfl
theorem sIx_nat(n d k:Nat):sIx n d (some (k:Int))=min k n:=by show(if(k:Int)<0 then((k:Int)+(n:Int)).toNat else min (k:Int).toNat n)=min k n;rw[if_neg (by omega),Int.toNat_natCast]
end
end HT
namespace L2
open PySem PySem.Spec PyProof.Rows
abbrev TO:=St->Hp->(Option Int->Hp->Prop)->Prop
noncomputable def PO(X:Cx)(e:Option Expr)(t:TO):Prop :=
 ∀(pins:List (Addr×Obj)) (s:Shared) (σ:St) (H:Hp) (Q:Option Int->Hp->Prop),Inv X pins σ H s->t σ H Q ->
  wpAny (model X.prog X.w) X.A (evalPart e X.env) (λu s'=>∃o H',Inv X pins σ H' s'/\IsPart u o/\Q o H') X.xe s
noncomputable def Bp:TO:=λ_ H Q=>Q none H
noncomputable def Bo(t:TE):TO:=λσ H Q=>t σ H λx H1=>∃i,x=.int i/\Q (some i) H1
theorem oT{ns:List Int}:∀{us:List Value},Vals (ns.map V.int) us->IntsAre us ns:=by
 induction ns with
 |nil=>intro us r;rw[List.map_nil]at r;cases r;exact .nil
 |cons n ns ih =>
  intro us r;rw[Nx]at r;cases r with
  |cons r1 r2 =>obtain⟨t,e⟩:=r1;subst e;exact .cons n t (ih r2)
section
variable {X:Cx}{e:Expr}{te:TE}{lo hi:Option Expr}{tl th:TO}{pos p2:Pos}
theorem n5:PO X none Bp:=by intro pins s σ H Q I h;rw[evalPart_none];exact wpAny_pure ⟨none,H,I,.none,h⟩
theorem nZ(h:PE X e te):PO X (some e) (Bo te):=by
 intro pins s σ H Q I hw;rw[evalPart_some];refine thn (h pins s σ H _ I hw) λu s1 ⟨x,H1,I1,r1,q1⟩=>?_
 obtain⟨i,rfl,q⟩:=q1;obtain⟨t,rfl⟩:=r1;exact⟨some i,H1,I1,.int i t,q⟩
noncomputable def SlR(X:Cx)(r:V->Option Int->Option Int->Hp->VK->Prop):Prop :=
 ∀(pins:List (Addr×Obj)) (s:Shared) (σ:St) (H:Hp) (x:V) (v vl vu:Value) (lo hi:Option Int) (sl:Addr) (Q:VK),Inv X pins σ H s->RelV x v->s.heap.IsSliceOf sl vl vu .none->IsPart vl lo->IsPart vu hi->r x lo hi H Q ->
  ∃T id,typeLookup (.type T) "__getitem__"=pure (some (.builtin id))/\s.TypeIs v T/\wpAny (model X.prog X.w) X.A (getItem v (.ref sl)) (EP X pins σ Q) X.xe s
theorem SlR.or{r r':V->Option Int->Option Int->Hp->VK->Prop}(h:SlR X r)(h':SlR X r'):SlR X (λx lo hi H Q=>r x lo hi H Q\/r' x lo hi H Q):=by
 intro pins s σ H x v vl vu lo hi sl Q I rx hs pl pu q;rcases q with q |q
 ·exact h pins s σ H x v vl vu lo hi sl Q I rx hs pl pu q
 ·exact h' pins s σ H x v vl vu lo hi sl Q I rx hs pl pu q
def tSl(r:V->Option Int->Option Int->Hp->VK->Prop)(te:TE)(tl th:TO):TE:=λσ H Q=>te σ H λx H1=>tl σ H1 λl H2=>th σ H2 λu H3=>r x l u H3 Q
theorem oa{r:V->Option Int->Option Int->Hp->VK->Prop}(hr:SlR X r)(he:PE X e te)(hl:PO X lo tl)(hu:PO X hi th):PE X (.Subscript e (.Slice lo hi none p2) pos) (tSl r te tl th):=by
 intro pins s σ H Q I h;refine Subscript_ (thn (he pins s σ H _ I h) λv s1 ⟨x,H1,I1,r1,q1⟩=>?_);refine wpAny_Slice (thn (hl pins s1 σ H1 _ I1 q1) λvl s2 ⟨l,H2,I2,pl,q2⟩=>thn (hu pins s2 σ H2 _ I2 q2) λvu s3 ⟨u,H3,I3,pu,q3⟩=>?_);rw[evalPart_none];refine wpAny_pure ?_;have I4:Inv X pins σ H3 { s3 with heap:=s3.heap.push { cls:=.type "slice",data:=.fields #[vl,vu,.none] } }:=I3.kept (t':=s3.toks) λb ob q=>Heap.get?_push_of_some _ q
 obtain⟨T,id,hT,ht,hg⟩:=hr pins { s3 with heap:=s3.heap.push { cls:=.type "slice",data:=.fields #[vl,vu,.none] } } σ H3 x v vl vu l u s3.heap.objs.size Q I4 r1 (Heap.IsSliceOf.new ..) pl pu q3;show wpAny (model X.prog X.w) X.A (subscriptTail e (.Slice lo hi none p2) v (.ref s3.heap.objs.size)) (EP X pins σ Q) X.xe { s3 with heap:=s3.heap.push { cls:=.type "slice",data:=.fields #[vl,vu,.none] } };exact tail_any (ops:=[.ref s3.heap.objs.size,v]) ht hT hg (by with_unfolding_all rfl)
noncomputable def fN(xs:List V)(lo hi:Option Int):List V:=(xs.drop (HT.sIx xs.length 0 lo)).take (HT.sIx xs.length xs.length hi-HT.sIx xs.length 0 lo)
theorem J8(xs:List V)(lo hi:Option Int):(fN xs lo hi).length<=xs.length:=by unfold fN;rw[NW,Og];omega
end
noncomputable def ixN(n:Nat)(i:Int):Option Nat:=if 0<=i then(if i<n then some i.toNat else none)else if -(n:Int)<=i then some (i+n).toNat else none
noncomputable def atI{α:Type}(xs:List α)(i:Int):Option α:=(ixN xs.length i).bind λj=>xs[j]?
theorem yn{n:Nat}{i:Int}{j:Nat}(h:ixN n i=some j):seqIndex? i n=some j/\j<n /\ -(n:Int)<=i/\i<n:=by
 unfold ixN at h
 by_cases h0:0<=i
 ·rw[if_pos h0]at h;by_cases h1:i<n
  ·rw[if_pos h1]at h;have e:i.toNat=j:=Option.some.inj h;exact⟨by rw[seqIndex_of h0 h1,e],by omega,by omega,h1⟩
  ·rw[if_neg h1]at h;cases h
 ·rw[if_neg h0]at h;by_cases h1 : -(n:Int)<=i
  ·rw[if_pos h1]at h;have e:(i+n).toNat=j:=Option.some.inj h;exact⟨by rw[seqIndex_neg (by omega) h1,e],by omega,h1,by omega⟩
  ·rw[if_neg h1]at h;cases h
theorem Am{α:Type}{xs:List α}{i:Int}{v:α}(h:atI xs i=some v):∃j,seqIndex? i xs.length=some j/\xs[j]?=some v/\j<xs.length /\ -(xs.length:Int)<=i/\i<xs.length:=by
 unfold atI at h
 cases e:ixN xs.length i with
 |none=>rw[e]at h;cases h
 |some j =>rw[e]at h;obtain⟨h1,h2,h3,h4⟩:=yn e;exact⟨j,h1,h,h2,h3,h4⟩
theorem kq{α:Type}{xs:List α}{j:Nat}{v:α}(h:xs[j]?=some v):atI xs (j:Int)=some v:=by
 have hj:j<xs.length:=(List.getElem?_eq_some_iff.mp h).1
 have e:ixN xs.length (j:Int)=some j:=by unfold ixN;rw[if_pos (by omega),if_pos (by omega)];simp
 unfold atI;rw[e];exact h
theorem uB{α:Type}(xs:List α)(v:α):atI (xs++[v]) (-1)=some v:=by
 have hl:(xs++[v]).length=xs.length+1:=by simp
 have e:ixN (xs++[v]).length (-1)=some xs.length:=by
  unfold ixN;rw[hl,if_neg (by decide),if_pos (by omega)]
  congr 1
  omega
 unfold atI;rw[e];show(xs++[v])[xs.length]?=some v;simp
def Lu(b:Expr):Prop:=∀o i,subscripted b false o i=operate [o,i] (getItem o i)
noncomputable def IxR(X:Cx)(r:R2):Prop :=
 ∀(value slice:Expr) (pins:List (Addr×Obj)) (s:Shared) (σ:St) (H:Hp) (x y:V) (v u:Value) (Q:VK),Inv X pins σ H s->RelV x v->RelV y u->r x y H Q ->
  subscripted slice false v u=operate [v,u] (getItem v u)->wpAny (model X.prog X.w) X.A (subscriptTail value slice v u) (EP X pins σ Q) X.xe s
noncomputable def MtR(X:Cx)(id:String)(r:V->List V->Hp->VK->Prop):Prop :=
 ∀(pins:List (Addr×Obj)) (s:Shared) (σ:St) (H:Hp) (x:V) (xs:List V) (v:Value) (us:List Value) (Q:VK),Inv X pins σ H s->RelV x v->Vals xs us->r x xs H Q ->
  wpAny (model X.prog X.w) X.A (call (.builtin id) (v::us)) (EP X pins σ Q) X.xe s
section
variable {X:Cx}{a b:Expr}{ta tb:TE}{pos:Pos}
theorem IxR.or{r r':R2}(h:IxR X r)(h':IxR X r'):IxR X (λx y H Q=>r x y H Q\/r' x y H Q):=by
 intro value slice pins s σ H x y v u Q I rx ry q hs;rcases q with q |q
 ·exact h value slice pins s σ H x y v u Q I rx ry q hs
 ·exact h' value slice pins s σ H x y v u Q I rx ry q hs
theorem MtR.or{id:String}{r r':V->List V->Hp->VK->Prop}(h:MtR X id r)(h':MtR X id r'):MtR X id (λx xs H Q=>r x xs H Q\/r' x xs H Q):=by
 intro pins s σ H x xs v us Q I rx rs q;rcases q with q |q
 ·exact h pins s σ H x xs v us Q I rx rs q
 ·exact h' pins s σ H x xs v us Q I rx rs q
theorem aG{r:R2}(hr:IxR X r)(ha:PE X a ta)(hb:PE X b tb)(hs:Lu b):PE X (.Subscript a b pos) (tOp r ta tb):=by intro pins s σ H Q I h;exact Subscript_ (ul ha hb I h λv u s2 x y H2 I2 rx ry q=>hr a b pins s2 σ H2 x y v u Q I2 rx ry q (hs _ _))
def wO(K:PySem.W.Frag):R2:=λx y H Q=>∃p xs i v,x=.ref p/\y=.int i/\SqL K H p xs/\atI xs i=some v/\Q v H
def wN(K:PySem.W.Frag):R2:=λx y H Q=>∃p xs i v,x=.ref p/\y=.int i/\SqT K H p xs/\atI xs i=some v/\Q v H
theorem Ht:IxR X (wO X.K):=by
 intro value slice pins s σ H x y v u Q I rx ry h hs;obtain⟨p,xs,i,z,rfl,rfl,hq,he,q⟩:=h;cases rx;obtain⟨t,rfl⟩:=ry;obtain⟨its,r,pl,hz⟩:=I.list hq;obtain⟨j,h1,h2,h3,h4,h5⟩:=Am he;obtain⟨w,ew,rw'⟩:=r.get h2;have hl:=r.length;have hn:=lI;have fin:EP X pins σ Q w s:=⟨z,H,I,rw',q⟩;by_cases h0:0<=i
 ·have hj:i.toNat=j:=by rw[seqIndex_of h0 h5]at h1;exact Option.some.inj h1
  exact item_listR pl.isList h0 (by omega) (by rw[hj];simpa using ew) fin hs
 ·have hj:(i+(its.toArray.size:Int)).toNat=j:=by rw[seqIndex_neg (by omega) h4]at h1;rw[Np,<- hl];exact Option.some.inj h1
  exact subscriptTail_builtinR (x:=w) pl.isList.typeIs slot_list_getitem.lookup
   (wpAny_getItem_list_neg (Q:=λr s'=>r=w/\EP X pins σ Q r s') pl.isList (by omega) (by rw[Np]<;>omega) (by omega) (by rw[hj];simpa using ew) ⟨rfl,fin⟩) hs
theorem Hs:IxR X (wN X.K):=by
 intro value slice pins s σ H x y v u Q I rx ry h hs;obtain⟨p,xs,i,z,rfl,rfl,hq,he,q⟩:=h;cases rx;obtain⟨t,rfl⟩:=ry;obtain⟨its,r,pl,hz⟩:=I.tuple hq;obtain⟨j,h1,h2,h3,h4,h5⟩:=Am he;obtain⟨w,ew,rw'⟩:=r.get h2;have hl:=r.length;have hn:=lI;have fin:EP X pins σ Q w s:=⟨z,H,I,rw',q⟩
 exact subscriptTail_builtinR (x:=w) pl.typeIs slot_tuple_getitem.lookup
  (getItem_tuple (j:=j) (Q:=λr s'=>r=w/\EP X pins σ Q r s') pl (by omega) (by omega) (by rw[Np,<- hl];exact h1) (by simpa using ew) ⟨rfl,fin⟩) hs
theorem FT(its:List Value)(n j:Nat)(u:Value):Obj.mapSeq (·.setIfInBounds j u) { cls:=.type "list",data:=.seq its.toArray n }={ cls:=.type "list",data:=.seq (its.set j u).toArray n }:=by simp[Obj.mapSeq]
theorem Inv.lst{pins:List (Addr×Obj)}{σ:St}{H:Hp}{s:Shared}{p:Addr}{xs:List V}(I:Inv X pins σ H s)(h:H p=some (.lst xs)) :
 ∃(its:List Value) (n:Nat),Vals xs its/\s.heap.get? p=some { cls:=.type "list",data:=.seq its.toArray n }/\xs.length<=sizeLine:=by
 obtain⟨z,its,n,r,e⟩:=I.hok p _ h;exact⟨its,n,r,e,z⟩
theorem Inv.lstUpd{pins:List (Addr×Obj)}{σ:St}{H:Hp}{s:Shared}{p:Addr}{xs ys:List V}{its its':List Value}{n n':Nat}{f:Obj->Obj}(I:Inv X pins σ H s)(h:H p=some (.lst xs))
 (ho:s.heap.get? p=some { cls:=.type "list",data:=.seq its.toArray n }) (hf:f { cls:=.type "list",data:=.seq its.toArray n }={ cls:=.type "list",data:=.seq its'.toArray n' }) (r:Vals ys its') (hz:ys.length<=sizeLine) (t:Nat) :
 Inv X pins σ (upd H p (.lst ys)) { s with heap:=s.heap.update p f,toks:=t }:=by
 have e:(s.heap.update p f).get? p=some { cls:=.type "list",data:=.seq its'.toArray n' }:=by rw[Heap.get?_update_self f ho (by rw[hf]<;>rfl),hf]
 refine I.write (x:=p) (e:=p) (by rw[h];trivial) (.inl rfl) (λb u hb q=>(Heap.get?_update_other _ _ (Ne.symm hb)).trans q) ⟨_,e⟩ ?_;exact⟨hz,its',n',r,e⟩
noncomputable def Dj:V->V->V->Hp->(Hp->Prop)->Prop:=λo i v H Q=>∃p xs k j,o=.ref p/\i=.int k/\H p=some (.lst xs)/\ixN xs.length k=some j/\Q (upd H p (.lst (xs.set j v)))
theorem kS:As X Dj:=by
 intro pins s σ H o i v ov iv u Q I ro ri rv h;obtain⟨p,xs,k,j,rfl,rfl,hp,hj,q⟩:=h;cases ro;obtain⟨t,rfl⟩:=ri;obtain⟨its,n,r,ho,hz⟩:=I.lst hp;obtain⟨h1,h2,h3,h4⟩:=yn hj;have hl:=r.length;have hn:=lI
 have I':Inv X pins σ (upd H p (.lst (xs.set j v))) { s with heap:=s.heap.update p (Obj.mapSeq (·.setIfInBounds j u)) } :=
  I.lstUpd hp ho (FT its n j u) (r.set rv j) (by rw[Ou];exact hz) s.toks
 by_cases h0:0<=k
 ·have hk:k.toNat=j:=by rw[seqIndex_of h0 h4]at h1;exact Option.some.inj h1
  exact PySem.W.ki_setAt ho h0 (by omega) (by rw[Np,<- hl];exact h4) (by rw[hk];exact⟨_,I',q⟩)
 ·have hk:(k+(its.toArray.size:Int)).toNat=j:=by rw[seqIndex_neg (by omega) h3]at h1;rw[Np,<- hl];exact Option.some.inj h1
  exact PySem.W.ki_setBack ho (by omega) (by rw[Np,<- hl];exact h3) (by omega) (by rw[hk];exact⟨_,I',q⟩)
theorem BJ(lo hi:Option Int)(n:Nat):(sliceBounds lo hi none n).1=((HT.sIx n 0 lo:Nat):Int)/\(sliceBounds lo hi none n).2.1=((HT.sIx n n hi:Nat):Int)/\(sliceBounds lo hi none n).2.2=1:=by
 refine⟨?_,?_,rfl⟩
 ·cases lo with
  |none=>simp[sliceBounds,HT.sIx]
  |some i =>
   simp only[sliceBounds,HT.sIx,Option.getD_none,show(1:Int)>0 by decide,if_true];by_cases h:i<0
   ·simp only[h,if_true]<;>omega
   ·simp only[h,if_false]<;>omega
 ·cases hi with
  |none=>simp[sliceBounds,HT.sIx]
  |some i =>
   simp only[sliceBounds,HT.sIx,Option.getD_none,show(1:Int)>0 by decide,if_true];by_cases h:i<0
   ·simp only[h,if_true]<;>omega
   ·simp only[h,if_false]<;>omega
theorem BK(its:List Value)(lo hi:Option Int):slicePick its.toArray lo hi none=((its.drop (HT.sIx its.length 0 lo)).take (HT.sIx its.length its.length hi-HT.sIx its.length 0 lo)).toArray:=by obtain⟨h1,h2,h3⟩:=BJ lo hi its.toArray.size;unfold slicePick;rw[h1,h2,h3];simp only[sliceRange_one,pick_run,Np]<;>rfl
noncomputable def qU(K:PySem.W.Frag):V->Option Int->Option Int->Hp->VK->Prop:=λx lo hi H Q=>∃a xs,x=.ref a/\SqL K H a xs/\∀p,H p=none->Q (.ref p) (upd H p (.lst (fN xs lo hi)))
theorem BL:SlR X (qU X.K):=by intro pins s σ H x v vl vu lo hi sl Q I rx hs pl pu h;obtain⟨a,xs,rfl,hx,q⟩:=h;cases rx;obtain⟨its,r,ht,hz⟩:=I.list hx;have hlen:=r.length;refine⟨"list",_,slot_list_getitem.lookup,ht.isList.typeIs,?_⟩;refine wpAny_getItem_list_slice ht.isList hs pl pu .none (by simp) ?_ (by rw[Np]<;>omega);rw[BK,<- hlen];refine⟨.ref s.heap.objs.size,_,I.laid (t':=s.toks) (o:=.lst (fN xs lo hi)) (λb ob q=>Heap.get?_push_of_some _ q) (M0 _) ?_,rfl,q _ (I.hok.fresh (M0 _))⟩;exact⟨Nb (J8 xs lo hi) hz,_,0,(r.drop (HT.sIx xs.length 0 lo)).take (HT.sIx xs.length xs.length hi-HT.sIx xs.length 0 lo),Heap.get?_push_size _ rfl⟩
theorem Kp:CallR X (.builtin "len") (λxs H Q=>∃p ys,xs=[.ref p]/\(SqL X.K H p ys\/SqT X.K H p ys)/\Q (.int ys.length) H):=by
 intro pins s σ H xs us Q I r h;obtain⟨p,ys,rfl,hq,q⟩:=h;obtain⟨u,rfl,rx⟩:=ix r;cases rx;have hn:=lI;rcases hq with hq |hq
 ·obtain⟨its,r',pl,hz⟩:=I.list hq;have hlen:=r'.length;exact Calls.call_len_list pl.isList (by simp only[Np]<;>omega) ⟨.int ys.length,H,I.tok _,⟨s.toks+1,by rw[Np,hlen]⟩,q⟩
 ·obtain⟨its,r',pl,hz⟩:=I.tuple hq;have hlen:=r'.length;exact len_tuple pl (by simp only[Np]<;>omega) ⟨.int ys.length,H,I.tok _,⟨s.toks+1,by rw[Np,hlen]⟩,q⟩
theorem CallR.or{f:Value}{r r':List V->Hp->VK->Prop}(h:CallR X f r)(h':CallR X f r'):CallR X f (λxs H Q=>r xs H Q\/r' xs H Q):=by
 intro pins s σ H xs us Q I rs q;rcases q with q |q
 ·exact h pins s σ H xs us Q I rs q
 ·exact h' pins s σ H xs us Q I rs q
theorem Ko:CallR X (.type "list") (λxs H Q=>∃p ys,xs=[.ref p]/\(SqL X.K H p ys\/SqT X.K H p ys)/\∀l,H l=none->Q (.ref l) (upd H l (.lst ys))):=by
 intro pins s σ H xs us Q I r h;obtain⟨p,ys,rfl,hq,q⟩:=h;obtain⟨u,rfl,rx⟩:=ix r;cases rx
 have fin:∀(its:List Value),Vals ys its->ys.length<=sizeLine->∀(h':Heap) (c':Nat),(∀b o',s.heap.get? b=some o'->h'.get? b=some o') ->
  h'.get? s.heap.objs.size=some { cls:=.type "list",dict:=none,data:=.seq its.toArray c',slots:=#[] }->EP X pins σ Q (.ref s.heap.objs.size) { s with heap:=h' }:=λits r' hz h' c' kp e =>
  ⟨.ref s.heap.objs.size,_,I.laid (t':=s.toks) kp (M0 _) (show ObjOk X.prog X.w _ h' _ (.lst ys)from⟨hz,its,c',r',e⟩),rfl,q _ (I.hok.fresh (M0 _))⟩
 rcases hq with hq |hq
 ·obtain⟨its,r',pl,hz⟩:=I.list hq;have hlen:=r'.length;obtain⟨o,ho,hc,n,hd⟩:=pl.isList;exact call_list_seq p (.inl rfl) ho hc hd (λh' c' kp e=>fin its r' hz h' c' kp e) (by simp only[Np]<;>omega)
 ·obtain⟨its,r',pl,hz⟩:=I.tuple hq;have hlen:=r'.length;obtain⟨o,ho,hc,n,hd⟩:=pl;exact call_list_seq p (.inr rfl) ho hc hd (λh' c' kp e=>fin its r' hz h' c' kp e) (by simp only[Np]<;>omega)
def tyV(K:PySem.W.Frag)(T:String)(x:V)(H:Hp):Prop:=match x with
 |.str _=>T="str"
 |.int _=>T="int"
 |.ref p=>(T="list"/\∃xs,SqL K H p xs)\/(T="tuple"/\∃o,K.lookup p=some o/\o.cls=.type "tuple"/\o.dict=none) \/
  (T="dict"/\((∃kvs,H p=some (.dK kvs))\/∃kvs,H p=some (.dT kvs)))\/(T="set"/\∃S n,H p=some (.set S n))
 |_=>False
theorem vw{pins:List (Addr×Obj)}{σ:St}{H:Hp}{s:Shared}{T:String}{x:V}{v:Value}(I:Inv X pins σ H s)(r:RelV x v)(ty:tyV X.K T x H) :
 s.TypeIs v T/\∀a,v=.ref a->∃ob,s.heap.get? a=some ob/\ob.dict=none:=by
 cases x with
 |str z =>obtain⟨t,rfl⟩:=r;cases(show T="str" from ty);exact⟨typeIs_str s z t,λ_ e=>nomatch e⟩
 |int i =>obtain⟨t,rfl⟩:=r;cases(show T="int" from ty);exact⟨typeIs_int s i t,λ_ e=>nomatch e⟩
 |ref p =>
  cases r;rcases ty with⟨rfl,xs,hq⟩ |⟨rfl,o,hk,hc,hd⟩ |⟨rfl,hk⟩ |⟨rfl,S,n,hk⟩
  ·obtain⟨its,_,pl,_⟩:=I.list hq;refine⟨pl.isList.typeIs,λa e=>?_⟩;cases e;obtain⟨o,n,e,c,hd,_⟩:=pl;exact⟨o,e,hd⟩
  ·refine⟨⟨o,I.kIn p o hk,hc⟩,λa e=>?_⟩;cases e;exact⟨o,I.kIn _ o hk,hd⟩
  ·have z:∃o,s.heap.get? p=some o/\o.ExactDict:=by
    rcases hk with⟨kvs,hk⟩ |⟨kvs,hk⟩
    ·obtain⟨_,_,_,_,o,_,_,e,ex,_⟩:=I.hok p _ hk;exact⟨o,e,ex⟩
    ·obtain⟨_,_,_,_,o,_,_,e,ex,_⟩:=I.hok p _ hk;exact⟨o,e,ex⟩
   obtain⟨o,e,ex⟩:=z;refine⟨⟨o,e,ex.1⟩,λa e2=>?_⟩;cases e2;exact⟨o,e,ex.2.1⟩
  ·obtain⟨o,_,_,_,e,ex,_⟩:=I.hok p _ hk;refine⟨⟨o,e,ex.1⟩,λa e2=>?_⟩;cases e2;exact⟨o,e,ex.2.1⟩
 |_=>exact False.elim ty
def Bu(K:PySem.W.Frag)(T:String)(r:V->List V->Hp->VK->Prop)(to:TE):TE:=λσ H Q=>to σ H λx H1=>tyV K T x H1/\r x [] H1 Q
def tBM(K:PySem.W.Frag)(T:String)(r:V->List V->Hp->VK->Prop)(to:TE)(t:TA):TE:=λσ H Q=>to σ H λx H1=>tyV K T x H1/\t σ H1 λxs H2=>r x xs H2 Q
variable {o e:Expr}{es:List Expr}{to:TE}{t:TA}{name:Str}{apos cpos:Pos}{T id:String}{r:V->List V->Hp->VK->Prop}
theorem DP(pa:PlainAttrs T)(slot:Slot T name id)(hty:typeOf (.builtin id)=pure (.type "method_descriptor"))(hm:MtR X id r)(ho:PE X o to)
 (hbase:attributeBase o name X.env (eval o X.env)=eval o X.env:=by rfl) (hline:(apos.endLine == cpos.line)=true:=by rfl):PE X (.Call (.Attribute o name apos) [] [] cpos) (Bu X.K T r to):=by
 intro pins s σ H Q I h;refine wpAny_Call_method0_late hbase hline (thn (ho pins s σ H _ I h) λv s1 ⟨x,H1,I1,r1,ty,q1⟩=>?_);obtain⟨h1,h2⟩:=vw I1 r1 ty;exact⟨T,id,pa,slot,hty,h1,h2,Calls.callWith_builtin rfl (PySem.evalArgs_none (hm pins s1 σ H1 x [] v [] Q I1 r1 .nil q1))⟩
theorem jW(pa:PlainAttrs T)(slot:Slot T name id)(hty:typeOf (.builtin id)=pure (.type "method_descriptor"))(hm:MtR X id r)(ho:PE X o to)(ha:PA X (e::es) t)
 (hbase:attributeBase o name X.env (eval o X.env)=eval o X.env:=by rfl)
 (hfew:((backTo cpos (starEach (e::es) X.env)).all (λx=>!x.1)&&(backToKw cpos (keywordEach [] X.env)).all (λx=>x.1.isSome)
   && decide ((e::es).length+([]:List Keyword).length+(if([]:List Keyword).isEmpty then 0 else 1)<30))=true:=by rfl)
 (hline:(apos.endLine == cpos.line)=true:=by rfl) (hs:starEach (e::es) X.env=(false,eval e X.env)::starEach es X.env:=by rfl) (hplain:(backTo cpos (starEach es X.env)).any (·.1)=false:=by rfl) :
 PE X (.Call (.Attribute o name apos) (e::es) [] cpos) (tBM X.K T r to t):=by
 intro pins s σ H Q I h;refine wpAny_Call_method_late hbase hfew hline rfl (thn (ho pins s σ H _ I h) λv s1 ⟨x,H1,I1,r1,ty,q1⟩=>?_);obtain⟨h1,h2⟩:=vw I1 r1 ty;refine⟨T,id,pa,slot,hty,h1,h2,?_⟩;have hA:=ha cpos pins s1 σ H1 _ I1 q1;rw[hs]at hA ⊢;refine Calls.callWith_builtin (by show(false || (backTo cpos (starEach es X.env)).any (·.1))=false;rw[hplain]<;>rfl) (Calls.evalArgs_plain ?_);exact thn hA λus s2 ⟨vs,H2,I2,r2,q2⟩=>hm pins s2 σ H2 x vs v us Q I2 r1 r2 q2
end
noncomputable def MtM(X:Cx)(id:String)(r:V->List V->Hp->VK->Prop):Prop :=
 ∀(pins:List (Addr×Obj)) (s:Shared) (σ:St) (H:Hp) (x:V) (xs:List V) (v:Value) (us:List Value) (Q:VK),Inv X pins σ H s->RelV x v->Vals xs us->r x xs H Q ->
  wpAny (model X.prog X.w) X.A (call (.builtin id) (v::us)) (EP X pins σ Q) X.xe s
theorem Vals.one:∀{x:V} {us:List Value},Vals [x] us->∃u,us=[u]/\RelV x u
 |_,_,.cons r .nil=>⟨_,rfl,r⟩
theorem Vals.two:∀{x y:V} {us:List Value},Vals [x,y] us->∃u v,us=[u,v]/\RelV x u/\RelV y v
 |_,_,_,.cons r (.cons q .nil)=>⟨_,_,rfl,r,q⟩
theorem Vals.zero:∀{us:List Value},Vals [] us->us=[]
 |_,.nil=>rfl
theorem Vals.reverse{xs:List V}{us:List Value}(h:Vals xs us):Vals xs.reverse us.reverse:=by
 induction h with
 |nil=>exact .nil
 |cons r t ih=>rw[List.reverse_cons,List.reverse_cons];exact Vals.append ih (.cons r .nil)
theorem Vals.rep{xs:List V}{us:List Value}(h:Vals xs us):∀k:Nat,Vals (List.replicate k xs).flatten (List.replicate k us).flatten
 |0=>.nil
 |k+1=>by rw[Oh,Oh,ON,ON];exact Vals.append h (Vals.rep h k)
theorem y0(its:List Value):∀(k:Nat) (acc:List Value),
 List.foldl (λx1 x2=>x1++x2) acc.toArray (List.replicate k its.toArray)=(acc++(List.replicate k its).flatten).toArray
 |0,acc=>by simp
 |k+1,acc=>by
  have e:acc.toArray++its.toArray=(acc++its).toArray:=by simp
  have e2:(acc++its)++(List.replicate k its).flatten=acc++(List.replicate (k+1) its).flatten:=by rw[Oh,ON,List.append_assoc]
  rw[<- e2,<- y0 its k (acc++its),<- e,Oh,List.foldl_cons]
section
variable {X:Cx}{pins:List (Addr×Obj)}{σ:St}{H:Hp}{s:Shared}{l b:Addr}{xs ys zs:List V}
theorem Inv.lset{its its':List Value}{n:Nat}{f:Array Value->Array Value}{t':Nat}(I:Inv X pins σ H s)(hH:H l=some (.lst xs))
 (e:s.heap.get? l=some { cls:=.type "list",data:=.seq its.toArray n }) (hf:f its.toArray=its'.toArray) (hv:Vals ys its') (hz:ys.length<=sizeLine) :
 Inv X pins σ (upd H l (.lst ys)) { s with heap:=s.heap.update l (Obj.mapSeq f),toks:=t' }:=by
 have q:=PySem.IsL.update e f;rw[hf]at q;refine I.write (x:=l) (e:=l) (by rw[hH];exact trivial) (.inl rfl) (λb' u hb hu=>(Heap.get?_update_other s.heap (Obj.mapSeq f) (Ne.symm hb)).trans hu) ⟨_,q⟩ ?_;exact⟨hz,its',_,hv,q⟩
theorem Inv.lnew{its:List Value}{t':Nat}(I:Inv X pins σ H s)(hv:Vals ys its)(hz:ys.length<=sizeLine) :
 Inv X pins σ (upd H s.heap.objs.size (.lst ys)) { s with heap:=s.heap.push { cls:=.type "list",data:=.seq its.toArray },toks:=t' } :=
 I.laid (λ_ _ q=>Heap.get?_push_of_some _ q) (M0 _) ⟨hz,its,0,hv,Heap.get?_push_size _ rfl⟩
theorem Inv.fresh(I:Inv X pins σ H s):H s.heap.objs.size=none:=I.hok.fresh (M0 _)
theorem Inv.lstM(I:Inv X pins σ H s)(hH:H l=some (.lst xs)):xs.length<=sizeLine/\∃(its:List Value) (n:Nat),Vals xs its/\xs.length=its.length/\s.heap.get? l=some { cls:=.type "list",data:=.seq its.toArray n }:=by obtain⟨z,its,n,r,e⟩:=I.hok l _ hH;exact⟨z,its,n,r,r.length,e⟩
theorem Ft{n:Nat}(h:n<=sizeLine):Builtin.List.listTooLong n=false:=by unfold Builtin.List.listTooLong;exact decide_eq_false (by omega)
end
section
variable {X:Cx}
noncomputable def Dp:V->List V->Hp->VK->Prop:=λx vs H Q=>∃l xs y,x=.ref l/\vs=[y]/\H l=some (.lst xs)/\xs.length<sizeLine/\Q .non (upd H l (.lst (xs++[y])))
theorem j6:MtM X "list.append" Dp:=by intro pins s σ H x vs v us Q I rx rv h;obtain⟨l,xs,y,rfl,rfl,hH,hz,q⟩:=h;cases rx;obtain⟨u,rfl,ru⟩:=rv.one;obtain⟨z,its,n,r,hl,e⟩:=I.lstM hH;refine call_meets F.slot_list_append ⟨_,e,rfl⟩ F.entry_list_append (F.args_list_append_2 _ _) (PySem.list_append l its.toArray n u (by rw[Np];omega)) ⟨e,?_⟩;refine⟨.non,_,I.lset (its':=its++[u]) hH e (by simp) (r.append (.cons ru .nil)) ?_,rfl,q⟩;rw[Nh,List.length_singleton];omega
noncomputable def Dk:V->List V->Hp->VK->Prop:=λx vs H Q=>∃l xs,x=.ref l/\vs=[]/\H l=some (.lst xs)/\Q .non (upd H l (.lst xs.reverse))
theorem FC:MtM X "list.reverse" Dk:=by intro pins s σ H x vs v us Q I rx rv h;obtain⟨l,xs,rfl,rfl,hH,q⟩:=h;cases rx;have hus:=rv.zero;subst hus;obtain⟨z,its,n,r,hl,e⟩:=I.lstM hH;refine call_meets F.slot_list_reverse ⟨_,e,rfl⟩ F.entry_list_reverse (F.args_list_reverse_1 _) (AutoSeq1.list_reverse_list_0 l its.toArray n (by rw[Np];omega)) ⟨e,?_⟩;refine⟨.non,_,I.lset (its':=its.reverse) hH e (by simp) r.reverse ?_,rfl,q⟩;rw[List.length_reverse];omega
def Dl:R2:=λx y H Q=>∃l k xs,x=.ref l/\y=.int k/\H l=some (.lst xs) /\ -(2^63)<=k/\k<2^63/\xs.length*k.toNat<=sizeLine /\
 ∀p,H p=none->Q (.ref p) (upd H p (.lst (List.replicate k.toNat xs).flatten))
theorem GK{α:Type}(xs:List α)(k:Nat):(List.replicate k xs).flatten.length=k*xs.length:=by
 induction k with
 |zero=>simp
 |succ k ih=>rw[Oh,ON,Nh,ih,Nat.succ_mul,Nat.add_comm]
theorem rk:OpR X (binaryOp .Mult) Dl:=by
 intro pins s σ H x y v u Q I rx ry h;obtain⟨l,k,xs,rfl,rfl,hH,h1,h2,hz,q⟩:=h;cases rx;obtain⟨t,rfl⟩:=ry;obtain⟨z,its,n,r,hl,e⟩:=I.lstM hH;have hlen:its.toArray.size*k.toNat<=sizeLine:=by rw[Np,<- hl];exact hz
 have hcap:¬its.toArray.size*k.toNat>(2^63-1)/8:=by
  have:(sizeLine:Nat)<=(2^63-1)/8:=by decide
  omega
 have hfit:¬(!Builtin.List.listFitsIndex k)=true:=by rw[fitsIndex_both h1 h2];exact NU
 have hlong:¬Builtin.List.listTooLong (its.toArray.size*k.toNat)=true:=by rw[Ft hlen];exact NU
 have hnew:List.foldl (λx1 x2=>x1++x2) #[] (List.replicate (if its.toArray.isEmpty=true then 0 else k.toNat) its.toArray)=(List.replicate k.toNat its).flatten.toArray:=by
  have f0:∀m:Nat,List.foldl (λx1 x2=>x1++x2) #[] (List.replicate m its.toArray)=(List.replicate m its).flatten.toArray:=λm=>by have:=y0 its m [];rw[List.nil_append]at this;exact this
  rw[f0];cases its with
  |nil=>simp
  |cons a r'=>rw[if_neg (by simp)]
 refine wpAny_binaryOp_repeat_ref (T:="list") (U:="int") (by decide) ⟨_,e,rfl⟩ (λs'=>typeIs_int s' k t) noFill_list_mul F.fills_int_mul F.slot_int_rmul repeat_list F.slot_int_index.lookup
  (call_meets F.slot_int_rmul (typeIs_int s k t) F.entry_int_rmul (F.args_int_rmul_2 _ _) (int___rmul___int_list k t l its.toArray n)
    ⟨e,rfl,⟨_,e,rfl⟩,call_meets F.slot_list_mul ⟨_,e,rfl⟩ F.entry_list_mul (F.args_list_mul_2 _ _) (AutoListH.list___mul___list_int_3 l its.toArray n k t hfit hcap hlong) ⟨e,?_⟩⟩)
 rw[hnew];exact⟨.ref _,_,I.lnew (t':=s.toks) (r.rep k.toNat) (by rw[GK,Ov];exact hz),rfl,q _ I.fresh⟩
end
section
variable {prog:Program}{w:World}{A:Around}{E:Value->Shared->Prop}{s:Shared}
end
section
variable {X:Cx}
end
end L2
namespace Att
open PySem PySem.W PySem.Calls PyProof.Rows
theorem Hz{P:Params}{h:Heap}:∀(ns:List Int) (vs:List Value),WellAll P h vs (ns.map WData.int)->IntsAre vs ns:=by
 intro ns
 induction ns with
 |nil =>intro vs w;rw[List.map_nil]at w;cases w;exact .nil
 |cons n ns ih =>
  intro vs w;rw[Nx]at w;cases w with
  |cons a b =>cases a;exact .cons _ _ (ih _ b)
theorem B8{l:OpenLaw}{n:Nat}(hn:l.most=some n){P:Params}{h:Heap}{args:List WData}{vals:List Value}
 (hpre:l.row.toRowW.claim.pre args=true) (hwl:WellAll P h vals args) :
 ∃a vs ns,vals=[Value.ref a]/\args=[WData.list (ns.map WData.int)]/\h.get? a=some { cls:=.type "list",data:=.seq vs.toArray }/\IntsAre vs ns/\ns.length<=n:=by
 have hsh:WShape.hasAll [] args [.list .int]=true:=(pre_splitW hpre).1;have hc:l.pre.holds [] { args:=args }=true:=(pre_splitW hpre).2;obtain⟨d,r,rfl,h1,h2⟩:=hasAllW_cons hsh;obtain rfl:=hasAllW_nil h2;obtain⟨xs,rfl,h3⟩:=hasW_list h1;obtain⟨ns,rfl⟩:=items_int h3
 have hlen:ns.length<=n:=by
  unfold OpenLaw.pre at hc
  have h4:(WTm.not (.lt (.lit (.int (n:Int))) (.len (.arg 0)))).holds [] { args:=[.list (ns.map .int)] }=true:=by have h4:=(holds_andW hc).1;rw[hn]at h4;exact h4
  have h5:=condW_of h4 (w_not (w_lt w_lit (w_len_list (w_arg rfl))));rw[MZ]at h5;refine NX λq=>?_
  have q':(n:Int)<((ns.length:Nat):Int):=by omega
  first
   | (rw[decide_eq_true q']at h5;exact absurd h5 (by decide))
   | (simp at h5;omega)
 cases hwl with
 |cons w1 w2 =>
  cases w2;cases w1 with
  |list ho hall=>exact⟨_,_,ns,rfl,rfl,ho,Hz ns _ hall,hlen⟩
theorem DA(l:OpenLaw)(args:List WData):l.row.toRowW.claim.post args (.bool true) args=true :=
 postW_of (r:=l.row.toRowW) (X:=(true == true))
  (show WShape.has [] (.bool true) .bool=true by first |rfl |decide |simp[WShape.has,WShape.arms,WShape.armsAll])
  (show(WTm.eq .res (.lit (.bool true))).value [] { args:=args,res:=some (.bool true),after:=args }=some (.bool (true == true))from w_eq_bool (w_res rfl) w_lit) rfl
theorem attach_call{l:OpenLaw}{n:Nat}{q:Program}{loose:List Str}{XP:(Str->Option Value)->Heap->Prop}{YP:World->Heap->Prop}{d:DefRec}
 (hn:l.most=some n) (hdf:d.params.defaults=[])
 (call:∀(w:World) (s₀ s₁:Shared) (mg mb:Str->Option Value) (fa:Addr) (o:Obj) (pm cd doc:Value) (a:Addr) (vs:List Value) (ns:List Int),
   Ground q loose [] XP w s₀ mg mb s₁.heap->YP w s₁.heap ->
   s₁.heap.get? fa=some o->o.data=.func (docDef d.name d.params d.body d.scope pm cd doc)->s₁.heap.CodeRec cd d.name->mg d.name=some (.ref fa) ->
   s₁.heap.get? a=some { cls:=.type "list",data:=.seq vs.toArray }->IntsAre vs ns->ns.length<=n->s₁.gens=#[] ->
   codeAny (model l.prog w) callerA (.call (.ref fa) ⟨[.ref a],[]⟩) (λr s'=>r=.ok (.ret (.bool true))/\OldK s₁.heap s'.heap/\s'.os=s₁.os/\AllBare s'.gens) s₁) :
 WalkO q loose XP YP l.row.toRowW d [] (λf vs=>PySem.call f vs):=by
 intro w s₀ s₁ mg mb G Y fa o pm cd doc dV kV ho hd hcd hD hmg hg args vals as hpre hlay hrd hwl hlo;obtain rfl:dV=.none:=Dflts.none hD hdf;obtain rfl:kV=.none:=Dflts.noKw hD;obtain⟨a,vs,ns,rfl,rfl,hobj,hints,hlen⟩:=B8 hn hpre hwl;refine enter_call (codeAny_mono (call w s₀ s₁ mg mb fa o pm cd doc a vs ns G Y ho (fd_plain hd) hcd hmg hobj hints hlen hg) λr s' hq=>?_);obtain⟨rfl,h2,h3,h4⟩:=hq;exact⟨.inl ⟨.bool true,.bool true,[],rfl,λ_=>rfl,.bool true,DA l _,λ_=>⟨List.Pairwise.nil,λ_ hm=>(nomatch hm)⟩⟩,h2,h3,h4⟩
section
variable {prog:Program}{w:World}{A:Around}{E:Value->Shared->Prop}{s:Shared}{K:Frag}
end
end Att
namespace L2
open PySem PySem.Spec PyProof.Rows
theorem vo:∀{vs:List Value} {ns:List Int},IntsAre vs ns->Vals (ns.map V.int) vs
 |_,_,.nil=>.nil
 |_,_,.cons n t h=>.cons ⟨t,rfl⟩ (vo h)
def uF(H:Hp):Prop:=∀b,H b=none\/∃o xs,H b=some (.frz o (.lst xs))
noncomputable def eU(s:Stmt)(j:Nat):Stmt:=match s with
 |.ClassDef _ _ _ body _ _ _ _ _ _ _=>body.getD j (.Pass ⟨0,0,0,0⟩)
 |_=>.Pass ⟨0,0,0,0⟩
noncomputable def aA(s:Stmt):Arguments:=match s with
 |.FunctionDef _ a _ _ _ _ _ _ _ _=>a
 |_=>{ posonlyargs:=[],args:=[],vararg:=none,kwonlyargs:=[],kw_defaults:=[],kwarg:=none,defaults:=[] }
noncomputable def ax(s:Stmt):List Stmt:=match s with
 |.FunctionDef _ _ b _ _ _ _ _ _ _=>b
 |_=>[]
noncomputable def ag(s:Stmt):Scope:=match s with
 |.FunctionDef _ _ _ _ _ _ sc _ _ _=>sc
 |_=>{ kind:=.function,names:=[],isGenerator:=false,isCoroutine:=false }
abbrev CX0:CXT:=λ_ _ _ _ _ _=>False
abbrev E0:XK:=λ_ _ _=>False
theorem ai{X:Cx}:fi CX0 X E0:=λ_ _ _ _ _ _ _ h=>h.elim
structure Fun(K:PySem.W.Frag)(x qual:Str)(st:Stmt)(f:Addr)(fd:FuncData):Prop where
 ex:∃(oc:Value) (od:Option Addr) (kV doc pm:Value) (an:Option Addr) (cdv ct:Value) (osl:Array (Option Value)),
  fd=PySem.W.fnOf x qual (aA st) (ax st) (ag st) .none kV doc pm an cdv ct/\K.lookup f=some ⟨oc,od,.func fd,osl⟩/\PySem.W.codeIn K cdv qual=true
 kp:PySem.W.keepIn K (.ref f)=true
section
variable {P:Program}{w:World}{K:PySem.W.Frag}{mg:Str->Option Value}{base:Heap}
theorem Fun.ok{x qual:Str}{st:Stmt}{f:Addr}{fd:FuncData}{N ps:List Str}{k:Nat}{sp:Sp}(F:Fun K x qual st f fd)(S:FnScope N ps (ag st))(len:∀vs H Q E,sp vs H Q E->vs.length=ps.length)
 (hbody:∀(cdv:Value) (A:Around) (outer:List Env) (s:Shared) (H:Hp) (vs:List V) (Q:VK) (E:XK),Room k (A.deeper (envOfC qual (ag st) s.heap.objs.size f cdv))->sp vs H Q E ->
   ∃t,PSs (bw CX0 P w K mg base N qual (ag st) f cdv A outer s H E).nox (ax st) t/\t { nx:=λ_ H'=>Q .non H',rt:=Q } (start N vs) H):FnOk P w K mg base CX0 (k+1) f fd ps sp:=by
 obtain⟨oc,od,kV,doc,pm,an,cdv,ct,osl,rfl,lk,hcd⟩:=F.ex;refine o8 lk hcd S len λA outer s H vs Q E hr hsp=>?_
 obtain⟨t,h,q⟩:=hbody cdv A outer s H vs Q E hr hsp;exact⟨t,h.nox,q⟩
theorem Fun.binds{x qual:Str}{st:Stmt}{f:Addr}{fd:FuncData}{ps:List Str}(F:Fun K x qual st f fd)
 (h:∀(kV doc pm:Value) (an:Option Addr) (cdv ct:Value) (us:List Value),us.length=ps.length->bindArgs (PySem.W.fnOf x qual (aA st) (ax st) (ag st) .none kV doc pm an cdv ct) ⟨us,[]⟩=pure (ps.zip us)):Binds K fd ps []:=by
 obtain⟨oc,od,kV,doc,pm,an,cdv,ct,osl,rfl,lk,hcd⟩:=F.ex;exact .all (h kV doc pm an cdv ct)
theorem aD{x qual:Str}{st:Stmt}{f:Addr}{oc:Value}{od an:Option Addr}{osl:Array (Option Value)}{kV doc pm cdv ct:Value}(l:K.lookup f=some ⟨oc,od,.func (PySem.W.fnOf x qual (aA st) (ax st) (ag st) .none kV doc pm an cdv ct),osl⟩)
 (c:PySem.W.codeIn K cdv qual=true) (k:PySem.W.keepIn K (.ref f)=true):Fun K x qual st f (PySem.W.fnOf x qual (aA st) (ax st) (ag st) .none kV doc pm an cdv ct):=⟨⟨oc,od,kV,doc,pm,an,cdv,ct,osl,rfl,l,c⟩,k⟩
end
section
variable {X:Cx}
theorem pv(i:Nat){x:Str}{pos:Pos}(hN:X.N[i]?=some x:=by rfl)(hv:Vis X.env.scope x:=by first |exact Or.inl rfl |exact Or.inr (Or.inl rfl) |exact Or.inr (Or.inr rfl))(hd:(x == ("__debug__":Str))=false:=by decide)
 (hcd:(x == ("__classdict__":Str))=false:=by decide):PE X (.Name x pos) (pN i):=DL hN hv hd hcd
end
def Same(H H':Hp):Prop:=∀b o,H b=some o->H' b=some o
theorem Same.refl(H:Hp):Same H H:=λ_ _ h=>h
theorem Same.trans{H H1 H2:Hp}(a:Same H H1)(b:Same H1 H2):Same H H2:=λc o h=>b c o (a c o h)
theorem Same.free{H H':Hp}(e:Same H H'){l:Addr}(h:H' l=Option.none):H l=Option.none:=by
 cases q:H l with
 |none=>rfl
 |some o =>rw[e l o q]at h;cases h
theorem Same.seq{K:PySem.W.Frag}{H H':Hp}{a:Addr}{xs:List V}(e:Same H H')(h:SqL K H a xs):SqL K H' a xs:=by
 rcases h with(h |⟨o,h⟩) |h
 ·exact .inl (.inl (e _ _ h))
 ·exact .inl (.inr ⟨o,e _ _ h⟩)
 ·exact .inr h
end L2
set_option maxHeartbeats 4000000
namespace L2
open PySem PySem.Spec PyProof.Rows
noncomputable def fM(X:Cx)(N:List Str)(scope:Scope)(cl:List (Str×Addr))(C:Addr)(s₀:Shared)(H₀:Hp)(ex:List Addr):Cx where
 prog:=X.prog
 w:=X.w
 K:=X.K
 mg:=X.mg
 base:=X.base
 A:=X.A
 N:=N
 s₀:=s₀
 H₀:=H₀
 env:=compEnvC scope cl C X.env
 outer:=X.stack
 stack:=X.stack
 ex:=ex
 fn:=λ_=>false
 calm:=X.calm
 pn:=[]
 xe:=λ_ _=>False
structure CompOk(X:Cx)(fr:List Str)(js:List Nat)(scope:Scope)(cl:List (Str×Addr)):Prop where
 clos:closureFor scope X.env=pure cl
 cell:∀y∈scope.names,y.2≠.cell
 kind:scope.kind=.function
 names:∀y∈scope.names,y.2=.local->scope.names.lookup y.1=some .local
 clin:∀p∈cl,X.env.cells.lookup p.1=some p.2
 has:scope.names.all (λp=>p.2 != .free || (cl.lookup p.1).isSome)=true
 fre:Paired (λ(x:Str) (j:Nat)=>X.N[j]?=some x/\(X.env.scope.names.lookup x=some .cell\/X.env.scope.names.lookup x=some .free)/\scope.names.lookup x=some .free) fr js
theorem qQ{env:Env}{x:Str}{k':NameKind}:∀{names:List (Str×NameKind)},
 (names.map λ(n,k)=>if(k == NameKind.free&&env.scope.kind == .function&&env.kindOf n == some .cell)then(n,NameKind.cell)else(n,k)).lookup x=some k' ->
 ∃k,names.lookup x=some k/\(k'=k\/(k=.free/\k'=.cell))
 | [],h=>by simp at h
 | (n,k)::r,h=>by
  have ih:=@qQ env x k' r;change List.lookup x ((if(k == NameKind.free&&env.scope.kind == .function&&env.kindOf n == some .cell)=true then(n,NameKind.cell)else(n,k))::_)=_ at h
  by_cases hc:(k == NameKind.free&&env.scope.kind == .function&&env.kindOf n == some .cell)=true
  ·rw[if_pos hc]at h;cases hx:x == n with
   |true =>simp only[Oi,hx]at h ⊢;cases h;refine⟨k,rfl,.inr ⟨?_,rfl⟩⟩;simp only[OE,beq_iff_eq]at hc;exact hc.1.1
   |false =>simp only[Oi,hx]at h ⊢;exact ih h
  ·rw[if_neg hc]at h;cases hx:x == n with
   |true =>simp only[Oi,hx]at h ⊢;cases h;exact⟨_,rfl,.inl rfl⟩
   |false =>simp only[Oi,hx]at h ⊢;exact ih h
theorem wz{env:Env}{x:Str}:∀{names:List (Str×NameKind)},names.lookup x=some .free ->
 (names.map λ(n,k)=>if(k == NameKind.free&&env.scope.kind == .function&&env.kindOf n == some .cell)then(n,NameKind.cell)else(n,k)).lookup x=some .cell \/
 (names.map λ(n,k)=>if(k == NameKind.free&&env.scope.kind == .function&&env.kindOf n == some .cell)then(n,NameKind.cell)else(n,k)).lookup x=some .free
 | [],h=>by simp at h
 | (n,k)::r,h=>by
  have ih:=@wz env x r;show List.lookup x ((if(k == NameKind.free&&env.scope.kind == .function&&env.kindOf n == some .cell)=true then(n,NameKind.cell)else(n,k))::_)=_\/List.lookup x ((if(k == NameKind.free&&env.scope.kind == .function&&env.kindOf n == some .cell)=true then(n,NameKind.cell)else(n,k))::_)=_;by_cases hc:(k == NameKind.free&&env.scope.kind == .function&&env.kindOf n == some .cell)=true
  ·rw[if_pos hc];cases hx:x == n with
   |true=>simp only[Oi,hx];exact .inl trivial
   |false=>simp only[Oi,hx]at h ⊢;exact ih h
  ·rw[if_neg hc];cases hx:x == n with
   |true =>simp only[Oi,hx]at h ⊢;cases h;exact .inr rfl
   |false=>simp only[Oi,hx]at h ⊢;exact ih h
noncomputable def gM(n:Nat)(js:List Nat)(σ:St):St:=List.replicate n none++js.map λj=>(σ[j]?).join
def uR(n:Nat)(js:List Nat)(g:TG)(te:TE)(σ:St)(Q:VK)(J:It)(H1:Hp):Prop:=∃W:Nat->Nat->List V->St->Hp->Prop,(∃m,W 0 m [] (gM n js σ) H1) /\
 ∀i m ys σ' H',W i m ys σ' H' ->
  (J.stop i H'/\∀p,H' p=none->Q (.ref p) (upd H' p (.lst ys))) \/
  (J.go i H'/\ys.length<sizeLine/\∃N:V->St->Hp->Prop,(∀y σ'' H'',N y σ'' H''->∃m',m'<m/\W (i+1) m' (ys++[y]) σ'' H'')/\∀x H2,J.yld i H' x H2->g x σ' H2 λσ3 H3=>te σ3 H3 λy H4=>N y σ3 H4)
def Bt(n:Nat)(js:List Nat)(wi:TI)(g:TG)(te:TE):TE:=λσ H Q=>wi σ H λJ H1=>uR n js g te σ Q J H1
noncomputable def Mc(X:Cx)(pins:List (Addr×Obj))(σ:St)(Q:VK)(D C:Addr)(s':Shared):Prop :=
 ∃H2,Inv X pins σ H2 s'/\Q (.ref D) H2/\H2 C=none/\C≠X.env.locals/\X.s₀.heap.objs.size<=C/\(∀x c,X.env.cells.lookup x=some c->c≠C)/\(∀p∈X.pn++pins,p.1≠C)/\∃m,s'.heap.Ns C m
section
variable {X:Cx}{own fr:List Str}{js:List Nat}{scope:Scope}{cl:List (Str×Addr)}{elt target iter:Expr}{pos:Pos}{wi:TI}{g:TG}{te:TE}
theorem fT(O:CompOk X fr js scope cl){x:Str}{c:Addr}(e:cl.lookup x=some c):X.env.cells.lookup x=some c:=O.clin (x,c) (PySem.mem_of_lookup e)
theorem zy{pins:List (Addr×Obj)}{σ:St}{H:Hp}{s:Shared}{fp:List Addr}{C:Addr}(O:CompOk X fr js scope cl)(I:Inv X pins σ H s)(hC:s.heap.objs.size<=C)(hf:∀b∈fp,dW X pins H b)(ho:∀b∈fp,b<s.heap.objs.size) :
 (fM X (own++fr) scope cl C s H fp).Ok:=by
 refine⟨I.ok.mod,O.kind,I.ok.glob,I.ok.blt,hC,λx y c h1 h2=>I.ok.inj x y c (fT O h1) (fT O h2),λx hx=>?_,λx c h=>(by cases h),I.ok.hd,I.ok.frames,.inl rfl,λb hb=>?_,I.bs,?_,λb o e hb=>?_,λb hb hb'=>?_,I.stack,I.stkFree⟩
 ·have key:scope.names.lookup x=some .free:=by
   have hx':(scope.names.map λ(n,k)=>if(k == NameKind.free&&X.env.scope.kind == .function&&X.env.kindOf n == some .cell)then(n,NameKind.cell)else(n,k)).lookup x=some .cell \/
    (scope.names.map λ(n,k)=>if(k == NameKind.free&&X.env.scope.kind == .function&&X.env.kindOf n == some .cell)then(n,NameKind.cell)else(n,k)).lookup x=some .free:=hx
   rcases hx' with h |h
   ·obtain⟨k,e,z⟩:=qQ h;rcases z with z |⟨z,_⟩
    ·subst z;exact absurd rfl (O.cell _ (PySem.mem_of_lookup e))
    ·subst z;exact e
   ·obtain⟨k,e,z⟩:=qQ h;rcases z with z |⟨_,z⟩
    ·subst z;exact e
    ·cases z
  have hm:=List.all_eq_true.mp O.has _ (PySem.mem_of_lookup key);have hs:(cl.lookup x).isSome=true:=by simpa using hm
  exact OM.mp hs
 ·obtain⟨f0,f1,f2,f3,f4,f5⟩:=hf b hb;exact⟨Ng (Nl (ho b hb) hC),λx c e=>f4 x c (fT O e)⟩
 ·exact Nb I.ok.bsz I.sz
 ·obtain⟨f0,f1,f2,f3,f4,f5⟩:=hf b hb;rcases f3 with z |z
  ·exact I.ok.noex b o e z
  ·exact absurd (Nl (Heap.lt_size e) (Nb I.ok.bsz z)) (NI _)
 ·obtain⟨f0,f1,f2,f3,f4,f5⟩:=hf b hb;rcases Nd.mp (I.stkSub b hb')with z |z
  ·exact f1 z
  ·exact f2 z
theorem Paired.idx{α β:Type}{F:α->β->Prop}:∀{l₁:List α} {l₂:List β},Paired F l₁ l₂->∀(i:Nat) (a:α) (b:β),l₁[i]?=some a->l₂[i]?=some b->F a b
 |_,_,.nil,_,_,_,h,_=>by simp at h
 |_,_,.cons r _,0,a,b,h1,h2=>by simp at h1 h2;subst h1;subst h2;exact r
 |_,_,.cons _ t,i+1,a,b,h1,h2=>Paired.idx t i a b (by simpa using h1) (by simpa using h2)
theorem J7{pins:List (Addr×Obj)}{σ:St}{H:Hp}{s s':Shared}{fp:List Addr}{C:Addr}{m:Str->Option Value}(O:CompOk X fr js scope cl)(hl:fr.length=js.length)(I:Inv X pins σ H s)(hC:s.heap.objs.size<=C)(hf:∀b∈fp,dW X pins H b)
 (ho:∀b∈fp,b<s.heap.objs.size) (os:s'.os=s.os) (hg:s'.gens=s.gens) (old:∀b o,s.heap.get? b=some o->s'.heap.get? b=some o) (hn:s'.heap.Ns C m) :
 Inv (fM X (own++fr) scope cl C s H fp) [] (gM own.length js σ) H s':=by
 refine⟨zy O I hC hf ho,os,by rw[hg];exact I.bare,Un.kept old,⟨m,hn,λi x v e1 e2 e3=>?_⟩,λx c e=>?_,I.hok.fresh hC,λx c e=>I.freeC x c (fT O e),λp hp=>absurd (show p∈([]:List (Addr×Obj))from hp) (by simp),I.hok.kept old,?_⟩
 ·unfold gM at e2
  have e1':(own++fr)[i]?=some x:=e1;by_cases hi:i<own.length
  ·rw[List.getElem?_append_left (by simpa using hi),List.getElem?_replicate]at e2;split at e2<;>cases e2
  ·have hi':own.length<=i:=NX hi;rw[List.getElem?_append_right (by simpa using hi'),O2,List.getElem?_map]at e2;rw[List.getElem?_append_right hi']at e1';cases ej:js[i-own.length]? with
   |none=>rw[ej]at e2;cases e2
   |some j =>
    rw[ej]at e2;have e2':(σ[j]?).join=some v:=Option.some.inj e2
    have eσ:σ[j]?=some (some v):=by
     cases q:σ[j]? with
     |none=>rw[q]at e2';cases e2'
     |some o=>rw[q]at e2';simp at e2';rw[e2']
    obtain⟨hN,hk,hs⟩:=Paired.idx O.fre _ x j e1' ej;obtain⟨mo,hmo,hlo⟩:=I.loc;have vis:Vis X.env.scope x:=hk.elim (λz=>.inr (.inl z)) λz=>.inr (.inr z)
    obtain⟨u,r,l⟩:=hlo j x v hN eσ vis;refine⟨u,r,.inr ⟨wz hs,?_⟩⟩;have hm:=List.all_eq_true.mp O.has _ (PySem.mem_of_lookup hs);have hs':(cl.lookup x).isSome=true:=by simpa using hm
    obtain⟨c,ec⟩:=OM.mp hs';refine⟨c,ec,?_⟩;rcases l with⟨k,_⟩ |⟨_,c',e',z⟩
    ·have k':X.env.scope.names.lookup x=some .local:=k;rcases hk with q |q<;>(rw[q]at k';cases k')
    ·have:=fT O ec;rw[e']at this;cases this;obtain⟨oc,hoc,hd⟩:=z;exact⟨oc,old _ _ hoc,hd⟩
 ·obtain⟨v,oc,hoc,hd⟩:=I.cell x c (fT O e);exact⟨v,oc,old _ _ hoc,hd⟩
 ·unfold gM;show _=(own++fr).length;rw[Nh,Nh,O2,MZ,hl]
theorem Un.adopt{fs ex:List Addr}{H H1:Hp}{h h1:Heap}{a:Addr}{o:HO}(u:Un fs ex H H1 h h1)(ha:h.objs.size<=a)(hn:H a=none):Un fs ex H (upd H1 a o) h h1 where
 keep:=u.keep
 slot:=u.slot
 free:=λb ob q n hx=>by rw[upd_ne (Ng (Nl (Heap.lt_size q) ha))];exact u.free b ob q n hx
 there:=u.there
 tups:=λb xs q=>by rw[upd_ne (aN q hn)];exact u.tups b xs q
 frzs:=λb ob xs q=>by rw[upd_ne (aN q hn)];exact u.frzs b ob xs q
 tbls:=λb ps q=>by rw[upd_ne (aN q hn)];exact u.tbls b ps q
theorem HOk.adopt{P:Program}{w:World}{H:Hp}{h:Heap}{a:Addr}{o:HO}(x:HOk P w H h)(hn:H a=none)(new:ObjOk P w (upd H a o) h a o):HOk P w (upd H a o) h:=λb u e=>by
 by_cases hb:b=a
 ·subst hb;rw[ao]at e;cases e;exact new
 ·rw[upd_ne hb]at e;exact(x b u e).stay (λc v _ q=>q) (λc q=>by rw[upd_ne (aN q hn)];exact q) λc xs q=>by rw[upd_ne (aN q hn)];exact q
theorem Kc{pins:List (Addr×Obj)}{σ:St}{H:Hp}{s:Shared}{fp:List Addr}{it:Addr}{tn:Nat->Heap->Prop}{J:It}{E:Value->Shared->Prop}{Q:VK}{RR:Value->Addr->Result->Shared->Prop}(O:CompOk X fr js scope cl)(hl:fr.length=js.length)(hcm:X.calm=true)
 (I:Inv X pins σ H s) (T:Turn X.prog X.w X.K target J fp it tn) (st:tn 0 s.heap) (hf:∀b∈fp,dW X pins H b)
 (hg:∀C s₀ H₀ ex,PG (fM X (own++fr) scope cl C s₀ H₀ ex) target g) (he:∀C s₀ H₀ ex,PE (fM X (own++fr) scope cl C s₀ H₀ ex) elt te)
 (W:Nat->Nat->List V->St->Hp->Prop) {m0:Nat} (w0:W 0 m0 [] (gM own.length js σ) H)
 (turn:∀i m ys σ' H',W i m ys σ' H' ->
   (J.stop i H'/\∀p,H' p=none->Q (.ref p) (upd H' p (.lst ys))) \/
   (J.go i H'/\ys.length<sizeLine/\∃N:V->St->Hp->Prop,(∀y σ'' H'',N y σ'' H''->∃m',m'<m/\W (i+1) m' (ys++[y]) σ'' H'')/\∀x H2,J.yld i H' x H2->g x σ' H2 λσ3 H3=>te σ3 H3 λy H4=>N y σ3 H4))
 (hRR:∀D C s',Mc X pins σ Q D C s'->RR (.ref D) C (.ok .next) s') :
 wpAny (model X.prog X.w) X.A (newList []) (λacc s₃=>wpAny (model X.prog X.w) X.A (newFunctionEnv scope X.env.globals cl [] X.env.qual none .none (some X.env)) (λcenv s₄ =>
  codeAny (model X.prog X.w) X.A (.compStart (.ListComp elt [⟨target,iter,[],0⟩] scope pos) 0 (.ref it) acc { cenv with scope:=relabel scope X.env }) (RR acc cenv.locals) s₄) E s₃) E s:=by
 refine wpAny_newObj_type (wpAny_newFunctionEnv O.cell (by intro y hy;simp at hy) (λh₁ hns₁ hsb₁=>?_) O.kind);dsimp only at hns₁ hsb₁ ⊢
 generalize hH2:s.heap.push { cls:=.type "list",dict:=none,data:=.seq ([]:List Value).toArray }=H2 at hns₁ hsb₁ ⊢
 have hCs:H2.objs.size=s.heap.objs.size+1:=by rw[<- hH2,Heap.size_push]
 have hDC:s.heap.objs.size≠H2.objs.size:=by rw[hCs];exact Ng (NV _)
 have hCge:s.heap.objs.size<=H2.objs.size:=by rw[hCs];exact Nat.le_succ _
 have below:∀b,b<s.heap.objs.size->b≠H2.objs.size/\b≠s.heap.objs.size:=λb hb=>⟨by rw[hCs];exact Ng (Nat.lt_succ_of_lt hb),Ng hb⟩
 have old:∀b o,s.heap.get? b=some o->h₁.get? b=some o:=λb o e=>hsb₁.extBut b o (below b (Heap.lt_size e)).1 (Heap.get?_push_of_some _ (hH2 ▸ Heap.get?_push_of_some _ e))
 have hacc:h₁.get? s.heap.objs.size=some { cls:=.type "list",data:=.seq ([]:List Value).toArray 0 }:=hsb₁.extBut _ _ hDC (Heap.get?_push_of_some _ (hH2 ▸ Heap.get?_push_size _ rfl));have ho:∀b∈fp,b<s.heap.objs.size:=λb hb=>by obtain⟨o,e,_⟩:=T.obj 0 _ st b hb;exact Heap.lt_size e
 generalize hDe:s.heap.objs.size=D at *
 generalize hCe:H2.objs.size=C at *
 let X':Cx:=fM X (own++fr) scope cl C s H fp
 have ok':X'.Ok:=zy O I (by rw[hDe];exact hCge) hf (by rw[hDe];exact ho)
 have hDfs:D∉X'.fs:=by
  intro z;rcases Nd.mp (I.stkSub D z)with q |q
  ·exact absurd I.lt (by rw[<- q,hDe];exact NI _)
  ·exact I.nofs (Of hDe) q
 have hDfp:∀b∈fp,D≠b:=λb hb z=>absurd (ho b hb) (by rw[z];exact NI _)
 have hDcell:∀x c,cl.lookup x=some c->c≠D:=λx c e z=>by obtain⟨v,q⟩:=I.cell x c (fT O e);exact absurd q.lt (by rw[z,hDe];exact NI _)
 have fpok:∀{H':Hp} {pins':List (Addr×Obj)},(∀p∈pins',p.1=D)->(∀b∈fp,H' b=none)->∀b∈fp,dW X' pins' H' b:=λ{H' pins'} hp hn b hb=>by
  obtain⟨f0,f1,f2,f3,f4,f5⟩:=hf b hb;refine⟨hn b hb,(below b (ho b hb)).1,λz=>?_,.inl hb,λx c e=>f4 x c (fT O e),λp hp'=>?_⟩
  ·rcases Nd.mp (I.stkSub b z)with q |q
   ·exact f1 q
   ·exact f2 q
  ·have hp'':p∈pins':=by simpa[X',fM]using hp'
   rw[hp p hp''];exact hDfp b hb
 have loop:∀s₃:Shared,s₃={ s with heap:=h₁,toks:=s.toks+([]:List (Str×Value)).length } ->
  codeAny (model X.prog X.w) X.A (.compLoop (.ListComp elt [⟨target,iter,[],0⟩] scope pos) 0 (.ref it) (.ref D) (compEnvC scope cl C X.env)) (RR (.ref D) C) s₃:=by
  rintro s₃ rfl
  refine PySem.W.kcp_loop (λk s'=>∃i σ' H' ys its nn,Inv X' [] σ' H' s'/\tn i s'.heap/\(∀b∈fp,H' b=none)/\H' D=none/\s'.heap.get? D=some { cls:=.type "list",data:=.seq (its:List Value).toArray nn }/\Vals ys its/\ys.length<=sizeLine/\W i k ys σ' H') ?_ m0
   ⟨0,_,H,[],[],0,J7 O hl I (by rw[hDe];exact hCge) hf (by rw[hDe];exact ho) rfl rfl (by intro b o e;exact old b o e) hns₁,T.keep _ _ _ st λb _ o e=>old b o e,λb hb=>(hf b hb).1,I.hok.fresh (Of hDe),hacc,.nil,M9 _,w0⟩
  rintro k s' ⟨i,σ',H',ys,its,nn,I',st',hfn,hDn,hDo,rv,hz,w⟩;have hlen:=rv.length;have hpD:∀p∈[(D,({ cls:=.type "list",data:=.seq its.toArray nn }:Obj))],p.1=D:=λp hp=>by rw[Nf.mp hp]
  have Ip:Inv X' [(D,({ cls:=.type "list",data:=.seq its.toArray nn }:Obj))] σ' H' s':=I'.pins_of λp hp=>by rw[Nf.mp hp];exact⟨hDo,hDn,hDC,hDfs,λv z=>by cases z⟩
  rcases turn i k ys σ' H' w with⟨stop,fin⟩ |⟨go,hlt,N,hN,step⟩
  ·refine wpAny_mono (T.done X' rfl rfl rfl hcm i _ s' σ' H' (λ_ _=>False) Ip (fpok hpD hfn) st' stop) (λr s4 ⟨hr,I4⟩=>?_) λ_ _ z=>False.elim z
   subst hr;refine hRR D C s4 ?_;have hD4:s4.heap.get? D=some { cls:=.type "list",data:=.seq its.toArray nn }:=(I4.pin _ (NC _ (Nf.mpr rfl))).1;have un:Un (frs X.stack) fp H (upd H' D (.lst ys)) s.heap s4.heap:=Un.adopt I4.base (Of hDe) (I.hok.fresh (Of hDe));have hok:HOk X.prog X.w (upd H' D (.lst ys)) s4.heap:=HOk.adopt I4.hok hDn ⟨hz,its,nn,rv,hD4⟩;refine⟨upd H' D (.lst ys),I.call' I4.os un hok I4.bare λb hb=>?_,fin D hDn,?_,?_,?_,λx c e z=>?_,λp hp z=>?_,?_⟩
   ·obtain⟨f0,f1,f2,f3,f4,f5⟩:=hf b hb;exact⟨f3,f1,f4,f5⟩
   ·rw[upd_ne (Ne.symm hDC)];exact I4.free
   ·exact Nat.ne_of_gt (Nl I.lt (by rw[hDe];exact hCge))
   ·exact Nb I.sz (by rw[hDe];exact hCge)
   ·obtain⟨v,q⟩:=I.cell x c e;exact absurd (Nl q.lt (by rw[hDe,z];exact hCge)) (NI _)
   ·exact absurd (Nl (Heap.lt_size (I.pin p hp).1) (by rw[hDe,z];exact hCge)) (NI _)
   ·obtain⟨m',hn',_⟩:=I4.loc;exact⟨m',hn'⟩
  ·refine wpAny_mono (T.item X' rfl rfl rfl hcm i _ s' σ' H' (λ_ _=>False) Ip (fpok hpD hfn) st' go) (λr s4 ⟨u,hr,h4⟩=>?_) λ_ _ z=>False.elim z
   subst hr;refine wpAny_mono h4 (λ_ s5 ⟨x,H5,I5,r5,y5,st5,fr5⟩=>?_) λ_ _ z=>False.elim z
   have I5':=I5.pinned (fpok hpD fr5) (T.obj _ _ st5);refine wpAny_mono (hg C s H fp _ s5 σ' H5 x u _ I5' r5 (step x H5 y5)) (λ_ s6 ⟨σ6,H6,I6,q6⟩=>?_) λ_ _ z=>False.elim z
   refine wpAny_mono (he C s H fp _ s6 σ6 H6 _ I6 q6) (λv s7 ⟨y,H7,I7,r7,n7⟩=>?_) λ_ _ z=>False.elim z
   obtain⟨m',hm',w7⟩:=hN y σ6 H7 n7;have hD7:=I7.pin (D,{ cls:=.type "list",data:=.seq its.toArray nn }) (NC _ (NQ _ (Nf.mpr rfl)));refine append_at hD7.1 (λh8 sb hD8=>?_) (by rw[Np,<- hlen];exact hz);have I7':Inv X' [] σ6 H7 s7:=I7.pins_of λp hp=>absurd hp (by simp)
   have I8:Inv X' [] σ6 H7 { s7 with heap:=h8 }:=I7'.turned (t':=s7.toks) (it:=D) (λb o hb e=>(sb.2 b hb).trans e) hD7.2.1 hDC (.inr (Of hDe)) hDcell (λp hp=>absurd (show p∈([]:List (Addr×Obj))from hp) (by simp));refine⟨m',hm',i+1,σ6,H7,ys++[y],its++[v],nn+1,I8,T.keep _ _ _ st5 λb hb o e=>?_,λb hb=>?_,hD7.2.1,?_,rv.append (.cons r7 .nil),?_,w7⟩
   ·exact(sb.2 b (λz=>hDfp b hb z.symm)).trans (I7.pin (b,o) (NC _ (NC _ (oC hb e)))).1
   ·obtain⟨o,e,d⟩:=T.obj _ _ st5 b hb;exact(I7.pin (b,o) (NC _ (NC _ (oC hb e)))).2.1
   ·rw[hD8,List.push_toArray]
   ·rw[Nh,List.length_singleton];exact hlt
 exact codeAny_compStart_list (loop _ rfl) (T.self _ 0 _ _ _ (T.keep _ _ _ st λb _ o e=>old b o e) (loop _ rfl))
theorem fE(O:CompOk X fr js scope cl)(hcm:X.calm=true)(hi:PI X target iter wi)(hg:∀C s₀ H₀ ex,PG (fM X (own++fr) scope cl C s₀ H₀ ex) target g)(he:∀C s₀ H₀ ex,PE (fM X (own++fr) scope cl C s₀ H₀ ex) elt te)
 (hs:∀x,foldedSetIterable iter X.env x=pure x:=by intro _;rfl):PE X (.ListComp elt [⟨target,iter,[],0⟩] scope pos) (Bt own.length js wi g te):=by
 intro pins s σ H Q I h;rw[eval_ListComp];refine wpAny_comprehension_free (use:=none) rfl hs O.clos O.kind O.names (thn (hi pins s σ H _ I h) λx s1 h1=>thn h1 λitv s2 h2=>?_);obtain⟨it,fp,tn,J,H2,rfl,I2,T,st,hf,W,⟨m0,w0⟩,turn⟩:=h2;refine Kc (RR:=λacc C=>compPost (model X.prog X.w) X.A X.xe none (EP X pins σ Q) acc C) O (Paired.length O.fre) hcm I2 T st hf hg he W w0 turn ?_;rintro D C s' ⟨H3,I3,q,c1,c2,c3,c4,c5,m,hn⟩;exact⟨m,hn,λh' sb=>⟨.ref D,H3,I3.turned (t':=s'.toks) (it:=C) (λb o hb e=>(sb.2 b hb).trans e) c1 c2 (.inr c3) c4 c5,rfl,q⟩⟩
end
theorem mk{n:Nat}{js:List Nat}{K:PySem.W.Frag}{a:Addr}{xs:List V}{g:TG}{te:TE}{σ0:St}{H:Hp}{Q:VK}(Pv:Nat->List V->St->Hp->Prop)(hz:xs.length<=sizeLine)(h0:Pv 0 [] (gM n js σ0) H)(hl:∀i ys σ H,i<=xs.length->Pv i ys σ H->SqL K H a xs/\ys.length<=i)
 (hs:∀i x ys σ H,xs[i]?=some x->Pv i ys σ H->g x σ H λσ2 H2=>te σ2 H2 λy H3=>Pv (i+1) (ys++[y]) σ2 H3) (hd:∀ys σ H p,Pv xs.length ys σ H->H p=none->Q (.ref p) (upd H p (.lst ys))) :
 uR n js g te σ0 Q (Itl K a) H:=by
 refine⟨λi m ys σ H=>m=xs.length-i/\i<=xs.length/\Pv i ys σ H,⟨xs.length,by simp,M9 _,h0⟩,?_⟩;rintro i m ys σ H ⟨rfl,hi,p⟩;obtain⟨q,hy⟩:=hl i ys σ H hi p;by_cases hlt:i<xs.length
 ·refine .inr ⟨⟨xs,xs[i],q,by simp[hlt]⟩,by omega,λy σ'' H''=>Pv (i+1) (ys++[y]) σ'' H'',λy σ' H' p'=>⟨xs.length-(i+1),by omega,rfl,hlt,p'⟩,λx H' y=>?_⟩;obtain⟨e,y⟩:=y;subst e;exact hs i x ys σ _ (y xs q) p
 ·have e:i=xs.length:=by omega
  subst e;exact .inl ⟨⟨xs,q,M0 _⟩,λr hr=>hd ys σ H r p hr⟩
theorem ud{k:Nat}{js:List Nat}{lo:Int}{n:Nat}{g:TG}{te:TE}{σ0:St}{H:Hp}{Q:VK}(Pv:Nat->List V->St->Hp->Prop)(hz:n<=sizeLine)(h0:Pv 0 [] (gM k js σ0) H)(hl:∀i ys σ H,i<=n->Pv i ys σ H->ys.length<=i)
 (hs:∀i ys σ H,i<n->Pv i ys σ H->g (.int (lo+i)) σ H λσ2 H2=>te σ2 H2 λy H3=>Pv (i+1) (ys++[y]) σ2 H3) (hd:∀ys σ H p,Pv n ys σ H->H p=none->Q (.ref p) (upd H p (.lst ys))) :
 uR k js g te σ0 Q (Itr lo n) H:=by
 refine⟨λi m ys σ H=>m=n-i/\i<=n/\Pv i ys σ H,⟨n,by simp,M9 _,h0⟩,?_⟩;rintro i m ys σ H ⟨rfl,hi,p⟩;have hy:=hl i ys σ H hi p;by_cases hlt:i<n
 ·refine .inr ⟨hlt,by omega,λy σ'' H''=>Pv (i+1) (ys++[y]) σ'' H'',λy σ' H' p'=>⟨n-(i+1),by omega,rfl,hlt,p'⟩,λx H' y=>?_⟩;obtain⟨e,y⟩:=y;subst e y;exact hs i ys σ _ hlt p
 ·have e:i=n:=by omega
  subst e;exact .inl ⟨M0 _,λr hr=>hd ys σ H r p hr⟩
def Bits(k:Nat)(i:Int):Prop:=i.natAbs<2^k
theorem Bits.mono{j k:Nat}{i:Int}(h:Bits j i)(hk:j<=k:=by decide):Bits k i:=Nl h (Nat.pow_le_pow_right (by decide) hk)
theorem Bits.mul{j k:Nat}{a b:Int}(ha:Bits j a)(hb:Bits k b):Bits (j+k) (a*b):=by
 unfold Bits at *
 rw[Ni,Nat.pow_add];exact Nat.mul_lt_mul_of_lt_of_lt ha hb
theorem Bits.add{k:Nat}{a b:Int}(ha:Bits k a)(hb:Bits k b):Bits (k+1) (a+b):=by
 unfold Bits at *
 have:=Int.natAbs_add_le a b;rw[OF];omega
theorem Bits.neg{k:Nat}{a:Int}(ha:Bits k a):Bits k (-a):=by unfold Bits at *;rwa [Int.natAbs_neg]
theorem Bits.sub{k:Nat}{a b:Int}(ha:Bits k a)(hb:Bits k b):Bits (k+1) (a-b):=by rw[Int.sub_eq_add_neg];exact ha.add hb.neg
theorem Bits.of_le{k:Nat}{a b:Int}(hb:Bits k b)(h:a.natAbs<=b.natAbs):Bits k a:=OO h hb
theorem Bits.zero{k:Nat}:Bits k 0:=Oj (by decide)
theorem Bits.log{k:Nat}{i:Int}(h:Bits k i)(hk:0<k):i.natAbs.log2<k:=by
 by_cases h0:i.natAbs=0
 ·rw[h0];simpa using hk
 ·exact(Nat.log2_lt h0).mpr h
theorem Bits.int{k:Nat}{i:Int}(h:Bits k i)(hk:k<=1000000):Builtin.Int.intBits i<=2^20:=by
 have e:(2:Nat)^20=1048576:=by decide
 unfold Builtin.Int.intBits;split
 ·exact M9 _
 ·rename_i hn
  have h0:i.natAbs≠0:=by intro z;have:i=0:=Int.natAbs_eq_zero.mp z;exact hn (by simp[this])
  have:=(Nat.log2_lt h0).mpr h;omega
section
variable {X:Cx}{a b:Expr}{ta tb:TE}{pos:Pos}
def MU(i j:Int):Prop:=Bits 1000000 i/\Bits 1000000 j
theorem aR:OpR X (binaryOp .Mult) (rI MU λi j=>.int (i*j)):=opI λ_ _ _ _ _ _ _ hc q=>mul_int q (.of_bits (hc.1.int (M0 _)) (hc.2.int (M0 _)))
theorem cS:OpR X (binaryOp .Mod) (rI (λ_ j=>0<j) λi j=>.int (i%j)):=D1
def MV(_ j:Int):Prop:=0<j/\Bits 9000 j
theorem cT:OpR X (binaryOp .FloorDiv) (rI MV λi j=>.int (i/j)):=opI λi j _ _ _ _ _ hc q=>by refine floordiv_int (Ny hc.1) ?_ (.inl (PyProof.noPylong_of_log2 (hc.2.log (by decide))));rw[Int.fdiv_eq_ediv_of_nonneg _ (M7 hc.1)];exact q
def MW(_ j:Int):Prop:=j≠0/\Bits 9000 j
theorem xq:OpR X (binaryOp .FloorDiv) (rI MW λi j=>.int (i.fdiv j)):=opI λ_ _ _ _ _ _ _ hc q=>floordiv_int hc.1 q (.inl (PyProof.noPylong_of_log2 (hc.2.log (by decide))))
theorem df:OpR X (compareOp .Eq) (rI0 λi j=>.bl (decide (i=j))):=jZ λ_ _ _ _ _ _ _ q=>eq_int (by rw[Bool.beq_eq_decide_eq];exact q)
theorem fH:OpR X (compareOp .NotEq) (rI0 λi j=>.bl (!decide (i=j))):=jZ λ_ _ _ _ _ _ _ q=>ne_int (by rw[bne,Bool.beq_eq_decide_eq];exact q)
def wP(K:PySem.W.Frag):R2:=λx y H Q=>∃(a b:Addr) (ns ms:List Int),x=.ref a/\y=.ref b/\SqL K H a (ns.map V.int)/\SqL K H b (ms.map V.int)/\Q (.bl (decide (ns=ms))) H
def wJ(K:PySem.W.Frag):R2:=λx y H Q=>∃(a b:Addr) (ns ms:List Int),x=.ref a/\y=.ref b/\SqL K H a (ns.map V.int)/\SqL K H b (ms.map V.int)/\Q (.bl (!decide (ns=ms))) H
theorem D4(hu:X.A.units+64<cLine):OpR X (compareOp .Eq) (wP X.K):=by intro pins s σ H x y v u Q I rx ry h;obtain⟨a,b,ns,ms,rfl,rfl,ha,hb,q⟩:=h;cases rx;cases ry;obtain⟨i1,r1,p1,_⟩:=I.list ha;obtain⟨i2,r2,p2,_⟩:=I.list hb;exact PySem.W.eq_intsK p1.isList (oT r1) p2.isList (oT r2) hu ⟨.bl _,H,I,rfl,q⟩
theorem DW(hu:X.A.units+64<cLine):OpR X (compareOp .NotEq) (wJ X.K):=by intro pins s σ H x y v u Q I rx ry h;obtain⟨a,b,ns,ms,rfl,rfl,ha,hb,q⟩:=h;cases rx;cases ry;obtain⟨i1,r1,p1,_⟩:=I.list ha;obtain⟨i2,r2,p2,_⟩:=I.list hb;exact PySem.W.ne_intsK p1.isList (oT r1) p2.isList (oT r2) hu ⟨.bl _,H,I,rfl,q⟩
noncomputable def jS(K:PySem.W.Frag):List V->Hp->VK->Prop:=λxs H Q=>∃(x:V) (t c:Value) (n:V) (k:Bool),xs=[x,n]/\RelV n c/\(∀u,RelV n u->u=c)/\TyOf K H x t/\PySem.W.kitOne K t c=some k/\Q (.bl k) H
theorem Kq:CallR X (.builtin "isinstance") (jS X.K):=by intro pins s σ H xs us Q I r h;obtain⟨x,t,c,n,k,rfl,rn,hn,ty,e,q⟩:=h;obtain⟨u1,u2,rfl,r1,r2⟩:=r.two;obtain rfl:=hn u2 r2;exact Hu I r1 ty e λtk=>⟨.bl k,H,I.tok tk,rfl,q⟩
theorem sr{K:PySem.W.Frag}{H:Hp}{Q:VK}{x:V}{n:String}{t:Value}{k:Bool}(ty:TyOf K H x t)(e:PySem.W.kitOne K t (.type n)=some k)(q:Q (.bl k) H):jS K [x,.ty n] H Q :=
 ⟨x,t,.type n,.ty n,k,rfl,rfl,λ_ h=>h,ty,e,q⟩
theorem yq{K:PySem.W.Frag}{H:Hp}{Q:VK}{x:V}{C:Addr}{t:Value}{k:Bool}(ty:TyOf K H x t)(e:PySem.W.kitOne K t (.ref C)=some k)(q:Q (.bl k) H):jS K [x,.ref C] H Q :=
 ⟨x,t,.ref C,.ref C,k,rfl,rfl,λ_ h=>h,ty,e,q⟩
end
section
variable {D:Ends}{σ:St}{H:Hp}{Q:VK}{t u:TS}{te ta tb:TE}{c:TT}{i:Nat}{v:V}{r:R2}
theorem kZ(P:St->Hp->Prop)(h1:∀σ' H',P σ' H'->u D σ' H')(h2:(∀σ' H',P σ' H'->u D σ' H')->t { D with nx:=u D } σ H):cD t u D σ H:=h2 h1
theorem dz(P:St->Hp->Prop)(h:P σ H)(h1:∀σ' H',P σ' H'->u D σ' H'):u D σ H:=h1 σ H h
theorem av(h:te σ H λx H1=>u D (σ.set i (some x)) H1):cD (fY te (gP i)) u D σ H:=h
theorem kX(h:te σ H λ_ H1=>u D σ H1):cD (m6 te) u D σ H:=h
theorem bF{t1:TS}(h:c σ H λb H1=>if b=true then t1 { D with nx:=u D } σ H1 else u D σ H1):cD (dY c t1 pO) u D σ H:=h
theorem kY{K:PySem.W.Frag}{n:V}(h:ta σ H λx H1=>jS K [x,n] H1 Q):tCB (jS K) (iy ta (iy (tC n) kD)) σ H Q:=h
theorem fy{t1 t2:TS}(P:St->Hp->Prop)(h1:∀σ' H',P σ' H'->u D σ' H')(h2:(∀σ' H',P σ' H'->u D σ' H')->c σ H λb H1=>if b=true then t1 { D with nx:=u D } σ H1 else t2 { D with nx:=u D } σ H1):cD (dY c t1 t2) u D σ H:=h2 h1
theorem bX(h:te σ H λx H1=>D.nx (σ.set i (some x)) H1):fY te (gP i) D σ H:=h
theorem aZ(h:te σ H D.rt):m5 te D σ H:=h
theorem nS(h:te σ H λ_ H1=>D.nx σ H1):m6 te D σ H:=h
theorem nR(h:D.nx σ H):pO D σ H:=h
theorem fx(h:c σ H λb H1=>if b=true then t D σ H1 else u D σ H1):dY c t u D σ H:=h
theorem qR{K:Bool->Hp->Prop}(h:te σ H λx H'=>∃k,x=.bl k/\K k H'):tB te σ H K:=h
theorem d8{K:Bool->Hp->Prop}{tt:TT}(h:tt σ H λk H1=>K (!k) H1):vD tt σ H K:=h
theorem gm{K:Bool->Hp->Prop}{t1 t2:TT}(h:t1 σ H λk H1=>if k=true then t2 σ H1 K else K false H1):pP t1 t2 σ H K:=h
theorem d7{K:Bool->Hp->Prop}{t1 t2:TT}(h:t1 σ H λk H1=>if k=true then K true H1 else t2 σ H1 K):tOr t1 t2 σ H K:=h
theorem nU(h:ta σ H λx H1=>∃k,x=.bl k/\if k=true then tb σ H1 Q else Q (.bl false) H1):vI ta tb σ H Q:=h
theorem wB(h:ta σ H λx H1=>∃k,x=.bl k/\Q (.bl (!k)) H1):vC ta σ H Q:=h
theorem C0{tt:TT}(h:tt σ H λk H1=>if k=true then ta σ H1 Q else tb σ H1 Q):tIf tt ta tb σ H Q:=h
theorem nQ{K:List V->Hp->Prop}(h:K [] H):kD σ H K:=h
theorem jR{K:List V->Hp->Prop}{t:TA}(h:ta σ H λx H1=>t σ H1 λxs H2=>K (x::xs) H2):iy ta t σ H K:=h
theorem wC{t:TA}(h:t σ H λxs H1=>xs.length<=sizeLine/\∀p,H1 p=none->Q (.ref p) (upd H1 p (.lst xs))):vF t σ H Q:=h
theorem cK{A B:Prop}(h:A):if true=true then A else B:=by rw[if_pos rfl];exact h
theorem bQ{A B:Prop}(h:B):if false=true then A else B:=by rw[if_neg NU];exact h
theorem aX{p A B:Prop}[Decidable p](h1:p->A)(h2:¬p->B):if decide p=true then A else B:=by
 by_cases hp:p
 ·rw[if_pos (decide_eq_true hp)];exact h1 hp
 ·rw[if_neg (by rw[decide_eq_false hp];exact NU)];exact h2 hp
theorem cG{p A B:Prop}[Decidable p](h1:¬p->A)(h2:p->B):if(!decide p)=true then A else B:=by
 by_cases hp:p
 ·rw[if_neg (by rw[decide_eq_true hp];exact NU)];exact h2 hp
 ·rw[if_pos (by rw[decide_eq_false hp];rfl)];exact h1 hp
end
structure Cal(P:Program)(w:World)(K:PySem.W.Frag)(mg:Str->Option Value)(base:Heap)(k:Nat)(x:Str)(ps:List Str)(sp:Sp)(f:Addr)(fd:FuncData):Prop where
 ok:FnOk P w K mg base CX0 k f fd ps sp
 mg:mg x=some (.ref f)
 kp:PySem.W.keepIn K (.ref f)=true
 bd:Binds K fd ps []
theorem Same.upd_new{H:Hp}{p:Addr}{o:HO}(h:H p=none):Same H (upd H p o):=λb u e=>by rw[upd_ne (aN e h)];exact e
theorem Same.then_new{H H1:Hp}{p:Addr}{o:HO}(s:Same H H1)(h:H1 p=none):Same H (upd H1 p o):=s.trans (Same.upd_new h)
theorem Same.ne{H H1:Hp}{a p:Addr}{o:HO}(s:Same H H1)(e:H a=some o)(h:H1 p=none):a≠p:=aN (s a o e) h
section
variable {X:Cx}{K:PySem.W.Frag}
theorem bK(h:X.K=K):IxR X (wO K):=by subst h;exact Ht
theorem aV(h:X.K=K):IxR X (wN K):=by subst h;exact Hs
theorem nJ(h:X.K=K):SlR X (qU K):=by subst h;exact BL
noncomputable def Do(K:PySem.W.Frag):List V->Hp->VK->Prop:=λxs H Q=>∃p ys,xs=[.ref p]/\(SqL K H p ys\/SqT K H p ys)/\Q (.int ys.length) H
theorem cp(h:X.K=K):CallR X (.builtin "len") (Do K):=by subst h;exact Kp
noncomputable def Dn(K:PySem.W.Frag):List V->Hp->VK->Prop:=λxs H Q=>∃p ys,xs=[.ref p]/\(SqL K H p ys\/SqT K H p ys)/\∀l,H l=none->Q (.ref l) (upd H l (.lst ys))
theorem uh(h:X.K=K):CallR X (.type "list") (Dn K):=by subst h;exact Ko
theorem lx(h:X.K=K)(hu:X.A.units+64<cLine):OpR X (compareOp .Eq) (wP K):=by subst h;exact D4 hu
theorem jX(h:X.K=K)(hu:X.A.units+64<cLine):OpR X (compareOp .NotEq) (wJ K):=by subst h;exact DW hu
theorem mw(h:X.K=K):CallR X (.builtin "isinstance") (jS K):=by subst h;exact Kq
theorem dA{tg l:Expr}{tl:TE}(h:X.K=K)(hl:PE X l tl):PI X tg l (yE K tl):=by subst h;exact DI hl
theorem DF{tg l:Expr}{tl:TE}(h:X.K=K)(hl:PE X l tl):PI X tg l (yD K tl):=by subst h;exact DG hl
theorem aJ{e:Expr}{ta:TE}{f:Str}{pos:Pos}(h:X.K=K)(he:PE X e ta)(hb:attributeBase e f X.env (eval e X.env)=eval e X.env):PE X (.Attribute e f pos) (vG K ta f):=by subst h;exact DO he hb
end
noncomputable def Ite(K:PySem.W.Frag)(a:Addr):It :=
 ⟨λi H=>∃xs x,SqL K H a xs/\xs[i]?=some x,λi H x H'=>∃v p,x=.ref p/\H p=none/\H'=upd H p (.tup [.int i,v])/\∀xs,SqL K H a xs->xs[i]?=some v,λi H=>∃xs,SqL K H a xs/\xs.length<=i⟩
theorem AZ{P:Program}{w:World}{K:PySem.W.Frag}{es:List Expr}{x1:Nat}{tp:Pos}(a e it:Addr)(hne:e≠it):Turn P w K (.Tuple es x1 tp) (Ite K a) [e,it] e (λi h=>(∃old,IsEnum h e it (i:Int) old)/\h.IsListIter it a i) where
 mem:=by simp
 obj:=λi h st b hb=>by
  obtain⟨⟨old,he⟩,hi⟩:=st;rcases Nd.mp hb with rfl |hb
  ·exact⟨_,he,λv z=>by cases z⟩
  ·have q:b=it:=by simpa using hb
   subst q;obtain⟨o,e,c,d⟩:=hi;exact⟨o,e,λv z=>by rw[d]at z;cases z⟩
 keep:=λi h h' st k=>by obtain⟨⟨old,he⟩,hi⟩:=st;exact⟨⟨old,k e (by simp) _ he⟩,hi.at λo q=>k it (by simp) o q⟩
 item:=by
  intro X hP hw hK hc i pins s σ H E I hf st hg;subst hP hw hK;obtain⟨⟨old,he⟩,hi⟩:=st;obtain⟨xs,x,hq,hx⟩:=hg;obtain⟨its,rv,p,hz⟩:=I.list hq;obtain⟨u,hu,ru⟩:=rv.get hx;refine wpAny_pyNext_enum_item he hi p.isList (x:=u) (by simpa using hu) hne λh' out hit' htup hsz kk=>?_
  have hfp:H s.heap.objs.size=none:=I.hok.fresh (M0 _);have nfp:∀b o,H b=some o->b≠e/\b≠it:=λb o q=>⟨λz=>(by rw[z,(hf e (by simp)).1]at q;cases q),λz=>(by rw[z,(hf it (by simp)).1]at q;cases q)⟩
  have I1:Inv X pins σ (upd H s.heap.objs.size (.tup [.int i,x])) { s with heap:=h',toks:=s.toks+1 }:=by
   refine I.step (g':=s.gens) (d':=s.drawn) (ch:=[e,it]) (λb hb=>?_) (λb o _ _ hc q _=>kk b o (λz=>hc (by simp[z])) (λz=>hc (by simp[z])) q)
    (λb o _ _ hc q _=>⟨o.slots,kk b o (λz=>hc (by simp[z])) (λz=>hc (by simp[z])) q⟩) (λb o _ q n=>by rw[upd_ne (Ng (Heap.lt_size q))];exact n)
    (λb o hc q=>⟨o,kk b o (λz=>hc (by simp[z])) (λz=>hc (by simp[z])) q⟩) (λb ys q=>by rw[upd_ne (aN q hfp)];exact q) (λb o ys q=>by rw[upd_ne (aN q hfp)];exact q)
    (λb ps q=>⟨#[],by rw[upd_ne (aN q hfp),q];simp⟩) (λm hm=>?_) (λb o q=>?_) I.bare
   ·obtain⟨f0,f1,f2,f3,f4,f5⟩:=hf b hb;exact⟨f3,f1,f4,f5⟩
   ·obtain⟨o,es',ep',ho,r⟩:=hm;exact⟨o,es',ep',kk _ o (Ne.symm (hf e (by simp)).2.1) (Ne.symm (hf it (by simp)).2.1) ho,r⟩
   ·by_cases hb:b=s.heap.objs.size
    ·subst hb;rw[ao]at q;cases q;exact⟨by show 2<=sizeLine;decide,[.int i s.toks,u],.cons ⟨_,rfl⟩ (.cons ru .nil),⟨_,htup,rfl,_,rfl⟩⟩
    ·rw[upd_ne hb]at q;refine(I.hok b o q).stay (λc v hc z=>?_) (λc z=>by rw[upd_ne (aN z hfp)];exact z) λc ys z=>by rw[upd_ne (aN z hfp)];exact z
     rcases hc with rfl |hc
     ·exact kk c v (nfp c o q).1 (nfp c o q).2 z
     ·exact kk c v (nfp c _ hc).1 (nfp c _ hc).2 z
  refine⟨_,rfl,wpAny_letOwnedTupleGo_enum out λh'' he'' sb=>?_⟩;obtain⟨f0,f1,f2,f3,f4,f5⟩:=hf e (by simp)
  have hen:upd H s.heap.objs.size (.tup [.int i,x]) e=none:=by rw[upd_ne (Ng (Heap.lt_size he))];exact f0
  have I2:=I1.turned (h':=h'') (t':=s.toks+1) (it:=e) (λb o hb q=>(sb.2 b hb).trans q) hen f1 f3 f4 f5;refine⟨.ref s.heap.objs.size,_,I2,rfl,⟨x,_,rfl,hfp,rfl,λys hy=>by rw[I.list_inj hy hq];exact hx⟩,⟨⟨u,?_⟩,hit'.at λo q=>(sb.2 it (Ne.symm hne)).trans q⟩,λb hb=>?_⟩
  ·have:((i+1:Nat):Int)=(i:Int)+1:=by omega
   rw[this];exact he''
  ·have hlt:b<s.heap.objs.size:=by
    rcases Nd.mp hb with rfl |hb
    ·exact Heap.lt_size he
    ·have q:b=it:=by simpa using hb
     subst q;obtain⟨o,e1,_⟩:=hi;exact Heap.lt_size e1
   rw[upd_ne (Ng hlt)];exact(hf b hb).1
 done:=by intro X hP hw hK hc i pins s σ H E I hf st hg;subst hP hw hK;obtain⟨⟨old,he⟩,hi⟩:=st;obtain⟨xs,hq,hx⟩:=hg;obtain⟨its,rv,p,hz⟩:=I.list hq;obtain⟨f0,f1,f2,f3,f4,f5⟩:=hf it (by simp);have hl:=rv.length;exact wpAny_pyNext_enum_end (I.ok.hd hc) he hi p.isList (by simp;omega) λh' eb=>⟨rfl,I.turned (t':=s.toks) (λb o hb e=>eb b o hb e) f0 f1 f3 f4 f5⟩
 self:=λ_ _ _ _ _ st h=>by obtain⟨⟨old,he⟩,hi⟩:=st;exact wpAny_pyIter_enum he h
section
variable {X:Cx}
def HE(K:PySem.W.Frag)(ta:TA):TI:=λσ H R=>ta σ H λvs H1=>∃a,vs=[.ref a]/\(∃xs,SqL K H1 a xs)/\R (Ite K a) H1
theorem re{es:List Expr}{x1:Nat}{tp:Pos}{a:Expr}{ta:TA}{p pos:Pos}(hg:Gl X "enumerate")(hm:X.mg "enumerate"=none)(ha:PA X [a] ta)(hs:starEach [a] X.env=[(false,eval a X.env)]:=by rfl):PI X (.Tuple es x1 tp) (.Call (.Name "enumerate" p) [a] [] pos) (HE X.K ta):=by
 intro pins s σ H R I h;refine Call_ (eR I hg hm boot_enumerate (PyProof.Rows.callWith_type1 (thn (ha pos pins s σ H _ I h) λus s1 ⟨vs,H1,I1,r1,q1⟩=>?_) hs rfl));obtain⟨a',e,⟨xs,hq⟩,q⟩:=q1;subst e;obtain⟨u,rfl,ru⟩:=r1.one;cases ru;obtain⟨its,rv,pl,hz⟩:=I1.list hq;refine call_enumerate_list pl.isList λh' he hit hsz hk=>?_
 have I2:Inv X pins σ H1 { s1 with heap:=h' }:=I1.kept (t':=s1.toks) hk;refine wpAny_pyIter_enum he ?_;refine⟨s1.heap.objs.size+1,[s1.heap.objs.size+1,s1.heap.objs.size],_,_,H1,rfl,I2,AZ a' _ _ (Nat.succ_ne_self _),⟨⟨_,he⟩,hit⟩,λb hb=>?_,q⟩
 have hb':s1.heap.objs.size<=b:=by
  rcases Nd.mp hb with rfl |hb
  ·exact Nat.le_succ _
  ·have q:b=s1.heap.objs.size:=by simpa using hb
   subst q;exact M0 _
 exact I1.fpOk hb' (I1.hok.fresh hb')
end
theorem sI{K:PySem.W.Frag}{a:Addr}{xs:List V}{g:TG}{tb:TS}{D:Ends}{σ:St}{H:Hp}(Pv:Nat->St->Hp->Prop)(h0:Pv 0 σ H)(hl:∀i σ H,i<=xs.length->Pv i σ H->SqL K H a xs)
 (hs:∀i x σ H p,xs[i]?=some x->Pv i σ H->H p=none->g (.ref p) σ (upd H p (.tup [.int i,x])) λσ2 H2=>tb { D with nx:=Pv (i+1),ct:=Pv (i+1),bk:=D.nx } σ2 H2) (hd:∀σ H,Pv xs.length σ H->D.nx σ H) :
 ∃W:Nat->Nat->St->Hp->Prop,(∃m,W 0 m σ H)/\∀i m σ H,W i m σ H ->
  ((Ite K a).stop i H/\D.nx σ H)\/((Ite K a).go i H/\∃N:St->Hp->Prop,(∀σ' H',N σ' H'->∃m',m'<m/\W (i+1) m' σ' H')/\∀x H',(Ite K a).yld i H x H'->g x σ H' λσ2 H2=>tb { D with nx:=N,ct:=N,bk:=D.nx } σ2 H2):=by
 refine⟨λi m σ H=>m=xs.length-i/\i<=xs.length/\Pv i σ H,⟨xs.length,by simp,M9 _,h0⟩,?_⟩;rintro i m σ H ⟨rfl,hi,p⟩;have q:=hl i σ H hi p;by_cases hlt:i<xs.length
 ·refine .inr ⟨⟨xs,xs[i],q,by simp[hlt]⟩,Pv (i+1),λσ' H' p'=>⟨xs.length-(i+1),by omega,rfl,hlt,p'⟩,λx H' y=>?_⟩;obtain⟨v,r,rfl,hr,rfl,y⟩:=y;exact hs i v σ _ r (y xs q) p hr
 ·have e:i=xs.length:=by omega
  subst e;exact .inl ⟨⟨xs,q,M0 _⟩,hd σ H p⟩
noncomputable def Itv(K:PySem.W.Frag)(a:Addr)(xs:List V):It :=
 ⟨λi H=>SqL K H a xs/\i<xs.length,λi H x H'=>H'=H/\xs[xs.length-1-i]?=some x,λi H=>xs.length<=i⟩
theorem AV{P:Program}{w:World}{K:PySem.W.Frag}{tg:Expr}(a it:Addr)(xs:List V):Turn P w K tg (Itv K a xs) [it] it (λi h=>i<=xs.length/\h.IsRevIter it a ((xs.length:Int)-1-i)) where
 mem:=by simp
 obj:=λi h st b hb=>by
  have e:b=it:=by simpa using hb
  subst e;obtain⟨_,o,e,c,d⟩:=st;exact⟨o,e,λv z=>by rw[d]at z;cases z⟩
 keep:=λi h h' st k=>⟨st.1,st.2.at λo e=>k it (by simp) o e⟩
 item:=by
  intro X hP hw hK hc i pins s σ H E I hf st hg;subst hP hw hK;obtain⟨hq,hlt⟩:=hg;obtain⟨its,rv,p,hz⟩:=I.list hq;have hl:=rv.length;obtain⟨x,hx⟩:∃x,xs[xs.length-1-i]?=some x:=⟨_,List.getElem?_eq_getElem (by omega)⟩;obtain⟨u,hu,ru⟩:=rv.get hx;obtain⟨f0,f1,f2,f3,f4,f5⟩:=hf it (by simp);have e1:(xs.length:Int)-1-i=((xs.length-1-i:Nat):Int):=by omega
  have hit:=st.2;rw[e1]at hit;refine wpAny_pyNext_rev_item hit p.isList (x:=u) (by simpa using hu) λh' st' sb=>?_
  have I1:Inv X pins σ H { s with heap:=h' }:=I.turned (t':=s.toks) (λb o hb e=>(sb.2 b hb).trans e) f0 f1 f3 f4 f5;obtain⟨o,e,c,d⟩:=id st';refine⟨u,rfl,lR (s:={ s with heap:=h' }) e c d (by decide) ⟨x,H,I1,ru,⟨rfl,hx⟩,⟨hlt,?_⟩,λb hb=>(hf b hb).1⟩⟩;have e2:(xs.length:Int)-1-((i+1:Nat):Int)=((xs.length-1-i:Nat):Int)-1:=by omega
  rw[e2];exact st'
 done:=by
  intro X hP hw hK hc i pins s σ H E I hf st hg;subst hP hw hK;obtain⟨f0,f1,f2,f3,f4,f5⟩:=hf it (by simp);have hle:xs.length<=i:=hg;have e1:(xs.length:Int)-1-i = -1:=by have:=st.1;omega
  have hit:=st.2;rw[e1]at hit;exact wpAny_pyNext_rev_end (I.ok.hd hc) hit λh' eb=>⟨rfl,I.turned (t':=s.toks) (λb o hb e=>eb b o hb e) f0 f1 f3 f4 f5⟩
 self:=λ_ _ _ _ _ st h=>wpAny_pyIter_revIter st.2 h
section
variable {X:Cx}{tg:Expr}
def HD(K:PySem.W.Frag)(ta:TA):TI:=λσ H R=>ta σ H λvs H1=>∃a xs,vs=[.ref a]/\SqL K H1 a xs/\R (Itv K a xs) H1
theorem rd{a:Expr}{ta:TA}{p pos:Pos}(hg:Gl X "reversed")(hm:X.mg "reversed"=none)(ha:PA X [a] ta)(hs:starEach [a] X.env=[(false,eval a X.env)]:=by rfl):PI X tg (.Call (.Name "reversed" p) [a] [] pos) (HD X.K ta):=by
 intro pins s σ H R I h;refine Call_ (eR I hg hm boot_reversed (PyProof.Rows.callWith_type1 (thn (ha pos pins s σ H _ I h) λus s1 ⟨vs,H1,I1,r1,q1⟩=>?_) hs rfl));obtain⟨a',xs,e,hq,q⟩:=q1;subst e;obtain⟨u,rfl,ru⟩:=r1.one;cases ru;obtain⟨its,rv,pl,hz⟩:=I1.list hq;have hl:=rv.length;refine call_reversed_list pl.isList ?_
 have hit:(s1.heap.push (revObj a' ((its.toArray.size:Int)-1))).IsRevIter s1.heap.objs.size a' ((xs.length:Int)-1-((0:Nat):Int)):=by
  have e1:(xs.length:Int)-1-((0:Nat):Int)=(its.toArray.size:Int)-1:=by rw[Np];omega
  rw[e1];exact⟨_,Heap.get?_push_size _ rfl,rfl,rfl⟩
 have I2:Inv X pins σ H1 { s1 with heap:=s1.heap.push (revObj a' ((its.toArray.size:Int)-1)) }:=I1.kept (t':=s1.toks) λb o e=>Heap.get?_push_of_some _ e
 refine wpAny_pyIter_revIter (s:={ s1 with heap:=s1.heap.push (revObj a' ((its.toArray.size:Int)-1)) }) hit ?_;refine⟨s1.heap.objs.size,[s1.heap.objs.size],_,_,H1,rfl,I2,AV a' _ xs,⟨M9 _,hit⟩,λb hb=>?_,q⟩;have e:b=s1.heap.objs.size:=by simpa using hb
 subst e;exact I1.fpOk (M0 _) (I1.hok.fresh (M0 _))
end
theorem sH{K:PySem.W.Frag}{a:Addr}{xs:List V}{g:TG}{tb:TS}{D:Ends}{σ:St}{H:Hp}(Pv:Nat->St->Hp->Prop)(h0:Pv 0 σ H)(hl:∀i σ H,i<=xs.length->Pv i σ H->SqL K H a xs)
 (hs:∀i x σ H,i<xs.length->xs[xs.length-1-i]?=some x->Pv i σ H->g x σ H λσ2 H2=>tb { D with nx:=Pv (i+1),ct:=Pv (i+1),bk:=D.nx } σ2 H2) (hd:∀σ H,Pv xs.length σ H->D.nx σ H) :
 ∃W:Nat->Nat->St->Hp->Prop,(∃m,W 0 m σ H)/\∀i m σ H,W i m σ H ->
  ((Itv K a xs).stop i H/\D.nx σ H)\/((Itv K a xs).go i H/\∃N:St->Hp->Prop,(∀σ' H',N σ' H'->∃m',m'<m/\W (i+1) m' σ' H')/\∀x H',(Itv K a xs).yld i H x H'->g x σ H' λσ2 H2=>tb { D with nx:=N,ct:=N,bk:=D.nx } σ2 H2):=by
 refine⟨λi m σ H=>m=xs.length-i/\i<=xs.length/\Pv i σ H,⟨xs.length,by simp,M9 _,h0⟩,?_⟩;rintro i m σ H ⟨rfl,hi,p⟩;by_cases hlt:i<xs.length
 ·refine .inr ⟨⟨hl i σ H hi p,hlt⟩,Pv (i+1),λσ' H' p'=>⟨xs.length-(i+1),by omega,rfl,hlt,p'⟩,λx H' y=>?_⟩;obtain⟨e,y⟩:=y;subst e;exact hs i x σ _ hlt y p
 ·have e:i=xs.length:=by omega
  subst e;exact .inl ⟨M0 _,hd σ H p⟩
structure FunD(K:PySem.W.Frag)(x qual:Str)(st:Stmt)(dV:Value)(f:Addr)(fd:FuncData):Prop where
 ex:∃(oc:Value) (od:Option Addr) (kV doc pm:Value) (an:Option Addr) (cdv ct:Value) (osl:Array (Option Value)),
  fd=PySem.W.fnOf x qual (aA st) (ax st) (ag st) dV kV doc pm an cdv ct/\K.lookup f=some ⟨oc,od,.func fd,osl⟩/\PySem.W.codeIn K cdv qual=true
 kp:PySem.W.keepIn K (.ref f)=true
section
variable {P:Program}{w:World}{K:PySem.W.Frag}{mg:Str->Option Value}{base:Heap}
theorem FunD.ok{x qual:Str}{st:Stmt}{dV:Value}{f:Addr}{fd:FuncData}{N ps:List Str}{k:Nat}{sp:Sp}(F:FunD K x qual st dV f fd)(S:FnScope N ps (ag st))(len:∀vs H Q E,sp vs H Q E->vs.length=ps.length)
 (hbody:∀(cdv:Value) (A:Around) (outer:List Env) (s:Shared) (H:Hp) (vs:List V) (Q:VK) (E:XK),Room k (A.deeper (envOfC qual (ag st) s.heap.objs.size f cdv))->sp vs H Q E ->
   ∃t,PSs (bw CX0 P w K mg base N qual (ag st) f cdv A outer s H E).nox (ax st) t/\t { nx:=λ_ H'=>Q .non H',rt:=Q } (start N vs) H):FnOk P w K mg base CX0 (k+1) f fd ps sp:=by
 obtain⟨oc,od,kV,doc,pm,an,cdv,ct,osl,rfl,lk,hcd⟩:=F.ex;refine o8 lk hcd S len λA outer s H vs Q E hr hsp=>?_
 obtain⟨t,h,q⟩:=hbody cdv A outer s H vs Q E hr hsp;exact⟨t,h.nox,q⟩
theorem FunD.binds{x qual:Str}{st:Stmt}{dV:Value}{f:Addr}{fd:FuncData}{ps:List Str}(F:FunD K x qual st dV f fd)
 (h:∀(kV doc pm:Value) (an:Option Addr) (cdv ct:Value) (us:List Value),us.length=ps.length->bindArgs (PySem.W.fnOf x qual (aA st) (ax st) (ag st) dV kV doc pm an cdv ct) ⟨us,[]⟩=pure (ps.zip us)):Binds K fd ps []:=by
 obtain⟨oc,od,kV,doc,pm,an,cdv,ct,osl,rfl,lk,hcd⟩:=F.ex;exact .all (h kV doc pm an cdv ct)
theorem FunD.bindsD{x qual:Str}{st:Stmt}{T:Addr}{f:Addr}{fd:FuncData}{ps:List Str}{ds tup:List Value}{o:Obj}{n:Nat}(m:Nat)(F:FunD K x qual st (.ref T) f fd)(lo:K.lookup T=some o)(hs:o.data=.seq tup.toArray n)(hm:m+ds.length=ps.length)
 (h:∀(kV doc pm:Value) (an:Option Addr) (cdv ct:Value) (us:List Value),us.length=m->∃k:Option (Array Value)->Sem (List (Str×Value)),
   bindArgs (PySem.W.fnOf x qual (aA st) (ax st) (ag st) (.ref T) kV doc pm an cdv ct) ⟨us,[]⟩=seqItems? (.ref T) >>= k/\k (some tup.toArray)=pure (ps.zip (us++ds))):Binds K fd ps ds:=by
 obtain⟨oc,od,kV,doc,pm,an,cdv,ct,osl,rfl,lk,hcd⟩:=F.ex;intro s us KX hl;rw[Nh]at hl;obtain⟨k,h1,h2⟩:=h kV doc pm an cdv ct us (by omega);exact PySem.W.binds_K (k:=k) KX rfl lo hs h1 h2
theorem yU{x qual:Str}{st:Stmt}{f:Addr}{oc:Value}{od an:Option Addr}{osl:Array (Option Value)}{dV kV doc pm cdv ct:Value}(l:K.lookup f=some ⟨oc,od,.func (PySem.W.fnOf x qual (aA st) (ax st) (ag st) dV kV doc pm an cdv ct),osl⟩)
 (c:PySem.W.codeIn K cdv qual=true) (k:PySem.W.keepIn K (.ref f)=true):FunD K x qual st dV f (PySem.W.fnOf x qual (aA st) (ax st) (ag st) dV kV doc pm an cdv ct):=⟨⟨oc,od,kV,doc,pm,an,cdv,ct,osl,rfl,l,c⟩,k⟩
end
structure MCal(P:Program)(w:World)(K:PySem.W.Frag)(mg:Str->Option Value)(base:Heap)(k:Nat)(C:Addr)(m:Str)(ps:List Str)(sp:Sp)(f:Addr)(fd:FuncData):Prop where
 ok:FnOk P w K mg base CX0 k f fd ps sp
 mt:Meth K C m f
 bd:Binds K fd ps []
structure KCal(P:Program)(w:World)(K:PySem.W.Frag)(mg:Str->Option Value)(base:Heap)(k:Nat)(C:Addr)(x:Str)(ps:List Str)(sp:Sp)(f:Addr)(fd:FuncData)(ds:List Value)(dvs:List V):Prop where
 ok:FnOk P w K mg base CX0 k f fd ps sp
 mkr:Mk K C f
 mg:mg x=some (.ref C)
 bd:Binds K fd ps []
 bdD:Binds K fd ps ds
 vd:Vals dvs ds
section
variable {prog:Program}{w:World}{A:Around}{E:Value->Shared->Prop}{s:Shared}
end
section
variable {X:Cx}{K:PySem.W.Frag}
end
noncomputable def CXW(P:Program)(w:World):CXT:=λouter H s E e s'=>∃(ea:Addr) (cls a0:Value) (B:Heap) (H':Hp),e=.ref ea/\s'.os=s.os/\AllBare s'.gens/\Un (frs outer) [] H H' s.heap s'.heap/\HOk P w H' s'.heap /\
 Heap.FlyingW B outer ea cls a0 s'.heap/\(∀b o,s.heap.get? b=some o->b∉frs outer->∃o',s'.heap.get? b=some o'/\B.get? b=some o')/\(∀b x,H' b=some x->∃o',s'.heap.get? b=some o'/\B.get? b=some o')/\H' ea=none/\s.heap.get? ea=none/\E cls none H'
theorem Un.back{fs:List Addr}{H H1:Hp}{h h1 h2:Heap}(u:Un fs [] H H1 h h1)(k:∀b o,h.get? b=some o->b∉fs->∃o',h1.get? b=some o'/\h2.get? b=some o')
 (hf:∀b∈fs,H b=none) (hd:∀b∈fs,∀o,h1.get? b=some o->∀vs,o.data≠.fields vs) (sl:h1.UpToSlots h2):Un fs [] H H1 h h2 where
 keep:=λb o e n hb hx=>by obtain⟨o',e1,e2⟩:=k b o e hb;rw[u.keep b o e n hb hx]at e1;cases e1;exact e2
 slot:=λb o e n hb hx=>by obtain⟨s1,e1⟩:=u.slot b o e n hb hx;obtain⟨s2,e2⟩:=sl b _ e1 (hd b hb _ e1);exact⟨s2,e2⟩
 free:=u.free
 there:=λb o e hx=>by
  by_cases hb:b∈fs
  ·obtain⟨s1,e1⟩:=u.slot b o e (hf b hb) hb hx;obtain⟨s2,e2⟩:=sl b _ e1 (hd b hb _ e1);exact⟨_,e2⟩
  ·obtain⟨o',_,e2⟩:=k b o e hb;exact⟨o',e2⟩
 tups:=u.tups
 frzs:=u.frzs
 tbls:=u.tbls
theorem HOk.back{P:Program}{w:World}{H:Hp}{h h' B:Heap}(x:HOk P w H h)(k:∀b y,H b=some y->∃o',h.get? b=some o'/\B.get? b=some o')(st:B.StaysIn h'):HOk P w H h':=λa o e=>by
 refine(x a o e).stay (λb u hb q=>?_) (λ_ z=>z) λ_ _ z=>z
 have hn:∃y,H b=some y:=by
  rcases hb with rfl |hb
  ·exact⟨_,e⟩
  ·exact⟨_,hb⟩
 obtain⟨y,hy⟩:=hn;obtain⟨o',e1,e2⟩:=k b y hy;rw[q]at e1;cases e1;exact st _ _ e2
theorem Fm{P:Program}{w:World}{H:Hp}{h:Heap}{a:Addr}{o:HO}(x:ObjOk P w H h a o):∃u,h.get? a=some u:=by
 induction o with
 |lst xs=>obtain⟨_,_,_,_,e⟩:=x;exact⟨_,e⟩
 |tup xs=>obtain⟨z,its,r,ob,e,c⟩:=x;exact⟨_,e⟩
 |dK kvs=>obtain⟨z,y,vs,r,ob,es,ep,e,c⟩:=x;exact⟨_,e⟩
 |dT kvs=>obtain⟨z,y,xs,r,ob,es,ep,e,c⟩:=x;exact⟨_,e⟩
 |set S n=>obtain⟨ob,es,ep,t,e,c⟩:=x;exact⟨_,e⟩
 |ins C dx fs=>obtain⟨d,z,ne,e,_⟩:=x;exact⟨_,e⟩
 |own y=>obtain⟨ob,e⟩:=x;exact⟨_,e⟩
 |xd fs=>obtain⟨mA,⟨od,es,ep,e,c⟩,r⟩:=x;exact⟨_,e⟩
 |rng lo hi=>obtain⟨t,u,v,e⟩:=x;exact⟨_,e⟩
 |frz ob u ih=>exact⟨_,x.1⟩
 |tbl ps=>exact⟨_,x⟩
 |met f y=>exact⟨_,x⟩
 |ext φ=>obtain⟨p,⟨o,e⟩,st⟩:=x;exact⟨_,e⟩
theorem yY{env:Env}{outer:List Env}{L:Addr}(h:env.frame=some L):frs (env::outer)=L::frs outer:=by unfold frs;rw[O1,h]
section
variable {P:Program}{w:World}{K:PySem.W.Frag}{mg:Str->Option Value}{base:Heap}{N:List Str}{qual:Str}{scope:Scope}{f:Addr}{cd:Value}{A:Around}{outer:List Env}{s:Shared}{H:Hp}{E:XK}{pins:List (Addr×Obj)}{σ:St}{H1:Hp}{s1:Shared}
theorem Ig(I:Inv (bw (CXW P w) P w K mg base N qual scope f cd A outer s H E) pins σ H1 s1):∀b∈frs outer,∀o,s1.heap.get? b=some o->∀vs,o.data≠.fields vs:=λb hb o e=>by obtain⟨_,o',e',hd⟩:=I.funs.mem hb;have e'':s1.heap.get? b=some o':=e';rw[e]at e'';cases e'';exact hd
theorem AH{E':XK}{e:Value}{s2:Shared}(I:Inv (bw (CXW P w) P w K mg base N qual scope f cd A outer s H E) pins σ H1 s1)(h:CXW P w (bw (CXW P w) P w K mg base N qual scope f cd A outer s H E).stack H1 s1 E' e s2)(hE:∀c d H',E' c d H'->E c d H') :
 (bw (CXW P w) P w K mg base N qual scope f cd A outer s H E).xe e s2:=by
 obtain⟨ea,cls,a0,B,H2,rfl,os,bare,un,hok,fl,b1,b2,he,hn,hE'⟩:=h;have J:Inv (bw (CXW P w) P w K mg base N qual scope f cd A outer s H E) pins σ H2 s2:=I.call' os un hok bare (λb hb=>nomatch hb);have hfrm:(envOfC qual scope s.heap.objs.size f cd).frame=some s.heap.objs.size:=rfl;have efr:frs (envOfC qual scope s.heap.objs.size f cd::outer)=s.heap.objs.size::frs outer:=yY hfrm
 have b1':∀b o,s.heap.get? b=some o->b∉frs outer->∃o',s2.heap.get? b=some o'/\B.get? b=some o':=λb o q hb=>by
  obtain⟨o',q'⟩:=I.base.there b o q (λz=>nomatch z);refine b1 b o' q' ?_;show b∉frs (envOfC qual scope s.heap.objs.size f cd::outer);rw[efr];intro z;rcases Nd.mp z with z |z
  ·exact absurd (Heap.lt_size q) (by rw[z];exact NI _)
  ·exact hb z
 refine wpAny_leaves_onW (L:=s.heap.objs.size) I.ok.frames hfrm fl λh'' fl' up=>?_
 refine⟨ea,cls,a0,B,H2,rfl,J.os,J.bare,?_,J.hok.back b2 fl'.1,fl',λb o q hb=>?_,λb x q=>?_,he,?_,hE _ _ _ hE'⟩
 ·exact J.base.back (λb o q hb=>let⟨o',q1,q2⟩:=b1' b o q hb;⟨o',q1,fl'.1 _ _ q2⟩) I.ok.frf (Ig J) up
 ·obtain⟨o',q1,q2⟩:=b1' b o q hb;exact⟨o',fl'.1 _ _ q2,q2⟩
 ·obtain⟨o',q1,q2⟩:=b2 b x q;exact⟨o',fl'.1 _ _ q2,q2⟩
 ·cases q:s.heap.get? ea with
  |none=>rfl
  |some o=>obtain⟨o',q'⟩:=I.base.there ea o q (λz=>nomatch z);rw[hn]at q';cases q'
end
section
variable {P:Program}{w:World}{K:PySem.W.Frag}{mg:Str->Option Value}{base:Heap}
end
section
variable {X:Cx}{pins:List (Addr×Obj)}{σ:St}{H1 H2:Hp}{s1 s2:Shared}
theorem zV{B h3:Heap}{ea:Addr}{cls a0:Value}(I:Inv X pins σ H1 s1)(os:s2.os=s1.os)(bare:AllBare s2.gens)(un:Un (frs X.stack) [] H1 H2 s1.heap s2.heap)(hok:HOk X.prog X.w H2 s2.heap)(fl:Heap.FlyingW B X.stack ea cls a0 s2.heap)
 (b1:∀b o,s1.heap.get? b=some o->b∉frs X.stack->∃o',s2.heap.get? b=some o'/\B.get? b=some o') (b2:∀b x,H2 b=some x->∃o',s2.heap.get? b=some o'/\B.get? b=some o') (st:B.StaysIn h3) (up:s2.heap.UpToSlots h3) :
 Inv X pins σ H2 { s2 with heap:=h3 }:=by
 refine I.call' (s':={ s2 with heap:=h3 }) (ch:=[]) os (un.back (λb o q hb=>let⟨o',q1,q2⟩:=b1 b o q hb;⟨o',q1,st _ _ q2⟩) I.stkFree (λb hb o e=>?_) up) (hok.back b2 st) bare (λb hb=>nomatch hb);obtain⟨_,o',e',hd⟩:=fl.2.2.1.mem hb;rw[e]at e';cases e';exact hd
end
section
variable {X:Cx}{CX:CXT}{k:Nat}{f C:Addr}{fd:FuncData}{ps:List Str}{sp:Sp}{dvs:List V}{ds:List Value}{E:XK}{x m:Str}{p pos apos:Pos}{e o:Expr}{es:List Expr}{ta:TE}{t:TA}{pins:List (Addr×Obj)}{σ:St}
def Ar(CX:CXT)(X:Cx)(pins:List (Addr×Obj))(σ:St)(E:XK):Prop:=∀(H:Hp) (s:Shared) (e:Value) (s':Shared),Inv X pins σ H s->CX X.stack H s E e s'->X.xe e s'
theorem CJ{H:Hp}{s:Shared}{Q:VK}{us:List Value}{vs:List V}(F:FnOk X.prog X.w X.K X.mg X.base CX k f fd ps sp)(hr:Room k X.A)(hb:Binds X.K fd ps ds)(hd:Vals dvs ds)(hx:Ar CX X pins σ E)
 (I:Inv X pins σ H s) (r:Vals vs us) (h:sp (vs++dvs) H Q E):wpAny (model X.prog X.w) X.A (call (.ref f) us) (EP X pins σ Q) X.xe s:=by
 have r2:Vals (vs++dvs) (us++ds):=r.append hd;have hl:(us++ds).length=ps.length:=by rw[<- r2.length];exact F.len _ _ _ _ h
 refine wpAny_call (codeAny_mono (F.run X.A X.stack s H ⟨us,[]⟩ (us++ds) (vs++dvs) Q E hr I.env0 (hb s us I.kIn hl) r2 h) λr s' hq=>?_);cases r with
 |error e=>exact hx H s e s' I hq
 |ok fl =>
  cases fl with
  |ret u=>exact I.after hq
  |next=>exact False.elim hq
  |brk=>exact False.elim hq
  |cont=>exact False.elim hq
end
abbrev cxH(X:Cx)(ea:Addr)(oe:Obj):Cx:={ X with A:=X.A.mark (some (.ref ea)),calm:=false,pn:=(ea,oe)::X.pn,xe:=λ_ _=>False }
section
variable {X:Cx}{pins:List (Addr×Obj)}{σ:St}{H:Hp}{s:Shared}{ea:Addr}{oe:Obj}
theorem Inv.held(I:Inv X pins σ H s)(he:s.heap.get? ea=some oe)(hn:H ea=none)(hL:ea≠X.env.locals)(hf:ea∉X.fs)(hd:∀v,oe.data≠.cell v):Inv (cxH X ea oe) pins σ H s:=by
 have ok:=I.ok
 exact⟨⟨ok.mod,ok.kind,ok.glob,ok.blt,ok.above,ok.inj,ok.has,ok.cab,(λz=>nomatch z),ok.frames,ok.stk,ok.exf,ok.bs,ok.bsz,ok.noex,ok.exfs,ok.funs,ok.frf⟩,I.os,I.bare,I.base,I.loc,I.cell,I.free,I.freeC,
  λp hp=>by
   rcases Nd.mp hp with rfl |hp
   ·exact⟨he,hn,hL,hf,hd⟩
   ·exact I.pin p hp,I.hok,I.len⟩
theorem Inv.unheld(ok:X.Ok)(I:Inv (cxH X ea oe) pins σ H s):Inv X pins σ H s :=
 ⟨ok,I.os,I.bare,I.base,I.loc,I.cell,I.free,I.freeC,λp hp=>I.pin p (M8 _ hp),I.hok,I.len⟩
theorem sC{M:Model}{A:Around}{E:Value->Shared->Prop}{i:Nat}{x:Str}{pos:Pos}{Q:Unit->Shared->Prop}(I:Inv X pins σ H s)(hN:X.N.Nodup)(hi:X.N[i]?=some x)(hk:X.env.scope.names.lookup x=some .local)
 (h:∀s',Inv X pins (σ.set i none) H s'->Q () s'):wpAny M A (do bindName X.env x .none;unbindBehindTheSuite X.env x pos) Q E s:=by
 obtain⟨m,hn,hl⟩:=id I.loc;have hcls:(X.env.scope.kind == .class || (X.env.scope.kind == .module&&X.env.locals != X.env.globals))=false:=by rw[I.ok.kind];rfl
 have hiσ:i<σ.length:=by rw[I.len];exact(List.getElem?_eq_some_iff.mp hi).1
 have cne:=I.cne
 have tracked:∀{a:Addr} {h':Heap},(∃o,s.heap.get? a=some o/\H a=none)->Heap.SameBut a s.heap h'->HOk X.prog X.w H h':=λ{a h'} ha hs b ob e=>by
  obtain⟨_,_,hfree⟩:=ha;refine(I.hok b ob e).stay (λc w' hc q=>(hs.2 c ?_).trans q) (λ_ q=>q) λ_ _ q=>q
  rintro rfl;rcases hc with rfl |hc
  ·rw[hfree]at e;cases e
  ·rw[hfree]at hc;cases hc
 refine wpAny_nameGoes_keeps hk hn hcls λh' v hn' hs=>?_
 obtain⟨oL,_,_,hoL,_⟩:=id hn;refine h _ ⟨I.ok,I.os,I.bare,⟨λb o e n hb hx=>?_,λb o e n hb hx=>?_,I.base.free,λb o e hx=>?_,I.base.tups,I.base.frzs,I.base.tbls⟩,⟨_,hn',λj y v' e1 e2 e3=>?_⟩,λy c e=>?_,I.free,I.freeC,λp hp=>?_,tracked ⟨oL,hoL,I.free⟩ hs,by simpa using I.len⟩
 ·exact(hs.2 b (Ng (Nl (Heap.lt_size e) I.ok.above))).trans (I.base.keep b o e n hb hx)
 ·obtain⟨sl,e1⟩:=I.base.slot b o e n hb hx;exact⟨sl,(hs.2 b (Ng (Nl (Heap.lt_size e) I.ok.above))).trans e1⟩
 ·obtain⟨o',e1⟩:=I.base.there b o e hx;exact⟨o',(hs.2 b (Ng (Nl (Heap.lt_size e) I.ok.above))).trans e1⟩
 ·by_cases hj:j=i
  ·subst hj;rw[List.getElem?_set_self hiσ]at e2;cases e2
  ·rw[List.getElem?_set_ne (Ne.symm hj)]at e2;obtain⟨u',r',q⟩:=hl j y v' e1 e2 e3;refine⟨u',r',?_⟩;rcases q with⟨k,e⟩ |⟨k,c,e,z⟩
   ·refine .inl ⟨k,?_⟩;have:y≠x:=λe=>hj (rp hN e1 (e ▸ hi))
    simp[this,e]
   ·exact .inr ⟨k,c,e,z.sameBut hs (cne y c e)⟩
 ·obtain⟨w',z⟩:=I.cell y c e;exact⟨w',z.sameBut hs (cne y c e)⟩
 ·obtain⟨e,n,ne,nf,d⟩:=I.pin p hp;exact⟨(hs.2 p.1 ne).trans e,n,ne,nf,d⟩
theorem oZ(I:Inv (cxH X ea oe) pins σ H s):s.heap.get? ea=some oe:=(I.pin (ea,oe) (Na ..)).1
end
section
variable {X:Cx}{k:Nat}{f C R:Addr}{fd:FuncData}{ps:List Str}{sp:Sp}{dvs:List V}{ds:List Value}{m r n:Str}{pos apos cpos epos np hpos:Pos}{e o:Expr}{es:List Expr}{ta:TE}{t:TA}{i:Nat}{b₀:Stmt}{suite:List Stmt}{th:Addr->Obj->TS}
end
open PySem PySem.Spec PyProof.Rows PySem.W PySem.Calls PySem.Builtin PySem.Builtin.ObjectAttr PySem.Builtin.Getset_descriptor
section
variable {prog:Program}{w:World}{A:Around}{E:Value->Shared->Prop}{s:Shared}{K:Frag}{x D:Addr}{M:Model}{h:Heap}
theorem JS{a g:Value}{name:Str}(X:K.In h)(ha:findIn K (.ref D) name=some (some a))(hg:specialIn K a "__get__"=some (some g))(ht:takesIn K a=some true):Looks M h (find (.ref x) (.ref D) name) (.bind g a):=by have L1:=looks_findIn (M:=M) X ha;have L2:Looks M h (getOf (some a)) (some g):=looks_specialIn X hg;have L3:=looks_takesIn (M:=M) X ht;exact L1.andThen (L2.andThen ((show Looks M h (dataDescriptor? (some a) (some g)) (some (g,a))from L3.andThen .now).andThen (Looks.tag .now)))
theorem JT{R:Result->Shared->Prop}{tp:Value}(X:K.In s.heap)(L0:Looks (model prog w) s.heap (typeOf (.ref x)) (.ref D))(hm:mroIn K D (.type "object")=some true)
 (h:R (.ok (.ret (.ref D))) s):codeAny (model prog w) A (.call (.builtin "getset_descriptor.__get__") ⟨[.builtin "object.__class__",.ref x,tp],[]⟩) R s:=by
 obtain⟨hh,g,dr,t,os⟩:=s;have L1:=looks_mroIn (M:=model prog w) X hm;refine codeAny_call_builtin KF.slot_gs.plain KF.entry_gs (KF.slot_gs.check _ _ _ _ _ _ _ _ KF.type_class (KF.args_gs _ _ _) ?_);unfold Builtin.«getset_descriptor.__get__» descrGet;rw[dga_obj];refine wpAny_bind (wpAny_pure ?_);unfold descrGetter descrCheckInstance descrNameAndClass isInstance;simp only[KF.owner_class]
 repeat lk
 refine⟨Code.quiet_builtin _ (by decide +kernel),codeAny_builtin KF.entry_class ?_⟩;unfold Builtin.«object.__class__» shownTypeOf
 repeat lk
 exact h
theorem zi{nameV:Value}{Q:Unit->Shared->Prop}{g:Array GenState}{d:Drawn}{t:Nat}{os:OsState}(X:K.In h)(LT:Looks M h (typeOf (.ref x)) (.ref D))(hmB:mroIn K D (.type "BaseException")=some true)(hq:Q () ⟨h,g,d,t,os⟩) :
 wpAny M A (checkBuiltinCall "BaseException.__getattribute__" ⟨[.ref x,nameV],[]⟩) Q E ⟨h,g,d,t,os⟩:=by
 have hk:builtinKind "BaseException.__getattribute__"=some .slot:=by decide +kernel
 have hsplit:splitId "BaseException.__getattribute__"=some ("BaseException","__getattribute__"):=by decide +kernel
 have ha:=F.args_bexc_ga (.ref x) nameV;have LI:Looks M h (isInstance (.ref x) (.type "BaseException")) true:=LT.andThen (looks_mroIn X hmB);simp only[checkBuiltinCall,hk,hsplit];refine wpAny_bind (LI.at ?_)
 repeat (first |assumption |wp_step)
theorem JU{Q:Option Value->Shared->Prop}(hga:findIn K (.ref D) "__getattribute__"=some (some (.builtin "BaseException.__getattribute__")))(hgn:findIn K (.ref D) "__getattr__"=some none)(hmB:mroIn K D (.type "BaseException")=some true)(ha:findIn K (.ref D) "__class__"=some (some (.builtin "object.__class__")))
 (hn:specialIn K (.builtin "object.__class__") "__get__"=some (some (.builtin "getset_descriptor.__get__"))) (htk:takesIn K (.builtin "object.__class__")=some true) (hm:mroIn K D (.type "object")=some true)
 (X:K.In s.heap) (LT:Looks (model prog w) s.heap (typeOf (.ref x)) (.ref D)) (h:Q (some (.ref D)) { s with toks:=s.toks+1 }):wpAny (model prog w) A (getAttr? (.ref x) "__class__") Q E s:=by
 obtain⟨hh,g,d,t,os⟩:=s;have L1:=looks_findIn (M:=model prog w) X hga;have LF:Looks (model prog w) hh (find (.ref x) (.ref D) "__class__") (.bind (.builtin "getset_descriptor.__get__") (.builtin "object.__class__")):=JS X ha hn htk;have L2:=looks_findIn (M:=model prog w) X hgn;have f3:=F.excAttr_ValueError.ga.bind (.ref x);have hx2:(Value.builtin "BaseException.__getattribute__" == Value.builtin "object.__getattribute__")=false:=by decide +kernel
 have hx1:(onTheHeap (Value.ref D)&&Value.builtin "BaseException.__getattribute__" == Value.builtin "object.__getattribute__")=false:=by rw[hx2];rfl
 unfold getAttr? getAttrBy? getAttrBy;refine wpAny_bind (wpAny_mkText (wpAny_bind (wpAny_attempt (wpAny_holding (wpAny_bind (LT.at (wpAny_bind (L1.at ?_))))))));dsimp only
 rw[if_neg (by rw[hx1];exact NU)];unfold getAttrByItsOwn
 repeat (any_goals (first |assumption | (with_reducible refine wpAny_bind (L2.at ?_)) | (with_reducible refine L2.at ?_) |wp_step))
 refine codeAny_call_builtin F.excAttr_ValueError.ga.plain F.entry_bexc_ga (zi X LT hmB ?_)
 repeat (any_goals (first |assumption | (with_reducible refine wpAny_bind (LT.at ?_)) | (with_reducible refine LT.at ?_) | (with_reducible refine wpAny_bind (LF.at ?_)) | (with_reducible refine LF.at ?_) |wp_step))
 refine JT X LT hm ?_
 repeat (any_goals (first |assumption |wp_step))
theorem GP{oe:Obj}(hc:oe.cls=.ref D)(hcl:(clsIn K D).isSome=true)(hga:findIn K (.ref D) "__getattribute__"=some (some (.builtin "BaseException.__getattribute__")))(hgn:findIn K (.ref D) "__getattr__"=some none)(hmB:mroIn K D (.type "BaseException")=some true)(ha:findIn K (.ref D) "__class__"=some (some (.builtin "object.__class__")))
 (hn:specialIn K (.builtin "object.__class__") "__get__"=some (some (.builtin "getset_descriptor.__get__"))) (htk:takesIn K (.builtin "object.__class__")=some true) (hm:mroIn K D (.type "object")=some true) :
 KitX K (.ref x) (.ref D) (λh=>h.get? x=some oe) where
 ty:=λ_ _ _ I=>hc ▸ (Looks.ld I).andThen .now
 it:=λ_ _ X _=>by
  obtain⟨cdD,hcD⟩:=OM.mp hcl;unfold clsIn at hcD
  split at hcD
  ·rename_i c' d' cd' sl' ho
   intro A' Q' E' s' k q;unfold isType loadHead;exact wpAny_bind (wpAny_loadPart (k _ _ (X _ _ ho)) (wpAny_pure q))
  ·cases hcD
 ne:=λh tp dd its n sl X htp=>by
  obtain⟨cdD,hcD⟩:=OM.mp hcl;refine Bool.eq_false_iff.mpr λq=>?_
  have e:D=tp:=Value.ref.inj (beq_iff_eq.mp q);subst e;unfold clsIn at hcD
  split at hcD
  ·rename_i c' d' cd' sl' ho
   have z:=(X _ _ ho).symm.trans htp;cases z
  ·cases hcD
 ca:=λX I k=>JU hga hgn hmB ha hn htk hm X (hc ▸ (Looks.ld I).andThen .now) k
end
theorem zJ{K:PySem.W.Frag}{C:Addr}{b:Value}{k:Bool}(h:mroIn K C b=some k):(clsIn K C).isSome=true:=by
 unfold mroIn at h
 cases e:clsIn K C with
 |none=>rw[e]at h;cases h
 |some _=>rfl
structure ECls(K:PySem.W.Frag)(D:Addr):Prop where
 cl:(clsIn K D).isSome=true
 ga:findIn K (.ref D) "__getattribute__"=some (some (.builtin "BaseException.__getattribute__"))
 gn:findIn K (.ref D) "__getattr__"=some none
 mB:mroIn K D (.type "BaseException")=some true
 ha:findIn K (.ref D) "__class__"=some (some (.builtin "object.__class__"))
 hn:specialIn K (.builtin "object.__class__") "__get__"=some (some (.builtin "getset_descriptor.__get__"))
 ht:takesIn K (.builtin "object.__class__")=some true
 hm:mroIn K D (.type "object")=some true
noncomputable def kx(lo:Int)(n:Nat):It:=⟨λi _=>i<n,λi H x H'=>H'=H/\x=.int (lo+i * -1),λi _=>n<=i⟩
theorem AW{P:Program}{w:World}{K:PySem.W.Frag}{tg:Expr}(it:Addr)(lo:Int)(n:Nat):Turn P w K tg (kx lo n) [it] it (λi h=>IsRangeIter h it (lo+(i:Nat) * -1) ((n:Int)-(i:Nat)) (-1)) where
 mem:=by simp
 obj:=λi h st b hb=>by
  have e:b=it:=by simpa using hb
  subst e
  exact⟨_,st,λv z=>by
   have z':Data.fields _=Data.cell v:=z
   cases z'⟩
 keep:=λi h h' st k=>k it (by simp) _ st
 item:=by
  intro X hP hw hK hc i pins s σ H E I hf st hg;subst hP hw hK;obtain⟨f0,f1,f2,f3,f4,f5⟩:=hf it (by simp);have W:=Walks.range (prog:=X.prog) (w:=X.w) (I.ok.hd hc) it lo (-1) n;refine W.item i s _ _ hg st λv h' tk hv st' kk=>?_
  obtain⟨t,rfl⟩:=hv;have I1:Inv X pins σ H { s with heap:=h',toks:=tk }:=I.turned (λb o hb e=>kk b o (by simpa using hb) e) f0 f1 f3 f4 f5;exact⟨_,rfl,lR (s:={ s with heap:=h',toks:=tk }) (n:="range_iterator") st' rfl rfl (by decide) ⟨.int (lo+i * -1),H,I1,⟨t,rfl⟩,⟨rfl,rfl⟩,st',λb hb=>(hf b hb).1⟩⟩
 done:=by intro X hP hw hK hc i pins s σ H E I hf st hg;subst hP hw hK;obtain⟨f0,f1,f2,f3,f4,f5⟩:=hf it (by simp);exact wpAny_pyNext_range_end (I.ok.hd hc) st (by have:n<=i:=hg;omega) λh' eb=>⟨rfl,I.turned (t':=s.toks) (λb o hb e=>eb b o hb e) f0 f1 f3 f4 f5⟩
 self:=λ_ _ _ _ _ st h=>wpAny_pyIter_rangeiter st h
theorem wH(a b:Int):Builtin.Range.rangeSize a b (-1)=if b<a then a-b else 0:=by unfold Builtin.Range.rangeSize;rw[if_neg (by decide)];show(if a>b then(a-b-1)/1+1 else 0)=_;rw[Int.ediv_one];split<;>omega
theorem BG{a b:Int}(ha : -(2^61)<=a)(ha':a<2^61)(hb : -(2^61)<=b)(hb':b<2^61):Builtin.Range.small a b (-1)=true:=by unfold Builtin.Range.small;rw[wH];simp only[Builtin.Range.rangeFitsLong,OE,Bool.or_eq_true,decide_eq_true_eq,beq_iff_eq,show ¬((-1:Int)>0) by decide,if_false];split<;>omega
section
variable {X:Cx}{tg:Expr}
theorem Dg{pins:List (Addr×Obj)}{σ:St}{H:Hp}{s:Shared}{R:It->Hp->Prop}{E:Value->Shared->Prop}{lo hi:Int}{t u v:Tok}{tk:Nat}(I:Inv X pins σ H s)(h1 : -(2^61)<=lo)(h2:lo<2^61)(h3 : -(2^61)<=hi)(h4:hi<2^61)
 (q:R (kx lo (lo-hi).toNat) H):wpAny (model X.prog X.w) X.A (pyIter (.ref s.heap.objs.size)) (PIE X pins σ tg R) E { s with heap:=s.heap.push { cls:=.type "range",data:=.fields #[.int lo t,.int hi u,.int (-1) v] },toks:=tk }:=by
 refine wpAny_pyIter_range (IsRange.new ..) (BG h1 h2 h3 h4) ?_;have I1:Inv X pins σ H { s with heap:=s.heap.push { cls:=.type "range",data:=.fields #[.int lo t,.int hi u,.int (-1) v] },toks:=tk }:=I.kept λb o e=>Heap.get?_push_of_some _ e
 refine⟨(s.heap.push { cls:=.type "range",data:=.fields #[.int lo t,.int hi u,.int (-1) v] }).objs.size,[(s.heap.push { cls:=.type "range",data:=.fields #[.int lo t,.int hi u,.int (-1) v] }).objs.size],_,_,H,rfl,
  I1.kept (t':=tk) λb o e=>Heap.get?_push_of_some _ e,AW _ lo (lo-hi).toNat,?_,λb hb=>?_,q⟩
 ·have e1:lo+((0:Nat):Int) * -1=lo:=by simp
  have e2:(((lo-hi).toNat:Nat):Int)-((0:Nat):Int)=Builtin.Range.rangeSize lo hi (-1):=by rw[wH];split<;>omega
  show IsRangeIter _ _ (lo+((0:Nat):Int) * -1) ((((lo-hi).toNat:Nat):Int)-((0:Nat):Int)) (-1);rw[e1,e2];exact Heap.get?_push_size _ rfl
 ·have e:b=(s.heap.push { cls:=.type "range",data:=.fields #[.int lo t,.int hi u,.int (-1) v] }).objs.size:=by simpa using hb
  subst e;exact I1.fpOk (M0 _) (I1.hok.fresh (M0 _))
def HA(ta:TA):TI:=λσ H R=>ta σ H λvs H1=>∃i j:Int,vs=[.int i,.int j,.int (-1)]/\(-(2^61)<=i/\i<2^61 /\ -(2^61)<=j/\j<2^61)/\R (kx i (i-j).toNat) H1
theorem xh{a b c:Expr}{ta:TA}{p pos:Pos}(hg:Gl X "range")(hm:X.mg "range"=none)(ha:PA X [a,b,c] ta)(hs:starEach [a,b,c] X.env=[(false,eval a X.env),(false,eval b X.env),(false,eval c X.env)]:=by rfl)(hs2:starEach [b,c] X.env=[(false,eval b X.env),(false,eval c X.env)]:=by rfl) :
 PI X tg (.Call (.Name "range" p) [a,b,c] [] pos) (HA ta):=by
 intro pins s σ H R I h;refine Call_ (eR I hg hm boot_range (PyProof.Rows.callWith_type1 (thn (ha pos pins s σ H _ I h) λus s1 ⟨vs,H1,I1,r1,q1⟩=>?_) (by rw[hs,hs2]) (by rw[hs2];rfl)));obtain⟨i,j,e,⟨q1,q2,q3,q4⟩,q⟩:=q1;subst e;cases r1 with
 |cons r rr =>
  cases rr with
  |cons r' rr =>
   cases rr with
   |cons r'' rr =>cases rr;obtain⟨t,rfl⟩:=r;obtain⟨t',rfl⟩:=r';obtain⟨t'',rfl⟩:=r'';exact call_range_3 (by decide) (Dg I1 q1 q2 q3 q4 q) (Or.inl (PyProof.noPylong_small (by decide)))
end
theorem yZ{lo:Int}{n:Nat}{g:TG}{tb:TS}{D:Ends}{σ:St}{H:Hp}(Pv:Nat->St->Hp->Prop)(h0:Pv 0 σ H)
 (hs:∀i σ H,i<n->Pv i σ H->g (.int (lo+i * -1)) σ H λσ2 H2=>tb { D with nx:=Pv (i+1),ct:=Pv (i+1),bk:=D.nx } σ2 H2) (hd:∀σ H,Pv n σ H->D.nx σ H) :
 ∃W:Nat->Nat->St->Hp->Prop,(∃m,W 0 m σ H)/\∀i m σ H,W i m σ H ->
  ((kx lo n).stop i H/\D.nx σ H)\/((kx lo n).go i H/\∃N:St->Hp->Prop,(∀σ' H',N σ' H'->∃m',m'<m/\W (i+1) m' σ' H')/\∀x H',(kx lo n).yld i H x H'->g x σ H' λσ2 H2=>tb { D with nx:=N,ct:=N,bk:=D.nx } σ2 H2):=by
 refine⟨λi m σ H=>m=n-i/\i<=n/\Pv i σ H,⟨n,by simp,M9 _,h0⟩,?_⟩;rintro i m σ H ⟨rfl,hi,p⟩;by_cases hlt:i<n
 ·refine .inr ⟨hlt,Pv (i+1),λσ' H' p'=>⟨n-(i+1),by omega,rfl,hlt,p'⟩,λx H' y=>?_⟩;obtain⟨e,y⟩:=y;subst e y;exact hs i σ _ hlt p
 ·have e:i=n:=by omega
  subst e;exact .inl ⟨M0 _,hd σ H p⟩
theorem wA:∀{ps:List Addr} {us:List Value},Vals (ps.map V.ref) us->us=ps.map Value.ref
 | [],_,h=>by cases h;rfl
 |p::ps,_,h=>by
  cases h with
  |cons r rr =>cases r;rw[wA rr];rfl
section
variable {X:Cx}{K:PySem.W.Frag}
end
theorem GN{P:Program}{w:World}{K:PySem.W.Frag}{mg mb:Str->Option Value}{CX:CXT}{k:Nat}{fa a:Addr}{fd:FuncData}{x:Str}{sp:Sp}{s₁:Shared}{vs:List Value}{ns:List Int}
 (KX:K.In s₁.heap) (hns:s₁.heap.Ns mainGlobals mg) (hb:s₁.heap.Ns builtinsNs mb) (hbb:∀x:Str,x≠"__name__"->mb x=bootBuiltins x) (hlim:s₁.heap.NoLimit) (hse:s₁.heap.NoSeer) (hg:s₁.gens=#[])
 (ha:s₁.heap.get? a=some { cls:=.type "list",data:=.seq vs.toArray }) (hi:IntsAre vs ns) (hl:ns.length<=sizeLine) (hr:Room k callerA)
 (F:∀base:Heap,K.In base->base.Ns mainGlobals mg->base.NoSeer->FnOk P w K mg base CX k fa fd [x] sp) (hbind:∀(s:Shared) (u:Value),BindsTo s fd ⟨[u],[]⟩ [(x,u)])
 (hsp:∀H:Hp,uF H->SqL K H a (ns.map V.int)->sp [.ref a] H (λv _=>v=.bl true) λ_ _ _=>False)
 (hCX:∀H e s',CX [] H s₁ (λ_ _ _=>False) e s'->False) :
 codeAny (model P w) callerA (.call (.ref fa) ⟨[.ref a],[]⟩) (λr s'=>r=.ok (.ret (.bool true))/\OldK s₁.heap s'.heap/\s'.os=s₁.os/\AllBare s'.gens) s₁:=by
 have rv:=vo hi;have lenV:=hi.length
 have core:∀H:Hp,uF H->SqL K H a (ns.map V.int)->HOk P w H s₁.heap->(∀b,H b≠none->b=a)->(H a≠none->K.lookup a=none) ->
  codeAny (model P w) callerA (.call (.ref fa) ⟨[.ref a],[]⟩) (λr s'=>r=.ok (.ret (.bool true))/\OldK s₁.heap s'.heap/\s'.os=s₁.os/\AllBare s'.gens) s₁:=by
  intro H hO hS hok hA hK;have base_of:∀{b:Addr} {o:Obj},s₁.heap.get? b=some o->H b=none->(dR s₁.heap H).get? b=some o:=λe n=>HI e n
  have noA:∀{b:Addr} {o:Obj} {es:Array DictEntry} {ep:Nat},s₁.heap.get? b=some o->o.data=.dict es ep->H b=none:=λ{b o es ep} e d=>by
   cases q:H b with
   |none=>rfl
   |some u =>have e':b=a:=hA b (by rw[q];simp);subst e';rw[ha]at e;cases e;have d':Data.seq vs.toArray _=Data.dict es ep:=d;cases d'
  have nsK:∀{b:Addr} {m:Str->Option Value},s₁.heap.Ns b m->(dR s₁.heap H).Ns b m:=λ{b m} ⟨o,es,ep,e,d,r⟩=>⟨o,es,ep,base_of e (noA e d),d,r⟩
  have hKb:K.In (dR s₁.heap H):=λb o e=>base_of (KX b o e) (by
   cases q:H b with
   |none=>rfl
   |some u =>
    have e':b=a:=hA b (by rw[q];simp);subst e'
    rw[hK (by rw[q];simp)]at e;cases e)
  have hM:Mod K mg (dR s₁.heap H):=⟨hKb,nsK hns,⟨mb,nsK hb,hbb⟩,let⟨mc,h1,h2⟩:=hlim;⟨mc,nsK h1,h2⟩⟩
  have hSb:(dR s₁.heap H).NoSeer:=by
   obtain⟨⟨mc,c1,c2,c3⟩,⟨mm,m1,m2⟩,⟨mb',b1,b2⟩,⟨mg',bm,ob,g1,g2,g3,g4,g5⟩⟩:=hse;refine⟨⟨mc,nsK c1,c2,c3⟩,⟨mm,nsK m1,m2⟩,⟨mb',nsK b1,b2⟩,⟨mg',bm,ob,nsK g1,g2,base_of g3 ?_,g4,g5⟩⟩;cases q:H bm with
   |none=>rfl
   |some u =>have e':bm=a:=hA bm (by rw[q];simp);rw[e',ha]at g3;cases g3;exact absurd (Value.type.inj g4) (by decide)
  have e0:Env0 P w K mg (dR s₁.heap H) callerA [] s₁ H:=⟨rfl,hM,λb o e=>Fl e,Of (HH _ _),trivial,λb hb=>absurd (show b∈([]:List Addr)from hb) (by simp),hok,.of_eq hg⟩;refine codeAny_mono ((F _ hKb (nsK hns) hSb).run callerA [] s₁ H ⟨[.ref a],[]⟩ [.ref a] [.ref a] _ _ hr e0 (hbind s₁ (.ref a)) (.cons rfl .nil) (hsp H hO hS)) λr s' h=>?_
  cases r with
  |error e=>exact(hCX H e s' h).elim
  |ok fl =>
   cases fl with
   |next=>exact False.elim h
   |brk=>exact False.elim h
   |cont=>exact False.elim h
   |ret u =>
    obtain⟨v,H',os,bare,un,hok',r',q⟩:=h;have q':v=.bl true:=q;subst q';obtain rfl:u=Value.bool true:=r';refine⟨rfl,OldK.of_keep λb o e=>?_,os,bare⟩;cases q:H b with
    |none=>exact un.keep b o e q (by intro z;exact absurd (show b∈([]:List Addr)from z) (by simp)) (by simp)
    |some u =>
     rcases hO b with z |⟨ob,xs,z⟩
     ·rw[q]at z;cases z
     ·have z2:=un.frzs b ob _ z;obtain⟨e1,_⟩:=hok b _ z;obtain⟨e2,_⟩:=hok' b _ z2;rw[e]at e1;cases e1;exact e2
 cases hk:K.lookup a with
 |some o =>have e:=KX a o hk;rw[ha]at e;cases e;refine core (λ_=>none) (λ_=>.inl rfl) (.inr ⟨_,vs.toArray,_,hk,rfl,rfl,rfl,by rw[Np,lenV];exact hl,by simpa using rv⟩) (λb u z=>by have z':(none:Option HO)=some u:=z;cases z') (λb z=>absurd rfl z) λz=>absurd rfl z
 |none =>
  refine core (λb=>if b=a then some (.frz { cls:=.type "list",data:=.seq vs.toArray } (.lst (ns.map V.int)))else none) (λb=>?_) (.inl (.inr ⟨{ cls:=.type "list",data:=.seq vs.toArray },if_pos rfl⟩)) (λb u z=>?_) (λb z=>?_) λ_=>hk
  ·by_cases hb:b=a
   ·exact .inr ⟨_,_,if_pos hb⟩
   ·exact .inl (if_neg hb)
  ·by_cases hb:b=a
   ·have z':=(if_pos hb).symm.trans z;cases z';subst hb;exact⟨ha,by rw[MZ];exact hl,vs,_,rv,ha⟩
   ·have z':=(if_neg hb).symm.trans z;cases z'
  ·by_cases hb:b=a
   ·exact hb
   ·exact absurd (if_neg hb) z
theorem walk_ofS{l:PySem.W.OpenLaw}{n k:Nat}{q:Program}{loose:List Str}{XP:(Str->Option Value)->Heap->Prop}{YP:World->Heap->Prop}{d:DefRec}{K:Params->PySem.W.Frag}{CX:World->CXT}{sp:World->Sp}{x:Str}
 (hi:PyProof.Rows.importsNone q=true) (hn:l.most=some n) (hn2:n<=sizeLine) (hdf:d.params.defaults=[]) (hr:Room k callerA)
 (hY:∀(w:World) (h:Heap),YP w h->(K w.params).In h)
 (F:∀(w:World) (mg:Str->Option Value) (fa:Addr) (h:Heap),(K w.params).In h->h.Ns mainGlobals mg->mg d.name=some (.ref fa) ->
   ∃fd:FuncData,(∀(s:Shared) (u:Value),BindsTo s fd ⟨[u],[]⟩ [(x,u)]) /\
    ∀base:Heap,(K w.params).In base->base.Ns mainGlobals mg->base.NoSeer->FnOk l.prog w (K w.params) mg base (CX w) k fa fd [x] (sp w))
 (hsp:∀(w:World) (H:Hp) (a:Addr) (ns:List Int),ns.length<=n->uF H->SqL (K w.params) H a (ns.map V.int)->sp w [.ref a] H (λv _=>v=.bl true) λ_ _ _=>False)
 (hCX:∀(w:World) (H:Hp) (s:Shared) (e:Value) (s':Shared),CX w [] H s (λ_ _ _=>False) e s'->False) :
 PySem.W.WalkO q loose XP YP l.row.toRowW d [] (λf vs=>PySem.call f vs):=by
 refine Att.attach_call hn hdf λw s₀ s₁ mg mb fa o pm cd doc a vs ns G Y ho hd hcd hmg hobj hints hlen hg=>?_
 have KX:=hY w _ Y;obtain⟨fd,hb,hF⟩:=F w mg fa _ KX G.T.g hmg;exact GN KX G.T.g G.T.b G.T.builtins G.T.nolimit (G.T.seer hi) hg hobj hints (Nb hlen hn2) hr hF hb (λH hO hS=>hsp w H a ns hlen hO hS) λH e s'=>hCX w H s₁ e s'
section
variable {X:Cx}{e:Env}{l:List Env}
theorem CW{pins:List (Addr×Obj)}{σ:St}{H:Hp}{s:Shared}(hs:X.base.NoSeer)(ht:X.prog.given.tree=none)(hd:X.A.depth+100<recursionLimit)(hst:X.stack=e::l)(h1:e.scope.isGenerator=false)(h2:e.scope.isCoroutine=false)(h3:e.builtins=builtinsNs)(h4:e.globals=mainGlobals)(I:Inv X pins σ H s):PylongRoom (model X.prog X.w) X.A s :=
 PylongRoom.of (I.ok.mod.nolimit.keeps I.bk) hd (SeerAt.of (hs.keeps I.bk) ht (by rw[I.ok.frames,hst]) h1 h2 h3 h4)
theorem D3(hs:X.base.NoSeer)(ht:X.prog.given.tree=none)(hd:X.A.depth+100<recursionLimit)(hst:X.stack=e::l)(h1:e.scope.isGenerator=false)(h2:e.scope.isCoroutine=false)(h3:e.builtins=builtinsNs)(h4:e.globals=mainGlobals):OpR X (binaryOp .FloorDiv) (rI (λ_ j=>0<j) λi j=>.int (i/j)):=by intro pins s σ H x y v u Q I rx ry h;obtain⟨i,j,rfl,rfl,hj,q⟩:=h;obtain⟨t,rfl⟩:=rx;obtain⟨t',rfl⟩:=ry;have hj':(0:Int)<j:=hj;refine floordiv_int (Ny hj') ?_ (.inr (CW hs ht hd hst h1 h2 h3 h4 I));rw[Int.fdiv_eq_ediv_of_nonneg _ (M7 hj')];exact⟨.int (i/j),H,I.tok _,⟨_,rfl⟩,q⟩
end
theorem Li(a v:Value):argsOk "max" ⟨[a],[(Str.ofString "default",v)]⟩:=by unfold argsOk;kernel_rfl
def Top(val:Nat->Int)(n:Nat)(M:Int):Prop:=(∃i,i<n/\val i=M)/\∀i,i<n->val i<=M
theorem Top.more{val:Nat->Int}{n:Nat}{M:Int}(h:Top val n M)(hn:val n>M):Top val (n+1) (val n) :=
 ⟨⟨n,by omega,rfl⟩,λi hi=>by
   by_cases e:i=n
   ·subst e;exact NY _
   ·have:=h.2 i (by omega);omega⟩
theorem Top.less{val:Nat->Int}{n:Nat}{M:Int}(h:Top val n M)(hn:¬val n>M):Top val (n+1) M :=
 ⟨let⟨i,hi,e⟩:=h.1;⟨i,by omega,e⟩,λi hi=>by
  by_cases e:i=n
  ·subst e;omega
  ·exact h.2 i (by omega)⟩
section
variable {prog:Program}{w:World}{A:Around}{R:Result->Shared->Prop}{I S:Addr}{fp wr:List Addr}{n:Nat}{P:Nat->Value->Prop}{St:Nat->Heap->Prop}{val:Nat->Int}{d:Value}
theorem oF:(toString "max"++toString ".loop":String)="max.loop":=by decide
theorem FP(W:Walks prog w A.in1 I fp wr n P St)(hval:∀i v,P i v->∃t,v=.int (val i) t)(hSf:S∉fp) :
 ∀(k j:Nat) (s:Shared) (m:Int) (t:Tok) (c:Nat),n-j=k->j<=n->St j s.heap->Top val j m ->
 s.heap.get? S=some { cls:=.type "list",dict:=none,data:=.seq #[.int m t,.int m t] c,slots:=#[] } ->
 (∀M t h' tk,Top val n M->(∀b o,b∉wr->b≠S->s.heap.get? b=some o->h'.get? b=some o)->R (.ok (.ret (.int M t))) { s with heap:=h',toks:=tk }) ->
 codeAny (model prog w) A (.builtin "max.loop" ⟨[.ref I,.none,.ref S],[("default",d)]⟩) R s:=by
 have hSw:S∉wr:=λh=>hSf (W.sub _ h)
 have cm:=CmpOf.ints_gt (prog:=prog) (w:=w) (A:=A.in1) (P:=λi v=>∃t,v=.int (val i) t) val (λ_ _ h=>h);intro k
 induction k with
 |zero =>
  intro j s m t c hk hj hst hT hS hR;have hin:j=n:=by omega
  subst hin;refine codeAny_builtin F.entry_max_loop ?_;rw[Around.under_plainId F.plain_max_loop _];refine wpAny_bind (wpAny_seqItems hS rfl ?_);show wpAny _ A.in1 (tryCatch (pyNext (.ref I)) _ >>= _) _ _ s;refine wpAny_bind (wpAny_tryCatch (W.done s _ _ hst λh' tk hk'=>?_));show wpAny _ A.in1 (updateSeq S (λ_=>#[]) >>= _) _ _ _;refine wpAny_bind (wpAny_updateSeq (hk' S _ hSw hS) rfl (wpAny_bind (wpAny_letGo (wpAny_pure ?_))));exact hR m t _ tk hT λb o hb hbS e=>(Heap.get?_update_other _ _ (Ne.symm hbS)).trans (hk' b o hb e)
 |succ k ih =>
  intro j s m t c hk hj hst hT hS hR;have hlt:j<n:=by omega
  refine codeAny_builtin F.entry_max_loop ?_;rw[Around.under_plainId F.plain_max_loop _];refine wpAny_bind (wpAny_seqItems hS rfl ?_);show wpAny _ A.in1 (tryCatch (pyNext (.ref I)) _ >>= _) _ _ s;refine wpAny_bind (wpAny_tryCatch (W.item j s _ _ hlt hst λv h' tk hP hst' hk'=>?_));have hS':=hk' S _ hSw hS;obtain⟨u,rfl⟩:=hval j v hP;obtain⟨i0,_,e0⟩:=hT.1;show wpAny _ A.in1 (tryCatch (holding [_,_] (richCompare .Gt (.int (val j) u) (.int m t) >>= _)) _ >>= _) _ _ _;refine wpAny_bind (wpAny_tryCatch (wpAny_holding (wpAny_bind (cm j i0 _ _ _ _ _ ⟨u,rfl⟩ ⟨t,by rw[e0]⟩ ?_))));refine wpAny_bind (wpAny_holding (wpAny_truthy_bool ?_));refine wpAny_bind (wpAny_letGo (wpAny_pure ?_));show wpAny _ A.in1 (if decide (val j>val i0)=true then _ else _) _ _ _;rw[e0];by_cases hb:val j>m
  ·rw[decide_eq_true hb];simp only[if_true];refine wpAny_bind ?_;refine wpAny_updateSeq hS' rfl (wpAny_bind (wpAny_letGo ?_));rw[oF];refine wpAny_pure ⟨plainId_quiet F.plain_max_loop _,ih (j+1) _ (val j) u _ (by omega) hlt (W.frame _ _ _ hst' λb hbf o e=>?_) (hT.more hb) (Heap.get?_update_self _ hS' rfl) λM t' h'' tk'' hM hk''=>?_⟩
   ·exact(Heap.get?_update_other _ _ (λh:S=b=>hSf (h ▸ hbf))).trans e
   ·exact hR M t' h'' tk'' hM λb o hbw hbS e=>hk'' b o hbw hbS ((Heap.get?_update_other _ _ (Ne.symm hbS)).trans (hk' b o hbw e))
  ·rw[decide_eq_false hb];simp only[O3,if_false];refine wpAny_bind (wpAny_letGo ?_);rw[oF];refine wpAny_pure ⟨plainId_quiet F.plain_max_loop _,ih (j+1) _ m t c (by omega) hlt hst' (hT.less hb) hS' λM t' h'' tk'' hM hk''=>?_⟩;exact hR M t' h'' tk'' hM λb o hbw hbS e=>hk'' b o hbw hbS (hk' b o hbw e)
theorem FQ(W:Walks prog w A.in1 I fp wr n P St)(hval:∀i v,P i v->∃t,v=.int (val i) t)(hSf:S∉fp){s:Shared}{c:Nat}(hst:St 0 s.heap)
 (hS:s.heap.get? S=some { cls:=.type "list",dict:=none,data:=.seq #[] c,slots:=#[] })
 (h0:n=0->∀h' tk,(∀b o,b∉wr->b≠S->s.heap.get? b=some o->h'.get? b=some o)->R (.ok (.ret d)) { s with heap:=h',toks:=tk })
 (hR:∀M t h' tk,Top val n M->(∀b o,b∉wr->b≠S->s.heap.get? b=some o->h'.get? b=some o)->R (.ok (.ret (.int M t))) { s with heap:=h',toks:=tk }) :
 codeAny (model prog w) A (.builtin "max.loop" ⟨[.ref I,.none,.ref S],[("default",d)]⟩) R s:=by
 have hSw:S∉wr:=λh=>hSf (W.sub _ h)
 refine codeAny_builtin F.entry_max_loop ?_;rw[Around.under_plainId F.plain_max_loop _];refine wpAny_bind (wpAny_seqItems hS rfl ?_);show wpAny _ A.in1 (tryCatch (pyNext (.ref I)) _ >>= _) _ _ s;by_cases hn:n=0
 ·subst hn;refine wpAny_bind (wpAny_tryCatch (W.done s _ _ hst λh' tk hk'=>?_));refine wpAny_bind (wpAny_rule (wpAny_pure ?_));exact h0 rfl h' tk λb o hb _ e=>hk' b o hb e
 ·refine wpAny_bind (wpAny_tryCatch (W.item 0 s _ _ (by omega) hst λv h' tk hP hst' hk'=>?_));have hS':=hk' S _ hSw hS;obtain⟨u,rfl⟩:=hval 0 v hP;show wpAny _ A.in1 (updateSeq S (λ_=>#[.int (val 0) u,.int (val 0) u]) >>= _) _ _ _;refine wpAny_bind (wpAny_updateSeq hS' rfl ?_);rw[oF];refine wpAny_pure ⟨plainId_quiet F.plain_max_loop _,FP W hval hSf _ 1 _ (val 0) u _ rfl (by omega) (W.frame _ _ _ hst' λb hbf o e=>?_) ⟨⟨0,by omega,rfl⟩,λi hi=>?_⟩ (Heap.get?_update_self _ hS' rfl) λM t h'' tk'' hM hk''=>?_⟩
  ·exact(Heap.get?_update_other _ _ (λh:S=b=>hSf (h ▸ hbf))).trans e
  ·have:i=0:=by omega
   subst this;exact NY _
  ·exact hR M t h'' tk'' hM λb o hbw hbS e=>hk'' b o hbw hbS ((Heap.get?_update_other _ _ (Ne.symm hbS)).trans (hk' b o hbw e))
end
section
variable {prog:Program}{w:World}{A:Around}{E:Value->Shared->Prop}{s:Shared}{l:Addr}{xs:Array (Int×Tok)}{d:Value}
theorem Kn{Q:Value->Shared->Prop}(hh:A.handled=none)(hl:s.heap.IsList l (intItems xs))
 (h0:xs.size=0->∀h' tk,(∀b o,s.heap.get? b=some o->h'.get? b=some o)->Q d { s with heap:=h',toks:=tk })
 (h:∀M t h' tk,Top (numAt xs) xs.size M->(∀b o,s.heap.get? b=some o->h'.get? b=some o)->Q (.int M t) { s with heap:=h',toks:=tk }) :
 wpAny (model prog w) A (call (.builtin "max") [.ref l] [("default",d)]) Q E s:=by
 refine wpAny_call (codeAny_call_builtin F.plain_max F.entry_max ?_);simp only[checkBuiltinCall,F.kind_max]
 have key:wpAny (model prog w) A.in1 (Builtin.«max» ⟨[.ref l],[("default",d)]⟩) (λfin s'=>match fin with
  |.done f=>(match(Except.ok f:Result)with |.ok (.ret v)=>Q v s' |.ok _=>False |.error e=>E e s')
  |.again c'=>c'.quiet=true/\codeAny (model prog w) A c' (λr s'=>match r with |.ok (.ret v)=>Q v s' |.ok _=>False |.error e=>E e s') s') E s:=by
  show wpAny _ A.in1 (Builtin.Builtins.bindParams "max" ["key","default"] 0 ⟨[],[("default",d)]⟩ >>= _) _ _ s;refine wpAny_bind (wpAny_of_eq (show Builtin.Builtins.bindParams "max" ["key","default"] 0 ⟨[],[("default",d)]⟩=pure [none,some d]from rfl) ?_);refine wpAny_bind (wpAny_pure ?_);refine wpAny_bind (iter_intList hl λs₂ e st hfp hlI=>?_);subst e;refine wpAny_bind (wpAny_newObj_type ?_);rw[oF];have W:=Walks.list (prog:=prog) (w:=w) (A:=A.in1) hh _ l hlI (intItems xs);have sz:(intItems xs).size=xs.size:=by simp[intItems]
  refine wpAny_pure ⟨plainId_quiet F.plain_max_loop _,FQ W (val:=numAt xs) (λi v=>intItems_at) (λhm=>NI _ (hfp _ hm)) (W.frame _ _ _ st λb _ o e=>Heap.get?_push_of_some _ e) (Heap.get?_push_size _ rfl) (λhn h' tk hk=>?_) λM t h' tk hM hk=>?_⟩
  ·exact h0 (sz ▸ hn) h' tk (old_kept λb o hb e=>hk b o hb (Ng (Heap.lt_size e)) (Heap.get?_push_of_some _ e))
  ·exact h M t h' tk (sz ▸ hM) (old_kept λb o hb e=>hk b o hb (Ng (Heap.lt_size e)) (Heap.get?_push_of_some _ e))
 cases hsig:Manifest.signature? "max" with
 |none=>exact wpAny_pure key
 |some sig =>
  have ha':Bind.checkArgs "max" sig ⟨[.ref l],[("default",d)]⟩=pure ():=by simpa only[argsOk,hsig]using Li (.ref l) d
  simp only[ha'];exact wpAny_pure key
end
def wM(K:PySem.W.Frag):R2:=λx y H Q=>∃(p:Addr) (ns:List Int),x=.ref p/\SqL K H p (ns.map V.int)/\(ns=[]->Q y H)/\∀M,M∈ns->(∀a∈ns,a<=M)->Q (.int M) H
theorem yw:∀{ns:List Int} {us:List Value},Vals (ns.map V.int) us->∃ts:List (Int×Tok),us.toArray=intItems ts.toArray/\ts.map (·.1)=ns
 | [],_,h=>by cases h;exact⟨[],by simp[intItems],rfl⟩
 |n::ns,_,h=>by
  cases h with
  |cons r rr =>obtain⟨t,rfl⟩:=r;obtain⟨ts,e1,e2⟩:=yw rr;refine⟨(n,t)::ts,?_,by rw[Nx,e2]⟩;have e3:=congrArg Array.toList e1;simp only[intItems,List.map_toArray]at e3 ⊢;simpa using e3
theorem Be{ts:List (Int×Tok)}{M:Int}(h:Top (numAt ts.toArray) ts.toArray.size M):M∈ts.map (·.1)/\∀a∈ts.map (·.1),a<=M:=by
 have g:∀(i:Nat) (hi:i<ts.length),numAt ts.toArray i=(ts[i]).1:=λi hi=>by simp[numAt,hi]
 obtain⟨⟨i,hi,e⟩,h2⟩:=h;have hi':i<ts.length:=by simpa using hi
 constructor
 ·rw[<- e,g i hi'];exact Nc.mpr ⟨_,NZ hi',rfl⟩
 ·intro a ha;obtain⟨p,hp,rfl⟩:=Nc.mp ha;obtain⟨j,hj,rfl⟩:=OG hp;rw[<- g j hj];exact h2 j (by simpa using hj)
section
variable {X:Cx}{K:PySem.W.Frag}{e ed:Expr}{ta td:TE}{p pos kp:Pos}
theorem DN(hK:X.K=K)(hc:X.calm=true)(hg:Gl X "max")(hm:X.mg "max"=none)(ha:PE X e ta)(hd:PE X ed td)
 (he:starEach [e] X.env=(false,eval e X.env)::starEach [] X.env:=by rfl):PE X (.Call (.Name "max" p) [e] [⟨some "default",ed,kp⟩] pos) (tOp (wM K) ta td):=by
 subst hK;intro pins s σ H Q I h;refine wpAny_Call_Name_kw (eR I hg hm boot_max ?_ (by decide) (by decide));refine callWith_kw (thn (aa ha ac he pos pins s σ H (λvs H1=>match vs with | [x]=>td σ H1 λy H2=>wM X.K x y H2 Q |_=>False) I h) λus s1 ⟨vs,H1,I1,r1,q1⟩=>?_) (by rw[he];rfl) (by rw[he];rfl) rfl rfl
 obtain⟨x,rfl⟩:∃x,vs=[x]:=by
  match vs,q1 with
  | [x],_=>exact⟨x,rfl⟩
 obtain⟨u,rfl,ru⟩:=ix r1;refine kws_cons (thn (hd pins s1 σ H1 _ I1 q1) λv s2 ⟨y,H2,I2,ry,q2⟩=>kws_nil ?_);obtain⟨a,ns,rfl,hq,k0,k1⟩:=q2;cases ru;obtain⟨its,r',pl,hz⟩:=I2.list hq;obtain⟨ts,e1,e2⟩:=yw r';have il:=pl.isList;rw[e1]at il;refine Kn (I2.ok.hd hc) il (λh0 h' tk k=>⟨y,H2,I2.kept k,ry,k0 ?_⟩) λM t h' tk hM k=>⟨.int M,H2,I2.kept k,⟨t,rfl⟩,?_⟩
 ·have:ts=[]:=by simpa using h0
  rw[<- e2,this];rfl
 ·obtain⟨m1,m2⟩:=Be hM;rw[e2]at m1 m2;exact k1 M m1 m2
end
theorem zX:∀{bs:List Bool} {us:List Value},Vals (bs.map V.bl) us->us=bs.map Value.bool
 | [],_,h=>by cases h;rfl
 |b::bs,_,h=>by
  cases h with
  |cons r rr =>cases r;rw[zX rr];rfl
theorem Ll(bs:List Bool):(List.range bs.length).any (λi=>bs.getD i false)=bs.any id:=by
 rw[Bool.eq_iff_iff,List.any_eq_true,List.any_eq_true];constructor
 ·rintro⟨i,hi,e⟩;have hi':=List.mem_range.mp hi;refine⟨bs[i],NZ hi',?_⟩;simpa[List.getD,List.getElem?_eq_getElem hi']using e
 ·rintro⟨b,hb,e⟩;obtain⟨i,hi,rfl⟩:=OG hb;refine⟨i,List.mem_range.mpr hi,?_⟩;simpa[List.getD,List.getElem?_eq_getElem hi]using e
theorem Kr{X:Cx}{K:PySem.W.Frag}(hK:X.K=K)(hc:X.calm=true):CallR X (.builtin "any") (λxs H Q=>∃(p:Addr) (bs:List Bool),xs=[.ref p]/\SqL K H p (bs.map V.bl)/\Q (.bl (bs.any id)) H):=by
 subst hK;intro pins s σ H xs us Q I r h;obtain⟨p,bs,rfl,hq,q⟩:=h;obtain⟨u,rfl,rx⟩:=ix r;cases rx;obtain⟨its,r',pl,hz⟩:=I.list hq;have e:=zX r';subst e;have hl:=pl.isList;have hlt:p<s.heap.objs.size:=by obtain⟨_,e,_⟩:=hl;exact Heap.lt_size e
 refine call_any_walk (wpAny_pyIter_list hl ?_);refine⟨_,_,_,_,_,_,λi=>bs.getD i false,rfl,Walks.list (A:=X.A.in1) (I.ok.hd hc) _ p (Ng hlt) _,⟨⟨_,Heap.get?_push_size _ rfl,rfl,rfl⟩,hl.push _⟩,λi v s' Q' E' hP hQ=>?_,λh' tk hk=>?_⟩
 ·have e:v=.bool (bs.getD i false):=by have hP':((bs.map Value.bool).toArray)[i]?=some v:=hP;simp only[List.getElem?_toArray,List.getElem?_map,Option.map_eq_some_iff]at hP';obtain⟨b,hb,rfl⟩:=hP';simp[List.getD,hb]
  subst e;exact wpAny_truthy_bool hQ
 ·refine⟨.bl (bs.any id),H,I.kept (old_kept hk),?_,q⟩;show Value.bool _=Value.bool _;rw[<- Ll bs];simp
section
variable {X:Cx}
end
theorem yv:∀{ns:List Int} {us:List Value},Vals (ns.map V.int) us->∃l:List (Int×Tok),us=l.map (λp=>Value.int p.1 p.2)/\l.map (·.1)=ns
 | [],_,h=>by cases h;exact⟨[],rfl,rfl⟩
 |n::ns,_,h=>by
  cases h with
  |cons r rr =>obtain⟨t,rfl⟩:=r;obtain⟨l,rfl,e⟩:=yv rr;exact⟨(n,t)::l,rfl,by rw[Nx,e]⟩
theorem wZ:∀(l:List (Int×Tok)) (n:Nat),n<=l.length->preSum (numAt l.toArray) n=((l.take n).map (·.1)).sum
 |l,0,_=>rfl
 |l,n+1,h=>by rw[preSum,wZ l n (by omega),NO,List.getElem?_eq_getElem (by omega)];unfold numAt;rw[List.getElem?_toArray,List.getElem?_eq_getElem (by omega),Option.toList_some,No,List.sum_append];show _=_+(l[n].1+0);rw[ND];rfl
theorem Km{X:Cx}{K:PySem.W.Frag}(hK:X.K=K)(hc:X.calm=true):CallR X (.builtin "sum") (λxs H Q=>∃(p:Addr) (ns:List Int),xs=[.ref p]/\SqL K H p (ns.map V.int)/\Q (.int ns.sum) H):=by
 subst hK;intro pins s σ H xs us Q I r h;obtain⟨p,ns,rfl,hq,q⟩:=h;obtain⟨u,rfl,rx⟩:=ix r;cases rx;obtain⟨its,r',pl,hz⟩:=I.list hq;obtain⟨l,rfl,e⟩:=yv r'
 have hl:s.heap.IsList p (intItems l.toArray):=by
  have h1:=pl.isList;have e2:(l.map (λp=>Value.int p.1 p.2)).toArray=intItems l.toArray:=by unfold intItems;simp
  rw[<- e2];exact h1
 refine sum_intListG (I.ok.hd hc) hl λh' tk t' hk=>⟨.int ns.sum,H,I.kept hk,⟨t',?_⟩,q⟩
 have e3:preSum (numAt l.toArray) l.toArray.size=ns.sum:=by rw[Np,wZ l l.length (M0 _),N0,e]
 rw[e3]
section
variable {X:Cx}{K:PySem.W.Frag}
end
noncomputable def bg:Nat:=67000000
section
variable {X:Cx}{K:PySem.W.Frag}
end
end L2
namespace RM
noncomputable def cf(l:List Int)(k:Nat):Int:=l.getD k 0
theorem bM(k:Nat):cf [] k=0:=by simp[cf]
theorem zO(x:Int)(l:List Int):cf (x::l) 0=x:=rfl
theorem pA(x:Int)(l:List Int)(k:Nat):cf (x::l) (k+1)=cf l k:=rfl
theorem bN{l:List Int}{k:Nat}(h:l.length<=k):cf l k=0:=by unfold cf;rw[List.getD,List.getElem?_eq_none_iff.mpr h];rfl
theorem cZ{l:List Int}{k:Nat}(h:k<l.length):cf l k=l[k]:=by unfold cf;rw[List.getD,List.getElem?_eq_getElem h];rfl
theorem zQ{l:List Int}{k:Nat}{x:Int}(h:l[k]?=some x):cf l k=x:=by unfold cf;rw[List.getD,h];rfl
theorem gO{l:List Int}{k:Nat}(h:k<l.length):l[k]?=some (cf l k):=by rw[cZ h,List.getElem?_eq_getElem h]
theorem zR{l r:List Int}{k:Nat}(h:k<l.length):cf (l++r) k=cf l k:=by unfold cf;rw[List.getD,List.getD,List.getElem?_append_left h]
theorem mr{l r:List Int}{k:Nat}(h:l.length<=k):cf (l++r) k=cf r (k-l.length):=by unfold cf;rw[List.getD,List.getD,List.getElem?_append_right h]
theorem ml{l:List Int}{j k:Nat}{x:Int}(h:j<l.length):cf (l.set j x) k=if k=j then x else cf l k:=by
 unfold cf;rw[List.getD,List.getD,List.getElem?_set];by_cases e:j=k
 ·subst e;simp[h]
 ·rw[if_neg e,if_neg (λz=>e z.symm)]
theorem mn(n k:Nat):cf (List.replicate n 0) k=0:=by unfold cf;rw[List.getD,List.getElem?_replicate];split<;>rfl
theorem mq(f:Nat->Int)(n k:Nat):cf ((List.range n).map f) k=if k<n then f k else 0:=by
 unfold cf;rw[List.getD,List.getElem?_map];by_cases h:k<n
 ·rw[if_pos h,List.getElem?_range h];rfl
 ·rw[if_neg h,List.getElem?_eq_none_iff.mpr (by simpa using h)];rfl
theorem cY{a b:List Int}(hl:a.length=b.length)(h:∀k,k<a.length->cf a k=cf b k):a=b:=by apply List.ext_getElem hl;intro k h1 h2;rw[<- cZ h1,<- cZ h2];exact h k h1
noncomputable def trim(l:List Int):List Int:=(l.reverse.dropWhile (· == 0)).reverse
theorem mX(l:List Int):trim (l++[0])=trim l:=by unfold trim;rw[List.reverse_append];rfl
theorem kB(l:List Int){x:Int}(h:x≠0):trim (l++[x])=l++[x]:=by unfold trim;rw[List.reverse_append];show((x::l.reverse).dropWhile (· == 0)).reverse=_;rw[List.dropWhile_cons_of_neg (by simpa using h)];simp
def Tr(l:List Int):Prop:=∀n,l.length=n+1->cf l n≠0
theorem cF(l:List Int):l=[]\/∃r x,l=r++[x]:=by
 cases h:l.reverse with
 |nil=>left;simpa using h
 |cons x r=>right;exact⟨r.reverse,x,by rw[<- List.reverse_reverse l,h];simp⟩
theorem ki(r:List Int)(x:Int):cf (r++[x]) r.length=x:=by rw[mr (M0 _),Ol];rfl
theorem Ba:Tr []:=λn h=>by simp at h
theorem tr_snoc{r:List Int}{x:Int}:Tr (r++[x])↔x≠0:=by
 constructor
 ·intro h;have:=h r.length (by simp)
  rwa [ki]at this
 ·intro h n hn;have e:n=r.length:=by simp at hn;omega
  subst e
  rwa [ki]
theorem mW:∀(n:Nat) (l:List Int),l.length=n->Tr (trim l)/\(trim l).length<=l.length/\∀k,cf (trim l) k=cf l k
 |0,l,h=>by have:l=[]:=Om.mp h;subst this;exact⟨Ba,M0 _,λ_=>rfl⟩
 |n+1,l,h=>by
  rcases cF l with rfl |⟨r,x,rfl⟩
  ·simp at h
  ·by_cases hx:x=0
   ·subst hx;obtain⟨h1,h2,h3⟩:=mW n r (by simpa using h);rw[mX];refine⟨h1,by rw[Nh];exact Nb h2 (Nat.le_add_right _ _),λk=>?_⟩;rw[h3];by_cases hk:k<r.length
    ·rw[zR hk]
    ·rw[mr (NX hk),bN (NX hk)];cases e:k-r.length with
     |zero=>rfl
     |succ j=>rw[pA,bM]
   ·rw[kB r hx];exact⟨tr_snoc.mpr hx,M0 _,λ_=>rfl⟩
theorem dM(l:List Int):Tr (trim l):=(mW _ l rfl).1
theorem rV(l:List Int):(trim l).length<=l.length:=(mW _ l rfl).2.1
theorem fg(l:List Int)(k:Nat):cf (trim l) k=cf l k:=(mW _ l rfl).2.2 k
theorem A5{l:List Int}(h:Tr l):trim l=l:=by
 rcases cF l with rfl |⟨r,x,rfl⟩
 ·rfl
 ·exact kB r (tr_snoc.mp h)
theorem mh{a b:List Int}(ha:Tr a)(hb:Tr b)(h:∀k,cf a k=cf b k):a=b:=by
 have le:∀{a b:List Int},Tr a->(∀k,cf a k=cf b k)->a.length<=b.length:=λ{a b} ha h=>by
  cases e:a.length with
  |zero=>exact M9 _
  |succ n =>apply Classical.byContradiction;intro hn;exact ha n e (by rw[h n,bN (by omega)])
 have hl:a.length=b.length:=Nat.le_antisymm (le ha h) (le hb λk=>(h k).symm);exact cY hl λk _=>h k
theorem A3{l:List Int}{n:Nat}(hn:n<l.length)(h:cf l n=0):trim (l.take (n+1))=trim (l.take n):=by rw[NO,gO hn,h];exact mX _
theorem A4{l:List Int}{n:Nat}(hn:n<l.length)(h:cf l n≠0):trim (l.take (n+1))=l.take (n+1):=by rw[NO,gO hn];exact kB _ h
noncomputable def cW(f:Int)(a b:List Int):List Int:=(List.range (max a.length b.length)).map λk=>cf a k+f*cf b k
theorem fS(f:Int)(a b:List Int)(k:Nat):cf (cW f a b) k=cf a k+f*cf b k:=by
 unfold cW;rw[mq];by_cases h:k<max a.length b.length
 ·rw[if_pos h]
 ·have h1:a.length<=k:=by omega
  have h2:b.length<=k:=by omega
  rw[if_neg h,bN h1,bN h2];simp
noncomputable def fh(a b:List Int):List Int:=trim (cW 1 a b)
noncomputable def bU(a b:List Int):List Int:=trim (cW (-1) a b)
noncomputable def tm(a b:List Int)(n i:Nat):Int:=if i<=n then cf a i*cf b (n-i)else 0
noncomputable def sm(a b:List Int)(n:Nat):Nat->Int
 |0=>0
 |j+1=>sm a b n j+tm a b n j
noncomputable def aq(a b:List Int)(n:Nat):Int:=sm a b n a.length
noncomputable def ad(a b:List Int):List Int:=if a=[]\/b=[]then[]else(List.range (a.length+b.length-1)).map (aq a b)
theorem Bf{a b:List Int}{n i:Nat}(h:a.length<=i):tm a b n i=0:=by
 unfold tm;split
 ·rw[bN h,Nz]
 ·rfl
theorem mZ{a b:List Int}{n i:Nat}(h:b.length<=n-i):tm a b n i=0:=by
 unfold tm;split
 ·rw[bN h,Nj]
 ·rfl
theorem kM{a b:List Int}{n:Nat}:∀{j:Nat},(∀i,i<j->tm a b n i=0)->sm a b n j=0
 |0,_=>rfl
 |j+1,h=>by rw[sm,kM λi hi=>h i (Nat.lt_succ_of_lt hi),h j (NV _)];rfl
theorem xH{a b:List Int}{n:Nat}(h:a.length+b.length<=n+1):aq a b n=0:=by apply kM;intro i hi;exact mZ (by omega)
theorem rA{a b:List Int}{la lb:Nat}(ha:a.length=la+1)(hb:b.length=lb+1):aq a b (la+lb)=cf a la*cf b lb:=by unfold aq;rw[ha,sm,kM λi hi=>mZ (by omega)];unfold tm;rw[if_pos (Nat.le_add_right _ _),Nat.add_sub_cancel_left,NF]
theorem aE(a b:List Int)(n:Nat):cf (ad a b) n=aq a b n:=by
 unfold ad;by_cases h:a=[]\/b=[]
 ·rw[if_pos h,bM]
  symm
  apply kM;intro i hi;rcases h with rfl |rfl
  ·simp at hi
  ·exact mZ (M9 _)
 ·rw[if_neg h,mq];by_cases hn:n<a.length+b.length-1
  ·rw[if_pos hn]
  ·rw[if_neg hn,xH (by omega)]
theorem mY{a b:List Int}(ha:Tr a)(hb:Tr b):Tr (ad a b):=by
 intro n hn;rw[aE];by_cases h:a=[]\/b=[]
 ·unfold ad at hn;rw[if_pos h]at hn;simp at hn
 ·have h1:a≠[]:=λz=>h (.inl z)
  have h2:b≠[]:=λz=>h (.inr z)
  obtain⟨la,ea⟩:∃la,a.length=la+1:=⟨a.length-1,by have:=M5.mpr h1;omega⟩;obtain⟨lb,eb⟩:∃lb,b.length=lb+1:=⟨b.length-1,by have:=M5.mpr h2;omega⟩;unfold ad at hn
  rw[if_neg h,MZ,N2]at hn;have e:n=la+lb:=by omega
  subst e;rw[rA ea eb];exact Nk (ha la ea) (hb lb eb)
theorem xI{a b acc:List Int}{j k:Nat}(hj:j<a.length)(hk:k<b.length)(hl:j+k<acc.length)
 (h:∀n,n<acc.length->cf acc n=sm a b n j+(if j<=n/\n-j<k then tm a b n j else 0)) :
 ∀n,n<(acc.set (j+k) (cf acc (j+k)+cf a j*cf b k)).length->cf (acc.set (j+k) (cf acc (j+k)+cf a j*cf b k)) n=sm a b n j+(if j<=n/\n-j<k+1 then tm a b n j else 0):=by
 intro n hn;rw[Ou]at hn;rw[ml hl];by_cases e:n=j+k
 ·subst e;rw[if_pos rfl,h _ hl,if_neg (by omega),if_pos ⟨by omega,by omega⟩];unfold tm;rw[if_pos (by omega),Nat.add_sub_cancel_left,ND]
 ·rw[if_neg e,h n hn]
  congr 1
  by_cases h1:j<=n/\n-j<k
  ·rw[if_pos h1,if_pos ⟨h1.1,by omega⟩]
  ·rw[if_neg h1,if_neg (by omega)]
theorem xK{a b acc:List Int}{j:Nat}(h:∀n,n<acc.length->cf acc n=sm a b n j+(if j<=n/\n-j<b.length then tm a b n j else 0)):∀n,n<acc.length->cf acc n=sm a b n (j+1):=by
 intro n hn;rw[h n hn,sm]
 congr 1
 by_cases h1:j<=n/\n-j<b.length
 ·rw[if_pos h1]
 ·rw[if_neg h1];by_cases h2:j<=n
  ·rw[mZ (by omega)]
  ·unfold tm;rw[if_neg h2]
theorem xJ{a b acc:List Int}{j:Nat}(h:∀n,n<acc.length->cf acc n=sm a b n j):∀n,n<acc.length->cf acc n=sm a b n j+(if j<=n/\n-j<0 then tm a b n j else 0):=by intro n hn;rw[if_neg (by omega),ND];exact h n hn
theorem xL{a b acc:List Int}(hl:a.length+b.length<=acc.length+1)(h:∀n,n<acc.length->cf acc n=sm a b n a.length)(n:Nat):cf acc n=aq a b n:=by
 by_cases hn:n<acc.length
 ·exact h n hn
 ·rw[bN (NX hn),xH (by omega)]
theorem Lo(a b:List Int):trim ((List.range (max a.length b.length)).map λk=>cf a k+cf b k)=fh a b:=by
 unfold fh cW
 congr 2;funext k;rw[Nv]
theorem Bw(a b:List Int):trim ((List.range (max a.length b.length)).map λk=>cf a k-cf b k)=bU a b:=by
 unfold bU cW
 congr 2;funext k;omega
noncomputable def dv(t b:Int):Int:=if b<0 then -((Nat.gcd t.natAbs b.natAbs:Nat):Int)else((Nat.gcd t.natAbs b.natAbs:Nat):Int)
noncomputable def rt(t b:Int):Int:=t.fdiv (dv t b)
noncomputable def rb(t b:Int):Int:=b.fdiv (dv t b)
theorem ke{t b:Int}(hb:b≠0):0<Nat.gcd t.natAbs b.natAbs:=Nat.gcd_pos_of_pos_right _ (Oa.mpr hb)
theorem pf{t b:Int}(hb:b≠0):dv t b≠0:=by have:=@ke t b hb;unfold dv;split<;>omega
theorem g9(t b:Int):(dv t b).natAbs=Nat.gcd t.natAbs b.natAbs:=by unfold dv;split<;>omega
theorem JY(t b:Int):dv t b∣t:=O4.mp (by rw[g9];exact N3 _ _)
theorem JX(t b:Int):dv t b∣b:=O4.mp (by rw[g9];exact Ob _ _)
theorem y9{a d:Int}(hd:d≠0)(h:d∣a):d*a.fdiv d=a:=by obtain⟨c,rfl⟩:=h;rw[Int.mul_fdiv_cancel_left c hd]
theorem jO{t b:Int}(hb:b≠0):dv t b*rt t b=t:=y9 (pf hb) (JY t b)
theorem gq{t b:Int}(hb:b≠0):dv t b*rb t b=b:=y9 (pf hb) (JX t b)
theorem d9{t b:Int}(hb:b≠0):0<rb t b:=by
 have h1:=@gq t b hb;have h2:=@ke t b hb;by_cases hn:b<0
 ·have hd:dv t b<0:=by unfold dv;rw[if_pos hn];omega
  apply Classical.byContradiction;intro h;have:0<=dv t b*rb t b:=O5 (M7 hd) (by omega);omega
 ·have hd:0<dv t b:=by unfold dv;rw[if_neg hn];omega
  apply Classical.byContradiction;intro h;have:dv t b*rb t b<=0:=Int.mul_nonpos_of_nonneg_of_nonpos (M7 hd) (by omega);omega
theorem qT{t b:Int}(hb:b≠0):Nat.gcd (rt t b).natAbs (rb t b).natAbs=1:=by
 have h1:t.natAbs=Nat.gcd t.natAbs b.natAbs*(rt t b).natAbs:=by rw[<- g9,<- Ni,jO hb]
 have h2:b.natAbs=Nat.gcd t.natAbs b.natAbs*(rb t b).natAbs:=by rw[<- g9,<- Ni,gq hb]
 have hp:=@ke t b hb
 have e:Nat.gcd t.natAbs b.natAbs=Nat.gcd t.natAbs b.natAbs*Nat.gcd (rt t b).natAbs (rb t b).natAbs:=by rw[<- Nat.gcd_mul_left,<- h1,<- h2]
 exact(Pe hp (by rw[Nat.mul_one];exact e)).symm
theorem gu{t b:Int}(hb:b≠0):rt t b*b=t*rb t b:=by
 have e1:=@jO t b hb;have e2:=@gq t b hb
 calc rt t b*b=rt t b*(dv t b*rb t b):=by rw[e2]
  _=(dv t b*rt t b)*rb t b:=by rw[<- NG,Nm (rt t b)]
  _=t*rb t b:=by rw[e1]
theorem wv{t b:Int}(hb:b≠0):(rt t b).natAbs<=t.natAbs:=by
 have h1:t.natAbs=Nat.gcd t.natAbs b.natAbs*(rt t b).natAbs:=by rw[<- g9,<- Ni,jO hb]
 rw[h1];exact OP _ (ke hb)
theorem wF{t b:Int}(hb:b≠0):(rb t b).natAbs<=b.natAbs:=by
 have h1:b.natAbs=Nat.gcd t.natAbs b.natAbs*(rb t b).natAbs:=by rw[<- g9,<- Ni,gq hb]
 rw[h1];exact OP _ (ke hb)
noncomputable def sg(x:Int):Int:=if x<0 then -1 else if 0<x then 1 else 0
theorem B3(x:Int):sg (-x) = -sg x:=by unfold sg;split<;>split<;>(try split)<;>(try split)<;>omega
theorem qL{x p:Int}(hp:0<p):sg (x*p)=sg x:=by
 unfold sg;by_cases h1:x<0
 ·rw[if_pos h1,if_pos (Pf h1 hp)]
 ·by_cases h2:0<x
  ·have:=M6 h2 hp;rw[if_neg h1,if_pos h2,if_neg (by omega),if_pos this]
  ·obtain rfl:x=0:=by omega
   simp
noncomputable def hv(t b:Int):List Int->Int
 | []=>0
 |v::l=>v*b^(l.length+1)+t*hv t b l
theorem oX(t b:Int):hv t b []=0:=rfl
theorem cN(t b v:Int)(l:List Int):hv t b (v::l)=v*b^(l.length+1)+t*hv t b l:=rfl
noncomputable def mb(a b:Int):Int->List Int->List Int
 |c,[]=>[c]
 |c,x::l=>(-a*x+c)::mb a b (b*x) l
theorem oE(a b:Int):∀(c:Int) (l:List Int),(mb a b c l).length=l.length+1
 |c,[]=>rfl
 |c,x::l=>by show(mb a b (b*x) l).length+1=_;rw[oE];rfl
theorem hJ(a b:Int):∀(c:Int) (l:List Int) (k:Nat),cf (mb a b c l) k = -a*cf l k+(if k=0 then c else b*cf l (k-1))
 |c,[],0=>by show c=_;rw[bM];simp
 |c,[],k+1=>by show cf [] k=_;rw[bM,bM];simp[bM]
 |c,x::l,0=>rfl
 |c,x::l,k+1=>by
  show cf (mb a b (b*x) l) k=_;rw[hJ a b (b*x) l k,pA,if_neg (Nat.succ_ne_zero k)];cases k with
  |zero=>rfl
  |succ k=>rw[if_neg (Nat.succ_ne_zero k)];rfl
theorem yM(t u a b:Int):∀(c:Int) (l:List Int),hv t u (mb a b c l)=c*u^(l.length+1)+(b*t-a*u)*hv t u l
 |c,[]=>by show c*u^1+t*0=c*u^1+(b*t-a*u)*0;simp
 |c,x::l=>by show(-a*x+c)*u^((mb a b (b*x) l).length+1)+t*hv t u (mb a b (b*x) l)=c*u^(l.length+1+1)+(b*t-a*u)*(x*u^(l.length+1)+t*hv t u l);rw[yM t u a b (b*x) l,oE];generalize hv t u l=h;rw[Nn u (l.length+1)];generalize u^(l.length+1)=p;grind
theorem uf(x y:Int)(k:Nat):cf [x,y] k=if k=0 then x else if k=1 then y else 0:=by
 rcases k with _ |_ |k
 ·rfl
 ·rfl
 ·rw[if_neg (by omega),if_neg (by omega)];exact bN (by simp)
theorem vU(l:List Int)(x y:Int)(n:Nat):∀j,sm l [x,y] n j=(if n<j then cf l n*x else 0)+(if 1<=n/\n-1<j then cf l (n-1)*y else 0)
 |0=>by rw[if_neg (by omega),if_neg (by omega)];rfl
 |j+1=>by
  show sm l [x,y] n j+tm l [x,y] n j=_;rw[vU l x y n j];unfold tm;rw[uf];by_cases h1:n<j
  ·rw[if_pos h1,if_neg (show ¬j<=n by omega),if_pos (show n<j+1 by omega),ND];by_cases h2:1<=n
   ·rw[if_pos ⟨h2,by omega⟩,if_pos ⟨h2,by omega⟩]
   ·rw[if_neg (λz=>h2 z.1),if_neg (λz=>h2 z.1)]
  ·rw[if_neg h1,if_pos (show j<=n by omega),NF];by_cases h2:n=j
   ·subst h2;rw[Ol,if_pos rfl,if_pos (NV _),Int.add_comm];by_cases h3:1<=n
    ·rw[if_pos ⟨h3,by omega⟩,if_pos ⟨h3,by omega⟩]
    ·rw[if_neg (λz=>h3 z.1),if_neg (λz=>h3 z.1)]
   ·rw[if_neg (show ¬n-j=0 by omega),if_neg (show ¬n<j+1 by omega),NF,if_neg (show ¬(1<=n/\n-1<j) by omega),NF];by_cases h3:n-j=1
    ·rw[if_pos h3,if_pos (show 1<=n/\n-1<j+1 by omega),show n-1=j by omega]
    ·rw[if_neg h3,if_neg (show ¬(1<=n/\n-1<j+1) by omega),Nj]
theorem FA{a b:Int}{l:List Int}(h:l≠[]):ad l [-a,b]=mb a b 0 l:=by
 apply cY
 ·rw[oE];unfold ad;rw[if_neg (by simp[h]),MZ,N2];simp
 ·intro k _;rw[aE,hJ];unfold aq;rw[vU]
  have e1:(if k<l.length then cf l k * -a else 0) = -a*cf l k:=by
   by_cases hk:k<l.length
   ·rw[if_pos hk,Nm]
   ·rw[if_neg hk,bN (NX hk),Nj]
  have e2:(if 1<=k/\k-1<l.length then cf l (k-1)*b else 0)=if k=0 then 0 else b*cf l (k-1):=by
   by_cases h0:k=0
   ·rw[if_neg (by omega),if_pos h0]
   ·rw[if_neg h0];by_cases hk:k-1<l.length
    ·rw[if_pos (by omega),Nm]
    ·rw[if_neg (by omega),bN (NX hk),Nj]
  rw[e1,e2]
theorem oW(g t b:Int):∀l:List Int,hv (g*t) (g*b) l=g^l.length*hv t b l
 | []=>by simp[oX]
 |v::l=>by rw[cN,cN,oW g t b l,Int.mul_pow];show v*(g^(l.length+1)*b^(l.length+1))+g*t*(g^l.length*hv t b l)=g^(l.length+1)*(v*b^(l.length+1)+t*hv t b l);rw[Nn g l.length];generalize b^(l.length+1)=p;generalize g^l.length=q;generalize hv t b l=h;grind
theorem Dz{g:Int}(h:0<g)(n:Nat):0<g^n:=by
 induction n with
 |zero=>simp
 |succ n ih=>rw[Nn];exact M6 ih h
def At(l:List Int)(t b top bot:Int):Prop:=hv t b l*bot=top*b^l.length
theorem At.sign{l:List Int}{t b top bot:Int}(hb:0<b)(hbot:0<bot)(h:At l t b top bot):sg (hv t b l)=sg top:=by
 unfold At at h
 rw[<- qL (x:=hv t b l) hbot,h,qL (Dz hb _)]
theorem yL(t u c:Int):hv t u [c]=c*u:=by show c*u^1+t*0=c*u;grind
theorem J0(t b:Int){l:List Int}{n:Nat}(h:n<l.length):hv t b (l.drop n)=cf l n*b^(l.length-n)+t*hv t b (l.drop (n+1)):=by
 rw[O6 h,cN,Og,cZ h];have e:l.length-(n+1)+1=l.length-n:=by omega
 rw[e]
noncomputable def lv(t b:Int):List Int->Int
 | []=>0
 |v::l=>v*b^l.length+t*lv t b l
noncomputable def chF(z:Int×Int)(s:Int):Int×Int:=(if s*z.2<0 then z.1+1 else z.1,if s=0 then z.2 else s)
noncomputable def chS(l:List Int):Int×Int:=l.foldl chF (0,0)
theorem zL(l:List Int)(s:Int):chS (l++[s])=chF (chS l) s:=by unfold chS;rw[OQ];rfl
theorem qK(x:Int):sg x=0↔x=0:=by unfold sg;split<;>(try split)<;>omega
theorem zM:∀(n:Nat) (l:List Int),l.length=n->(∀s∈l,s.natAbs<=1)->(chS l).2.natAbs<=1/\0<=(chS l).1/\(chS l).1<=l.length
 |n,l,hn,h=>by
  rcases cF l with rfl |⟨r,s,rfl⟩
  ·decide
  ·have hr:r.length+1=n:=by rw[<- hn,Nh];rfl
   obtain⟨i1,i2,i3⟩:=zM (n-1) r (by omega) (λx hx=>h x (NQ _ hx));have hs:=h s (by simp);rw[zL];unfold chF;refine⟨?_,?_,?_⟩
   ·dsimp only;split
    ·exact i1
    ·exact hs
   ·dsimp only;split<;>omega
   ·dsimp only;rw[Nh];show _<=((r.length+1:Nat):Int);split<;>omega
termination_by n=>n
theorem Kk(l:List Int)(h:∀s∈l,s.natAbs<=1):(chS l).2.natAbs<=1/\0<=(chS l).1/\(chS l).1<=l.length:=zM _ l rfl h
theorem wg(x:Int):(sg x).natAbs<=1:=by unfold sg;split<;>(try split)<;>decide
theorem vX{q q' b:List Int}{c l:Int}{p n:Nat}(h:∀k,cf q' k=c*cf q k+(if k=p then l else 0)) :
 ∀j,sm q' b n j=c*sm q b n j+(if p<j/\p<=n then l*cf b (n-p)else 0)
 |0=>by rw[sm,sm,if_neg (by omega)];simp
 |j+1=>by
  rw[sm,sm,vX h j];unfold tm;by_cases hj:j<=n
  ·rw[if_pos hj,if_pos hj,h j];by_cases e:j=p
   ·subst e;rw[if_pos rfl,if_neg (by omega),if_pos ⟨by omega,hj⟩];grind
   ·rw[if_neg e];by_cases h2:p<j/\p<=n
    ·rw[if_pos h2,if_pos ⟨by omega,h2.2⟩];grind
    ·rw[if_neg h2,if_neg (by omega)];grind
  ·rw[if_neg hj,if_neg hj];by_cases h2:p<j/\p<=n
   ·rw[if_pos h2,if_pos ⟨by omega,h2.2⟩];grind
   ·rw[if_neg h2,if_neg (by omega)];grind
theorem Fz{q q' b:List Int}{c l:Int}{p n:Nat}(hl:q'.length=q.length)(hp:p<q.length)(h:∀k,cf q' k=c*cf q k+(if k=p then l else 0)) :
 aq q' b n=c*aq q b n+(if p<=n then l*cf b (n-p)else 0):=by
 unfold aq;rw[hl,vX h];by_cases h2:p<=n
 ·rw[if_pos h2,if_pos ⟨hp,h2⟩]
 ·rw[if_neg h2,if_neg (by omega)]
noncomputable def scL(c:Int)(l:List Int):List Int:=l.map λx=>c*x
theorem bJ(c:Int)(l:List Int):(scL c l).length=l.length:=by unfold scL;rw[MZ]
theorem aY(c:Int)(l:List Int)(k:Nat):cf (scL c l) k=c*cf l k:=by
 by_cases h:k<l.length
 ·unfold cf scL;simp[h]
 ·rw[bN (by rw[bJ];omega),bN (by omega)];simp
noncomputable def gG(r b:List Int)(p:Nat)(l:Int):List Int:=(List.range (r.length-1)).map λk=>cf r k-(if p<=k then l*cf b (k-p)else 0)
theorem yc(r b:List Int)(p:Nat)(l:Int):(gG r b p l).length=r.length-1:=by unfold gG;simp
theorem pC(r b:List Int)(p:Nat)(l:Int)(k:Nat):cf (gG r b p l) k=if k<r.length-1 then cf r k-(if p<=k then l*cf b (k-p)else 0)else 0:=by unfold gG;rw[mq]
theorem BY(x:Int):sg x*x=(x.natAbs:Int):=by unfold sg;split<;>(try split)<;>omega
noncomputable def cH(b:List Int)(z:List Int×List Int)(i:Nat):List Int×List Int :=
 let s:Int:=((cf b (b.length-1)).natAbs:Int)
 let l:=sg (cf b (b.length-1))*cf z.2 (z.2.length-1)
 ((scL s z.1).set i l,gG (scL s z.2) b i l)
noncomputable def aL(a b:List Int):Nat->List Int×List Int
 |0=>(List.replicate (a.length+1-b.length) 0,a)
 |i+1=>cH b (aL a b i) (a.length+1-b.length-1-i)
structure DivInv(a b:List Int)(i:Nat):Prop where
 lq:(aL a b i).1.length=a.length+1-b.length
 lr:(aL a b i).2.length=a.length-i
 low:∀k,k+i<a.length+1-b.length->cf (aL a b i).1 k=0
 eqn:∀n,((cf b (b.length-1)).natAbs:Int)^i*cf a n=aq (aL a b i).1 b n+cf (aL a b i).2 n
theorem rz{a b:List Int}{n:Nat}(h:∀k,cf a k=0):aq a b n=0:=by apply kM;intro i _;unfold tm;rw[h i];simp
theorem J5{A B i:Nat}(hi:i+1<=A+1-B)(hb:0<B):∃p,A+1-B=p+i+1/\p+i+B=A:=⟨A-B-i,by omega,by omega⟩
theorem zw(p i:Nat):p<p+i+1:=Nat.lt_succ_of_le (Nat.le_add_right _ _)
theorem pj{P A C M R:Int}(en:P*A=M+R):P*C*A=C*M+C*R:=by rw[Int.mul_right_comm,en,Nm,Int.mul_add]
theorem J6(x y z:Int):x+y=x+z+(y-z):=by omega
theorem hI{a b:List Int}(hb:b≠[]):∀i,i<=a.length+1-b.length->DivInv a b i
 |0,_=>⟨by simp[aL],by simp[aL],λk _=>by show cf (List.replicate _ 0) k=0;rw[mn],λn=>by
  show _=aq (List.replicate _ 0) b n+cf a n
  rw[rz λk=>mn _ _];simp⟩
 |i+1,hi=>by
  obtain⟨lq,lr,low,eqn⟩:=hI (a:=a) hb i (Nat.le_of_succ_le hi);have hbl:=M5.mpr hb;have e:aL a b (i+1)=cH b (aL a b i) (a.length+1-b.length-1-i):=rfl;generalize aL a b i=z at e lq lr low eqn
  obtain⟨p,ep,ed⟩:=J5 hi hbl;rw[ep,show p+i+1-1-i=p from Nat.add_sub_cancel _ _]at e;rw[ep]at lq low;have lz:z.2.length=p+b.length:=by rw[lr,<- ed,Nat.add_right_comm,Nat.add_sub_cancel]
  have hp:p<(scL ((cf b (b.length-1)).natAbs:Int) z.1).length:=by rw[bJ,lq];exact zw p i
  have hq:∀k,cf (cH b z p).1 k=((cf b (b.length-1)).natAbs:Int)*cf z.1 k+(if k=p then sg (cf b (b.length-1))*cf z.2 (z.2.length-1)else 0):=by
   intro k;unfold cH;dsimp only
   rw[ml hp,aY];by_cases h:k=p
   ·rw[if_pos h,if_pos h,low k (by rw[h];exact NV _)];simp
   ·rw[if_neg h,if_neg h];simp
  have hlq:(cH b z p).1.length=p+i+1:=by unfold cH;dsimp only;rw[Ou,bJ,lq]
  refine⟨?_,?_,?_,?_⟩
  ·rw[e,hlq,ep]
  ·rw[e];unfold cH;dsimp only;rw[yc,bJ,lr];rfl
  ·intro k hk;rw[ep]at hk;have hk':k<p:=by clear lq lr low eqn hp hq hlq lz e ep ed;omega
   rw[e,hq,if_neg (Ng hk'),low k (Nat.lt_trans (Nat.add_lt_add_right hk' i) (NV _))];simp
  ·intro n;rw[e,Fz (by rw[hlq,lq]) (by rw[lq];exact zw p i) hq,Nn];have en:=eqn n;unfold cH;dsimp only
   rw[pC,bJ,aY,lz];clear lq lr low eqn hp hq hlq e ep ed;by_cases h1:n<p+b.length-1
   ·rw[if_pos h1];by_cases h2:p<=n
    ·rw[if_pos h2,pj en];exact J6 _ _ _
    ·rw[if_neg h2,pj en,ND,Int.sub_zero]
   ·rw[if_neg h1];have h2:p<=n:=by clear en;omega
    by_cases h3:n=p+b.length-1
    ·have h4:n-p=b.length-1:=by clear en;omega
     rw[if_pos h2,h4];have sg:=BY (cf b (b.length-1));rw[<- h3,pj en,ND,Int.mul_right_comm,sg]
    ·have hc:cf z.2 n=0:=bN (by rw[lz];clear en;omega);rw[if_pos h2,bN (l:=b) (k:=n-p) (by clear en;omega),pj en,hc,Nj,Nj,ND,ND]
theorem zu{a b:List Int}(hb:b≠[])(ha:Tr a)(hbt:Tr b):∀i,i+1<=a.length+1-b.length->cf (aL a b (i+1)).1 (a.length+1-b.length-1)≠0
 |0,h=>by
  obtain⟨lq,lr,_,_⟩:=hI (a:=a) hb 0 (by omega);have hbl:=M5.mpr hb;show cf (cH b (aL a b 0) _).1 _≠0;unfold cH;dsimp only
  rw[ml (by rw[bJ,lq];omega),if_pos (by omega)];have hb1:=hbt (b.length-1) (by omega);have ha1:=ha (a.length-1) (by omega);refine Nk ?_ ?_
  ·unfold sg;split<;>(try split)<;>omega
  ·rw[lr];exact ha1
 |i+1,h=>by
  have ih:=zu hb ha hbt i (by omega);obtain⟨lq,lr,_,_⟩:=hI (a:=a) hb (i+1) (by omega);have hbl:=M5.mpr hb;show cf (cH b (aL a b (i+1)) _).1 _≠0;unfold cH;dsimp only
  have hN:∀n,i+1+1<=n->¬n-1=n-1-(i+1):=λn hn e=>by omega
  rw[ml (by rw[bJ,lq];omega),if_neg (hN _ h),aY];have hb1:=hbt (b.length-1) (by omega);refine Nk ?_ ih;omega
noncomputable def aS(a b:List Int):Nat:=a.length+1-b.length
noncomputable def bC(a b:List Int):Int:=((cf b (b.length-1)).natAbs:Int)^aS a b
noncomputable def bv(a b:List Int):List Int:=(aL a b (aS a b)).1
noncomputable def aK(a b:List Int):List Int:=trim (aL a b (aS a b)).2
theorem fL{a b:List Int}(hb:b≠[])(n:Nat):bC a b*cf a n=aq (bv a b) b n+cf (aK a b) n:=by unfold aK bv bC;rw[fg];exact(hI hb (aS a b) (M0 _)).eqn n
theorem fc{a b:List Int}(hb:b≠[]):(aK a b).length<b.length:=by
 have h:=(hI (a:=a) hb (aS a b) (M0 _)).lr;have h2:=rV (aL a b (aS a b)).2;have hbl:=M5.mpr hb;unfold aK;unfold aS at *
 omega
theorem tX{a b:List Int}(hb:b≠[]):(bv a b).length=aS a b:=(hI (a:=a) hb (aS a b) (M0 _)).lq
theorem tV{a b:List Int}(hb:b≠[])(ha:Tr a)(hbt:Tr b):Tr (bv a b):=by
 intro n hn;rw[tX hb]at hn;have h:=zu hb ha hbt n (by unfold aS at hn;omega);unfold bv;rw[hn];have:a.length+1-b.length-1=n:=by unfold aS at hn;rw[hn];rfl
 rwa [this]at h
theorem dU(a b:List Int):Tr (aK a b):=dM _
theorem v3{a a' b b':List Int}{n:Nat}(h1:∀k,cf a k=cf a' k)(h2:∀k,cf b k=cf b' k):∀j,sm a b n j=sm a' b' n j
 |0=>rfl
 |j+1=>by rw[sm,sm,v3 h1 h2 j];unfold tm;rw[h1 j,h2 (n-j)]
theorem vY{a b:List Int}{n:Nat}:∀d,sm a b n (a.length+d)=aq a b n
 |0=>rfl
 |d+1=>by rw[<- Nat.add_assoc,sm,vY d,Bf (by omega)];omega
theorem kO{a b:List Int}{n N:Nat}(h:a.length<=N):sm a b n N=aq a b n:=by obtain⟨d,rfl⟩:=Nat.exists_eq_add_of_le h;exact vY d
theorem oq{a a' b b':List Int}{n:Nat}(h1:∀k,cf a k=cf a' k)(h2:∀k,cf b k=cf b' k):aq a b n=aq a' b' n:=by rw[<- kO (Nat.le_max_left a.length a'.length),<- kO (Nat.le_max_right a.length a'.length)];exact v3 h1 h2 _
theorem vW{a b c q:List Int}{x y:Int}{n:Nat}(h:∀k,cf c k=x*cf a k+y*cf b k):∀j,sm c q n j=x*sm a q n j+y*sm b q n j
 |0=>by simp[sm]
 |j+1=>by
  rw[sm,sm,sm,vW h j];unfold tm;rw[h j];by_cases hj:j<=n
  ·rw[if_pos hj,if_pos hj,if_pos hj];grind
  ·rw[if_neg hj,if_neg hj,if_neg hj];grind
theorem di{a b c q:List Int}{x y:Int}{n:Nat}(h:∀k,cf c k=x*cf a k+y*cf b k):aq c q n=x*aq a q n+y*aq b q n:=by
 have h1:a.length<=a.length+b.length+c.length:=by omega
 have h2:b.length<=a.length+b.length+c.length:=by omega
 have h3:c.length<=a.length+b.length+c.length:=by omega
 rw[<- kO h1,<- kO h2,<- kO h3];exact vW h _
theorem vV{a b b':List Int}{c:Int}{n:Nat}(h:∀k,cf b' k=c*cf b k):∀j,sm a b' n j=c*sm a b n j
 |0=>by simp[sm]
 |j+1=>by
  rw[sm,sm,vV h j];unfold tm;rw[h (n-j)];by_cases hj:j<=n
  ·rw[if_pos hj,if_pos hj];grind
  ·rw[if_neg hj,if_neg hj];grind
theorem ly{a b b':List Int}{c:Int}{n:Nat}(h:∀k,cf b' k=c*cf b k):aq a b' n=c*aq a b n:=vV h _
theorem dO(c:Int)(l:List Int)(n:Nat):aq [c] l n=c*cf l n:=by unfold aq;show sm [c] l n 0+tm [c] l n 0=_;unfold sm tm;rw[if_pos (M9 _),zO,N4,NF]
theorem rq{l:List Int}(ht:Tr l)(h:∀k,cf l k=0):l=[]:=by
 refine Classical.byContradiction λhne=>?_
 have hl:=M5.mpr hne;exact ht (l.length-1) (by omega) (h _)
theorem xE{d q:List Int}(hq:q≠[])(hqt:Tr q)(h:∀n,q.length<=n+1->aq d q n=0):∀k,cf d k=0:=by
 have e:trim d=[]:=by
  refine Classical.byContradiction λhne=>?_
  have hl:=M5.mpr hne;have hql:=M5.mpr hq;have ht:=dM d ((trim d).length-1) (by omega);have hb:=hqt (q.length-1) (by omega);have h1:=h ((trim d).length-1+(q.length-1)) (by omega);rw[<- oq (a:=trim d) (b:=q) (λk=>fg d k) (λ_=>rfl),rA (la:=(trim d).length-1) (lb:=q.length-1) (by omega) (by omega)]at h1;exact Nk ht hb h1
 intro k;rw[<- fg,e,bM]
theorem mi{a b:List Int}(hb:b≠[])(hbt:Tr b):bC a b≠0:=by
 have hbl:=M5.mpr hb;have h:=hbt (b.length-1) (by omega);have h1:((cf b (b.length-1)).natAbs:Int)≠0:=by omega
 unfold bC;generalize aS a b=n
 induction n with
 |zero=>rw[NP];decide
 |succ n ih=>rw[Nn];exact Nk ih h1
noncomputable def dk(d:Nat)(l:List Int):Nat:=l.foldl (λd v=>Nat.gcd d v.natAbs) d
noncomputable def au(l:List Int):Nat:=dk 0 l
theorem sE(d:Nat):dk d []=d:=rfl
theorem lT(d:Nat)(v:Int)(l:List Int):dk d (v::l)=dk (Nat.gcd d v.natAbs) l:=rfl
theorem HY(d:Nat)(l:List Int)(v:Int):dk d (l++[v])=Nat.gcd (dk d l) v.natAbs:=by unfold dk;rw[OQ];rfl
theorem HU(l:List Int)(v:Int):au (l++[v])=Nat.gcd (au l) v.natAbs:=HY 0 l v
theorem zm{m:Nat}:∀{l:List Int} {d:Nat},m∣dk d l↔m∣d/\∀v∈l,m∣v.natAbs
 | [],d=>by simp[sE]
 |v::l,d=>by rw[lT,zm,Nat.dvd_gcd_iff];simp only[Nd,forall_eq_or_imp];exact⟨λ⟨⟨a,b⟩,c⟩=>⟨a,b,c⟩,λ⟨a,b,c⟩=>⟨⟨a,b⟩,c⟩⟩
theorem dvd_gcdL{m:Nat}{l:List Int}:m∣au l↔∀v∈l,m∣v.natAbs:=by unfold au;rw[zm];exact⟨λh=>h.2,λh=>⟨Nat.dvd_zero m,h⟩⟩
theorem o7{l:List Int}{v:Int}(h:v∈l):au l∣v.natAbs:=dvd_gcdL.mp (Nat.dvd_refl _) v h
theorem HW(v:Int):au [v]=v.natAbs:=by show Nat.gcd 0 v.natAbs=_;exact OR _
theorem yS{a b:Int}(ha:0<=a)(hb:0<b):Nat.gcd b.natAbs (a%b).natAbs=Nat.gcd a.natAbs b.natAbs:=by
 have e:(a%b).natAbs=a.natAbs%b.natAbs:=by obtain⟨x,rfl⟩:=O7 ha;obtain⟨y,rfl⟩:=O7 (M7 hb);rfl
 rw[e,Nat.gcd_comm,<- Nat.gcd_rec,Nat.gcd_comm]
noncomputable def ak(l:List Int):List Int:=l.map λx=>x/(au l:Int)
noncomputable def ap(l:List Int):Int:=cf l (l.length-1)
theorem cL(r:List Int)(x:Int):ap (r++[x])=x:=by unfold ap;rw[Nh];exact ki r x
noncomputable def cn(l:List Int):List Int:=if ap l<0 then l.map λx => -x else l
noncomputable def ay(l:List Int):List Int:=cn (ak l)
theorem vz{c:Int->Int}(h0:∀x,c x=0↔x=0):∀(n:Nat) (l:List Int),l.length=n->trim (l.map c)=(trim l).map c
 |0,l,h=>by rw[Om.mp h];rfl
 |n+1,l,h=>by
  rcases cF l with rfl |⟨r,x,rfl⟩
  ·rfl
  ·rw[No];show trim (r.map c++[c x])=_;by_cases hx:x=0
   ·subst hx;rw[(h0 0).mpr rfl,mX,mX];exact vz h0 n r (by simpa using h)
   ·rw[kB r hx,kB _ (λz=>hx ((h0 x).mp z)),No];rfl
def ku(l:List Int):Prop:=l=[]\/au l=1
theorem BQ{l:List Int}(h:ku l):ak l=l:=by
 rcases h with rfl |h
 ·rfl
 ·unfold ak;rw[h]
  conv=>rhs;rw[<- List.map_id l]
  apply Ow;intro x _;show x/1=x;exact Int.ediv_one x
theorem HX{l:List Int}{s:Int}(hs:s=1\/s = -1):au (l.map λx=>x*s)=au l:=by
 have key:∀m:Nat,m∣au (l.map λx=>x*s)↔m∣au l:=by
  intro m;rw[dvd_gcdL,dvd_gcdL]
  have e:∀x:Int,(x*s).natAbs=x.natAbs:=λx=>by
   rcases hs with rfl |rfl
   ·rw[NJ]
   ·rw[Int.mul_neg,NJ,Int.natAbs_neg]
  constructor
  ·intro h v hv;have:=h (v*s) (Nc.mpr ⟨v,hv,rfl⟩)
   rwa [e]at this
  ·intro h v hv;obtain⟨u,hu,rfl⟩:=Nc.mp hv;rw[e];exact h u hu
 exact Nat.dvd_antisymm ((key _).mp (Nat.dvd_refl _)) ((key _).mpr (Nat.dvd_refl _))
theorem Dx{l:List Int}(h:ku l):ku (l.map λx => -x):=by
 rcases h with rfl |h
 ·exact .inl rfl
 ·right
  have e:(l.map λx => -x)=l.map λx=>x*(-1):=by apply Ow;intro x _;omega
  rw[e,HX (.inr rfl),h]
theorem ye(l:List Int):ap (l.map λx => -x) = -ap l:=by
 rcases cF l with rfl |⟨r,x,rfl⟩
 ·rfl
 ·rw[No];show ap (r.map _++[-x])=_;rw[cL,cL]
theorem Dw{l:List Int}(h:ku l):ku (cn l):=by
 unfold cn;split
 ·exact Dx h
 ·exact h
theorem Bb{c:Int->Int}(h0:∀x,c x=0↔x=0){l:List Int}(h:Tr l):Tr (l.map c):=by rw[<- A5 h,<- vz h0 _ l rfl];exact dM _
theorem A8{l:List Int}(h:Tr l):Tr (cn l):=by
 unfold cn;split
 ·exact Bb (λx=>by omega) h
 ·exact h
theorem yT(c:Int):∀(l:List Int) (d:Nat),dk (c.natAbs*d) (scL c l)=c.natAbs*dk d l
 | [],d=>rfl
 |v::l,d=>by show dk (Nat.gcd (c.natAbs*d) (c*v).natAbs) (scL c l)=c.natAbs*dk (Nat.gcd d v.natAbs) l;rw[Ni,Nat.gcd_mul_left,yT c l]
theorem sD(c:Int)(l:List Int):au (scL c l)=c.natAbs*au l:=by have h:=yT c l 0;rw[Nat.mul_zero]at h;exact h
theorem kc{l:List Int}{x:Int}(h:x∈l):(au l:Int)∣x:=Oc.mpr (o7 h)
theorem BO{c:Int}(hc:0<c)(l:List Int):ak (scL c l)=ak l:=by
 unfold ak;rw[sD];unfold scL;rw[NH];refine Ow λx _=>?_
 show c*x/((c.natAbs*au l:Nat):Int)=x/(au l:Int);have e:((c.natAbs*au l:Nat):Int)=c*(au l:Int):=by rw[OS];congr 1;omega
 rw[e,Int.mul_ediv_mul_of_pos _ _ hc]
theorem BP{c:Int}(hc:c<0)(l:List Int):ak (scL c l)=(ak l).map λx => -x:=by
 unfold ak;rw[sD];unfold scL;rw[NH,NH];refine Ow λx hx=>?_
 show c*x/((c.natAbs*au l:Nat):Int) = -(x/(au l:Int));have e:((c.natAbs*au l:Nat):Int)=(-c)*(au l:Int):=by rw[OS];congr 1;omega
 have e2:c*x=(-c)*(-x):=by rw[Int.neg_mul_neg]
 rw[e,e2,Int.mul_ediv_mul_of_pos _ _ (by omega:0 < -c),Int.neg_ediv_of_dvd (kc hx)]
theorem DB{m:List Int}(h:Tr m):cn (m.map λx => -x)=cn m:=by
 rcases cF m with rfl |⟨r,x,rfl⟩
 ·rfl
 have hx:x≠0:=tr_snoc.mp h;have h1:=ye (r++[x]);rw[cL]at h1;unfold cn;rw[h1,cL];by_cases hn:x<0
 ·rw[if_neg (by omega),if_pos hn]
 ·rw[if_pos (by omega),if_neg hn,NH];rw[show((λx:Int => -x) ∘ λx:Int => -x)=id from by funext y;simp];exact List.map_id _
theorem dX{l:List Int}(h:Tr l):Tr (ak l):=by
 intro n hn;have hl:l.length=n+1:=by rw[<- hn];unfold ak;rw[MZ]
 have hx:=h n hl;have hm:cf l n∈l:=by rw[cZ (by omega)];exact NZ _
 have e:cf (ak l) n=cf l n/(au l:Int):=by
  have h1:n<l.length:=by omega
  unfold ak cf;simp[List.getD,h1]
 rw[e];intro z;have d:=kc hm;have:=Int.mul_ediv_cancel' d;rw[z,Nj]at this;exact hx this.symm
theorem n6{c:Int}(hc:c≠0){l:List Int}(h:Tr l):ay (scL c l)=ay l:=by
 unfold ay;by_cases hp:0<c
 ·rw[BO hp]
 ·rw[BP (by omega),DB (dX h)]
theorem kC{c:Int}(hc:c≠0){l:List Int}(h:Tr l):Tr (scL c l):=by intro n hn;rw[bJ]at hn;rw[aY];exact Nk hc (h n hn)
theorem DD{a b:List Int}{x y:Int}(hx:x≠0)(hy:y≠0)(ha:Tr a)(hb:Tr b)(h:∀k,x*cf a k=y*cf b k):ay a=ay b:=by
 have e:scL x a=scL y b:=mh (kC hx ha) (kC hy hb) λk=>by rw[aY,aY,h k]
 rw[<- n6 hx ha,e,n6 hy hb]
noncomputable def slopeL(l:List Int):List Int:=(List.range (l.length-1)).map λ(k:Nat)=>((k:Int)+1)*cf l (k+1)
noncomputable def lp(l:List Int)(m i n:Nat):Int:=if n%m=0/\n/m<i then cf l (n/m)else 0
noncomputable def rst(one other:List Int):List Int:=if other=[]then[]else aK one other
noncomputable def nxt(one other:List Int):List Int:=ak (bU [] (rst one other))
noncomputable def aW:Nat->List Int->List Int->List (List Int)
 |0,_,_=>[]
 |n+1,one,other=>if one=[]then[]else one::aW n other (nxt one other)
theorem kU(n:Nat)(o:List Int):aW n [] o=[]:=by cases n with |zero=>rfl |succ n=>show(if([]:List Int)=[]then _ else _)=_;rw[if_pos rfl]
noncomputable def up(f:Nat->Int)(n:Nat):Int:=if n=0 then 0 else f (n-1)
theorem vZ(x:Int)(a b:List Int)(n:Nat):∀j,sm (x::a) b n (j+1)=x*cf b n+(if n=0 then 0 else sm a b (n-1) j)
 |0=>by
  show 0+tm (x::a) b n 0=_;unfold tm;rw[if_pos (M9 _)];rw[zO,N4];by_cases h:n=0
  ·rw[if_pos h];omega
  ·rw[if_neg h];show _=_+0;omega
 |j+1=>by
  show sm (x::a) b n (j+1)+tm (x::a) b n (j+1)=_;rw[vZ x a b n j];by_cases h:n=0
  ·rw[if_pos h,if_pos h];unfold tm;rw[if_neg (by omega)];omega
  ·rw[if_neg h,if_neg h];show _=_+(sm a b (n-1) j+tm a b (n-1) j)
   have e:tm (x::a) b n (j+1)=tm a b (n-1) j:=by
    unfold tm;rw[pA];by_cases h2:j+1<=n
    ·rw[if_pos h2,if_pos (by omega)]
     congr 2;omega
    ·rw[if_neg h2,if_neg (by omega)]
   rw[e];omega
theorem cU(x:Int)(a b:List Int)(n:Nat):aq (x::a) b n=x*cf b n+up (aq a b) n:=vZ x a b n a.length
theorem dg(b:List Int)(n:Nat):aq [] b n=0:=rfl
theorem ug(x:Int)(a:List Int)(n:Nat):cf (x::a) n=(if n=0 then x else 0)+up (cf a) n:=by
 cases n with
 |zero=>show x=x+0;omega
 |succ n=>show cf a n=0+cf a n;omega
theorem rC(y:Int)(b:List Int):∀(a:List Int) (n:Nat),aq a (y::b) n=y*cf a n+up (aq a b) n
 | [],n=>by
  rw[dg,bM];unfold up;split
  ·simp
  ·rw[dg];simp
 |x::a,n=>by
  rw[cU,ug,ug];cases n with
  |zero =>show x*(y+0)+0=y*(x+0)+0;simp only[ND];exact Nm _ _
  |succ n =>show x*(0+cf b n)+aq a (y::b) n=y*(0+cf a n)+aq (x::a) b n;rw[rC y b a n,cU];simp only[NF];omega
theorem rB:∀(a:List Int) (n:Nat),aq a [] n=0
 | [],n=>rfl
 |x::a,n=>by
  rw[cU,bM];unfold up;split
  ·simp
  ·rw[rB a];simp
theorem eJ:∀(a b:List Int) (n:Nat),aq a b n=aq b a n
 | [],b,n=>by rw[rB];rfl
 |x::a,b,n=>by
  rw[cU,rC]
  congr 1
  unfold up;split
  ·rfl
  ·exact eJ a b _
theorem xG{a b c q:List Int}{x y:Int}{n:Nat}(h:∀k,cf c k=x*cf a k+y*cf b k):aq q c n=x*aq q a n+y*aq q b n:=by rw[eJ q c,di h,eJ q a,eJ q b]
theorem pB(a:List Int)(n:Nat):cf (0::a) n=up (cf a) n:=by rw[ug];split<;>omega
theorem xF(a b:List Int)(n:Nat):aq (0::a) b n=up (aq a b) n:=by rw[cU];omega
theorem j2:∀(a b c:List Int) (n:Nat),aq (ad a b) c n=aq a (ad b c) n
 | [],b,c,n=>by rw[dg,rz λk=>by rw[aE,dg]]
 |x::a,b,c,n=>by
  rw[cU,aE]
  have e:∀k,cf (ad (x::a) b) k=x*cf b k+1*cf (0::ad a b) k:=λk=>by
   rw[aE,cU,pB,Nv]
   congr 1
   unfold up;split
   ·rfl
   ·rw[aE]
  rw[di e,xF,Nv]
  congr 1
  unfold up;split
  ·rfl
  ·exact j2 a b c _
def Dv(d p:List Int):Prop:=∃(c:Int) (q:List Int),c≠0/\∀n,c*cf p n=aq q d n
theorem Dv.refl(d:List Int):Dv d d:=⟨1,[1],by decide,λn=>by rw[dO]⟩
theorem Dv.nil(d:List Int):Dv d []:=⟨1,[],by decide,λn=>by rw[bM,dg];rfl⟩
theorem Dv.trans{d e p:List Int}(h1:Dv d e)(h2:Dv e p):Dv d p:=by obtain⟨c1,q1,hc1,e1⟩:=h1;obtain⟨c2,q2,hc2,e2⟩:=h2;refine⟨c1*c2,ad q2 q1,Nk hc1 hc2,λn=>?_⟩;rw[j2,NG,e2,<- ly (b':=ad q1 d) (λk=>by rw[aE,e1])]
theorem Dv.up{d a b r q:List Int}{f:Int}(hf:f≠0)(h:∀n,f*cf a n=aq q b n+cf r n)(hb:Dv d b)(hr:Dv d r):Dv d a:=by obtain⟨c1,q1,hc1,e1⟩:=hb;obtain⟨c2,q2,hc2,e2⟩:=hr;refine⟨c1*c2*f,cW c1 (scL c2 (ad q q1)) q2,Nk (Nk hc1 hc2) hf,λn=>?_⟩;rw[di (a:=ad q q1) (b:=q2) (x:=c2) (y:=c1) (λk=>by rw[fS,aY]),j2,<- e2,ly (b:=b) (b':=ad q1 d) (c:=c1) (λk=>by rw[aE,e1])];have:=h n;grind
theorem Dv.down{d a b r q:List Int}{f:Int}(h:∀n,f*cf a n=aq q b n+cf r n)(ha:Dv d a)(hb:Dv d b):Dv d r:=by obtain⟨c1,q1,hc1,e1⟩:=ha;obtain⟨c2,q2,hc2,e2⟩:=hb;refine⟨c1*c2,cW (-c1) (scL (f*c2) q1) (ad q q2),Nk hc1 hc2,λn=>?_⟩;rw[di (a:=q1) (b:=ad q q2) (x:=f*c2) (y := -c1) (λk=>by rw[fS,aY]),j2,<- e1,ly (b:=b) (b':=ad q2 d) (c:=c2) (λk=>by rw[aE,e2])];have:=h n;grind
theorem Dv.prop_right{d p p':List Int}{x y:Int}(hx:x≠0)(h:∀n,x*cf p' n=y*cf p n)(hd:Dv d p):Dv d p':=by obtain⟨c,q,hc,e⟩:=hd;refine⟨c*x,scL y q,Nk hc hx,λn=>?_⟩;rw[di (a:=q) (b:=[]) (x:=y) (y:=0) (λk=>by rw[aY];simp),<- e];have:=h n;grind
theorem Dv.prop_left{d d' p:List Int}{x y:Int}(hx:x≠0)(hy:y≠0)(h:∀n,x*cf d' n=y*cf d n)(hd:Dv d p):Dv d' p :=
 Dv.trans (Dv.prop_right hy (λn=>(h n).symm) (Dv.refl d')) hd
theorem jV{l:List Int}(h:Tr l):∃g:Int,g≠0/\∀n,cf l n=g*cf (ay l) n:=by
 by_cases hl:l=[]
 ·subst hl;exact⟨1,by decide,λn=>by rw[bM];show 0=1*cf [] n;rw[bM];rfl⟩
 have hg:(au l:Int)≠0:=by obtain⟨r,x,rfl⟩:=(cF l).resolve_left hl;have hx:x≠0:=tr_snoc.mp h;have h1:0<au (r++[x]):=Nat.pos_of_dvd_of_pos (o7 (by simp:x∈r++[x])) (Oa.mpr hx);omega
 have e1:∀n,cf l n=(au l:Int)*cf (ak l) n:=λn=>by
  unfold ak;by_cases hn:n<l.length
  ·rw[cZ hn,cZ (by rw[MZ];exact hn),List.getElem_map];exact(Int.mul_ediv_cancel' (kc (NZ hn))).symm
  ·rw[bN (by omega),bN (by rw[MZ];omega),Nj]
 unfold ay cn;split
 ·refine⟨-(au l:Int),by omega,λn=>?_⟩
  have e2:cf ((ak l).map λx => -x) n = -cf (ak l) n:=by
   by_cases hn:n<(ak l).length
   ·rw[cZ hn,cZ (by rw[MZ];exact hn),List.getElem_map]
   ·rw[bN (l:=ak l) (by omega),bN (l:=(ak l).map λx => -x) (by rw[MZ];omega)];rfl
  rw[e1,e2];grind
 ·exact⟨_,hg,e1⟩
theorem Dv.plain{d p:List Int}(hp:Tr p):Dv d (ay p)↔Dv d p:=by obtain⟨g,hg,e⟩:=jV hp;exact⟨λh=>Dv.prop_right (x:=1) (y:=g) (by decide) (λn=>by rw[e];omega) h,λh=>Dv.prop_right (x:=g) (y:=1) hg (λn=>by rw[<- e];omega) h⟩
theorem plain_len(l:List Int):(ay l).length=l.length:=by unfold ay cn ak;split<;>simp
theorem fu{l:List Int}(h:Tr l):Tr (ay l):=A8 (dX h)
noncomputable def cb:Nat->List Int->List Int->List Int
 |0,one,_=>one
 |n+1,one,other=>if other=[]then one else cb n other (ay (aK one other))
theorem zE(n:Nat)(one:List Int):cb n one []=one:=by cases n<;>rfl
theorem Kf{n:Nat}{one other:List Int}(h:other≠[]):cb (n+1) one other=cb n other (ay (aK one other)):=by show(if other=[]then one else cb n other (ay (aK one other)))=_;rw[if_neg h]
theorem zD:∀(n:Nat) (one other:List Int),other.length<=n->Tr one->Tr other->Tr (cb n one other)/\Dv (cb n one other) one/\Dv (cb n one other) other/\(∀d,Dv d one->Dv d other->Dv d (cb n one other))/\(one≠[]\/other≠[]->cb n one other≠[])/\(cb n one other=one\/cb n one other=other\/∃l,Tr l/\cb n one other=ay l)
 |n,one,[],_,t1,_=>by rw[zE];exact⟨t1,Dv.refl _,Dv.nil _,λd h _=>h,λh=>h.resolve_right λz=>z rfl,.inl rfl⟩
 |0,one,x::o,h,_,_=>absurd h (Nat.not_succ_le_zero _)
 |n+1,one,x::o,h,t1,t2=>by
  have hne:x::o≠[]:=λz=>nomatch z
  rw[Kf hne];generalize x::o=other at h t2 hne
  have tr:=dU one other;have hl:=fc (a:=one) hne;obtain⟨c1,c2,c3,c4,c5,c6⟩:=zD n other (ay (aK one other)) (by rw[plain_len];omega) t2 (fu tr);have eq:=λk=>fL (a:=one) hne k
  refine⟨c1,Dv.up (mi (a:=one) hne t2) eq c2 ((Dv.plain tr).mp c3),c2,λd h1 h2=>c4 d h2 ((Dv.plain tr).mpr (Dv.down eq h1 h2)),λ_=>c5 (.inl hne),?_⟩;rcases c6 with e |e |e
  ·exact .inr (.inl e)
  ·exact .inr (.inr ⟨_,tr,e⟩)
  ·exact .inr (.inr e)
def Cop(a:List Int)(m:Nat):Prop:=∀k:Nat,k∣m->(∀n,(k:Int)∣cf a n)->k=1
theorem sG:∀(N:Nat) (a b:List Int) (m:Nat),a.length+b.length<=N->Cop a m->Cop b m->(∀n,(m:Int)∣aq a b n)->m=1
 |_,[],b,m,_,h1,_,_=>h1 m (Nat.dvd_refl _) λn=>by rw[bM];exact Int.dvd_zero _
 |_,_::_,[],m,_,_,h2,_=>h2 m (Nat.dvd_refl _) λn=>by rw[bM];exact Int.dvd_zero _
 |0,_::_,_::_,_,h,_,_,_=>absurd h (by simp)
 |N+1,x::a,y::b,m,h,h1,h2,h3=>by
  have d1:Nat.gcd m x.natAbs=1:=by
   refine sG N a (y::b) _ (by simp at h ⊢;omega) (λk hk hn=>h1 k (OH hk (N3 _ _)) λn=>?_) (λk hk=>h2 k (OH hk (N3 _ _))) λn=>?_
   ·cases n with
    |zero=>exact Oc.mpr (OH hk (Ob _ _))
    |succ n=>exact hn n
   ·have e:=cU x a (y::b) (n+1);have g1:((Nat.gcd m x.natAbs:Nat):Int)∣aq (x::a) (y::b) (n+1):=Int.dvd_trans (Int.ofNat_dvd.mpr (N3 _ _)) (h3 _);have g2:((Nat.gcd m x.natAbs:Nat):Int)∣x*cf (y::b) (n+1):=Int.dvd_mul_of_dvd_left (Oc.mpr (Ob _ _))
    have e2:aq a (y::b) n=aq (x::a) (y::b) (n+1)-x*cf (y::b) (n+1):=by rw[e];show _=_+aq a (y::b) n-_;omega
    rw[e2];exact Int.dvd_sub g1 g2
  have d2:Nat.gcd m y.natAbs=1:=by
   refine sG N (x::a) b _ (by simp at h ⊢;omega) (λk hk=>h1 k (OH hk (N3 _ _))) (λk hk hn=>h2 k (OH hk (N3 _ _)) λn=>?_) λn=>?_
   ·cases n with
    |zero=>exact Oc.mpr (OH hk (Ob _ _))
    |succ n=>exact hn n
   ·have e:=rC y b (x::a) (n+1);have g1:((Nat.gcd m y.natAbs:Nat):Int)∣aq (x::a) (y::b) (n+1):=Int.dvd_trans (Int.ofNat_dvd.mpr (N3 _ _)) (h3 _);have g2:((Nat.gcd m y.natAbs:Nat):Int)∣y*cf (x::a) (n+1):=Int.dvd_mul_of_dvd_left (Oc.mpr (Ob _ _))
    have e2:aq (x::a) b n=aq (x::a) (y::b) (n+1)-y*cf (x::a) (n+1):=by rw[e];show _=_+aq (x::a) b n-_;omega
    rw[e2];exact Int.dvd_sub g1 g2
  have h0:=h3 0;rw[cU]at h0
  have h0':m∣x.natAbs*y.natAbs:=by
   rw[<- Ni];refine Oc.mp ?_
   have e:x*cf (y::b) 0+up (aq a (y::b)) 0=x*y:=by show x*y+0=x*y;omega
   rwa [e]at h0
  have h4:m∣y.natAbs:=Nat.Coprime.dvd_of_dvd_mul_left d1 h0';rw[Nat.gcd_eq_left h4]at d2;exact d2
theorem FN{l:List Int}{v:Int}(h:v∈l):∃n,n<l.length/\cf l n=v:=by obtain⟨n,hn,e⟩:=OG h;exact⟨n,hn,by rw[cZ hn,e]⟩
theorem zB{a:List Int}{m:Nat}(h:au a=1):Cop a m:=λk _ hn=>by
 have:k∣au a:=dvd_gcdL.mpr λv hv=>by obtain⟨n,_,rfl⟩:=FN hv;exact Oc.mp (hn n)
 rw[h]at this;exact Nat.dvd_one.mp this
theorem Dy{a b:List Int}(ha:au a=1)(hb:au b=1):au (ad a b)=1:=by
 refine sG _ a b _ (M0 _) (zB ha) (zB hb) λn=>?_
 rw[<- aE];by_cases hn:n<(ad a b).length
 ·rw[cZ hn];exact kc (NZ hn)
 ·rw[bN (by omega)];exact Int.dvd_zero _
structure Pln(l:List Int):Prop where
 tr:Tr l
 ne:l≠[]
 prim:au l=1
 pos:0<ap l
theorem oO{l:List Int}(h:Tr l)(hne:l≠[]):ap l≠0:=by have:=M5.mpr hne;exact h (l.length-1) (by omega)
theorem Pln.plain{l:List Int}(h:Pln l):ay l=l:=by unfold ay;rw[BQ (.inr h.prim)];unfold cn;rw[if_neg (by have:=h.pos;omega)]
theorem qI{l:List Int}:scL (au l:Int) (ak l)=l:=by unfold scL ak;rw[NH];refine(Ow (g:=id) λx hx=>?_).trans (List.map_id _);exact Int.mul_ediv_cancel' (kc hx)
theorem eD{l:List Int}(h:Tr l)(hne:l≠[]):Pln (ay l):=by
 have hg:0<au l:=by obtain⟨r,x,rfl⟩:=(cF l).resolve_left hne;have hx:x≠0:=tr_snoc.mp h;exact Nat.pos_of_dvd_of_pos (o7 (by simp:x∈r++[x])) (Oa.mpr hx)
 have h1:au (ak l)=1:=by have e:=sD (au l:Int) (ak l);rw[qI,Nr]at e;exact Pe hg (by rw[<- e,Nat.mul_one])
 have hs:ak l≠[]:=λz=>hne (by have:=congrArg List.length z;unfold ak at this;simpa using this)
 have hl:=oO (dX h) hs
 have hp:au (ay l)=1:=by
  rcases Dw (.inr h1:ku (ak l))with z |z
  ·exact absurd (congrArg List.length z) (by
    have:=plain_len l;unfold ay at this
    rw[this]
    exactλq=>hne (Om.mp q))
  ·exact z
 refine⟨fu h,λz=>hne (Om.mp (by rw[<- plain_len,z];rfl)),hp,?_⟩;unfold ay cn;split
 ·rw[ye];omega
 ·omega
theorem ba{a b:List Int}(ha:a≠[])(hb:b≠[]):(ad a b).length=a.length+b.length-1:=by unfold ad;rw[if_neg (λz=>z.elim ha hb),MZ,N2]
theorem rX{a b:List Int}(ha:a≠[])(hb:b≠[]):ap (ad a b)=ap a*ap b:=by
 have h1:=M5.mpr ha;have h2:=M5.mpr hb;unfold ap;rw[ba ha hb,aE];have e:a.length+b.length-1-1=(a.length-1)+(b.length-1):=by omega
 rw[e,rA (by omega) (by omega)]
theorem Pln.mul{a b:List Int}(ha:Pln a)(hb:Pln b):Pln (ad a b):=by
 refine⟨mY ha.tr hb.tr,λz=>?_,Dy ha.prim hb.prim,by rw[rX ha.ne hb.ne];exact M6 ha.pos hb.pos⟩;have h1:=M5.mpr ha.ne;have h2:=M5.mpr hb.ne;have:=ba ha.ne hb.ne;rw[z]at this;simp at this
 omega
theorem xg{p q d:List Int}{c:Int}(hc:c≠0)(hp:Tr p)(hpn:p≠[])(hq:Tr q)(hd:Pln d)(h:∀n,c*cf p n=aq q d n):ad (ay q) d=ay p:=by
 have hqn:q≠[]:=λz=>by have h1:=M5.mpr hpn;have h2:=h (p.length-1);rw[z,dg]at h2;exact Nk hc (hp (p.length-1) (by omega)) h2
 obtain⟨g,hg,e⟩:=jV hq;have hm:=(eD hq hqn).mul hd;rw[<- hm.plain];refine DD hg hc hm.tr hp λk=>?_
 rw[h,aE,di (a:=ay q) (b:=[]) (x:=g) (y:=0) (c:=q) (λk=>by rw[e];simp),dg];simp
theorem Dv.trim{d p:List Int}(h:Dv d p):∃(c:Int) (q:List Int),c≠0/\Tr q/\∀n,c*cf p n=aq q d n:=by obtain⟨c,q,hc,e⟩:=h;exact⟨c,RM.trim q,hc,dM q,λn=>by rw[e];exact(oq (λk=>fg q k) λ_=>rfl).symm⟩
theorem Dv.fellow{d p:List Int}(hd:Pln d)(hp:Tr p)(hpn:p≠[])(h:Dv d p):∃q,Pln q/\ad q d=ay p:=by
 obtain⟨c,q,hc,hq,e⟩:=h.trim
 have hqn:q≠[]:=λz=>by have h1:=M5.mpr hpn;have h2:=e (p.length-1);rw[z,dg]at h2;exact Nk hc (hp (p.length-1) (by omega)) h2
 exact⟨ay q,eD hq hqn,xg hc hp hpn hq hd e⟩
theorem Pln.const{l:List Int}(h:Pln l)(h1:l.length=1):l=[1]:=by
 obtain⟨x,rfl⟩:∃x,l=[x]:=OT.mp h1;have h2:=h.prim;rw[HW]at h2;have h3:0<x:=h.pos;have:x=1:=by omega
 rw[this]
theorem one_mul(l:List Int)(h:Tr l):ad [1] l=l:=by
 refine mh (mY (tr_snoc (r:=[]).mpr (by decide)) h) h λk=>?_
 rw[aE,dO];omega
theorem q8{a b:List Int}(ha:Pln a)(hb:Pln b)(h1:Dv a b)(h2:Dv b a):a=b:=by obtain⟨q,hq,e⟩:=h1.fellow ha hb.tr hb.ne;obtain⟨r,hr,e'⟩:=h2.fellow hb ha.tr ha.ne;rw[hb.plain]at e;rw[ha.plain]at e';have l1:=ba hq.ne ha.ne;have l2:=ba hr.ne hb.ne;rw[e]at l1;rw[e']at l2;have p1:=M5.mpr hq.ne;have p2:=M5.mpr hr.ne;have p3:=M5.mpr ha.ne;have hq1:=hq.const (by omega);rw[hq1,one_mul a ha.tr]at e;exact e
theorem Dv.short{d r:List Int}(hd:d≠[])(hdt:Tr d)(hr:Tr r)(hl:r.length<d.length)(h:Dv d r):r=[]:=by
 obtain⟨c,q,hc,e⟩:=h;have z:=xE hd hdt (d:=q) λn hn=>by rw[<- e,bN (by omega),Nj]
 refine rq hr λk=>?_
 have h1:=e k;rw[rz z]at h1;exact(NR.mp h1).resolve_left hc
theorem Dv.rest{d p:List Int}(hd:d≠[])(hdt:Tr d)(h:Dv d p):aK p d=[] :=
 Dv.short hd hdt (dU _ _) (fc hd) (Dv.down (λn=>fL (a:=p) hd n) h (Dv.refl d))
theorem Dv.mul_right(a b:List Int):Dv b (ad a b):=⟨1,a,by decide,λn=>by rw[aE];omega⟩
theorem Dv.mul_left(a b:List Int):Dv a (ad a b):=⟨1,b,by decide,λn=>by rw[aE,eJ];omega⟩
theorem ub{x1 x2 N D t b:Int}(hx:0<x2)(hD:0<D)(e:x1*D=N*x2)(h:N*b<t*D):x1*b<t*x2:=by
 refine NT (a:=D) ?_ (M7 hD)
 have h1:x1*b*D=N*b*x2:=by
  calc x1*b*D=x1*D*b:=by grind
   _=N*x2*b:=by rw[e]
   _=N*b*x2:=by grind
 have h2:t*x2*D=t*D*x2:=by grind
 rw[h1,h2];exact NM h hx
theorem Lm{l1 l2 r1 r2 pl pc a1 a2 c1 c2 x1 x2:Int}(ha:0<a2)(hc:0<c2)(e1:a1*pc=pl*a2)(e2:c1*(r2*a2)=r1*a1*c2)(e3:x1*(l2*c2)=(l1*c2+c1*l2)*x2) :
 x1*(l2*r2*pc)=(l1*r2*pc+r1*l2*pl)*x2:=by
 have h0:c2*a2≠0:=Ny (M6 hc ha);refine OU h0 ?_
 calc x1*(l2*r2*pc)*(c2*a2)=x1*(l2*c2)*(r2*pc*a2):=by grind
  _=(l1*c2+c1*l2)*x2*(r2*pc*a2):=by rw[e3]
  _=x2*(l1*c2*r2*pc*a2+l2*pc*(c1*(r2*a2))):=by grind
  _=x2*(l1*c2*r2*pc*a2+l2*pc*(r1*a1*c2)):=by rw[e2]
  _=x2*c2*(l1*r2*pc*a2+l2*r1*(a1*pc)):=by grind
  _=x2*c2*(l1*r2*pc*a2+l2*r1*(pl*a2)):=by rw[e1]
  _=(l1*r2*pc+r1*l2*pl)*x2*(c2*a2):=by grind
theorem Kt{l r:Int}(hl:0<l)(hr:0<r){g:Nat}(hg:g=Nat.gcd l.natAbs r.natAbs):∃l' r':Int,0<l'/\0<r'/\(0:Int)<g/\l=g*l'/\r=g*r'/\l*r/g=l*r'/\l*r'/l=r'/\l*r'/r=l'/\0<l*r':=by
 have g0:0<g:=by rw[hg];exact Nat.gcd_pos_of_pos_left _ (by omega)
 have gi:(0:Int)<g:=by omega
 obtain⟨l',hl'⟩:(g:Int)∣l:=O4.mp (by rw[Nr,hg];exact N3 _ _);obtain⟨r',hr'⟩:(g:Int)∣r:=O4.mp (by rw[Nr,hg];exact Ob _ _);have l0:0<l':=Pg (a:=(g:Int)) (by rw[Nj,<- hl'];exact hl) (M7 gi);have r0:0<r':=Pg (a:=(g:Int)) (by rw[Nj,<- hr'];exact hr) (M7 gi);refine⟨l',r',l0,r0,gi,hl',hr',?_,?_,?_,M6 hl r0⟩
 ·have e:l*r=(l*r')*g:=by
   calc l*r=l*(g*r'):=by rw[<- hr']
    _=(l*r')*g:=by grind
  rw[e];exact Int.mul_ediv_cancel _ (Ny gi)
 ·exact O8 _ (Ny hl)
 ·have e:l*r'=l'*r:=by
   calc l*r'=(g*l')*r':=by rw[<- hl']
    _=l'*(g*r'):=by grind
    _=l'*r:=by rw[<- hr']
  rw[e];exact Int.mul_ediv_cancel _ (Ny hr)
noncomputable def bV:List Int->List Int
 | []=>[]
 |v::l=>2^l.length*v::bV l
theorem m9:∀l,(bV l).length=l.length
 | []=>rfl
 |v::l=>by show(bV l).length+1=_;rw[m9 l];rfl
theorem yI(p q:Int):∀l,2*hv p q (bV l)=hv p (2*q) l
 | []=>by show 2*0=(0:Int);rfl
 |v::l=>by have ih:=yI p q l;show 2*(2^l.length*v*q^((bV l).length+1)+p*hv p q (bV l))=v*(2*q)^(l.length+1)+p*hv p (2*q) l;rw[m9,<- ih,Int.mul_pow,Nn 2];grind
noncomputable def suf:List Int->List Int
 | []=>[]
 |v::l=>(v+(suf l).headD 0)::suf l
theorem iz:∀l,(suf l).length=l.length
 | []=>rfl
 |v::l=>by show(suf l).length+1=_;rw[iz l];rfl
theorem vL(p q:Int):∀l,hv (p+q) q l=(suf l).headD 0*q^l.length+p*hv (p+q) q ((suf l).tail)
 | []=>by show(0:Int)=0*q^0+p*0;omega
 |v::l=>by
  have ih:=vL p q l;show v*q^(l.length+1)+(p+q)*hv (p+q) q l=(v+(suf l).headD 0)*q^(l.length+1)+p*hv (p+q) q (suf l);cases hs:suf l with
  |nil =>
   have hl:l=[]:=by have:=iz l;rw[hs]at this;exact On this.symm
   subst hl;show v*q^1+(p+q)*0=(v+0)*q^1+p*0;grind
  |cons g r =>
   rw[hs]at ih;have hl:r.length+1=l.length:=by have:=iz l;rw[hs]at this;exact this
   have ih':hv (p+q) q l=g*q^l.length+p*hv (p+q) q r:=ih;show v*q^(l.length+1)+(p+q)*hv (p+q) q l=(v+g)*q^(l.length+1)+p*(g*q^(r.length+1)+(p+q)*hv (p+q) q r);rw[ih',hl,Nn];grind
noncomputable def cR:Nat->List Int->List Int
 |0,m=>suf m
 |_+1,[]=>[]
 |i+1,c::m=>c::cR i m
theorem rh:∀(i:Nat) (m:List Int),(cR i m).length=m.length
 |0,m=>iz m
 |_+1,[]=>rfl
 |i+1,c::m=>by show(cR i m).length+1=_;rw[rh i m];rfl
noncomputable def dP(p q:Int):Nat->List Int->Int
 |0,m=>hv (p+q) q m
 |_+1,[]=>0
 |i+1,c::m=>c*q^(m.length+1)+p*dP p q i m
theorem xQ(p q:Int):∀(i:Nat) (m:List Int),dP p q (i+1) (cR i m)=dP p q i m
 |0,m=>by
  show dP p q 1 (suf m)=hv (p+q) q m;rw[vL];cases hs:suf m with
  |nil =>show(0:Int)=0*q^m.length+p*hv (p+q) q [];rw[oX];omega
  |cons g r =>
   have hl:r.length+1=m.length:=by have:=iz m;rw[hs]at this;exact this
   show g*q^(r.length+1)+p*hv (p+q) q r=g*q^m.length+p*hv (p+q) q r;rw[hl]
 |i+1,[]=>rfl
 |i+1,c::m=>by show c*q^((cR i m).length+1)+p*dP p q (i+1) (cR i m)=c*q^(m.length+1)+p*dP p q i m;rw[xQ p q i m,rh]
theorem xS(p q:Int):∀(i:Nat) (m:List Int),m.length<=i+1->dP p q i m=hv p q m
 |0,[],_=>rfl
 |0,[c],_=>by show c*q^1+(p+q)*0=c*q^1+p*0;omega
 |0,_::_::_,h=>absurd h (by simp)
 |_+1,[],_=>rfl
 |i+1,c::m,h=>by show c*q^(m.length+1)+p*dP p q i m=c*q^(m.length+1)+p*hv p q m;rw[xS p q i m (by simpa using h)]
noncomputable def dE:Nat->List Int->List Int
 |0,l=>l
 |i+1,l=>cR i (dE i l)
theorem oA:∀(i:Nat) (l:List Int),(dE i l).length=l.length
 |0,_=>rfl
 |i+1,l=>by show(cR i (dE i l)).length=_;rw[rh,oA i l]
theorem xR(p q:Int):∀(i:Nat) (l:List Int),dP p q i (dE i l)=hv (p+q) q l
 |0,_=>rfl
 |i+1,l=>by show dP p q (i+1) (cR i (dE i l))=_;rw[xQ,xR p q i l]
noncomputable def lC(l:List Int):List Int:=dE (l.length-1) l
theorem xN(l:List Int):(lC l).length=l.length:=oA _ _
theorem HG(p q:Int)(l:List Int):hv p q (lC l)=hv (p+q) q l:=by rw[<- xR p q (l.length-1) l];exact(xS p q (l.length-1) _ (by rw[xN];omega)).symm
theorem yG:∀l:List Int,hv 1 1 l=l.sum
 | []=>rfl
 |v::l=>by show v*1^(l.length+1)+1*hv 1 1 l=v+l.sum;rw[yG l,Int.one_pow];omega
noncomputable def bj(m s0 s1:Int):List Int->List Int
 | []=>[]
 |v::l=>mb (-s0) s1 (v*m^l.length) (bj m s0 s1 l)
theorem iA(m s0 s1:Int):∀l,(bj m s0 s1 l).length=l.length
 | []=>rfl
 |v::l=>by show(mb _ _ _ _).length=_;rw[oE,iA m s0 s1 l];rfl
theorem yH(m s0 s1 p q:Int):∀l,m*hv p q (bj m s0 s1 l)=hv (s0*q+s1*p) (m*q) l
 | []=>by show m*0=(0:Int);omega
 |v::l=>by have ih:=yH m s0 s1 p q l;show m*hv p q (mb (-s0) s1 (v*m^l.length) (bj m s0 s1 l))=v*(m*q)^(l.length+1)+(s0*q+s1*p)*hv (s0*q+s1*p) (m*q) l;rw[yM,iA,<- ih,Int.mul_pow,Nn m];grind
theorem vM(m s0 s1:Int):∀l,cf (bj m s0 s1 l) (l.length-1)=cf l (l.length-1)*s1^(l.length-1)
 | []=>by show(0:Int)=0*_;omega
 | [v]=>by show cf (mb (-s0) s1 (v*m^0) []) 0=v*s1^0;rw[hJ,if_pos rfl,bM,NP,NP];omega
 |v::u::l=>by have ih:=vM m s0 s1 (u::l);show cf (mb (-s0) s1 _ (bj m s0 s1 (u::l))) (l.length+1)=cf (u::l) l.length*s1^(l.length+1);rw[hJ,if_neg (by omega)];have e1:cf (bj m s0 s1 (u::l)) (l.length+1)=0:=bN (by rw[iA];exact M0 _);have e2:cf (bj m s0 s1 (u::l)) (l.length+1-1)=cf (u::l) l.length*s1^l.length:=ih;rw[e1,e2,Nn];grind
theorem da{x p:Int}(hp:0<p):sg (p*x)=sg x:=by rw[Nm];exact qL hp
theorem Fy{t h v:Int}{T X V:Nat}(ht:t.natAbs=T)(hh:X<=h.natAbs)(hv:v.natAbs<=V):T*X<=(v+t*h).natAbs+V:=by subst ht;have e1:t.natAbs*h.natAbs=(t*h).natAbs:=(Ni t h).symm;have e2:t.natAbs*X<=t.natAbs*h.natAbs:=Oo _ hh;have e3:=OI (v+t*h) v;rw[Int.add_comm v,Int.add_sub_cancel,Int.add_comm _ v]at e3;rw[e1]at e2;exact Nb e2 (Nb e3 (Nat.add_le_add_left hv _))
theorem zU{B n:Nat}{t:Int}(hn:0<n)(hB:1<=B)(ht:B*n<=t.natAbs)(z:Int):∀os:List Int,(∀x∈os,x.natAbs<=(B-1)*z.natAbs)->z.natAbs*n^(os.length+1)<=(hv t n (os++[z])).natAbs
 | [],_=>by show z.natAbs*n^1<=(z*(n:Int)^1+t*0).natAbs;rw[Nj,ND,Ni,Int.natAbs_pow,Nr];exact M0 _
 |v::os,h=>by
  have ih:=zU hn hB ht z os (λx hx=>h x (M8 _ hx));have hvv:=h v (Na ..);rw[List.cons_append,cN]
  have e1:(v*(n:Int)^((os++[z]).length+1)).natAbs<=(B-1)*z.natAbs*n^(os.length+2):=by
   rw[Ni,Int.natAbs_pow,Nr];have:(os++[z]).length+1=os.length+2:=by simp
   rw[this];exact NK _ hvv
  have e2:=Fy (t:=t) rfl ih e1;have e3:B*n*(z.natAbs*n^(os.length+1))<=t.natAbs*(z.natAbs*n^(os.length+1)):=NK _ ht;have e4:(v::os).length+1=os.length+2:=by simp
  rw[e4];have e5:n^(os.length+2)=n*n^(os.length+1):=by rw[OF,Ov]
  rw[e5]at e2 ⊢;generalize n^(os.length+1)=p at *
  generalize (v*(n:Int)^((os++[z]).length+1)+t*hv t n (os++[z])).natAbs=W at *
  obtain⟨C,rfl⟩:∃C,B=C+1:=⟨B-1,by omega⟩
  have e6:(C+1)*n*(z.natAbs*p)=C*z.natAbs*(n*p)+z.natAbs*(n*p):=by grind
  have e7:C+1-1=C:=rfl;rw[e7]at e2;omega
theorem sw{t n x y:Int}:∀(a b c:List Int),a.length=c.length->b.length=c.length->(∀k,cf c k=x*cf a k+y*cf b k)->hv t n c=x*hv t n a+y*hv t n b
 | [],[],[],_,_,_=>by simp[oX]
 |u::a,v::b,w::c,ha,hb,h=>by
  have h0:w=x*u+y*v:=h 0;have ih:=sw (t:=t) (n:=n) (x:=x) (y:=y) a b c (by simpa using ha) (by simpa using hb) (λk=>h (k+1));have la:a.length=c.length:=by simpa using ha
  have lb:b.length=c.length:=by simpa using hb
  rw[cN,cN,cN,ih,h0,la,lb];generalize n^(c.length+1)=p;grind
 | [],_::_,[],_,h,_=>by simp at h
 |_::_,_,[],h,_,_=>by simp at h
 | [],_,_::_,h,_,_=>by simp at h
 |_::_,[],_::_,_,h,_=>by simp at h
theorem sv(t n g:Int)(l:List Int):hv t n (scL g l)=g*hv t n l:=by have:=sw (t:=t) (n:=n) (x:=g) (y:=0) l l (scL g l) (by rw[bJ]) (by rw[bJ]) (λk=>by rw[aY];simp);rw[this];simp
theorem yF(t n:Int):∀(k:Nat) (l:List Int),hv t n (l++List.replicate k 0)=n^k*hv t n l
 |k,[]=>by
  rw[List.nil_append,oX,Nj]
  induction k with
  |zero=>rfl
  |succ k ih=>rw[Oh,cN,ih];simp
 |k,v::l=>by
  rw[List.cons_append,cN,yF t n k l,cN];have:(l++List.replicate k (0:Int)).length+1=l.length+1+k:=by simp;omega
  rw[this,Int.pow_add];generalize n^(l.length+1)=p;generalize n^k=q;grind
theorem Kl(l:List Int)(k j:Nat):cf (l++List.replicate k 0) j=cf l j:=by
 by_cases h:j<l.length
 ·rw[zR h]
 ·rw[mr (by omega),mn,bN (by omega)]
theorem oY(t n:Int){b:List Int}(hb:b≠[]):∀{a:List Int},a≠[]->n*hv t n (ad a b)=hv t n a*hv t n b
 | [x],_=>by
  have e:ad [x] b=scL x b:=by
   apply cY
   ·rw[ba (by simp) hb,bJ];simp
   ·intro k _;rw[aE,dO,aY]
  rw[e,sv,yL];grind
 |x::y::a,_=>by
  have ih:=oY t n hb (a:=y::a) (by simp);have lm:(ad (x::y::a) b).length=(y::a).length+b.length:=by rw[ba (by simp) hb,Nq];omega
  have lm2:(ad (y::a) b).length+1=(y::a).length+b.length:=by rw[ba (by simp) hb];have:=M5.mpr hb;rw[Nq];omega
  have e:=sw (t:=t) (n:=n) (x:=x) (y:=1) (b++List.replicate (y::a).length 0) (0::ad (y::a) b) (ad (x::y::a) b) (by rw[lm,Nh,O2];omega) (by rw[lm,Nq,lm2])
   (λk=>by rw[aE,cU,Kl,pB];rw[Nv];congr 1;unfold up;split<;>first |rfl |rw[aE])
  rw[e,yF,cN (v:=0),cN (v:=x)];have:n*(x*(n^(y::a).length*hv t n b)+1*(0*n^((ad (y::a) b).length+1)+t*hv t n (ad (y::a) b)))=x*(n^(y::a).length*n)*hv t n b+t*(n*hv t n (ad (y::a) b)):=by grind
  rw[this,ih,<- Nn];grind
noncomputable def pr(t n:Int):List (List Int)->Int
 | []=>1
 |s::ss=>hv t n s*pr t n ss
noncomputable def sl:List (List Int)->Nat
 | []=>0
 |s::ss=>s.length+sl ss
theorem ou{a b:List Int}(ha:a≠[])(hb:b≠[]):ad a b≠[]:=λz=>by have:=ba ha hb;rw[z]at this;have h1:=M5.mpr ha;have h2:=M5.mpr hb;rw[OV]at this;omega
noncomputable def bH(acc:List Int)(ss:List (List Int)):List Int:=ss.foldl ad acc
theorem q5:∀(ss:List (List Int)) (acc:List Int),acc≠[]->Tr acc->(∀s∈ss,s≠[]/\Tr s)->bH acc ss≠[]/\Tr (bH acc ss)/\(bH acc ss).length+ss.length=acc.length+sl ss
 | [],acc,h1,h2,_=>⟨h1,h2,by simp[bH,sl]⟩
 |s::ss,acc,h1,h2,h3=>by have hs:=h3 s (Na ..);obtain⟨a,b,c⟩:=q5 ss (ad acc s) (ou h1 hs.1) (mY h2 hs.2) (λx hx=>h3 x (M8 _ hx));refine⟨a,b,?_⟩;have l:=ba h1 hs.1;have p1:=M5.mpr h1;have p2:=M5.mpr hs.1;show(bH (ad acc s) ss).length+(ss.length+1)=acc.length+(s.length+sl ss);omega
theorem yK(t n:Int):∀(ss:List (List Int)) (acc:List Int),acc≠[]->(∀s∈ss,s≠[])->n^ss.length*hv t n (bH acc ss)=hv t n acc*pr t n ss
 | [],acc,_,_=>by show n^0*hv t n acc=hv t n acc*1;simp
 |s::ss,acc,h1,h3=>by have hs:=h3 s (Na ..);have ih:=yK t n ss (ad acc s) (ou h1 hs) (λx hx=>h3 x (M8 _ hx));have e:=oY t n hs h1;show n^(ss.length+1)*hv t n (bH (ad acc s) ss)=hv t n acc*(hv t n s*pr t n ss);rw[Nn,Nm _ n,NG,ih,<- NG,e,NG]
theorem m7{r:List Int}(h:Tr r):bU [] r=scL (-1) r:=by
 refine mh (dM _) (kC (by decide) h) λk=>?_
 unfold bU;rw[fg,fS,aY,bM];omega
theorem J3{a b:List Int}(hb:b≠[])(hbt:Tr b):0<bC a b:=by
 have h:=mi (a:=a) hb hbt
 have h2:0<=bC a b:=by
  unfold bC;generalize aS a b=n
  induction n with
  |zero=>rw[NP];decide
  |succ n ih=>rw[Nn];exact NE ih (O9 _)
 omega
theorem wx{n:Nat}{one:List Int}(h:one≠[])(hn:0<n):aW n one []=[one]:=by obtain⟨m,rfl⟩:∃m,n=m+1:=⟨n-1,by omega⟩;show(if one=[]then[]else one::aW m [] (nxt one []))=_;rw[if_neg h,kU]
noncomputable def Ends:Nat->List Int->List Int->Prop
 |0,one,_=>one=[]
 |n+1,one,other=>one=[]\/Ends n other (nxt one other)
noncomputable def gr(B:Nat):Nat->Nat
 |0=>B
 |1=>2*B
 |k+2=>2*gr B (k+1)+gr B k
theorem HN(B:Nat):∀k,gr B k<=gr B (k+1)
 |0=>by show B<=2*B;omega
 |k+1=>by show gr B (k+1)<=2*gr B (k+1)+gr B k;omega
theorem dS(B:Nat){j k:Nat}(h:j<=k):gr B j<=gr B k:=by
 induction h with
 |refl=>exact M0 _
 |step _ ih=>exact Nb ih (HN B _)
theorem sy(B j:Nat):∀d,gr B j+(d+2)*gr B (j+1)<=gr B (j+2+d)
 |0=>by show gr B j+2*gr B (j+1)<=2*gr B (j+1)+gr B j;omega
 |d+1=>by
  have ih:=sy B j d
  have e:gr B (j+2+(d+1))=2*gr B (j+2+d)+gr B (j+1+d):=by
   have:j+2+(d+1)=(j+1+d)+2:=by omega
   rw[this];show 2*gr B (j+1+d+1)+gr B (j+1+d)=_;have e2:j+1+d+1=j+2+d:=by omega
   rw[e2]
  have hm:gr B (j+1)<=gr B (j+1+d):=dS B (by omega);rw[e,Nat.add_mul]at *;have e3:(d+1)*gr B (j+1)=d*gr B (j+1)+gr B (j+1):=by rw[Nat.add_mul,Nat.one_mul]
  omega
theorem eK(a:List Int):ad [] a=[]:=by unfold ad;rw[if_pos (.inl rfl)]
theorem fK(a:List Int):ad a []=[]:=by unfold ad;rw[if_pos (.inr rfl)]
theorem j4(a b:List Int):ad a b=ad b a:=by
 by_cases ha:a=[]
 ·rw[ha,eK,fK]
 by_cases hb:b=[]
 ·rw[hb,eK,fK]
 refine cY ?_ λk _=>?_
 ·rw[ba ha hb,ba hb ha];omega
 ·rw[aE,aE,eJ]
theorem j3{a b:List Int}(ha:a≠[])(hb:b≠[]):ad a b≠[]:=λz=>by have:=ba ha hb;rw[z,OV]at this;have:=M5.mpr ha;have:=M5.mpr hb;omega
theorem gB(a b c:List Int):ad (ad a b) c=ad a (ad b c):=by
 by_cases ha:a=[]
 ·rw[ha,eK,eK,eK]
 by_cases hb:b=[]
 ·rw[hb,eK,fK,eK]
 by_cases hc:c=[]
 ·rw[hc,fK,fK,fK]
 have h1:=j3 ha hb;have h2:=j3 hb hc;refine cY ?_ λk _=>?_
 ·have:=M5.mpr hb;rw[ba h1 hc,ba ha h2,ba ha hb,ba hb hc];obtain⟨y,ey⟩:=Nat.exists_eq_succ_of_ne_zero (Nat.ne_of_gt this);rw[ey,Nat.succ_add,Nat.add_succ,Nat.succ_sub_one,Nat.succ_sub_one,Nat.add_assoc]
 ·rw[aE,aE,j2]
instance:Std.Commutative ad:=⟨j4⟩
instance:Std.Associative ad:=⟨gB⟩
theorem j5(a:List Int):ad [1] a=a:=by
 by_cases ha:a=[]
 ·rw[ha,fK]
 refine cY ?_ λk _=>?_
 ·rw[ba (by simp) ha];simp
 ·rw[aE,dO];omega
theorem cI(a:List Int):ad a [1]=a:=by rw[j4,j5]
theorem pln_one:Pln [1]:=⟨tr_snoc (r:=[]).mpr (by decide),by simp,by decide,by decide⟩
theorem w9{a:List Int}(h:Pln a):1<=a.length:=M5.mpr h.ne
def Sim(a b:List Int):Prop:=∃x y:Int,x≠0/\y≠0/\∀n,x*cf a n=y*cf b n
theorem Sim.refl(a:List Int):Sim a a:=⟨1,1,by decide,by decide,λ_=>rfl⟩
theorem Sim.dv{a b d:List Int}(h:Sim a b)(hd:Dv d b):Dv d a:=by obtain⟨x,y,hx,hy,e⟩:=h;exact Dv.prop_right hx e hd
theorem Sim.symm{a b:List Int}(h:Sim a b):Sim b a:=by obtain⟨x,y,hx,hy,e⟩:=h;exact⟨y,x,hy,hx,λn=>(e n).symm⟩
theorem Dv.cancel{d a b:List Int}(hd:d≠[])(ht:Tr d)(h:Dv (ad d a) (ad d b)):Dv a b:=by
 obtain⟨c,q,hc,e⟩:=h
 have key:∀k,cf (cW (-1) (scL c b) (ad q a)) k=0:=by
  refine xE hd ht λn _=>?_
  rw[di (a:=b) (b:=ad q a) (x:=c) (y := -1) (λk=>by rw[fS,aY])]
  have e1:aq (ad q a) d n=aq q (ad d a) n:=by
   rw[<- aE,<- aE]
   congr 1
   rw[gB,j4 a d]
  have e2:=e n;rw[aE,eJ]at e2;rw[e1,<- e2];omega
 refine⟨c,q,hc,λn=>?_⟩;have:=key n;rw[fS,aY,aE]at this;omega
theorem DC{d a b:List Int}(hd:Pln d)(ha:Pln a)(hb:Pln b)(h:ad d a=ad d b):a=b :=
 q8 ha hb (Dv.cancel hd.ne hd.tr (h ▸ Dv.refl _)) (Dv.cancel hd.ne hd.tr (h ▸ Dv.refl _))
noncomputable def prd(ss:List (List Int)):List Int:=ss.foldr ad [1]
theorem y7:∀(ss:List (List Int)) (acc:List Int),ss.foldl ad acc=ad acc (prd ss)
 | [],acc=>(cI acc).symm
 |s::ss,acc=>by show ss.foldl ad (ad acc s)=ad acc (ad s (prd ss));rw[y7 ss,gB]
theorem lj:∀(ss:List (List Int)),(∀s∈ss,Pln s)->Pln (prd ss)
 | [],_=>pln_one
 |s::ss,h=>(h s (Na ..)).mul (lj ss λx hx=>h x (M8 _ hx))
structure Pri(s:List Int):Prop where
 pln:Pln s
 two:2<=s.length
 or:∀a b,Dv s (ad a b)->Dv s a\/Dv s b
theorem Pri.not_one{s:List Int}(h:Pri s):¬Dv s [1]:=λz=>by have:=Dv.short h.pln.ne h.pln.tr pln_one.tr (by have:=h.two;show 1<s.length;omega) z;exact absurd this (by simp)
theorem Pri.prd{s:List Int}(h:Pri s):∀ss:List (List Int),Dv s (prd ss)->∃t∈ss,Dv s t
 | [],hd=>absurd hd h.not_one
 |t::ss,hd=>by
  rcases h.or t (RM.prd ss) hd with z |z
  ·exact⟨t,Na ..,z⟩
  ·obtain⟨t',ht,z'⟩:=Pri.prd h ss z;exact⟨t',M8 _ ht,z'⟩
theorem Pri.same{s t:List Int}(hs:Pri s)(ht:Pri t)(h:Dv s t):s=t:=by
 obtain⟨q,hq,e⟩:=h.fellow hs.pln ht.pln.tr ht.pln.ne;rw[ht.pln.plain]at e;have l:=ba hq.ne hs.pln.ne;rw[e]at l;have:=hs.two;have:=w9 hq;rcases ht.or q s (e ▸ Dv.refl _)with z |z
 ·exact absurd (Dv.short ht.pln.ne ht.pln.tr hq.tr (by omega) z) hq.ne
 ·exact q8 hs.pln ht.pln h z
theorem pi:∀(ps:List (List Int)) {E:List Int},(∀p∈ps,Pri p)->Pln E->Dv E (prd ps)->E=[1]\/∃p∈ps,Dv p E
 | [],E,_,hE,h=>by
  refine .inl (hE.const ?_);have:=w9 hE;refine Classical.byContradiction λz=>?_
  have:=Dv.short hE.ne hE.tr pln_one.tr (by show 1<E.length;omega) h;exact absurd this (by simp)
 |p::ps,E,hp,hE,h=>by
  obtain⟨c,q,hc,e⟩:=h;have P:=hp p (Na ..)
  have d1:Dv p (ad q E):=Dv.prop_right (x:=1) (y:=c) (by decide) (λn=>by
   show 1*cf (ad q E) n=c*cf (RM.prd (p::ps)) n
   rw[e,aE];omega) (Dv.mul_left p (prd ps))
  rcases P.or q E d1 with z |z
  ·obtain⟨c',q',hc',e'⟩:=z
   have d2:Dv (ad p E) (ad p (prd ps)):=by
    refine⟨c*c',q',Nk hc hc',λn=>?_⟩;have e1:=e n;rw[show ad p (prd ps)=RM.prd (p::ps)from rfl]
    have e2:aq (ad q' p) E n=c'*aq q E n:=by have:=di (a:=q) (b:=[]) (x:=c') (y:=0) (c:=ad q' p) (q:=E) (n:=n) (λk=>by rw[aE,<- e'];simp);rw[this];simp
    rw[<- j2,e2,<- e1,Nm c c',NG]
   rcases pi ps (λx hx=>hp x (M8 _ hx)) hE (Dv.cancel P.pln.ne P.pln.tr d2)with w |⟨t,ht,w⟩
   ·exact .inl w
   ·exact .inr ⟨t,M8 _ ht,w⟩
  ·exact .inr ⟨p,Na ..,z⟩
theorem Kd{A B C D L M:List Int}{ps:List (List Int)}(hC:Pln C)(cA:Dv C A)(cB:Dv C B)(call:∀d,Dv d A->Dv d B->Dv d C)(hD:Pln D)(sA:Sim A (ad D L))(sB:Sim B (ad D M))(hps:∀p∈ps,Pri p)(hL:L=prd ps)(hM:∀p∈ps,¬Dv p M):C=D:=by
 have dC:Dv D C:=call D (sA.dv (Dv.mul_left _ _)) (sB.dv (Dv.mul_left _ _));obtain⟨E,hE,e⟩:=dC.fellow hD hC.tr hC.ne;rw[hC.plain,j4]at e;have EL:Dv E L:=Dv.cancel hD.ne hD.tr (by rw[e];exact sA.symm.dv cA);have EM:Dv E M:=Dv.cancel hD.ne hD.tr (by rw[e];exact sB.symm.dv cB);rw[hL]at EL;rcases pi ps hps hE EL with z |⟨p,hp,z⟩
 ·rw[<- e,z,cI]
 ·exact absurd (z.trans EM) (hM p hp)
theorem DS{A D L:List Int}(hA:Tr A)(hAn:A≠[])(hD:Pln D)(hL:Pln L)(e:ay A=ad D L):aK A D=[]/\ay (bv A D)=L:=by
 have dv:Dv D A:=(Dv.plain hA).mp (by rw[e];exact Dv.mul_left _ _);have hr:=dv.rest hD.ne hD.tr;refine⟨hr,?_⟩;have eq:=λn=>fL (a:=A) hD.ne n
 have m:=xg (mi (a:=A) hD.ne hD.tr) hA hAn (tV hD.ne hA hD.tr) hD (λn=>by rw[eq n,hr,bM];omega)
 have hq:bv A D≠[]:=λz=>by rw[z]at m;have:ay []=[]:=rfl;rw[this,eK,e]at m;exact j3 hD.ne hL.ne m.symm
 have pq:=eD (tV hD.ne hA hD.tr) hq;refine DC hD pq hL ?_;rw[j4,m,e]
theorem dq(l:List Int)(n:Nat):cf (slopeL l) n=((n:Int)+1)*cf l (n+1):=by
 unfold slopeL;rw[mq];by_cases h:n<l.length-1
 ·rw[if_pos h]
 ·rw[if_neg h,bN (l:=l) (by omega),Nj]
theorem v7(x:Int)(a:List Int)(n:Nat):cf (slopeL (x::a)) n=1*cf a n+1*cf (0::slopeL a) n:=by
 rw[dq,pA,pB];cases n with
 |zero=>show(((0:Nat):Int)+1)*cf a 0=1*cf a 0+1*0;omega
 |succ n =>
  show(((n+1:Nat):Int)+1)*cf a (n+1)=1*cf a (n+1)+1*cf (slopeL a) n;rw[dq];have:((n+1:Nat):Int)=(n:Int)+1:=by omega
  rw[this,Int.add_mul];omega
theorem qH:∀(a b:List Int) (n:Nat),cf (slopeL (ad a b)) n=aq (slopeL a) b n+aq a (slopeL b) n
 | [],b,n=>by rw[eK];show cf (slopeL []) n=aq (slopeL []) b n+aq [] (slopeL b) n;have:slopeL []=[]:=rfl;rw[this,bM,dg,dg];omega
 |x::a,b,n=>by
  rw[dq,aE,cU,di (q:=b) (v7 x a),xF,cU,dq];show((n:Int)+1)*(x*cf b (n+1)+aq a b n)=_;cases n with
  |zero =>show(((0:Nat):Int)+1)*(x*cf b 1+aq a b 0)=1*aq a b 0+1*0+(x*((((0:Nat):Int)+1)*cf b 1)+0);simp;omega
  |succ n =>
   have ih:=qH a b n;rw[dq,aE]at ih;show(((n+1:Nat):Int)+1)*(x*cf b (n+1+1)+aq a b (n+1))=1*aq a b (n+1)+1*aq (slopeL a) b n+(x*((((n+1:Nat):Int)+1)*cf b (n+1+1))+aq a (slopeL b) n);have:((n+1:Nat):Int)=(n:Int)+1:=by omega
   rw[this];generalize aq a b (n+1)=z at *
   generalize aq (slopeL a) b n=z1 at *
   generalize aq a (slopeL b) n=z2 at *
   generalize cf b (n+1+1)=z3 at *
   generalize (n:Int)=m at *
   grind
noncomputable def pw(s:List Int):Nat->List Int
 |0=>[1]
 |n+1=>ad s (pw s n)
theorem qV(s:List Int):pw s 1=s:=cI s
theorem qW(s:List Int):∀a b,ad (pw s a) (pw s b)=pw s (a+b)
 |0,b=>by rw[Nat.zero_add];exact j5 _
 |a+1,b=>by rw[show a+1+b=a+b+1 by omega];show ad (ad s (pw s a)) (pw s b)=ad s (pw s (a+b));rw[gB,qW s a b]
theorem wR{s:List Int}(h:Pln s):∀n,Pln (pw s n)
 |0=>pln_one
 |n+1=>h.mul (wR h n)
theorem v5(s:List Int):∀(k n:Nat),cf (slopeL (pw s (k+1))) n=((k:Int)+1)*aq (slopeL s) (pw s k) n
 |0,n=>by rw[qV];show _=(((0:Nat):Int)+1)*aq (slopeL s) [1] n;rw[eJ,dO];omega
 |k+1,n=>by
  show cf (slopeL (ad s (pw s (k+1)))) n=_;rw[qH];have e:aq s (slopeL (pw s (k+1))) n=((k:Int)+1)*aq s (ad (slopeL s) (pw s k)) n:=ly λj=>by rw[v5 s k j,aE]
  have e2:aq s (ad (slopeL s) (pw s k)) n=aq (slopeL s) (pw s (k+1)) n:=by
   show _=aq (slopeL s) (ad s (pw s k)) n;rw[<- aE,<- aE]
   congr 1
   ac_rfl
  rw[e,e2];have:((k+1:Nat):Int)=(k:Int)+1:=by omega
  rw[this,Int.add_mul ((k:Int)+1) 1];omega
noncomputable def fP(g:Nat->Nat)(us:List (List Int×Nat)):List Int:=us.foldr (λp acc=>ad (pw p.1 (g p.2)) acc) [1]
theorem cX(g:Nat->Nat)(p:List Int×Nat)(us:List (List Int×Nat)):fP g (p::us)=ad (pw p.1 (g p.2)) (fP g us):=rfl
theorem tU(g h:Nat->Nat):∀us,ad (fP g us) (fP h us)=fP (λm=>g m+h m) us
 | []=>j5 _
 |p::us=>by
  rw[cX,cX,cX,<- tU g h us,<- qW]
  ac_rfl
theorem kh{g h:Nat->Nat}:∀us:List (List Int×Nat),(∀p∈us,g p.2=h p.2)->fP g us=fP h us
 | [],_=>rfl
 |p::us,H=>by rw[cX,cX,H p (Na ..),kh us λx hx=>H x (M8 _ hx)]
theorem zd{g:Nat->Nat}:∀us:List (List Int×Nat),(∀p∈us,Pri p.1)->Pln (fP g us)
 | [],_=>pln_one
 |p::us,h=>(wR (h p (Na ..)).pln _).mul (zd us λx hx=>h x (M8 _ hx))
theorem zc(c:Nat->Bool):∀us:List (List Int×Nat),fP (λm=>if c m then 1 else 0) us=prd ((us.filter λp=>c p.2).map (·.1))
 | []=>rfl
 |p::us=>by
  rw[cX,zc c us,List.filter_cons];cases h:c p.2 with
  |true =>simp only[if_true,Nx];rw[qV];rfl
  |false =>simp only[O3,if_false];exact j5 _
theorem zf{g:Nat->Nat}:∀(us:List (List Int×Nat)) {p:List Int×Nat},p∈us->0<g p.2->Dv p.1 (fP g us)
 |q::us,p,hp,h0=>by
  rw[cX];rcases Nd.mp hp with rfl |hp
  ·obtain⟨k,hk⟩:∃k,g p.2=k+1:=⟨g p.2-1,by omega⟩;rw[hk];show Dv p.1 (ad (ad p.1 (pw p.1 k)) _);rw[gB];exact Dv.mul_left _ _
  ·exact(zf us hp h0).trans (Dv.mul_right _ _)
theorem Pri.pw{s t:List Int}(h:Pri s):∀n,Dv s (pw t n)->0<n/\Dv s t
 |0,hd=>absurd hd h.not_one
 |n+1,hd=>by
  refine⟨by omega,?_⟩;rcases h.or t (RM.pw t n) hd with z |z
  ·exact z
  ·exact(Pri.pw h n z).2
theorem Pri.fP{s:List Int}(h:Pri s){g:Nat->Nat}:∀us:List (List Int×Nat),Dv s (fP g us)->∃p∈us,0<g p.2/\Dv s p.1
 | [],hd=>absurd hd h.not_one
 |p::us,hd=>by
  rcases h.or (RM.pw p.1 (g p.2)) (RM.fP g us) hd with z |z
  ·exact⟨p,Na ..,(h.pw _ z)⟩
  ·obtain⟨q,hq,z'⟩:=Pri.fP h us z;exact⟨q,M8 _ hq,z'⟩
structure Use(us:List (List Int×Nat)):Prop where
 pri:∀p∈us,Pri p.1
 pos:∀p∈us,1<=p.2
 nd:(us.map (·.1)).Nodup
theorem Use.tail{p:List Int×Nat}{us:List (List Int×Nat)}(h:Use (p::us)):Use us :=
 ⟨λx hx=>h.pri x (M8 _ hx),λx hx=>h.pos x (M8 _ hx),(Ot.mp h.nd).2⟩
theorem Use.head{p q:List Int×Nat}{us:List (List Int×Nat)}(h:Use (p::us))(hq:q∈us):p.1≠q.1:=λz =>(Ot.mp h.nd).1 (Nc.mpr ⟨q,hq,z.symm⟩)
theorem eO(l:List Int):(slopeL l).length=l.length-1:=by unfold slopeL;simp
theorem fX{l:List Int}(h:Tr l):Tr (slopeL l):=λn hn=>by rw[eO]at hn;rw[dq];exact Nk (by omega) (h (n+1) (by omega))
theorem v6:∀us:List (List Int×Nat),Use us->∃M,(∀n,cf (slopeL (fP id us)) n=aq (fP (·-1) us) M n)/\∀q∈us,¬Dv q.1 M
 | [],_=>⟨[],λn=>by
  show cf (slopeL [1]) n=aq [1] [] n
  rw[rB];exact bM n,λ_ h=>nomatch h⟩
 |p::us,h=>by
  obtain⟨M',e',h'⟩:=v6 us h.tail;obtain⟨s,m⟩:=p;have P:Pri s:=h.pri _ (Na ..);obtain⟨k,hk⟩:∃k,m=k+1:=⟨m-1,by have:=h.pos _ (Na ..);simp at this;omega⟩;subst hk
  have eF:fP id us=ad (fP (·-1) us) (fP (λ_=>1) us):=by rw[tU];exact kh us λp hp=>by have:=h.tail.pos p hp;show p.2=p.2-1+1;omega
  have hX:∀n,cf (cW 1 (ad (scL ((k:Int)+1) (slopeL s)) (fP (λ_=>1) us)) (ad s M')) n=1*cf (ad (scL ((k:Int)+1) (slopeL s)) (fP (λ_=>1) us)) n+1*cf (ad s M') n:=λn=>by rw[fS];omega
  refine⟨cW 1 (ad (scL ((k:Int)+1) (slopeL s)) (fP (λ_=>1) us)) (ad s M'),λn=>?_,λq hq hd=>?_⟩
  ·rw[cX,cX];show cf (slopeL (ad (pw s (k+1)) (fP id us))) n=aq (ad (pw s k) (fP (·-1) us)) _ n;rw[qH,xG hX]
   have a1:aq (slopeL (pw s (k+1))) (fP id us) n=aq (ad (pw s k) (fP (·-1) us)) (ad (scL ((k:Int)+1) (slopeL s)) (fP (λ_=>1) us)) n:=by
    rw[eF]
    have:aq (slopeL (pw s (k+1))) (ad (fP (·-1) us) (fP (λ_=>1) us)) n=aq (ad (scL ((k:Int)+1) (slopeL s)) (pw s k)) (ad (fP (·-1) us) (fP (λ_=>1) us)) n:=by
     refine oq (λj=>?_) λ_=>rfl
     rw[v5,aE];have:=di (a:=slopeL s) (b:=[]) (x:=(k:Int)+1) (y:=0) (c:=scL ((k:Int)+1) (slopeL s)) (q:=pw s k) (n:=j) (λi=>by rw[aY];simp);rw[this];simp
    rw[this,<- aE,<- aE]
    congr 1
    ac_rfl
   have a2:aq (pw s (k+1)) (slopeL (fP id us)) n=aq (ad (pw s k) (fP (·-1) us)) (ad s M') n:=by
    rw[oq (a':=pw s (k+1)) (b':=ad (fP (·-1) us) M') (λ_=>rfl) (λj=>by rw[e',aE])];show aq (ad s (pw s k)) _ n=_;rw[<- aE,<- aE]
    congr 1
    ac_rfl
   rw[a1,a2];omega
  ·have hX':∀n,1*cf (cW 1 (ad (scL ((k:Int)+1) (slopeL s)) (fP (λ_=>1) us)) (ad s M')) n=aq M' s n+cf (ad (scL ((k:Int)+1) (slopeL s)) (fP (λ_=>1) us)) n:=λn=>by rw[hX,aE s,eJ s];omega
   rcases Nd.mp hq with rfl |hq
   ·have d1:=Dv.down hX' hd (Dv.refl _);rcases P.or _ _ d1 with z |z
    ·have t:Tr (scL ((k:Int)+1) (slopeL s)):=kC (by omega) (fX P.pln.tr);have l:(scL ((k:Int)+1) (slopeL s)).length=s.length-1:=by rw[bJ,eO]
     have:=P.two;have n:=Dv.short P.pln.ne P.pln.tr t (by omega) z;rw[n]at l;simp at l
     omega
    ·obtain⟨q',hq',_,w⟩:=P.fP us z;exact h.head hq' (P.same (h.tail.pri q' hq') w)
   ·have Q:=h.tail.pri q hq;have d0:Dv q.1 (ad (scL ((k:Int)+1) (slopeL s)) (fP (λ_=>1) us)):=(zf us hq (g:=λ_=>1) (by decide)).trans (Dv.mul_right _ _);have d1:Dv q.1 (ad s M'):=Dv.down (f:=1) (q:=[1]) (λn=>by rw[hX,dO];omega) hd d0;rcases Q.or _ _ d1 with z |z
    ·exact h.head hq (Q.same P z).symm
    ·exact h' q hq z
theorem CY{s a b:List Int}(hs:s≠[])(h:Dv s (ad a b)):Dv s (ad (aK a s) (aK b s)):=by
 have e1:=λn=>fL (a:=a) hs n
 have e2:=λn=>fL (a:=b) hs n
 have d1:Dv s (ad (aK a s) b):=by
  refine Dv.down (f:=bC a s) (q:=ad (bv a s) b) (b:=s) (λn=>?_) h (Dv.refl _);rw[aE,aE];have l:=di (a:=ad (bv a s) s) (b:=aK a s) (x:=1) (y:=1) (c:=scL (bC a s) a) (q:=b) (n:=n) (λk=>by rw[aY,e1,aE];omega);have l2:=di (a:=a) (b:=[]) (x:=bC a s) (y:=0) (c:=scL (bC a s) a) (q:=b) (n:=n) (λk=>by rw[aY];simp)
  have l3:aq (ad (bv a s) s) b n=aq (ad (bv a s) b) s n:=by
   rw[<- aE,<- aE]
   congr 1
   ac_rfl
  rw[l2,l3]at l;rw[dg]at l;omega
 refine Dv.down (f:=bC b s) (q:=ad (aK a s) (bv b s)) (b:=s) (λn=>?_) d1 (Dv.refl _);rw[aE,aE];have l:=xG (a:=ad (bv b s) s) (b:=aK b s) (x:=1) (y:=1) (c:=scL (bC b s) b) (q:=aK a s) (n:=n) (λk=>by rw[aY,e2,aE];omega);have l2:=ly (a:=aK a s) (b:=b) (b':=scL (bC b s) b) (c:=bC b s) (n:=n) (λk=>by rw[aY])
 have l3:aq (aK a s) (ad (bv b s) s) n=aq (ad (aK a s) (bv b s)) s n:=by
  rw[<- aE,<- aE]
  congr 1
  ac_rfl
 rw[l2,l3]at l;omega
theorem zp{s a:List Int}(hs:s≠[])(ht:Tr s)(h:aK a s=[]):Dv s a :=
 ⟨bC a s,bv a s,mi hs ht,λn=>by rw[fL hs,h,bM];omega⟩
noncomputable def aI(u e b:Int):List Int:=if e=0 then[-u,b]else[u*u-e,-2*b*u,b*b]
theorem fm{u e b:Int}(hb:1<=b):Tr (aI u e b)/\2<=(aI u e b).length:=by
 unfold aI;split
 ·exact⟨(tr_snoc (r:=[-u])).mpr (by omega),by show 2<=2;decide⟩
 ·exact⟨(tr_snoc (r:=[u*u-e,-2*b*u])).mpr (Nk (by omega) (by omega)),by show 2<=3;decide⟩
theorem xw{n e:Int}(hn:0<=n)(h1:n*n<e)(h2:e<(n+1)*(n+1)):∀(k:Nat) (x y:Int),x.toNat<=k->0<x->0<=y->e*(x*x)=y*y->False
 |0,x,y,hk,hx,_,_=>by omega
 |k+1,x,y,hk,hx,hy,h=>by
  have hxx:0<x*x:=M6 hx hx
  have a1:n*x<y:=by
   refine Int.not_le.mp λz=>?_
   have:=Int.mul_le_mul z z hy (Int.le_trans hy z);have:=NM h1 hxx;have e1:n*x*(n*x)=n*n*(x*x):=by grind
   omega
  have a2:y<(n+1)*x:=by
   refine Int.not_le.mp λz=>?_
   have z0:0<=(n+1)*x:=NE (by omega) (by omega);have:=Int.mul_le_mul z z z0 hy;have:=NM h2 hxx;have e1:(n+1)*x*((n+1)*x)=(n+1)*(n+1)*(x*x):=by grind
   omega
  have a3:(n+1)*x=n*x+x:=by rw[Int.add_mul];omega
  refine xw hn h1 h2 k (y-n*x) ((e*x-n*y).natAbs:Int) (by omega) (by omega) (by omega) ?_;rw[Int.natAbs_mul_self' (e*x-n*y)];grind
def NS(e:Int):Prop:=e<=0\/∃n:Int,0<=n/\n*n<e/\e<(n+1)*(n+1)
theorem NS.no{e x y:Int}(h:NS e)(he:e≠0)(hx:x≠0)(eq:x*x*e=y*y):False:=by
 rcases h with h |⟨n,hn,h1,h2⟩
 ·have hxx:0<x*x:=by
   rcases Pa hx with z |z
   ·exact Int.mul_pos_of_neg_of_neg z z
   ·exact M6 z z
  have:x*x*e<0:=Int.mul_neg_of_pos_of_neg hxx (by omega)
  have:0<=y*y:=by
   rcases Int.le_total 0 y with z |z
   ·exact NE z z
   ·exact O5 z z
  omega
 ·refine xw hn h1 h2 _ (x.natAbs:Int) (y.natAbs:Int) (M0 _) (by omega) (by omega) ?_;rw[Int.natAbs_mul_self' x,Int.natAbs_mul_self' y,<- eq,Nm]
theorem Dc{u e b:Int}(hb:1<=b)(he:NS e){p q:List Int}(h:Dv (aI u e b) (ad p q)):Dv (aI u e b) p\/Dv (aI u e b) q:=by
 obtain⟨tr,l2⟩:=fm (u:=u) (e:=e) hb;have hne:aI u e b≠[]:=λz=>by rw[z]at l2;simp at l2
 by_cases hp:aK p (aI u e b)=[]
 ·exact .inl (zp hne tr hp)
 by_cases hq:aK q (aI u e b)=[]
 ·exact .inr (zp hne tr hq)
 exfalso;have d:=CY hne h;have t1:=dU p (aI u e b);have t2:=dU q (aI u e b);have n1:=fc (a:=p) hne;have n2:=fc (a:=q) hne;generalize aK p (aI u e b)=r1 at *
 generalize aK q (aI u e b)=r2 at *
 have lm:=ba hp hq;have p1:=M5.mpr hp;have p2:=M5.mpr hq;by_cases hs:(ad r1 r2).length<(aI u e b).length
 ·exact j3 hp hq (Dv.short hne tr (mY t1 t2) hs d)
 by_cases h0:e=0
 ·have:(aI u e b).length=2:=by unfold aI;rw[if_pos h0];rfl
  omega
 have er:aI u e b=[u*u-e,-2*b*u,b*b]:=by unfold aI;rw[if_neg h0]
 rw[er]at hs n1 n2 d hne tr;simp only[Nq,OV]at hs n1 n2
 obtain⟨α,β,rfl⟩:∃α β,r1=[α,β]:=by
  match r1,(show r1.length=2 by omega)with
  | [α,β],_=>exact⟨α,β,rfl⟩
 obtain⟨γ,δ,rfl⟩:∃γ δ,r2=[γ,δ]:=by
  match r2,(show r2.length=2 by omega)with
  | [γ,δ],_=>exact⟨γ,δ,rfl⟩
 have hβ:β≠0:=(tr_snoc (r:=[α])).mp t1;have hδ:δ≠0:=(tr_snoc (r:=[γ])).mp t2
 have em:ad [α,β] [γ,δ]=[α*γ,α*δ+β*γ,β*δ]:=by
  refine cY (by rw[lm];rfl) λk hk=>?_
  rw[lm]at hk;rw[aE];have hk':k<3:=hk;have:k=0\/k=1\/k=2:=by omega
  rcases this with rfl |rfl |rfl
  ·show(0+(α*γ))+0=α*γ;omega
  ·show(0+(α*δ))+(β*γ)=α*δ+β*γ;omega
  ·show(0+α*cf [γ,δ] 2)+(β*δ)=β*δ;have:cf [γ,δ] 2=0:=rfl;rw[this];simp
 rw[em]at d;have hr:=d.rest hne tr;have eqn:=λn=>fL (a:=[α*γ,α*δ+β*γ,β*δ]) hne n
 have hf:=mi (a:=[α*γ,α*δ+β*γ,β*δ]) hne tr;have lq:=tX (a:=[α*γ,α*δ+β*γ,β*δ]) hne;generalize bC [α*γ,α*δ+β*γ,β*δ] [u*u-e,-2*b*u,b*b]=f at *
 generalize bv [α*γ,α*δ+β*γ,β*δ] [u*u-e,-2*b*u,b*b]=Q at *
 rw[hr]at eqn;have lq':Q.length=1:=lq;obtain⟨κ,rfl⟩:∃κ,Q=[κ]:=OT.mp lq';have g0:=eqn 0;have g1:=eqn 1;have g2:=eqn 2;rw[dO,bM]at g0 g1 g2
 replace g0:f*(α*γ)=κ*(u*u-e)+0:=g0
 replace g1:f*(α*δ+β*γ)=κ*(-2*b*u)+0:=g1
 replace g2:f*(β*δ)=κ*(b*b)+0:=g2
 have hκ:κ≠0:=λz=>by rw[z,Nz]at g2;exact Nk hf (Nk hβ hδ) (by omega)
 refine he.no h0 (x:=2*κ*b) (y:=f*(α*δ-β*γ)) (Nk (Nk (by decide) hκ) (by omega)) ?_;have k1:f*(α*δ-β*γ)*(f*(α*δ-β*γ))=f*(α*δ+β*γ)*(f*(α*δ+β*γ))-4*((f*(α*γ))*(f*(β*δ))):=by grind
 rw[k1,g0,g1,g2];grind
theorem Db{u e b:Int}(hb:1<=b)(he:NS e):Pri (ay (aI u e b)):=by
 obtain⟨tr,l2⟩:=fm (u:=u) (e:=e) hb;have hne:aI u e b≠[]:=λz=>by rw[z]at l2;simp at l2
 obtain⟨g,hg,eg⟩:=jV tr;have to:∀p,Dv (ay (aI u e b)) p->Dv (aI u e b) p:=λp h=>Dv.prop_left (x:=1) (y:=g) (by decide) hg (λn=>by rw[eg];omega) h
 have fr:∀p,Dv (aI u e b) p->Dv (ay (aI u e b)) p:=λp h=>Dv.prop_left (x:=g) (y:=1) hg (by decide) (λn=>by rw[<- eg];omega) h
 refine⟨eD tr hne,by rw[plain_len];exact l2,λp q h=>?_⟩;exact(Dc hb he (to _ h)).imp (fr _) (fr _)
noncomputable def com(xs ys:List Int):List Int:=cb 20 (ay xs) (ay ys)
structure ComOk(xs ys:List Int):Prop where
 pln:xs≠[]\/ys≠[]->Pln (com xs ys)
 left:Dv (com xs ys) xs
 right:Dv (com xs ys) ys
 all:∀d,Dv d xs->Dv d ys->Dv d (com xs ys)
theorem zC{xs ys:List Int}(h2:ys.length<=19)(t1:Tr xs)(t2:Tr ys):ComOk xs ys:=by
 obtain⟨c1,c2,c3,c4,c5,c6⟩:=zD 20 (ay xs) (ay ys) (by rw[plain_len];omega) (fu t1) (fu t2);refine⟨λh=>?_,(Dv.plain t1).mp c2,(Dv.plain t2).mp c3,λd a b=>c4 d ((Dv.plain t1).mpr a) ((Dv.plain t2).mpr b)⟩;have hne:com xs ys≠[]:=c5 (h.imp (λz q=>z (Om.mp (by rw[<- plain_len,q];rfl))) (λz q=>z (Om.mp (by rw[<- plain_len,q];rfl))))
 obtain⟨l,tl,el⟩:∃l,Tr l/\com xs ys=ay l:=by
  rcases c6 with e |e |e
  ·exact⟨xs,t1,e⟩
  ·exact⟨ys,t2,e⟩
  ·exact e
 have hl:l≠[]:=λz=>hne (by rw[el,z];rfl)
 rw[el];exact eD tl hl
theorem Ke{A B D L M:List Int}{ps:List (List Int)}(tA:Tr A)(nA:A≠[])(tB:Tr B)(lB:B.length<=19)(hD:Pln D)(sA:Sim A (ad D L))(sB:Sim B (ad D M))(hps:∀p∈ps,Pri p)(hL:L=prd ps)(hM:∀p∈ps,¬Dv p M):com A B=D :=
 have C:=zC lB tA tB
 Kd (C.pln (.inl nA)) C.left C.right C.all hD sA sB hps hL hM
noncomputable def eq1(k m:Nat):Nat:=if m=k then 1 else 0
noncomputable def j0(_:Nat):Nat:=1
noncomputable def mor(us:List (List Int×Nat))(k:Nat):List Int:=fP (·-k) us
noncomputable def flt(us:List (List Int×Nat)):List Int:=fP j0 us
variable {us:List (List Int×Nat)}
theorem sJ:flt us=prd (us.map (·.1)):=by
 have:=zc (λ_=>true) us;have e:us.filter (λp=>(λ_=>true) p.2)=us:=List.filter_eq_self.mpr λ_ _=>rfl
 rw[e]at this;rw[<- this];exact kh us λp _=>rfl
theorem fb(h:Use us)(g:Nat->Nat):Pln (fP g us):=zd us h.pri
noncomputable def whl(c:Int)(us:List (List Int×Nat)):List Int:=ad [c] (fP id us)
theorem dL(c:Int):whl c us=scL c (fP id us):=by
 unfold whl;by_cases h:fP id us=[]
 ·rw[h,fK];rfl
 refine cY ?_ λk _=>?_
 ·rw[ba (by simp) h,bJ];simp
 ·rw[aE,dO,aY]
theorem fk(h:Use us){c:Int}(hc:c≠0):Tr (whl c us)/\whl c us≠[]/\ay (whl c us)=fP id us:=by have pl:=fb h id;rw[dL];refine⟨kC hc pl.tr,λz=>pl.ne (Om.mp (by rw[<- bJ c,z];rfl)),?_⟩;rw[n6 hc pl.tr,pl.plain]
theorem vj(h:Use us):ad (mor us 1) (flt us)=fP id us:=by unfold mor flt;rw[tU];exact kh us λp hp=>by have:=h.pos p hp;show p.2-1+1=p.2;omega
theorem vi(h:Use us){c:Int}(hc:c≠0)(hl:(whl c us).length<=20):com (whl c us) (slopeL (whl c us))=mor us 1:=by
 obtain⟨t,n,p⟩:=fk h hc;obtain⟨M,eM,hM⟩:=v6 us h;refine Ke (L:=flt us) (M:=M) (ps:=us.map (·.1)) t n (fX t) (by rw[eO];omega) (fb h _) ⟨1,c,by decide,hc,λk=>?_⟩ ⟨1,c,by decide,hc,λk=>?_⟩ (λp hp=>?_) sJ (λp hp=>?_)
 ·rw[vj h,dL,aY];omega
 ·rw[aE];have e:=eM k;rw[dq]at e;show 1*cf (slopeL (whl c us)) k=c*aq (fP (·-1) us) M k;rw[<- e,dq,dL,aY];grind
 ·obtain⟨q,hq,rfl⟩:=Nc.mp hp;exact h.pri q hq
 ·obtain⟨q,hq,rfl⟩:=Nc.mp hp;exact hM q hq
theorem AK(h:Use us){c:Int}(hc:c≠0):aK (whl c us) (mor us 1)=[]/\ay (bv (whl c us) (mor us 1))=flt us:=by obtain⟨t,n,p⟩:=fk h hc;exact DS t n (fb h _) (fb h _) (by rw[p,vj h])
noncomputable def dgs(g:Nat->Nat):List (List Int×Nat)->Nat
 | []=>0
 |p::us=>g p.2*(p.1.length-1)+dgs g us
theorem zx{g h:Nat->Nat}:∀us:List (List Int×Nat),(∀p∈us,g p.2<=h p.2)->dgs g us<=dgs h us
 | [],_=>M0 _
 |p::us,H=>by
  have:=zx us λx hx=>H x (M8 _ hx)
  have:=NK (p.1.length-1) (H p (Na ..));show g p.2*_+dgs g us<=h p.2*_+dgs h us;omega
theorem lf{s:List Int}(h:s≠[]):∀n,(pw s n).length=1+n*(s.length-1)/\pw s n≠[]
 |0=>⟨by rw[Nat.zero_mul];rfl,by simp[pw]⟩
 |n+1=>by obtain⟨a,b⟩:=lf h n;have:=M5.mpr h;refine⟨?_,j3 h b⟩;show(ad s (pw s n)).length=_;rw[ba h b,a,Nat.succ_mul];omega
theorem kg(g:Nat->Nat):∀us:List (List Int×Nat),(∀p∈us,p.1≠[])->(fP g us).length=1+dgs g us/\fP g us≠[]
 | [],_=>⟨rfl,by simp[fP]⟩
 |p::us,H=>by
  obtain⟨a,b⟩:=kg g us λx hx=>H x (M8 _ hx)
  obtain⟨c,d⟩:=lf (H p (Na ..)) (g p.2);rw[cX];refine⟨?_,j3 d b⟩;rw[ba d b,a,c];show _=1+(g p.2*_+dgs g us);omega
theorem zh(g:Nat->Nat):∀a b:List (List Int×Nat),fP g (a++b)=ad (fP g a) (fP g b)
 | [],b=>(j5 _).symm
 |p::a,b=>by rw[List.cons_append,cX,cX,zh g a b,gB]
theorem JR(g:Nat->Nat)(a:List (List Int×Nat))(p:List Int×Nat):fP g (a++[p])=ad (fP g a) (pw p.1 (g p.2)):=by rw[zh];show ad _ (ad _ [1])=_;rw[cI]
theorem tZ(g:Nat->Nat):∀a b:List (List Int×Nat),dgs g (a++b)=dgs g a+dgs g b
 | [],b=>(Nat.zero_add _).symm
 |p::a,b=>by show g p.2*_+dgs g (a++b)=g p.2*_+dgs g a+dgs g b;rw[tZ g a b];omega
noncomputable def bA(sq due:Int):Int:=if due<0\/due*due<sq then 1 else 0-(if sq<due*due then 1 else 0)
noncomputable def ar(l:List Int)(t n:Int):Int:=if 0<cf l 3 then bA (cf l 1*n*n) (cf l 2*t-cf l 0*n)else 0-bA (cf l 1*n*n) (0-(cf l 2*t-cf l 0*n))
theorem cE(sq d:Int):(bA sq d=1/\(d<0\/d*d<sq))\/(bA sq d=0/\0<=d/\d*d=sq)\/(bA sq d = -1/\0<=d/\sq<d*d):=by
 unfold bA;by_cases h:d<0\/d*d<sq
 ·rw[if_pos h];exact .inl ⟨rfl,h⟩
 ·rw[if_neg h];by_cases h2:sq<d*d
  ·rw[if_pos h2];exact .inr (.inr ⟨rfl,by omega,h2⟩)
  ·rw[if_neg h2];exact .inr (.inl ⟨rfl,by omega,by omega⟩)
structure Spt(l:List Int):Prop where
 is:∃u e b s:Int,l=[u,e,b,s]/\0<=e/\1<=b/\(s=1\/s = -1)
theorem kF{x y:Int}(hx:0<=x)(h:x<=y):x*x<=y*y:=Int.mul_le_mul h h hx (by omega)
theorem pS{x y:Int}(hx:0<=x)(h:x<y):x*x<y*y:=by have h1:x*x<=x*y:=OW (M7 h) hx;have h2:x*y<y*y:=NM h (by omega);omega
theorem GH{x y:Int}(hy:0<=y)(h:x*x<y*y):x<y:=Int.not_le.mp λz=>by have:=kF hy z;omega
theorem GL{x y:Int}(hy:0<=y)(h:x*x<=y*y):x<=y:=Int.not_lt.mp λz=>by have:=pS hy z;omega
theorem vJ{g sq d:Int}(hg:0<g):bA (sq*(g*g)) (g*d)=bA sq d:=by
 have hgg:0<g*g:=M6 hg hg;have e1:g*d*(g*d)=d*d*(g*g):=by grind
 have e2:(g*d<0)↔d<0:=by
  constructor
  ·intro h;refine Int.not_le.mp λz=>?_
   have:=NE (M7 hg) z;omega
  ·intro h;exact Int.mul_neg_of_pos_of_neg hg h
 have e3:∀x y:Int,(x*(g*g)<y*(g*g))↔x<y:=λx y=>⟨λh=>NT h (M7 hgg),λh=>NM h hgg⟩
 unfold bA;rw[e1];simp only[e2,e3]
theorem v9{g t n:Int}(l:List Int)(hg:0<g):ar l (g*t) (g*n)=ar l t n:=by
 have e1:cf l 1*(g*n)*(g*n)=cf l 1*n*n*(g*g):=by grind
 have e2:cf l 2*(g*t)-cf l 0*(g*n)=g*(cf l 2*t-cf l 0*n):=by grind
 have e3:0-g*(cf l 2*t-cf l 0*n)=g*(0-(cf l 2*t-cf l 0*n)):=by grind
 unfold ar;rw[e1,e2,e3,vJ hg,vJ hg]
theorem nK{t n t' n':Int}(l:List Int)(hn:0<n)(hn':0<n')(e:t*n'=t'*n):ar l t n=ar l t' n':=by
 rw[<- v9 (g:=n') l hn',<- v9 (g:=n) (t:=t') l hn];have e1:n'*t=n*t':=by rw[Nm,e,Nm]
 rw[e1,Nm n' n]
theorem iG(l:List Int)(t n:Int):ar l t n=1\/ar l t n=0\/ar l t n = -1:=by
 unfold ar;split
 ·rcases cE (cf l 1*n*n) (cf l 2*t-cf l 0*n)with h |h |h<;>omega
 ·rcases cE (cf l 1*n*n) (0-(cf l 2*t-cf l 0*n))with h |h |h<;>omega
theorem gb{l:List Int}(hl:Spt l){t n t' n':Int}(hn:0<n)(hn':0<n')(h:t*n'<t'*n)(hs:ar l t n<=0):ar l t' n' = -1:=by
 obtain⟨u,e,b,s,rfl,he,hb,hs1⟩:=hl
 have hlt:(b*t-u*n)*n'<(b*t'-u*n')*n:=by
  have h1:b*(t*n')<b*(t'*n):=Ph h (by omega);have e1:(b*t-u*n)*n'=b*(t*n')-u*n*n':=by grind
  have e2:(b*t'-u*n')*n=b*(t'*n)-u*n*n':=by grind
  omega
 have hnn:0<n*n:=M6 hn hn;have hnn':0<n'*n':=M6 hn' hn';rcases hs1 with rfl |rfl
 ·have z0:(0:Int)<1:=by decide
  have hs:bA (e*n*n) (b*t-u*n)<=0:=hs;show bA (e*n'*n') (b*t'-u*n') = -1;generalize b*t-u*n=a at *
  generalize b*t'-u*n'=a' at *
  have k1:0<=a/\e*n*n<=a*a:=by rcases cE (e*n*n) a with h |h |h<;>omega
  have k2:0<=a*n':=NE k1.1 (M7 hn');have k3:0<a':=NT (a:=n) (by omega) (M7 hn);have k4:=pS k2 hlt;have k5:e*n*n*(n'*n')<=a*a*(n'*n'):=Nw k1.2 (M7 hnn')
  have k6:e*n'*n'*(n*n)<a'*a'*(n*n):=by
   have e1:e*n'*n'*(n*n)=e*n*n*(n'*n'):=by grind
   have e2:a'*a'*(n*n)=a'*n*(a'*n):=by grind
   have e3:a*a*(n'*n')=a*n'*(a*n'):=by grind
   omega
  have k7:=NT k6 (M7 hnn);rcases cE (e*n'*n') a' with h |h |h<;>omega
 ·have hs:0-bA (e*n*n) (0-(b*t-u*n))<=0:=hs;show 0-bA (e*n'*n') (0-(b*t'-u*n')) = -1;generalize ha:0-(b*t-u*n)=a at *
  generalize ha':0-(b*t'-u*n')=a' at *
  have hlt':a'*n<a*n':=by
   have e1:a'*n = -((b*t'-u*n')*n):=by rw[<- ha'];grind
   have e2:a*n' = -((b*t-u*n)*n'):=by rw[<- ha];grind
   omega
  have k1:a<0\/a*a<=e*n*n:=by rcases cE (e*n*n) a with h |h |h<;>omega
  have k2:a'<0\/a'*a'<e*n'*n':=by
   by_cases z:a'<0
   ·exact .inl z
   right;have p1:0<=a'*n:=NE (by omega) (M7 hn);have p2:0<a:=NT (a:=n') (by omega) (M7 hn');have p3:=pS p1 hlt';have k5:a*a*(n'*n')<=e*n*n*(n'*n'):=Nw (by omega) (M7 hnn')
   have k6:a'*a'*(n*n)<e*n'*n'*(n*n):=by
    have e1:e*n'*n'*(n*n)=e*n*n*(n'*n'):=by grind
    have e2:a'*a'*(n*n)=a'*n*(a'*n):=by grind
    have e3:a*a*(n'*n')=a*n'*(a*n'):=by grind
    omega
   exact NT k6 (M7 hnn)
  rcases cE (e*n'*n') a' with h |h |h<;>omega
noncomputable def spF(f:List Int):List (List Int):=(if 0<=cf f 1 then[[cf f 0,cf f 1,cf f 2,1]]else[])++(if 0<cf f 1 then[[cf f 0,cf f 1,cf f 2,-1]]else[])
noncomputable def aM(fs:List (List Int)):List (List Int):=fs.flatMap spF
noncomputable def spr(t n:Int):List (List Int)->Int
 | []=>1
 |l::ls => -ar l t n*spr t n ls
theorem m8(t n:Int):∀a b,spr t n (a++b)=spr t n a*spr t n b
 | [],b=>by show _=1*_;rw[Nv];rfl
 |x::a,b=>by show _*spr t n (a++b)=_*_*_;rw[m8 t n a b,NG]
theorem pU{f l:List Int}{u e b:Int}(hf:f=[u,e,b])(hb:1<=b)(h:l∈spF f):Spt l/\∃s,l=[u,e,b,s]/\0<=e/\(s=1\/s = -1/\0<e):=by
 subst hf;have hd:spF [u,e,b]=(if 0<=e then[[u,e,b,1]]else[])++(if 0<e then[[u,e,b,-1]]else[]):=rfl;rw[hd]at h;rcases Nu.mp h with h |h
 ·by_cases z:0<=e
  ·rw[if_pos z]at h;obtain rfl:=Nf.mp h;exact⟨⟨u,e,b,1,rfl,z,hb,.inl rfl⟩,1,rfl,z,.inl rfl⟩
  ·rw[if_neg z]at h;cases h
 ·by_cases z:0<e
  ·rw[if_pos z]at h;obtain rfl:=Nf.mp h;exact⟨⟨u,e,b,-1,rfl,by omega,hb,.inr rfl⟩,-1,rfl,by omega,.inr ⟨rfl,z⟩⟩
  ·rw[if_neg z]at h;cases h
theorem Da{u e b t n:Int}(hn:0<n):sg (hv t n (aI u e b))=spr t n (spF [u,e,b]):=by
 have hd:spF [u,e,b]=(if 0<=e then[[u,e,b,1]]else[])++(if 0<e then[[u,e,b,-1]]else[]):=rfl;rw[hd];by_cases h0:e=0
 ·subst h0;have er:aI u 0 b=[-u,b]:=by unfold aI;rw[if_pos rfl]
  have ev:hv t n [-u,b]=n*(b*t-u*n):=by show -u*n^2+t*(b*n^1+t*0)=_;grind
  rw[er,ev,da hn,if_pos (NY _),if_neg (by omega)];show _ = -bA (0*n*n) (b*t-u*n)*1;generalize b*t-u*n=a;rw[Nz,Nz];have:a<0\/a=0\/0<a:=by omega
  rcases this with h |h |h
  ·have h1:sg a = -1:=by unfold sg;rw[if_pos h]
   rcases cE 0 a with z |z |z<;>omega
  ·subst h;rfl
  ·have h1:sg a=1:=by unfold sg;rw[if_neg (by omega),if_pos h]
   have h2:=M6 h h;rcases cE 0 a with z |z |z<;>omega
 ·have er:aI u e b=[u*u-e,-2*b*u,b*b]:=by unfold aI;rw[if_neg h0]
  have ev:hv t n [u*u-e,-2*b*u,b*b]=n*((b*t-u*n)*(b*t-u*n)-e*n*n):=by show(u*u-e)*n^3+t*((-2*b*u)*n^2+t*((b*b)*n^1+t*0))=_;grind
  rw[er,ev,da hn];by_cases hp:0<=e
  ·rw[if_pos hp,if_pos (by omega)];show _ = -bA (e*n*n) (b*t-u*n)*(-(0-bA (e*n*n) (0-(b*t-u*n)))*1);generalize b*t-u*n=a;have hE:0<e*n*n:=M6 (M6 (by omega) hn) hn;generalize e*n*n=E at *
   have e1:(0-a)*(0-a)=a*a:=by grind
   have h1:=cE E a;have h2:=cE E (0-a);rw[e1]at h2;have az:a=0->a*a=0:=λz=>by rw[z];rfl
   have s3:(a*a<E/\sg (a*a-E) = -1)\/(a*a=E/\sg (a*a-E)=0)\/(E<a*a/\sg (a*a-E)=1):=by unfold sg;split<;>(try split)<;>omega
   generalize a*a=q at *
   rcases h1 with⟨x1,x2⟩ |⟨x1,x2⟩ |⟨x1,x2⟩<;>rcases h2 with⟨y1,y2⟩ |⟨y1,y2⟩ |⟨y1,y2⟩<;>rw[x1,y1]<;>simp<;>omega
  ·rw[if_neg hp,if_neg (by omega)]
   have h1:0<=(b*t-u*n)*(b*t-u*n):=by
    rcases Int.le_total 0 (b*t-u*n)with z |z
    ·exact NE z z
    ·exact O5 z z
   have h2:e*n*n<0:=by rw[NG];exact Pf (by omega) (M6 hn hn)
   show sg _=1;unfold sg;rw[if_neg (by omega),if_pos (by omega)]
noncomputable def aB(f:List Int):List Int:=ay (aI (cf f 0) (cf f 1) (cf f 2))
theorem wj(x y:Int):sg (x*y)=sg x*sg y:=by
 rcases Int.lt_trichotomy x 0 with hx |hx |hx
 ·have h1:sg x = -1:=by unfold sg;rw[if_pos hx]
  have e:x*y = -((-x)*y):=by grind
  rw[e,B3,da (by omega),h1];omega
 ·subst hx;rw[Nz];show(0:Int)=0*_;rw[Nz]
 ·have h1:sg x=1:=by unfold sg;rw[if_neg (by omega),if_pos hx]
  rw[da hx,h1,Nv]
theorem xf{l:List Int}(h:Tr l)(hne:l≠[])(hp:0<ap l):∃g:Int,0<g/\l=scL g (ay l):=by
 obtain⟨g,hg,e⟩:=jV h
 have e2:l=scL g (ay l):=by
  apply cY
  ·rw[bJ,plain_len]
  ·intro k _;rw[aY,e k]
 have hP:=eD h hne;refine⟨g,?_,e2⟩;obtain⟨r,x,er⟩:=(cF l).resolve_left hne;have hx:ap l=cf l r.length:=by rw[er,cL,ki]
 obtain⟨r',x',er'⟩:=(cF (ay l)).resolve_left hP.ne;have hx':ap (ay l)=cf (ay l) r'.length:=by rw[er',cL,ki]
 have hl:r.length=r'.length:=by have:=plain_len l;have h1:=congrArg List.length er;have h2:=congrArg List.length er';simp at h1 h2;omega
 have h3:=e r.length;rw[<- hx,hl,<- hx']at h3;have h4:=hP.pos;rw[h3]at hp;rcases Pa hg with z |z
 ·have:=Pf z h4;omega
 ·exact z
theorem BR{u e b t n:Int}(hb:1<=b)(hn:0<n):sg (hv t n (aB [u,e,b]))=spr t n (spF [u,e,b]):=by
 obtain⟨tr,l2⟩:=fm (u:=u) (e:=e) hb;have hne:aI u e b≠[]:=λz=>by rw[z]at l2;simp at l2
 have hlast:0<ap (aI u e b):=by
  unfold aI;split
  ·show 0<ap ([-u]++[b]);rw[cL];omega
  ·show 0<ap ([u*u-e,-2*b*u]++[b*b]);rw[cL];exact M6 (by omega) (by omega)
 obtain⟨g,hg,eg⟩:=xf tr hne hlast;rw[<- Da hn];show sg (hv t n (ay (aI u e b)))=_
 have e3:hv t n (aI u e b)=g*hv t n (ay (aI u e b)):=by
  calc hv t n (aI u e b)=hv t n (scL g (ay (aI u e b))):=by rw[<- eg]
   _=_:=sv _ _ _ _
 rw[e3,da hg]
def fj(f:List Int):Prop:=∃u e b:Int,f=[u,e,b]/\1<=b
theorem w5{t n:Int}(hn:0<n):∀(fs:List (List Int)),(∀f∈fs,fj f)->sg (pr t n (fs.map aB))=spr t n (aM fs)
 | [],_=>rfl
 |f::fs,h=>by
  obtain⟨u,e,b,rfl,hb⟩:=h f (Na ..);have ih:=w5 (t:=t) hn fs λx hx=>h x (M8 _ hx)
  have e1:aM ([u,e,b]::fs)=spF [u,e,b]++aM fs:=by unfold aM;rw[List.flatMap_cons]
  show sg (hv t n (aB [u,e,b])*pr t n (fs.map aB))=_;rw[wj,BR hb hn,ih,e1,m8]
theorem we{f:List Int}(h:fj f):aB f≠[]/\Tr (aB f):=by obtain⟨u,e,b,rfl,hb⟩:=h;obtain⟨tr,l2⟩:=fm (u:=u) (e:=e) hb;refine⟨λz=>?_,fu tr⟩;have:=plain_len (aI u e b);have z':ay (aI u e b)=[]:=z;rw[z']at this;simp at this;omega
theorem qZ{t n c:Int}(hn:0<n){fs:List (List Int)}(h:∀f∈fs,fj f):sg (hv t n (ad [c] (bH [1] (fs.map aB))))=sg c*spr t n (aM fs):=by
 have hs:∀s∈fs.map aB,s≠[]/\Tr s:=λs hs=>by obtain⟨x,hx,rfl⟩:=Nc.mp hs;exact we (h x hx)
 obtain⟨p1,p2,p3⟩:=q5 (fs.map aB) [1] (by simp) ((tr_snoc (r:=[])).mpr (by decide)) hs;have e1:=oY t n (a:=[c]) (b:=bH [1] (fs.map aB)) p1 (by simp);have e2:=yK t n (fs.map aB) [1] (by simp) λs h=>(hs s h).1
 rw[yL]at e1 e2;rw[<- w5 hn fs h]
 have e3:hv t n (ad [c] (bH [1] (fs.map aB)))=c*hv t n (bH [1] (fs.map aB)):=by refine Int.eq_of_mul_eq_mul_left (Ny hn) ?_;rw[e1];grind
 rw[e3,wj];have e4:=congrArg sg e2;rw[da (Od hn),Nv,da hn]at e4;rw[e4]
def inS(l:List Int)(A B D:Int):Prop:=0<ar l A D/\ar l B D<=0
instance (l:List Int) (A B D:Int):Decidable (inS l A B D):=inferInstanceAs (Decidable (_/\_))
structure Fsm(u e b:Int):Prop where
 u1 : -1000000000<=u
 u2:u<=1000000000
 e0:0<=e
 e1:e<=10000000000000000
 b1:1<=b
 b2:b<=1000
theorem GM{x:Int}{n:Nat}(h1 : -(n:Int)<=x)(h2:x<=n):x.natAbs<=n:=by omega
theorem oM{x D:Int}(hD:0<D)(h1 : -(30000000000000*D)<=x)(h2:x<=30000000000000*D):x.natAbs<=30000000000000*D.natAbs:=by
 have e:((30000000000000*D.natAbs:Nat):Int)=30000000000000*D:=by rw[OS,Int.natAbs_of_nonneg (M7 hD)];rfl
 exact GM (by rw[e];exact h1) (by rw[e];exact h2)
theorem xB{u e b s A B D:Int}(h:Fsm u e b)(hs:s=1\/s = -1/\0<e)(hD:2^200<=D)(hw:B=A+128)(hi:inS [u,e,b,s] A B D):((b*A-u*D)*(b*A-u*D)-e*D*D).natAbs<=30000000000000*D.natAbs:=by
 obtain⟨u1,u2,e0,e1,b1,b2⟩:=h;have hDD:0<D:=by omega
 have eB:b*B-u*D=b*A-u*D+128*b:=by rw[hw];grind
 have h36:e*D*D<=100000000*D*(100000000*D):=by
  have h1:e*(D*D)<=10000000000000000*(D*D):=Nw (by omega) (M7 (M6 hDD hDD));have e2:e*D*D=e*(D*D):=by grind
  have e3:100000000*D*(100000000*D)=10000000000000000*(D*D):=by grind
  omega
 have hE0:0<=e*D*D:=NE (NE e0 (by omega)) (by omega)
 have hbig:e=0\/16384000000<e*D*D:=by
  rcases Ox 0 e with z |z
  ·right;have h1:1*(D*D)<=e*(D*D):=Nw (by omega) (M7 (M6 hDD hDD));have e2:e*D*D=e*(D*D):=by grind
   have h2:1*D<=D*D:=Nw (by omega) (by omega);omega
  ·left;omega
 rcases hs with rfl |⟨rfl,hp⟩
 ·have i1:0<bA (e*D*D) (b*A-u*D):=hi.1;have i2:bA (e*D*D) (b*B-u*D)<=0:=hi.2;rw[eB]at i2;generalize b*A-u*D=a at *
  have k1:a<0\/a*a<e*D*D:=by rcases cE (e*D*D) a with z |z |z<;>omega
  have k2:0<=a+128*b/\e*D*D<=(a+128*b)*(a+128*b):=by rcases cE (e*D*D) (a+128*b)with z |z |z<;>omega
  by_cases ha:a<0
  ·have q1:=kF k2.1 (show a+128*b<=128000 by omega);have z0:e=0:=by omega
   subst z0;have q2:(-a)*(-a)<=128000*128000:=kF (by omega) (by omega);have q3:(-a)*(-a)=a*a:=by grind
   have q4:0<=a*a:=by rw[<- q3];exact NE (by omega) (by omega)
   rw[Nz,Nz];exact oM hDD (by omega) (by omega)
  ·have k3:a*a<e*D*D:=by omega
   have k4:a<100000000*D:=GH (by omega) (by omega);have e3:(a+128*b)*(a+128*b)=a*a+256*(b*a)+16384*(b*b):=by grind
   have k5:b*a<=1000*a:=Nw b2 (by omega);have k6:b*b<=1000000:=Int.mul_le_mul b2 b2 (by omega) (by omega);exact oM hDD (by omega) (by omega)
 ·have i1:0<0-bA (e*D*D) (0-(b*A-u*D)):=hi.1;have i2:0-bA (e*D*D) (0-(b*B-u*D))<=0:=hi.2;rw[eB]at i2;have eq1:(b*A-u*D)*(b*A-u*D)=(0-(b*A-u*D))*(0-(b*A-u*D)):=by grind
  have eq2:0-(b*A-u*D+128*b)=0-(b*A-u*D)-128*b:=by omega
  rw[eq1];rw[eq2]at i2;generalize 0-(b*A-u*D)=c at *
  have k1:0<=c/\e*D*D<c*c:=by rcases cE (e*D*D) c with z |z |z<;>omega
  have k2:c-128*b<0\/(c-128*b)*(c-128*b)<=e*D*D:=by rcases cE (e*D*D) (c-128*b)with z |z |z<;>omega
  by_cases hc:c-128*b<0
  ·have q1:=kF k1.1 (show c<=128000 by omega);exact oM hDD (by omega) (by omega)
  ·have k3:(c-128*b)*(c-128*b)<=e*D*D:=by omega
   have k4:c-128*b<=100000000*D:=GL (by omega) (by omega);have e3:c*c=(c-128*b)*(c-128*b)+256*(b*c)-16384*(b*b):=by grind
   have k5:b*c<=1000*c:=Nw b2 (by omega);have k6:0<=b*b:=NE (by omega) (by omega);exact oM hDD (by omega) (by omega)
theorem AT{u e b A B D:Int}(h:Fsm u e b)(he:0<e)(hD:2^200<=D)(hw:B=A+128)(h1:inS [u,e,b,1] A B D)(h2:inS [u,e,b,-1] A B D):False:=by
 obtain⟨u1,u2,e0,e1,b1,b2⟩:=h;have hDD:0<D:=by omega
 have eB:b*B-u*D=b*A-u*D+128*b:=by rw[hw];grind
 have i1:bA (e*D*D) (b*B-u*D)<=0:=h1.2;have i2:0<0-bA (e*D*D) (0-(b*A-u*D)):=h2.1;rw[eB]at i1;generalize b*A-u*D=a at *
 have k1:0<=a+128*b:=by rcases cE (e*D*D) (a+128*b)with z |z |z<;>omega
 have k2:0<=0-a/\e*D*D<(0-a)*(0-a):=by rcases cE (e*D*D) (0-a)with z |z |z<;>omega
 have k3:=kF k2.1 (show 0-a<=128000 by omega);have h3:1*(D*D)<=e*(D*D):=Nw (by omega) (M7 (M6 hDD hDD));have e2:e*D*D=e*(D*D):=by grind
 have h4:1*D<=D*D:=Nw (by omega) (by omega);omega
theorem cJ{x y:Int}{a b:Nat}(hx:x.natAbs<=a)(hy:y.natAbs<=b):(x*y).natAbs<=a*b:=by rw[Ni];exact Nat.mul_le_mul hx hy
theorem xC(N:Nat):1000*1000*(30000000000000*N)+1000*1000*(30000000000000*N)<=60000000000000000000*N/\1000*1000*(30000000000000*N)<=30000000000000000000*N:=by omega
theorem Fu{n2 n3 n4 x1 x2 x3:Nat}(h:n4<=x1+x2+x3)(t1:x1<=482400000000000000000000000000000000000000000*n3)(t2:x2<=3600000000000000000000000000000000000000*n2)(t3:x3<=480000000000000000000000000000000000000000000*n3)(m1:n2<=n3)(m2:1606938044258990275541962092341162602522202993782792835301376*n3<=n4)(m4:0<n3):False:=by omega
theorem Fv{u e b u' e' b' A D:Int}(h:Fsm u e b)(h':Fsm u' e' b')(hD:2^200<=D)
 (n1:((b*A-u*D)*(b*A-u*D)-e*D*D).natAbs<=30000000000000*D.natAbs) (n2:((b'*A-u'*D)*(b'*A-u'*D)-e'*D*D).natAbs<=30000000000000*D.natAbs) :
 4*((b*u'-u*b')*(b*u'-u*b'))*(b*b*e')=(b'*b'*e-b*b*e'-(b*u'-u*b')*(b*u'-u*b'))*(b'*b'*e-b*b*e'-(b*u'-u*b')*(b*u'-u*b')):=by
 obtain⟨u1,u2,e0,e1,b1,b2⟩:=h;obtain⟨u1',u2',e0',e1',b1',b2'⟩:=h';obtain⟨N,rfl⟩:=O7 (show 0<=D by omega);rw[Nr]at n1 n2;have hN:1606938044258990275541962092341162602522202993782792835301376<=N:=by omega
 have q9:(b'*b').natAbs<=1000*1000:=cJ (a:=1000) (b:=1000) (by omega) (by omega);have q9':(b*b).natAbs<=1000*1000:=cJ (a:=1000) (b:=1000) (by omega) (by omega);have d1:=cJ q9 n1;have d2:=cJ q9' n2
 have hU:(b*u'-u*b').natAbs<=2000000000000:=by have a1:(b*u').natAbs<=1000*1000000000:=cJ (by omega) (by omega);have a2:(u*b').natAbs<=1000000000*1000:=cJ (by omega) (by omega);exact Nb (OI _ _) (OX a1 a2)
 have hE1:(b'*b'*e).natAbs<=1000*1000*10000000000000000:=cJ q9 (by omega);have hE2:(b*b*e').natAbs<=1000*1000*10000000000000000:=cJ q9' (by omega);have r1:(b'*(b*A-u*N))*(b'*(b*A-u*N))=b'*b'*e*(N*N)+b'*b'*((b*A-u*N)*(b*A-u*N)-e*N*N):=by grind
 have r2:(b*(b'*A-u'*N))*(b*(b'*A-u'*N))=b*b*e'*(N*N)+b*b*((b'*A-u'*N)*(b'*A-u'*N)-e'*N*N):=by grind
 have r3:b'*(b*A-u*N)=b*(b'*A-u'*N)+(b*u'-u*b')*N:=by grind
 generalize b'*b'*((b*A-u*N)*(b*A-u*N)-e*N*N)=δ1 at *
 generalize b*b*((b'*A-u'*N)*(b'*A-u'*N)-e'*N*N)=δ2 at *
 rw[r3]at r1;generalize b*(b'*A-u'*N)=Y at *
 generalize b*u'-u*b'=U at *
 generalize b'*b'*e=E1 at *
 generalize b*b*e'=E2 at *
 clear n1 n2 q9 q9' r3 u1 u2 e0 e1 b1 b2 u1' u2' e0' e1' b1' b2' hD;have hUU:(U*U).natAbs<=2000000000000*2000000000000:=cJ hU hU;have hW:(E1-E2-U*U).natAbs<=4020000000000000000000000:=Nb (OI _ _) (Nb (OX (Nb (OI _ _) (OX hE1 hE2)) hUU) (by decide));generalize hWd:E1-E2-U*U=W at *
 have r4:2*U*N*Y=W*(N*N)+(δ1-δ2):=by rw[<- hWd];grind
 have r5:(2*U*N*Y)*(2*U*N*Y)=4*(U*U)*(N*N)*(Y*Y):=by grind
 rw[r4,r2]at r5;have hM:(δ1-δ2).natAbs<=60000000000000000000*N:=Nb (OI _ _) (Nb (OX d1 d2) (xC N).1);have hδ2:δ2.natAbs<=30000000000000000000*N:=Nb d2 (xC N).2;generalize δ1-δ2=δ at *
 have hNN:(0:Int)<(N:Int)*N:=M6 (by omega) (by omega);have r6:(4*(U*U)*E2-W*W)*(N*N)*(N*N)=2*W*δ*(N*N)+δ*δ-4*(U*U)*δ2*(N*N):=by grind
 refine Int.sub_eq_zero.mp (Classical.byContradiction λhne=>?_);generalize hZ:4*(U*U)*E2-W*W=Z at *
 have hZ1:1<=Z.natAbs:=by omega
 have b1:(Z*(N*N)*(N*N)).natAbs=Z.natAbs*(N*N)*(N*N):=by rw[Ni,Ni,Ni,Nr]
 have t1:(2*W*δ*(N*N)).natAbs<=2*4020000000000000000000000*(60000000000000000000*N)*(N*N):=by refine cJ (cJ (cJ (by decide) hW) hM) ?_;rw[Ni,Nr];exact M0 _
 have t2:(δ*δ).natAbs<=60000000000000000000*N*(60000000000000000000*N):=cJ hM hM
 have t3:(4*(U*U)*δ2*(N*N)).natAbs<=4*(2000000000000*2000000000000)*(30000000000000000000*N)*(N*N):=by refine cJ (cJ (cJ (by decide) hUU) hδ2) ?_;rw[Ni,Nr];exact M0 _
 have t4:1*(N*N)*(N*N)<=Z.natAbs*(N*N)*(N*N):=NK _ (NK _ hZ1);rw[<- b1,r6]at t4;have e1:2*4020000000000000000000000*(60000000000000000000*N)*(N*N)=482400000000000000000000000000000000000000000*(N*N*N):=by grind
 have e2:60000000000000000000*N*(60000000000000000000*N)=3600000000000000000000000000000000000000*(N*N):=by grind
 have e3:4*(2000000000000*2000000000000)*(30000000000000000000*N)*(N*N)=480000000000000000000000000000000000000000000*(N*N*N):=by grind
 have e4:1*(N*N)*(N*N)=N*(N*N*N):=by grind
 have m1:1*(N*N)<=N*(N*N):=NK _ (by omega);have m2:1606938044258990275541962092341162602522202993782792835301376*(N*N*N)<=N*(N*N*N):=NK _ hN;have m3:N*(N*N)=N*N*N:=by grind
 have m4:0<N*N*N:=Nat.mul_pos (Nat.mul_pos (by omega) (by omega)) (by omega);rw[e4]at t4;rw[e1]at t1;rw[e2]at t2;rw[e3]at t3;rw[Nat.one_mul,m3]at m1;exact Fu (Nb t4 (Nb (OI _ _) (Nat.add_le_add_right (Int.natAbs_add_le _ _) _))) t1 t2 t3 m1 m2 m4
theorem BV{u e b u' e' b':Int}(h:Fsm u e b)(h':Fsm u' e' b')(hs:NS e)(hs':NS e')
 (eq:4*((b*u'-u*b')*(b*u'-u*b'))*(b*b*e')=(b'*b'*e-b*b*e'-(b*u'-u*b')*(b*u'-u*b'))*(b'*b'*e-b*b*e'-(b*u'-u*b')*(b*u'-u*b'))):aB [u,e,b]=aB [u',e',b']:=by
 obtain⟨u1,u2,e0,e1,b1,b2⟩:=h;obtain⟨u1',u2',e0',e1',b1',b2'⟩:=h'
 have key:b*u'-u*b'=0/\b'*b'*e=b*b*e':=by
  by_cases hz:e'=0
  ·subst hz
   have e3:(b'*b'*e-(b*u'-u*b')*(b*u'-u*b'))*(b'*b'*e-(b*u'-u*b')*(b*u'-u*b'))=0:=by
    have:b*b*(0:Int)=0:=Nj _;rw[this]at eq;rw[Nj]at eq;have h9:b'*b'*e-0-(b*u'-u*b')*(b*u'-u*b')=b'*b'*e-(b*u'-u*b')*(b*u'-u*b'):=by omega
    rw[h9]at eq;exact eq.symm
   have e4:b'*b'*e=(b*u'-u*b')*(b*u'-u*b'):=by rcases NR.mp e3 with z |z<;>omega
   by_cases hz2:e=0
   ·subst hz2;rw[Nj]at e4;refine⟨?_,by rw[Nj,Nj]⟩;rcases NR.mp e4.symm with z |z<;>exact z
   ·exact(hs.no hz2 (by omega) e4).elim
  ·by_cases hU:b*u'-u*b'=0
   ·rw[hU]at eq
    have e3:(b'*b'*e-b*b*e')*(b'*b'*e-b*b*e')=0:=by
     have h8:4*((0:Int)*0)*(b*b*e')=0:=by rw[Nj,Nj,Nz]
     rw[h8]at eq;have h9:b'*b'*e-b*b*e'-0*0=b'*b'*e-b*b*e':=by omega
     rw[h9]at eq;exact eq.symm
    refine⟨hU,?_⟩;rcases NR.mp e3 with z |z<;>omega
   ·refine(hs'.no hz (x:=2*(b*u'-u*b')*b) (Nk (Nk (by decide) hU) (by omega)) (Eq.trans ?_ eq)).elim;grind
 obtain⟨k1,k2⟩:=key;show ay (aI u e b)=ay (aI u' e' b');obtain⟨tr,l2⟩:=fm (u:=u) (e:=e) b1;obtain⟨tr',l2'⟩:=fm (u:=u') (e:=e') b1';have hne:aI u e b≠[]:=λz=>by rw[z]at l2;simp at l2
 have hne':aI u' e' b'≠[]:=λz=>by rw[z]at l2';simp at l2'
 have hz:e=0↔e'=0:=by
  constructor
  ·intro z;rw[z,Nj]at k2;rcases NR.mp k2.symm with y |y
   ·rcases NR.mp y with y |y<;>omega
   ·exact y
  ·intro z;rw[z,Nj]at k2;rcases NR.mp k2 with y |y
   ·rcases NR.mp y with y |y<;>omega
   ·exact y
 have prop:∃x y:Int,x≠0/\y≠0/\∀n,x*cf (aI u' e' b') n=y*cf (aI u e b) n:=by
  by_cases h0:e=0
  ·have h0':=hz.mp h0;refine⟨b,b',by omega,by omega,λn=>?_⟩;unfold aI;rw[if_pos h0,if_pos h0',uf,uf];split
   ·have:b*u'=u*b':=by omega
    grind
   ·split
    ·grind
    ·omega
  ·have h0':¬e'=0:=λz=>h0 (hz.mpr z)
   refine⟨b*b,b'*b',Nk (by omega) (by omega),Nk (by omega) (by omega),λn=>?_⟩;have k3:b*u'=u*b':=by omega
   unfold aI;rw[if_neg h0,if_neg h0']
   match n with
   |0 =>
    show b*b*(u'*u'-e')=b'*b'*(u*u-e);have:(b*u')*(b*u')=(u*b')*(u*b'):=by rw[k3]
    grind
   |1 =>
    show b*b*(-2*b'*u')=b'*b'*(-2*b*u);have:b*b'*(b*u')=b*b'*(u*b'):=by rw[k3]
    grind
   |2 =>show b*b*(b'*b')=b'*b'*(b*b);grind
   |n+3 =>show b*b*0=b'*b'*0;omega
 obtain⟨x,y,hx,hy,hp⟩:=prop;refine q8 (eD tr hne) (eD tr' hne') ?_ ?_
 ·rw[Dv.plain tr'];refine Dv.prop_right hx hp ?_;obtain⟨g,hg,eg⟩:=jV tr;exact⟨1,[g],by decide,λn=>by rw[dO,<- eg];omega⟩
 ·rw[Dv.plain tr];refine Dv.prop_right (x:=y) (y:=x) hy (λn=>(hp n).symm) ?_;obtain⟨g,hg,eg⟩:=jV tr';exact⟨1,[g],by decide,λn=>by rw[dO,<- eg];omega⟩
def FacG(f:List Int):Prop:=∃u e b:Int,f=[u,e,b] /\ -1000000000<=u/\u<=1000000000 /\ -10000000000000000<=e/\e<=10000000000000000/\1<=b/\b<=1000/\NS e
theorem FacG.q{f:List Int}(h:FacG f):fj f:=by obtain⟨u,e,b,rfl,_,_,_,_,h5,_⟩:=h;exact⟨u,e,b,rfl,h5⟩
def AB(l l':List Int):Prop:=∀A B D:Int,2^200<=D->B=A+128->inS l A B D->inS l' A B D->False
theorem BC{fs:List (List Int)}(hF:∀f∈fs,FacG f)(hn:(fs.map aB).Nodup):(aM fs).Pairwise AB:=by
 unfold aM;rw[List.pairwise_flatMap];constructor
 ·intro f hf;obtain⟨u,e,b,rfl,h1,h2,h3,h4,h5,h6,h7⟩:=hF f hf;have hd:spF [u,e,b]=(if 0<=e then[[u,e,b,1]]else[])++(if 0<e then[[u,e,b,-1]]else[]):=rfl;rw[hd];by_cases z:0<e
  ·rw[if_pos (by omega),if_pos z];show List.Pairwise _ [[u,e,b,1],[u,e,b,-1]];refine List.pairwise_pair.mpr λA B D hD hw a1 a2=>?_
   exact AT ⟨h1,h2,by omega,h4,h5,h6⟩ z hD hw a1 a2
  ·rw[if_neg z];split
   ·exact List.pairwise_singleton _ _
   ·exact List.Pairwise.nil
 ·rw[List.nodup_iff_pairwise_ne,List.pairwise_map]at hn;refine hn.imp_of_mem λ{f g} hf hg hne x hx y hy A B D hD hw a1 a2=>hne ?_
  obtain⟨u,e,b,rfl,h1,h2,h3,h4,h5,h6,h7⟩:=hF f hf;obtain⟨u',e',b',rfl,h1',h2',h3',h4',h5',h6',h7'⟩:=hF g hg;obtain⟨_,s,rfl,he,hs⟩:=pU rfl h5 hx;obtain⟨_,s',rfl,he',hs'⟩:=pU rfl h5' hy;have F1:Fsm u e b:=⟨h1,h2,he,h4,h5,h6⟩;have F2:Fsm u' e' b':=⟨h1',h2',he',h4',h5',h6'⟩;exact BV F1 F2 h7 h7' (Fv F1 F2 hD (xB F1 hs hD hw a1) (xB F2 hs' hD hw a2))
theorem kG{fs:List (List Int)}(hF:∀f∈fs,fj f){l:List Int}(hl:l∈aM fs):Spt l:=by obtain⟨f,hf,hm⟩:=Oy.mp hl;obtain⟨u,e,b,rfl,hb⟩:=hF f hf;exact(pU rfl hb hm).1
noncomputable def pv:List Int->Rat->Rat
 | [],_=>0
 |c::l,x=>(c:Rat)+x*pv l x
theorem wV:∀(N:Nat) (a b c:List Int) (u v:Int) (x:Rat),a.length<=N->b.length<=N->c.length<=N->(∀n,cf c n=u*cf a n+v*cf b n)->pv c x=(u:Rat)*pv a x+(v:Rat)*pv b x
 |0,a,b,c,u,v,x,ha,hb,hc,_=>by rw[On (Nat.le_zero.mp ha),On (Nat.le_zero.mp hb),On (Nat.le_zero.mp hc)];show(0:Rat)=u*0+v*0;grind
 |N+1,a,b,c,u,v,x,ha,hb,hc,h=>by
  have key:∀l:List Int,l.length<=N+1->pv l x=(cf l 0:Rat)+x*pv l.tail x/\l.tail.length<=N/\∀n,cf l.tail n=cf l (n+1):=λl hl=>by
   cases l with
   |nil=>exact⟨by show(0:Rat)=((0:Int):Rat)+x*0;grind,M9 _,λn=>by rw[bM];rfl⟩
   |cons y l=>exact⟨rfl,by simpa using hl,λn=>rfl⟩
  obtain⟨a1,a2,a3⟩:=key a ha;obtain⟨b1,b2,b3⟩:=key b hb;obtain⟨c1,c2,c3⟩:=key c hc;have ih:=wV N a.tail b.tail c.tail u v x a2 b2 c2 λn=>by rw[a3,b3,c3,h]
  have h0:(cf c 0:Rat)=(u:Rat)*(cf a 0:Rat)+(v:Rat)*(cf b 0:Rat):=by rw[h 0,Rat.intCast_add,Op,Op]
  rw[a1,b1,c1,ih,h0];grind
theorem nV{a b c:List Int}{u v:Int}(x:Rat)(h:∀n,cf c n=u*cf a n+v*cf b n):pv c x=(u:Rat)*pv a x+(v:Rat)*pv b x :=
 wV (a.length+b.length+c.length) a b c u v x (by omega) (by omega) (by omega) h
theorem lg{a c:List Int}{u:Int}(x:Rat)(h:∀n,cf c n=u*cf a n):pv c x=(u:Rat)*pv a x:=by
 have:=nV (a:=a) (b:=[]) (c:=c) (u:=u) (v:=0) x λn=>by rw[h n,Nz,ND]
 rw[this];show _+((0:Int):Rat)*0=_;grind
theorem wU(x:Rat):∀(a b c:List Int),(∀n,cf c n=aq a b n)->pv c x=pv a x*pv b x
 | [],b,c,h=>by
  have:=lg (a:=[]) (c:=c) (u:=0) x λn=>by rw[h n,dg];simp
  rw[this];show _=(0:Rat)*_;show((0:Int):Rat)*0=0*_;grind
 |y::a,b,c,h=>by
  have ih:=wU x a b (ad a b) (aE a b)
  have:=nV (a:=b) (b:=0::ad a b) (c:=c) (u:=y) (v:=1) x λn=>by
   rw[h n,cU,pB,Nv]
   congr 1
   unfold up;split
   ·rfl
   ·rw[aE]
  rw[this];show(y:Rat)*pv b x+((1:Int):Rat)*(((0:Int):Rat)+x*pv (ad a b) x)=((y:Rat)+x*pv a x)*pv b x;rw[ih];grind
theorem gk{a b:Rat}(ha:0<a)(hb:0<b):0<a/b:=by rw[Rat.div_def];exact Oq ha (Rat.inv_pos.mpr hb)
noncomputable def Bd(M v:Rat):Prop := -M<=v/\v<=M
theorem Bd.mul{M N u v:Rat}(h1:Bd M u)(h2:Bd N v):Bd (M*N) (u*v):=by obtain⟨a,b⟩:=h1;obtain⟨c,d⟩:=h2;have p1:0<=(M-u)*(N-v):=NB (by grind) (by grind);have p2:0<=(M+u)*(N+v):=NB (by grind) (by grind);have p3:0<=(M-u)*(N+v):=NB (by grind) (by grind);have p4:0<=(M+u)*(N-v):=NB (by grind) (by grind);constructor<;>grind
theorem Bd.add{M N u v:Rat}(h1:Bd M u)(h2:Bd N v):Bd (M+N) (u+v):=by obtain⟨a,b⟩:=h1;obtain⟨c,d⟩:=h2;constructor<;>grind
theorem Bd.mono{M N u:Rat}(h1:Bd M u)(h:M<=N):Bd N u:=by obtain⟨a,b⟩:=h1;constructor<;>grind
def Nice(f:Rat->Rat):Prop:=∀R:Rat,0<=R->∃M:Rat,0<=M/\(∀x,Bd R x->Bd M (f x))/\∀x y,Bd R x->Bd R y->x<=y->Bd (M*(y-x)) (f y-f x)
theorem j1(c:Rat):Nice λ_=>c:=λR _=>by
 rcases Oe (a:=0) (b:=c)with h |h
 ·exact⟨c,h,λx _=>⟨by grind,by grind⟩,λx y _ _ hxy=>by
   have:=NB h (show 0<=y-x by grind)
   exact⟨by grind,by grind⟩⟩
 ·exact⟨-c,by grind,λx _=>⟨by grind,by grind⟩,λx y _ _ hxy=>by
   have:=NB (show 0 <= -c by grind) (show 0<=y-x by grind)
   exact⟨by grind,by grind⟩⟩
theorem nice_id:Nice λx=>x:=λR hR=>by refine⟨R+1,by grind,λx h=>h.mono (by grind),λx y _ _ hxy=>?_⟩;have:=NB hR (show 0<=y-x by grind);exact⟨by grind,by grind⟩
theorem Nice.add{f g:Rat->Rat}(hf:Nice f)(hg:Nice g):Nice λx=>f x+g x:=λR hR=>by
 obtain⟨M,m0,m1,m2⟩:=hf R hR;obtain⟨N,n0,n1,n2⟩:=hg R hR;refine⟨M+N,by grind,λx h=>(m1 x h).add (n1 x h),λx y hx hy hxy=>?_⟩;have:=(m2 x y hx hy hxy).add (n2 x y hx hy hxy);have e1:M*(y-x)+N*(y-x)=(M+N)*(y-x):=by grind
 have e2:f y-f x+(g y-g x)=f y+g y-(f x+g x):=by grind
 rwa [e1,e2]at this
theorem Nice.mul{f g:Rat->Rat}(hf:Nice f)(hg:Nice g):Nice λx=>f x*g x:=λR hR=>by
 obtain⟨M,m0,m1,m2⟩:=hf R hR;obtain⟨N,n0,n1,n2⟩:=hg R hR;have p:=NB m0 n0;refine⟨2*(M*N),by grind,λx h=>((m1 x h).mul (n1 x h)).mono (by grind),λx y hx hy hxy=>?_⟩;have:=((m2 x y hx hy hxy).mul (n1 y hy)).add ((m1 x hx).mul (n2 x y hx hy hxy));have e1:M*(y-x)*N+M*(N*(y-x))=2*(M*N)*(y-x):=by grind
 have e2:(f y-f x)*g y+f x*(g y-g x)=f y*g y-f x*g x:=by grind
 rwa [e1,e2]at this
theorem eI:∀l:List Int,Nice (pv l)
 | []=>j1 0
 |c::l=>(j1 (c:Rat)).add (nice_id.mul (eI l))
theorem wT:∀(l:List Int) (R:Rat),0<=R->∃M:Rat,0<=M/\∀x y,Bd R x->Bd R y->x<=y->Bd (M*((y-x)*(y-x))) (pv l y-pv l x-(y-x)*pv (slopeL l) x)
 | [],R,_=>⟨0,by grind,λx y _ _ _=>by
  have e:pv [] y-pv [] x-(y-x)*pv (slopeL []) x=0:=by show(0:Rat)-0-(y-x)*0=0;grind
  rw[e];constructor<;>grind⟩
 |c::l,R,hR=>by
  obtain⟨M,m0,m1⟩:=wT l R hR;obtain⟨N,n0,n1,n2⟩:=eI l R hR;have p:=NB hR m0;refine⟨N+R*M,by grind,λx y hx hy hxy=>?_⟩
  have hd:pv (slopeL (c::l)) x=pv l x+x*pv (slopeL l) x:=by
   have:=nV (a:=l) (b:=0::slopeL l) (c:=slopeL (c::l)) (u:=1) (v:=1) x λn=>v7 c l n
   rw[this];show((1:Int):Rat)*pv l x+((1:Int):Rat)*(((0:Int):Rat)+x*pv (slopeL l) x)=_;grind
  have hz:Bd (y-x) (y-x):=⟨by grind,by grind⟩;have:=(hz.mul (n2 x y hx hy hxy)).add (hx.mul (m1 x y hx hy hxy));have e1:(y-x)*(N*(y-x))+R*(M*((y-x)*(y-x)))=(N+R*M)*((y-x)*(y-x)):=by grind
  have e2:(y-x)*(pv l y-pv l x)+x*(pv l y-pv l x-(y-x)*pv (slopeL l) x)=pv (c::l) y-pv (c::l) x-(y-x)*pv (slopeL (c::l)) x:=by rw[hd];show _=((c:Rat)+y*pv l y)-((c:Rat)+x*pv l x)-_;grind
  rwa [e1,e2]at this
noncomputable def sgR(v:Rat):Int:=if v<0 then -1 else if 0<v then 1 else 0
theorem cq(v:Rat):(v<0/\sgR v = -1)\/(v=0/\sgR v=0)\/(0<v/\sgR v=1):=by
 unfold sgR;by_cases h:v<0
 ·exact .inl ⟨h,by rw[if_pos h]⟩
 ·by_cases h2:0<v
  ·exact .inr (.inr ⟨h2,by rw[if_neg h,if_pos h2]⟩)
  ·exact .inr (.inl ⟨by grind,by rw[if_neg h,if_neg h2]⟩)
def Sta(f:Rat->Rat)(x y:Rat):Prop:=sgR (f x)=sgR (f y)/\sgR (f x)≠0
theorem rm{f:Rat->Rat}{x y D:Rat}(h:¬Sta f x y)(hd:Bd D (f y-f x)):Bd D (f x)/\Bd D (f y):=by
 obtain⟨d1,d2⟩:=hd
 have key:(f x<=0/\0<=f y)\/(0<=f x/\f y<=0):=by
  rcases cq (f x)with⟨a,b⟩ |⟨a,b⟩ |⟨a,b⟩<;>rcases cq (f y)with⟨c,d⟩ |⟨c,d⟩ |⟨c,d⟩
  ·exact absurd ⟨by rw[b,d],by rw[b];decide⟩ h
  ·exact .inl ⟨by grind,by grind⟩
  ·exact .inl ⟨by grind,by grind⟩
  ·exact .inr ⟨by grind,by grind⟩
  ·exact .inl ⟨by grind,by grind⟩
  ·exact .inl ⟨by grind,by grind⟩
  ·exact .inr ⟨by grind,by grind⟩
  ·exact .inr ⟨by grind,by grind⟩
  ·exact absurd ⟨by rw[b,d],by rw[b];decide⟩ h
 rcases key with⟨a,b⟩ |⟨a,b⟩
 ·exact⟨⟨by grind,by grind⟩,⟨by grind,by grind⟩⟩
 ·exact⟨⟨by grind,by grind⟩,⟨by grind,by grind⟩⟩
inductive SRow:List (List Int)->Prop
 |last {c:Int} (h:c≠0):SRow [[c]]
 |two {a:List Int} {c:Int} (h:c≠0):SRow [a,[c]]
 |cons {a b c:List Int} {r:List (List Int)} {q:List Int} {α β:Rat} (hα:0<α) (hβ:0<β) (e:∀x,α*pv a x=pv q x*pv b x-β*pv c x) (h:SRow (b::c::r)):SRow (a::b::c::r)
theorem qX(c:Int)(x:Rat):pv [c] x=(c:Rat):=by show(c:Rat)+x*0=c;grind
theorem bez:∀{row:List (List Int)},SRow row->∀a b r,row=a::b::r->∃(A B:Rat->Rat) (k:Rat),Nice A/\Nice B/\k≠0/\∀x,A x*pv a x+B x*pv b x=k
 |_,.last h,a,b,r,e=>by cases e
 |_,.two (c:=c) h,a,b,r,e=>by cases e;refine⟨λ_=>0,λ_=>1,(c:Rat),j1 0,j1 1,λz=>h (OY.mp (by rw[z];rfl)),λx=>?_⟩;rw[qX];grind
 |_,.cons (a:=a0) (b:=b0) (c:=c) (q:=q) (α:=α) (β:=β) hα hβ eq h,a,b,r,e=>by
  cases e;obtain⟨A,B,k,nA,nB,hk,hAB⟩:=bez h _ _ _ rfl;refine⟨λx=>(-α)*B x,λx=>β*A x+B x*pv q x,β*k,(j1 (-α)).mul nB,((j1 β).mul nA).add (nB.mul (eI q)),λz=>?_,λx=>?_⟩
  ·rcases Rat.mul_eq_zero.mp z with y |y
   ·grind
   ·exact hk y
  ·have h1:=hAB x;have h2:=eq x;have:(-α)*B x*pv a0 x+(β*A x+B x*pv q x)*pv b0 x=B x*(pv q x*pv b0 x-α*pv a0 x)+β*A x*pv b0 x:=by grind
   rw[this,h2];have:B x*(pv q x*pv b0 x-(pv q x*pv b0 x-β*pv c x))+β*A x*pv b0 x=β*(A x*pv b0 x+B x*pv c x):=by grind
   rw[this,h1]
theorem xk{a b:Rat->Rat}(na:Nice a)(nb:Nice b){A B:Rat->Rat}{k:Rat}(nA:Nice A)(nB:Nice B)(hk:0<k)(hAB:∀x,A x*a x+B x*b x=k\/A x*a x+B x*b x = -k){R:Rat}(hR:0<=R) :
 ∃(δ κ:Rat),0<δ/\0<κ/\∀x y,Bd R x->Bd R y->x<y->y-x<=δ->¬Sta a x y->Sta b x y/\(κ<=b x\/b x <= -κ)/\(κ<=b y\/b y <= -κ):=by
 obtain⟨M1,p1,q1,r1⟩:=na R hR;obtain⟨M2,p2,q2,r2⟩:=nb R hR;obtain⟨M3,p3,q3,_⟩:=nA R hR;obtain⟨M4,p4,q4,_⟩:=nB R hR;have h31:=NB p3 p1;have h42:=NB p4 p2;have hT:0<2*(M3*M1+M4*M2+1):=by grind
 have hT4:0<2*(M4+1):=by grind
 refine⟨k/(2*(M3*M1+M4*M2+1)),k/(2*(M4+1)),gk hk hT,gk hk hT4,λx y hx hy hxy hd hs=>?_⟩
 have hd':(y-x)*(2*(M3*M1+M4*M2+1))<=k:=by
  have:=N5 hd (Nt hT)
  rwa [NL (by grind)]at this
 have hyx:0<y-x:=by grind
 obtain⟨a1,a2⟩:=rm hs (r1 x y hx hy (by grind));have hM1:0<=M1*(y-x):=NB p1 (Nt hyx)
 have far:∀z,Bd R z->Bd (M1*(y-x)) (a z)->k/(2*(M4+1))<=b z\/b z <= -(k/(2*(M4+1))):=λz hz ha=>by
  have e1:=(q3 z hz).mul ha
  have e2:2*(M3*(M1*(y-x)))<=k:=by have h1:=NB h42 (Nt hyx);grind
  have hB:(k<=2*(B z*b z))\/(2*(B z*b z) <= -k):=by
   obtain⟨f1,f2⟩:=e1;rcases hAB z with g |g
   ·left;grind
   ·right;grind
  rcases Oe (a:=k/(2*(M4+1))) (b:=b z)with g |g
  ·exact .inl g
  ·rcases Oe (a:=b z) (b := -(k/(2*(M4+1))))with g2 |g2
   ·exact .inr g2
   ·exfalso;have hb:Bd (k/(2*(M4+1))) (b z):=⟨g2,g⟩;obtain⟨f1,f2⟩:=(q4 z hz).mul hb
    have e3:2*(M4*(k/(2*(M4+1))))<k:=by
     have e4:k/(2*(M4+1))*(2*(M4+1))=k:=NL (by grind);have e5:=gk hk hT4;generalize k/(2*(M4+1))=w at *
     grind
    rcases hB with g3 |g3<;>grind
 refine⟨Classical.byContradiction λhs2=>?_,far x hx a1,far y hy a2⟩;obtain⟨b1,b2⟩:=rm hs2 (r2 x y hx hy (by grind));obtain⟨e1,e2⟩:=(q3 x hx).mul a1;obtain⟨e3,e4⟩:=(q4 x hx).mul b1;have hM:0<=(M3*M1+M4*M2)*(y-x):=NB (by grind) (Nt hyx);have e5:M3*(M1*(y-x))+M4*(M2*(y-x))=(M3*M1+M4*M2)*(y-x):=by grind
 have e6:(y-x)*(2*(M3*M1+M4*M2+1))=2*((M3*M1+M4*M2)*(y-x))+2*(y-x):=by grind
 rcases hAB x with g |g<;>grind
theorem Ac{row:List (List Int)}(h:SRow row){a b:List Int}{r:List (List Int)}(e:row=a::b::r):∃(A B:Rat->Rat) (k:Rat),Nice A/\Nice B/\0<k/\∀x,A x*pv a x+B x*pv b x=k\/A x*pv a x+B x*pv b x = -k:=by
 obtain⟨A,B,k,nA,nB,hk,hAB⟩:=bez h a b r e;rcases Oe (a:=0) (b:=k)with g |g
 ·exact⟨A,B,k,nA,nB,by grind,λx=>.inl (hAB x)⟩
 ·exact⟨A,B,-k,nA,nB,by grind,λx=>.inr (by rw[hAB x];grind)⟩
noncomputable def vr:Int->List Int->Int
 |_,[]=>0
 |b,s::r=>(if s*b<0 then 1 else 0)+vr (if s=0 then b else s) r
theorem zK:∀(l:List Int) (n b:Int),l.foldl chF (n,b)=(n+vr b l,(l.foldl chF (n,b)).2)
 | [],n,b=>by show(n,b)=(n+0,b);rw[ND]
 |s::r,n,b=>by
  show r.foldl chF (chF (n,b) s)=(n+((if s*b<0 then 1 else 0)+vr (if s=0 then b else s) r),(r.foldl chF (chF (n,b) s)).2)
  have e:chF (n,b) s=(n+(if s*b<0 then 1 else 0),if s=0 then b else s):=by
   unfold chF;by_cases h:s*b<0
   ·rw[if_pos h,if_pos h]
   ·rw[if_neg h,if_neg h,ND]
  rw[e];have:=zK r (n+(if s*b<0 then 1 else 0)) (if s=0 then b else s);rw[Int.add_assoc]at this;exact this
theorem zN(l:List Int):(chS l).1=vr 0 l:=by unfold chS;rw[zK l 0 0];show 0+vr 0 l=_;omega
def fV(s:Int):Prop:=s=1\/s=0\/s = -1
inductive Al:Int->List Int->List Int->Prop
 |nil {b:Int}:Al b [] []
 |stab {b s:Int} {r r':List Int} (h:s≠0) (t:Al s r r'):Al b (s::r) (s::r')
 |unst {b s s':Int} {r r':List Int} (h1:fV s) (h2:fV s') (t:Al (-b) r r'):Al b (s :: -b::r) (s' :: -b::r')
theorem vk{b s:Int}(hb:b=1\/b = -1)(hs:fV s)(r:List Int):vr b (s :: -b::r)=1+vr (-b) r:=by
 have hb0:¬(-b=0):=by omega
 rcases hs with rfl |rfl |rfl
 ·rcases hb with rfl |rfl<;>simp[vr]
 ·rcases hb with rfl |rfl<;>simp[vr]
 ·rcases hb with rfl |rfl<;>simp[vr]
theorem Al.vr:∀{b:Int} {r r':List Int},Al b r r'->(b=1\/b = -1)->(∀s∈r,fV s)->RM.vr b r=RM.vr b r'
 |_,_,_,.nil,_,_=>rfl
 |b,_,_,.stab (s:=s) (r:=r) (r':=r') h t,hb,hu=>by
  have hs:fV s:=hu s (Na ..);have hs':s=1\/s = -1:=by rcases hs with z |z |z;exact .inl z;exact absurd z h;exact .inr z
  have ih:=Al.vr t hs' λx hx=>hu x (M8 _ hx)
  show _+RM.vr (if s=0 then b else s) r=_+RM.vr (if s=0 then b else s) r';rw[if_neg h,ih]
 |b,_,_,.unst h1 h2 t,hb,hu=>by
  have ih:=Al.vr t (by omega) λx hx=>hu x (M8 _ (M8 _ hx))
  rw[vk hb h1,vk hb h2,ih]
noncomputable def sgX(row:List (List Int))(x:Rat):List Int:=row.map λf=>sgR (pv f x)
theorem nN(v:Rat):fV (sgR v):=by
 rcases cq v with⟨_,h⟩ |⟨_,h⟩ |⟨_,h⟩<;>rw[h]
 ·exact .inr (.inr rfl)
 ·exact .inr (.inl rfl)
 ·exact .inl rfl
theorem wl(row:List (List Int))(x:Rat):∀s∈sgX row x,fV s:=λs hs=>by obtain⟨f,_,rfl⟩:=Nc.mp hs;exact nN _
def Au(row:List (List Int))(R:Rat):Prop:=∃δ:Rat,0<δ/\∀x y,Bd R x->Bd R y->x<y->y-x<=δ->∀a r,row=a::r->Sta (pv a) x y->Al (sgR (pv a x)) (sgX r x) (sgX r y)
theorem B6{c:Int}(h:c≠0):sgR (c:Rat)≠0:=by
 rcases cq (c:Rat)with⟨_,e⟩ |⟨z,_⟩ |⟨_,e⟩
 ·rw[e];decide
 ·exact absurd (OY.mp (by rw[z];rfl)) h
 ·rw[e];decide
theorem x9:∀{row:List (List Int)},SRow row->∀R:Rat,0<=R->Au row R/\Au row.tail R
 |_,.last h,R,_=>⟨⟨1,by grind,λx y _ _ _ _ a r e _=>by cases e;exact .nil⟩,⟨1,by grind,λx y _ _ _ _ a r e _=>by cases e⟩⟩
 |_,.two (c:=c) h,R,_=>by refine⟨⟨1,by grind,λx y _ _ _ _ a r e _=>?_⟩,⟨1,by grind,λx y _ _ _ _ a r e _=>by cases e;exact .nil⟩⟩;cases e;show Al _ [sgR (pv [c] x)] [sgR (pv [c] y)];rw[qX,qX];exact .stab (B6 h) .nil
 |_,.cons (a:=a) (b:=b) (c:=c) (r:=r) (q:=q) (α:=α) (β:=β) hα hβ eq h,R,hR=>by
  obtain⟨⟨δ1,d1,l1⟩,⟨δ2,d2,l2⟩⟩:=x9 h R hR;refine⟨?_,⟨δ1,d1,l1⟩⟩;obtain⟨A,B,k,nA,nB,hk,hAB⟩:=Ac h rfl;obtain⟨δ3,κ,d3,hκ,l3⟩:=xk (eI b) (eI c) nA nB hk hAB hR;obtain⟨M,m0,m1,m2⟩:=eI b R hR;obtain⟨N,n0,n1,_⟩:=eI q R hR;have hMN:=NB n0 m0;have hT:0<N*M+1:=by grind
  have hβκ:=Oq hβ hκ
  obtain⟨δ,hδ,g1,g2,g3,g4⟩:∃δ:Rat,0<δ/\δ<=δ1/\δ<=δ2/\δ<=δ3/\δ*(N*M+1)<=β*κ:=by
   have hw:=gk hβκ hT;have hw2:β*κ/(N*M+1)*(N*M+1)=β*κ:=NL (by grind)
   have two:∀u v:Rat,0<u->0<v->∃w:Rat,0<w/\w<=u/\w<=v:=λu v hu hv=>by
    rcases Oe (a:=u) (b:=v)with z |z
    ·exact⟨u,hu,Rat.le_refl,z⟩
    ·exact⟨v,hv,z,Rat.le_refl⟩
   obtain⟨u,hu,u1,u2⟩:=two δ1 δ2 d1 d2;obtain⟨v,hv,v1,v2⟩:=two u δ3 hu d3;obtain⟨w,hw',w1,w2⟩:=two v _ hv hw;refine⟨w,hw',by grind,by grind,by grind,?_⟩;have:=N5 w2 (Nt hT)
   rwa [hw2]at this
  refine⟨δ,hδ,λx y hx hy hxy hd a' r' e sa=>?_⟩;cases e;show Al (sgR (pv a x)) (sgR (pv b x)::sgX (c::r) x) (sgR (pv b y)::sgX (c::r) y);by_cases sb:Sta (pv b) x y
  ·have t:=l1 x y hx hy hxy (by grind) b (c::r) rfl sb;rw[<- sb.1];exact .stab sb.2 t
  ·obtain⟨sc,c1,c2⟩:=l3 x y hx hy hxy (by grind) sb;obtain⟨b1,_⟩:=rm sb (m2 x y hx hy (by grind));have hyx:0<y-x:=by grind
   have hop:sgR (pv c x) = -sgR (pv a x):=by
    obtain⟨f1,f2⟩:=(n1 x hx).mul b1;have e1:=eq x
    have e2:N*(M*(y-x))<β*κ:=by have h1:(y-x)*(N*M+1)<=δ*(N*M+1):=N5 hd (Nt hT);grind
    rcases c1 with z |z
    ·have h2:β*κ<=β*pv c x:=Oz z (Nt hβ);have h3:α*pv a x<0:=by grind
     have h4:pv a x<0:=by
      rcases Oe (a:=0) (b:=pv a x)with w |w
      ·have:=NB (Nt hα) w;grind
      ·rcases cq (pv a x)with⟨w2,_⟩ |⟨w2,_⟩ |⟨w2,_⟩
       ·exact w2
       ·rw[w2]at h3;grind
       ·grind
     rcases cq (pv c x)with⟨w,_⟩ |⟨w,_⟩ |⟨_,w⟩
     ·grind
     ·grind
     ·rcases cq (pv a x)with⟨_,v⟩ |⟨v,_⟩ |⟨v,_⟩
      ·rw[w,v];decide
      ·grind
      ·grind
    ·have h2:β*pv c x<=β*(-κ):=Oz z (Nt hβ);have h3:0<α*pv a x:=by grind
     have h4:0<pv a x:=by
      rcases cq (pv a x)with⟨w2,_⟩ |⟨w2,_⟩ |⟨w2,_⟩
      ·have:=NB (Nt hα) (show 0 <= -pv a x by grind);grind
      ·rw[w2]at h3;grind
      ·exact w2
     rcases cq (pv c x)with⟨_,w⟩ |⟨w,_⟩ |⟨w,_⟩
     ·rcases cq (pv a x)with⟨v,_⟩ |⟨v,_⟩ |⟨_,v⟩
      ·grind
      ·grind
      ·rw[w,v]
     ·grind
     ·grind
   have hop':sgR (pv c y) = -sgR (pv a x):=by rw[<- sc.1];exact hop
   have t:Al (sgR (pv c x)) (sgX r x) (sgX r y):=l2 x y hx hy hxy (by grind) c r rfl sc;rw[hop]at t;show Al _ (_::sgR (pv c x)::sgX r x) (_::sgR (pv c y)::sgX r y);rw[hop,hop'];exact .unst (nN _) (nN _) t
noncomputable def chg(f:Rat->Rat)(x y:Rat):Int:=if sgR (f x)≠0/\sgR (f y)≠sgR (f x)then 1 else 0
noncomputable def vrs(row:List (List Int))(x:Rat):Int:=vr 0 (sgX row x)
theorem pM{s:Int}(r:List Int):vr 0 (s::r)=vr s r:=by
 show(if s*0<0 then 1 else 0)+vr (if s=0 then 0 else s) r=_;rw[Nj,if_neg (by decide),NF];split
 ·rename_i h;rw[h]
 ·rfl
theorem Bx{F0 F1:List Int}{r:List (List Int)}(h:SRow (F0::F1::r)){γ:Rat}(hγ:0<γ)(hd:∀x,pv (slopeL F0) x=γ*pv F1 x){R:Rat}(hR:0<=R) :
 ∃δ:Rat,0<δ/\∀x y,Bd R x->Bd R y->x<y->y-x<=δ->vrs (F0::F1::r) x-vrs (F0::F1::r) y=chg (pv F0) x y:=by
 obtain⟨⟨δ1,d1,l1⟩,⟨δ2,d2,l2⟩⟩:=x9 h R hR;obtain⟨A,B,k,nA,nB,hk,hAB⟩:=Ac h rfl;obtain⟨δ3,κ,d3,hκ,l3⟩:=xk (eI F0) (eI F1) nA nB hk hAB hR;obtain⟨M,m0,m1⟩:=wT F0 R hR;have hγκ:=Oq hγ hκ
 obtain⟨δ,hδ,g1,g2,g3,g4⟩:∃δ:Rat,0<δ/\δ<=δ1/\δ<=δ2/\δ<=δ3/\δ*(M+1)<=γ*κ:=by
  have hT:0<M+1:=by grind
  have hw:=gk hγκ hT;have hw2:γ*κ/(M+1)*(M+1)=γ*κ:=NL (by grind)
  have two:∀u v:Rat,0<u->0<v->∃w:Rat,0<w/\w<=u/\w<=v:=λu v hu hv=>by
   rcases Oe (a:=u) (b:=v)with z |z
   ·exact⟨u,hu,Rat.le_refl,z⟩
   ·exact⟨v,hv,z,Rat.le_refl⟩
  obtain⟨u,hu,u1,u2⟩:=two δ1 δ2 d1 d2;obtain⟨v,hv,v1,v2⟩:=two u δ3 hu d3;obtain⟨w,hw',w1,w2⟩:=two v _ hv hw;refine⟨w,hw',by grind,by grind,by grind,?_⟩;have:=N5 w2 (Nt hT)
  rwa [hw2]at this
 refine⟨δ,hδ,λx y hx hy hxy hyd=>?_⟩;have e0:∀z,vrs (F0::F1::r) z=vr (sgR (pv F0 z)) (sgX (F1::r) z):=λz=>pM _
 have nz:∀{v:Rat},sgR v≠0->sgR v=1\/sgR v = -1:=λ{v} hv=>by rcases nN v with z |z |z;exact .inl z;exact absurd z hv;exact .inr z
 rw[e0,e0];by_cases s0:Sta (pv F0) x y
 ·have t:=(l1 x y hx hy hxy (by grind) F0 (F1::r) rfl s0).vr (nz s0.2) (wl _ _);rw[<- s0.1,t];unfold chg;rw[if_neg (λz=>z.2 s0.1.symm)];omega
 ·obtain⟨s1,c1,c2⟩:=l3 x y hx hy hxy (by grind) s0;have t:=(l2 x y hx hy hxy (by grind) F1 r rfl s1).vr (nz s1.2) (wl _ _);have hyx:0<y-x:=by grind
  have hyy:0<(y-x)*(y-x):=Oq hyx hyx;obtain⟨f1,f2⟩:=m1 x y hx hy (by grind)
  have small:M*((y-x)*(y-x))<(y-x)*(γ*κ):=by
   have h1:(y-x)*(M+1)<=γ*κ:=by have:=N5 hyd (show 0<=M+1 by grind);grind
   have h2:(y-x)*((y-x)*(M+1))<=(y-x)*(γ*κ):=Oz h1 (Nt hyx);grind
  rw[hd]at f1 f2;show vr (sgR (pv F0 x)) (sgR (pv F1 x)::sgX r x)-vr (sgR (pv F0 y)) (sgR (pv F1 y)::sgX r y)=_
  have hu:∀(b s:Int) (l:List Int),s≠0->vr b (s::l)=(if s*b<0 then 1 else 0)+vr s l:=λb s l hs=>by show _+vr (if s=0 then b else s) l=_;rw[if_neg hs]
  have s1':sgR (pv F1 y)=sgR (pv F1 x):=s1.1.symm;rw[s1',hu _ _ _ s1.2,hu _ _ _ s1.2,t];unfold chg;rcases c1 with z |z
  ·
   have h1:γ*κ<=γ*pv F1 x:=Oz z (Nt hγ);have h2:(y-x)*(γ*κ)<=(y-x)*(γ*pv F1 x):=Oz h1 (Nt hyx);have rise:pv F0 x<pv F0 y:=by grind
   have s1p:sgR (pv F1 x)=1:=by
    rcases cq (pv F1 x)with⟨w,_⟩ |⟨w,_⟩ |⟨_,w⟩
    ·grind
    ·grind
    ·exact w
   rw[s1p];rcases cq (pv F0 x)with⟨a1,a2⟩ |⟨a1,a2⟩ |⟨a1,a2⟩<;>rcases cq (pv F0 y)with⟨b1,b2⟩ |⟨b1,b2⟩ |⟨b1,b2⟩
   ·exact absurd ⟨by rw[a2,b2],by rw[a2];decide⟩ s0
   ·rw[a2,b2];simp
   ·rw[a2,b2];simp
   ·grind
   ·grind
   ·rw[a2,b2];simp
   ·grind
   ·grind
   ·exact absurd ⟨by rw[a2,b2],by rw[a2];decide⟩ s0
  ·have h1:γ*pv F1 x<=γ*(-κ):=Oz z (Nt hγ);have h2:(y-x)*(γ*pv F1 x)<=(y-x)*(γ*(-κ)):=Oz h1 (Nt hyx);have fall:pv F0 y<pv F0 x:=by grind
   have s1p:sgR (pv F1 x) = -1:=by
    rcases cq (pv F1 x)with⟨_,w⟩ |⟨w,_⟩ |⟨w,_⟩
    ·exact w
    ·grind
    ·grind
   rw[s1p];rcases cq (pv F0 x)with⟨a1,a2⟩ |⟨a1,a2⟩ |⟨a1,a2⟩<;>rcases cq (pv F0 y)with⟨b1,b2⟩ |⟨b1,b2⟩ |⟨b1,b2⟩
   ·exact absurd ⟨by rw[a2,b2],by rw[a2];decide⟩ s0
   ·grind
   ·grind
   ·rw[a2,b2];simp
   ·grind
   ·grind
   ·rw[a2,b2];simp
   ·rw[a2,b2];simp
   ·exact absurd ⟨by rw[a2,b2],by rw[a2];decide⟩ s0
structure Cut(s:Rat->Int):Prop where
 u:∀x,fV (s x)
 m:∀x y,x<y->s x<=0->s y = -1
noncomputable def cnt(S:List (Rat->Int))(x y:Rat):Int:=(S.map λs=>if 0<s x/\s y<=0 then(1:Int)else 0).sum
theorem Kg(x y:Rat):cnt [] x y=0:=rfl
theorem fQ(s:Rat->Int)(S:List (Rat->Int))(x y:Rat):cnt (s::S) x y=(if 0<s x/\s y<=0 then 1 else 0)+cnt S x y:=by unfold cnt;rw[Nx,N6]
theorem zH{x y z:Rat}(hxy:x<y)(hyz:y<z):∀{S:List (Rat->Int)},(∀s∈S,Cut s)->cnt S x z=cnt S x y+cnt S y z
 | [],_=>rfl
 |s::S,h=>by
  have hs:=h s (Na ..);have ih:=zH hxy hyz (S:=S) λt ht=>h t (M8 _ ht)
  rw[fQ,fQ,fQ,ih]
  have e:(if 0<s x/\s z<=0 then(1:Int)else 0)=(if 0<s x/\s y<=0 then 1 else 0)+(if 0<s y/\s z<=0 then 1 else 0):=by
   by_cases hy:s y<=0
   ·have hz:=hs.m y z hyz hy;rw[if_neg (show ¬(0<s y/\s z<=0) by omega)];by_cases hx:0<s x
    ·rw[if_pos ⟨hx,by omega⟩,if_pos ⟨hx,hy⟩];rfl
    ·rw[if_neg (by omega),if_neg (by omega)];rfl
   ·have hx:0<s x:=by
     rcases Ox 0 (s x)with q |q
     ·exact q
     ·have:=hs.m x y hxy q;omega
    rw[if_neg (show ¬(0<s x/\s y<=0) by omega)];by_cases hz:s z<=0
    ·rw[if_pos ⟨hx,hz⟩,if_pos ⟨by omega,hz⟩];rfl
    ·rw[if_neg (by omega),if_neg (by omega)];rfl
  rw[e];omega
noncomputable def cpr(x:Rat):List (Rat->Int)->Int
 | []=>1
 |s::S => -s x*cpr x S
theorem uc(x:Rat):∀a b,cpr x (a++b)=cpr x a*cpr x b
 | [],b=>by show _=1*_;rw[Nv];rfl
 |s::a,b=>by show _*cpr x (a++b)=_*_*_;rw[uc x a b,NG]
def inC(s:Rat->Int)(x y:Rat):Prop:=0<=s x/\s y<=0
theorem GV{s:Rat->Int}(h:Cut s){x y:Rat}(hxy:x<y)(hn:¬inC s x y):s x=s y/\(s x=1\/s x = -1):=by
 have h1:=h.u x;have h2:=h.u y;unfold inC at hn
 by_cases hx:s x<=0
 ·have:=h.m x y hxy hx;rcases h1 with a |a |a<;>omega
 ·rcases h1 with a |a |a
  ·rcases h2 with b |b |b<;>omega
  ·omega
  ·omega
theorem r8{x y:Rat}(hxy:x<y):∀{S:List (Rat->Int)},(∀s∈S,Cut s)->(∀s∈S,¬inC s x y)->cpr x S=cpr y S/\(cpr x S=1\/cpr x S = -1)/\cnt S x y=0
 | [],_,_=>⟨rfl,.inl rfl,rfl⟩
 |s::S,h,hn=>by
  obtain⟨i1,i2,i3⟩:=r8 hxy (S:=S) (λt ht=>h t (M8 _ ht)) λt ht=>hn t (M8 _ ht)
  obtain⟨a1,a2⟩:=GV (h s (Na ..)) hxy (hn s (Na ..));refine⟨by show -s x*cpr x S = -s y*cpr y S;rw[a1,i1],?_,?_⟩
  ·show -s x*cpr x S=1 \/ -s x*cpr x S = -1;rcases a2 with z |z<;>rcases i2 with w |w<;>rw[z,w]<;>decide
  ·rw[fQ,i3,if_neg (by omega)];rfl
theorem ue(x y:Rat):∀a b,cnt (a++b) x y=cnt a x y+cnt b x y
 | [],b=>by rw[Kg];simp
 |s::a,b=>by rw[List.cons_append,fQ,fQ,ue x y a b];omega
theorem Kj{f:Rat->Rat}{S:List (Rat->Int)}{ε:Int}(hε:ε=1\/ε = -1)(hS:∀s∈S,Cut s){x y:Rat}(hxy:x<y)(hx:sgR (f x)=ε*cpr x S)(hy:sgR (f y)=ε*cpr y S)(hp:S.Pairwise λs t=>¬(inC s x y/\inC t x y)):chg f x y=cnt S x y:=by
 by_cases hall:∀s∈S,¬inC s x y
 ·obtain⟨k1,k2,k3⟩:=r8 hxy hS hall;rw[k3];unfold chg;rw[if_neg];rintro⟨_,h2⟩;exact h2 (by rw[hx,hy,k1])
 ·obtain⟨s,hs,hin⟩:∃s,s∈S/\inC s x y:=by refine Classical.byContradiction λz=>hall λs hs hi=>z ⟨s,hs,hi⟩
  obtain⟨pre,post,rfl⟩:=Pb hs
  have hno:∀t∈pre++post,¬inC t x y:=λt ht hi=>by
   rw[List.pairwise_append]at hp;rcases Nu.mp ht with z |z
   ·exact hp.2.2 t z s (Na ..) ⟨hi,hin⟩
   ·exact(List.pairwise_cons.mp hp.2.1).1 t z ⟨hin,hi⟩
  have hS':∀t∈pre++post,Cut t:=λt ht=>hS t (by
   rcases Nu.mp ht with z |z
   ·exact NQ _ z
   ·exact NC _ (M8 _ z))
  obtain⟨k1,k2,k3⟩:=r8 hxy hS' hno;have hc:=hS s hs
  have e1:∀z,cpr z (pre++s::post)=cpr z (pre++post) * -s z:=λz=>by rw[uc,uc];show cpr z pre*(-s z*cpr z post)=_;rw[Nm (-s z),NG]
  have e2:cnt (pre++s::post) x y=(if 0<s x/\s y<=0 then 1 else 0):=by rw[ue,fQ];rw[ue]at k3;omega
  rw[e1]at hx hy;rw[<- k1]at hy;rw[e2];unfold inC at hin
  have h1:=hc.u x;have h2:=hc.u y;unfold chg;rw[hx,hy];generalize cpr x (pre++post)=c at *
  have hs0:s x=0->s y = -1:=λz=>hc.m x y hxy (by omega)
  rcases h1 with a |a |a
  ·rw[a];rcases h2 with b |b |b
   ·omega
   ·rw[b];rcases hε with rfl |rfl<;>rcases k2 with rfl |rfl<;>simp
   ·rw[b];rcases hε with rfl |rfl<;>rcases k2 with rfl |rfl<;>simp
  ·rw[a];simp
  ·omega
theorem Lj(q:Rat):∃n:Nat,q<=(n:Rat):=by refine⟨q.ceil.toNat,Rat.le_trans (Rat.le_ceil (x:=q)) ?_⟩;have h:q.ceil<=(q.ceil.toNat:Int):=Int.self_le_toNat _;have h2:=Rat.intCast_le_intCast.mpr h;exact h2
theorem Fw(n:Nat):(n:Rat)<=2^n:=by
 induction n with
 |zero=>decide
 |succ n ih =>
  have h1:((1:Nat):Rat)<=2^n:=by
   have:(1:Nat)<=2^n:=Oj (by decide);have h2:((1:Nat):Rat)<=((2^n:Nat):Rat):=Rat.natCast_le_natCast.mpr this
   rwa [Rat.natCast_pow]at h2
  rw[Rat.pow_succ,Rat.natCast_add];grind
theorem uj{V:Rat->Int}{S:List (Rat->Int)}(hS:∀s∈S,Cut s){R δ:Rat}(hδ:0<δ)(h:∀x y,Bd R x->Bd R y->x<y->y-x<=δ->V x-V y=cnt S x y):∀(n:Nat) (x y:Rat),Bd R x->Bd R y->x<y->y-x<=2^n*δ->V x-V y=cnt S x y
 |0,x,y,hx,hy,hxy,hd=>h x y hx hy hxy (by rw[Rat.pow_zero]at hd;grind)
 |n+1,x,y,hx,hy,hxy,hd=>by
  have m1:x<(x+y)/2:=by grind
  have m2:(x+y)/2<y:=by grind
  have hm:Bd R ((x+y)/2):=by obtain⟨a,b⟩:=hx;obtain⟨c,d⟩:=hy;constructor<;>grind
  rw[Rat.pow_succ]at hd;have i1:=uj hS hδ h n x ((x+y)/2) hx hm m1 (by grind);have i2:=uj hS hδ h n ((x+y)/2) y hm hy m2 (by grind);rw[zH m1 m2 hS];omega
theorem By{F0 F1:List Int}{r:List (List Int)}(h:SRow (F0::F1::r)){γ:Rat}(hγ:0<γ)(hd:∀x,pv (slopeL F0) x=γ*pv F1 x){S:List (Rat->Int)}(hS:∀s∈S,Cut s){ε:Int}(hε:ε=1\/ε = -1)(hf:∀x,sgR (pv F0 x)=ε*cpr x S)
 {δ0:Rat} (hδ0:0<δ0) (hp:∀x y,x<y->y-x<=δ0->S.Pairwise λs t=>¬(inC s x y/\inC t x y)) {x y:Rat} (hxy:x<y):vrs (F0::F1::r) x-vrs (F0::F1::r) y=cnt S x y:=by
 obtain⟨R,hR,hx,hy⟩:∃R:Rat,0<=R/\Bd R x/\Bd R y:=by
  have ab:∀v:Rat,∃w:Rat,0<=w/\Bd w v:=λv=>by
   rcases Oe (a:=0) (b:=v)with z |z
   ·exact⟨v,z,by grind,by grind⟩
   ·exact⟨-v,by grind,by grind,by grind⟩
  obtain⟨u,u0,u1⟩:=ab x;obtain⟨v,v0,v1⟩:=ab y;exact⟨u+v,by grind,u1.mono (by grind),v1.mono (by grind)⟩
 obtain⟨δ1,d1,l1⟩:=Bx h hγ hd hR
 obtain⟨δ,hδ,g1,g2⟩:∃δ:Rat,0<δ/\δ<=δ0/\δ<=δ1:=by
  rcases Oe (a:=δ0) (b:=δ1)with z |z
  ·exact⟨δ0,hδ0,Rat.le_refl,z⟩
  ·exact⟨δ1,d1,z,Rat.le_refl⟩
 obtain⟨n,hn⟩:=Lj ((y-x)/δ);refine uj hS hδ (R:=R) (λx y hx hy hxy hdd=>?_) n x y hx hy hxy ?_
 ·rw[l1 x y hx hy hxy (by grind)];exact Kj hε hS hxy (hf x) (hf y) (hp x y hxy (by grind))
 ·have h1:(y-x)/δ<=2^n:=Rat.le_trans hn (Fw n);have h2:=N5 h1 (Nt hδ)
  rwa [NL (by grind)]at h2
theorem su{n:Int}(hn:n≠0):(n:Rat)≠0:=λz=>hn (OY.mp (show((n:Int):Rat)=((0:Int):Rat) by rw[z];rfl))
theorem Fp(q:Rat):(q.num:Rat)=q*((q.den:Int):Rat):=by
 have hd:((q.den:Int):Rat)≠0:=su (by have:=q.den_pos;omega)
 have hx:(q.num:Rat)/((q.den:Int):Rat)=q:=by have:=Rat.mkRat_self q;rw[Rat.mkRat_eq_div]at this;exact this
 have:=NL (a:=(q.num:Rat)) hd;rw[hx]at this;exact this.symm
theorem De{t n:Int}(hn:0<n):((t:Rat)/(n:Rat)).num*n=t*(((t:Rat)/(n:Rat)).den:Int):=by
 have hn':(n:Rat)≠0:=su (by omega);have hq:(t:Rat)/(n:Rat)*(n:Rat)=(t:Rat):=NL hn';generalize (t:Rat)/(n:Rat)=q at hq ⊢
 apply OY.mp;rw[Op,Op,Fp q,<- hq];grind
theorem Dd{t n t' n':Int}(hn:0<n)(hn':0<n'):(t:Rat)/(n:Rat)<(t':Rat)/(n':Rat)↔t*n'<t'*n:=by
 have p1:(0:Rat)<(n:Rat):=N7.mpr hn;have p2:(0:Rat)<(n':Rat):=N7.mpr hn';have e1:(t:Rat)/(n:Rat)*(n:Rat)=(t:Rat):=NL (by grind);have e2:(t':Rat)/(n':Rat)*(n':Rat)=(t':Rat):=NL (by grind);generalize (t:Rat)/(n:Rat)=q at e1 ⊢
 generalize (t':Rat)/(n':Rat)=q' at e2 ⊢
 rw[<- N7,Op,Op,<- e1,<- e2];have p3:=Oq p1 p2;have e3:q*(n:Rat)*(n':Rat)=q*((n:Rat)*(n':Rat)):=by grind
 have e4:q'*(n':Rat)*(n:Rat)=q'*((n:Rat)*(n':Rat)):=by grind
 rw[e3,e4];constructor
 ·intro h;exact Rat.mul_lt_mul_of_pos_right h p3
 ·intro h;refine Rat.not_le.mp λz=>?_
  have:=N5 z (Nt p3);grind
theorem wm{p v:Rat}(hp:0<p):sgR (p*v)=sgR v:=by
 rcases cq v with⟨a,b⟩ |⟨a,b⟩ |⟨a,b⟩
 ·have:p*v<0:=by have:=Oq hp (show 0 < -v by grind);grind
  rcases cq (p*v)with⟨_,d⟩ |⟨c,d⟩ |⟨c,d⟩
  ·rw[b,d]
  ·grind
  ·grind
 ·rw[a];have:p*0=0:=by grind
  rw[this]
 ·have:=Oq hp a;rcases cq (p*v)with⟨c,d⟩ |⟨c,d⟩ |⟨_,d⟩
  ·grind
  ·grind
  ·rw[b,d]
theorem B5(z:Int):sgR (z:Rat)=sg z:=by
 rcases cq (z:Rat)with⟨a,b⟩ |⟨a,b⟩ |⟨a,b⟩
 ·have:z<0:=N7.mp a;rw[b];unfold sg;rw[if_pos this]
 ·have:z=0:=OY.mp a;rw[this];rfl
 ·have:0<z:=N7.mp a;rw[b];unfold sg;rw[if_neg (by omega),if_pos this]
theorem yJ{t n:Int}(hn:0<n):∀l:List Int,(hv t n l:Rat)=(n:Rat)^l.length*pv l ((t:Rat)/(n:Rat))
 | []=>by show((0:Int):Rat)=_*0;grind
 |c::l=>by
  have hn':(n:Rat)≠0:=su (by omega);have hq:(t:Rat)/(n:Rat)*(n:Rat)=(t:Rat):=NL hn';rw[cN,Rat.intCast_add,Op,Op,yJ hn l,Rat.intCast_pow];show _=(n:Rat)^(l.length+1)*((c:Rat)+(t:Rat)/(n:Rat)*pv l ((t:Rat)/(n:Rat)));rw[Rat.pow_succ];generalize hqq:(t:Rat)/(n:Rat)=q at *
  rw[<- hq];grind
theorem wk{t n:Int}(hn:0<n)(l:List Int):sg (hv t n l)=sgR (pv l ((t:Rat)/(n:Rat))):=by rw[<- B5,yJ hn];exact wm (Rat.pow_pos (N7.mpr hn))
def Cop2(a b:List Int):Prop:=∀d,d≠[]->Tr d->Dv d a->Dv d b->d.length<=1
theorem Fn{one other:List Int}(ho:other≠[]):∀n,bC one other*cf one n=aq (bv one other) other n-(au (bU [] (aK one other)):Int)*cf (nxt one other) n:=λn=>by
 have h1:=fL (a:=one) ho n;have e:nxt one other=ak (bU [] (aK one other)):=by unfold nxt rst;rw[if_neg ho]
 have h2:=congrArg (λl=>cf l n) (qI (l:=bU [] (aK one other)));simp only[aY]at h2
 have h3:cf (bU [] (aK one other)) n = -cf (aK one other) n:=by rw[m7 (dU _ _),aY];omega
 rw[e,h2,h3,h1];omega
theorem A9(one other:List Int):Tr (nxt one other):=by unfold nxt;exact dX (by unfold bU;exact dM _)
theorem Fo{one other:List Int}(ho:other≠[]):(nxt one other).length<other.length:=by
 have h1:=fc (a:=one) ho;unfold nxt rst;rw[if_neg ho,m7 (dU _ _)]
 have h2:(ak (scL (-1) (aK one other))).length<=(scL (-1) (aK one other)).length:=by unfold ak;rw[MZ];exact M0 _
 rw[bJ]at h2;omega
theorem rW{l:List Int}(h:l.length<=1)(hne:l≠[]):∃c,l=[c]:=OT.mp (by have:=M5.mpr hne;omega)
theorem ww:∀(n:Nat) (one other:List Int),other.length<=n->Tr one->one≠[]->Tr other->Cop2 one other->SRow (aW (n+1) one other)
 |0,one,other,hl,to,no,tt,hc=>by have e0:other=[]:=On (Nat.le_zero.mp hl);subst e0;have h1:=hc one no to (Dv.refl _) (Dv.nil _);obtain⟨c,rfl⟩:=rW h1 no;show SRow (if([c]:List Int)=[]then _ else[c]::aW 0 [] (nxt [c] []));rw[if_neg no];exact .last (tr_snoc (r:=[]) |>.mp to)
 |n+1,one,other,hl,to,no,tt,hc=>by
  have e:aW (n+1+1) one other=one::aW (n+1) other (nxt one other):=by show(if one=[]then _ else _)=_;rw[if_neg no]
  rw[e];by_cases ho:other=[]
  ·subst ho;have h1:=hc one no to (Dv.refl _) (Dv.nil _);obtain⟨c,rfl⟩:=rW h1 no;rw[kU];exact .last (tr_snoc (r:=[]) |>.mp to)
  have hs:=Fn (one:=one) ho;have hlen:=Fo (one:=one) ho;have tn:=A9 one other;have fp:0<bC one other:=J3 ho tt;by_cases hn:nxt one other=[]
  ·
   have hdv:Dv other one:=⟨bC one other,bv one other,by omega,λk=>by rw[hs k,hn,bM];omega⟩;have h1:=hc other ho tt hdv (Dv.refl _);obtain⟨c,rfl⟩:=rW h1 ho;rw[hn,wx ho (by omega)];exact .two (tr_snoc (r:=[]) |>.mp tt)
  ·have hc2:Cop2 other (nxt one other):=λd dn dt h1 h2=>by
    refine hc d dn dt ?_ h1;refine Dv.up (f:=bC one other) (q:=bv one other) (r:=scL (-(au (bU [] (aK one other)):Int)) (nxt one other)) (by omega) (λk=>?_) h1 ?_
    ·rw[hs k,aY,Int.neg_mul];omega
    ·exact Dv.prop_right (x:=1) (y := -(au (bU [] (aK one other)):Int)) (by decide) (λk=>by rw[aY];omega) h2
   have ih:=ww n other (nxt one other) (by omega) tt ho tn hc2;have e2:aW (n+1) other (nxt one other)=other::aW n (nxt one other) (nxt other (nxt one other)):=by show(if other=[]then _ else _)=_;rw[if_neg ho]
   have n1:0<n:=by have:=M5.mpr hn;omega
   obtain⟨m,rfl⟩:∃m,n=m+1:=⟨n-1,by omega⟩;have e3:aW (m+1) (nxt one other) (nxt other (nxt one other))=nxt one other::aW m (nxt other (nxt one other)) (nxt (nxt one other) (nxt other (nxt one other))):=by show(if nxt one other=[]then _ else _)=_;rw[if_neg hn]
   rw[e2,e3]at ih ⊢
   have gp:0<(au (bU [] (aK one other)):Int):=by
    rcases Nat.eq_zero_or_pos (au (bU [] (aK one other)))with z |z
    ·exfalso;apply hn;refine rq tn λk=>?_
     have e:nxt one other=ak (bU [] (aK one other)):=by unfold nxt rst;rw[if_neg ho]
     rw[e];unfold ak;rw[z];unfold cf;simp[List.getD];cases(bU [] (aK one other))[k]? with
     |none=>rfl
     |some v=>simp
    ·omega
   refine .cons (q:=bv one other) (α:=(bC one other:Rat)) (β:=((au (bU [] (aK one other)):Int):Rat)) (N7.mpr fp) (N7.mpr gp) (λx=>?_) ih;have h1:=lg (a:=one) (c:=scL (bC one other) one) (u:=bC one other) x λk=>aY _ _ _
   have h2:=wU x (bv one other) other (ad (bv one other) other) (aE _ _);have h3:=nV (a:=ad (bv one other) other) (b:=nxt one other) (c:=scL (bC one other) one) (u:=1) (v := -(au (bU [] (aK one other)):Int)) x λk=>by rw[aY,hs k,aE,Int.neg_mul];omega
   rw[<- h1,h3,h2,Rat.intCast_neg];show((1:Int):Rat)*_+_=_;grind
theorem wY{ss:List (List Int)}(h:∀s∈ss,Pri s):bH [1] ss=prd ss:=by unfold bH;rw[y7,one_mul _ (lj ss λs hs=>(h s hs).pln).tr]
theorem gW{f:List Int}(h:FacG f):Pri (aB f):=by obtain⟨u,e,b,rfl,_,_,_,_,h5,_,h7⟩:=h;exact Db h5 h7
noncomputable def fW(fs:List (List Int)):List (List Int×Nat):=fs.map λf=>(aB f,1)
theorem vq{fs:List (List Int)}(hF:∀f∈fs,FacG f)(hn:(fs.map aB).Nodup):Use (fW fs):=by
 refine⟨λp hp=>?_,λp hp=>?_,?_⟩
 ·obtain⟨f,hf,rfl⟩:=Nc.mp hp;exact gW (hF f hf)
 ·obtain⟨f,hf,rfl⟩:=Nc.mp hp;exact M0 _
 ·unfold fW;rw[NH];exact hn
theorem vp{c:Int}{fs:List (List Int)}(hF:∀f∈fs,FacG f):whl c (fW fs)=ad [c] (bH [1] (fs.map aB)):=by
 unfold whl
 congr 1
 rw[wY λs hs=>by obtain⟨f,hf,rfl⟩:=Nc.mp hs;exact gW (hF f hf)]
 have e1:fP id (fW fs)=flt (fW fs):=kh _ λp hp=>by obtain⟨f,hf,rfl⟩:=Nc.mp hp;rfl
 rw[e1,sJ]
 congr 1
 unfold fW;rw[NH];rfl
theorem zb:∀us:List (List Int×Nat),fP (λ_=>0) us=[1]
 | []=>rfl
 |p::us=>by rw[cX,zb us];rfl
theorem AN{fs:List (List Int)}:mor (fW fs) 1=[1]:=by unfold mor;rw[kh (h:=λ_=>0) _ λp hp=>by obtain⟨f,hf,rfl⟩:=Nc.mp hp;rfl];exact zb _
theorem Du{c:Int}{fs:List (List Int)}(hF:∀f∈fs,FacG f)(hn:(fs.map aB).Nodup)(hc:c≠0)(hl:(ad [c] (bH [1] (fs.map aB))).length<=20):Cop2 (ad [c] (bH [1] (fs.map aB))) (slopeL (ad [c] (bH [1] (fs.map aB)))):=λd dn dt h1 h2=>by
 have U:=vq hF hn;have ew:=vp (c:=c) hF;obtain⟨tw,nw,_⟩:=fk U hc;have hcom:=vi U hc (by rw[ew];exact hl);rw[AN]at hcom;rw[<- ew]at h1 h2 hl;have h3:=(zC (by rw[eO];omega) tw (fX tw)).all d h1 h2;rw[hcom]at h3;rcases OJ 1 d.length with z |z
 ·have:=Dv.short dn dt ((tr_snoc (r:=[])).mpr (by decide)) (show([1]:List Int).length<d.length from z) h3;cases this
 ·exact z
theorem nM{l:List Int}(h:Tr l)(hne:l≠[]):0<(au l:Int)/\Tr (ak l)/\ak l≠[]/\∀n,cf l n=(au l:Int)*cf (ak l) n:=by
 have e:=qI (l:=l)
 have ec:∀n,cf l n=(au l:Int)*cf (ak l) n:=λn=>by have:=congrArg (λz=>cf z n) e;simp only[aY]at this;exact this.symm
 have hl:(ak l).length=l.length:=by unfold ak;rw[MZ]
 refine⟨?_,dX h,λz=>by rw[z]at hl;exact hne (On hl.symm),ec⟩;rcases Nat.eq_zero_or_pos (au l)with z |z
 ·exfalso;refine hne (rq h λk=>?_);rw[ec k,z];simp
 ·omega
theorem Cop2.shr{a b:List Int}(h:Cop2 a b)(ha:Tr a)(hna:a≠[])(hb:Tr b):Cop2 (ak a) (ak b):=λd dn dt h1 h2=>by
 obtain⟨_,_,_,ea⟩:=nM ha hna;refine h d dn dt (Dv.prop_right (x:=1) (y:=(au a:Int)) (by decide) (λn=>by rw[ea n];omega) h1) ?_;by_cases hnb:b=[]
 ·rw[hnb];exact Dv.nil _
 ·obtain⟨_,_,_,eb⟩:=nM hb hnb;exact Dv.prop_right (x:=1) (y:=(au b:Int)) (by decide) (λn=>by rw[eb n];omega) h2
noncomputable def sdR(l:List Int)(x:Rat):Int:=ar l x.num x.den
theorem mj(x:Rat):0<(x.den:Int):=by have:=x.den_pos;omega
theorem nO(l:List Int){t n:Int}(hn:0<n):sdR l ((t:Rat)/(n:Rat))=ar l t n:=by unfold sdR;exact nK l (mj _) hn (De hn)
theorem wn{l:List Int}(h:Spt l):Cut (sdR l):=by
 refine⟨λx=>?_,λx y hxy hs=>?_⟩
 ·rcases iG l x.num x.den with z |z |z
  ·exact .inl z
  ·exact .inr (.inl z)
  ·exact .inr (.inr z)
 ·exact gb h (mj x) (mj y) ((Rat.lt_iff x y).mp hxy) hs
theorem zA(x:Rat):∀ls:List (List Int),cpr x (ls.map sdR)=spr x.num x.den ls
 | []=>rfl
 |l::ls=>by show -sdR l x*_ = -ar l x.num x.den*_;rw[zA x ls];rfl
theorem J2(x:Rat):(x.num:Rat)/((x.den:Int):Rat)=x:=by have:=Rat.mkRat_self x;rw[Rat.mkRat_eq_div]at this;exact this
theorem Lk{l l':List Int}(hl:Spt l)(hl':Spt l')(h:AB l l'){x y:Rat}(hxy:x<y)(hd:y-x<=1/2^200):¬(inC (sdR l) x y/\inC (sdR l') x y):=by
 rintro⟨h1,h2⟩;have hD:(0:Rat)<2^200:=Rat.pow_pos (by decide);have hDi:((2^200:Int):Rat)=2^200:=Rat.intCast_pow 2 200;have f1:=Rat.floor_le (x*2^200);have f2:=Rat.lt_floor_add_one (x*2^200);rw[Rat.intCast_add]at f2
 have hd2:(y-x)*2^200<=1:=by
  have:=N5 hd (Nt hD)
  rwa [NL (by grind)]at this
 have key:∀k:List Int,Spt k->inC (sdR k) x y->inS k ((x*2^200).floor-1) ((x*2^200).floor-1+128) (2^200):=λk hk hi=>by
  have hc:=wn hk
  have eA:((((x*2^200).floor-1:Int)):Rat)/((2^200:Int):Rat)*2^200=((x*2^200).floor:Rat)-1:=by rw[hDi,NL (by grind),Rat.intCast_sub];rfl
  have eB:((((x*2^200).floor-1+128:Int)):Rat)/((2^200:Int):Rat)*2^200=((x*2^200).floor:Rat)-1+128:=by rw[hDi,NL (by grind),Rat.intCast_add,Rat.intCast_sub];rfl
  constructor
  ·rw[<- nO k (by decide)];generalize ((((x*2^200).floor-1:Int)):Rat)/((2^200:Int):Rat)=a at *
   have hax:a<x:=by
    refine Rat.not_le.mp λz=>?_
    have:=N5 z (Nt hD);grind
   rcases Ox 0 (sdR k a)with w |w
   ·exact w
   ·have h3:=hc.m a x hax w;have h4:=hi.1;omega
  ·rw[<- nO k (by decide)];generalize ((((x*2^200).floor-1+128:Int)):Rat)/((2^200:Int):Rat)=b at *
   have hby:y<b:=by
    refine Rat.not_le.mp λz=>?_
    have:=N5 z (Nt hD);have e1:((1:Int):Rat)=1:=rfl;grind
   have h3:=hc.m y b hby hi.2;omega
 exact h _ _ _ (NY _) rfl (key l hl h1) (key l' hl' h2)
noncomputable def bh(ls:List (List Int))(t n t' n':Int):Int:=(ls.map λl=>if 0<ar l t n/\ar l t' n'<=0 then(1:Int)else 0).sum
theorem zG{t n t' n':Int}(hn:0<n)(hn':0<n'):∀ls:List (List Int),cnt (ls.map sdR) ((t:Rat)/(n:Rat)) ((t':Rat)/(n':Rat))=bh ls t n t' n'
 | []=>rfl
 |l::ls=>by have ih:=zG (t:=t) (t':=t') hn hn' ls;rw[Nx,fQ,ih,nO l hn,nO l hn'];unfold bh;rw[Nx,N6]
noncomputable def sgv(row:List (List Int))(t n:Int):List Int:=row.map λf=>sg (hv t n f)
theorem wf{t n:Int}(hn:0<n)(row:List (List Int)):sgv row t n=sgX row ((t:Rat)/(n:Rat)):=by unfold sgv sgX;exact Ow λf _=>wk hn f
theorem Kb{c:Int}{fs:List (List Int)}(hF:∀f∈fs,FacG f)(hnd:(fs.map aB).Nodup)(hc:c≠0){P:List Int}(hP:P=ad [c] (bH [1] (fs.map aB)))(hl:P.length<=20){N:Nat}(hN:P.length<=N+1){t n t' n':Int}(hn:0<n)(hn':0<n')(hlt:t*n'<t'*n) :
 vr 0 (sgv (aW (N+1) (ak P) (ak (slopeL P))) t n)-vr 0 (sgv (aW (N+1) (ak P) (ak (slopeL P))) t' n')=bh (aM fs) t n t' n':=by
 have hFQ:∀f∈fs,fj f:=λf hf=>(hF f hf).q
 have U:=vq hF hnd;have ew:=vp (c:=c) hF;obtain⟨tP,nP,_⟩:=fk U hc;rw[ew,<- hP]at tP nP;have cop:=Du hF hnd hc (by rw[<- hP];exact hl);rw[<- hP]at cop;have tS:=fX tP;obtain⟨g0,t0,n0,e0⟩:=nM tP nP;have copS:=cop.shr tP nP tS;have lS:(ak (slopeL P)).length=P.length-1:=by unfold ak;rw[MZ,eO]
 have hst:=ww N (ak P) (ak (slopeL P)) (by omega) t0 n0 (dX tS) copS;by_cases hs:slopeL P=[]
 ·
  have h1:P.length<=1:=by have:=congrArg List.length hs;rw[eO]at this;simp at this;omega
  have hfs:fs=[]:=by
   cases fs with
   |nil=>rfl
   |cons f fs =>
    exfalso
    have hss:∀s∈(f::fs).map aB,s≠[]/\Tr s:=λs h=>by obtain⟨x,hx,rfl⟩:=Nc.mp h;exact we (hFQ x hx)
    obtain⟨p1,p2,p3⟩:=q5 ((f::fs).map aB) [1] (by simp) ((tr_snoc (r:=[])).mpr (by decide)) hss
    have hl2:2<=(aB f).length:=by obtain⟨u,e,b,rfl,hb⟩:=hFQ f (Na ..);obtain⟨_,l2⟩:=fm (u:=u) (e:=e) hb;show 2<=(ay (aI u e b)).length;rw[plain_len];exact l2
    have hsl:∀ss:List (List Int),(∀s∈ss,s≠[])->ss.length<=sl ss:=λss=>by
     induction ss with
     |nil=>intro _;exact M0 _
     |cons s ss ih =>
      intro h;have h1:=M5.mpr (h s (Na ..));have h2:=ih λx hx=>h x (M8 _ hx)
      show ss.length+1<=s.length+sl ss;omega
    have h3:=hsl (fs.map aB) λs hs=>(hss s (M8 _ hs)).1
    have h4:sl ((f::fs).map aB)=(aB f).length+sl (fs.map aB):=rfl
    have h5:P.length=(bH [1] ((f::fs).map aB)).length:=by rw[hP,ba (by simp) p1];show 1+_-1=_;omega
    simp only[MZ,Nq,OV]at p3 h3;omega
  subst hfs
  have hr:aW (N+1) (ak P) (ak (slopeL P))=[ak P]:=by
   have:ak (slopeL P)=[]:=by rw[hs];rfl
   rw[this];exact wx n0 (by omega)
  rw[hr];show vr 0 [_]-vr 0 [_]=0;rw[pM,pM];rfl
 ·obtain⟨g1,t1,n1,e1⟩:=nM tS hs
  have hN1:1<=N:=by have:=M5.mpr n1;omega
  obtain⟨M,rfl⟩:∃M,N=M+1:=⟨N-1,by omega⟩
  have er:aW (M+1+1) (ak P) (ak (slopeL P))=ak P::ak (slopeL P)::aW M (nxt (ak P) (ak (slopeL P))) (nxt (ak (slopeL P)) (nxt (ak P) (ak (slopeL P)))):=by show(if ak P=[]then _ else ak P::(if ak (slopeL P)=[]then _ else _))=_;rw[if_neg n0,if_neg n1]
  rw[er]at hst ⊢;have g0':(0:Rat)<((au P:Int):Rat):=N7.mpr g0;have g1':(0:Rat)<((au (slopeL P):Int):Rat):=N7.mpr g1
  have hd:∀x,pv (slopeL (ak P)) x=((au (slopeL P):Int):Rat)/((au P:Int):Rat)*pv (ak (slopeL P)) x:=λx=>by
   have h1:=lg (a:=slopeL (ak P)) (c:=slopeL P) (u:=(au P:Int)) x λk=>by rw[dq,dq,e0 (k+1)];grind
   have h2:=lg (a:=ak (slopeL P)) (c:=slopeL P) (u:=(au (slopeL P):Int)) x e1;have h3:((au (slopeL P):Int):Rat)/((au P:Int):Rat)*((au P:Int):Rat)=((au (slopeL P):Int):Rat):=NL (by grind);rw[h1]at h2
   have h4:((au P:Int):Rat)*pv (slopeL (ak P)) x=((au P:Int):Rat)*(((au (slopeL P):Int):Rat)/((au P:Int):Rat)*pv (ak (slopeL P)) x):=by
    rw[h2];generalize ((au (slopeL P):Int):Rat)/((au P:Int):Rat)=w at *
    rw[<- h3];grind
   generalize pv (slopeL (ak P)) x=u at *
   generalize ((au (slopeL P):Int):Rat)/((au P:Int):Rat)*pv (ak (slopeL P)) x=v at *
   have h5:((au P:Int):Rat)*(u-v)=0:=by grind
   rcases Rat.mul_eq_zero.mp h5 with z |z
   ·grind
   ·grind
  have hS:∀s∈(aM fs).map sdR,Cut s:=λs hs=>by obtain⟨l,hl,rfl⟩:=Nc.mp hs;exact wn (kG hFQ hl)
  have hsg:sg c=1\/sg c = -1:=by
   rcases Pa hc with z |z
   ·right;unfold sg;rw[if_pos z]
   ·left;unfold sg;rw[if_neg (by omega),if_pos z]
  have hf:∀x,sgR (pv (ak P) x)=sg c*cpr x ((aM fs).map sdR):=λx=>by have h1:=qZ (t:=x.num) (n:=x.den) (c:=c) (mj x) hFQ;rw[<- hP,wk (mj x),J2]at h1;rw[zA,<- h1,lg (a:=ak P) (c:=P) (u:=(au P:Int)) x e0,wm g0']
  have hap:=BC hF hnd
  have hp:∀x y:Rat,x<y->y-x<=1/2^200->((aM fs).map sdR).Pairwise λs t=>¬(inC s x y/\inC t x y):=λx y hxy hdd=>by rw[List.pairwise_map];exact hap.imp_of_mem λ{l l'} hl hl' h=>Lk (kG hFQ hl) (kG hFQ hl') h hxy hdd
  have:=By hst (gk g1' g0') hd hS hsg hf (gk (by decide) (Rat.pow_pos (by decide))) hp ((Dd hn hn').mpr hlt);rw[zG hn hn']at this;rw[wf hn,wf hn'];exact this
theorem nY{s:List Int}:∀(pre post:List (List Int)),prd (pre++s::post)=ad s (prd (pre++post))
 | [],post=>rfl
 |t::pre,post=>by show ad t (prd (pre++s::post))=ad s (ad t (prd (pre++post)));rw[nY pre post];ac_rfl
theorem xt{l:List Int}(h:Pln l):ad [1] l=l:=one_mul l h.tr
theorem J1{ss:List (List Int)}(hp:∀s∈ss,Pri s)(hn:ss.Nodup){E:List Int}(hE:Pln E)(hl:E.length=3)(hd:Dv E (prd ss)):E∈ss\/∃p q,p∈ss/\q∈ss/\p≠q/\E=ad p q:=by
 have ne1:E≠[1]:=λz=>by rw[z]at hl;cases hl
 obtain⟨p,hpm,hpd⟩:=(pi ss hp hE hd).resolve_left ne1;have pp:=hp p hpm;obtain⟨q,hq,eq⟩:=Dv.fellow pp.pln hE.tr hE.ne hpd;rw[hE.plain]at eq;have hlen:=ba hq.ne pp.pln.ne;rw[eq,hl]at hlen;have l2:=pp.two;have ql:=M5.mpr hq.ne;rcases OJ p.length 3 with z |z
 ·
  have lp:p.length=2:=by omega
  have lq:q.length=2:=by omega
  obtain⟨pre,post,rfl⟩:=Pb hpm
  have hd2:Dv (ad p q) (ad p (prd (pre++post))):=by
   rw[<- nY];have:ad p q=E:=by rw[<- eq];ac_rfl
   rw[this];exact hd
  have hd3:=Dv.cancel pp.pln.ne pp.pln.tr hd2
  have ho:∀s∈pre++post,Pri s:=λs hs=>hp s (by
   rcases Nu.mp hs with w |w
   ·exact NQ _ w
   ·exact NC _ (M8 _ w))
  have nq1:q≠[1]:=λw=>by rw[w]at lq;cases lq
  obtain⟨p',hpm',hpd'⟩:=(pi (pre++post) ho hq hd3).resolve_left nq1;have pp':=ho p' hpm';obtain⟨r,hr,er⟩:=Dv.fellow pp'.pln hq.tr hq.ne hpd';rw[hq.plain]at er;have hlen':=ba hr.ne pp'.pln.ne;rw[er,lq]at hlen';have l2':=pp'.two;have rl:=M5.mpr hr.ne;have r1:=hr.const (by omega);rw[r1,xt pp'.pln]at er
  have hmem:p'∈pre++p::post:=by
   rcases Nu.mp hpm' with w |w
   ·exact NQ _ w
   ·exact NC _ (M8 _ w)
  refine .inr ⟨p,p',hpm,hmem,λw=>?_,?_⟩
  ·rw[List.nodup_append]at hn;rcases Nu.mp hpm' with y |y
   ·exact hn.2.2 p' y p (Na ..) w.symm
   ·exact(Ot.mp hn.2.1).1 (w ▸ y)
  ·rw[er,<- eq];ac_rfl
 ·left;have q1:=hq.const (by omega);rw[q1,xt pp.pln]at eq;rw[<- eq];exact hpm
structure Two(u e b x y x' y':Rat):Prop where
 xp:b*x-u<0\/(b*x-u)*(b*x-u)<e
 yp:0<=b*y-u/\e<=(b*y-u)*(b*y-u)
 xm:b*x'-u<=0/\e<(b*x'-u)*(b*x'-u)
 ym:0<b*y'-u\/(b*y'-u)*(b*y'-u)<=e
theorem CL{a c:Rat}(hc:0<=c)(h:a*a<c*c):a<c:=Rat.not_le.mp λz=>by have:=NB (show 0<=a-c by grind) (show 0<=a+c by grind);grind
theorem CM{a c:Rat}(hc:0<=c)(h:a*a<=c*c):a<=c:=Rat.not_lt.mp λz=>by have:=Oq (show 0<a-c by grind) (show 0<a+c by grind);grind
theorem Two.sum{u e b x y x' y':Rat}(h:Two u e b x y x' y'):2*u<=b*(y+y')/\b*(x+x')<2*u:=by
 obtain⟨xp,yp,xm,ym⟩:=h;constructor
 ·rcases ym with z |z
  ·grind
  ·have : -(b*y'-u)<=b*y-u:=CM yp.1 (by grind);grind
 ·rcases xp with z |z
  ·grind
  ·have:b*x-u < -(b*x'-u):=CL (by grind) (by grind);grind
theorem Ki(ls:List (List Int))(t n t' n':Int):0<=bh ls t n t' n':=by
 induction ls with
 |nil=>exact NY _
 |cons l ls ih =>
  unfold bh at ih ⊢
  rw[Nx,N6];split<;>omega
theorem fR(l:List Int)(ls:List (List Int))(t n t' n':Int):bh (l::ls) t n t' n'=(if 0<ar l t n/\ar l t' n'<=0 then 1 else 0)+bh ls t n t' n':=by unfold bh;rw[Nx,N6]
theorem zI{l1 l2 h1 h2:Int}:∀{ls:List (List Int)},bh ls l1 l2 h1 h2=0->∀x∈ls,¬(0<ar x l1 l2/\ar x h1 h2<=0)
 | [],_,x,hx=>nomatch hx
 |l::ls,h,x,hx=>by
  rw[fR]at h;have nn:=Ki ls l1 l2 h1 h2;by_cases hl:0<ar l l1 l2/\ar l h1 h2<=0
  ·rw[if_pos hl]at h;omega
  ·rw[if_neg hl]at h;rcases Nd.mp hx with rfl |z
   ·exact hl
   ·exact zI (by omega) x z
theorem px{l1 l2 h1 h2:Int}:∀{ls:List (List Int)},bh ls l1 l2 h1 h2=1->∃pre s post,ls=pre++s::post/\(0<ar s l1 l2/\ar s h1 h2<=0)/\∀x∈pre++post,¬(0<ar x l1 l2/\ar x h1 h2<=0)
 | [],h=>by cases h
 |l::ls,h=>by
  rw[fR]at h;by_cases hl:0<ar l l1 l2/\ar l h1 h2<=0
  ·rw[if_pos hl]at h;exact⟨[],l,ls,rfl,hl,zI (ls:=ls) (by omega)⟩
  ·rw[if_neg hl]at h;obtain⟨pre,s,post,rfl,e2,e3⟩:=px (l1:=l1) (l2:=l2) (h1:=h1) (h2:=h2) (ls:=ls) (by omega);refine⟨l::pre,s,post,rfl,e2,λx hx=>?_⟩;rcases Nd.mp hx with rfl |z
   ·exact hl
   ·exact e3 x z
structure Dya(B:Int)(d:Nat)(l1 l2 h1 h2:Int):Prop where
 l2p:0<l2
 h2p:0<h2
 gl:Nat.gcd l1.natAbs l2.natAbs=1
 gh:Nat.gcd h1.natAbs h2.natAbs=1
 at':∃m:Int,0<=m/\m+1<=2^d/\l1*2^d=(2*m*B-B*2^d)*l2/\h1*2^d=(2*(m+1)*B-B*2^d)*h2
theorem zl{X l1 l2:Int}{d k:Nat}(l2p:0<l2)(g:Nat.gcd l1.natAbs l2.natAbs=1)(e:l1*2^d=X*l2)(hX:X.natAbs<=2^k)(hk:d<=k):l1.natAbs<=2^k/\l2.natAbs<=2^k:=by
 have e':l1.natAbs*2^d=X.natAbs*l2.natAbs:=by have:=congrArg Int.natAbs e;rw[Ni,Ni,Int.natAbs_pow]at this;exact this
 have hd:l2.natAbs∣2^d:=by refine Nat.Coprime.dvd_of_dvd_mul_left (k:=l2.natAbs) (m:=l1.natAbs) (by rw[Nat.Coprime,Nat.gcd_comm];exact g) ?_;exact⟨X.natAbs,by rw[e',Ov]⟩
 have p2:0<2^d:=Oj (by decide);have hle:=Nat.le_of_dvd p2 hd;refine⟨?_,Nb hle (Nat.pow_le_pow_right (by decide) hk)⟩;have h1:l1.natAbs*2^d<=X.natAbs*2^d:=by rw[e'];exact Oo _ hle
 exact Nb (Nat.le_of_mul_le_mul_right h1 p2) hX
theorem xv{B D m:Int}{N:Nat}(hN:(N:Int)=B*D)(B0:0<B)(m0:0<=m)(m1:m<=D):(2*m*B-B*D).natAbs<=N:=by
 have k1:0<=m*B:=NE m0 (M7 B0);have k2:m*B<=D*B:=Nw m1 (M7 B0);have k4:D*B=B*D:=Nm _ _;have k5:2*m*B=2*(m*B):=NG _ _ _;rw[k5];generalize m*B=x at *
 generalize B*D=y at *
 omega
theorem Dya.bits{kb d:Nat}{l1 l2 h1 h2:Int}(h:Dya (2^kb) d l1 l2 h1 h2):(l1.natAbs<=2^(kb+d)/\l2.natAbs<=2^(kb+d))/\h1.natAbs<=2^(kb+d)/\h2.natAbs<=2^(kb+d):=by
 obtain⟨l2p,h2p,gl,gh,m,m0,m1,e1,e2⟩:=h;have B0:(0:Int)<2^kb:=Od (by decide);have eq:(((2:Nat)^(kb+d):Nat):Int)=2^kb*2^d:=by rw[Int.natCast_pow,Int.pow_add];rfl
 exact⟨zl l2p gl e1 (xv eq B0 m0 (by omega)) (by omega),zl h2p gh e2 (xv eq B0 (by omega) m1) (by omega)⟩
theorem Dya.width{B:Int}{d:Nat}{l1 l2 h1 h2:Int}(h:Dya B d l1 l2 h1 h2):(h1*l2-l1*h2)*2^d=2*B*(l2*h2):=by obtain⟨l2p,h2p,gl,gh,m,m0,m1,e1,e2⟩:=h;grind
theorem Dya.lt{B:Int}(hB:0<B){d:Nat}{l1 l2 h1 h2:Int}(h:Dya B d l1 l2 h1 h2):l1*h2<h1*l2:=by
 have w:=h.width;have p:(0:Int)<2^d:=Od (by decide);have q:0<2*B*(l2*h2):=M6 (by omega) (M6 h.l2p h.h2p);rw[<- w]at q
 have:0<h1*l2-l1*h2:=Int.not_le.mp λz=>by have:=Int.mul_nonpos_of_nonpos_of_nonneg z (M7 p);omega
 omega
theorem Dya.start{B:Int}:Dya B 0 (-B) 1 B 1:=⟨by decide,by decide,OA _,OA _,0,by decide,by decide,by grind,by grind⟩
theorem Dya.half{B:Int}{d:Nat}{l1 l2 h1 h2 c1 c2:Int}(h:Dya B d l1 l2 h1 h2)(c2p:0<c2)(gc:Nat.gcd c1.natAbs c2.natAbs=1)(e:c1*(2*l2*h2)=(l1*h2+h1*l2)*c2):Dya B (d+1) l1 l2 c1 c2/\Dya B (d+1) c1 c2 h1 h2:=by
 obtain⟨l2p,h2p,gl,gh,m,m0,m1,e1,e2⟩:=h
 have ec:c1*2^(d+1)=(2*(2*m+1)*B-B*2^(d+1))*c2:=by
  have hp:0<l2*h2:=M6 l2p h2p;refine OU (a:=l2*h2) (by omega) ?_;rw[Nn];have q1:c1*(2^d*2)*(l2*h2)=c1*(2*l2*h2)*2^d:=by grind
  rw[q1,e];have q2:(l1*h2+h1*l2)*c2*2^d=(l1*2^d*h2+h1*2^d*l2)*c2:=by grind
  rw[q2,e1,e2];grind
 have p2:(2:Int)^(d+1)=2^d*2:=Nn ..;refine⟨⟨l2p,c2p,gl,gc,2*m,by omega,by omega,?_,ec⟩,⟨c2p,h2p,gc,gh,2*m+1,by omega,by omega,ec,?_⟩⟩
 ·rw[p2,<- NG,e1];grind
 ·rw[p2,<- NG,e2];grind
noncomputable def prQ(fs:List (List Int)):List Int:=bH [1] (fs.map aB)
structure Fam(fs:List (List Int)):Prop where
 fac:∀f∈fs,FacG f
 nd:(fs.map aB).Nodup
variable {fs:List (List Int)}
theorem Fam.q(h:Fam fs):∀f∈fs,fj f:=λf hf=>(h.fac f hf).q
theorem Fam.pri(h:Fam fs):∀s∈fs.map aB,Pri s:=λs hs=>by obtain⟨f,hf,rfl⟩:=Nc.mp hs;exact gW (h.fac f hf)
theorem Fam.prd(h:Fam fs):prQ fs=prd (fs.map aB):=wY h.pri
theorem Fam.pln(h:Fam fs):Pln (prQ fs):=by rw[h.prd];exact lj _ λs hs=>(h.pri s hs).pln
theorem Fam.one(h:Fam fs):ad [1] (prQ fs)=prQ fs:=one_mul _ h.pln.tr
theorem Fam.sign(h:Fam fs){t n:Int}(hn:0<n):sg (hv t n (prQ fs))=spr t n (aM fs):=by have:=qZ (t:=t) (n:=n) (c:=1) hn h.q;rw[show ad [1] (bH [1] (fs.map aB))=bH [1] (fs.map aB)from h.one]at this;rw[show sg 1=1 from rfl,Nv]at this;exact this
theorem pT{t n:Int}:∀{ls:List (List Int)},spr t n ls=0->∃s∈ls,ar s t n=0
 | [],h=>by cases h
 |l::ls,h=>by
  rcases NR.mp (show -ar l t n*spr t n ls=0 from h)with z |z
  ·exact⟨l,Na ..,by omega⟩
  ·obtain⟨s,hs,e⟩:=pT z;exact⟨s,M8 _ hs,e⟩
theorem Fam.sub{fs gs:List (List Int)}(h:Fam fs)(s:gs.Sublist fs):Fam gs:=⟨λf hf=>h.fac f (s.subset hf),h.nd.sublist (s.map _)⟩
theorem Fam.single(h:Fam fs){f:List Int}(hf:f∈fs):Fam [f]:=h.sub (List.singleton_sublist.mpr hf)
theorem w8{f:List Int}(h:Fam [f]):prQ [f]=aB f:=by rw[h.prd];show ad (aB f) [1]=_;exact cI _
structure OneS(fs:List (List Int))(f0 s0:List Int)(l1 l2 h1 h2:Int):Prop where
 fam:Fam fs
 mem:f0∈fs
 sp:s0∈spF f0
 l2p:0<l2
 h2p:0<h2
 lt:l1*h2<h1*l2
 inn:0<ar s0 l1 l2/\ar s0 h1 h2<=0
 only:∀s∈aM fs,0<ar s l1 l2->ar s h1 h2<=0->s=s0
theorem D5{l1 l2 h1 h2:Int}(hF:Fam fs)(l2p:0<l2)(h2p:0<h2)(lt:l1*h2<h1*l2)(h:bh (aM fs) l1 l2 h1 h2=1):∃f0 s0,OneS fs f0 s0 l1 l2 h1 h2:=by
 obtain⟨pre,s,post,e,hin,hno⟩:=px h;have hs:s∈aM fs:=by rw[e];simp
 obtain⟨f0,hf0,hsp⟩:=Oy.mp hs;refine⟨f0,s,hF,hf0,hsp,l2p,h2p,lt,hin,λx hx a b=>?_⟩;rw[e]at hx;rcases Nu.mp hx with z |z
 ·exact absurd ⟨a,b⟩ (hno x (NQ _ z))
 ·rcases Nd.mp z with z |z
  ·exact z
  ·exact absurd ⟨a,b⟩ (hno x (NC _ z))
variable {f0 s0:List Int}{l1 l2 h1 h2:Int}
theorem BN{s:List Int}(hs:Spt s){t n t' n':Int}(hn:0<n)(hn':0<n')(h:t*n'<=t'*n)(hz:ar s t n<=0):ar s t' n'<=0:=by
 rcases Int.lt_or_eq_of_le h with w |w
 ·have:=gb hs hn hn' w hz;omega
 ·rw[<- nK s hn hn' w];exact hz
theorem OneS.zero(h:OneS fs f0 s0 l1 l2 h1 h2){x1 x2:Int}(x2p:0<x2)(a:l1*x2<x1*l2)(b:x1*h2<=h1*x2)(z:hv x1 x2 (prQ fs)=0):ar s0 x1 x2=0:=by
 have hs:=h.fam.sign (t:=x1) (n:=x2) x2p;rw[z]at hs;obtain⟨s,hm,hz⟩:=pT (show spr x1 x2 (aM fs)=0 from hs.symm);have hS:=kG h.fam.q hm
 have e:s=s0:=by refine h.only s hm (Int.not_le.mp λw=>?_) (BN hS x2p h.h2p b (by omega));have:=gb hS h.l2p x2p a w;omega
 rw[<- e];exact hz
theorem pV{u e b:Int}{s:List Int}(h:s∈spF [u,e,b]):∃σ:Int,s=[u,e,b,σ]/\(σ=1/\0<=e\/σ = -1/\0<e):=by
 unfold spF at h
 rcases Nu.mp h with w |w
 ·split at w
  ·rename_i he
   exact⟨1,Nf.mp w,.inl ⟨rfl,he⟩⟩
  ·cases w
 ·split at w
  ·rename_i he
   exact⟨-1,Nf.mp w,.inr ⟨rfl,he⟩⟩
  ·cases w
theorem wb{u e b σ t n:Int}(hNS:NS e)(he:0<e)(hn:0<n):ar [u,e,b,σ] t n≠0:=λz=>by
 unfold ar at z
 have key:∀d:Int,bA (e*n*n) d=0->False:=λd hd=>by
  rcases cE (e*n*n) d with⟨c,_⟩ |⟨_,_,c⟩ |⟨c,_⟩
  ·omega
  ·exact hNS.no (x:=n) (y:=d) (by omega) (by omega) (by rw[c];grind)
  ·omega
 split at z
 ·exact key _ z
 ·exact key _ (by have:0-bA (e*n*n) (0-(b*t-u*n))=0:=z;show bA (e*n*n) (0-(b*t-u*n))=0;omega)
theorem za{u e b:Int}(h:FacG [u,e,b]):1<=b/\NS e:=by obtain⟨u',e',b',he,_,_,_,_,h5,_,h7⟩:=h;cases he;exact⟨h5,h7⟩
theorem OneS.cases(h:OneS fs f0 s0 l1 l2 h1 h2):∃u e b σ:Int,f0=[u,e,b]/\s0=[u,e,b,σ]/\1<=b/\NS e/\(σ=1/\e=0\/(σ=1\/σ = -1)/\0<e):=by
 obtain⟨u,e,b,rfl,_⟩:=h.fam.fac f0 h.mem;obtain⟨hb,hn⟩:=za (h.fam.fac _ h.mem);obtain⟨σ,rfl,hσ⟩:=pV h.sp;refine⟨u,e,b,σ,rfl,rfl,hb,hn,?_⟩;rcases hσ with⟨a,c⟩ |⟨a,c⟩
 ·rcases Int.lt_or_eq_of_le c with w |w
  ·exact .inr ⟨.inl a,w⟩
  ·exact .inl ⟨a,w.symm⟩
 ·exact .inr ⟨.inr a,c⟩
theorem OneS.none(h:OneS fs f0 s0 l1 l2 h1 h2){u e b σ:Int}(ef:s0=[u,e,b,σ])(hN:NS e)(he:0<e){x1 x2:Int}(x2p:0<x2)(a:l1*x2<x1*l2)(c:x1*h2<=h1*x2):hv x1 x2 (prQ fs)≠0:=λz=>by have:=h.zero x2p a c z;rw[ef]at this;exact wb hN he x2p this
theorem GO(h:Fam fs)(hf:f0∈fs):∃r:Int,0<r/\ap (prQ fs)=ap (aB f0)*r:=by
 obtain⟨pre,post,e⟩:=Pb (OK (f:=aB) hf);have hp:=h.pri;rw[h.prd];rw[e]at hp ⊢;have hq:Pln (RM.prd (pre++post)):=lj _ λs hs=>(hp s (by simp at hs ⊢;rcases hs with z |z<;>simp[z])).pln
 have hs:Pln (aB f0):=(hp _ (by simp)).pln;rw[nY,rX hs.ne hq.ne];exact⟨_,hq.pos,rfl⟩
theorem CZ{a b c d:Int}(hb:0<b)(hd:0<d)(g1:Nat.gcd a.natAbs b.natAbs=1)(g2:Nat.gcd c.natAbs d.natAbs=1)(e:a*d=c*b):a=c/\b=d:=by
 have e':a.natAbs*d.natAbs=c.natAbs*b.natAbs:=by
  have:=congrArg Int.natAbs e
  rwa [Ni,Ni]at this
 have h1:b.natAbs∣d.natAbs:=Nat.Coprime.dvd_of_dvd_mul_left (k:=b.natAbs) (m:=a.natAbs) (by rw[Nat.Coprime,Nat.gcd_comm];exact g1) ⟨c.natAbs,by rw[e',Ov]⟩;have h2:d.natAbs∣b.natAbs:=Nat.Coprime.dvd_of_dvd_mul_left (k:=d.natAbs) (m:=c.natAbs) (by rw[Nat.Coprime,Nat.gcd_comm];exact g2) ⟨a.natAbs,by rw[<- e',Ov]⟩;have h3:=Nat.dvd_antisymm h1 h2;have h4:b=d:=by omega
 subst h4;exact⟨OU (by omega) e,rfl⟩
theorem BS{u b:Int}(hb:1<=b):∃g A0 A1:Int,0<g/\aB [u,0,b]=[A0,A1] /\ -u=g*A0/\b=g*A1/\0<A1/\Nat.gcd A0.natAbs A1.natAbs=1:=by
 have hr:aI u 0 b=[-u,b]:=by unfold aI;rw[if_pos rfl]
 have ht:=(fm (u:=u) (e:=0) hb).1;rw[hr]at ht;have hl:ap [-u,b]=b:=rfl;obtain⟨g,hg,e⟩:=xf ht (by simp) (by rw[hl];omega);have hS:aB [u,0,b]=ay [-u,b]:=by show ay (aI u 0 b)=_;rw[hr]
 have hp:=eD ht (by simp);rw[hS];have hl2:(ay [-u,b]).length=2:=RM.plain_len _;generalize ay [-u,b]=P at e hp hl2
 match P,hl2 with
 | [A0,A1],_ =>
  have e1 : -u=g*A0/\b=g*A1:=by have:[-u,b]=[g*A0,g*A1]:=e;simpa using this
  refine⟨g,A0,A1,hg,rfl,e1.1,e1.2,hp.pos,?_⟩
  have h2:au [A0,A1]=Nat.gcd A0.natAbs A1.natAbs:=by unfold au;rw[lT,lT,sE,OR]
  rw[<- h2];exact hp.prim
theorem JW{a y Z:Int}(hy:0<y)(h1:Z*y<=a)(h2:a<(Z+1)*y):a/y=Z :=
 Int.le_antisymm (Int.lt_add_one_iff.mp (Int.ediv_lt_of_lt_mul hy h2)) (Int.le_ediv_of_mul_le hy h1)
theorem side_line{u b t n:Int}:0<ar [u,0,b,1] t n↔b*t<u*n:=by
 unfold ar;rw[if_pos (show(0:Int)<cf [u,0,b,1] 3 from(by decide:(0:Int)<1))];show 0<bA (0*n*n) (b*t-u*n)↔_;rw[Nz,Nz];rcases cE 0 (b*t-u*n)with⟨c,d⟩ |⟨c,d,_⟩ |⟨c,d,_⟩
 ·rw[c];constructor
  ·intro _;rcases d with d |d
   ·omega
   ·have:0<=(b*t-u*n)*(b*t-u*n):=by
     rcases Int.le_total 0 (b*t-u*n)with w |w
     ·exact NE w w
     ·exact O5 w w
    omega
  ·intro _;decide
 ·rw[c];constructor
  ·intro z;exact absurd z (by decide)
  ·intro z;omega
 ·rw[c];constructor
  ·intro z;exact absurd z (by decide)
  ·intro z;omega
theorem OneS.line{u b:Int}(h:OneS fs [u,0,b] [u,0,b,1] l1 l2 h1 h2){x1 x2 y1 y2 B:Int}(x2p:0<x2)(y2p:0<y2)(hB:1<=B)(lo:0<ar [u,0,b,1] x1 x2)(hi:ar [u,0,b,1] y1 y2<=0)(hlt:x1*y2<y1*x2)(hw:(y1*x2-x1*y2)*(8*ap (prQ fs)*B)<=1*(x2*y2)) :
 let Z:=ap (prQ fs)*y1/y2
 aB [u,0,b]=[-(rt Z (ap (prQ fs))),rb Z (ap (prQ fs))]/\x1*rb Z (ap (prQ fs))<rt Z (ap (prQ fs))*x2/\hv (rt Z (ap (prQ fs))) (rb Z (ap (prQ fs))) (prQ fs)=0:=by
 have hb:=(za (h.fam.fac _ h.mem)).1;obtain⟨g,A0,A1,hg,eS,e0,e1,hA,hgcd⟩:=BS (u:=u) hb;obtain⟨r,hr,eL⟩:=GO h.fam h.mem;rw[eS]at eL;have eL':ap (prQ fs)=A1*r:=eL;have lo':=side_line.mp lo;have hi':u*y2<=b*y1:=Int.not_lt.mp λz=>by have:=side_line.mpr z;omega
 have Lp:0<ap (prQ fs):=h.fam.pln.pos
 have k1 : -A0*y2<=A1*y1:=by
  refine Int.le_of_mul_le_mul_left (a:=g) ?_ hg
  have q1:g*(-A0*y2)=u*y2:=by
   have:u=g * -A0:=by grind
   rw[this];grind
  have q2:g*(A1*y1)=b*y1:=by rw[e1];grind
  omega
 have k2:A1*x1 < -A0*x2:=by
  refine Pg (a:=g) ?_ (M7 hg)
  have q1:g*(-A0*x2)=u*x2:=by
   have:u=g * -A0:=by grind
   rw[this];grind
  have q2:g*(A1*x1)=b*x1:=by rw[e1];grind
  omega
 have eZ:ap (prQ fs)*y1/y2 = -A0*r:=by
  refine JW y2p ?_ ?_
  ·rw[eL'];have:=OW k1 (M7 hr);have q1:r*(-A0*y2) = -A0*r*y2:=by grind
   have q2:r*(A1*y1)=A1*r*y1:=by grind
   omega
  ·have w0:0<=(y1*x2-x1*y2)*ap (prQ fs):=NE (by omega) (M7 Lp);have w1:(y1*x2-x1*y2)*(8*ap (prQ fs)*B)=(y1*x2-x1*y2)*ap (prQ fs)*(8*B):=by grind
   have w2:=OW (show 1<=8*B by omega) w0;have w3:(y1*x2-x1*y2)*ap (prQ fs)<=x2*y2:=by omega
   rw[eL']at w3 ⊢;have w4:=Ph k2 (M6 hr y2p);refine NT (a:=x2) ?_ (M7 x2p);have q1:A1*r*y1*x2=(y1*x2-x1*y2)*(A1*r)+r*y2*(A1*x1):=by grind
   have q2:(-A0*r+1)*y2*x2=r*y2*(-A0*x2)+x2*y2:=by grind
   rw[q1,q2];omega
 intro Z;have hZ:Z = -A0*r:=eZ
 clear_value Z
 subst hZ;have L0:ap (prQ fs)≠0:=by omega
 have hc:=gu (t := -A0*r) L0;have hgr:=qT (t := -A0*r) L0;have hpr:=d9 (t := -A0*r) L0
 obtain⟨m1,m2⟩:=CZ (a:=rt (-A0*r) (ap (prQ fs))) (b:=rb (-A0*r) (ap (prQ fs))) (c := -A0) (d:=A1) hpr hA hgr (by rw[Int.natAbs_neg];exact hgcd) (by
  refine OU (a:=r) (by omega) ?_
  rw[NG,<- eL',hc];grind)
 rw[m1,m2];refine⟨by rw[eS,Int.neg_neg],by rw[Nm];exact k2,?_⟩;have hs:=h.fam.sign (t := -A0) (n:=A1) hA
 have hz:spr (-A0) A1 (aM fs)=0:=by
  have hm:[u,0,b,1]∈aM fs:=Oy.mpr ⟨_,h.mem,h.sp⟩
  have hside:ar [u,0,b,1] (-A0) A1=0:=by
   unfold ar;rw[if_pos (show(0:Int)<cf [u,0,b,1] 3 from(by decide:(0:Int)<1))];show bA (0*A1*A1) (b * -A0-u*A1)=0
   have:b * -A0-u*A1=0:=by
    have q:u=g * -A0:=by grind
    rw[e1,q];grind
   rw[this,Nz,Nz];rfl
  have z0:∀ls:List (List Int),[u,0,b,1]∈ls->spr (-A0) A1 ls=0:=λls=>by
   induction ls with
   |nil=>intro h;cases h
   |cons l ls ih =>
    intro h;show -ar l (-A0) A1*spr (-A0) A1 ls=0;rcases Nd.mp h with w |w
    ·rw[<- w,hside];omega
    ·rw[ih w,Nj]
  exact z0 _ hm
 rw[hz]at hs;exact(qK _).mp hs
variable {fs:List (List Int)}{f0 s0:List Int}{l1 l2 h1 h2:Int}
theorem vT{u e b σ:Int}{f:List Int}(hf:fj f)(h:[u,e,b,σ]∈spF f):f=[u,e,b]:=by obtain⟨u',e',b',rfl,_⟩:=hf;obtain⟨σ',eq,_⟩:=pV h;cases eq;rfl
theorem BD{u e b:Int}(he:0<e):spF [u,e,b]=[[u,e,b,1],[u,e,b,-1]]:=by show(if 0<=e then[[u,e,b,1]]else[])++(if 0<e then[[u,e,b,-1]]else[])=_;rw[if_pos (by omega),if_pos he];rfl
theorem nc{u b:Int}:spF [u,0,b]=[[u,0,b,1]]:=by show(if(0:Int)<=0 then[[u,0,b,1]]else[])++(if(0:Int)<0 then[[u,0,b,-1]]else[])=_;rw[if_pos (by decide),if_neg (by decide)];rfl
theorem vR(f:List Int):aM [f]=spF f:=by show spF f++[]=_;rw[OD]
theorem OneS.cnt(h:OneS fs f0 s0 l1 l2 h1 h2):bh (aM [f0]) l1 l2 h1 h2=1:=by
 obtain⟨u,e,b,σ,rfl,rfl,hb,hN,hc⟩:=h.cases;rw[vR];have hin:=h.inn
 have other:∀τ:Int,[u,e,b,τ]∈spF [u,e,b]->τ≠σ->¬(0<ar [u,e,b,τ] l1 l2/\ar [u,e,b,τ] h1 h2<=0):=λτ hτ hne z=>by
  have:=h.only _ (Oy.mpr ⟨_,h.mem,hτ⟩) z.1 z.2;simp at this
  exact hne this
 have c0:bh [] l1 l2 h1 h2=0:=rfl;rcases hc with⟨rfl,rfl⟩ |⟨hσ,he⟩
 ·rw[nc,fR,if_pos hin,c0];rfl
 ·rw[BD he]at other ⊢;rcases hσ with rfl |rfl
  ·rw[fR,fR,if_pos hin,if_neg (other (-1) (by simp) (by decide)),c0];rfl
  ·rw[fR,fR,if_neg (other 1 (by simp) (by decide)),if_pos hin,c0];rfl
theorem OneS.sq(h:OneS fs f0 s0 l1 l2 h1 h2)(hl0:(aB f0).length=3){E:List Int}(hE:Pln E)(hl:E.length=3)(hd:Dv E (prQ fs)):∃gs,Fam gs/\(∀g∈gs,g∈fs)/\gs.length<=2/\E=prQ gs/\(bh (aM gs) l1 l2 h1 h2=1->E=aB f0):=by
 have hF:=h.fam
 have hs0:∀gs:List (List Int),Fam gs->(∀g∈gs,g∈fs)->bh (aM gs) l1 l2 h1 h2=1->f0∈gs:=λgs hG hsub hc=>by
  obtain⟨pre,s,post,eq,hin,_⟩:=px hc;have hm:s∈aM gs:=by rw[eq];simp
  obtain⟨f,hf,hsf⟩:=Oy.mp hm;have e1:=h.only s (Oy.mpr ⟨f,hsub f hf,hsf⟩) hin.1 hin.2;obtain⟨u,e,b,σ,ef,es,_⟩:=h.cases;rw[e1,es]at hsf;have:=vT (hG.q f hf) hsf;rw[ef,<- this];exact hf
 rw[hF.prd]at hd;rcases J1 hF.pri hF.nd hE hl hd with hm |⟨p,q,hp,hq,hne,eE⟩
 ·obtain⟨f,hf,rfl⟩:=Nc.mp hm;have hG:=hF.single hf;refine⟨[f],hG,λg hg=>by rw[Nf.mp hg];exact hf,by simp,(w8 hG).symm,λhc=>?_⟩;have:=hs0 [f] hG (λg hg=>by rw[Nf.mp hg];exact hf) hc;rw[Nf.mp this]
 ·obtain⟨f,hf,rfl⟩:=Nc.mp hp;obtain⟨f',hf',rfl⟩:=Nc.mp hq
  have hsub:∀g∈[f,f'],g∈fs:=λg hg=>by
   rcases Nd.mp hg with rfl |w
   ·exact hf
   ·rw[Nf.mp w];exact hf'
  have hG:Fam [f,f']:=⟨λg hg=>hF.fac g (hsub g hg),by simp;exact hne⟩
  have eP:E=prQ [f,f']:=by rw[hG.prd,eE];show _=ad (aB f) (ad (aB f') [1]);rw[cI]
  refine⟨[f,f'],hG,hsub,by simp,eP,λhc=>?_⟩;have hm:=hs0 [f,f'] hG hsub hc;have n1:=(gW (hF.fac f hf));have n2:=(gW (hF.fac f' hf'));have hlen:=ba n1.pln.ne n2.pln.ne;rw[<- eE,hl]at hlen;have t1:=n1.two;have t2:=n2.two;rcases Nd.mp hm with rfl |w
  ·omega
  ·rw[Nf.mp w]at hl0;omega
theorem AL(hF:Fam fs)(hm:f0∈fs)(hl:(prQ fs).length<=(aB f0).length):prQ fs=aB f0:=by
 obtain⟨pre,post,e⟩:=Pb (OK (f:=aB) hm);have hp:=hF.pri;rw[hF.prd]at hl ⊢;rw[e]at hp hl ⊢;have hq:Pln (RM.prd (pre++post)):=lj _ λs hs=>(hp s (by simp at hs ⊢;rcases hs with z |z<;>simp[z])).pln
 have hs:Pln (aB f0):=(hp _ (by simp)).pln;rw[nY]at hl ⊢;have hlen:=ba hs.ne hq.ne;have:=M5.mpr hs.ne;have:=M5.mpr hq.ne;rw[hq.const (by omega),cI]
theorem OneS.low(h:OneS fs f0 s0 l1 l2 h1 h2):sg (hv l1 l2 (aB f0))≠0:=by
 have hG:=h.fam.single h.mem;rw[<- w8 hG,hG.sign h.l2p,vR];obtain⟨u,e,b,σ,rfl,rfl,hb,hN,hc⟩:=h.cases;intro z;obtain⟨s,hs,hz⟩:=pT z;have hin:=h.inn.1;rcases hc with⟨rfl,rfl⟩ |⟨hσ,he⟩
 ·rw[nc]at hs;rw[Nf.mp hs]at hz;omega
 ·obtain⟨τ,rfl,_⟩:=pV hs;exact wb hN he h.l2p hz
noncomputable def sF(x:Int×Int):List Int:=[-x.1,x.2]
noncomputable def fF(x:Int×Int):List Int:=[x.1,0,x.2]
structure FrO(x:Int×Int):Prop where
 t:x.1.natAbs<=20
 b1:1<=x.2
 b6:x.2<=6
 g:Nat.gcd x.1.natAbs x.2.natAbs=1
theorem A6{a b:Int}(h:b≠0):Tr [a,b]:=(tr_snoc (r:=[a])).mpr h
theorem CG{x:Int×Int}(h:FrO x):Pln (sF x):=by have hb:=h.b1;refine⟨A6 (by omega),by unfold sF;simp,?_,by show 0<x.2;omega⟩;show au [-x.1,x.2]=1;unfold au;rw[lT,lT,sE,OR,Int.natAbs_neg];exact h.g
theorem wc{x:Int×Int}(h:FrO x):aB (fF x)=sF x:=by
 have hr:aI x.1 0 x.2=sF x:=by unfold aI;rw[if_pos rfl];rfl
 show ay (aI x.1 0 x.2)=_;rw[hr];exact(CG h).plain
theorem Jb{x:Int×Int}(h:FrO x):FacG (fF x):=⟨x.1,0,x.2,rfl,by have:=h.t;omega,by have:=h.t;omega,by decide,by decide,h.b1,by have:=h.b6;omega,.inl (NY _)⟩
theorem Jc:FacG [0,-1,1]:=⟨0,-1,1,rfl,by decide,by decide,by decide,by decide,by decide,by decide,.inl (by decide)⟩
theorem BT:aB [0,-1,1]=[1,0,1]:=by decide +kernel
theorem CH{x y:Int×Int}(h:sF x=sF y):x=y:=by
 unfold sF at h
 simp at h
 exact Prod.ext (by omega) h.2
noncomputable def ins(x:Int×Int)(m:Nat):List ((Int×Int)×Nat)->List ((Int×Int)×Nat)
 | []=>[(x,m)]
 |p::gs=>if p.1=x then(p.1,p.2+m)::gs else p::ins x m gs
noncomputable def ks(gs:List ((Int×Int)×Nat)):List (Int×Int):=gs.map (·.1)
noncomputable def uG(gs:List ((Int×Int)×Nat)):List (List Int×Nat):=gs.map λp=>(sF p.1,p.2)
noncomputable def bG(ds:List (Int×Int))(x:Int×Int):List (Int×Int):=if x∈ds then ds else ds++[x]
theorem yA(x:Int×Int)(m:Nat):∀gs,fP id (uG (ins x m gs))=ad (fP id (uG gs)) (pw (sF x) m)
 | []=>by show ad (pw (sF x) m) [1]=ad [1] (pw (sF x) m);rw[j5,cI]
 |p::gs=>by
  unfold ins;by_cases h:p.1=x
  ·rw[if_pos h];show ad (pw (sF p.1) (p.2+m)) (fP id (uG gs))=ad (ad (pw (sF p.1) p.2) (fP id (uG gs))) (pw (sF x) m);rw[<- qW,h];ac_rfl
  ·rw[if_neg h];show ad (pw (sF p.1) p.2) (fP id (uG (ins x m gs)))=ad (ad (pw (sF p.1) p.2) (fP id (uG gs))) (pw (sF x) m);rw[yA x m gs];ac_rfl
theorem oU(x:Int×Int)(m:Nat):∀gs,ks (ins x m gs)=bG (ks gs) x
 | []=>by simp[ins,ks,bG]
 |p::gs=>by
  unfold ins bG;by_cases h:p.1=x
  ·rw[if_pos h,if_pos (by show x∈p.1::ks gs;rw[h];simp)];rfl
  ·rw[if_neg h];show p.1::ks (ins x m gs)=if x∈p.1::ks gs then p.1::ks gs else p.1::ks gs++[x]
   rw[oU x m gs];unfold bG;have:x∈p.1::ks gs↔x∈ks gs:=by rw[Nd];exact⟨λz=>z.resolve_left λy=>h y.symm,.inr⟩
   by_cases h2:x∈ks gs
   ·rw[if_pos h2,if_pos (this.mpr h2)]
   ·rw[if_neg h2,if_neg (λz=>h2 (this.mp z))];rfl
noncomputable def bE(gs:List ((Int×Int)×Nat)):Nat:=(gs.map (·.2)).sum
theorem yx(x:Int×Int)(m:Nat):∀gs,bE (ins x m gs)=bE gs+m
 | []=>by simp[ins,bE]
 |p::gs=>by
  unfold ins;by_cases h:p.1=x
  ·rw[if_pos h];simp[bE];omega
  ·rw[if_neg h];have:=yx x m gs;simp only[bE,Nx,N6]at this ⊢;omega
structure GsO(gs:List ((Int×Int)×Nat)):Prop where
 ok:∀x∈ks gs,FrO x
 pos:∀p∈gs,1<=p.2
 nd:(ks gs).Nodup
theorem Dq{ds:List (Int×Int)}{x:Int×Int}(h:ds.Nodup):(bG ds x).Nodup:=by
 unfold bG;split
 ·exact h
 ·rename_i hx
  refine List.nodup_append.mpr ⟨h,by simp,λa ha b hb=>?_⟩;rw[Nf.mp hb]
  exactλz=>hx (z ▸ ha)
theorem yy{x:Int×Int}{m:Nat}(hm:1<=m):∀gs:List ((Int×Int)×Nat),(∀p∈gs,1<=p.2)->∀p∈ins x m gs,1<=p.2
 | [],_,p,hp=>by rw[show ins x m []=[(x,m)]from rfl]at hp;rw[Nf.mp hp];exact hm
 |q::gs,h,p,hp=>by
  unfold ins at hp
  by_cases hq:q.1=x
  ·rw[if_pos hq]at hp;rcases Nd.mp hp with z |z
   ·rw[z];show 1<=q.2+m;omega
   ·exact h p (M8 _ z)
  ·rw[if_neg hq]at hp;rcases Nd.mp hp with z |z
   ·rw[z];exact h q (Na ..)
   ·exact yy hm gs (λr hr=>h r (M8 _ hr)) p z
theorem GsO.ins{gs:List ((Int×Int)×Nat)}{x:Int×Int}{m:Nat}(h:GsO gs)(hx:FrO x)(hm:1<=m):GsO (RM.ins x m gs):=by
 refine⟨λy hy=>?_,yy hm gs h.pos,?_⟩
 ·rw[oU]at hy;unfold bG at hy
  split at hy
  ·exact h.ok y hy
  ·rcases Nu.mp hy with z |z
   ·exact h.ok y z
   ·rw[Nf.mp z];exact hx
 ·rw[oU];exact Dq h.nd
noncomputable def usE(gs:List ((Int×Int)×Nat))(ex:Bool):List (List Int×Nat):=uG gs++(if ex then[([1,0,1],1)]else[])
noncomputable def fsE(gs:List ((Int×Int)×Nat))(ex:Bool):List (List Int):=(ks gs).map fF++(if ex then[[0,-1,1]]else[])
theorem mT{gs:List ((Int×Int)×Nat)}(h:GsO gs)(ex:Bool):(usE gs ex).map (·.1)=(fsE gs ex).map aB:=by
 unfold usE fsE uG;rw[No,No,NH,NH]
 congr 1
 ·unfold ks;rw[NH];refine Ow λp hp=>?_
  exact(wc (h.ok p.1 (OK hp))).symm
 ·cases ex
  ·rfl
  ·show[[1,0,1]]=[aB [0,-1,1]];rw[BT]
theorem yX{gs:List ((Int×Int)×Nat)}(h:GsO gs)(ex:Bool):∀f∈fsE gs ex,FacG f:=λf hf=>by
 unfold fsE at hf
 rcases Nu.mp hf with z |z
 ·obtain⟨x,hx,rfl⟩:=Nc.mp z;exact Jb (h.ok x hx)
 ·cases ex
  ·cases z
  ·rw[Nf.mp z];exact Jc
theorem yV{gs:List ((Int×Int)×Nat)}(h:GsO gs)(ex:Bool):((fsE gs ex).map aB).Nodup:=by
 rw[<- mT h];unfold usE uG;rw[No,NH];refine List.nodup_append.mpr ⟨?_,by cases ex<;>simp,?_⟩
 ·have e:(gs.map ((λx=>x.1) ∘ λp=>(sF p.1,p.2)))=(ks gs).map sF:=by unfold ks;rw[NH];rfl
  rw[e];exact List.pairwise_map.mpr (h.nd.imp λhne z=>hne (CH z))
 ·intro a ha b hb z;obtain⟨p,_,rfl⟩:=Nc.mp ha;cases ex
  ·cases hb
  ·rw[show b=[1,0,1] by simpa using hb]at z;have z':sF p.1=[1,0,1]:=z;unfold sF at z'
   simp at z'
theorem yW{gs:List ((Int×Int)×Nat)}(h:GsO gs)(ex:Bool):Fam (fsE gs ex):=⟨yX h ex,yV h ex⟩
theorem mR{gs:List ((Int×Int)×Nat)}(h:GsO gs)(ex:Bool):Use (usE gs ex):=by
 refine⟨λp hp=>?_,λp hp=>?_,by rw[mT h];exact yV h ex⟩
 ·have:p.1∈(usE gs ex).map (·.1):=OK hp;rw[mT h]at this;obtain⟨f,hf,e⟩:=Nc.mp this;rw[<- e];exact gW (yX h ex f hf)
 ·unfold usE at hp
  rcases Nu.mp hp with z |z
  ·obtain⟨q,hq,rfl⟩:=Nc.mp z;exact h.pos q hq
  ·cases ex
   ·cases z
   ·rw[Nf.mp z];exact M0 _
theorem AR{gs:List ((Int×Int)×Nat)}(h:GsO gs)(ex:Bool):flt (usE gs ex)=prQ (fsE gs ex):=by rw[(yW h ex).prd,<- mT h,sJ]
theorem vt(gs:List ((Int×Int)×Nat))(ex:Bool):fP id (usE gs ex)=if ex then ad (fP id (uG gs)) [1,0,1]else fP id (uG gs):=by
 unfold usE;cases ex
 ·show fP id (uG gs++[])=_;rw[OD];rfl
 ·show fP id (uG gs++[([1,0,1],1)])=ad (fP id (uG gs)) [1,0,1];rw[JR];show ad _ (pw [1,0,1] 1)=_;rw[qV]
theorem vv(gs:List ((Int×Int)×Nat))(ex:Bool):dgs id (usE gs ex)=bE gs+if ex then 2 else 0:=by
 unfold usE;rw[tZ]
 congr 1
 ·induction gs with
  |nil=>rfl
  |cons p gs ih =>show p.2*(2-1)+dgs id (uG gs)=bE (p::gs);rw[ih];show _=((p::gs).map (·.2)).sum;rw[Nx,N6];show p.2*1+bE gs=p.2+bE gs;omega
 ·cases ex<;>rfl
noncomputable def inW(l1 l2 h1 h2:Int)(x:Int×Int):Bool:=decide (l1*x.2<x.1*l2)&&!decide (h1*x.2<x.1*h2)
theorem zF(l1 l2 h1 h2:Int):∀(xs:List (Int×Int)) (r:List (List Int)),bh (aM (xs.map fF++r)) l1 l2 h1 h2=((xs.filter (inW l1 l2 h1 h2)).length:Int)+bh (aM r) l1 l2 h1 h2
 | [],r=>by show bh (aM r) _ _ _ _=0+_;rw[NF]
 |x::xs,r=>by
  have e:aM ((x::xs).map fF++r)=[x.1,0,x.2,1]::aM (xs.map fF++r):=by show spF (fF x)++aM (xs.map fF++r)=_;unfold fF;rw[nc];rfl
  rw[e,fR,zF l1 l2 h1 h2 xs r,List.filter_cons];have p1:(0<ar [x.1,0,x.2,1] l1 l2)↔l1*x.2<x.1*l2:=by rw[side_line,Nm]
  have p2:(ar [x.1,0,x.2,1] h1 h2<=0)↔¬(h1*x.2<x.1*h2):=by rw[<- Int.not_lt,side_line,Nm]
  by_cases hx:0<ar [x.1,0,x.2,1] l1 l2/\ar [x.1,0,x.2,1] h1 h2<=0
  ·rw[if_pos hx]
   have:inW l1 l2 h1 h2 x=true:=by unfold inW;rw[decide_eq_true (p1.mp hx.1),decide_eq_false (p2.mp hx.2)];rfl
   rw[this,if_pos rfl,Nq];omega
  ·rw[if_neg hx]
   have:inW l1 l2 h1 h2 x=false:=by
    unfold inW;by_cases h1':l1*x.2<x.1*l2
    ·by_cases h2':h1*x.2<x.1*h2
     ·rw[decide_eq_true h2'];simp
     ·exact absurd ⟨p1.mpr h1',p2.mpr h2'⟩ hx
    ·rw[decide_eq_false h1'];rfl
   rw[this];simp
theorem Kh(gs:List ((Int×Int)×Nat))(ex:Bool)(l1 l2 h1 h2:Int):bh (aM (fsE gs ex)) l1 l2 h1 h2=(((ks gs).filter (inW l1 l2 h1 h2)).length:Int):=by
 unfold fsE;rw[zF];cases ex
 ·show _+bh (aM []) l1 l2 h1 h2=_;rw[show bh (aM []) l1 l2 h1 h2=0 from rfl,ND]
 ·have:bh (aM [[0,-1,1]]) l1 l2 h1 h2=0:=by rw[show aM [[0,-1,1]]=[] by decide];rfl
  show _+bh (aM [[0,-1,1]]) l1 l2 h1 h2=_;rw[this,ND]
theorem wW(p:Int×Int->Bool):∀(xs ds:List (Int×Int)),(xs.filter p).foldl bG (ds.filter p)=(xs.foldl bG ds).filter p
 | [],ds=>rfl
 |x::xs,ds=>by
  have ih:=wW p xs (bG ds x);rw[List.foldl_cons,List.filter_cons]
  have e:(bG ds x).filter p=if p x then bG (ds.filter p) x else ds.filter p:=by
   unfold bG;by_cases hx:x∈ds
   ·rw[if_pos hx];by_cases hp:p x=true
    ·rw[if_pos hp,if_pos (OL.mpr ⟨hx,hp⟩)]
    ·rw[if_neg hp]
   ·rw[if_neg hx,List.filter_append];by_cases hp:p x=true
    ·rw[if_pos hp,if_neg (λz=>hx (OL.mp z).1)];simp[hp]
    ·rw[if_neg hp];simp[hp]
  rw[e]at ih;rw[<- ih];by_cases hp:p x=true
  ·rw[if_pos hp,if_pos hp,List.foldl_cons]
  ·rw[if_neg hp,if_neg hp]
noncomputable def wt(us:List (List Int×Nat)):Nat:=(us.map λp=>10*p.2+2).sum
theorem GI(x:Int×Int):hv x.1 x.2 (sF x)=0:=by show -x.1*x.2^2+x.1*(x.2*x.2^1+x.1*0)=0;grind
theorem rD{t n:Int}{a b:List Int}(hn:0<n)(ha:a≠[])(hb:b≠[])(h:hv t n a=0):hv t n (ad a b)=0:=by
 have:=oY t n hb ha;rw[h,Nz]at this;rcases NR.mp this with z |z
 ·omega
 ·exact z
theorem ze{t n:Int}(hn:0<n):∀(us:List (List Int×Nat)),(∀p∈us,p.1≠[]/\1<=p.2)->∀p∈us,hv t n p.1=0->hv t n (fP id us)=0
 | [],_,p,hp,_=>by cases hp
 |q::us,h,p,hp,hz=>by
  have ne:fP id us≠[]:=(kg id us λr hr=>(h r (M8 _ hr)).1).2;have hq:=h q (Na ..);have nq:=(lf hq.1 q.2).2;show hv t n (ad (pw q.1 q.2) (fP id us))=0;rcases Nd.mp hp with z |z
  ·subst z;refine rD hn nq ne ?_;obtain⟨k,hk⟩:∃k,p.2=k+1:=⟨p.2-1,by omega⟩;rw[hk];show hv t n (ad p.1 (pw p.1 k))=0;exact rD hn hq.1 (lf hq.1 k).2 hz
  ·rw[j4];exact rD hn ne nq (ze hn us (λr hr=>h r (M8 _ hr)) p z hz)
theorem CU{kp:List Int}{t n:Int}{B:Nat}(hk:kp≠[])(tr:Tr kp)(hn:0<n)(hB:1<=B)(hb:∀x∈kp.take (kp.length-1),x.natAbs<=(B-1)*(ap kp).natAbs)(hz:hv t n kp=0) : -((B:Nat):Int)*n<t/\t<(B:Nat)*n:=by
 have key:¬B*n.toNat<=t.natAbs:=λh=>by
  obtain⟨os,z,e⟩:=(cF kp).resolve_left hk;have hl:ap kp≠0:=oO tr hk;rw[e]at hb hz;rw[e,cL]at hl;rw[cL]at hb;have ht2:(os++[z]).take ((os++[z]).length-1)=os:=by simp
  rw[ht2]at hb;have hc:=zU (n:=n.toNat) (by omega) hB h z os hb;rw[Int.toNat_of_nonneg (M7 hn),hz]at hc;have h1:0<z.natAbs:=Oa.mpr hl;have h2:0<n.toNat^(os.length+1):=Oj (by omega);have h3:=Nat.mul_pos h1 h2;simp at hc
  omega
 have e:((B*n.toNat:Nat):Int)=(B:Nat)*n:=by rw[OS,Int.toNat_of_nonneg (M7 hn)]
 have : -((B:Nat):Int)*n = -((B:Nat)*n):=Int.neg_mul _ _;omega
end RM
theorem PyProof.Rows.boot_ValueError:PySem.bootBuiltins "ValueError"=some (.type "ValueError"):=by decide +kernel
namespace L2
open PySem PySem.Spec PyProof.Rows
section
variable {X:Cx}{CX:CXT}{k:Nat}{f C R:Addr}{fd:FuncData}{ps:List Str}{sp:Sp}{dvs:List V}{ds:List Value}{m r n x:Str}{p pos apos cpos epos np hpos:Pos}{e o ex:Expr}{es:List Expr}{ta:TE}{t:TA}{i:Nat}{b₀:Stmt}{suite:List Stmt}{th:Addr->Obj->TS}{tx:XK->TE}
noncomputable def lc(K:PySem.W.Frag)(ea:Addr)(oe:Obj):List V->Hp->VK->Prop:=λxs H Q=>∃(D:Addr) (c:Value) (y:V) (k:Bool),xs=[.ref ea,y]/\RelV y c/\(∀u,RelV y u->u=c)/\oe.cls=.ref D/\ECls K D/\PySem.W.kitOne K (.ref D) c=some k/\Q (.bl k) H
theorem ui{X:Cx}{ea:Addr}{oe:Obj}:CallR (cxH X ea oe) (.builtin "isinstance") (lc X.K ea oe):=by intro pins s σ H xs us Q I r h;obtain⟨D,c,y,k,rfl,_,hy,hc,T,e,q⟩:=h;obtain⟨u1,u2,rfl,r1,r2⟩:=r.two;obtain rfl:u1=Value.ref ea:=r1;obtain rfl:=hy u2 r2;exact PySem.W.kia_one (GP hc T.cl T.ga T.gn T.mB T.ha T.hn T.ht T.hm) I.kIn (oZ I) e (λz=>nomatch z) λtk=>⟨.bl k,H,I.tok tk,rfl,q⟩
theorem oS{K:PySem.W.Frag}{ea D C:Addr}{oe:Obj}{H:Hp}{Q:VK}{k:Bool}(hc:oe.cls=.ref D)(T:ECls K D)(e:PySem.W.kitOne K (.ref D) (.ref C)=some k)(q:Q (.bl k) H):lc K ea oe [.ref ea,.ref C] H Q:=⟨D,.ref C,.ref C,k,rfl,rfl,λ_ z=>z,hc,T,e,q⟩
theorem yr{K:PySem.W.Frag}{ea D:Addr}{n:String}{oe:Obj}{H:Hp}{Q:VK}{k:Bool}(hc:oe.cls=.ref D)(T:ECls K D)(e:PySem.W.kitOne K (.ref D) (.type n)=some k)(q:Q (.bl k) H):lc K ea oe [.ref ea,.ty n] H Q:=⟨D,.type n,.ty n,k,rfl,rfl,λ_ z=>z,hc,T,e,q⟩
theorem jQ{K:PySem.W.Frag}{ea:Addr}{oe:Obj}{σ:St}{H:Hp}{Q:VK}{te:TE}{y:V}(h:te σ H λx H1=>lc K ea oe [x,y] H1 Q):tCB (lc K ea oe) (iy te (iy (tC y) kD)) σ H Q:=h
end
section
variable {X:Cx}{R R2:Addr}{r r2 n n2:Str}{pos epos np hpos np2 hpos2:Pos}{ex:Expr}{i i2:Nat}{b₀ b₂:Stmt}{suite suite2:List Stmt}{th th2:Addr->Obj->TS}{tx:XK->TE}
end
def KD(h h':Heap):Prop:=∀b o,h.get? b=some o->∃o',h'.get? b=some o'/\o'.dict=o.dict
theorem KD.refl(h:Heap):KD h h:=λ_ o e=>⟨o,e,rfl⟩
theorem KD.trans{a b c:Heap}(x:KD a b)(y:KD b c):KD a c:=λp o e=>by obtain⟨o1,e1,d1⟩:=x p o e;obtain⟨o2,e2,d2⟩:=y p o1 e1;exact⟨o2,e2,d2.trans d1⟩
theorem KD.push(h:Heap)(o:Obj):KD h (h.push o):=λb u e=>⟨u,Heap.get?_push_of_some _ e,rfl⟩
def uE(f:Obj->Obj):Prop:=∀o:Obj,o.isFreed=false->(f o).isFreed=false/\(f o).dict=o.dict
theorem KD.upd(h:Heap)(a:Addr){f:Obj->Obj}(hf:uE f):KD h (h.update a f):=λb u e=>by
 by_cases z:a=b
 ·subst z;obtain⟨h1,h2⟩:=hf u (Heap.get?_some_iff.mp e).2;exact⟨f u,Heap.get?_update_self f e h1,h2⟩
 ·exact⟨u,(Heap.get?_update_other h f z).trans e,rfl⟩
inductive Mild{α:Type}:Sem α->Prop
 |pure (a:α):Mild (.pure a)
 |unsupported (x:String):Mild (.unsupported x)
 |rule {t:String} {k:Unit->Sem α}:(∀u,Mild (k u))->Mild (.rule t k)
 |at{p:Pos} {k:Unit->Sem α}:(∀u,Mild (k u))->Mild (.at p k)
 |load {a:Addr} {p:Option Value} {k:Obj->Sem α}:(∀o,Mild (k o))->Mild (.load a p k)
 |update {a:Addr} {p:Option Value} {f:Obj->Obj} {k:Unit->Sem α}:uE f->(∀u,Mild (k u))->Mild (.update a p f k)
 |alloc {o:Obj} {k:Addr->Sem α}:(∀a,Mild (k a))->Mild (.alloc o k)
 |stack {k:List (Code×Pos)->Sem α}:(∀l,Mild (k l))->Mild (.stack k)
theorem bI{α β:Type}{t:Sem α}{f:α->Sem β}(ht:Mild t)(hf:∀a,Mild (f a)):Mild (t >>= f):=by
 show Mild (t.bind f)
 induction ht with
 |pure a=>exact hf a
 |unsupported x=>exact .unsupported x
 |rule _ ih=>exact .rule ih
 | «at» _ ih=>exact .at ih
 |load _ ih=>exact .load ih
 |update s _ ih=>exact .update s ih
 |alloc _ ih=>exact .alloc ih
 |stack _ ih=>exact .stack ih
theorem dQ{α:Type}(a:α):Mild (pure a:Sem α):=.pure a
theorem AJ{α:Type}(M:Model)(Γ:PySem.Ctx){h0:Heap}{t:Sem α}(m:Mild t){Q:α->Pos->Shared->Prop}{E E':Value->Pos->Shared->Prop}:∀{p:Pos} {s:Shared},KD h0 s.heap->Sem.wp M Γ t Q E p s->Sem.wp M Γ t (λa p' s'=>Q a p' s'/\KD h0 s'.heap) E' p s:=by
 induction m with
 |pure a=>intro p s hk h;rw[Sem.wp]at h ⊢;exact⟨h,hk⟩
 |unsupported x=>intro p s hk h;rw[Sem.wp]at h;exact h.elim
 |rule _ ih=>intro p s hk h;rw[Sem.wp]at h ⊢;exact ih () hk h
 | «at» _ ih=>intro p s hk h;rw[Sem.wp]at h ⊢;exact ih () hk h
 |load _ ih =>intro p s hk h;rw[Sem.wp]at h ⊢;obtain⟨o,e,h⟩:=h;exact⟨o,e,ih o hk h⟩
 |update sf _ ih =>intro p s hk h;rw[Sem.wp]at h ⊢;exact⟨h.1,ih () (hk.trans (KD.upd s.heap _ sf)) h.2⟩
 |alloc _ ih =>intro p s hk h;rw[Sem.wp]at h ⊢;exact ih _ (hk.trans (KD.push s.heap _)) h
 |stack _ ih=>intro p s hk h;rw[Sem.wp]at h ⊢;exact ih _ hk h
theorem kA{α:Type}{M:Model}{A:Around}{t:Sem α}{Q:α->Shared->Prop}{E E':Value->Shared->Prop}{s:Shared}(m:Mild t)(h:wpAny M A t Q E s):wpAny M A t (λa s'=>Q a s'/\KD s.heap s'.heap) E' s:=λΓ p hΓ =>AJ M Γ m (KD.refl _) (h Γ p hΓ)
theorem BE(f:Array Value->Array Value):uE (Obj.mapFields f):=λo h=>by
 unfold Obj.mapFields;split
 ·exact⟨rfl,rfl⟩
 ·exact⟨h,rfl⟩
theorem rM(a:Addr):Mild (load a):=.load λ_=>.pure _
theorem FK(v:Value):Mild (fieldsOf v):=by
 unfold fieldsOf;split
 ·refine bI (rM _) λo=>?_
  split<;>constructor
 ·constructor
theorem oB(v:Value)(i:Nat):Mild (field v i):=by
 unfold field;refine bI (FK v) λvs=>?_
 split<;>constructor
theorem rL(v:Value)(i:Nat)(x:Value):Mild (setField v i x):=by
 unfold setField;split
 ·unfold updateField;refine bI (rM _) λo=>?_
  split
  ·split
   ·exact .update (BE _) λ_=>dQ _
   ·constructor
  ·constructor
 ·constructor
theorem rK(e:Value)(fr:Option Addr):Mild (setFlight e fr):=by
 unfold setFlight;refine bI (oB e 1) λtb=>?_
 split
 ·exact rL _ _ _
 ·constructor
theorem rJ:Mild (stack:Sem (List (Code×Pos))):=.stack λ_=>.pure _
theorem xU:∀l:List Env,Mild (readyFrames l)
 | []=>dQ _
 |env::outer=>by
  unfold readyFrames;split
  ·refine bI (rM _) λo=>?_
   split
   ·constructor
   ·refine bI ?_ λim=>bI ?_ λbk=>bI ?_ λ_=>xU outer
    ·unfold behindIsImport;split
     ·constructor
     ·split
      ·constructor
      ·exact bI (oB _ _) λ_=>dQ _
    ·unfold keptBack;split
     ·split
      ·constructor
      ·refine bI ?_ λb=>dQ _
       unfold underTheClaimsCaller;exact bI rJ λ_=>dQ _
     ·constructor
    ·exact .update (λo h=>⟨by obtain⟨a,b,c,d⟩:=o;cases c<;>first |rfl |exact h,rfl⟩) λ_=>dQ _
  ·constructor
theorem FJ(env:Env):Mild (PySem.frameOf env):=by
 unfold PySem.frameOf frameEnvs;refine bI ?_ λl=>bI ?_ λo=>?_
 ·exact bI rJ λ_=>dQ _
 ·generalize l.dropWhile _=l';unfold frameObject;split
  ·constructor
  ·exact bI (xU _) λ_=>dQ _
 ·split<;>constructor
theorem FL(f:Addr)(b:Bool):Mild (entryPlaceOf f b):=by
 unfold entryPlaceOf;refine bI rJ λl=>?_
 split<;>constructor
theorem FH(ty:String)(vs:List Value):Mild (newFields ty vs):=by
 have as':∀dt:Data,Mild (newObjAsIs (.type ty) dt none):=λdt=>by
  unfold newObjAsIs;refine bI (.alloc λ_=>.pure _) λa=>?_
  exact dQ _
 unfold newFields newObj;dsimp only
 split
 ·exact bI (.unsupported _) λ_=>as' _
 ·exact as' _
theorem FI(a b c d e:Value)(pl:List Value):Mild (EntryCells.newEntry a b c d e pl):=FH _ _
theorem xT(e hd:Value)(env:Env)(f:Addr):Mild (do setField e 1 (<- EntryCells.newEntry hd (<- PySem.frameOf env) .none (rawInt f) .none (<- entryPlaceOf f (hd != .none))):Sem Unit) :=
 bI (FJ env) λfr=>bI (FL _ _) λpl=>bI (FI _ _ _ _ _ _) λne=>rL _ _ _
theorem xV(e:Value)(env:Env):Mild (noteFrame e env):=by
 unfold noteFrame;split
 ·refine bI (oB _ _) λhd=>?_
  dsimp only
  split
  ·refine bI (oB _ _) λx=>?_
   split
   ·exact dQ _
   ·exact bI (rL _ _ _) λ_=>xT _ _ _ _
  ·exact xT _ _ _ _
 ·constructor
theorem xW(env:Env)(e:Value):Mild (leaving env e):=bI (xV e env) λ_=>rK e none
open PySem PySem.Spec PyProof.Rows PySem.W PySem.Calls PySem.Builtin PySem.Builtin.ObjectAttr
noncomputable def iw:List Value:=[.type "ValueError",.type "Exception",.type "BaseException",.type "object"]
noncomputable def gA:List Value->Bool
 |.ref _::r=>r == iw ||gA r
 |_=>false
theorem vm(self:Value):∀{l:List Value},gA l=true->refuseLoop self "__setattr__" l=pure ()
 |.ref c::r,e=>by
  rw[refuseLoop_ref];rcases Bool.or_eq_true_iff.mp (show(r == iw ||gA r)=true from e)with q |q
  ·rw[beq_iff_eq.mp q];exact PySem.F.store_ValueError.passes self
  ·exact vm self q
theorem vn:∀{l:List Value},gA l=true->l.contains (.type "object")=true
 |.ref c::r,e=>by
  rcases Bool.or_eq_true_iff.mp (show(r == iw ||gA r)=true from e)with q |q
  ·rw[beq_iff_eq.mp q];rfl
  ·rw[List.contains_cons,vn q,Bool.or_true]
structure XCls(K:Frag)(C:Addr):Prop where
 ve:∃cd,clsIn K C=some cd/\gA cd.mro=true/\cd.hasDict=true
 sa:findIn K (.ref C) "__setattr__"=some (some (.builtin "object.__setattr__"))
noncomputable def mQ(K:Frag)(C:Addr):Bool:=(match clsIn K C with |some cd=>gA cd.mro&&cd.hasDict |none=>false)&&findIn K (.ref C) "__setattr__" == some (some (.builtin "object.__setattr__"))
theorem XCls.of{K:Frag}{C:Addr}(h:mQ K C=true):XCls K C:=by
 unfold mQ at h
 obtain⟨h1,h2⟩:=Bool.and_eq_true_iff.mp h;refine⟨?_,beq_iff_eq.mp h2⟩;cases e:clsIn K C with
 |none=>rw[e]at h1;cases h1
 |some cd=>rw[e]at h1;obtain⟨a,b⟩:=Bool.and_eq_true_iff.mp h1;exact⟨cd,rfl,a,b⟩
section
variable {prog:Program}{w:World}{A:Around}{E:Value->Shared->Prop}{s:Shared}{K:Frag}{x C:Addr}
theorem AD{ox:Obj}{vs:Array Value}{name:Str}{v:Value}{Q:Unit->Shared->Prop}(X:K.In s.heap)(T:XCls K C)(hx:s.heap.get? x=some ox)(hc:ox.cls=.ref C)(hd:ox.dict=none)(hf:ox.data=.fields vs)(hn:findIn K (.ref C) name=some none)
 (h:∀h' tk,h'.get? x=some { ox with dict:=some s.heap.objs.size }->h'.Ns1 s.heap.objs.size (λy=>if y=name then some v else none)->(∀b o,b≠x->s.heap.get? b=some o->h'.get? b=some o)->Q () { s with heap:=h',toks:=tk }) :
 wpAny (model prog w) A (setAttr (.ref x) name v) Q E s:=by
 obtain⟨hh,g,d,t,os⟩:=s;obtain⟨cd,hcd,hve,hdict⟩:=T.ve;have I:PySem.W.InstAt hh x ox C none:=⟨hx,hc,by unfold notCls;rw[hf],by rw[hd];trivial⟩;refine set_plain X I T.sa ?_;show codeAny _ _ (.call (.builtin "object.__setattr__") ⟨[.ref x,.str name t,v],[]⟩) _ ⟨hh,g,d,t+1,os⟩;have SF:=PySem.F.store_object
 have ne:cd.mro.isEmpty=false:=by
  cases q:cd.mro with
  |nil=>rw[q]at hve;cases hve
  |cons _ _=>rfl
 have sub:Looks (model prog w) hh (isInstance (.ref x) (.type "object")) true:=I.type.andThen (looks_mroIn X (by unfold mroIn;rw[hcd,Option.bind_some,if_neg (by rw[ne];decide),vn hve]));refine codeAny_call_builtin SF.slot.plain SF.entry (@check_slot (model prog w) _ _ _ "object.__setattr__" "object" "__setattr__" (.ref x) [.str name t,v] [] _ SF.kind SF.split sub (SF.args (.ref x) (.str name t) v) ?_);have hm:Looks (model prog w) hh (mroOf (.ref C)) cd.mro:=(looks_clsIn X hcd).andThen .now;rw[osa_eq,refuse_eq];refine wpAny_bind (wpAny_bind (I.type.here (wpAny_bind (hm.here ?_))));rw[vm _ hve];refine wpAny_pure (wpAny_bind (I.type.here (wpAny_bind (Looks.here (s:=⟨hh,g,d,t+1,os⟩) (looks_findIn X hn) (wpAny_bind (wpAny_pure ?_))))));show wpAny _ _ (storeInOwnDict (.ref x) (.ref C) (.str name t) name v false) _ _ _;unfold storeInOwnDict;refine wpAny_bind (wpAny_pure ?_);show wpAny _ _ (ownDictForStores (.ref x) >>= _) _ _ _;have hxs:x≠hh.objs.size:=Ng (Heap.lt_size hx);have hx1:(hh.push { cls:=.type "dict",data:=.dict #[] }).get? x=some ox:=Heap.get?_push_of_some _ hx;show wpAny _ _ (instanceDict x true >>= _) _ _ _;unfold instanceDict;refine wpAny_bind (wpAny_bind (wpAny_loadPart hx ?_));rw[hc,hd,hf];refine wpAny_bind (Looks.here (s:=⟨hh,g,d,t+1,os⟩) (looks_clsIn X hcd) ?_);rw[hdict];have td:typeHasDict (.ref C)=true:=by rfl
 rw[if_neg (by decide),td];dsimp only
 rw[if_neg (by decide)];refine wpAny_bind (wpAny_alloc' (wpAny_bind (wpAny_update' hx1 (wpAny_pure ?_))));have hgd:((hh.push { cls:=.type "dict",data:=.dict #[] }).update x λo=>{ o with dict:=some hh.objs.size }).get? hh.objs.size=some { cls:=.type "dict",data:=.dict #[] }:=(Heap.get?_update_other _ _ hxs).trans (Heap.get?_push_size _ rfl);have hnd:((hh.push { cls:=.type "dict",data:=.dict #[] }).update x λo=>{ o with dict:=some hh.objs.size }).Ns hh.objs.size (λ_=>none):=⟨_,#[],_,hgd,rfl,λe he=>absurd he (by simp),λ_=>rfl⟩;show wpAny _ _ (storeInDict hh.objs.size (.str name t) name v) _ _ _;unfold storeInDict newKeyGuard;refine wpAny_bind (wpAny_pure (wpAny_bind (wpAny_nsSet1 (Heap.Ns1.of_empty hnd) λh' hn' hs=>?_)));obtain⟨oD,esD,epD,hoD,hdD,hcD⟩:=hn'.count (Within.cons name v Within.nil);have hlen:esD.size<=sizeLine:=Nb hcD (by rw[Nq,OV,sizeLine_eq];omega);refine wpAny_bind (wpAny_lookBehind hoD (by rw[hdD];exact pastItsLine_dict (Nat.le_succ_of_le hlen)) (wpAny_pure ?_));refine h h' _ ?_ hn' λb o hb e=>?_
 ·refine(hs.2 x hxs).trans (Heap.get?_update_self _ hx1 ?_);have fr:=(Heap.get?_some_iff.mp hx).2;obtain⟨oc,od,odt,osl⟩:=ox;cases odt<;>first |rfl |exact fr
 ·exact(hs.2 b (Ng (Heap.lt_size e))).trans ((Heap.get?_update_other _ _ (Ne.symm hb)).trans (Heap.get?_push_of_some _ e))
theorem AE{ox:Obj}{dx:Addr}{vs:Array Value}{mA:Str->Option Value}{name:Str}{v:Value}{expr:Bool}{Q:Value->Shared->Prop}(X:K.In s.heap)(T:XCls K C)(Te:ECls K C)(hx:s.heap.get? x=some ox)(hc:ox.cls=.ref C)(hd:ox.dict=some dx)(hf:ox.data=.fields vs)(hn:findIn K (.ref C) name=some none)(hns:s.heap.Ns1 dx mA)(hv:mA name=some v)(hh:handedIn v=true)
 (h:Q v { s with toks:=s.toks+1 }):wpAny (model prog w) A (getAttr (.ref x) name expr) Q E s:=by
 obtain⟨hp,g,d,t,os⟩:=s;obtain⟨cd,hcd,hve,hdict⟩:=T.ve;obtain⟨od,hod,hlk⟩:=x8 hns;have I:PySem.W.InstAt hp x ox C (some od):=⟨hx,hc,by unfold notCls;rw[hf],by rw[hd];exact hod⟩;have LT:=I.type (M:=model prog w);have L1:=looks_findIn (M:=model prog w) X Te.ga;have L2:=looks_findIn (M:=model prog w) X Te.gn
 have ff:findObj K C (some od) name=some (.value v):=by unfold findObj;rw[hcd,hn,Option.bind_some,Option.bind_some];show(PySem.W.ownOf cd (some od) name).bind _=_;unfold PySem.W.ownOf;rw[if_pos hdict];show(lookIn name od).bind _=_;rw[hlk,hv];rfl
 have LF:=looks_find (M:=model prog w) X I ff;have f3:=F.excAttr_ValueError.ga.bind (.ref x);have hx2:(Value.builtin "BaseException.__getattribute__" == Value.builtin "object.__getattribute__")=false:=by decide +kernel
 have hx1:(onTheHeap (Value.ref C)&&Value.builtin "BaseException.__getattribute__" == Value.builtin "object.__getattribute__")=false:=by rw[hx2];rfl
 have ho:=handedOut_of hh;unfold getAttr getAttrBy;refine wpAny_bind (wpAny_mkText (wpAny_holding (wpAny_bind (LT.at (wpAny_bind (L1.at ?_))))));dsimp only
 rw[if_neg (by rw[hx1];exact NU)];unfold getAttrByItsOwn
 repeat (any_goals (first |assumption | (with_reducible refine wpAny_bind (L2.at ?_)) | (with_reducible refine L2.at ?_) |wp_step))
 have hb:(expr&&onTheHeap (Value.builtin "BaseException.__getattribute__"))=false:=by cases expr<;>rfl
 rw[if_neg (by rw[hb];exact NU)]
 repeat (any_goals (first |assumption |wp_step))
 refine codeAny_call_builtin F.excAttr_ValueError.ga.plain F.entry_bexc_ga (zi X LT Te.mB ?_)
 repeat (any_goals (first |assumption | (with_reducible refine wpAny_bind (LT.at ?_)) | (with_reducible refine LT.at ?_) | (with_reducible refine wpAny_bind (LF.at ?_)) | (with_reducible refine LF.at ?_) |wp_step))
end
section
variable {prog:Program}{w:World}{A:Around}{E:Value->Shared->Prop}{h:Heap}{g:Array GenState}{d:Drawn}{t:Nat}{os:OsState}
variable {nm q:Str}{C N fI:Addr}{bs bm bmB:List Value}{hdct:Bool}{sn:List Str}{sub:List Value}{ab:Bool}{col:Option Bool}{dd:Option Addr}{k0 k1 k2 k3 k5:Option Value}{B newId initId:String}{mN:Str->Option Value}{oI:Obj}{rest:List Value}
noncomputable def cr(C t:Addr):Obj:={ cls:=.ref C,data:=.fields #[.ref t,.none,.none,.none,.bool false,.none] }
theorem AC(F:ExcBaseFacts B newId initId bmB)(T:OwnTail h bmB bm){Q:Fin->Shared->Prop}(hC:h.get? C=some (excClassObj nm q C N bs bm hdct sn sub ab col dd k0 k1 k2 k3 k5 newId))(hn:h.Ns N mN)(hi:mN "__init__"=some (.ref fI))(hfI:h.get? fI=some oI)(hfc:oI.cls=.type "function")(hrest:rest.length<=sizeLine)
 (hq:wpAny (model prog w) A (call (.ref fI) (.ref (h.objs.size+1)::rest)) (λr s'=>r=.none/\Q (.done (.ret (.ref (h.objs.size+1)))) s') E ⟨(h.push { cls:=.type "tuple",data:=.seq rest.toArray }).push (cr C h.objs.size),g,d,t,os⟩) :
 wpAny (model prog w) A (Builtin.«type.__call__» ⟨.ref C::rest,[]⟩) Q E ⟨h,g,d,t,os⟩:=by
 have kk:∀b o,h.get? b=some o->((h.push { cls:=.type "tuple",data:=.seq rest.toArray }).push (cr C h.objs.size)).get? b=some o:=λb o e=>Heap.get?_push_of_some _ (Heap.get?_push_of_some _ e)
 have g0:((h.push { cls:=.type "tuple",data:=.seq rest.toArray }).push (cr C h.objs.size)).get? (h.objs.size+1)=some (cr C h.objs.size):=by
  have:=Heap.get?_push_size (h.push { cls:=.type "tuple",data:=.seq rest.toArray }) (o:=cr C h.objs.size) rfl
  rwa [Heap.size_push]at this
 have cC:(Value.ref C::bm).contains (.ref C)=true:=by simp
 repeat (first |with_reducible refine wpAny_loadPart_at hC ?_ |with_reducible refine wpAny_madeBy_exc hC ?_ |wp_step)
 refine codeAny_call_builtin_code (Code.quiet_builtin _ F.quiet) (wpAny_check_new_subT F T hC (codeAny_exc_new_subT F T hC ?_ hrest));have hC':=kk _ _ hC;have hn':=hn.keeps kk;have T':=T.keeps kk;have hf':=kk _ _ hfI;show wpAny _ _ _ _ _ ⟨(h.push { cls:=.type "tuple",data:=.seq rest.toArray }).push (cr C h.objs.size),g,d,t,os⟩;generalize (h.push { cls:=.type "tuple",data:=.seq rest.toArray }).push (cr C h.objs.size)=h2 at *
 unfold cr at g0
 unfold isInstance
 repeat (first |with_reducible refine wpAny_loadPart_at g0 ?_ | (with_reducible refine wpAny_isSubtype_exc hC' ?_;rw[cC]) |wp_step)
 show wpAny _ _ (typeLookup (.ref C) _) _ _ _;refine wpAny_typeLookup_tail hC' hn' T' F.mroIs F.init.lookup ?_;rw[hi];refine wpAny_holding (wpAny_bind ?_);unfold bindSpecial;refine wpAny_bind (wpAny_typeOf (T:="function") ⟨_,hf',hfc⟩ ?_);rw[if_pos (by decide)];refine wpAny_pure (wpAny_bind (wpAny_mono hq (λr s' hr=>?_) λ_ _ z=>z));obtain⟨rfl,z⟩:=hr
 wp_walk
 exact z
theorem AI(F:ExcBaseFacts B newId initId bmB)(T:OwnTail h bmB bm){Q:Value->Shared->Prop}(hC:h.get? C=some (excClassObj nm q C N bs bm hdct sn sub ab col dd k0 k1 k2 k3 k5 newId))(hn:h.Ns N mN)(hi:mN "__init__"=some (.ref fI))(hfI:h.get? fI=some oI)(hfc:oI.cls=.type "function")(hrest:rest.length<=sizeLine)
 (hq:wpAny (model prog w) (A.under (.builtin "type.__call__" ⟨.ref C::rest,[]⟩)) (call (.ref fI) (.ref (h.objs.size+1)::rest)) (λr s'=>r=.none/\Q (.ref (h.objs.size+1)) s') E ⟨(h.push { cls:=.type "tuple",data:=.seq rest.toArray }).push (cr C h.objs.size),g,d,t,os⟩) :
 wpAny (model prog w) A (call (.ref C) rest) Q E ⟨h,g,d,t,os⟩:=by
 have a1:=tc_lookup;have a2:=tc_bind (.ref C);have hT:(⟨h,g,d,t,os⟩:Shared).TypeIs (.ref C) "type":=⟨_,hC,rfl⟩;refine wpAny_call (codeAny_of_tree ?_);show wpAny _ _ (callAny (.ref C) _) _ _ _
 repeat (any_goals (first |assumption |with_reducible refine wpAny_loadPart_at hC ?_ |wp_step))
 refine⟨rfl,codeAny_call_builtin_at (Code.quiet_builtin _ (by decide +kernel)) entry_typeCall (wpAny_check_type_call_sub hC (AC F T hC hn hi hfI hfc hrest ?_))⟩;exact hq
end
section
variable {M:Model}{A:Around}{E:Value->Shared->Prop}{s:Shared}{env:Env}
variable {nm q:Str}{C N:Addr}{bs bm:List Value}{hdct:Bool}{sn:List Str}{sub:List Value}{ab:Bool}{col:Option Bool}{dd:Option Addr}{k0 k1 k2 k3 k5:Option Value}{newId:String}
theorem Dh{x:Sem Value}{Q:Flow->Shared->Prop}(hbase:bm.contains (.type "BaseException")=true)(hh:A.handled=none)
 (hx:wpAny M A x (λv s1=>∃e t d,v=.ref e/\s1.heap.get? C=some (excClassObj nm q C N bs bm hdct sn sub ab col dd k0 k1 k2 k3 k5 newId)/\s1.heap.get? e=some { cr C t with dict:=d }/\E (.ref e) s1) E s) :
 wpAny M A (raiseStmt env (some x) none) Q E s:=by
 have cB:(Value.ref C::bm).contains (.type "BaseException")=true:=by rw[List.contains_cons,hbase,Bool.or_true]
 unfold raiseStmt;refine wpAny_bind (wpAny_mono hx (λv s1 h1=>?_) λ_ _ z=>z);obtain⟨e,t,d,rfl,hC,he,hE⟩:=h1;obtain⟨hp,g,d',tk,os⟩:=s1;unfold cr at he
 repeat (first |with_reducible refine wpAny_loadPart_at he ?_ |with_reducible refine wpAny_loadPart_at hC ?_ | (with_reducible refine wpAny_isSubtype_exc hC ?_;rw[cB]) |wp_step)
 exact wpAny_raiseNew_none hh hE
end
noncomputable def CXV(P:Program)(w:World):CXT:=λouter H s E e s'=>∃d:Option Addr,CXW P w outer H s (λc _ H'=>E c d H') e s'/\∃ea ob,e=.ref ea/\s'.heap.get? ea=some ob/\ob.dict=d
noncomputable def EX(C a:Addr)(d:Option Addr):HO:=.ext λh=>∃t,h.get? a=some { cr C t with dict:=d }
theorem zj{P:Program}{w:World}{H:Hp}{h:Heap}{C a t:Addr}{d:Option Addr}(e:h.get? a=some { cr C t with dict:=d }):ObjOk P w H h a (EX C a d):=⟨⟨t,e⟩,⟨_,e⟩,λh1 h2 ⟨t',e'⟩ k=>⟨t',k _ e'⟩⟩
section
variable {P:Program}{w:World}{K:PySem.W.Frag}{mg:Str->Option Value}{base:Heap}{N:List Str}{qual:Str}{scope:Scope}{f:Addr}{cd:Value}{A:Around}{outer:List Env}{s:Shared}{H:Hp}{E:XK}{pins:List (Addr×Obj)}{σ:St}{H1:Hp}{s1:Shared}
theorem AF{e C:Addr}{oe:Obj}{vs:Array Value}{a0:Value}(I:Inv (bw (CXV P w) P w K mg base N qual scope f cd A outer s H E) pins σ H1 s1)(he:s1.heap.get? e=some oe)(hc:oe.cls=.ref C)(hd:oe.data=.fields vs)(h0:vs[0]?=some a0)(h1:vs[1]?=some .none)(hn:H1 e=none)(hs:s.heap.get? e=none)(hE:E (.ref C) oe.dict H1) :
 (bw (CXV P w) P w K mg base N qual scope f cd A outer s H E).xe (.ref e) s1:=by
 have hst:=I.stack;have hfree:=I.stkFree;have hfrm:(envOfC qual scope s.heap.objs.size f cd).frame=some s.heap.objs.size:=rfl;have efr:frs (envOfC qual scope s.heap.objs.size f cd::outer)=s.heap.objs.size::frs outer:=yY hfrm;have hin:∀env∈(envOfC qual scope s.heap.objs.size f cd::outer),∀b,env.frame=some b->b∈e::frs (envOfC qual scope s.heap.objs.size f cd::outer):=λenv hv b hb=>M8 _ (List.mem_filterMap.mpr ⟨env,hv,hb⟩)
 have b1:∀b o,s.heap.get? b=some o->b∉frs outer->∃o',s1.heap.get? b=some o'/\(PySem.W.hideAll s1.heap (e::frs (envOfC qual scope s.heap.objs.size f cd::outer))).get? b=some o':=λb o q hb=>by
  obtain⟨o',q'⟩:=I.base.there b o q (λz=>nomatch z);refine⟨o',q',PySem.W.hideAll_get _ q' λz=>?_⟩;rw[efr]at z;rcases Nd.mp z with z |z
  ·rw[z,hs]at q;cases q
  ·rcases Nd.mp z with z |z
   ·exact absurd (Heap.lt_size q) (by rw[z];exact NI _)
   ·exact hb z
 have b2:∀b x,H1 b=some x->∃o',s1.heap.get? b=some o'/\(PySem.W.hideAll s1.heap (e::frs (envOfC qual scope s.heap.objs.size f cd::outer))).get? b=some o':=λb x q=>by
  obtain⟨o',q'⟩:∃o',s1.heap.get? b=some o':=Fm (I.hok b x q);refine⟨o',q',PySem.W.hideAll_get _ q' λz=>?_⟩;rcases Nd.mp z with z |z
  ·rw[z,hn]at q;cases q
  ·rw[hfree b z]at q;cases q
 have hB:(PySem.W.hideAll s1.heap (e::frs (envOfC qual scope s.heap.objs.size f cd::outer))).get? e=none:=PySem.W.hideAll_none _ (Na ..)
 have fd:∀b∈frs outer,∀o,s1.heap.get? b=some o->∀ws,o.data≠.fields ws:=λb hb o q=>by obtain⟨_,o',q',hdd⟩:=I.funs.mem hb;have q'':s1.heap.get? b=some o':=q';rw[q]at q'';cases q'';exact hdd
 refine wpAny_mono (kA (E':=λ_ _=>False) (xW _ _) (wpAny_leaving_firstW (L:=s.heap.objs.size) (a0:=a0) I.ok.frames (PySem.W.funFrames_hide hst hin) hfrm he (λb o q=>PySem.W.of_hideAll _ q) hB hd h1 h0 (Q:=λ_ s''=>∃h'',s''={ s1 with heap:=h'' }/\Heap.FlyingW (PySem.W.hideAll s1.heap (e::frs (envOfC qual scope s.heap.objs.size f cd::outer))) outer e oe.cls a0 h''/\s1.heap.UpToSlots h'') (E:=λ_ _=>False) λh' hL=>?_)) (λ_ s'' hq=>?_) (λ_ _ z=>z.elim)
 ·obtain⟨k1,⟨_,_,k2⟩,k3,k4⟩:=hL;exact⟨h',rfl,⟨k1,hB,k2,k3⟩,k4⟩
 ·obtain⟨⟨h'',rfl,fl,up⟩,kd⟩:=hq;obtain⟨o',eo',od'⟩:=kd e oe he;rw[hc]at fl;refine⟨oe.dict,⟨e,.ref C,a0,_,H1,rfl,I.os,I.bare,?_,I.hok.back b2 fl.1,fl,λb o q hb=>?_,λb x q=>?_,hn,hs,hE⟩,e,o',rfl,eo',od'⟩
  ·exact I.base.back (λb o q hb=>let⟨o',q1,q2⟩:=b1 b o q hb;⟨o',q1,fl.1 _ _ q2⟩) I.ok.frf fd up
  ·obtain⟨o',q1,q2⟩:=b1 b o q hb;exact⟨o',fl.1 _ _ q2,q2⟩
  ·obtain⟨o',q1,q2⟩:=b2 b x q;exact⟨o',fl.1 _ _ q2,q2⟩
theorem AG{E':XK}{e:Value}{s2:Shared}(I:Inv (bw (CXV P w) P w K mg base N qual scope f cd A outer s H E) pins σ H1 s1)(h:CXV P w (bw (CXV P w) P w K mg base N qual scope f cd A outer s H E).stack H1 s1 E' e s2)(hE:∀c d H',E' c d H'->E c d H') :
 (bw (CXV P w) P w K mg base N qual scope f cd A outer s H E).xe e s2:=by
 obtain⟨d,hW,ea,ob,rfl,eo,ed⟩:=h;have I':Inv (bw (CXW P w) P w K mg base N qual scope f cd A outer s H (λc _ H'=>E c d H')) pins σ H1 s1:=(I.wish (bw (CXW P w) P w K mg base N qual scope f cd A outer s H (λc _ H'=>E c d H')).xe);have x:=AH (E':=λc _ H'=>E' c d H') I' hW (λc _ H' z=>hE c d H' z);have x':wpAny (model P w) (A.deeper (envOfC qual scope s.heap.objs.size f cd)) (leaving (envOfC qual scope s.heap.objs.size f cd) (.ref ea)) (λ_ s''=>CXW P w outer H s (λc _ H'=>E c d H') (.ref ea) s'') (λe' s''=>CXW P w outer H s (λc _ H'=>E c d H') e' s'') s2:=x;refine wpAny_mono (kA (E':=λ_ _=>False) (xW _ _) x') (λ_ s'' hq=>?_) (λ_ _ z=>z.elim);obtain⟨h1,kd⟩:=hq;obtain⟨o',eo',od'⟩:=kd ea ob eo;exact⟨d,h1,ea,o',rfl,eo',od'.trans ed⟩
theorem oj{E':XK}(hE:∀c d H',E' c d H'->E c d H'):fi (CXV P w) (bw (CXV P w) P w K mg base N qual scope f cd A outer s H E) E':=λ_ _ _ _ _ _ I h=>AG I h hE
theorem DR{X:Cx}:fi (CXV X.prog X.w) X E0:=λ_ _ _ _ _ _ _ h=>by obtain⟨_,h,_⟩:=h;obtain⟨_,_,_,_,_,_,_,_,_,_,_,_,_,_,_,z⟩:=h;exact z.elim
end
section
variable {X:Cx}{pins:List (Addr×Obj)}{σ:St}{H:Hp}{s:Shared}{a C:Addr}{f:Str}
theorem Hx{h':Heap}{tk:Nat}{t:Addr}{y:V}{u:Value}(I:Inv X pins σ H s)(e:H a=some (EX C a none))(ry:RelV y u)(ha:h'.get? a=some { cr C t with dict:=some s.heap.objs.size })(hn:h'.Ns1 s.heap.objs.size (λg=>if g=f then some u else none))(k:∀b o,b≠a->s.heap.get? b=some o->h'.get? b=some o) :
 Inv X pins σ (upd (upd H s.heap.objs.size (.xd [(f,y)])) a (EX C a (some s.heap.objs.size))) { s with heap:=h',toks:=tk }:=by
 have fr:H s.heap.objs.size=none:=I.hok.fresh (M0 _);have nd:a≠s.heap.objs.size:=aN e fr;have other:∀b,b≠a->b≠s.heap.objs.size->upd (upd H s.heap.objs.size (.xd [(f,y)])) a (EX C a (some s.heap.objs.size)) b=H b:=λb h1 h2=>by rw[upd_ne h1,upd_ne h2]
 have na:∀b o,H b=some o->(∀φ,o≠.ext φ)->b≠a:=λb o q h1 z=>by rw[z,e]at q;exact h1 _ (Option.some.inj q).symm
 have ns:∀b o,s.heap.get? b=some o->b≠s.heap.objs.size:=λb o q=>Ng (Heap.lt_size q)
 have nf:∀b o,H b=some o->b≠s.heap.objs.size:=λb o q=>aN q fr
 refine I.un ⟨λb o q n _ _=>k b o (λz=>by rw[z,e]at n;cases n) q,λb o q n _ _=>⟨o.slots,k b o (λz=>by rw[z,e]at n;cases n) q⟩,λb o q n _=>?_,λb o q _=>?_,λb xs q=>?_,λb o u q=>?_,λb ps q=>⟨#[],?_⟩⟩ λb o q=>?_
 ·rw[other b (λz=>by rw[z,e]at n;cases n) (ns b o q)];exact n
 ·by_cases z:b=a
  ·exact⟨_,by rw[z];exact ha⟩
  ·exact⟨o,k b o z q⟩
 ·rw[other b (na b _ q λφ z=>by cases z) (nf b _ q)];exact q
 ·rw[other b (na b _ q λφ z=>by cases z) (nf b _ q)];exact q
 ·rw[other b (na b _ q λφ z=>by cases z) (nf b _ q),Array.append_empty];exact q
 ·by_cases z:b=a
  ·subst z;rw[ao]at q;cases q;exact zj ha
  ·rw[upd_ne z]at q;by_cases z2:b=s.heap.objs.size
   ·subst z2;rw[ao]at q;cases q;refine⟨_,hn,λg=>?_⟩;by_cases zg:g=f
    ·subst zg;rw[if_pos rfl];show RelO (List.lookup g [(g,y)]) (some u);simp only[List.lookup,beq_self_eq_true];exact ry
    ·rw[if_neg zg];have:(g == f)=false:=beq_false_of_ne zg;show RelO (List.lookup g [(f,y)]) none;simp only[List.lookup,this];trivial
   ·rw[upd_ne z2]at q;refine(I.hok b o q).stay (λc v hc r=>k c v ?_ r) (λc r=>?_) λc xs r=>?_
    ·rcases hc with rfl |hc
     ·exact z
     ·exact na c _ hc λφ z=>by cases z
    ·rw[other c (na c _ r λφ z=>by cases z) (nf c _ r)];exact r
    ·rw[other c (na c _ r λφ z=>by cases z) (nf c _ r)];exact r
end
def sXf(K:PySem.W.Frag)(ta tv:TE)(f:Str):TS:=λD σ H=>tv σ H λy H1=>ta σ H1 λx H2=>∃a C,x=.ref a/\H2 a=some (EX C a none)/\XCls K C/\NoAttr K C f/\∀dx,H2 dx=none->dx≠a->D.nx σ (upd (upd H2 dx (.xd [(f,y)])) a (EX C a (some dx)))
section
variable {X:Cx}{o value:Expr}{f:Str}{pos pos':Pos}{ta tv:TE}
theorem wX(ha:PE X o ta)(hv:PE X value tv)(hs:swapsWith value (some (.Attribute o f pos')) pos.line X.env=pure false):PS X (.Assign [.Attribute o f pos'] value pos) (sXf X.K ta tv f):=by intro pins s σ H D I h;refine plainObj_wpAny_Assign_Attribute (thn (hv pins s σ H _ I h) λu s1 ⟨y,H1,I1,ry,q⟩=>thn (ha pins s1 σ H1 _ I1 q) λov s2 ⟨x,H2,I2,rx,a,C,ex,ea,c,n,q2⟩=>?_) hs;subst ex;obtain rfl:ov=Value.ref a:=rx;obtain⟨⟨t,et⟩,_,_⟩:=(show ObjOk X.prog X.w H2 s2.heap a (EX C a none)from I2.hok a _ ea);have fr:H2 s2.heap.objs.size=none:=I2.hok.fresh (M0 _);refine AD I2.kIn c et rfl rfl rfl n λh' tk e1 e2 e3=>⟨σ,_,Hx (t:=t) I2 ea ry e1 e2 e3,q2 _ fr (Ne.symm (aN ea fr))⟩
end
def kH(C:Addr)(f:Str):Sp:=λvs H Q _=>∃(e:Addr) (v:V),vs=[.ref e,v]/\H e=some (EX C e none)/\∀dx,H dx=none->dx≠e->Q .non (upd (upd H dx (.xd [(f,v)])) e (EX C e (some dx)))
structure OwnX(x:Str)(C fI:Addr)(bmB:List Value)(newId:String)(mg:Str->Option Value)(h:Heap):Prop where
 bound:mg x=some (.ref C)
 obj:∃bm N nm q bs hdct sn sub ab col dd k0 k1 k2 k3 k5 mN,h.get? C=some (excClassObj nm q C N bs bm hdct sn sub ab col dd k0 k1 k2 k3 k5 newId)/\h.Ns N mN/\mN "__init__"=some (.ref fI)/\OwnTail h bmB bm
 fn:∃oI,h.get? fI=some oI/\oI.cls=.type "function"
def Bm(E:XK)(c:Value)(f:Str)(t:TA):TS:=λ_ σ H=>t σ H λvs H1=>∃v,vs=[v]/\∀dx,H1 dx=none->E c (some dx) (upd H1 dx (.xd [(f,v)]))
section
variable {X:Cx}{pins:List (Addr×Obj)}{σ:St}{H:Hp}{s:Shared}{a:Addr}{φ:Heap->Prop}
theorem Inv.untrack{H':Hp}{s':Shared}(I:Inv X pins σ H s)(e:H a=some (.ext φ))(J:Inv X pins σ H' s')(hn:H' a=none):Inv X pins σ (λb=>if b=a then none else H b) s:=by
 have other:∀b,b≠a->(if b=a then none else H b)=H b:=λb h1=>if_neg h1
 have na:∀b o,H b=some o->(∀φ,o≠.ext φ)->b≠a:=λb o q h1 z=>by rw[z,e]at q;exact h1 _ (Option.some.inj q).symm
 refine⟨I.ok,I.os,I.bare,⟨I.base.keep,I.base.slot,λb o q n hx=>?_,I.base.there,λb xs q=>?_,λb o u q=>?_,λb ps q=>?_⟩,I.loc,I.cell,?_,λx c q=>?_,λp hp=>?_,λb o q=>?_,I.len⟩
 ·show(if b=a then none else H b)=none;split
  ·rfl
  ·exact I.base.free b o q n hx
 ·have z:b≠a:=λz=>by have:=J.base.tups b xs q;rw[z,hn]at this;cases this
  rw[other b z];exact I.base.tups b xs q
 ·have z:b≠a:=λz=>by have:=J.base.frzs b o u q;rw[z,hn]at this;cases this
  rw[other b z];exact I.base.frzs b o u q
 ·have z:b≠a:=λz=>by obtain⟨m,this⟩:=J.base.tbls b ps q;rw[z,hn]at this;cases this
  rw[other b z];exact I.base.tbls b ps q
 ·show(if X.env.locals=a then none else H X.env.locals)=none;split
  ·rfl
  ·exact I.free
 ·show(if c=a then none else H c)=none;split
  ·rfl
  ·exact I.freeC x c q
 ·obtain⟨h1,h2,h3⟩:=I.pin p hp;refine⟨h1,?_,h3⟩;show(if p.1=a then none else H p.1)=none;split
  ·rfl
  ·exact h2
 ·have q':(if b=a then none else H b)=some o:=q;by_cases z:b=a
  ·rw[if_pos z]at q';cases q'
  ·rw[if_neg z]at q';refine(I.hok b o q').stay (λ_ _ _ r=>r) (λc r=>?_) λc xs r=>?_
   ·rw[other c (na c _ r λφ z=>by cases z)];exact r
   ·rw[other c (na c _ r λφ z=>by cases z)];exact r
end
section
variable {P:Program}{w:World}{K:PySem.W.Frag}{mg:Str->Option Value}{base:Heap}{N:List Str}{qual:Str}{scope:Scope}{f:Addr}{cd:Value}{A:Around}{outer:List Env}{s:Shared}{H:Hp}{E:XK}
theorem qY{x att:Str}{C fI:Addr}{bmB:List Value}{Bn newId initId:String}{np cpos pos:Pos}{e:Expr}{t:TA}{fd:FuncData}{ps:List Str}{k:Nat}(hg:Gl (bw (CXV P w) P w K mg base N qual scope f cd A outer s H E) x)(O:OwnX x C fI bmB newId mg base)(FB:ExcBaseFacts Bn newId initId bmB)
 (F:FnOk P w K mg base CX0 k fI fd ps (kH C att)) (hr:Room (k+1) (bw (CXV P w) P w K mg base N qual scope f cd A outer s H E).A) (hb:Binds K fd ps []) (hk:PySem.W.keepIn K (.ref C)=true) (ha:PA (bw (CXV P w) P w K mg base N qual scope f cd A outer s H E) [e] t)
 (hdb:(x == ("__debug__":Str))=false:=by decide) (he:starEach [e] (envOfC qual scope s.heap.objs.size f cd)=(false,eval e (envOfC qual scope s.heap.objs.size f cd))::starEach [] (envOfC qual scope s.heap.objs.size f cd):=by rfl) (hpl:(backTo cpos (starEach [] (envOfC qual scope s.heap.objs.size f cd))).any (·.1)=false:=by rfl) :
 PS (bw (CXV P w) P w K mg base N qual scope f cd A outer s H E) (.Raise (some (.Call (.Name x np) [e] [] cpos)) none pos) (Bm E (.ref C) att t):=by
 intro pins s1 σ H1 D I h;obtain⟨tl,NN,nm,q,bs,hdct,sn,sub,ab,col,dd,k0,k1,k2,k3,k5,mN,hC,hN,hi,T⟩:=O.obj;obtain⟨oI,hfI,hfc⟩:=O.fn;rw[arm_exec_Raise];refine wpAny_bind (wpAny_standAt ?_);refine Dh (C:=C) (nm:=nm) (q:=q) (N:=NN) (bs:=bs) (bm:=tl) (hdct:=hdct) (sn:=sn) (sub:=sub) (ab:=ab) (col:=col) (dd:=dd) (k0:=k0) (k1:=k1) (k2:=k2) (k3:=k3) (k5:=k5) (newId:=newId) (T.hasType FB.hasBase) (I.ok.hd rfl) ?_;refine wpAny_bind (wpAny_mono ?_ (λv s3 h3=>wpAny_bind (wpAny_standAt (wpAny_pure h3))) λ_ _ z=>z);refine wpAny_Call_Name_kw (eQ I hg O.bound ?_ hdb);refine PySem.W.callWith_K (h₀:=base) I.ok.mod.kin hk (thn (ha cpos pins s1 σ H1 _ I h) λus s2 ⟨vs,H2,I2,r,v,ev,q2⟩=>⟨I2.kIn,?_⟩) he hpl;subst ev;obtain⟨hh,g,d,tt,os⟩:=s2;have hlen:us.length<=sizeLine:=by rw[<- r.length];show 1<=sizeLine;decide
 show wpAny _ _ (call (.ref C) us) _ _ ⟨hh,g,d,tt,os⟩;refine AI FB (T.keeps I2.bk) (I2.bk _ _ hC) (hN.keeps I2.bk) hi (I2.bk _ _ hfI) hfc hlen ?_
 have ge:((hh.push { cls:=.type "tuple",data:=.seq us.toArray }).push (cr C hh.objs.size)).get? (hh.objs.size+1)=some (cr C hh.objs.size):=by
  have:=Heap.get?_push_size (hh.push { cls:=.type "tuple",data:=.seq us.toArray }) (o:=cr C hh.objs.size) rfl
  rwa [Heap.size_push]at this
 have I3:Inv (bw (CXV P w) P w K mg base N qual scope f cd A outer s H E) pins σ (upd H2 (hh.objs.size+1) (EX C (hh.objs.size+1) none)) ⟨(hh.push { cls:=.type "tuple",data:=.seq us.toArray }).push (cr C hh.objs.size),g,d,tt,os⟩ :=
  I2.laid (a:=hh.objs.size+1) (o:=EX C (hh.objs.size+1) none) (t':=tt) (λb u z=>Heap.get?_push_of_some _ (Heap.get?_push_of_some _ z)) (Nat.le_succ _) (zj (t:=hh.objs.size) ge)
 have fr:H2 (hh.objs.size+1)=none:=I2.hok.fresh (Nat.le_succ _);generalize hea:hh.objs.size+1=ea at ge I3 fr ⊢
 generalize (hh.push { cls:=.type "tuple",data:=.seq us.toArray }).push (cr C hh.objs.size)=h3 at ge I3 ⊢
 have sp0:kH C att [V.ref ea,v] (upd H2 ea (EX C ea none)) (λv' H'=>v'=.non/\∃dx,H2 dx=none/\dx≠ea/\H'=upd (upd (upd H2 ea (EX C ea none)) dx (.xd [(att,v)])) ea (EX C ea (some dx))) E0 :=
  ⟨ea,v,rfl,ao,λdx h1 h2=>⟨rfl,dx,by rwa [upd_ne h2]at h1,h2,rfl⟩⟩
 have r2:Vals [V.ref ea,v] (Value.ref ea::us):=.cons rfl r
 have hl:(Value.ref ea::us++[]).length=ps.length:=by have z:=r2.length;rw[F.len _ _ _ _ sp0]at z;rw[OD];exact z.symm
 have hbb:=hb _ (Value.ref ea::us) I3.kIn hl;rw[OD]at hbb;refine wpAny_call (codeAny_mono (F.run _ (bw (CXV P w) P w K mg base N qual scope f cd A outer s H E).stack _ _ ⟨Value.ref ea::us,[]⟩ (Value.ref ea::us) _ _ E0 (hr.make C us []) (I3.env0.make C us []) hbb r2 sp0) λr' s' hq'=>?_);cases r' with
 |error e'=>exact(show False from hq').elim
 |ok fl =>
  cases fl with
  |ret u =>
   obtain⟨v',H',I4,rv,ev,dx,hdx,hde,eH⟩:=I3.after hq';subst ev;subst eH;refine⟨rv,?_⟩;obtain⟨⟨t4,et4⟩,_,_⟩:=(show ObjOk P w _ s'.heap ea (EX C ea (some dx))from I4.hok ea _ ao)
   have sn':s.heap.get? ea=none:=by
    cases z:s.heap.get? ea with
    |none=>rfl
    |some o =>obtain⟨o',z'⟩:=I2.base.there ea o z (λz=>nomatch z);exact absurd (Heap.lt_size z') (by rw[<- hea];show ¬hh.objs.size+1<hh.objs.size;omega)
   have I5:=I4.untrack (a:=ea) ao I2 fr
   have eH5:(λb=>if b=ea then none else upd (upd (upd H2 ea (EX C ea none)) dx (.xd [(att,v)])) ea (EX C ea (some dx)) b)=upd H2 dx (.xd [(att,v)]):=funext λb=>by
    by_cases z:b=ea
    ·rw[if_pos z,z,upd_ne (Ne.symm hde),fr]
    ·rw[if_neg z,upd_ne z];by_cases z2:b=dx
     ·rw[z2,ao,ao]
     ·rw[upd_ne z2,upd_ne z,upd_ne z2]
   rw[eH5]at I5;refine⟨ea,t4,some dx,rfl,I5.bk _ _ hC,et4,?_⟩;exact AF I5 et4 rfl rfl rfl rfl (by rw[upd_ne (Ne.symm hde)];exact fr) sn' (q2 dx hdx)
  |next=>exact(show False from hq').elim
  |brk=>exact(show False from hq').elim
  |cont=>exact(show False from hq').elim
end
section
variable {P:Program}{w:World}{K:PySem.W.Frag}{mg:Str->Option Value}{base:Heap}
theorem Fun.okV{x qual:Str}{st:Stmt}{f:Addr}{fd:FuncData}{N ps:List Str}{k:Nat}{sp:Sp}(F:Fun K x qual st f fd)(S:FnScope N ps (ag st))(len:∀vs H Q E,sp vs H Q E->vs.length=ps.length)
 (hbody:∀(cdv:Value) (A:Around) (outer:List Env) (s:Shared) (H:Hp) (vs:List V) (Q:VK) (E:XK),Room k (A.deeper (envOfC qual (ag st) s.heap.objs.size f cdv))->sp vs H Q E ->
   ∃t,PSs (bw (CXV P w) P w K mg base N qual (ag st) f cdv A outer s H E) (ax st) t/\t { nx:=λ_ H'=>Q .non H',rt:=Q } (start N vs) H):FnOk P w K mg base (CXV P w) (k+1) f fd ps sp:=by
 obtain⟨oc,od,kV,doc,pm,an,cdv,ct,osl,rfl,lk,hcd⟩:=F.ex;exact o8 lk hcd S len λA outer s H vs Q E hr hsp=>hbody cdv A outer s H vs Q E hr hsp
theorem FunD.okV{x qual:Str}{st:Stmt}{dV:Value}{f:Addr}{fd:FuncData}{N ps:List Str}{k:Nat}{sp:Sp}(F:FunD K x qual st dV f fd)(S:FnScope N ps (ag st))(len:∀vs H Q E,sp vs H Q E->vs.length=ps.length)
 (hbody:∀(cdv:Value) (A:Around) (outer:List Env) (s:Shared) (H:Hp) (vs:List V) (Q:VK) (E:XK),Room k (A.deeper (envOfC qual (ag st) s.heap.objs.size f cdv))->sp vs H Q E ->
   ∃t,PSs (bw (CXV P w) P w K mg base N qual (ag st) f cdv A outer s H E) (ax st) t/\t { nx:=λ_ H'=>Q .non H',rt:=Q } (start N vs) H):FnOk P w K mg base (CXV P w) (k+1) f fd ps sp:=by
 obtain⟨oc,od,kV,doc,pm,an,cdv,ct,osl,rfl,lk,hcd⟩:=F.ex;exact o8 lk hcd S len λA outer s H vs Q E hr hsp=>hbody cdv A outer s H vs Q E hr hsp
end
section
variable {P:Program}{w:World}{K:PySem.W.Frag}{mg:Str->Option Value}{base:Heap}{N:List Str}{qual:Str}{scope:Scope}{f:Addr}{cd:Value}{A:Around}{outer:List Env}{s:Shared}{H:Hp}{E:XK}
end
def PXV(X:Cx)(x:Expr)(tx:XK->TE):Prop:=∀(W:Value->Shared->Prop) (pins:List (Addr×Obj)) (σ:St) (s:Shared) (H:Hp) (Q:VK) (E:XK),Ar (CXV X.prog X.w) (X.wish W) pins σ E->Inv (X.wish W) pins σ H s->tx E σ H Q ->
 wpAny (model X.prog X.w) X.A (eval x X.env) (EP (X.wish W) pins σ Q) W s
def pK(K:PySem.W.Frag)(R:Addr)(i:Nat)(th:Addr->Obj->TS)(D:Ends)(σ:St):XK:=λcls d H'=>PySem.W.exmOne K cls (.ref R)=some true /\
 ∀ea oe vs,oe.cls=cls->oe.dict=d->oe.data=.fields vs->H' ea=none->th ea oe { nx:=λσ'' H''=>D.nx (σ''.set i none) H'',rt:=λ_ _=>False,bk:=λ_ _=>False,ct:=λ_ _=>False } (σ.set i (some (.ref ea))) H'
def AA(K:PySem.W.Frag)(R:Addr)(i:Nat)(th:Addr->Obj->TS)(R2:Addr)(i2:Nat)(th2:Addr->Obj->TS)(D:Ends)(σ:St):XK:=λcls d H'=>pK K R i th D σ cls d H'\/(PySem.W.exmOne K cls (.ref R)=some false/\pK K R2 i2 th2 D σ cls d H')
def Bl(K:PySem.W.Frag)(tx:XK->TE)(R:Addr)(i:Nat)(th:Addr->Obj->TS):TS:=λD σ H=>tx (pK K R i th D σ) σ H λ_ H'=>D.nx σ H'
def Bk(K:PySem.W.Frag)(tx:XK->TE)(R:Addr)(i:Nat)(th:Addr->Obj->TS)(R2:Addr)(i2:Nat)(th2:Addr->Obj->TS):TS:=λD σ H=>tx (AA K R i th R2 i2 th2 D σ) σ H λ_ H'=>D.nx σ H'
section
variable {X:Cx}{k:Nat}{f R R2:Addr}{fd:FuncData}{ps:List Str}{sp:Sp}{dvs:List V}{ds:List Value}{r r2 n n2 x:Str}{p pos epos np hpos np2 hpos2:Pos}{e ex:Expr}{es:List Expr}{t:TA}{i i2:Nat}{b₀ b₂:Stmt}{suite suite2:List Stmt}{th th2:Addr->Obj->TS}{tx:XK->TE}
theorem wQ(F:FnOk X.prog X.w X.K X.mg X.base (CXV X.prog X.w) k f fd ps sp)(hr:Room k X.A)(hg:∀W,Gl (X.wish W) x)(hm:X.mg x=some (.ref f))(hk:PySem.W.keepIn X.K (.ref f)=true)(hb:Binds X.K fd ps ds)(hd:Vals dvs ds)
 (ha:∀W,PA (X.wish W) (e::es) t) (hdb:(x == ("__debug__":Str))=false:=by decide) (he:starEach (e::es) X.env=(false,eval e X.env)::starEach es X.env:=by rfl) (hpl:(backTo pos (starEach es X.env)).any (·.1)=false:=by rfl) :
 PXV X (.Call (.Name x p) (e::es) [] pos) (λE=>vH sp dvs E t):=by
 intro W pins σ s H Q E hx I h;refine wpAny_Call_Name_kw (eQ (X:=X.wish W) I (hg W) hm ?_ hdb);refine PySem.W.callWith_K (h₀:=X.base) I.ok.mod.kin hk (thn (ha W pos pins s σ H _ I h) λus s1 ⟨vs,H1,I1,r,q⟩=>⟨I1.kIn,?_⟩) he hpl;exact CJ (X:=X.wish W) F hr hb hd hx I1 r q
theorem zT{L:Addr}{pins:List (Addr×Obj)}{σ:St}{H1 H2:Hp}{s1 s2:Shared}{B:Heap}{ea:Addr}{cls a0:Value}{d:Option Addr}{hs:List ExceptHandler}{Q:Flow->Shared->Prop}(hstk:X.stack=X.env::X.outer)(hfr:X.env.frame=some L)(I1:Inv X pins σ H1 s1)(os:s2.os=s1.os)(bare:AllBare s2.gens)(un:Un (frs X.stack) [] H1 H2 s1.heap s2.heap)(hok:HOk X.prog X.w H2 s2.heap)(fl:Heap.FlyingW B X.stack ea cls a0 s2.heap)
 (b1:∀b o,s1.heap.get? b=some o->b∉frs X.stack->∃o',s2.heap.get? b=some o'/\B.get? b=some o') (b2:∀b x,H2 b=some x->∃o',s2.heap.get? b=some o'/\B.get? b=some o') (hea:H2 ea=none) (hnew:s1.heap.get? ea=none) (hd:∃ob,s2.heap.get? ea=some ob/\ob.dict=d)
 (k:∀h4 oe vs,Heap.FlyingW B (X.env::X.outer) ea cls a0 h4->oe.cls=cls->oe.dict=d->oe.data=.fields vs->Inv (cxH X ea oe) pins σ H2 { s2 with heap:=h4 }->(∀h5,B.StaysIn h5->h4.UpToSlots h5->Inv X pins σ H2 { s2 with heap:=h5 })->wpAny (model X.prog X.w) X.A (handleBy (.ref ea) X.env hs) Q X.xe { s2 with heap:=h4 }) :
 wpAny (model X.prog X.w) X.A (noteFrame (.ref ea) X.env) (λ_ s₂=>wpAny (model X.prog X.w) X.A (setFlight (.ref ea) none) (λ_ s₃=>wpAny (model X.prog X.w) X.A (handleBy (.ref ea) X.env hs) Q X.xe s₃) X.xe s₂) X.xe s2:=by
 obtain⟨ob,eob,dob⟩:=hd;have fl0:Heap.FlyingW B (X.env::X.outer) ea cls a0 s2.heap:=by rw[<- hstk];exact fl
 refine wpAny_mono (kA (E':=λ_ _=>False) (xV _ _) (wpAny_looks_onW (E:=λ_ _=>False) (L:=L) (Q:=λ_ s'=>∃h3,s'={ s2 with heap:=h3 }/\Heap.HeldW B (X.env::X.outer) ea cls a0 L h3/\s2.heap.UpToSlots h3) (by rw[I1.ok.frames,hstk]) hfr fl0 λh3 hd3 up3=>⟨h3,rfl,hd3,up3⟩)) (λ_ s' hq=>?_) λ_ _ z=>z.elim
 obtain⟨⟨h3,rfl,hd3,up3⟩,kd3⟩:=hq;obtain⟨o3,e3,d3⟩:=kd3 ea ob eob;refine wpAny_mono (kA (E':=λ_ _=>False) (rK _ _) (wpAny_landsW (E:=λ_ _=>False) (Q:=λ_ s'=>∃h4,s'={ s2 with heap:=h4 }/\Heap.FlyingW B (X.env::X.outer) ea cls a0 h4/\h3.UpToSlots h4) hd3 λh4 fl4 up4=>⟨h4,rfl,fl4,up4⟩)) (λ_ s' hq=>?_) λ_ _ z=>z.elim
 obtain⟨⟨h4,rfl,fl4,up4⟩,kd4⟩:=hq;obtain⟨o4,e4,d4⟩:=kd4 ea o3 e3;have up04:=up3.trans up4;have J4:Inv X pins σ H2 { s2 with heap:=h4 }:=zV I1 os bare un hok fl b1 b2 fl4.1 up04
 have neL:ea≠X.env.locals:=λz=>by obtain⟨mm,hn',_⟩:=I1.loc;obtain⟨oL,_,_,hoL,_⟩:=hn';rw[<- z,hnew]at hoL;cases hoL
 have neF:ea∉X.fs:=λz=>by obtain⟨_,o',e',_⟩:=I1.funs.mem z;rw[hnew]at e';cases e'
 obtain⟨oe4,vs4,ge4,ce4,de4,_⟩:=fl4.first;have e4':h4.get? ea=some o4:=e4;have eo:oe4=o4:=Option.some.inj (ge4.symm.trans e4');exact k h4 oe4 vs4 fl4 ce4 (by rw[eo];exact(d4.trans d3).trans dob) de4 (J4.held ge4 hea neL neF (λv z=>by rw[de4]at z;cases z)) λh5 st up5=>zV I1 os bare un hok fl b1 b2 st (up04.trans up5)
theorem pQ{pins:List (Addr×Obj)}{σ:St}{H2:Hp}{s2:Shared}{D:Ends}{B h4:Heap}{ea:Addr}{cls a0:Value}{d:Option Addr}{oe4:Obj}(hok0:X.Ok)(fl4:Heap.FlyingW B (X.env::X.outer) ea cls a0 h4)(hc4:h4.get? ea=some oe4)(hd4:oe4.dict=d)(J:∀h5,B.StaysIn h5->h4.UpToSlots h5->Inv X pins σ H2 { s2 with heap:=h5 })
 (hea:H2 ea=none) (neL:ea≠X.env.locals) (neF:ea∉X.fs) (hN:X.N.Nodup) (hi:X.N[i]?=some n) (hk:X.env.scope.names.lookup n=some .local) (hsu:∀ea oe,PSs (cxH X ea oe) (b₀::suite) (th ea oe))
 (hth:∀ea oe vs,oe.cls=cls->oe.dict=d->oe.data=.fields vs->H2 ea=none->th ea oe { nx:=λσ'' H''=>D.nx (σ''.set i none) H'',rt:=λ_ _=>False,bk:=λ_ _=>False,ct:=λ_ _=>False } (σ.set i (some (.ref ea))) H2) :
 wpAny (model X.prog X.w) (X.A.mark (some (.ref ea))) (setFlight (.ref ea) none) (λ_ s5=>∃oe5,Inv (cxH X ea oe5) pins σ H2 s5/\th ea oe5 { nx:=λσ'' H''=>D.nx (σ''.set i none) H'',rt:=λ_ _=>False,bk:=λ_ _=>False,ct:=λ_ _=>False } (σ.set i (some (.ref ea))) H2) (λ_ _=>False) { s2 with heap:=h4 }:=by
 refine wpAny_mono (kA (E':=λ_ _=>False) (rK _ _) (lands_againW (s:={ s2 with heap:=h4 }) (E:=λ_ _=>False) (Q:=λ_ s'=>∃h5,s'={ s2 with heap:=h5 }/\Heap.FlyingW B (X.env::X.outer) ea cls a0 h5/\h4.UpToSlots h5) fl4 λh5 fl5 up5=>⟨h5,rfl,fl5,up5⟩)) (λ_ s' hq=>?_) λ_ _ z=>z.elim
 obtain⟨⟨h5,rfl,fl5,up5⟩,kd5⟩:=hq;obtain⟨o5,e5,d5⟩:=kd5 ea oe4 hc4;obtain⟨oe5,vs5,ge5,ce5,de5,_⟩:=fl5.first;have e5':h5.get? ea=some o5:=e5;have eo:oe5=o5:=Option.some.inj (ge5.symm.trans e5');exact⟨oe5,(J h5 fl5.1 up5).held ge5 hea neL neF (λv z=>by rw[de5]at z;cases z),hth ea oe5 vs5 ce5 (by rw[eo];exact d5.trans hd4) de5 hea⟩
theorem pR{pins:List (Addr×Obj)}{H2:Hp}{s5:Shared}{σ:St}{D:Ends}{ea:Addr}{oe5:Obj}(ok:X.Ok)(hN:X.N.Nodup)(hi:X.N[i]?=some n)(hk:X.env.scope.names.lookup n=some .local)(hsu:∀ea oe,PSs (cxH X ea oe) (b₀::suite) (th ea oe))(I5:Inv (cxH X ea oe5) pins σ H2 s5)
 (ht:th ea oe5 { nx:=λσ'' H''=>D.nx (σ''.set i none) H'',rt:=λ_ _=>False,bk:=λ_ _=>False,ct:=λ_ _=>False } (σ.set i (some (.ref ea))) H2) {Q:Flow->Shared->Prop} {E:Value->Shared->Prop}
 (k:∀s7,(∃σ' H',Inv X pins σ' H' s7/\D.nx (σ'.set i none) H')->Q .next s7) (s6:Shared) (I6:Inv (cxH X ea oe5) pins (σ.set i (some (.ref ea))) H2 s6):wpAny (model X.prog X.w) (X.A.mark (some (.ref ea))) (execs (b₀::suite) X.env) Q E s6:=by
 refine wpAny_mono (hsu ea oe5 pins s6 _ H2 _ I6 ht) (λfw s7 hs7=>?_) λ_ _ z=>z.elim
 cases fw with
 |next =>obtain⟨σ',H',I7,q7⟩:=hs7;exact k s7 ⟨σ',H',Inv.unheld ok I7,q7⟩
 |ret u=>obtain⟨_,_,_,_,_,z⟩:=hs7;exact z.elim
 |brk=>obtain⟨_,_,_,z⟩:=hs7;exact z.elim
 |cont=>obtain⟨_,_,_,z⟩:=hs7;exact z.elim
theorem Dt{L:Addr}(hstk:X.stack=X.env::X.outer)(hfr:X.env.frame=some L)(hx:PXV X ex tx)
 (hg:∀ea oe,Gl (cxH X ea oe) r) (hR:X.mg r=some (.ref R)) (hN:X.N.Nodup) (hi:X.N[i]?=some n) (hk:X.env.scope.names.lookup n=some .local) (hsu:∀ea oe,PSs (cxH X ea oe) (b₀::suite) (th ea oe))
 (hsw:swapsWith ex none epos.line X.env=pure false:=by rfl) (hdb:(r == ("__debug__":Str))=false:=by decide) :
 PS X (.Try [.Expr ex epos] [.ExceptHandler (some (.Name r np)) (some n) (b₀::suite) hpos] [] [] pos) (Bl X.K tx R i th):=by
 intro pins s σ H D I h;refine wpAny_Try_except ?_;generalize hW:(λe s₁=>wpAny (model X.prog X.w) X.A (noteFrame e X.env) (λ_ s₂=>wpAny (model X.prog X.w) X.A (setFlight e none) (λ_ s₃=>wpAny (model X.prog X.w) X.A (handleBy e X.env [.ExceptHandler (some (.Name r np)) (some n) (b₀::suite) hpos]) (SP X pins D) X.xe s₃) X.xe s₂) X.xe s₁:Value->Shared->Prop)=W;refine wpAny_execs_cons ?_;refine wpAny_Expr_any (wpAny_mono (hx W pins σ s H (λ_ H'=>D.nx σ H') (pK X.K R i th D σ) ?_ (I.wish W) h) (λv s1 hv=>?_) λ_ _ x=>x) I.quiet hsw
 rotate_left
 ·obtain⟨x,H1,I1,r1,q1⟩:=hv;exact wpAny_execs_nil (wpAny_execs_nil ⟨σ,H1,I1.unwish,q1⟩)
 intro H1 s1 ev s2 I1w hcx;have I1:=I1w.unwish;obtain⟨d,⟨ea,cls,a0,B,H2,rfl,os,bare,un,hok,fl,b1,b2,hea,hnew,hhit,hth⟩,ea',ob,eea,eob,dob⟩:=hcx;cases eea;show W (.ref ea) s2;rw[<- hW];refine zT hstk hfr I1 os bare un hok fl b1 b2 hea hnew ⟨ob,eob,dob⟩ λh4 oe4 vs4 fl4 ce4 dd4 de4 K4 J=>?_
 have ge4:h4.get? ea=some oe4:=oZ K4;have pe:=K4.pin (ea,oe4) (Na ..);have LT:PySem.W.Looks (model X.prog X.w) h4 (typeOf (.ref ea)) cls:=by rw[<- ce4];exact(PySem.W.Looks.ld ge4).andThen .now
 refine wpAny_handleBy_cons (codeAny_handlers_test (eQ K4 (hg ea oe4) hR ((PySem.W.exm_one K4.kIn LT hhit).here ?_) hdb)) (λz=>nomatch z);show codeAny _ _ _ _ _;refine codeAny_handlers_suite_as (wpAny_mono (pQ I.ok fl4 ge4 dd4 J hea pe.2.2.1 pe.2.2.2.1 hN hi hk hsu hth) (λ_ s5 ⟨oe5,K5,ht⟩=>?_) λ_ _ z=>z.elim);refine kE (X:=cxH X ea oe5) (v:=.ref ea) K5 hN hi (.inl hk) rfl (λs6 I6=>?_) (.inr hk);refine pR I.ok hN hi hk hsu K5 ht (λs7 ⟨σ',H',I7,q7⟩=>?_) s6 I6;show wpAny _ _ _ _ _ _;exact sC I7 hN hi hk λs8 I8=>⟨_,H',I8,q7⟩
theorem Ds{L:Addr}(hstk:X.stack=X.env::X.outer)(hfr:X.env.frame=some L)(hx:PXV X ex tx)
 (hg:∀ea oe,Gl (cxH X ea oe) r) (hR:X.mg r=some (.ref R)) (hg2:∀ea oe,Gl (cxH X ea oe) r2) (hR2:X.mg r2=some (.ref R2)) (hN:X.N.Nodup) (hi:X.N[i]?=some n) (hk:X.env.scope.names.lookup n=some .local) (hsu:∀ea oe,PSs (cxH X ea oe) (b₀::suite) (th ea oe)) (hi2:X.N[i2]?=some n2) (hk2:X.env.scope.names.lookup n2=some .local) (hsu2:∀ea oe,PSs (cxH X ea oe) (b₂::suite2) (th2 ea oe))
 (hsw:swapsWith ex none epos.line X.env=pure false:=by rfl) (hdb:(r == ("__debug__":Str))=false:=by decide) (hdb2:(r2 == ("__debug__":Str))=false:=by decide) :
 PS X (.Try [.Expr ex epos] [.ExceptHandler (some (.Name r np)) (some n) (b₀::suite) hpos,.ExceptHandler (some (.Name r2 np2)) (some n2) (b₂::suite2) hpos2] [] [] pos) (Bk X.K tx R i th R2 i2 th2):=by
 intro pins s σ H D I h;refine wpAny_Try_except ?_;generalize hW:(λe s₁=>wpAny (model X.prog X.w) X.A (noteFrame e X.env) (λ_ s₂=>wpAny (model X.prog X.w) X.A (setFlight e none) (λ_ s₃=>wpAny (model X.prog X.w) X.A (handleBy e X.env [.ExceptHandler (some (.Name r np)) (some n) (b₀::suite) hpos,.ExceptHandler (some (.Name r2 np2)) (some n2) (b₂::suite2) hpos2]) (SP X pins D) X.xe s₃) X.xe s₂) X.xe s₁:Value->Shared->Prop)=W;refine wpAny_execs_cons ?_;refine wpAny_Expr_any (wpAny_mono (hx W pins σ s H (λ_ H'=>D.nx σ H') (AA X.K R i th R2 i2 th2 D σ) ?_ (I.wish W) h) (λv s1 hv=>?_) λ_ _ x=>x) I.quiet hsw
 rotate_left
 ·obtain⟨x,H1,I1,r1,q1⟩:=hv;exact wpAny_execs_nil (wpAny_execs_nil ⟨σ,H1,I1.unwish,q1⟩)
 intro H1 s1 ev s2 I1w hcx;have I1:=I1w.unwish;obtain⟨d,⟨ea,cls,a0,B,H2,rfl,os,bare,un,hok,fl,b1,b2,hea,hnew,hE⟩,ea',ob,eea,eob,dob⟩:=hcx;cases eea;show W (.ref ea) s2;rw[<- hW];refine zT hstk hfr I1 os bare un hok fl b1 b2 hea hnew ⟨ob,eob,dob⟩ λh4 oe4 vs4 fl4 ce4 dd4 de4 K4 J=>?_
 have ge4:h4.get? ea=some oe4:=oZ K4;have pe:=K4.pin (ea,oe4) (Na ..);have LT:PySem.W.Looks (model X.prog X.w) h4 (typeOf (.ref ea)) cls:=by rw[<- ce4];exact(PySem.W.Looks.ld ge4).andThen .now
 rcases hE with⟨hhit,hth⟩ |⟨hmiss,hhit,hth⟩
 ·refine wpAny_handleBy_cons (codeAny_handlers_test (eQ K4 (hg ea oe4) hR ((PySem.W.exm_one K4.kIn LT hhit).here ?_) hdb)) (λz=>nomatch z);show codeAny _ _ _ _ _;refine codeAny_handlers_suite_as (wpAny_mono (pQ I.ok fl4 ge4 dd4 J hea pe.2.2.1 pe.2.2.2.1 hN hi hk hsu hth) (λ_ s5 ⟨oe5,K5,ht⟩=>?_) λ_ _ z=>z.elim);refine kE (X:=cxH X ea oe5) (v:=.ref ea) K5 hN hi (.inl hk) rfl (λs6 I6=>?_) (.inr hk);refine pR I.ok hN hi hk hsu K5 ht (λs7 ⟨σ',H',I7,q7⟩=>?_) s6 I6;show wpAny _ _ _ _ _ _;exact sC I7 hN hi hk λs8 I8=>⟨_,H',I8,q7⟩
 ·refine wpAny_handleBy_cons (codeAny_handlers_test (eQ K4 (hg ea oe4) hR ((PySem.W.exm_one K4.kIn LT hmiss).here ?_) hdb)) (λz=>nomatch z);show wpAny _ _ _ _ _ _;refine wpAny_handleBy_cons (codeAny_handlers_test (eQ K4 (hg2 ea oe4) hR2 ((PySem.W.exm_one K4.kIn LT hhit).here ?_) hdb2)) (λz=>nomatch z);show codeAny _ _ _ _ _;refine codeAny_handlers_suite_as (wpAny_mono (pQ I.ok fl4 ge4 dd4 J hea pe.2.2.1 pe.2.2.2.1 hN hi2 hk2 hsu2 hth) (λ_ s5 ⟨oe5,K5,ht⟩=>?_) λ_ _ z=>z.elim);refine kE (X:=cxH X ea oe5) (v:=.ref ea) K5 hN hi2 (.inl hk2) rfl (λs6 I6=>?_) (.inr hk2);refine pR I.ok hN hi2 hk2 hsu2 K5 ht (λs7 ⟨σ',H',I7,q7⟩=>?_) s6 I6;show wpAny _ _ _ _ _ _;exact sC I7 hN hi2 hk2 λs8 I8=>⟨_,H',I8,q7⟩
end
def Bh(K:PySem.W.Frag)(ea:Addr)(oe:Obj)(ta:TE)(f:Str):TE:=λσ H Q=>ta σ H λx H1=>∃(D dx:Addr) (vs:Array Value) (fs:List (Str×V)) (v:V),x=.ref ea/\oe.cls=.ref D/\oe.dict=some dx/\oe.data=.fields vs/\XCls K D/\ECls K D/\NoAttr K D f/\H1 dx=some (.xd fs)/\fs.lookup f=some v/\Q v H1
theorem xi{X:Cx}{ea:Addr}{oe:Obj}{e:Expr}{f:Str}{pos:Pos}{ta:TE}(he:PE (cxH X ea oe) e ta)(hb:attributeBase e f X.env (eval e X.env)=eval e X.env):PE (cxH X ea oe) (.Attribute e f pos) (Bh X.K ea oe ta f):=by intro pins s σ H Q I h;refine Ai hb (thn (he pins s σ H _ I h) λu s1 ⟨x,H1,I1,rx,D,dx,vs,fs,v,ex,hc,hd,hf,T,Te,n,hx,l,q⟩=>?_);subst ex;obtain rfl:u=Value.ref ea:=rx;obtain⟨mA,hns,hr⟩:=(show ObjOk X.prog X.w H1 s1.heap dx (.xd fs)from I1.hok dx _ hx);obtain⟨u',hu,ru⟩:=RelO.some_of (v:=v) (o:=mA f) (by rw[<- l];exact hr f);exact AE I1.kIn T Te (oZ I1) hc hd hf n hns hu (yO ru) ⟨v,H1,I1.tok _,ru,q⟩
noncomputable def pd(K:PySem.W.Frag)(C fI:Addr)(bmB:List Value)(newId:String):Bool:=match K.lookup C with
 |some ⟨.type "type",_,.cls cd,sl⟩=>(match cd.mro,sl.toList with
  |.ref C'::bm,[_,_,_,_,some (.builtin n),_]=>C' == C&&n == newId&&!cd.hasDel&&PySem.W.tailIn K bmB bm&&PySem.W.nsOkIn K cd.ns&&PySem.W.nsIn K cd.ns "__init__" == some (some (.ref fI))&&PySem.W.typeIn K (.ref fI) == some (.type "function")
  |_,_=>false)
 |_=>false
theorem Fq{K:PySem.W.Frag}{h:Heap}{N:Addr}{mN:Str->Option Value}{x:Str}{v:Value}(X:K.In h)(G:h.Ns N mN)(e:PySem.W.nsIn K N x=some (some v)):mN x=some v:=by
 obtain⟨ob,es,ep,hob,hdat,_,hfind⟩:=G;unfold PySem.W.nsIn at e
 cases hl:K.lookup N with
 |none=>rw[hl]at e;cases e
 |some oo =>
  obtain rfl:ob=oo:=Option.some.inj (hob.symm.trans (X _ _ hl));obtain⟨c1,c2,c3,c4⟩:=ob;have hdat':c3=.dict es ep:=hdat;subst hdat';rw[hl]at e;dsimp only at e
  have hf:=hfind x;unfold nsFind findBy at hf
  rw[<- Array.find?_toList]at hf;cases hq:es.toList.find? (·.key.isStr x)with
  |none =>
   rw[hq]at e;dsimp only at e
   split at e<;>cases e
  |some en =>rw[hq]at e hf;rw[<- hf];exact Option.some.inj e
theorem xl{K:PySem.W.Frag}{h₀:Heap}{mg:Str->Option Value}{x:Str}{C fI:Addr}{bmB:List Value}{newId:String}(X:K.In h₀)(G:h₀.Ns mainGlobals mg)(e:PySem.W.nsIn K mainGlobals x=some (some (.ref C)))(q:pd K C fI bmB newId=true):OwnX x C fI bmB newId mg h₀:=by
 unfold pd at q
 split at q
 ·rename_i dd cd sl ho
  split at q
  ·rename_i C' bm k0 k1 k2 k3 n k5 hm hs
   simp only[OE,beq_iff_eq,Bool.not_eq_true']at q;obtain⟨⟨⟨⟨⟨⟨rfl,rfl⟩,hdel⟩,ht⟩,hok⟩,hni⟩,hfn⟩:=q;obtain⟨nm,bs,mro,ns,qn,hd,sn,sub,ab,col,del⟩:=cd;dsimp only at hm hdel hok hni
   subst hm hdel
   have hsl:sl=#[k0,k1,k2,k3,some (.builtin n),k5]:=by
    obtain⟨l⟩:=sl;simp only at hs
    rw[hs]
   subst hsl;refine⟨PySem.W.mg_of X G e,⟨bm,ns,nm,qn,bs,hd,sn,sub,ab,col,dd,k0,k1,k2,k3,k5,_,X _ _ ho,.of_isNs (PySem.W.isNs_of_in X hok),Fq X (.of_isNs (PySem.W.isNs_of_in X hok)) hni,PySem.W.tail_of_in X ht⟩,?_⟩;obtain⟨oI,h1,h2⟩:=Option.map_eq_some_iff.mp (show(K.lookup fI).map (·.cls)=some (.type "function")from hfn);exact⟨oI,X _ _ h1,h2⟩
  ·cases q
 ·cases q
structure CalV(P:Program)(w:World)(K:PySem.W.Frag)(mg:Str->Option Value)(base:Heap)(k:Nat)(x:Str)(ps:List Str)(sp:Sp)(f:Addr)(fd:FuncData):Prop where
 ok:FnOk P w K mg base (CXV P w) k f fd ps sp
 mg:mg x=some (.ref f)
 kp:PySem.W.keepIn K (.ref f)=true
 bd:Binds K fd ps []
structure XCal(P:Program)(w:World)(K:PySem.W.Frag)(mg:Str->Option Value)(base:Heap)(k:Nat)(C:Addr)(x att:Str)(ps:List Str)(f:Addr)(fd:FuncData):Prop where
 ok:FnOk P w K mg base CX0 k f fd ps (kH C att)
 ow:OwnX x C f iw "ValueError.__new__" mg base
 kp:PySem.W.keepIn K (.ref C)=true
 bd:Binds K fd ps []
 xc:XCls K C
 ec:ECls K C
 na:NoAttr K C att
section
variable {X:Cx}{K:PySem.W.Frag}
theorem JV(b:Bool):MeetsSeq.EqGives (.bool b) (.bool b) true:=λprog w A E s Q h=>by unfold eqBool;show wpAny _ _ (if(Value.bool b == Value.bool b)=true then _ else _) Q E s;rw[if_pos (beq_self_eq_true _)];exact wpAny_bind (wpAny_rule (wpAny_pure h))
theorem uk:∀{bs:List Bool} {us:List Value},Vals (bs.map V.bl) us->us=bs.map Value.bool
 | [],_,.nil=>rfl
 |b::bs,_,.cons h t=>by cases h;rw[uk t];rfl
end
section
variable {prog:Program}{w:World}{A:Around}{E:Value->Shared->Prop}{s:Shared}
theorem yo{l b:Addr}{items:Array Value}{h h':Heap}(x:h.IsList l items)(e:Heap.ExtBut b h h')(n:l≠b):h'.IsList l items:=by obtain⟨o,ho,r⟩:=x;exact⟨o,e l o n ho,r⟩
theorem zt{it t:Addr}{items:Array Value}(hne:t≠it):∀(n i:Nat) (s:Shared) (Q:List Value->Shared->Prop),s.heap.IsListIter it t i->s.heap.IsList t items->i+n<=items.size ->
 (∀h',h'.IsListIter it t (i+n)->Heap.SameBut it s.heap h'->Q ((items.toList.drop i).take n) { s with heap:=h' })->wpAny (model prog w) A (draw (.ref it) n) Q E s
 |0,i,s,Q,hit,_,_,hQ=>by show wpAny _ _ (pure []) Q E s;exact wpAny_pure (by simpa using hQ s.heap hit (Heap.SameBut.refl ..))
 |n+1,i,s,Q,hit,ht,hle,hQ=>by
  have hlt:i<items.size:=by omega
  show wpAny _ _ (pyNext (.ref it) >>= _) Q E s;refine wpAny_bind (wpAny_pyNext_list_item hit ht (x:=items[i]) (by simp[hlt]) λh₁ hit₁ hs₁=>?_);refine wpAny_bind (wpAny_holding (zt hne n (i+1) _ _ hit₁ (yo ht hs₁.extBut hne) (by omega) λh₂ hit₂ hs₂=>wpAny_pure ?_));have hd:items.toList.drop i=items[i]::items.toList.drop (i+1):=by simp[O6,hlt]
  have:=hQ h₂ (by rw[show i+(n+1)=i+1+n by omega];exact hit₂) (hs₁.trans hs₂);rw[hd,List.take_succ_cons]at this;exact this
theorem AS{t:Addr}{items:Array Value}{Q:List Value->Shared->Prop}(hh:A.handled=none)(ht:s.heap.IsList t items)
 (hQ:∀h',Heap.ExtBut s.heap.objs.size s.heap h'->Q items.toList { s with heap:=h' }):wpAny (model prog w) A (unpackItems (.ref t) items.size none) Q E s:=by
 have hlt:t≠s.heap.objs.size:=by obtain⟨o,ho,_⟩:=ht;exact Ng (Heap.lt_size ho)
 have htp:∀o,(s.heap.push o).IsList t items:=λo=>by obtain⟨o',ho,r⟩:=ht;exact⟨o',Heap.get?_push_of_some _ ho,r⟩
 unfold unpackItems;refine wpAny_bind ?_
 ·unfold notIterableAtAll;refine wpAny_bind (wpAny_specialOf ht.typeIs slot_list_iter.lookup ?_);refine wpAny_pure ?_;simp only[O3,if_false];refine wpAny_bind (wpAny_holding (wpAny_pyIter_list ht ?_));refine wpAny_bind (wpAny_holding (zt hlt items.size 0 _ _ ⟨_,Heap.get?_push_size _ rfl,rfl,rfl⟩ (htp _) (by omega) λh₁ hit₁ hs₁=>?_))
  have hall:List.take items.size (List.drop 0 items.toList)=items.toList:=by rw[Os];exact List.take_of_length_le (by simp)
  rw[hall];rw[if_neg (by simp)];have ht₁:h₁.IsList t items:=yo (htp _) hs₁.extBut hlt;refine wpAny_bind (wpAny_holding (wpAny_pyNext_list_end hh hit₁ ht₁ (by simp) λh₂ he₂=>?_));simp only[Option.isSome_none,O3,if_false];refine wpAny_pure (hQ h₂ λb o hb e=>he₂ b o hb (hs₁.extBut b o hb (Heap.get?_push_of_some _ e)))
theorem Lh{env:Env}{elts:List Expr}{x1}{pos:Pos}{t:Addr}{items:Array Value}{Q:Unit->Shared->Prop}(hh:A.handled=none)(ht:s.heap.IsList t items)
 (hn:(assignEach elts env).length=items.size) (hstar:(assignEach elts env).findIdx? (·.1)=none)
 (h:∀h',Heap.ExtBut s.heap.objs.size s.heap h'->wpAny (model prog w) A (assignInOrder ((assignEach elts env).map (·.2)) items.toList) Q E { s with heap:=h' }) :
 wpAny (model prog w) A (assign (.Tuple elts x1 pos) env (.ref t)) Q E s:=by
 rw[assign_Tuple];refine wpAny_bind (wpAny_standAt ?_);unfold unpack;rw[hn,hstar];exact wpAny_bind (wpAny_holding (AS hh ht h))
end
section
variable {X:Cx}{K:PySem.W.Frag}{pos:Pos}
def Ic(K:PySem.W.Frag)(n:Nat)(t:TGs):TG:=λv σ H Q=>∃a xs,v=.ref a/\SqL K H a xs/\xs.length=n/\t xs σ H Q
theorem DK{es:List Expr}{k:Nat}{t:TGs}{n:Nat}(hc:X.calm=true)(h:PGs X es t)
 (hn:(assignEach es X.env).length=n:=by rfl) (hst:(assignEach es X.env).findIdx? (·.1)=none:=by rfl):PG X (.Tuple es k pos) (Ic X.K n t):=by
 intro pins s σ H v u Q I r hw;obtain⟨a,xs,e1,hq,hl,hw⟩:=hw;subst e1;cases r;obtain⟨its,rv,ht,hz⟩:=I.list hq;refine Lh (I.ok.hd hc) ht.isList (by simp[hn,<- hl,rv.length]) hst λh' hx=>?_
 have I1:Inv X pins σ H { s with heap:=h' }:=I.kept (t':=s.toks) λb o e=>hx b o (Ng (Heap.lt_size e)) e
 exact h pins _ σ H xs _ Q I1 (by simpa using rv) hw
def wK(K:PySem.W.Frag):R2:=λx y H Q=>∃(a b:Addr) (xs:List V),x=.ref a/\y=.ref b/\SqL K H a xs/\SqL K H b []/\Q (.bl (!decide (xs=[]))) H
theorem DY(hu:X.A.units+66<cLine):OpR X (compareOp .NotEq) (wK X.K):=by
 intro pins s σ H x y v u Q I rx ry h;obtain⟨a,b,xs,rfl,rfl,ha,hb,q⟩:=h;cases rx;cases ry;obtain⟨i1,r1,p1,_⟩:=I.list ha;obtain⟨i2,r2,p2,_⟩:=I.list hb;cases r2;by_cases hl:xs=[]
 ·subst hl;cases r1;refine SeqAt.RcNeAt.lists (e:=λ_=>true) p1.isList p2.isList rfl (by omega) (λj h1=>absurd h1 (by simp)) _ _ _ _ ⟨.bl _,H,I,?_,q⟩;rfl
 ·refine SeqAt.RcNeAt.lists_lengths p1.isList p2.isList ?_ (by omega) _ _ _ _ ⟨.bl _,H,I,?_,q⟩
  ·have:=r1.length;have h2:=M5.mpr hl;simp;intro z;rw[z]at this;simp at this;exact hl this
  ·show Value.bool _=Value.bool _;rw[decide_eq_false hl];rfl
theorem DX(h:X.K=K)(hu:X.A.units+66<cLine):OpR X (compareOp .NotEq) (wK K):=by subst h;exact DY hu
end
noncomputable def prT(x:Int×Int):HO:=.tup [.int x.1,.int x.2]
theorem w6{x y:Int×Int}(h:prT x=prT y):x=y:=by
 unfold prT at h
 injection h with h
 injection h with h1 h
 injection h with h2 h
 injection h1 with h1
 injection h2 with h2
 exact Prod.ext h1 h2
open Classical in
noncomputable def g8 (H:Hp) (x:Int×Int) (w:Value):Bool:=match w with
 |.ref q=>decide (H q=some (prT x))
 |_=>false
theorem eTup_iff{H:Hp}{x:Int×Int}{q:Addr}:g8 H x (.ref q)=true↔H q=some (prT x):=by unfold g8;exact @decide_eq_true_iff _ (_)
def PaH(H:Hp)(ps:List Addr)(xs:List (Int×Int)):Prop:=ps.length=xs.length/\∀(i:Nat) (p:Addr) (x:Int×Int),ps[i]?=some p->xs[i]?=some x->H p=some (prT x)
def wI(K:PySem.W.Frag):R2:=λx y H Q=>∃(a p:Addr) (ps:List Addr) (xs:List (Int×Int)) (z:Int×Int),x=.ref p/\y=.ref a/\H p=some (prT z)/\SqL K H a (ps.map V.ref)/\PaH H ps xs/\p∉ps/\Q (.bl (!decide (z∈xs))) H
theorem vx{x y:V}{us:List Value}(h:Vals [x,y] us):∃a b,us=[a,b]/\RelV x a/\RelV y b:=by
 cases h with
 |cons r t =>
  cases t with
  |cons r2 t2 =>cases t2;exact⟨_,_,rfl,r,r2⟩
section
variable {X:Cx}{K:PySem.W.Frag}
theorem DT{pins:List (Addr×Obj)}{σ:St}{H:Hp}{s:Shared}{p q:Addr}{x y:Int×Int}(I:Inv X pins σ H s)(hu:X.A.units+66<cLine)(hne:p≠q)(hp:H p=some (prT x))(hq:H q=some (prT y)):SeqAt.EqAt X.A.in1 s (.ref p) (.ref q) (decide (x=y)):=by
 obtain⟨i1,r1,p1,_⟩:=I.tuple (SqT.of (K:=X.K) hp);obtain⟨i2,r2,p2,_⟩:=I.tuple (SqT.of (K:=X.K) hq);obtain⟨u1,u2,rfl,⟨t1,rfl⟩,⟨t2,rfl⟩⟩:=vx r1;obtain⟨v1,v2,rfl,⟨s1,rfl⟩,⟨s2,rfl⟩⟩:=vx r2;refine SeqAt.EqAt.of_refs hne ?_;have e:=SeqAt.RcAt.tuples (A:=X.A.in1) (e:=λm=>if m=0 then(x.1 == y.1)else(x.2 == y.2)) p1 p2 (by show X.A.units+1<cLine;omega) (λm h1 h2=>?_)
 rotate_left
 ·have hm:m<2:=h1;have:m=0\/m=1:=by omega
  rcases this with rfl |rfl
  ·exact(MeetsSeq.EqGives.int x.1 y.1 t1 s1).at _ _
  ·exact(MeetsSeq.EqGives.int x.2 y.2 t2 s2).at _ _
 have eb:decide (x=y)=(x.1 == y.1&&x.2 == y.2):=by rw[Bool.eq_iff_iff,decide_eq_true_eq,OE,beq_iff_eq,beq_iff_eq];exact⟨λh=>by rw[h];exact⟨rfl,rfl⟩,λh=>Prod.ext h.1 h.2⟩
 rw[eb];simpa[List.range_succ]using e
theorem DV(hu:X.A.units+66<cLine):OpR X (compareOp .NotIn) (wI X.K):=by
 intro pins s σ H x y v u Q I rx ry h;obtain⟨a,p,ps,xs,z,rfl,rfl,hp,ha,hr,hn,q⟩:=h;cases rx;cases ry;obtain⟨i1,r1,p1,_⟩:=I.list ha;obtain rfl:=wA r1;have hl:=hr.1;refine SeqAt.notIn_listAt (g8 H z) p1.isList (λw hw=>?_) ⟨.bl _,H,I,rfl,?_⟩
 ·obtain⟨q,hq,rfl⟩:=Nc.mp (by simpa using hw);obtain⟨i,hi,rfl⟩:=OG hq;have hx:xs[i]?=some (xs[i]'(by omega)):=List.getElem?_eq_getElem (by omega);have h1:=hr.2 i ps[i] _ (List.getElem?_eq_getElem hi) hx;have e:=DT I hu (λ(y:ps[i]=p)=>hn (by rw[<- y];exact NZ _)) h1 hp
  have ee:g8 H z (.ref ps[i])=decide (xs[i]'(by omega)=z):=by rw[Bool.eq_iff_iff,eTup_iff,h1,decide_eq_true_eq];exact⟨λz=>w6 (Option.some.inj z),λz=>by rw[z]⟩
  rw[ee];exact e
 ·have e:(ps.map Value.ref).toArray.any (g8 H z)=decide (z∈xs):=by
   rw[show(ps.map Value.ref).toArray.any (g8 H z)=(ps.map Value.ref).any (g8 H z) by simp,Bool.eq_iff_iff,List.any_eq_true,decide_eq_true_eq];constructor
   ·rintro⟨w,hw,y⟩;obtain⟨q,hq,rfl⟩:=Nc.mp hw;obtain⟨i,hi,rfl⟩:=OG hq;have hx:xs[i]?=some (xs[i]'(by omega)):=List.getElem?_eq_getElem (by omega);have h1:=hr.2 i ps[i] _ (List.getElem?_eq_getElem hi) hx;have z':H ps[i]=_:=eTup_iff.mp y;rw[h1]at z';rw[<- w6 (Option.some.inj z')];exact NZ _
   ·intro hm;obtain⟨i,hi,rfl⟩:=OG hm;refine⟨.ref (ps[i]'(by omega)),Nc.mpr ⟨_,NZ _,rfl⟩,?_⟩;exact eTup_iff.mpr (hr.2 i _ _ (List.getElem?_eq_getElem (by omega)) (List.getElem?_eq_getElem hi))
  rw[e];exact q
theorem DU(h:X.K=K)(hu:X.A.units+66<cLine):OpR X (compareOp .NotIn) (wI K):=by subst h;exact DV hu
end
def wL(K:PySem.W.Frag):R2:=λx y H Q=>∃(a b:Addr) (bs:List Bool),x=.ref a/\y=.ref b/\SqL K H a (bs.map V.bl)/\SqL K H b (bs.map V.bl)/\Q (.bl false) H
section
variable {X:Cx}{K:PySem.W.Frag}
theorem D0(hu:X.A.units+66<cLine):OpR X (compareOp .NotEq) (wL X.K):=by
 intro pins s σ H x y v u Q I rx ry h;obtain⟨a,b,bs,rfl,rfl,ha,hb,q⟩:=h;cases rx;cases ry;obtain⟨i1,r1,p1,_⟩:=I.list ha;obtain⟨i2,r2,p2,_⟩:=I.list hb;obtain rfl:=uk r1;obtain rfl:=uk r2;refine SeqAt.RcNeAt.lists (e:=λ_=>true) p1.isList p2.isList rfl (by omega) (λj h1 h2=>?_) _ _ _ _ ⟨.bl _,H,I,?_,q⟩
 ·have e:(bs.map Value.bool).toArray[j]=Value.bool (bs[j]'(by simpa using h1)):=by simp
  rw[e];exact(JV _).at X.A.in1 s
 ·show Value.bool _=Value.bool _
  congr 1
  rw[show(List.range _).all (λ_=>true)=true from List.all_eq_true.mpr λ_ _=>rfl];rfl
theorem DZ(h:X.K=K)(hu:X.A.units+66<cLine):OpR X (compareOp .NotEq) (wL K):=by subst h;exact D0 hu
end
structure CalVE(P:Program)(w:World)(K:PySem.W.Frag)(mg:Str->Option Value)(base:Heap)(k:Nat)(x:Str)(ps:List Str)(sp:Sp)(f:Addr)(fd:FuncData):Prop where
 ok:FnOk P w K mg base (CXV P w) k f fd ps sp
 mg:mg x=some (.ref f)
 kp:PySem.W.keepIn K (.ref f)=true
 bd:Binds K fd ps []
 bd1:Binds K fd ps [.none]
 bd2:Binds K fd ps [.none,.none]
end L2
open PySem.W in
local macro_rules | `(tactic|walk_at "comp_ok")=>`(tactic|exact⟨by with_unfolding_all rfl,by decide +kernel,rfl,by decide +kernel,by repeat' (first |exact List.forall_mem_nil _ |refine List.forall_mem_cons.2 ⟨rfl,?_⟩),by rfl,by repeat' (first |exact .nil |refine .cons ⟨rfl,by first |exact Or.inl rfl |exact Or.inr rfl,rfl⟩ ?_)⟩)
namespace R43
open PySem L2 RM
noncomputable def top(i:Nat):Stmt:=PySem.Challenge.pw_rootspan_k43_roots_in_a_span.main.body.getD i (.Pass ⟨0,0,0,0⟩)
abbrev jN:Stmt:=eU (top 7) 0
abbrev jF:Stmt:=eU (top 8) 0
abbrev iS:Stmt:=top 10
abbrev iR:Stmt:=top 11
abbrev iI:Stmt:=top 12
abbrev jL:Stmt:=eU (top 13) 0
abbrev jH:Stmt:=eU (top 13) 1
abbrev jI:Stmt:=eU (top 13) 2
abbrev jG:Stmt:=eU (top 13) 3
abbrev jK:Stmt:=eU (top 13) 5
abbrev jJ:Stmt:=eU (top 13) 7
abbrev iY:Stmt:=top 15
abbrev jl:Stmt:=top 16
abbrev ju:Stmt:=top 17
abbrev iL:Stmt:=top 18
abbrev jo:Stmt:=top 19
abbrev ja:Stmt:=top 20
abbrev iP:Stmt:=top 21
abbrev gd:Stmt:=top 22
abbrev iZ:Stmt:=top 23
abbrev iJ:Stmt:=top 24
abbrev iQ:Stmt:=top 25
abbrev jk:Stmt:=top 27
abbrev iT:Stmt:=top 28
abbrev jd:Stmt:=top 29
abbrev iU:Stmt:=top 31
abbrev iV:Stmt:=top 32
abbrev jp:Stmt:=top 33
abbrev jm:Stmt:=top 34
abbrev jr:Stmt:=top 36
abbrev jq:Stmt:=top 37
abbrev i9:Stmt:=top 39
abbrev jg:Stmt:=top 40
abbrev iM:Stmt:=top 41
abbrev jh:Stmt:=top 42
abbrev iO:Stmt:=top 43
abbrev jb:Stmt:=top 44
abbrev jt:Stmt:=top 45
abbrev jj:Stmt:=top 47
abbrev jn:Stmt:=top 48
abbrev i6:Stmt:=top 49
abbrev iH:Stmt:=top 50
abbrev jf:Stmt:=top 54
abbrev ji:Stmt:=top 55
abbrev je:Stmt:=top 56
abbrev iN:Stmt:=top 57
abbrev iK:Stmt:=top 58
abbrev jM:Stmt:=eU (top 61) 0
abbrev i8:Stmt:=top 62
abbrev iW:Stmt:=top 63
abbrev iX:Stmt:=top 64
abbrev jc:Stmt:=top 65
abbrev i7:Stmt:=top 66
abbrev jD:Stmt:=top 68
abbrev jv:Stmt:=top 69
abbrev jC:Stmt:=top 70
abbrev jy:Stmt:=top 71
abbrev jA:Stmt:=top 72
abbrev jx:Stmt:=top 73
abbrev jB:Stmt:=top 74
abbrev jz:Stmt:=top 75
abbrev gj:Stmt:=top 76
abbrev jw:Stmt:=top 77
abbrev gf:Stmt:=top 78
abbrev jE:Stmt:=top 79
abbrev gg:Stmt:=top 80
abbrev d6:Stmt:=top 81
theorem CD:FnScope ["self","many"] ["self","many"] (ag jN):=⟨rfl,rfl,rfl,by decide +kernel,rfl,by decide +kernel,by decide +kernel⟩
theorem Cv:FnScope ["self","degree"] ["self","degree"] (ag jF):=⟨rfl,rfl,rfl,by decide +kernel,rfl,by decide +kernel,by decide +kernel⟩
theorem sc_shared:FnScope ["row","divisor","value"] ["row"] (ag iS):=⟨rfl,rfl,rfl,by decide +kernel,rfl,by decide +kernel,by decide +kernel⟩
theorem sc_shared_by_two:FnScope ["one","other","greater","less","rest"] ["one","other"] (ag iR):=⟨rfl,rfl,rfl,by decide +kernel,rfl,by decide +kernel,by decide +kernel⟩
theorem Ca:FnScope ["value"] ["value"] (ag iI):=⟨rfl,rfl,rfl,by decide +kernel,rfl,by decide +kernel,by decide +kernel⟩
theorem sc_Ratio___init__:FnScope ["self","top","bottom","divisor"] ["self","top","bottom"] (ag jL):=⟨rfl,rfl,rfl,by decide +kernel,rfl,by decide +kernel,by decide +kernel⟩
theorem Cy:FnScope ["self","other"] ["self","other"] (ag jH):=⟨rfl,rfl,rfl,by decide +kernel,rfl,by decide +kernel,by decide +kernel⟩
theorem Cz:FnScope ["self","other"] ["self","other"] (ag jI):=⟨rfl,rfl,rfl,by decide +kernel,rfl,by decide +kernel,by decide +kernel⟩
theorem Cw:FnScope ["self","other"] ["self","other"] (ag jG):=⟨rfl,rfl,rfl,by decide +kernel,rfl,by decide +kernel,by decide +kernel⟩
theorem CB:FnScope ["self","other"] ["self","other"] (ag jK):=⟨rfl,rfl,rfl,by decide +kernel,rfl,by decide +kernel,by decide +kernel⟩
theorem CA:FnScope ["self"] ["self"] (ag jJ):=⟨rfl,rfl,rfl,by decide +kernel,rfl,by decide +kernel,by decide +kernel⟩
theorem sc_poly:FnScope ["row","length"] ["row"] (ag iY):=⟨rfl,rfl,rfl,by decide +kernel,rfl,by decide +kernel,by decide +kernel⟩
theorem Cl:FnScope ["row"] ["row"] (ag jl):=⟨rfl,rfl,rfl,by decide +kernel,rfl,by decide +kernel,by decide +kernel⟩
theorem sc_added:FnScope ["first","second","length"] ["first","second"] (ag ju):=⟨rfl,rfl,rfl,by decide +kernel,rfl,by decide +kernel,by decide +kernel⟩
theorem sc_taken:FnScope ["first","second","length"] ["first","second"] (ag iL):=⟨rfl,rfl,rfl,by decide +kernel,rfl,by decide +kernel,by decide +kernel⟩
theorem Cn:FnScope ["row","place"] ["row","place"] (ag jo):=⟨rfl,rfl,rfl,by decide +kernel,rfl,by decide +kernel,by decide +kernel⟩
theorem sc_multiplied:FnScope ["first","second","product","j","one","k","other"] ["first","second"] (ag ja):=⟨rfl,rfl,rfl,by decide +kernel,rfl,by decide +kernel,by decide +kernel⟩
theorem Cd:FnScope ["row"] ["row"] (ag iP):=⟨rfl,rfl,rfl,by decide +kernel,rfl,by decide +kernel,by decide +kernel⟩
theorem sc_shrunk:FnScope ["row","divisor"] ["row"] (ag gd):=⟨rfl,rfl,rfl,by decide +kernel,rfl,by decide +kernel,by decide +kernel⟩
theorem sc_plain:FnScope ["row","small"] ["row"] (ag iZ):=⟨rfl,rfl,rfl,by decide +kernel,rfl,by decide +kernel,by decide +kernel⟩
theorem sc_value_parts:FnScope ["row","top","bottom","above","below","value"] ["row","top","bottom"] (ag iJ):=⟨rfl,rfl,rfl,by decide +kernel,rfl,by decide +kernel,by decide +kernel⟩
theorem Ce:FnScope ["row","ratio"] ["row","ratio"] (ag iQ):=⟨rfl,rfl,rfl,by decide +kernel,rfl,by decide +kernel,by decide +kernel⟩
theorem sc_divided:FnScope ["first","second","size","sign","steps","factor","quotient","rest","place","lead"] ["first","second"] (ag jk):=⟨rfl,rfl,rfl,by decide +kernel,rfl,by decide +kernel,by decide +kernel⟩
theorem Cf:FnScope ["row","factor"] ["row","factor"] (ag iT):=⟨rfl,rfl,rfl,by decide +kernel,rfl,by decide +kernel,by decide +kernel⟩
theorem sc_lowered:FnScope ["row","second","place","lead","kept","k","value"] ["row","second","place","lead"] (ag jd):=⟨rfl,rfl,rfl,by decide +kernel,rfl,by decide +kernel,by decide +kernel⟩
theorem Cg:FnScope ["polynomial"] ["polynomial"] (ag iU):=⟨rfl,rfl,rfl,by decide +kernel,rfl,by decide +kernel,by decide +kernel⟩
theorem sc_row_from:FnScope ["first","second","row","one","other","rest"] ["first","second"] (ag iV):=⟨rfl,rfl,rfl,by decide +kernel,rfl,by decide +kernel,by decide +kernel⟩
theorem sc_changes:FnScope ["row","ratio","many","before","polynomial","sign"] ["row","ratio"] (ag jp):=⟨rfl,rfl,rfl,by decide +kernel,rfl,by decide +kernel,by decide +kernel⟩
theorem Cm:FnScope ["row","low","high"] ["row","low","high"] (ag jm):=⟨rfl,rfl,rfl,by decide +kernel,rfl,by decide +kernel,by decide +kernel⟩
theorem sc_bound:FnScope ["row","last","greatest","size"] ["row"] (ag jr):=⟨rfl,rfl,rfl,by decide +kernel,rfl,by decide +kernel,by decide +kernel⟩
theorem Co:FnScope ["row","chain","high","low","waiting","found","cell","many","cut","there"] ["row"] (ag jq):=⟨rfl,rfl,rfl,by decide +kernel,rfl,by decide +kernel,by decide +kernel⟩
theorem sc_narrowed:FnScope ["row","low","high","width","reach","steps","found"] ["row","low","high","width"] (ag i9):=⟨rfl,rfl,rfl,by decide +kernel,rfl,by decide +kernel,by decide +kernel⟩
theorem sc_halvings:FnScope ["reach","width","wide","goal","steps"] ["reach","width"] (ag jg):=⟨rfl,rfl,rfl,by decide +kernel,rfl,by decide +kernel,by decide +kernel⟩
theorem sc_stretched:FnScope ["row","low","reach","bottom","start","step","found","power","value"] ["row","low","reach"] (ag iM):=⟨rfl,rfl,rfl,by decide +kernel,rfl,by decide +kernel,by decide +kernel⟩
theorem sc_halved:FnScope ["row","end","steps","place","pieces","ahead","left","k","there"] ["row","end","steps"] (ag jh):=⟨rfl,rfl,rfl,by decide +kernel,rfl,by decide +kernel,by decide +kernel⟩
theorem sc_spread:FnScope ["row","found","factor","value"] ["row"] (ag iO):=⟨rfl,rfl,rfl,by decide +kernel,rfl,by decide +kernel,by decide +kernel⟩
theorem sc_moved:FnScope ["row","found","start","k"] ["row"] (ag jb):=⟨rfl,rfl,rfl,by decide +kernel,rfl,by decide +kernel,by decide +kernel⟩
theorem Cp:FnScope ["low","reach","place","pieces"] ["low","reach","place","pieces"] (ag jt):=⟨rfl,rfl,rfl,by decide +kernel,rfl,by decide +kernel,by decide +kernel⟩
theorem Ck:FnScope ["divisor","row"] ["divisor","row"] (ag jj):=⟨rfl,rfl,rfl,by decide +kernel,rfl,by decide +kernel,by decide +kernel⟩
theorem sc_common:FnScope ["first","second","one","other","rest"] ["first","second"] (ag jn):=⟨rfl,rfl,rfl,by decide +kernel,rfl,by decide +kernel,by decide +kernel⟩
theorem sc_part:FnScope ["row","divisor","found"] ["row","divisor"] (ag i6):=⟨rfl,rfl,rfl,by decide +kernel,rfl,by decide +kernel,by decide +kernel⟩
theorem B9:FnScope ["row"] ["row"] (ag iH):=⟨rfl,rfl,rfl,by decide +kernel,rfl,by decide +kernel,by decide +kernel⟩
theorem sc_least:FnScope ["row","low","high","whole","width","span","line","cell","square"] ["row","low","high"] (ag jf):=⟨rfl,rfl,rfl,by decide +kernel,rfl,by decide +kernel,by decide +kernel⟩
theorem Cj:FnScope ["whole"] ["whole"] (ag ji):=⟨rfl,rfl,rfl,by decide +kernel,rfl,by decide +kernel,by decide +kernel⟩
theorem sc_line_of:FnScope ["whole","span","found"] ["whole","span"] (ag je):=⟨rfl,rfl,rfl,by decide +kernel,rfl,by decide +kernel,by decide +kernel⟩
theorem Cc:FnScope ["whole","span","other","last","together"] ["whole","span","other"] (ag iN):=⟨rfl,rfl,rfl,by decide +kernel,rfl,by decide +kernel,by decide +kernel⟩
theorem Cb:FnScope ["factor","ratio"] ["factor","ratio"] (ag iK):=⟨rfl,rfl,rfl,by decide +kernel,rfl,by decide +kernel,by decide +kernel⟩
theorem CC:FnScope ["self","row","low","high"] ["self","row","low","high"] (ag jM):=⟨rfl,rfl,rfl,by decide +kernel,rfl,by decide +kernel,by decide +kernel⟩
theorem sc_number:FnScope ["row","low","high","start","end","simple","many"] ["row","low","high"] (ag i8):=⟨rfl,rfl,rfl,by decide +kernel,rfl,by decide +kernel,by decide +kernel⟩
theorem Ch:FnScope ["height"] ["height"] (ag iW):=⟨rfl,rfl,rfl,by decide +kernel,rfl,by decide +kernel,by decide +kernel⟩
theorem sc_refuse_great:FnScope ["row","limit"] ["row"] (ag iX):=⟨rfl,rfl,rfl,by decide +kernel,rfl,by decide +kernel,by decide +kernel⟩
theorem Ci:FnScope ["simple","low","high"] ["simple","low","high"] (ag jc):=⟨rfl,rfl,rfl,by decide +kernel,rfl,by decide +kernel,by decide +kernel⟩
theorem sc_number_in:FnScope ["simple","low","high","row","span","half"] ["simple","low","high"] (ag i7):=⟨rfl,rfl,rfl,by decide +kernel,rfl,by decide +kernel,by decide +kernel⟩
theorem Ct:FnScope ["_law_script","_law_k"] ["_law_script","_law_k"] (ag jD):=⟨rfl,rfl,rfl,by decide +kernel,rfl,by decide +kernel,by decide +kernel⟩
theorem Cq:FnScope ["_law_found"] ["_law_found"] (ag jv):=⟨rfl,rfl,rfl,by decide +kernel,rfl,by decide +kernel,by decide +kernel⟩
theorem sc__law_divisor:FnScope ["_law_one","_law_other","_law_rest"] ["_law_one","_law_other"] (ag jC):=⟨rfl,rfl,rfl,by decide +kernel,rfl,by decide +kernel,by decide +kernel⟩
theorem Cs:FnScope ["_law_found"] ["_law_found"] (ag jy):=⟨rfl,rfl,rfl,by decide +kernel,rfl,by decide +kernel,by decide +kernel⟩
theorem sc__law_poly:FnScope ["_law_found","_law_one"] ["_law_found"] (ag jA):=⟨rfl,rfl,rfl,by decide +kernel,rfl,by decide +kernel,by decide +kernel⟩
theorem sc__law_times:FnScope ["_law_one","_law_other","_law_found","_law_k","_law_j"] ["_law_one","_law_other"] (ag jx):=⟨rfl,rfl,rfl,by decide +kernel,rfl,by decide +kernel,by decide +kernel⟩
theorem sc__law_fractions:FnScope ["_law_script","_law_some","_law_k","_law_cell","_law_top","_law_bottom","_law_by"] ["_law_script"] (ag jB):=⟨rfl,rfl,rfl,by decide +kernel,rfl,by decide +kernel,by decide +kernel⟩
theorem sc__law_product:FnScope ["_law_some","_law_cell","_law_kp","_law_top","_law_bottom","_law_often","_law_k"] ["_law_some","_law_cell"] (ag jz):=⟨rfl,rfl,rfl,by decide +kernel,rfl,by decide +kernel,by decide +kernel⟩
theorem sc__law_ends:FnScope ["_law_some","_law_one","_law_other","_law_ends_here","_law_cell","_law_there"] ["_law_some","_law_one","_law_other"] (ag gj):=⟨rfl,rfl,rfl,by decide +kernel,rfl,by decide +kernel,by decide +kernel⟩
theorem Cr:FnScope ["_law_one","_law_other"] ["_law_one","_law_other"] (ag jw):=⟨rfl,rfl,rfl,by decide +kernel,rfl,by decide +kernel,by decide +kernel⟩
theorem sc__law_within:FnScope ["_law_some","_law_low","_law_high","_law_found","_law_one","_law_spot"] ["_law_some","_law_low","_law_high"] (ag gf):=⟨rfl,rfl,rfl,by decide +kernel,rfl,by decide +kernel,by decide +kernel⟩
theorem Cu:FnScope ["_law_kp","_law_low","_law_high"] ["_law_kp","_law_low","_law_high"] (ag jE):=⟨rfl,rfl,rfl,by decide +kernel,rfl,by decide +kernel,by decide +kernel⟩
theorem sc__law_refused:FnScope ["_law_kp","_law_low","_law_high","_law_height","_law_many","_law_told","_law_kinds","e"] ["_law_kp","_law_low","_law_high","_law_height","_law_many"] (ag gg):=⟨rfl,rfl,rfl,by decide +kernel,rfl,by decide +kernel,by decide +kernel⟩
theorem sc_law:FnScope ["_law_script","_law_some","_law_kp","_law_low","_law_high","_law_kind","_law_here","_law_found"] ["_law_script"] (ag d6):=⟨rfl,rfl,rfl,by decide +kernel,rfl,by decide +kernel,by decide +kernel⟩
structure Txt(K:PySem.W.Frag)(mg:Str->Option Value):Prop where
 abs_:mg "abs"=none
 len_:mg "len"=none
 max_:mg "max"=none
 range_:mg "range"=none
 enumerate_:mg "enumerate"=none
 reversed_:mg "reversed"=none
 list_:mg "list"=none
 sum_:mg "sum"=none
 any_:mg "any"=none
 isinstance_:mg "isinstance"=none
 int_:mg "int"=none
 bool_:mg "bool"=none
 ValueError_:mg "ValueError"=none
 HIGHEST_:∃t:Tok,mg "HIGHEST"=some (.int 8 t)
structure EXC(K:PySem.W.Frag)(mg:Str->Option Value)(base:Heap)(CNoRoot CTooHigh CRootError:Addr):Prop where
 mgNoRoot:mg "NoRoot"=some (.ref CNoRoot)
 mgTooHigh:mg "TooHigh"=some (.ref CTooHigh)
 mgRootError:mg "RootError"=some (.ref CRootError)
 hit_NoRoot_RootError:PySem.W.exmOne K (.ref CNoRoot) (.ref CRootError)=some true
 hit_TooHigh_RootError:PySem.W.exmOne K (.ref CTooHigh) (.ref CRootError)=some true
 hit_NoRoot_NoRoot:PySem.W.exmOne K (.ref CNoRoot) (.ref CNoRoot)=some true
 hit_TooHigh_NoRoot:PySem.W.exmOne K (.ref CTooHigh) (.ref CNoRoot)=some false
 hit_TooHigh_TooHigh:PySem.W.exmOne K (.ref CTooHigh) (.ref CTooHigh)=some true
 is_NoRoot_ValueError:PySem.W.kitOne K (.ref CNoRoot) (.type "ValueError")=some true
 is_TooHigh_ValueError:PySem.W.kitOne K (.ref CTooHigh) (.type "ValueError")=some true
 is_NoRoot_NoRoot:PySem.W.kitOne K (.ref CNoRoot) (.ref CNoRoot)=some true
 is_TooHigh_NoRoot:PySem.W.kitOne K (.ref CTooHigh) (.ref CNoRoot)=some false
 is_NoRoot_TooHigh:PySem.W.kitOne K (.ref CNoRoot) (.ref CTooHigh)=some false
 is_TooHigh_TooHigh:PySem.W.kitOne K (.ref CTooHigh) (.ref CTooHigh)=some true
def ny(K:PySem.W.Frag):Sp:=λvs H Q _=>∃(a:Addr) (ns:List Int),vs=[.ref a]/\SqL K H a (ns.map V.int)/\ns.length<=63/\∀H',Q (.bl true) H'
section
variable {P:Program}{w:World}{K:PySem.W.Frag}{mg:Str->Option Value}{base:Heap}
theorem qP(n:Nat):(List.replicate n [V.int 0]).flatten=(List.replicate n (0:Int)).map V.int:=by
 induction n with
 |zero=>rfl
 |succ n ih=>rw[Oh,ON,ih,Oh];rfl
theorem lQ{n j:Nat}{i:Int}(e:i=j)(h:j<n):ixN n i=some j:=by subst e;unfold ixN;rw[if_pos (O9 _),if_pos (by omega)];simp
theorem oG(l:List Int)(j:Nat)(x:Int):(l.map V.int).set j (.int x)=(l.set j x).map V.int:=by rw[List.map_set]
theorem ko{l:List Int}{j:Nat}{i:Int}(e:i=j)(h:j<l.length):atI (l.map V.int) i=some (.int (cf l j)):=by subst e;exact kq (by rw[List.getElem?_map,gO h];rfl)
def SameB(p:Addr)(H H':Hp):Prop:=∀b o,b≠p->H b=some o->H' b=some o
theorem SameB.refl(p:Addr)(H:Hp):SameB p H H:=λ_ _ _ h=>h
theorem SameB.then_new{p q:Addr}{H H1:Hp}{o:HO}(s:SameB p H H1)(h:H1 q=none):SameB p H (upd H1 q o):=λb u n e=>by rw[upd_ne (aN (s b u n e) h)];exact s b u n e
theorem SameB.then_upd{p:Addr}{H H1:Hp}{o:HO}(s:SameB p H H1):SameB p H (upd H1 p o):=λb u n e=>by rw[upd_ne n];exact s b u n e
def AllB(k:Nat)(l:List Int):Prop:=∀x∈l,Bits k x
theorem AllB.cf{k:Nat}{l:List Int}(h:AllB k l)(n:Nat):Bits k (cf l n):=by
 by_cases hn:n<l.length
 ·rw[cZ hn];exact h _ (NZ hn)
 ·rw[bN (NX hn)];exact Bits.zero
theorem fJ{H H2:Hp}{p:Addr}{o:HO}(s:Same H H2)(hp:H p=none):Same H (upd H2 p o):=λb u e=>by rw[upd_ne (aN e hp)];exact s b u e
theorem FR(l:List Int)(x:Int):l.map V.int++[V.int x]=(l++[x]).map V.int:=by rw[No];rfl
noncomputable def fO(ms:List Int)(lo hi:Option Int):List Int:=(ms.drop (HT.sIx ms.length 0 lo)).take (HT.sIx ms.length ms.length hi-HT.sIx ms.length 0 lo)
theorem ua(ms:List Int)(lo hi:Option Int):fN (ms.map V.int) lo hi=(fO ms lo hi).map V.int:=by unfold fN fO;rw[MZ,<- List.map_drop,<- List.map_take]
theorem J9{ms:List Int}{lo hi:Option Int}{x:Int}(h:x∈fO ms lo hi):x∈ms:=Pc (OZ h)
theorem AllB.cut{k:Nat}{ms:List Int}{lo hi:Option Int}(h:AllB k ms):AllB k (fO ms lo hi):=λx hx=>h x (J9 hx)
theorem AllB.app{k:Nat}{l r:List Int}(h1:AllB k l)(h2:AllB k r):AllB k (l++r):=λx hx=>(Nu.mp hx).elim (h1 x) (h2 x)
theorem AllB.zeros{k n:Nat}:AllB k (List.replicate n 0):=λx hx=>by rw[List.eq_of_mem_replicate hx];exact Bits.zero
theorem AllB.mono{j k:Nat}{l:List Int}(h:AllB j l)(hk:j<=k:=by decide):AllB k l:=λx hx=>(h x hx).mono hk
theorem AllB.nil{k:Nat}:AllB k []:=λ_ h=>nomatch h
theorem AllB.snoc{k:Nat}{l:List Int}{x:Int}(h:AllB k l)(hx:Bits k x):AllB k (l++[x]):=h.app λy hy=>by rw[Nf.mp hy];exact hx
theorem FM{l:List Int}{x:Int}(h:x∈trim l):x∈l:=by
 unfold trim at h
 rw[List.mem_reverse]at h;exact List.mem_reverse.mp ((List.dropWhile_sublist _).subset h)
theorem AllB.trim{k:Nat}{l:List Int}(h:AllB k l):AllB k (trim l):=λx hx=>h x (FM hx)
theorem gN{l:List Int}{i:Nat}{x:V}(h:(l.map V.int)[i]?=some x):∃c,l[i]?=some c/\x=.int c/\c∈l/\l.take (i+1)=l.take i++[c]:=by
 rw[List.getElem?_map]at h;cases e:l[i]? with
 |none=>rw[e]at h;cases h
 |some c=>rw[e]at h;exact⟨c,rfl,(Option.some.inj h).symm,List.mem_of_getElem? e,by rw[NO,e];rfl⟩
def mkL(H:Hp)(Q:VK)(r:List Int):Prop:=∀(p:Addr) (H':Hp),Same H H'->H p=none->H' p=some (.lst (r.map V.int))->Q (.ref p) H'
def iB(K:PySem.W.Frag):Sp:=λvs H Q _=>∃(a:Addr) (ns:List Int),vs=[.ref a]/\SqL K H a (ns.map V.int)/\mkL H Q (trim ns)
def fv(K:PySem.W.Frag):Sp:=λvs H Q _=>∃(a:Addr) (ns:List Int) (k:Nat),vs=[.ref a,.int k]/\SqL K H a (ns.map V.int)/\Q (.int (ns.getD k 0)) H
def iF(K:PySem.W.Frag)(g:List Int->List Int->List Int):Sp:=λvs H Q _=>∃(a b:Addr) (xs ys:List Int),vs=[.ref a,.ref b]/\SqL K H a (xs.map V.int)/\SqL K H b (ys.map V.int)/\xs.length<=1000000/\ys.length<=1000000/\mkL H Q (g xs ys)
theorem xX(i j:Nat):(if((j:Nat):Int)>((i:Nat):Int)then((j:Nat):Int)else((i:Nat):Int))=((max i j:Nat):Int):=by split<;>omega
theorem nI{n:Nat}(h:n<=sizeLine) : -(2^62)<=((n:Nat):Int)/\((n:Nat):Int)<2^62:=by have:=sizeLine_eq;omega
def RwH(H:Hp)(ps:List Addr)(xss:List (List Int)):Prop:=ps.length=xss.length/\∀(i:Nat) (p:Addr) (xs:List Int),ps[i]?=some p->xss[i]?=some xs->H p=some (.lst (xs.map V.int))
theorem RwH.nil{H:Hp}:RwH H [] []:=⟨rfl,λi p xs h=>by simp at h⟩
theorem RwH.same{H H':Hp}{ps:List Addr}{xss:List (List Int)}(h:RwH H ps xss)(s:Same H H'):RwH H' ps xss:=⟨h.1,λi p xs a b=>s _ _ (h.2 i p xs a b)⟩
theorem RwH.snoc{H:Hp}{ps:List Addr}{xss:List (List Int)}{p:Addr}{xs:List Int}(h:RwH H ps xss)(hp:H p=some (.lst (xs.map V.int))):RwH H (ps++[p]) (xss++[xs]):=by
 refine⟨by rw[Nh,Nh,h.1];rfl,λi q ys a b=>?_⟩;by_cases hi:i<ps.length
 ·rw[List.getElem?_append_left hi]at a;rw[List.getElem?_append_left (by rw[<- h.1];exact hi)]at b;exact h.2 i q ys a b
 ·rw[List.getElem?_append_right (by omega)]at a;rw[List.getElem?_append_right (by rw[<- h.1];omega),<- h.1]at b;by_cases h0:i-ps.length=0
  ·rw[h0]at a b;obtain rfl:p=q:=by simpa using a
   obtain rfl:xs=ys:=by simpa using b
   exact hp
  ·rw[List.getElem?_eq_none_iff.mpr (by simp;omega)]at a;cases a
theorem RwH.get{H:Hp}{ps:List Addr}{xss:List (List Int)}{i:Nat}(h:RwH H ps xss)(hi:i<xss.length):∃p,ps[i]?=some p/\H p=some (.lst ((xss.getD i []).map V.int)):=by
 have hi':i<ps.length:=by rw[h.1];exact hi
 refine⟨ps[i],List.getElem?_eq_getElem hi',h.2 i _ _ (List.getElem?_eq_getElem hi') ?_⟩;rw[List.getElem?_eq_getElem hi];simp[List.getD,hi]
theorem RwH.of_get{H:Hp}{ps:List Addr}{xss:List (List Int)}{i:Nat}{x:V}(h:RwH H ps xss)(hx:(ps.map V.ref)[i]?=some x):∃p xs,x=.ref p/\ps[i]?=some p/\xss[i]?=some xs/\H p=some (.lst (xs.map V.int))/\i<xss.length:=by
 rw[List.getElem?_map]at hx;cases e:ps[i]? with
 |none=>rw[e]at hx;cases hx
 |some p =>
  rw[e]at hx;have hi:i<ps.length:=(List.getElem?_eq_some_iff.mp e).1;have hi':i<xss.length:=by rw[<- h.1];exact hi
  exact⟨p,xss[i],(Option.some.inj hx).symm,rfl,List.getElem?_eq_getElem hi',h.2 i p _ e (List.getElem?_eq_getElem hi'),hi'⟩
theorem FS(ps:List Addr)(p:Addr):ps.map V.ref++[V.ref p]=(ps++[p]).map V.ref:=by rw[No];rfl
def sp2:Sp:=λvs H Q _=>∃a b:Int,vs=[.int a,.int b]/\Q (.int (Nat.gcd a.natAbs b.natAbs:Nat)) H
theorem mF(i:Int):(if i<0 then -i else i)=(i.natAbs:Int):=by split<;>omega
theorem Ei{f:Addr}{fd:FuncData}(F:Fun K "shared_by_two" "shared_by_two" iR f fd)(T:Txt K mg):FnOk P w K mg base CX0 1 f fd ["one","other"] sp2:=by
 refine F.ok sc_shared_by_two (λvs H Q E h=>?_) (λcdv A outer s H vs Q E hr h=>?_)
 ·obtain⟨a,b,rfl,_⟩:=h;rfl
 ·obtain⟨a,b,rfl,k⟩:=h
  refine⟨_,(af (aj (i:=2) sc_shared_by_two.nd rfl (Or.inl rfl) (aQ fU (by rfl) T.abs_ PyProof.Rows.boot_abs (aa (pv 0) ac)))
   (af (aj (i:=3) sc_shared_by_two.nd rfl (Or.inl rfl) (aQ fU (by rfl) T.abs_ PyProof.Rows.boot_abs (aa (pv 1) ac)))
   (af (fB PassesOwn.never (aH fH (pv 3) ae (aC _))
     (af (aj (i:=4) sc_shared_by_two.nd rfl (Or.inl rfl) (al cS (pv 2) (pv 3)))
       (af (aj (i:=2) sc_shared_by_two.nd rfl (Or.inl rfl) (pv 3))
       (ah (aj (i:=3) sc_shared_by_two.nd rfl (Or.inl rfl) (pv 4))))))
   (ah (aw (pv 2)))))),?_⟩
  refine⟨_,rfl,_,rfl,?_⟩;refine⟨_,rfl,_,rfl,?_⟩;refine⟨λm σ' H'=>∃(x y:Int) (z:Option V),σ'=[some (.int a),some (.int b),some (.int x),some (.int y),z]/\H=H'/\0<=x/\0<=y/\y.natAbs=m/\Nat.gcd x.natAbs y.natAbs=Nat.gcd a.natAbs b.natAbs,⟨_,_,_,none,rfl,rfl,?_,?_,rfl,?_⟩,?_⟩
  ·rw[mF];exact O9 _
  ·rw[mF];exact O9 _
  ·rw[mF,mF,Nr,Nr]
  ·rintro m σ' H' ⟨x,y,z,rfl,rfl,hx,hy,rfl,hg⟩;refine⟨_,rfl,_,_,rfl,rfl,_,rfl,?_⟩;refine cG (λhn=>?_) (λh0=>?_)
   ·have hp:0<y:=by have:y≠0:=hn;omega
    refine⟨λσ'' H''=>∃m',m'<y.natAbs/\∃(x' y':Int) (z:Option V),σ''=[some (.int a),some (.int b),some (.int x'),some (.int y'),z]/\H=H''/\0<=x'/\0<=y'/\y'.natAbs=m'/\Nat.gcd x'.natAbs y'.natAbs=Nat.gcd a.natAbs b.natAbs,λ_ _ h=>h,?_⟩;refine⟨_,rfl,_,rfl,_,_,rfl,rfl,hp,?_⟩;refine⟨_,rfl,?_⟩;refine⟨_,rfl,?_⟩;have h1:=N8 x (Ny hp);have h2:=N9 x hp;exact⟨(x%y).natAbs,by omega,y,x%y,_,rfl,rfl,hy,h1,rfl,by rw[yS hx hp];exact hg⟩
   ·refine⟨_,rfl,?_⟩;have e:(y:Int)=0:=h0;subst e
    have e2:(x:Int)=((Nat.gcd a.natAbs b.natAbs:Nat):Int):=by rw[<- hg];show x=((Nat.gcd x.natAbs 0:Nat):Int);rw[Nat.gcd_zero_right];omega
    rw[e2];exact k
def ni(K:PySem.W.Frag):Sp:=λvs H Q _=>∃(a:Addr) (ns:List Int),vs=[.ref a]/\SqL K H a (ns.map V.int)/\Q (.int (au ns:Nat)) H
theorem Ej{f:Addr}{fd:FuncData}(F:Fun K "shared" "shared" iS f fd)(T:Txt K mg){tz:Addr}{sO:FuncData}(uU:Cal P w K mg base 1 "shared_by_two" ["one","other"] sp2 tz sO):FnOk P w K mg base CX0 2 f fd ["row"] (ni K):=by
 obtain⟨uI,rO,sd,uo⟩:=uU;refine F.ok sc_shared (λvs H Q E h=>?_) (λcdv A outer s H vs Q E hr h=>?_)
 ·obtain⟨a,ns,rfl,_⟩:=h;rfl
 ·obtain⟨a,ns,rfl,hS,k⟩:=h
  refine⟨_,(af (aj (i:=1) sc_shared.nd rfl (Or.inl rfl) ae)
   (af (ck PassesOwn.never rfl (dA (K:=K) rfl (pv 0)) (aU (i:=2) sc_shared.nd rfl (Or.inl rfl))
     (ah (aj (i:=1) sc_shared.nd rfl (Or.inl rfl) (am uI (hr.mono) rfl rO sd uo .nil ai (aa (pv 1) (aa (pv 2) ac))))))
   (ah (aw (pv 1))))),?_⟩
  refine⟨_,rfl,a,rfl,⟨_,hS⟩,lU (K:=K) (a:=a) (xs:=ns.map V.int) (λi σ' H'=>∃z:Option V,σ'=[some (.ref a),some (.int (au (ns.take i):Nat)),z]/\H=H') ⟨none,rfl,rfl⟩ (λi σ' H' _ ⟨z,_,e⟩=>by rw[<- e];exact hS) ?_ ?_⟩
  ·rintro i y σ' H' hi ⟨z,rfl,rfl⟩;rw[List.getElem?_map]at hi;cases e:ns[i]? with
   |none=>rw[e]at hi;cases hi
   |some n =>
    rw[e]at hi;obtain rfl:=Option.some.inj hi;refine⟨_,rfl,_,rfl,_,_,rfl,?_⟩;have e3:ns.take (i+1)=ns.take i++[n]:=by rw[NO,e];rfl
    refine⟨some (.int n),?_,rfl⟩;rw[e3,HU,Nr];rfl
  ·rintro σ' H' ⟨z,rfl,rfl⟩;refine⟨_,rfl,?_⟩;rw[MZ,N0];exact k
noncomputable def eY(t b:Int):List (Str×V):=cj "bottom" (.int b) (cj "top" (.int t) [])
theorem Bg:¬(("top":Str)="bottom"):=by decide +kernel
theorem bn(t b:Int):(eY t b).lookup ("bottom":Str)=some (.int b):=by unfold eY;rw[cV,if_pos rfl]
theorem cu(t b:Int):(eY t b).lookup ("top":Str)=some (.int t):=by unfold eY;rw[cV,if_neg Bg,cV,if_pos rfl]
theorem gQ(t b:Int){m:Str}(h1:¬m="bottom")(h2:¬m="top"):(eY t b).lookup m=none:=by unfold eY;rw[cV,if_neg h1,cV,if_neg h2];rfl
structure RCI(K:PySem.W.Frag)(mg:Str->Option Value)(C:Addr):Prop where
 cl:Cls K C
 nT:NoAttr K C "top"
 nB:NoAttr K C "bottom"
 mg:mg "Ratio"=some (.ref C)
 ha:PySem.W.findIn K (.ref C) "__class__"=some (some (.builtin "object.__class__"))
 hn:PySem.W.specialIn K (.builtin "object.__class__") "__get__"=some (some (.builtin "getset_descriptor.__get__"))
 ht:PySem.W.takesIn K (.builtin "object.__class__")=some true
 hm:PySem.W.mroIn K C (.type "object")=some true
def RA(C:Addr)(H:Hp)(p:Addr)(t b:Int):Prop:=∃dx,H p=some (.ins C dx (eY t b))
theorem RA.same{C:Addr}{H H':Hp}{p:Addr}{t b:Int}(h:RA C H p t b)(s:Same H H'):RA C H' p t b:=let⟨dx,e⟩:=h;⟨dx,s _ _ e⟩
def mkR(C:Addr)(H:Hp)(Q:VK)(t b:Int):Prop:=∀(x:Addr) (H':Hp),Same H H'->H x=none->RA C H' x (rt t b) (rb t b)->Q (.ref x) H'
def cP(C:Addr):Sp:=λvs H Q _=>∃(p dx:Addr) (t b:Int),vs=[.ref p,.int t,.int b]/\H p=some (.ins C dx [])/\b≠0/\Bits 9000 b/\Q .non (upd H p (.ins C dx (eY (rt t b) (rb t b))))
theorem dj{C:Addr}{H1:Hp}{q:Addr->Hp->Prop}{E:XK}{t b:Int}(hb:b≠0)(bb:Bits 9000 b)(h:∀(x:Addr) (H':Hp),Same H1 H'->H1 x=none->RA C H' x (rt t b) (rb t b)->q x H'):∀x dx:Addr,H1 x=none->H1 dx=none->dx≠x->cP C (.ref x::([.int t,.int b]++[])) (upd (upd H1 dx (.own x)) x (.ins C dx [])) (λv H2=>v=.non/\q x H2) E:=λx dx nx ndx ne=>by
 refine⟨x,dx,t,b,rfl,ao,hb,bb,rfl,?_⟩;rw[mU]
 have s0:Same H1 (upd (upd H1 dx (.own x)) x (.ins C dx (eY (rt t b) (rb t b)))):=λc o e=>by rw[upd_ne (aN e nx),upd_ne (aN e ndx)];exact e
 exact h x _ s0 nx ⟨dx,ao⟩
theorem zq{t b:Int}(hb:b≠0)(bb:Bits 9000 b):Bits 9000 (dv t b):=bb.of_le (by rw[g9];exact Nat.le_of_dvd (Oa.mpr hb) (Ob _ _))
theorem Fh{C f:Addr}{dV:Value}{fd:FuncData}(F:FunD K "__init__" "Ratio.__init__" jL dV f fd)(T:Txt K mg)(R:RCI K mg C){tz:Addr}{sO:FuncData}(uU:Cal P w K mg base 1 "shared_by_two" ["one","other"] sp2 tz sO):FnOk P w K mg base CX0 2 f fd ["self","top","bottom"] (cP C):=by
 obtain⟨uI,rO,sd,uo⟩:=uU;refine F.ok sc_Ratio___init__ (λvs H Q E h=>?_) (λcdv A outer s H vs Q E hr h=>?_)
 ·obtain⟨p,dx,t,b,rfl,_⟩:=h;rfl
 ·obtain⟨p,dx,t,b,rfl,hp,hb,bb,k⟩:=h
  refine⟨_,(af (aO (aH df (pv 2) ae (aC _))
   (ah nX)
   aP)
   (af (aj (i:=3) sc_Ratio___init__.nd rfl (Or.inl rfl) (am uI (hr.mono) rfl rO sd uo .nil ai (aa (pv 1) (aa (pv 2) ac))))
   (af (aO (aH dc (pv 2) ae (aC _))
     (ah (aj (i:=3) sc_Ratio___init__.nd rfl (Or.inl rfl) (bY bT (pv 3))))
     aP)
   (af (li (pv 0) (al xq (pv 1) (pv 3)) rfl)
   (ah (li (pv 0) (al xq (pv 2) (pv 3)) rfl)))))),?_⟩
  refine bF ⟨_,rfl,_,_,rfl,rfl,_,rfl,aX (λh=>absurd h hb) (λ_=>?_)⟩;refine av ⟨_,rfl,_,rfl,t,b,rfl,?_⟩;refine fy (λσ' H'=>H=H'/\σ'=[some (.ref p),some (.int t),some (.int b),some (.int (dv t b))]) ?_ ?_
  ·rintro σ' H' ⟨rfl,rfl⟩;refine⟨_,rfl,_,rfl,_,_,rfl,rfl,⟨pf hb,zq hb bb⟩,_,rfl,p,C,dx,_,rfl,hp,R.cl,R.nT,by show 0<1000;decide,?_⟩;refine⟨_,rfl,_,rfl,_,_,rfl,rfl,⟨pf hb,zq hb bb⟩,_,rfl,p,C,dx,_,rfl,ao,R.cl,R.nB,by show 1<1000;decide,?_⟩;show Q .non (upd (upd H p _) p _);rw[mU];exact k
  ·intro rest;refine⟨_,rfl,_,_,rfl,rfl,_,rfl,?_⟩;refine aX (λh=>?_) (λh=>?_)
   ·refine⟨_,rfl,_,rfl,rest _ _ ⟨rfl,?_⟩⟩;have e:dv t b = -((Nat.gcd t.natAbs b.natAbs:Nat):Int):=by unfold dv;rw[if_pos h]
    rw[e];rfl
   ·refine rest _ _ ⟨rfl,?_⟩;have e:dv t b=((Nat.gcd t.natAbs b.natAbs:Nat):Int):=by unfold dv;rw[if_neg h]
    rw[e];rfl
def iC:Sp:=λvs H Q _=>∃x:Int,vs=[.int x]/\Q (.int (sg x)) H
theorem D8{f:Addr}{fd:FuncData}(F:Fun K "whole_sign" "whole_sign" iI f fd)(T:Txt K mg):FnOk P w K mg base CX0 1 f fd ["value"] iC:=by
 refine F.ok Ca (λvs H Q E h=>?_) (λcdv A outer s H vs Q E hr h=>?_)
 ·obtain⟨x,rfl,_⟩:=h;rfl
 ·obtain⟨x,rfl,k⟩:=h
  refine⟨_,(af (aO (aH dc (pv 0) ae (aC _))
   (ah (aw (bY bT ae)))
   aP)
   (af (aO (aH dD (pv 0) ae (aC _))
     (ah (aw ae))
     aP)
   (ah (aw ae)))),?_⟩
  refine bF ⟨_,rfl,_,_,rfl,rfl,_,rfl,aX (λh=>?_) (λh=>?_)⟩
  ·have e:sg x = -1:=by unfold sg;rw[if_pos h]
   rw[e]at k;exact⟨_,rfl,k⟩
  refine bF ⟨_,rfl,_,_,rfl,rfl,_,rfl,aX (λh'=>?_) (λh'=>?_)⟩
  ·have e:sg x=1:=by unfold sg;rw[if_neg h,if_pos h']
   rw[e]at k;exact k
  ·have e:sg x=0:=by unfold sg;rw[if_neg h,if_neg h']
   rw[e]at k;exact k
def nG(C:Addr):Sp:=λvs H Q _=>∃(p q:Addr) (t b u d:Int),vs=[.ref p,.ref q]/\RA C H p t b/\RA C H q u d/\Bits 100000 t/\Bits 100000 b/\Bits 100000 u/\Bits 100000 d/\Q (.int (sg (t*d-u*b))) H
theorem Fg{C f:Addr}{fd:FuncData}(F:Fun K "against" "Ratio.against" jK f fd)(T:Txt K mg)(R:RCI K mg C){gX:Addr}{gR:FuncData}(ip:Cal P w K mg base 1 "whole_sign" ["value"] iC gX gR):FnOk P w K mg base CX0 2 f fd ["self","other"] (nG C):=by
 obtain⟨ii,gC,gI,ib⟩:=ip;refine F.ok CB (λvs H Q E h=>?_) (λcdv A outer s H vs Q E hr h=>?_)
 ·obtain⟨p,q,t,b,u,d,rfl,_⟩:=h;rfl
 ·obtain⟨p,q,t,b,u,d,rfl,⟨dx,hp⟩,⟨dy,hq⟩,bt,bb,bu,bd,k⟩:=h;refine⟨_,(ah (aw (am ii (hr.mono) rfl gC gI ib .nil ai (aa (al cs (al aR (aJ (K:=K) rfl (pv 0) rfl) (aJ (K:=K) rfl (pv 1) rfl)) (al aR (aJ (K:=K) rfl (pv 1) rfl) (aJ (K:=K) rfl (pv 0) rfl))) ac)))),?_⟩;refine⟨_,rfl,p,C,dx,_,_,rfl,hp,R.cl,R.nT,cu _ _,_,rfl,q,C,dy,_,_,rfl,hq,R.cl,R.nB,bn _ _,_,_,rfl,rfl,⟨bt.mono,bd.mono⟩,?_⟩;exact⟨_,rfl,q,C,dy,_,_,rfl,hq,R.cl,R.nT,cu _ _,_,rfl,p,C,dx,_,_,rfl,hp,R.cl,R.nB,bn _ _,_,_,rfl,rfl,⟨bu.mono,bb.mono⟩,_,_,rfl,rfl,_,rfl,k⟩
theorem Ep{f:Addr}{fd:FuncData}(F:Fun K "poly" "poly" iY f fd)(T:Txt K mg):FnOk P w K mg base CX0 1 f fd ["row"] (iB K):=by
 refine F.ok sc_poly (λvs H Q E h=>?_) (λcdv A outer s H vs Q E hr h=>?_)
 ·obtain⟨a,ns,rfl,_⟩:=h;rfl
 ·obtain⟨a,ns,rfl,hS,k⟩:=h
  refine⟨_,(af (aj (i:=1) sc_poly.nd rfl (Or.inl rfl) (aQ (cp (K:=K) rfl) (by rfl) T.len_ PySem.boot_len (aa (pv 0) ac)))
   (af (fB PassesOwn.never (PW.pt (fA (aH dD (pv 1) ae (aC _)) (fz (aH df (aG (bK (K:=K) rfl) (pv 0) (al cs (pv 1) ae) (λ_ _=>rfl)) ae (aC _)))))
     (ah (aj (i:=1) sc_poly.nd rfl (Or.inl rfl) (al cs (pv 1) ae))))
   (ah (aw (oa (nJ (K:=K) rfl) (pv 0) n5 (nZ (pv 1))))))),?_⟩
  refine⟨_,rfl,a,_,rfl,.inl hS,?_⟩;refine⟨λm σ' H'=>∃n:Nat,n<=ns.length/\σ'=[some (.ref a),some (.int n)]/\H=H'/\n=m/\trim (ns.take n)=trim ns,⟨_,ns.length,M0 _,?_,rfl,rfl,?_⟩,?_⟩
  ·rw[MZ];rfl
  ·rw[N0]
  ·rintro m σ' H' ⟨n,hn,rfl,rfl,rfl,ht⟩
   have fin:trim (ns.take n)=ns.take n->∃v,([some (V.ref a),some (V.int n)]:St)[0]?=some (some v)/\∃v_1,([some (V.ref a),some (V.int n)]:St)[1]?=some (some v_1)/\∃i,v_1=V.int i/\qU K v none (some i) H Q:=λh=>by
    refine⟨_,rfl,_,rfl,n,rfl,a,_,rfl,hS,λp hp=>k p _ (Same.upd_new hp) hp ?_⟩;rw[ao,<- ht,h]
    have e:fN (ns.map V.int) none (some (n:Int))=(ns.take n).map V.int:=by unfold fN;rw[HT.sIx_none,HT.sIx_nat,Os,N4,MZ,Nat.min_eq_left hn,List.map_take]
    rw[e]
   refine⟨_,rfl,_,_,rfl,rfl,_,rfl,?_⟩;refine aX (λhp=>?_) (λhp=>?_)
   ·obtain⟨j,rfl⟩:∃j,n=j+1:=⟨n-1,by have:(0:Int)<n:=hp;omega⟩;have hj:j<ns.length:=hn;refine⟨_,rfl,_,rfl,_,_,rfl,rfl,a,_,j,.int (cf ns j),rfl,?_,hS,kq ?_,_,_,rfl,rfl,_,rfl,?_⟩
    ·show V.int (((j+1:Nat):Int)-1)=V.int j
     congr 1;omega
    ·rw[List.getElem?_map,gO hj];rfl
    refine aX (λh0=>?_) (λh0=>?_)
    ·refine⟨λσ'' H''=>∃m',m'<j+1/\∃n:Nat,n<=ns.length/\σ''=[some (.ref a),some (.int n)]/\H=H''/\n=m'/\trim (ns.take n)=trim ns,λ_ _ h=>h,?_⟩;refine⟨_,rfl,_,_,rfl,rfl,j,NV _,j,OC hj,?_,rfl,rfl,?_⟩
     ·show[some (V.ref a),some (V.int (((j+1:Nat):Int)-1))]=[some (V.ref a),some (V.int j)]
      congr 4;omega
     ·rw[<- ht,A3 hj h0]
    ·exact fin (A4 hj h0)
   ·obtain rfl:n=0:=by have:¬(0:Int)<n:=hp;omega
    exact fin (by rw[List.take_zero];rfl)
def iE:Sp:=λvs H Q _=>∃(a:Addr) (xs:List V),vs=[.ref a]/\H a=some (.lst xs)/\Q (.int ((xs.length:Int)-1)) H
theorem EI{f:Addr}{fd:FuncData}(F:Fun K "degree" "degree" jl f fd)(T:Txt K mg):FnOk P w K mg base CX0 1 f fd ["row"] iE:=by
 refine F.ok Cl (λvs H Q E h=>?_) (λcdv A outer s H vs Q E hr h=>?_)
 ·obtain⟨a,xs,rfl,_⟩:=h;rfl
 ·obtain⟨a,xs,rfl,hA,k⟩:=h;refine⟨_,(ah (aw (al cs (aQ (cp (K:=K) rfl) (by rfl) T.len_ PySem.boot_len (aa (pv 0) ac)) ae))),?_⟩;exact⟨_,rfl,a,_,rfl,.inl (SqL.of hA),_,_,rfl,rfl,k⟩
theorem EN{f:Addr}{fd:FuncData}(F:Fun K "coefficient" "coefficient" jo f fd)(T:Txt K mg):FnOk P w K mg base CX0 1 f fd ["row","place"] (fv K):=by
 refine F.ok Cn (λvs H Q E h=>?_) (λcdv A outer s H vs Q E hr h=>?_)
 ·obtain⟨a,ns,k,rfl,_⟩:=h;rfl
 ·obtain⟨a,ns,n,rfl,hS,k⟩:=h
  refine⟨_,(af (aO (aH dc (pv 1) (aQ (cp (K:=K) rfl) (by rfl) T.len_ PySem.boot_len (aa (pv 0) ac)) (aC _))
   (ah (aw (aG (bK (K:=K) rfl) (pv 0) (pv 1) (λ_ _=>rfl))))
   aP)
   (ah (aw ae))),?_⟩
  refine⟨_,rfl,_,rfl,a,_,rfl,.inl hS,_,_,rfl,rfl,_,rfl,?_⟩;refine aX (λh1=>?_) (λh1=>?_)
  ·rw[MZ]at h1;have h2:n<ns.length:=by omega
   refine⟨_,rfl,_,rfl,a,_,_,_,rfl,rfl,hS,kq (v:=.int (ns.getD n 0)) ?_,k⟩;rw[List.getElem?_map,List.getElem?_eq_getElem h2];simp[List.getD,h2]
  ·rw[MZ]at h1;have h2:ns.length<=n:=by omega
   have e:ns.getD n 0=0:=by simp[List.getD,List.getElem?_eq_none_iff.mpr h2]
   rw[e]at k;exact k
theorem Eb{f:Addr}{fd:FuncData}(F:Fun K "taken" "taken" iL f fd)(T:Txt K mg){gZ:Addr}{gT:FuncData}(ir:Cal P w K mg base 1 "poly" ["row"] (iB K) gZ gT){tI:Addr}{sT:FuncData}(uZ:Cal P w K mg base 1 "coefficient" ["row","place"] (fv K) tI sT):FnOk P w K mg base CX0 2 f fd ["first","second"] (iF K bU):=by
 obtain⟨ik,gE,gK,ie⟩:=ir;obtain⟨mI,lG,lN,mC⟩:=uZ;refine F.ok sc_taken (λvs H Q E h=>?_) (λcdv A outer s H vs Q E hr h=>?_)
 ·obtain⟨a,b,xs,ys,rfl,_⟩:=h;rfl
 ·obtain⟨a,b,xs,ys,rfl,hA,hB,hx,hy,k⟩:=h
  refine⟨_,(af (aj (i:=2) sc_taken.nd rfl (Or.inl rfl) (aQ (zW rfl) (by rfl) T.max_ PyProof.Rows.boot_max (aa (aQ (cp (K:=K) rfl) (by rfl) T.len_ PySem.boot_len (aa (pv 0) ac)) (aa (aQ (cp (K:=K) rfl) (by rfl) T.len_ PySem.boot_len (aa (pv 1) ac)) ac))))
   (ah (aw (am ik (hr.mono) rfl gE gK ie .nil ai (aa (fE (own:=["k"]) (fr:=["first","second"]) (js:=[0,1]) (by walk_at "comp_ok") rfl (fC rfl T.range_ (aa (pv 2) ac)) (λ_ _ _ _=>(aU (i:=0) (show List.Nodup (["k","first","second"]:List Str)from by decide +kernel) rfl (Or.inl rfl))) (λ_ _ _ _=>(al cs (am mI (hr.mono) rfl lG lN mC .nil ai (aa (pv 1) (aa (pv 0) ac))) (am mI (hr.mono) rfl lG lN mC .nil ai (aa (pv 2) (aa (pv 0) ac)))))) ac))))),?_⟩
  refine⟨_,rfl,a,_,rfl,.inl hA,_,rfl,b,_,rfl,.inl hB,_,_,rfl,?_⟩;rw[xX,MZ,MZ];have hz:max xs.length ys.length<=sizeLine:=by have:=sizeLine_eq;omega
  refine⟨_,rfl,_,rfl,(nI hz).1,(nI hz).2,ud (lo:=0) (n:=max xs.length ys.length) (λi zs σ' H'=>∃z:Option V,σ'=[z,some (.ref a),some (.ref b)]/\zs=((List.range i).map λk=>V.int (cf xs k-cf ys k))/\H=H') hz ⟨none,rfl,rfl,rfl⟩ ?_ ?_ ?_⟩
  ·rintro i zs σ' H' _ ⟨z,rfl,rfl,rfl⟩;simp
  ·rintro i zs σ' H' hi ⟨z,rfl,rfl,rfl⟩;refine⟨_,rfl,_,rfl,a,xs,i,?_,hA,_,rfl,_,rfl,b,ys,i,?_,hB,_,_,rfl,rfl,_,rfl,?_,rfl⟩
   ·show[V.ref a,V.int (0+(i:Int))]=_;rw[NF]
   ·show[V.ref b,V.int (0+(i:Int))]=_;rw[NF]
   ·rw[List.range_succ,No];rfl
  ·rintro zs σ' H' p ⟨z,rfl,rfl,rfl⟩ hp;refine⟨p,(List.range (max xs.length ys.length)).map λk=>cf xs k-cf ys k,rfl,SqL.of ?_,?_⟩
   ·rw[ao,NH];rfl
   ·intro p' H' sm hp' e;refine k p' H' ((Same.upd_new hp).trans sm) ((Same.upd_new hp).free hp') ?_;rw[e,Bw]
def sp1(g:List Int->List Int):Sp:=λvs H Q _=>∃(a:Addr) (ns:List Int),vs=[.ref a]/\H a=some (.lst (ns.map V.int))/\ns.length<=100000/\AllB 100000 ns/\mkL H Q (g ns)
theorem Fx{k:Nat}{n:Nat}(h:n<2^k):Bits k (n:Int):=by show((n:Int)).natAbs<2^k;rw[Nr];exact h
theorem BH{n:Nat}(h:n<=1000000):Bits 1000000 (n:Int):=(Fx (k:=20) (OO h (by decide))).mono
theorem Df(f:Nat->V)(i:Nat):(List.range i).map f++[f i]=(List.range (i+1)).map f:=by rw[List.range_succ,No];rfl
theorem Ef{f:Addr}{fd:FuncData}(F:Fun K "slope" "slope" iP f fd)(T:Txt K mg):FnOk P w K mg base CX0 1 f fd ["row"] (sp1 slopeL):=by
 refine F.ok Cd (λvs H Q E h=>?_) (λcdv A outer s H vs Q E hr h=>?_)
 ·obtain⟨a,ns,rfl,_⟩:=h;rfl
 ·obtain⟨a,ns,rfl,hA,hn,hb,k⟩:=h;have big:=sizeLine_eq;refine⟨_,(ah (aw (fE (own:=["k"]) (fr:=["row"]) (js:=[0]) (by walk_at "comp_ok") rfl (DH rfl T.range_ (aa ae (aa (aQ (cp (K:=K) rfl) (by rfl) T.len_ PySem.boot_len (aa (pv 0) ac)) ac))) (λ_ _ _ _=>(aU (i:=0) (show List.Nodup (["k","row"]:List Str)from by decide +kernel) rfl (Or.inl rfl))) (λ_ _ _ _=>(al aR (pv 0) (aG (bK (K:=K) rfl) (pv 1) (pv 0) (λ_ _=>rfl))))))),?_⟩;have hl:(ns.map V.int).length=ns.length:=MZ _;refine aZ ⟨_,rfl,a,_,rfl,.inl (SqL.of hA),1,_,rfl,⟨by decide,by decide,by rw[hl];omega,by rw[hl];omega⟩,ud (lo:=1) (λi ys σ' H'=>∃z:Option V,σ'=[z,some (.ref a)]/\ys=((List.range i).map λ(j:Nat)=>V.int (((j:Int)+1)*cf ns (j+1)))/\H=H') (by rw[hl];omega) ⟨none,rfl,rfl,rfl⟩ ?_ ?_ ?_⟩
  ·rintro i ys σ' H' _ ⟨z,rfl,rfl,rfl⟩;simp
  ·rintro i ys σ' H' hi ⟨z,rfl,rfl,rfl⟩;rw[hl]at hi;have hi':i+1<ns.length:=by omega
   have e0:(1:Int)+(i:Int)=((i+1:Nat):Int):=by omega
   refine⟨_,rfl,_,rfl,_,rfl,a,_,_,_,rfl,rfl,SqL.of hA,ko e0 hi',_,_,rfl,rfl,⟨by rw[e0];exact BH (by omega),(hb.cf _).mono⟩,_,rfl,?_,rfl⟩;rw[<- Df];show _++[V.int ((1+(i:Int))*cf ns (i+1))]=_;rw[Int.add_comm 1]
  ·rintro ys σ' H' p ⟨z,rfl,rfl,rfl⟩ hp;refine k p _ (Same.upd_new hp) hp ?_;have en:(((ns.map V.int).length:Int)-1).toNat=ns.length-1:=by rw[hl];omega
   rw[ao,en];unfold RM.slopeL;rw[NH];rfl
def nh:Sp:=λvs H Q _=>∃(a:Addr) (ns:List Int),vs=[.ref a]/\H a=some (.lst (ns.map V.int))/\Tr ns/\ns.length<=1000000/\mkL H Q (ak ns)
theorem HV{ns:List Int}(ht:Tr ns)(hne:ns≠[]):0<(au ns:Int):=by
 obtain⟨r,x,rfl⟩:=(cF ns).resolve_left hne;have hx:x≠0:=tr_snoc.mp ht;have hm:x∈r++[x]:=by simp
 have h1:0<au (r++[x]):=Nat.pos_of_dvd_of_pos (o7 hm) (Oa.mpr hx);omega
theorem Eh{f:Addr}{fd:FuncData}(F:Fun K "shrunk" "shrunk" gd f fd)(T:Txt K mg)(hNS:base.NoSeer)(hTr:P.given.tree=none){tD:Addr}{sP:FuncData}(uV:Cal P w K mg base 2 "shared" ["row"] (ni K) tD sP):FnOk P w K mg base CX0 33 f fd ["row"] nh:=by
 obtain⟨uJ,rP,se,uq⟩:=uV;refine F.ok sc_shrunk (λvs H Q E h=>?_) (λcdv A outer s H vs Q E hr h=>?_)
 ·obtain⟨a,ns,rfl,_⟩:=h;rfl
 ·obtain⟨a,ns,rfl,hA,ht,hn,k⟩:=h;have big:=sizeLine_eq;have hdp:(A.deeper (PyProof.Rows.envOfC (Str.ofString "shrunk") (ag gd) s.heap.objs.size f cdv)).depth+100<recursionLimit:=by have:=hr.dp;omega
  refine⟨_,(af (aj (i:=1) sc_shrunk.nd rfl (Or.inr rfl) (am uJ (hr.mono) rfl rP se uq .nil ai (aa (pv 0) ac)))
   (ah (aw (fE (own:=["value"]) (fr:=["divisor"]) (js:=[1]) (by walk_at "comp_ok") rfl (dA (K:=K) rfl (pv 0)) (λ_ _ _ _=>(aU (i:=0) (show List.Nodup (["value","divisor"]:List Str)from by decide +kernel) rfl (Or.inl rfl))) (λ_ _ _ _=>(al (D3 hNS hTr hdp rfl rfl rfl rfl rfl) (pv 0) (pv 1))))))),?_⟩
  refine av ⟨_,rfl,a,ns,rfl,SqL.of hA,?_⟩;refine aZ ⟨_,rfl,a,rfl,⟨_,SqL.of hA⟩,mk (K:=K) (a:=a) (xs:=ns.map V.int) (λi ys σ' H'=>∃(z0:Option V),σ'=[z0,some (.int (au ns:Nat))]/\ys=((ns.take i).map λx=>x/(au ns:Int)).map V.int/\H=H') (by rw[MZ];omega) ⟨none,rfl,rfl,rfl⟩ ?_ ?_ ?_⟩
  ·rintro i ys σ' H' _ ⟨z0,rfl,rfl,rfl⟩;exact⟨SqL.of hA,by rw[MZ,MZ,NW];exact Nat.min_le_left _ _⟩
  ·rintro i x ys σ' H' hi ⟨z0,rfl,rfl,rfl⟩;rw[List.getElem?_map]at hi;cases e:ns[i]? with
   |none=>rw[e]at hi;cases hi
   |some c =>rw[e]at hi;obtain rfl:=Option.some.inj hi;have g1:=HV ht (λz=>by rw[z]at e;simp at e);refine⟨_,rfl,_,rfl,_,_,rfl,rfl,g1,_,rfl,?_,rfl⟩;rw[NO,e];simp
  ·rintro ys σ' H' p ⟨z0,rfl,rfl,rfl⟩ hp;refine k p _ (Same.upd_new hp) hp ?_;rw[ao,MZ,N0];rfl
def kK:Sp:=λvs H Q _=>∃(a:Addr) (ns:List Int),vs=[.ref a]/\H a=some (.lst (ns.map V.int))/\Tr ns/\ns.length<=1000000/\mkL H Q (ay ns)
theorem Aj(r:List Int)(x:Int):atI ((r++[x]).map V.int) (-1)=some (.int x):=by rw[No];exact uB _ _
theorem Er{f:Addr}{fd:FuncData}(F:Fun K "plain" "plain" iZ f fd)(T:Txt K mg){tu:Addr}{sN:FuncData}(uT:Cal P w K mg base 33 "shrunk" ["row"] nh tu sN):FnOk P w K mg base CX0 34 f fd ["row"] kK:=by
 obtain⟨mG,lD,lJ,mx⟩:=uT;refine F.ok sc_plain (λvs H Q E h=>?_) (λcdv A outer s H vs Q E hr h=>?_)
 ·obtain⟨a,ns,rfl,_⟩:=h;rfl
 ·obtain⟨a,ns,rfl,hA,ht,hn,k⟩:=h;have big:=sizeLine_eq;have hu:=hr.units
  refine⟨_,(af (aj (i:=1) sc_plain.nd rfl (Or.inl rfl) (am mG (hr.mono) rfl lD lJ mx .nil ai (aa (pv 0) ac)))
   (af (aO (PW.pt (fA (aH (jX (K:=K) rfl hu) (pv 1) (aT ac) (aC _)) (fz (aH dc (aG (bK (K:=K) rfl) (pv 1) (bY bT ae) (λ_ _=>rfl)) ae (aC _)))))
     (ah (aw (fE (own:=["value"]) (fr:=[]) (js:=[]) (by walk_at "comp_ok") rfl (dA (K:=K) rfl (pv 1)) (λ_ _ _ _=>(aU (i:=0) (show List.Nodup (["value"]:List Str)from by decide +kernel) rfl (Or.inl rfl))) (λ_ _ _ _=>(bY bT (pv 0))))))
     aP)
   (ah (aw (pv 1))))),?_⟩
  refine av ⟨_,rfl,a,ns,rfl,hA,ht,hn,λp H1 s1 hp e1=>?_⟩;have hsl:(ak ns).length=ns.length:=MZ _;have done:cn (ak ns)=ak ns->Q (.ref p) H1:=λe=>k p H1 s1 hp (by rw[e1];show _=some (HO.lst ((cn (ak ns)).map V.int));rw[e])
  refine fy (λσ' H'=>σ'=[some (.ref a),some (.ref p)]/\Same H H'/\H' p=some (.lst ((ak ns).map V.int))/\cn (ak ns)=ak ns) ?_ ?_
  ·rintro σ' H' ⟨rfl,s2,e2,e3⟩;exact⟨_,rfl,k p H' s2 hp (by rw[e2];show _=some (HO.lst ((cn (ak ns)).map V.int));rw[e3])⟩
  intro rest;refine gm ⟨_,rfl,M9 _,λq hq=>?_⟩;have s2:Same H (upd H1 q (.lst [])):=s1.then_new hq;have e2:upd H1 q (.lst []) p=some (.lst ((ak ns).map V.int)):=by rw[upd_ne (aN e1 hq)];exact e1
  refine⟨p,q,ak ns,[],rfl,rfl,SqL.of e2,SqL.of ao,_,rfl,?_⟩;refine cG (λhne=>?_) (λhe=>?_)
  ·obtain⟨r,x,er⟩:=(cF (ak ns)).resolve_left hne;refine⟨_,rfl,_,rfl,p,_,_,.int x,rfl,rfl,SqL.of e2,(by rw[er];exact Aj r x),_,_,rfl,rfl,_,rfl,?_⟩;have elast:ap (ak ns)=x:=by rw[er,cL]
   refine aX (λhx=>?_) (λhx=>?_)
   ·have hx':x<0:=hx;have epos:cn (ak ns)=(ak ns).map λx => -x:=by unfold cn;rw[elast,if_pos hx']
    refine aZ ⟨_,rfl,p,rfl,⟨_,SqL.of e2⟩,mk (K:=K) (a:=p) (xs:=(ak ns).map V.int) (λi ys σ' H'=>∃(z0:Option V),σ'=[z0]/\ys=(((ak ns).take i).map λx => -x).map V.int/\upd H1 q (.lst [])=H') (by rw[MZ,hsl];omega) ⟨none,rfl,rfl,rfl⟩ ?_ ?_ ?_⟩
    ·rintro i ys σ' H' _ ⟨z0,rfl,rfl,rfl⟩;exact⟨SqL.of e2,by rw[MZ,MZ,NW];exact Nat.min_le_left _ _⟩
    ·rintro i x ys σ' H' hi ⟨z0,rfl,rfl,rfl⟩;rw[List.getElem?_map]at hi;cases e:(ak ns)[i]? with
     |none=>rw[e]at hi;cases hi
     |some c =>rw[e]at hi;obtain rfl:=Option.some.inj hi;refine⟨_,rfl,_,rfl,_,rfl,?_,rfl⟩;rw[NO,e];simp
    ·rintro ys σ' H' p' ⟨z0,rfl,rfl,rfl⟩ hp';refine k p' _ (s2.then_new hp') (s2.free hp') ?_;rw[ao,MZ,N0];show _=some (HO.lst ((cn (ak ns)).map V.int));rw[epos]
   ·exact rest _ _ ⟨rfl,s2,e2,by unfold cn;rw[elast,if_neg hx]⟩
  ·have he':ak ns=[]:=he;exact rest _ _ ⟨rfl,s2,e2,by rw[he'];rfl⟩
def qe:Sp:=λvs H Q _=>∃(a:Addr) (xs:List Int) (c:Int),vs=[.ref a,.int c]/\H a=some (.lst (xs.map V.int))/\xs.length<=1000000/\Bits 1000000 c/\AllB 1000000 xs/\mkL H Q (scL c xs)
theorem Ek{f:Addr}{fd:FuncData}(F:Fun K "scaled" "scaled" iT f fd)(T:Txt K mg):FnOk P w K mg base CX0 1 f fd ["row","factor"] qe:=by
 refine F.ok Cf (λvs H Q E h=>?_) (λcdv A outer s H vs Q E hr h=>?_)
 ·obtain⟨a,xs,c,rfl,_⟩:=h;rfl
 ·obtain⟨a,xs,c,rfl,hA,hn,bc,bx,k⟩:=h;have big:=sizeLine_eq;refine⟨_,(ah (aw (fE (own:=["value"]) (fr:=["factor"]) (js:=[1]) (by walk_at "comp_ok") rfl (dA (K:=K) rfl (pv 0)) (λ_ _ _ _=>(aU (i:=0) (show List.Nodup (["value","factor"]:List Str)from by decide +kernel) rfl (Or.inl rfl))) (λ_ _ _ _=>(al aR (pv 1) (pv 0)))))),?_⟩;refine aZ ⟨_,rfl,a,rfl,⟨_,SqL.of hA⟩,mk (K:=K) (a:=a) (xs:=xs.map V.int) (λi ys σ' H'=>∃(z0:Option V),σ'=[z0,some (.int c)]/\ys=(scL c (xs.take i)).map V.int/\H=H') (by rw[MZ];omega) ⟨none,rfl,rfl,rfl⟩ ?_ ?_ ?_⟩
  ·rintro i ys σ' H' _ ⟨z0,rfl,rfl,rfl⟩;exact⟨SqL.of hA,by rw[MZ,bJ,NW];exact Nat.min_le_left _ _⟩
  ·rintro i x ys σ' H' hi ⟨z0,rfl,rfl,rfl⟩;obtain⟨y,_,rfl,hm,et⟩:=gN hi;refine⟨_,rfl,_,rfl,_,_,rfl,rfl,⟨bc,bx y hm⟩,_,rfl,?_,rfl⟩;rw[et];simp[scL]
  ·rintro ys σ' H' p ⟨z0,rfl,rfl,rfl⟩ hp;refine k p _ (Same.upd_new hp) hp ?_;rw[ao,MZ,N0]
theorem zz(ms:List Int):fO ms none (some (-1))=ms.take (ms.length-1):=by
 unfold fO;rw[HT.sIx_none,Os,N4]
 congr 1
 show(if(-1:Int)<0 then((-1:Int)+(ms.length:Int)).toNat else min (-1:Int).toNat ms.length)=_;rw[if_pos (by decide)];omega
theorem zP{ms:List Int}{n k:Nat}:cf (ms.take n) k=if k<n then cf ms k else 0:=by
 unfold cf;by_cases h:k<n
 ·rw[if_pos h];simp[List.getD,List.getElem?_take,h]
 ·rw[if_neg h];simp[List.getD,List.getElem?_take,h]
def qv:Sp:=λvs H Q _=>∃(a b:Addr) (rs ys:List Int) (p:Nat) (l:Int),vs=[.ref a,.ref b,.int p,.int l]/\H a=some (.lst (rs.map V.int))/\H b=some (.lst (ys.map V.int))/\rs.length=p+ys.length/\ys≠[]/\Bits 1000000 l/\AllB 1000000 ys/\mkL H Q (gG rs ys p l)
theorem Ez{f:Addr}{fd:FuncData}(F:Fun K "lowered" "lowered" jd f fd)(T:Txt K mg):FnOk P w K mg base CX0 1 f fd ["row","second","place","lead"] qv:=by
 refine F.ok sc_lowered (λvs H Q E h=>?_) (λcdv A outer s H vs Q E hr h=>?_)
 ·obtain⟨a,b,rs,ys,p,l,rfl,_⟩:=h;rfl
 ·obtain⟨a,b,rs,ys,p,l,rfl,hA,hB,hl,hy,bl,by',k⟩:=h;have hyl:=M5.mpr hy
  refine⟨_,(af (aj (i:=4) sc_lowered.nd rfl (Or.inl rfl) (oa (nJ (K:=K) rfl) (pv 0) n5 (nZ (bY bT ae))))
   (af (ck PassesOwn.never rfl (re rfl T.enumerate_ (aa (oa (nJ (K:=K) rfl) (pv 1) n5 (nZ (bY bT ae))) ac)) (n9 rfl (dB (aU (i:=5) sc_lowered.nd rfl (Or.inl rfl)) (dB (aU (i:=6) sc_lowered.nd rfl (Or.inl rfl)) ln)))
     (ah (jT (al cs (aG (bK (K:=K) rfl) (pv 4) (al bR (pv 2) (pv 5)) (λ_ _=>rfl)) (al aR (pv 3) (pv 6))) (lu (pv 4) (al bR (pv 2) (pv 5)) kS))))
   (ah (aw (pv 4))))),?_⟩
  refine av ⟨_,rfl,_,rfl,_,rfl,a,_,rfl,SqL.of hA,λkp hkp=>?_⟩;rw[ua,zz];have s1:=Same.upd_new (o:=.lst ((rs.take (rs.length-1)).map V.int)) hkp;have nkb:b≠kp:=aN hB hkp;refine⟨_,rfl,_,rfl,_,rfl,b,_,rfl,SqL.of (s1 _ _ hB),λp2 hp2=>?_⟩;rw[ua,zz];have n2:kp≠p2:=aN ao hp2;generalize hH2:upd (upd H kp (.lst ((rs.take (rs.length-1)).map V.int))) p2 (.lst ((ys.take (ys.length-1)).map V.int))=H2;have hk2:H2 kp=some (.lst ((rs.take (rs.length-1)).map V.int)):=by rw[<- hH2,upd_ne n2,ao]
  have hq2:H2 p2=some (.lst ((ys.take (ys.length-1)).map V.int)):=by rw[<- hH2,ao]
  have s2:Same H H2:=by rw[<- hH2];exact s1.then_new hp2
  have lt:(rs.take (rs.length-1)).length=rs.length-1:=by rw[NW];omega
  have lty:(ys.take (ys.length-1)).length=ys.length-1:=by rw[NW];omega
  refine⟨p2,rfl,⟨_,SqL.of hq2⟩,sI (K:=K) (a:=p2) (xs:=(ys.take (ys.length-1)).map V.int) (λi σ' H'=>∃(acc:List Int) (z5 z6:Option V),σ'=[some (.ref a),some (.ref b),some (.int p),some (.int l),some (.ref kp),z5,z6]/\SameB kp H2 H'/\H' kp=some (.lst (acc.map V.int))/\acc.length=rs.length-1/\∀n,n<acc.length->cf acc n=cf rs n-(if p<=n/\n-p<i then l*cf ys (n-p)else 0))
   ⟨_,none,none,rfl,SameB.refl _ _,hk2,lt,λn hn=>by rw[zP,if_pos (by omega),if_neg (by omega)];omega⟩ ?_ ?_ ?_⟩
  ·rintro i σ' H' _ ⟨acc,z5,z6,rfl,sb,_⟩;exact SqL.of (sb _ _ (Ne.symm n2) hq2)
  ·rintro i x σ' H' q hi ⟨acc,z5,z6,rfl,sb,hpa,hal,hac⟩ hq
   have hil:i<ys.length-1:=by apply Classical.byContradiction;intro hn;rw[List.getElem?_eq_none_iff.mpr (by rw[MZ,lty];omega)]at hi;cases hi
   rw[List.getElem?_map,gO (by rw[lty];exact hil),zP,if_pos hil]at hi;obtain rfl:=Option.some.inj hi;refine⟨q,_,rfl,SqT.of ao,rfl,_,_,rfl,_,_,rfl,rfl,?_⟩;have nqp:kp≠q:=aN hpa hq;have hpa':upd H' q (.tup [.int i,.int (cf ys i)]) kp=some (.lst (acc.map V.int)):=by rw[upd_ne nqp];exact hpa
   have hpi:p+i<acc.length:=by omega
   have epi:((p:Nat):Int)+((i:Nat):Int)=((p+i:Nat):Int):=by omega
   refine⟨_,rfl,_,rfl,_,rfl,_,_,rfl,rfl,kp,_,_,_,rfl,rfl,SqL.of hpa',ko epi hpi,_,rfl,_,rfl,_,_,rfl,rfl,⟨bl,by'.cf i⟩,_,_,rfl,rfl,_,rfl,_,rfl,_,rfl,_,_,rfl,rfl,kp,_,_,p+i,rfl,rfl,hpa',lQ epi (by rw[MZ];exact hpi),?_⟩;refine⟨acc.set (p+i) (cf acc (p+i)-l*cf ys i),_,_,rfl,(sb.then_new hq).then_upd,by rw[ao,oG],by rw[Ou];exact hal,λn hn=>?_⟩;rw[Ou]at hn;rw[ml hpi];by_cases e:n=p+i
   ·subst e;rw[if_pos rfl,hac _ hpi,if_neg (by omega),if_pos (by omega),Nat.add_sub_cancel_left];omega
   ·rw[if_neg e,hac n hn];by_cases h1:p<=n/\n-p<i
    ·rw[if_pos h1,if_pos (by omega)]
    ·rw[if_neg h1,if_neg (by omega)]
  ·rintro σ' H' ⟨acc,z5,z6,rfl,sb,hpa,hal,hac⟩;rw[MZ,lty]at hac;refine⟨_,rfl,k kp H' (λb' o e=>sb b' o (aN e hkp) (s2 b' o e)) hkp ?_⟩;rw[hpa]
   have e:acc=gG rs ys p l:=by
    apply cY
    ·rw[hal,yc]
    ·intro n hn;have hn':n<rs.length-1:=by omega
     rw[hac n hn,pC,if_pos hn'];by_cases h1:p<=n
     ·have h2:p<=n/\n-p<ys.length-1:=⟨h1,by omega⟩;rw[if_pos h1,if_pos h2]
     ·have h2:¬(p<=n/\n-p<ys.length-1):=λz=>h1 z.1
      rw[if_neg h1,if_neg h2]
   rw[e]
theorem AllB.of_cf{k:Nat}{l:List Int}(h:∀n,Bits k (RM.cf l n)):AllB k l:=λx hx=>by
 obtain⟨i,hi,rfl⟩:=List.mem_iff_getElem.mp hx;have:=h i
 rwa [cZ hi]at this
theorem uC{k:Nat}{x:Int}(h:Bits k x):Bits k ((x.natAbs:Nat):Int):=h.of_le (by rw[Nr];exact M0 _)
theorem sg_bits{x:Int}:Bits 1 (sg x):=by show(sg x).natAbs<2^1;unfold sg;split<;>(try split)<;>decide
theorem kQ{k:Nat}{x y:Int}(h:Bits k y):Bits k (sg x*y):=h.of_le (by
 rw[Ni];have h2:(sg x).natAbs<=1:=by unfold sg;split<;>(try split)<;>decide
 calc (sg x).natAbs*y.natAbs<=1*y.natAbs:=NK _ h2
  _=y.natAbs:=Nat.one_mul _)
theorem zv{xs ys:List Int}{b:Nat}(hx:AllB b xs)(hy:AllB b ys):∀i,AllB (b+i*(b+1)) (aL xs ys i).1/\AllB (b+i*(b+1)) (aL xs ys i).2
 |0=>by rw[Nat.zero_mul];exact⟨AllB.zeros,hx⟩
 |i+1=>by
  obtain⟨h1,h2⟩:=zv hx hy i;have e:b+(i+1)*(b+1)=b+i*(b+1)+b+1:=by rw[Nat.succ_mul];omega
  have hs:Bits b (((RM.cf ys (ys.length-1)).natAbs:Nat):Int):=uC (hy.cf _);rw[e];show AllB _ (cH ys (aL xs ys i) _).1/\AllB _ (cH ys (aL xs ys i) _).2;unfold cH;dsimp only
  constructor
  ·intro x hx;rcases List.mem_or_eq_of_mem_set hx with h |rfl
   ·obtain⟨y,hy',rfl⟩:=Nc.mp h;have:=hs.mul (h1 y hy');exact this.mono (by omega)
   ·exact(kQ (h2.cf _)).mono (by omega)
  ·refine AllB.of_cf λn=>?_
   rw[pC];by_cases hn:n<(scL (((RM.cf ys (ys.length-1)).natAbs:Nat):Int) (aL xs ys i).2).length-1
   ·rw[if_pos hn,aY]
    have m1:Bits (b+i*(b+1)+b) ((((RM.cf ys (ys.length-1)).natAbs:Nat):Int)*RM.cf (aL xs ys i).2 n):=by have:=hs.mul (h2.cf n);rwa [Nat.add_comm]at this
    refine m1.sub ?_;by_cases hp:(xs.length+1-ys.length-1-i)<=n
    ·rw[if_pos hp];exact(kQ (h2.cf _)).mul (hy.cf _)
    ·rw[if_neg hp];exact Bits.zero
   ·rw[if_neg hn];exact Bits.zero
theorem ia{k:Nat}{b:Int}(h:Bits k b):∀n,Bits (k*n+1) (b^n)
 |0=>by show((b^0:Int)).natAbs<2^(k*0+1);rw[NP,Nat.mul_zero];decide
 |n+1=>by rw[Nn];have:=(ia h n).mul h;exact this.mono (by rw[Nat.mul_succ];omega)
def FG(H:Hp)(Q:VK)(xs ys:List Int):Prop:=∀(t q r:Addr) (H':Hp),Same H H'->H t=none->H q=none->H r=none->q≠r->q≠t->r≠t->H' t=some (.tup [.int (bC xs ys),.ref q,.ref r])->H' q=some (.lst ((bv xs ys).map V.int))->H' r=some (.lst ((aK xs ys).map V.int))->Q (.ref t) H'
def kL:Sp:=λvs H Q _=>∃(a b:Addr) (xs ys:List Int) (n:Nat),vs=[.ref a,.ref b]/\H a=some (.lst (xs.map V.int))/\H b=some (.lst (ys.map V.int))/\ys≠[]/\AllB n xs/\AllB n ys/\(xs.length+2)*(n+1)<=1000000/\ys.length<=1000000/\FG H Q xs ys
theorem uA{l:List Int}(h:l≠[]):atI (l.map V.int) (-1)=some (.int (cf l (l.length-1))):=by
 obtain⟨r,x,rfl⟩:=(cF l).resolve_left h;have e:(r++[x]).length-1=r.length:=by simp
 rw[e,ki,No];exact uB _ _
theorem EH{f:Addr}{fd:FuncData}(F:Fun K "divided" "divided" jk f fd)(T:Txt K mg){gX:Addr}{gR:FuncData}(ip:Cal P w K mg base 1 "whole_sign" ["value"] iC gX gR){g7:Addr}{gU:FuncData}(iu:Cal P w K mg base 1 "degree" ["row"] iE g7 gU){Jk:Addr}{Iv:FuncData}(Ml:Cal P w K mg base 1 "scaled" ["row","factor"] qe Jk Iv){Ju:Addr}{IF:FuncData}(Mv:Cal P w K mg base 1 "lowered" ["row","second","place","lead"] qv Ju IF){gZ:Addr}{gT:FuncData}(ir:Cal P w K mg base 1 "poly" ["row"] (iB K) gZ gT):FnOk P w K mg base CX0 2 f fd ["first","second"] kL:=by
 obtain⟨ii,gC,gI,ib⟩:=ip;obtain⟨dJ,dG,dH,dI⟩:=iu;obtain⟨Av,xY,yh,Ad⟩:=Ml;obtain⟨LO,Go,Hb,KN⟩:=Mv;obtain⟨ik,gE,gK,ie⟩:=ir;refine F.ok sc_divided (λvs H Q E h=>?_) (λcdv A outer s H vs Q E hr h=>?_)
 ·obtain⟨a,b,xs,ys,n,rfl,_⟩:=h;rfl
 ·obtain⟨a,b,xs,ys,nb,rfl,hA,hB,hy,bx,by',hsz,hyn,k⟩:=h;have big:=sizeLine_eq;have hu:=hr.units;have hyl:=M5.mpr hy
  have hxl:xs.length<=1000000:=by have:=Oo (xs.length+2) (show 1<=nb+1 by omega);omega
  have bsz:∀i,i<=xs.length->nb+i*(nb+1)<=1000000:=λi hi=>by have h1:=NK (nb+1) hi;rw[Nat.add_mul]at hsz;omega
  have hnb:nb<=1000000:=by have:=bsz 0 (M9 _);omega
  refine⟨_,(af (aO (aH (lx (K:=K) rfl hu) (pv 1) (aT ac) (aC _))
   (ah nX)
   aP)
   (af (aj (i:=2) sc_divided.nd rfl (Or.inl rfl) (aQ fU (by rfl) T.abs_ PyProof.Rows.boot_abs (aa (aG (bK (K:=K) rfl) (pv 1) (bY bT ae) (λ_ _=>rfl)) ac)))
   (af (aj (i:=3) sc_divided.nd rfl (Or.inl rfl) (am ii (hr.mono) rfl gC gI ib .nil ai (aa (aG (bK (K:=K) rfl) (pv 1) (bY bT ae) (λ_ _=>rfl)) ac)))
   (af (aj (i:=4) sc_divided.nd rfl (Or.inl rfl) (al bR (al cs (am dJ (hr.mono) rfl dG dH dI .nil ai (aa (pv 0) ac)) (am dJ (hr.mono) rfl dG dH dI .nil ai (aa (pv 1) ac))) ae))
   (af (aj (i:=5) sc_divided.nd rfl (Or.inl rfl) ae)
   (af (aj (i:=6) sc_divided.nd rfl (Or.inl rfl) (al rk (aT (aa ae ac)) (pv 4)))
   (af (aj (i:=7) sc_divided.nd rfl (Or.inl rfl) (rg (uh (K:=K) rfl) (by rfl) T.list_ PyProof.Rows.boot_list (aa (pv 0) ac)))
   (af (ck PassesOwn.never rfl (xh rfl T.range_ (aa (al cs (pv 4) ae) (aa (bY bT ae) (aa (bY bT ae) ac)))) (aU (i:=8) sc_divided.nd rfl (Or.inl rfl))
     (af (aj (i:=9) sc_divided.nd rfl (Or.inl rfl) (al aR (pv 3) (aG (bK (K:=K) rfl) (pv 7) (bY bT ae) (λ_ _=>rfl))))
       (af (aj (i:=5) sc_divided.nd rfl (Or.inl rfl) (al aR (pv 5) (pv 2)))
       (af (aj (i:=6) sc_divided.nd rfl (Or.inl rfl) (am Av (hr.mono) rfl xY yh Ad .nil ai (aa (pv 6) (aa (pv 2) ac))))
       (af (jT (pv 9) (lu (pv 6) (pv 8) kS))
       (ah (aj (i:=7) sc_divided.nd rfl (Or.inl rfl) (am LO (hr.mono) rfl Go Hb KN .nil ai (aa (am Av (hr.mono) rfl xY yh Ad .nil ai (aa (pv 7) (aa (pv 2) ac))) (aa (pv 1) (aa (pv 8) (aa (pv 9) ac))))))))))))
   (ah (aw (cQ (aa (pv 5) (aa (pv 6) (aa (am ik (hr.mono) rfl gE gK ie .nil ai (aa (pv 7) ac)) ac)))))))))))))),?_⟩
  refine bF ⟨_,rfl,M9 _,λp1 hp1=>?_⟩;have s1:Same H (upd H p1 (.lst [])):=Same.upd_new hp1;refine⟨b,p1,ys,[],rfl,rfl,SqL.of (s1 _ _ hB),SqL.of ao,_,rfl,aX (λh0=>absurd h0 hy) (λ_=>?_)⟩;generalize upd H p1 (.lst [])=H1 at s1 ⊢
  refine av ⟨_,rfl,_,rfl,b,_,_,_,rfl,rfl,SqL.of (s1 _ _ hB),uA hy,_,rfl,?_⟩;rw[mF];refine av ⟨_,rfl,_,rfl,b,_,_,_,rfl,rfl,SqL.of (s1 _ _ hB),uA hy,_,rfl,?_⟩;refine av ⟨_,rfl,a,_,rfl,s1 _ _ hA,_,rfl,b,_,rfl,s1 _ _ hB,_,_,rfl,rfl,_,_,rfl,rfl,?_⟩;dsimp only
  rw[MZ,MZ];have est:((xs.length:Int)-1-((ys.length:Int)-1)+1).toNat=aS xs ys:=by unfold aS;omega
  generalize hst:((xs.length:Int)-1-((ys.length:Int)-1)+1)=st at est ⊢
  refine av ?_;refine av ⟨by show 1<=sizeLine;decide,λp2 hp2=>⟨_,rfl,p2,_,_,rfl,rfl,ao,by omega,by omega,by show 1*_<=_;omega,λq hq=>?_⟩⟩;rw[est,qP];have s2:=s1.then_new (o:=.lst [V.int 0]) hp2;have s3:=s2.then_new (o:=.lst ((List.replicate (aS xs ys) (0:Int)).map V.int)) hq;have fq:H q=none:=s2.free hq;refine av ⟨_,rfl,a,_,rfl,.inl (SqL.of (s3 _ _ hA)),λr hr'=>?_⟩;have hq3:upd (upd H1 p2 (.lst [V.int 0])) q (.lst ((List.replicate (aS xs ys) (0:Int)).map V.int)) q=some (.lst ((List.replicate (aS xs ys) (0:Int)).map V.int)):=ao;have s4:=s3.then_new (o:=.lst (xs.map V.int)) hr';have fr:H r=none:=s3.free hr';have nqr:q≠r:=aN hq3 hr';generalize hH4:upd (upd (upd H1 p2 (.lst [V.int 0])) q (.lst ((List.replicate (aS xs ys) (0:Int)).map V.int))) r (.lst (xs.map V.int))=H4 at s4 ⊢
  have hq4:H4 q=some (.lst ((List.replicate (aS xs ys) (0:Int)).map V.int)):=by rw[<- hH4,upd_ne nqr];exact hq3
  have hr4:H4 r=some (.lst (xs.map V.int)):=by rw[<- hH4,ao]
  have hs:Bits nb (((cf ys (ys.length-1)).natAbs:Nat):Int):=uC (by'.cf _);refine⟨_,rfl,_,_,rfl,rfl,_,rfl,_,rfl,st-1,-1,rfl,by omega,?_⟩;have en:(st-1 - -1).toNat=aS xs ys:=by rw[<- est];congr 1;omega
  rw[en]
  refine yZ (λi σ' H'=>∃(q r:Addr) (z8 z9:Option V),σ'=[some (.ref a),some (.ref b),some (.int ((cf ys (ys.length-1)).natAbs:Nat)),some (.int (sg (cf ys (ys.length-1)))),some (.int st),some (.int (((cf ys (ys.length-1)).natAbs:Int)^i)),some (.ref q),some (.ref r),z8,z9]/\Same H H'/\H q=none/\H r=none/\q≠r/\H' q=some (.lst ((aL xs ys i).1.map V.int))/\H' r=some (.lst ((aL xs ys i).2.map V.int)))
   ⟨q,r,none,none,rfl,s4,fq,fr,nqr,hq4,hr4⟩ ?_ ?_
  ·rintro i σ' H' hi ⟨q,r,z8,z9,rfl,sm,fq,fr,nqr,hq',hr'⟩;obtain⟨lq,lr,low,_⟩:=hI (a:=xs) hy i (OC hi);obtain⟨bq,br⟩:=zv bx by' i;have hix:i<xs.length:=by unfold aS at hi;omega
   have bi:=bsz i (OC hix);have rne:(aL xs ys i).2≠[]:=λz=>by rw[z]at lr;simp at lr;omega
   have ep:st-1+(i:Int) * -1=((xs.length+1-ys.length-1-i:Nat):Int):=by unfold aS at hi est;omega
   refine av ⟨_,rfl,_,rfl,_,rfl,r,_,_,_,rfl,rfl,SqL.of hr',uA rne,_,_,rfl,rfl,⟨sg_bits.mono,(br.cf _).mono bi⟩,?_⟩
   have bpow:Bits 1000000 (((cf ys (ys.length-1)).natAbs:Int)^i):=(ia hs i).mono (by
    have:=NK i (show nb<=nb+1 by omega);rw[Ov (nb+1) i]at this;have h2:=bsz (i+1) hix;rw[Nat.succ_mul]at h2
    omega)
   refine av ⟨_,rfl,_,rfl,_,_,rfl,rfl,⟨bpow,hs.mono hnb⟩,?_⟩;dsimp only
   rw[<- Nn];refine av ⟨_,rfl,_,rfl,q,_,_,rfl,hq',by rw[lq];omega,hs.mono hnb,bq.mono bi,λq1 H2 sm2 hq1 eq1=>?_⟩;have fq1:H q1=none:=sm.free hq1;have sm2':=sm.trans sm2;have hpl:xs.length+1-ys.length-1-i<(scL ((cf ys (ys.length-1)).natAbs:Int) (aL xs ys i).1).length:=by rw[bJ,lq];unfold aS at hi;omega
   refine⟨_,rfl,_,rfl,_,rfl,q1,_,_,_,rfl,rfl,eq1,lQ ep (by rw[MZ];exact hpl),?_⟩;rw[oG];have sm3:Same H (upd H2 q1 (.lst (((scL ((cf ys (ys.length-1)).natAbs:Int) (aL xs ys i).1).set (xs.length+1-ys.length-1-i) (sg (cf ys (ys.length-1))*cf (aL xs ys i).2 ((aL xs ys i).2.length-1))).map V.int))):=fJ sm2' fq1;have nq1r:q1≠r:=λz=>by rw[z,hr']at hq1;cases hq1
   have hr3:upd H2 q1 (.lst (((scL ((cf ys (ys.length-1)).natAbs:Int) (aL xs ys i).1).set (xs.length+1-ys.length-1-i) (sg (cf ys (ys.length-1))*cf (aL xs ys i).2 ((aL xs ys i).2.length-1))).map V.int)) r=some (.lst ((aL xs ys i).2.map V.int)):=by rw[upd_ne (Ne.symm nq1r)];exact sm2 _ _ hr'
   have hq3:upd H2 q1 (.lst (((scL ((cf ys (ys.length-1)).natAbs:Int) (aL xs ys i).1).set (xs.length+1-ys.length-1-i) (sg (cf ys (ys.length-1))*cf (aL xs ys i).2 ((aL xs ys i).2.length-1))).map V.int)) q1=some (.lst (((scL ((cf ys (ys.length-1)).natAbs:Int) (aL xs ys i).1).set (xs.length+1-ys.length-1-i) (sg (cf ys (ys.length-1))*cf (aL xs ys i).2 ((aL xs ys i).2.length-1))).map V.int)):=ao;generalize upd H2 q1 (.lst (((scL ((cf ys (ys.length-1)).natAbs:Int) (aL xs ys i).1).set (xs.length+1-ys.length-1-i) (sg (cf ys (ys.length-1))*cf (aL xs ys i).2 ((aL xs ys i).2.length-1))).map V.int))=H3 at sm3 hr3 hq3 ⊢
   refine⟨_,rfl,_,rfl,r,_,_,rfl,hr3,by rw[lr];omega,hs.mono hnb,br.mono bi,λr1 H5 sm5 hr1 er1=>?_⟩;have sm35:=sm3.trans sm5;refine⟨_,rfl,_,rfl,_,rfl,r1,b,_,_,(xs.length+1-ys.length-1-i),sg (cf ys (ys.length-1))*cf (aL xs ys i).2 ((aL xs ys i).2.length-1),?_,er1,sm35 _ _ hB,?_,hy,(kQ (br.cf _)).mono bi,by'.mono hnb,λr2 H6 sm6 hr2 er2=>?_⟩
   ·rw[<- ep];rfl
   ·rw[bJ,lr];unfold aS at hi;omega
   ·have nqr2:q1≠r2:=λz=>by rw[<- z,sm5 _ _ hq3]at hr2;cases hr2
    exact⟨q1,r2,_,_,rfl,sm35.trans sm6,fq1,sm35.free hr2,nqr2,sm6 _ _ (sm5 _ _ hq3),er2⟩
  ·rintro σ' H' ⟨q,r,z8,z9,rfl,sm,fq,fr,nqr,hq',hr'⟩;refine⟨_,rfl,_,rfl,_,rfl,r,_,rfl,SqL.of hr',λr1 H2 sm2 hr1 er1=>⟨by show 3<=sizeLine;decide,λt ht=>?_⟩⟩;have nqr1:q≠r1:=λz=>by rw[<- z,hq']at hr1;cases hr1
   have ntq:q≠t:=aN (sm2 _ _ hq') ht;have ntr:r1≠t:=aN er1 ht;refine k t q r1 _ ((sm.trans sm2).then_new ht) ((sm.trans sm2).free ht) fq (sm.free hr1) nqr1 ntq ntr ao ?_ ?_
   ·rw[upd_ne ntq];exact sm2 _ _ hq'
   ·rw[upd_ne ntr];exact er1
def Vp(C:Addr)(H:Hp)(vs:List V)(a r:Addr)(ns:List Int)(t b:Int):Prop:=vs=[.ref a,.ref r]/\H a=some (.lst (ns.map V.int))/\RA C H r t b/\ns.length<=20/\AllB 95000 ns/\Bits 3000 t/\Bits 3000 b
def VpI(H:Hp)(vs:List V)(a:Addr)(ns:List Int)(t b:Int):Prop:=vs=[.ref a,.int t,.int b]/\H a=some (.lst (ns.map V.int))/\ns.length<=20/\AllB 95000 ns/\Bits 3000 t/\Bits 3000 b
def pZ:Sp:=λvs H Q _=>∃(a:Addr) (ns:List Int) (t b:Int),VpI H vs a ns t b/\∀(p:Addr) (H':Hp),Same H H'->H p=none->H' p=some (.tup [.int (hv t b ns),.int (b^ns.length)])->Q (.ref p) H'
theorem yN{t b:Int}(bt:Bits 3000 t)(bb:Bits 3000 b):∀{l:List Int},AllB 95000 l->Bits (95000+1+(3000+1)*l.length) (hv t b l)
 | [],_=>by refine Bits.mono (j:=1) ?_ (by omega);show(0:Int).natAbs<2^1;decide
 |v::l,h=>by
  rw[cN];have h1:=h v (Na ..);have h2:=yN bt bb (l:=l) λx hx=>h x (M8 _ hx)
  have e1:=(h1.mul (ia bb (l.length+1))).mono (k:=95000+1+(3000+1)*l.length+3000) (by omega);have e2:=(bt.mul h2).mono (k:=95000+1+(3000+1)*l.length+3000) (by omega);exact(e1.add e2).mono (by rw[Nq];omega)
theorem D9{f:Addr}{fd:FuncData}(F:Fun K "value_parts" "value_parts" iJ f fd)(T:Txt K mg):FnOk P w K mg base CX0 1 f fd ["row","top","bottom"] pZ:=by
 refine F.ok sc_value_parts (λvs H Q E h=>?_) (λcdv A outer s H vs Q E hr h=>?_)
 ·obtain⟨a,ns,t,b,⟨rfl,_⟩,_⟩:=h;rfl
 ·obtain⟨a,ns,t,b,⟨rfl,hA,hn,hb,bt,bb⟩,k⟩:=h
  refine⟨_,(af (aj (i:=3) sc_value_parts.nd rfl (Or.inl rfl) ae)
   (af (aj (i:=4) sc_value_parts.nd rfl (Or.inl rfl) ae)
   (af (ck PassesOwn.never rfl (rd rfl T.reversed_ (aa (pv 0) ac)) (aU (i:=5) sc_value_parts.nd rfl (Or.inl rfl))
     (af (aj (i:=4) sc_value_parts.nd rfl (Or.inl rfl) (al aR (pv 4) (pv 2)))
       (ah (aj (i:=3) sc_value_parts.nd rfl (Or.inl rfl) (al bR (al aR (pv 3) (pv 1)) (al aR (pv 5) (pv 4)))))))
   (ah (aw (cQ (aa (pv 3) (aa (pv 4) ac)))))))),?_⟩
  have hl:(ns.map V.int).length=ns.length:=MZ _;refine av ?_;refine av ?_;refine⟨_,rfl,a,_,rfl,SqL.of hA,sH (K:=K) (a:=a) (xs:=ns.map V.int) (λi σ' H'=>∃z:Option V,σ'=[some (.ref a),some (.int t),some (.int b),some (.int (hv t b (ns.drop (ns.length-i)))),some (.int (b^i)),z]/\H=H') ⟨none,?_,rfl⟩ ?_ ?_ ?_⟩
  ·rw[N4,List.drop_length,NP];rfl
  ·rintro i σ' H' _ ⟨z,rfl,rfl⟩;exact SqL.of hA
  ·rintro i x σ' H' hi hx ⟨z,rfl,rfl⟩;rw[hl]at hi hx;obtain⟨c,ec,rfl,hc,_⟩:=gN hx;have hi':i<ns.length:=hi;have e1:ns.length-(i+1)=ns.length-1-i:=by omega
   have hd:=J0 t b (l:=ns) (n:=ns.length-1-i) (by omega);have e2:ns.length-1-i+1=ns.length-i:=by omega
   have e3:ns.length-(ns.length-1-i)=i+1:=by omega
   rw[e2,e3,zQ ec]at hd;have bs:=yN bt bb (l:=ns.drop (ns.length-i)) λx hx=>hb x (Pc hx)
   rw[Og]at bs;have bp:=ia bb i;have bq:=ia bb (i+1);refine⟨_,rfl,_,rfl,_,_,rfl,rfl,⟨bp.mono (by omega),bb.mono⟩,?_⟩;refine⟨_,rfl,_,rfl,_,_,rfl,rfl,⟨bs.mono (by omega),bt.mono⟩,_,rfl,_,rfl,_,_,rfl,rfl,⟨(hb c hc).mono,?_⟩,_,_,rfl,rfl,?_⟩
   ·show Bits 1000000 (b^i*b);rw[<- Nn];exact bq.mono (by omega)
   refine⟨some (.int c),?_,rfl⟩;rw[e1,hd,Nn b i,Int.add_comm,Nm t];rfl
  ·rintro σ' H' ⟨z,rfl,rfl⟩;rw[hl,Ol,Os];exact⟨_,rfl,_,rfl,by show 2<=sizeLine;decide,λp hp=>k p _ (Same.upd_new hp) hp ao⟩
def iD(C:Addr):Sp:=λvs H Q _=>∃(a r:Addr) (ns:List Int) (t b:Int),Vp C H vs a r ns t b/\∀H',Same H H'->Q (.int (sg (hv t b ns))) H'
theorem Eg{C f:Addr}{fd:FuncData}(F:Fun K "sign_at" "sign_at" iQ f fd)(T:Txt K mg)(R:RCI K mg C){Je:Addr}{Il:FuncData}(Me:Cal P w K mg base 1 "value_parts" ["row","top","bottom"] pZ Je Il){gX:Addr}{gR:FuncData}(ip:Cal P w K mg base 1 "whole_sign" ["value"] iC gX gR):FnOk P w K mg base CX0 2 f fd ["row","ratio"] (iD C):=by
 obtain⟨Ly,FZ,GX,Kv⟩:=Me;obtain⟨ii,gC,gI,ib⟩:=ip;refine F.ok Ce (λvs H Q E h=>?_) (λcdv A outer s H vs Q E hr h=>?_)
 ·obtain⟨a,r,ns,t,b,⟨rfl,_⟩,_⟩:=h;rfl
 ·obtain⟨a,r,ns,t,b,hV,k⟩:=h;obtain⟨rfl,hA,⟨dx,hR⟩,hn,hbs,bt,bb⟩:=hV;refine⟨_,(ah (aw (am ii (hr.mono) rfl gC gI ib .nil ai (aa (aG (aV (K:=K) rfl) (am Ly (hr.mono) rfl FZ GX Kv .nil ai (aa (pv 0) (aa (aJ (K:=K) rfl (pv 1) rfl) (aa (aJ (K:=K) rfl (pv 1) rfl) ac)))) ae (λ_ _=>rfl)) ac)))),?_⟩;refine⟨_,rfl,_,rfl,r,C,dx,_,_,rfl,hR,R.cl,R.nT,cu _ _,_,rfl,r,C,dx,_,_,rfl,hR,R.cl,R.nB,bn _ _,a,ns,t,b,⟨rfl,hA,hn,hbs,bt,bb⟩,λp H1 s1 hp e1=>?_⟩;exact⟨p,_,_,_,rfl,rfl,SqT.of e1,rfl,_,rfl,k H1 s1⟩
theorem b60:Bits 200 (10^60):=by show((10:Int)^60).natAbs<2^200;decide +kernel
theorem b30:Bits 100 (10^30):=by show((10:Int)^30).natAbs<2^100;decide +kernel
theorem Lg{xs:List V}{n:Int}(hn:n=xs.length)(h:0<n)(c:Int):∃v,v∈xs/\atI xs (c%n)=some v:=by
 have h1:=N8 c (Ny h);have h2:=N9 c h;obtain⟨j,hj⟩:=O7 h1;have hl:j<xs.length:=by omega
 refine⟨xs[j],NZ hl,?_⟩;rw[hj];exact kq (by simp[hl])
def Fit(one other:List Int):Prop:=Tr one/\Tr other/\∃n,AllB n one/\AllB n other/\(one.length+2)*(n+1)<=1000000/\other.length<=1000000
noncomputable def Run:Nat->List Int->List Int->Prop
 |0,one,_=>one=[]
 |n+1,one,other=>one=[]\/(Fit one other/\Run n other (nxt one other))
def xP(H:Hp)(Q:VK)(xss:List (List Int)):Prop:=∀(l:Addr) (ps:List Addr) (H':Hp),Same H H'->H l=none->(∀p∈ps,H p=none/\p≠l)->H' l=some (.lst (ps.map V.ref))->RwH H' ps xss->Q (.ref l) H'
theorem RwH.upd_ne{H:Hp}{ps:List Addr}{xss:List (List Int)}{a:Addr}{o:HO}(h:RwH H ps xss)(hn:∀p∈ps,p≠a):RwH (upd H a o) ps xss:=⟨h.1,λi p xs e1 e2=>by rw[L2.upd_ne (hn p (List.mem_of_getElem? e1))];exact h.2 i p xs e1 e2⟩
def qf:Sp:=λvs H Q _=>∃(a b:Addr) (xs ys:List Int) (n:Nat),vs=[.ref a,.ref b]/\H a=some (.lst (xs.map V.int))/\H b=some (.lst (ys.map V.int))/\Tr xs/\Tr ys/\xs.length<=1000/\ys.length<=1000/\n<=1000/\Run n (ak xs) (ak ys)/\xP H Q (aW n (ak xs) (ak ys))
theorem Em{f:Addr}{fd:FuncData}(F:Fun K "row_from" "row_from" iV f fd)(T:Txt K mg){tu:Addr}{sN:FuncData}(uT:Cal P w K mg base 33 "shrunk" ["row"] nh tu sN){md:Addr}{lX:FuncData}(mM:Cal P w K mg base 2 "divided" ["first","second"] kL md lX){Jg:Addr}{Io:FuncData}(Mg:Cal P w K mg base 2 "taken" ["first","second"] (iF K bU) Jg Io):FnOk P w K mg base CX0 34 f fd ["first","second"] qf:=by
 obtain⟨mG,lD,lJ,mx⟩:=uT;obtain⟨mH,lE,lK,mz⟩:=mM;obtain⟨LA,Gb,GZ,Kx⟩:=Mg;refine F.ok sc_row_from (λvs H Q E h=>?_) (λcdv A outer s H vs Q E hr h=>?_)
 ·obtain⟨a,b,xs,ys,n,rfl,_⟩:=h;rfl
 ·obtain⟨a,b,xs,ys,n,rfl,hA,hB,xtr,ytr,hx,hy,hn,hrun,k⟩:=h;have big:=sizeLine_eq;have hu:=hr.units
  refine⟨_,(af (aj (i:=2) sc_row_from.nd rfl (Or.inl rfl) (aT ac))
   (af (aj (i:=3) sc_row_from.nd rfl (Or.inl rfl) (am mG (hr.mono) rfl lD lJ mx .nil ai (aa (pv 0) ac)))
   (af (aj (i:=4) sc_row_from.nd rfl (Or.inl rfl) (am mG (hr.mono) rfl lD lJ mx .nil ai (aa (pv 1) ac)))
   (af (fB PassesOwn.never (aH (jX (K:=K) rfl hu) (pv 3) (aT ac) (aC _))
     (af (eu (jW PySem.F.plainAttrs_list PySem.F.slot_list_append PySem.F.type_list_append j6 (pv 2) (aa (pv 3) ac)))
       (af (aj (i:=5) sc_row_from.nd rfl (Or.inl rfl) (rf (aH (lx (K:=K) rfl hu) (pv 4) (aT ac) (aC _)) (aT ac) (aG (aV (K:=K) rfl) (am mH (hr.mono) rfl lE lK mz .nil ai (aa (pv 3) (aa (pv 4) ac))) ae (λ_ _=>rfl))))
       (af (aj (i:=3) sc_row_from.nd rfl (Or.inl rfl) (pv 4))
       (ah (aj (i:=4) sc_row_from.nd rfl (Or.inl rfl) (am mG (hr.mono) rfl lD lJ mx .nil ai (aa (am LA (hr.mono) rfl Gb GZ Kx .nil ai (aa (aT ac) (aa (pv 5) ac))) ac))))))))
   (ah (aw (pv 2))))))),?_⟩
  refine av ⟨M9 _,λl hl=>?_⟩;have s1:=Same.upd_new (o:=.lst []) hl;have hl1:upd H l (.lst []) l=some (.lst (([]:List Addr).map V.ref)):=ao;generalize upd H l (.lst [])=H1 at s1 hl1 ⊢
  refine av ⟨_,rfl,a,xs,rfl,s1 _ _ hA,xtr,by omega,λp1 H2 sm2 hp1 e1=>?_⟩;have s2:=s1.trans sm2;refine av ⟨_,rfl,b,ys,rfl,s2 _ _ hB,ytr,by omega,λp2 H3 sm3 hp2 e2=>?_⟩;have s3:=s2.trans sm3;have n1l:p1≠l:=λz=>by rw[z,hl1]at hp1;cases hp1
  have n2l:p2≠l:=λz=>by rw[z,sm2 _ _ hl1]at hp2;cases hp2
  generalize ak xs=one' at hrun k e1
  generalize ak ys=other at hrun k e2
  refine⟨λm σ' H'=>∃(po pt:Addr) (one other':List Int) (ps:List Addr) (acc:List (List Int)) (z5:Option V),σ'=[some (.ref a),some (.ref b),some (.ref l),some (.ref po),some (.ref pt),z5]/\Same H H'/\H' l=some (.lst (ps.map V.ref))/\RwH H' ps acc/\(∀p∈ps,H p=none/\p≠l)/\H' po=some (.lst (one.map V.int))/\H' pt=some (.lst (other'.map V.int))/\H po=none/\H pt=none/\po≠l/\pt≠l/\Run m one other'/\acc++aW m one other'=aW n one' other/\ps.length+m<=1000,
   ⟨_,p1,p2,one',other,[],[],none,rfl,s3,sm3 _ _ (sm2 _ _ hl1),RwH.nil,(λp hp=>nomatch hp),sm3 _ _ e1,e2,s1.free hp1,s2.free hp2,n1l,n2l,hrun,rfl,by show 0+n<=1000;omega⟩,?_⟩
  rintro m σ' H4 ⟨po,pt,one,other',ps,acc,z5,rfl,s4,hl4,hR4,hf4,ho4,ht4,fo,ft,nol,ntl,hrun4,hacc,hlen⟩;refine⟨_,rfl,M9 _,λq hq=>?_⟩;have t5:=Same.upd_new (o:=.lst []) hq;refine⟨po,q,one,[],rfl,rfl,SqL.of (t5 _ _ ho4),SqL.of ao,_,rfl,cG (λhne=>?_) (λhe=>?_)⟩
  rotate_left
  ·have he':one=[]:=he;subst he';rw[kU,OD]at hacc;refine⟨_,rfl,k l ps _ (s4.trans t5) hl hf4 (t5 _ _ hl4) ?_⟩;rw[<- hacc];exact hR4.same t5
  have hne':one≠[]:=hne
  obtain⟨m1,rfl⟩:∃m1,m=m1+1:=by
   cases m with
   |zero=>exact absurd hrun4 hne'
   |succ m1=>exact⟨m1,rfl⟩
  obtain⟨⟨otr,ttr,nb,bo,bt,hsz,htl⟩,hrun5⟩:=(show one=[]\/(Fit one other'/\Run m1 other' (nxt one other'))from hrun4).resolve_left hne'
  have hacc5:(acc++[one])++aW m1 other' (nxt one other')=aW n one' other:=by rw[<- hacc];show _=acc++(if one=[]then[]else one::aW m1 other' (nxt one other'));rw[if_neg hne',List.append_assoc];rfl
  generalize hH5:upd H4 q (.lst [])=H5 at t5 ⊢
  refine⟨λσ'' H''=>∃m',m'<m1+1/\∃(po pt:Addr) (one other':List Int) (ps:List Addr) (acc:List (List Int)) (z5:Option V),σ''=[some (.ref a),some (.ref b),some (.ref l),some (.ref po),some (.ref pt),z5]/\Same H H''/\H'' l=some (.lst (ps.map V.ref))/\RwH H'' ps acc/\(∀p∈ps,H p=none/\p≠l)/\H'' po=some (.lst (one.map V.int))/\H'' pt=some (.lst (other'.map V.int))/\H po=none/\H pt=none/\po≠l/\pt≠l/\Run m' one other'/\acc++aW m' one other'=aW n one' other/\ps.length+m'<=1000,λ_ _ h=>h,?_⟩;have hl5:=t5 _ _ hl4;refine kX ⟨_,rfl,.inl ⟨rfl,_,SqL.of hl5⟩,_,rfl,l,_,_,rfl,rfl,hl5,by rw[MZ];omega,?_⟩;rw[FS];have s6:Same H (upd H5 l (.lst ((ps++[po]).map V.ref))):=fJ (s4.trans t5) hl;have hl6:upd H5 l (.lst ((ps++[po]).map V.ref)) l=some (.lst ((ps++[po]).map V.ref)):=ao
  have hf6:∀p∈ps++[po],H p=none/\p≠l:=λp hp=>by
   rcases Nu.mp hp with h |h
   ·exact hf4 p h
   ·rw[Nf.mp h];exact⟨fo,nol⟩
  have hR6:RwH (upd H5 l (.lst ((ps++[po]).map V.ref))) (ps++[po]) (acc++[one]):=((hR4.same t5).snoc (t5 _ _ ho4)).upd_ne λp hp=>(hf6 p hp).2
  have ho6:upd H5 l (.lst ((ps++[po]).map V.ref)) po=some (.lst (one.map V.int)):=by rw[L2.upd_ne nol];exact t5 _ _ ho4
  have ht6:upd H5 l (.lst ((ps++[po]).map V.ref)) pt=some (.lst (other'.map V.int)):=by rw[L2.upd_ne ntl];exact t5 _ _ ht4
  generalize upd H5 l (.lst ((ps++[po]).map V.ref))=H6 at s6 hl6 hR6 ho6 ht6 ⊢
  refine kZ (λσ' H'=>∃pr:Addr,σ'=[some (.ref a),some (.ref b),some (.ref l),some (.ref po),some (.ref pt),some (.ref pr)]/\Same H6 H'/\H' pr=some (.lst ((rst one other').map V.int))) ?_ ?_
  case refine_2 =>
   intro rest;refine bX (C0 ⟨_,rfl,M9 _,λq2 hq2=>?_⟩);have t7:=Same.upd_new (o:=.lst []) hq2;refine⟨pt,q2,other',[],rfl,rfl,SqL.of (t7 _ _ ht6),SqL.of ao,_,rfl,aX (λh0=>?_) (λh0=>?_)⟩
   ·have h0':other'=[]:=h0;refine⟨M9 _,λq3 hq3=>rest _ _ ⟨q3,rfl,t7.then_new hq3,?_⟩⟩;rw[ao];unfold rst;rw[if_pos h0'];rfl
   ·have h0':other'≠[]:=h0;refine⟨_,rfl,_,rfl,po,pt,one,other',nb,rfl,t7 _ _ ho6,t7 _ _ ht6,h0',bo,bt,hsz,htl,λt q' r H8 sm8 _ _ _ _ _ _ et _ er=>?_⟩;refine⟨t,_,_,_,rfl,rfl,SqT.of et,rfl,rest _ _ ⟨r,rfl,t7.trans sm8,?_⟩⟩;rw[er];unfold rst;rw[if_neg h0']
  rintro σ' H8 ⟨pr,rfl,t8,hr8⟩;refine av ⟨_,rfl,?_⟩;refine bX ⟨M9 _,λq hq=>?_⟩;have t9:=t8.then_new (o:=.lst []) hq
  have hrl:(rst one other').length<=1000000:=by
   unfold rst;split
   ·exact M9 _
   ·rename_i h0
    have:=fc (a:=one) h0;omega
  refine⟨_,rfl,q,pr,[],rst one other',rfl,SqL.of ao,SqL.of (by rw[L2.upd_ne (aN hr8 hq)];exact hr8),M9 _,hrl,λp9 H9 sm9 hp9 e9=>?_⟩;have hsl:(bU [] (rst one other')).length<=1000000:=Nb (rV _) (by unfold cW;rw[MZ,N2];exact Nat.max_le.mpr ⟨M9 _,hrl⟩);refine⟨p9,_,rfl,e9,dM _,hsl,λp10 H10 sm10 hp10 e10=>?_⟩;have t10:Same H6 H10:=(t9.trans sm9).trans sm10;have f10:H6 p10=none:=(t9.trans sm9).free hp10;refine⟨m1,NV _,pt,p10,other',nxt one other',ps++[po],acc++[one],_,rfl,s6.trans t10,t10 _ _ hl6,hR6.same t10,hf6,t10 _ _ ht6,e10,ft,s6.free f10,ntl,(λz=>by rw[z,hl6]at f10;cases f10),hrun5,hacc5,by rw[Nh];show ps.length+1+m1<=1000;omega⟩
def nj:Sp:=λvs H Q _=>∃(a:Addr) (xs:List Int) (n:Nat),vs=[.ref a]/\H a=some (.lst (xs.map V.int))/\Tr xs/\AllB 90000 xs/\xs.length<=1000/\n<=1000/\Run n (ak xs) (ak (slopeL xs))/\xP H Q (aW n (ak xs) (ak (slopeL xs)))
theorem vA{xs:List Int}(h:Tr xs):Tr (slopeL xs):=by
 intro n hn;unfold slopeL at *
 rw[MZ,N2]at hn;rw[mq,if_pos (by omega)];exact Nk (by omega) (h (n+1) (by omega))
theorem El{f:Addr}{fd:FuncData}(F:Fun K "row_of" "row_of" iU f fd)(T:Txt K mg){Jl:Addr}{Iw:FuncData}(Mm:Cal P w K mg base 34 "row_from" ["first","second"] qf Jl Iw){tq:Addr}{sM:FuncData}(uS:Cal P w K mg base 1 "slope" ["row"] (sp1 slopeL) tq sM):FnOk P w K mg base CX0 35 f fd ["polynomial"] nj:=by
 obtain⟨LE,Gf,G3,KC⟩:=Mm;obtain⟨uH,rN,r9,um⟩:=uS;refine F.ok Cg (λvs H Q E h=>?_) (λcdv A outer s H vs Q E hr h=>?_)
 ·obtain⟨a,xs,n,rfl,_⟩:=h;rfl
 ·obtain⟨a,xs,n,rfl,hA,xtr,bx,hx,hn,hrun,k⟩:=h;refine⟨_,(ah (aw (am LE (hr.mono) rfl Gf G3 KC .nil ai (aa (pv 0) (aa (am uH (hr.mono) rfl rN r9 um .nil ai (aa (pv 0) ac)) ac))))),?_⟩;refine aZ ⟨_,rfl,_,rfl,a,xs,rfl,hA,by omega,bx.mono,λp H1 s1 hp e1=>?_⟩;have hsl:(slopeL xs).length<=1000:=by unfold slopeL;rw[MZ,N2];omega
  exact⟨a,p,xs,slopeL xs,n,rfl,s1 _ _ hA,e1,xtr,vA xtr,hx,hsl,hn,hrun,λl ps H' sm hl hf e r=>k l ps H' (s1.trans sm) (s1.free hl) (λp hp=>⟨s1.free (hf p hp).1,(hf p hp).2⟩) e r⟩
noncomputable def sgs(t b:Int)(xss:List (List Int)):List Int:=xss.map λp=>sg (hv t b p)
def qE(C:Addr):Sp:=λvs H Q _=>∃(l r:Addr) (ps:List Addr) (xss:List (List Int)) (t b:Int),vs=[.ref l,.ref r]/\H l=some (.lst (ps.map V.ref))/\RwH H ps xss/\RA C H r t b/\Bits 3000 t/\Bits 3000 b/\(∀xs∈xss,xs.length<=20/\AllB 95000 xs)/\xss.length<=1000000/\∀H',Same H H'->Q (.int (chS (sgs t b xss)).1) H'
theorem BX(t b:Int)(xss:List (List Int)):∀s∈sgs t b xss,s.natAbs<=1:=λs hs=>by obtain⟨x,_,rfl⟩:=Nc.mp hs;exact wg _
theorem BW{t b:Int}{xss:List (List Int)}{i:Nat}{xs:List Int}(h:xss[i]?=some xs):sgs t b (xss.take (i+1))=sgs t b (xss.take i)++[sg (hv t b xs)]:=by unfold sgs;rw[NO,h,No];rfl
theorem xu{x:Int}(h:x.natAbs<=1):Bits 1000000 x:=Bits.mono (j:=1) (OO h (by decide)) (by decide)
theorem EO{C f:Addr}{fd:FuncData}(F:Fun K "changes" "changes" jp f fd)(T:Txt K mg)(R:RCI K mg C){gY:Addr}{gS:FuncData}(iq:Cal P w K mg base 2 "sign_at" ["row","ratio"] (iD C) gY gS):FnOk P w K mg base CX0 3 f fd ["row","ratio"] (qE C):=by
 obtain⟨ij,gD,gJ,ic⟩:=iq;refine F.ok sc_changes (λvs H Q E h=>?_) (λcdv A outer s H vs Q E hr h=>?_)
 ·obtain⟨l,r,ps,xss,t,b,rfl,_⟩:=h;rfl
 ·obtain⟨l,r,ps,xss,t,b,rfl,hL,hR,hRA,bt,bb,hb,hn,k⟩:=h
  refine⟨_,(af (aj (i:=2) sc_changes.nd rfl (Or.inl rfl) ae)
   (af (aj (i:=3) sc_changes.nd rfl (Or.inl rfl) ae)
   (af (ck PassesOwn.never rfl (dA (K:=K) rfl (pv 0)) (aU (i:=4) sc_changes.nd rfl (Or.inl rfl))
     (af (aj (i:=5) sc_changes.nd rfl (Or.inl rfl) (am ij (hr.mono) rfl gD gJ ic .nil ai (aa (pv 4) (aa (pv 1) ac))))
       (af (aO (aH dc (al aR (pv 5) (pv 3)) ae (aC _))
         (ah (aj (i:=2) sc_changes.nd rfl (Or.inl rfl) (al bR (pv 2) ae)))
         aP)
       (ah (aO (aH fH (pv 5) ae (aC _))
         (ah (aj (i:=3) sc_changes.nd rfl (Or.inl rfl) (pv 5)))
         aP)))))
   (ah (aw (pv 2)))))),?_⟩
  have hpl:(ps.map V.ref).length=xss.length:=by rw[MZ,hR.1]
  refine av ?_;refine av ?_;refine⟨_,rfl,l,rfl,⟨_,SqL.of hL⟩,lU (K:=K) (a:=l) (xs:=ps.map V.ref) (λi σ' H'=>∃(z4 z5:Option V),σ'=[some (.ref l),some (.ref r),some (.int (chS (sgs t b (xss.take i))).1),some (.int (chS (sgs t b (xss.take i))).2),z4,z5]/\Same H H') ⟨none,none,rfl,λ_ _ e=>e⟩ ?_ ?_ ?_⟩
  ·rintro i σ' H' _ ⟨z4,z5,rfl,sm⟩;exact SqL.of (sm _ _ hL)
  ·rintro i x σ' H1 hi ⟨z4,z5,rfl,s1⟩;obtain⟨p,xs,rfl,ep,ex,hp,hlt⟩:=hR.of_get hi;obtain⟨hx1,hx2⟩:=hb xs (List.mem_of_getElem? ex);show cD (fY _ (gP 5)) _ _ _ _;refine av ⟨_,rfl,_,rfl,p,r,xs,t,b,⟨rfl,s1 _ _ hp,hRA.same s1,hx1,hx2,bt.mono,bb.mono⟩,λH2 sm2=>?_⟩;have s2:=s1.trans sm2;obtain⟨c1,c2,c3⟩:=Kk _ (BX t b (xss.take i));rw[BW ex,zL];have hs:=wg (hv t b xs);generalize sg (hv t b xs)=s at hs ⊢
   generalize chS (sgs t b (xss.take i))=z at c1 ⊢
   obtain⟨m,bf⟩:=z;dsimp only
   refine fy (λσ' H'=>σ'=[some (.ref l),some (.ref r),some (.int (if s*bf<0 then m+1 else m)),some (.int bf),some (.ref p),some (.int s)]/\H2=H') ?_ ?_
   case refine_2 =>
    intro rest;refine⟨_,rfl,_,rfl,_,_,rfl,rfl,⟨xu hs,xu c1⟩,_,_,rfl,rfl,_,rfl,aX (λh1=>?_) (λh1=>?_)⟩
    ·refine bX ⟨_,rfl,_,_,rfl,rfl,rest _ _ ⟨?_,rfl⟩⟩;rw[if_pos h1];rfl
    ·refine rest _ _ ⟨?_,rfl⟩;rw[if_neg h1];rfl
   rintro σ' H' ⟨rfl,rfl⟩;refine⟨_,rfl,_,_,rfl,rfl,_,rfl,cG (λh1=>?_) (λh1=>?_)⟩
   ·refine bX ⟨_,rfl,some (.ref p),some (.int s),?_,s2⟩;unfold chF;have h1':¬s=0:=h1;rw[if_neg h1'];rfl
   ·refine⟨some (.ref p),some (.int s),?_,s2⟩;unfold chF;have h1':s=0:=h1;rw[if_pos h1']
  ·rintro σ' H' ⟨z4,z5,rfl,sm⟩;rw[hpl,N0];exact⟨_,rfl,k H' sm⟩
def nE(C:Addr):Sp:=λvs H Q _=>∃(l r r2:Addr) (ps:List Addr) (xss:List (List Int)) (t b t2 b2:Int),vs=[.ref l,.ref r,.ref r2]/\H l=some (.lst (ps.map V.ref))/\RwH H ps xss/\RA C H r t b/\RA C H r2 t2 b2/\Bits 3000 t/\Bits 3000 b/\Bits 3000 t2/\Bits 3000 b2/\(∀xs∈xss,xs.length<=20/\AllB 95000 xs)/\xss.length<=1000000/\∀H',Same H H'->Q (.int ((chS (sgs t b xss)).1-(chS (sgs t2 b2 xss)).1)) H'
theorem EJ{C f:Addr}{fd:FuncData}(F:Fun K "count" "count" jm f fd)(T:Txt K mg)(R:RCI K mg C){JC:Addr}{IN:FuncData}(ME:Cal P w K mg base 3 "changes" ["row","ratio"] (qE C) JC IN):FnOk P w K mg base CX0 4 f fd ["row","low","high"] (nE C):=by
 obtain⟨Aw,xZ,yi,Ae⟩:=ME;refine F.ok Cm (λvs H Q E h=>?_) (λcdv A outer s H vs Q E hr h=>?_)
 ·obtain⟨l,r,r2,ps,xss,t,b,t2,b2,rfl,_⟩:=h;rfl
 ·obtain⟨l,r,r2,ps,xss,t,b,t2,b2,rfl,hL,hR,h1,h2,bt,bb,bt2,bb2,hb,hn,k⟩:=h;refine⟨_,(ah (aw (al cs (am Aw (hr.mono) rfl xZ yi Ae .nil ai (aa (pv 0) (aa (pv 1) ac))) (am Aw (hr.mono) rfl xZ yi Ae .nil ai (aa (pv 0) (aa (pv 2) ac)))))),?_⟩;refine aZ ⟨_,rfl,_,rfl,l,r,ps,xss,t,b,rfl,hL,hR,h1,bt,bb,hb,hn,λH1 s1=>?_⟩;refine⟨_,rfl,_,rfl,l,r2,ps,xss,t2,b2,rfl,s1 _ _ hL,hR.same s1,h2.same s1,bt2,bb2,hb,hn,λH2 s2=>?_⟩;exact⟨_,_,rfl,rfl,k _ (s1.trans s2)⟩
theorem Ap(i:Int):(if i<0 then -i else i)=(i.natAbs:Int):=by split<;>omega
theorem Lf{l:List Int}(h:l≠[]):atI (l.map V.int) (-1)=some (.int (ap l)):=by obtain⟨r,x,rfl⟩:=(cF l).resolve_left h;rw[cL,No];exact uB _ _
theorem Ka{l:List Int}:fO l none (some (-1))=l.take (l.length-1):=by
 unfold fO;rw[HT.sIx_none]
 have e:HT.sIx l.length l.length (some (-1))=l.length-1:=by unfold HT.sIx;simp;omega
 rw[e,Os,N4]
def isB(os:List Int)(l k:Nat):Prop:=(∀x∈os,x.natAbs<=(2^k-1)*l)/\∀j,j<k->∃x∈os,(2^j-1)*l<x.natAbs
def nF(K:PySem.W.Frag):Sp:=λvs H Q _=>∃(a:Addr) (ns:List Int),vs=[.ref a]/\SqL K H a (ns.map V.int)/\Tr ns/\ns≠[]/\ns.length<=100000/\AllB 100000 ns /\
 ∀(k:Nat) (H':Hp),k<=100000->isB (ns.take (ns.length-1)) (ap ns).natAbs k->Same H H'->Q (.int ((2^k:Nat):Int)) H'
theorem Dm{os:List Int}{F:Int->Prop}(h:∀g:Nat,(∀x∈os,x.natAbs<=g)->(g=0\/∃x∈os,x.natAbs=g)->F g) :
 (∀M,M∈os.map (λx=>(x.natAbs:Int))->(∀a∈os.map (λx=>(x.natAbs:Int)),a<=M)->F M)/\(os.map (λx=>(x.natAbs:Int))=[]->F 0):=by
 constructor
 ·intro M hM ha;obtain⟨x,hx,rfl⟩:=Nc.mp hM;exact h x.natAbs (λy hy=>Int.ofNat_le.mp (ha _ (Nc.mpr ⟨y,hy,rfl⟩))) (.inr ⟨x,hx,rfl⟩)
 ·intro e;have:os=[]:=List.map_eq_nil_iff.mp e;subst this;exact h 0 (λx hx=>nomatch hx) (.inl rfl)
theorem ER{f:Addr}{fd:FuncData}(F:Fun K "bound" "bound" jr f fd)(T:Txt K mg):FnOk P w K mg base CX0 1 f fd ["row"] (nF K):=by
 refine F.ok sc_bound (λvs H Q E h=>?_) (λcdv A outer s H vs Q E hr h=>?_)
 ·obtain⟨a,ns,rfl,_⟩:=h;rfl
 ·obtain⟨a,ns,rfl,hA,ht,hne,hn,hb,k⟩:=h;have big:=sizeLine_eq
  refine⟨_,(af (aj (i:=1) sc_bound.nd rfl (Or.inl rfl) (aQ fU (by rfl) T.abs_ PyProof.Rows.boot_abs (aa (aG (bK (K:=K) rfl) (pv 0) (bY bT ae) (λ_ _=>rfl)) ac)))
   (af (aj (i:=2) sc_bound.nd rfl (Or.inl rfl) (DN (K:=K) rfl rfl (by rfl) T.max_ (fE (own:=["value"]) (fr:=[]) (js:=[]) (by walk_at "comp_ok") rfl (dA (K:=K) rfl (oa (nJ (K:=K) rfl) (pv 0) n5 (nZ (bY bT ae)))) (λ_ _ _ _=>(aU (i:=0) (show List.Nodup (["value"]:List Str)from by decide +kernel) rfl (Or.inl rfl))) (λ_ _ _ _=>(aQ fU (by rfl) T.abs_ PyProof.Rows.boot_abs (aa (pv 0) ac)))) ae))
   (af (aj (i:=3) sc_bound.nd rfl (Or.inl rfl) ae)
   (af (fB PassesOwn.never (aH dc (al aR (al cs (pv 3) ae) (pv 1)) (pv 2) (aC _))
     (ah (aj (i:=3) sc_bound.nd rfl (Or.inl rfl) (al aR ae (pv 3)))))
   (ah (aw (pv 3))))))),?_⟩
  refine av ⟨_,rfl,_,rfl,a,_,_,_,rfl,rfl,hA,Lf hne,_,rfl,?_⟩;rw[Ap]
  have hl0:ap ns≠0:=by obtain⟨r,x,rfl⟩:=(cF ns).resolve_left hne;rw[cL];exact tr_snoc.mp ht
  generalize hL:(ap ns).natAbs=L at k ⊢
  have hL1:1<=L:=by omega
  have bL:Bits 100000 (L:Int):=by obtain⟨r,x,rfl⟩:=(cF ns).resolve_left hne;rw[cL]at hL;exact(hb x (by simp)).of_le (by omega)
  refine av ⟨_,rfl,_,rfl,_,rfl,a,_,rfl,hA,λp1 hp1=>?_⟩;rw[ua,Ka];have s1:Same H (upd H p1 (.lst ((ns.take (ns.length-1)).map V.int))):=Same.upd_new hp1;have q1:upd H p1 (.lst ((ns.take (ns.length-1)).map V.int)) p1=some (.lst ((ns.take (ns.length-1)).map V.int)):=ao;generalize hO:ns.take (ns.length-1)=os at k s1 q1 ⊢
  generalize upd H p1 (.lst (os.map V.int))=H1 at s1 q1 ⊢
  have bO:AllB 100000 os:=λx hx=>hb x (OZ (hO ▸ hx))
  have lO:os.length<=100000:=by rw[<- hO,NW];omega
  refine⟨p1,rfl,⟨_,SqL.of q1⟩,mk (K:=K) (a:=p1) (xs:=os.map V.int) (λi ys σ' H'=>∃(z0:Option V),σ'=[z0]/\ys=((os.take i).map λx=>(x.natAbs:Int)).map V.int/\H1=H') (by rw[MZ];omega) ⟨none,rfl,rfl,rfl⟩ ?_ ?_ ?_⟩
  ·rintro i ys σ' H' _ ⟨z0,rfl,rfl,rfl⟩;exact⟨SqL.of q1,by rw[MZ,MZ,NW];exact Nat.min_le_left _ _⟩
  ·rintro i x ys σ' H' hi ⟨z0,rfl,rfl,rfl⟩;rw[List.getElem?_map]at hi;cases e:os[i]? with
   |none=>rw[e]at hi;cases hi
   |some c =>rw[e]at hi;obtain rfl:=Option.some.inj hi;refine⟨_,rfl,_,rfl,_,rfl,?_,rfl⟩;rw[NO,e,Ap];simp
  ·rintro ys σ' H' p ⟨z0,rfl,rfl,rfl⟩ hp;rw[MZ,N0];have s2:Same H (upd H1 p (.lst ((os.map λx=>(x.natAbs:Int)).map V.int))):=s1.then_new hp;refine⟨p,_,rfl,SqL.of ao,?_⟩;generalize upd H1 p (.lst ((os.map λx=>(x.natAbs:Int)).map V.int))=H2 at s2 ⊢
   refine And.symm (Dm λg hg1 hg2=>?_)
   have bg:g<2^100000:=by
    rcases hg2 with rfl |⟨x,hx,rfl⟩
    ·exact Oj (by decide)
    ·exact bO x hx
   refine av ?_;refine⟨λm σ' H'=>∃k0:Nat,σ'=[some (.ref a),some (.int L),some (.int g),some (.int ((2^k0:Nat):Int))]/\H2=H'/\2*g+2-2^k0=m/\2^k0<=2*g+1/\∀j,j<k0->(2^j-1)*L<g,⟨_,0,rfl,rfl,rfl,by omega,λj hj=>absurd hj (O0 _)⟩,?_⟩;rintro m σ' H' ⟨k0,rfl,rfl,rfl,h2,h3⟩
   have hk0:k0<=100000:=by
    have e:2^k0<2^100001:=by rw[OF 2 100000];omega
    have:=(Pd (a:=2) (by decide)).mp e;omega
   have hp:1<=2^k0:=Oj (by decide)
   have bk:Bits 100002 ((2^k0:Nat):Int):=by show((2^k0:Nat):Int).natAbs<_;rw[Nr];exact(Pd (a:=2) (by decide)).mpr (by omega)
   have bk1:Bits 100002 (((2^k0:Nat):Int)-1):=bk.of_le (by omega)
   have cast:(((2^k0:Nat):Int)-1)*(L:Int)=(((2^k0-1)*L:Nat):Int):=by rw[OS,Int.natCast_sub hp];rfl
   refine⟨_,rfl,_,_,rfl,rfl,_,rfl,_,_,rfl,rfl,⟨bk1.mono,bL.mono⟩,_,rfl,_,_,rfl,rfl,_,rfl,?_⟩;rw[cast];refine aX (λhlt=>?_) (λhge=>?_)
   ·have hlt':(2^k0-1)*L<g:=by exact OB.mp hlt
    have h4:2^k0-1<g:=OO (Nat.le_mul_of_pos_right _ hL1) hlt';refine⟨λσ'' H''=>∃m',m'<2*g+2-2^k0/\∃k0:Nat,σ''=[some (.ref a),some (.int L),some (.int g),some (.int ((2^k0:Nat):Int))]/\H2=H''/\2*g+2-2^k0=m'/\2^k0<=2*g+1/\∀j,j<k0->(2^j-1)*L<g,λ_ _ h=>h,?_⟩;refine⟨_,rfl,_,_,rfl,rfl,⟨Bits.mono (j:=2) (by show(2:Int).natAbs<2^2;decide) (by decide),bk.mono⟩,?_⟩;have e2:(2:Int)*((2^k0:Nat):Int)=((2^(k0+1):Nat):Int):=by rw[OF];omega
    have e3:2^(k0+1)=2*2^k0:=by rw[OF];omega
    refine⟨2*g+2-2^(k0+1),by omega,k0+1,by rw[<- e2];rfl,rfl,rfl,by omega,λj hj=>?_⟩;by_cases ej:j=k0
    ·subst ej;exact hlt'
    ·exact h3 j (by omega)
   ·have hge':¬(2^k0-1)*L<g:=λz=>hge (OB.mpr z)
    refine⟨_,rfl,k k0 H2 hk0 ⟨λx hx=>Nb (hg1 x hx) (by omega),λj hj=>?_⟩ s2⟩;have h5:=h3 j hj;rcases hg2 with rfl |⟨x,hx,e⟩
    ·exact absurd h5 (O0 _)
    ·exact⟨x,hx,by rw[e];exact h5⟩
def uQ(one other:List Int):Prop:=Tr one/\Tr other/\∃n,AllB n one/\AllB n other/\(one.length+2)*(n+1)<=1000000/\other.length<=1000000
noncomputable def kt:Nat->List Int->List Int->Prop
 |0,_,other=>other=[]
 |n+1,one,other=>other=[]\/(uQ one other/\kt n other (ay (aK one other)))
def qD:Sp:=λvs H Q _=>∃(a b:Addr) (xs ys:List Int) (n:Nat),vs=[.ref a,.ref b]/\H a=some (.lst (xs.map V.int))/\H b=some (.lst (ys.map V.int))/\Tr xs/\Tr ys/\xs.length<=1000/\ys.length<=1000/\kt n (ay xs) (ay ys)/\mkL H Q (cb n (ay xs) (ay ys))
theorem EK{f:Addr}{fd:FuncData}(F:Fun K "common" "common" jn f fd)(T:Txt K mg){ma:Addr}{lV:FuncData}(mL:Cal P w K mg base 34 "plain" ["row"] kK ma lV){md:Addr}{lX:FuncData}(mM:Cal P w K mg base 2 "divided" ["first","second"] kL md lX):FnOk P w K mg base CX0 35 f fd ["first","second"] qD:=by
 obtain⟨io,gF,gL,ig⟩:=mL;obtain⟨mH,lE,lK,mz⟩:=mM;refine F.ok sc_common (λvs H Q E h=>?_) (λcdv A outer s H vs Q E hr h=>?_)
 ·obtain⟨a,b,xs,ys,n,rfl,_⟩:=h;rfl
 ·obtain⟨a,b,xs,ys,n,rfl,hA,hB,xtr,ytr,hx,hy,hrun,k⟩:=h;have big:=sizeLine_eq;have hu:=hr.units
  refine⟨_,(af (aj (i:=2) sc_common.nd rfl (Or.inl rfl) (am io (hr.mono) rfl gF gL ig .nil ai (aa (pv 0) ac)))
   (af (aj (i:=3) sc_common.nd rfl (Or.inl rfl) (am io (hr.mono) rfl gF gL ig .nil ai (aa (pv 1) ac)))
   (af (fB PassesOwn.never (aH (jX (K:=K) rfl hu) (pv 3) (aT ac) (aC _))
     (af (aj (i:=4) sc_common.nd rfl (Or.inl rfl) (am io (hr.mono) rfl gF gL ig .nil ai (aa (aG (aV (K:=K) rfl) (am mH (hr.mono) rfl lE lK mz .nil ai (aa (pv 2) (aa (pv 3) ac))) ae (λ_ _=>rfl)) ac)))
       (af (aj (i:=2) sc_common.nd rfl (Or.inl rfl) (pv 3))
       (ah (aj (i:=3) sc_common.nd rfl (Or.inl rfl) (pv 4))))))
   (ah (aw (pv 2)))))),?_⟩
  refine av ⟨_,rfl,a,xs,rfl,hA,xtr,by omega,λp1 H1 s1 hp1 e1=>?_⟩;refine av ⟨_,rfl,b,ys,rfl,s1 _ _ hB,ytr,by omega,λp2 H2 sm2 hp2 e2=>?_⟩;have s2:=s1.trans sm2;generalize ay xs=one' at hrun k e1
  generalize ay ys=other' at hrun k e2
  refine⟨λm σ' H'=>∃(po pt:Addr) (one other:List Int) (z4:Option V),σ'=[some (.ref a),some (.ref b),some (.ref po),some (.ref pt),z4]/\Same H H'/\H' po=some (.lst (one.map V.int))/\H' pt=some (.lst (other.map V.int))/\H po=none/\H pt=none/\kt m one other/\cb m one other=cb n one' other',
   ⟨_,p1,p2,one',other',none,rfl,s2,sm2 _ _ e1,e2,hp1,s1.free hp2,hrun,rfl⟩,?_⟩
  rintro m σ' H3 ⟨po,pt,one,other,z4,rfl,s3,ho,ht,fo,ft,hrun3,hcom⟩;refine⟨_,rfl,M9 _,λq hq=>?_⟩;have t4:=Same.upd_new (o:=.lst []) hq;refine⟨pt,q,other,[],rfl,rfl,SqL.of (t4 _ _ ht),SqL.of ao,_,rfl,cG (λhne=>?_) (λhe=>?_)⟩
  rotate_left
  ·have he':other=[]:=he;subst he';rw[zE]at hcom;refine⟨_,rfl,k po _ (s3.trans t4) fo ?_⟩;rw[<- hcom];exact t4 _ _ ho
  have hne':other≠[]:=hne
  obtain⟨m1,rfl⟩:∃m1,m=m1+1:=by
   cases m with
   |zero=>exact absurd hrun3 hne'
   |succ m1=>exact⟨m1,rfl⟩
  obtain⟨⟨otr,ttr,nb,bo,bt,hsz,htl⟩,hrun5⟩:=(show other=[]\/(uQ one other/\kt m1 other (ay (aK one other)))from hrun3).resolve_left hne'
  have hcom5:cb m1 other (ay (aK one other))=cb n one' other':=by
   rw[<- hcom];show _=if other=[]then one else cb m1 other (ay (aK one other))
   rw[if_neg hne']
  generalize hH5:upd H3 q (.lst [])=H5 at t4 ⊢
  refine⟨λσ'' H''=>∃m',m'<m1+1/\∃(po pt:Addr) (one other:List Int) (z4:Option V),σ''=[some (.ref a),some (.ref b),some (.ref po),some (.ref pt),z4]/\Same H H''/\H'' po=some (.lst (one.map V.int))/\H'' pt=some (.lst (other.map V.int))/\H po=none/\H pt=none/\kt m' one other/\cb m' one other=cb n one' other',λ_ _ h=>h,?_⟩
  have hrl:(aK one other).length<=1000000:=by have:=fc (a:=one) hne';omega
  refine av ⟨_,rfl,_,rfl,po,pt,one,other,nb,rfl,t4 _ _ ho,t4 _ _ ht,hne',bo,bt,hsz,htl,λt q' r H8 sm8 _ _ _ _ _ _ et _ er=>?_⟩;refine⟨t,_,_,_,rfl,rfl,SqT.of et,rfl,r,_,rfl,er,dU _ _,hrl,λp9 H9 sm9 hp9 e9=>?_⟩;refine av ⟨_,rfl,?_⟩;refine⟨_,rfl,?_⟩;have t9:=(t4.trans sm8).trans sm9;exact⟨m1,NV _,pt,p9,other,_,_,rfl,s3.trans t9,t9 _ _ ht,e9,ft,s3.free ((t4.trans sm8).free hp9),hrun5,hcom5⟩
def qo:Sp:=λvs H Q _=>∃(a b:Addr) (xs ys:List Int) (n:Nat),vs=[.ref a,.ref b]/\H a=some (.lst (xs.map V.int))/\H b=some (.lst (ys.map V.int))/\Tr xs/\Tr ys/\AllB n xs/\AllB n ys/\(xs.length+2)*(n+1)<=1000000/\ys.length<=1000000/\ys≠[]/\aK xs ys=[]/\mkL H Q (ay (bv xs ys))
theorem Es{f:Addr}{fd:FuncData}(F:Fun K "part" "part" i6 f fd)(T:Txt K mg){md:Addr}{lX:FuncData}(mM:Cal P w K mg base 2 "divided" ["first","second"] kL md lX){ma:Addr}{lV:FuncData}(mL:Cal P w K mg base 34 "plain" ["row"] kK ma lV):FnOk P w K mg base CX0 35 f fd ["row","divisor"] qo:=by
 obtain⟨mH,lE,lK,mz⟩:=mM;obtain⟨io,gF,gL,ig⟩:=mL;refine F.ok sc_part (λvs H Q E h=>?_) (λcdv A outer s H vs Q E hr h=>?_)
 ·obtain⟨a,b,xs,ys,n,rfl,_⟩:=h;rfl
 ·obtain⟨a,b,xs,ys,nb,rfl,hA,hB,xtr,ytr,bx,by',hsz,hyn,hy,hR,k⟩:=h;have hu:=hr.units
  refine⟨_,(af (aj (i:=2) sc_part.nd rfl (Or.inl rfl) (am mH (hr.mono) rfl lE lK mz .nil ai (aa (pv 0) (aa (pv 1) ac))))
   (af (aO (aH (jX (K:=K) rfl hu) (aG (aV (K:=K) rfl) (pv 2) ae (λ_ _=>rfl)) (aT ac) (aC _))
     (ah nX)
     aP)
   (ah (aw (am io (hr.mono) rfl gF gL ig .nil ai (aa (aG (aV (K:=K) rfl) (pv 2) ae (λ_ _=>rfl)) ac)))))),?_⟩
  refine av ⟨_,rfl,_,rfl,a,b,xs,ys,nb,rfl,hA,hB,hy,bx,by',hsz,hyn,λt q r H1 sm1 ft fq fr _ _ _ et eq er=>?_⟩;refine bF ⟨_,rfl,t,_,_,_,rfl,rfl,SqT.of et,rfl,M9 _,λp hp=>?_⟩;have s2:=Same.upd_new (o:=.lst []) hp;refine⟨r,p,_,[],rfl,rfl,SqL.of (s2 _ _ er),SqL.of ao,_,rfl,cG (λh=>absurd hR h) (λh=>?_)⟩;have lq:=tX (a:=xs) hy
  have hxl:xs.length<=1000000:=by have:=Oo (xs.length+2) (show 1<=nb+1 by omega);omega
  have hN:aS xs ys<=xs.length+1:=by unfold aS;omega
  have hN2:aS xs ys<=xs.length:=by have:=M5.mpr hy;unfold aS;omega
  exact⟨_,rfl,t,_,_,_,rfl,rfl,SqT.of (s2 _ _ et),rfl,q,bv xs ys,rfl,s2 _ _ eq,tV hy xtr ytr,by omega,λp' H' sm' hp' e'=>k p' H' ((sm1.then_new hp).trans sm') ((sm1.then_new hp).free hp') e'⟩
theorem ET{f:Addr}{fd:FuncData}(F:Fun K "added" "added" ju f fd)(T:Txt K mg){gZ:Addr}{gT:FuncData}(ir:Cal P w K mg base 1 "poly" ["row"] (iB K) gZ gT){tI:Addr}{sT:FuncData}(uZ:Cal P w K mg base 1 "coefficient" ["row","place"] (fv K) tI sT):FnOk P w K mg base CX0 2 f fd ["first","second"] (iF K fh):=by
 obtain⟨ik,gE,gK,ie⟩:=ir;obtain⟨mI,lG,lN,mC⟩:=uZ;refine F.ok sc_added (λvs H Q E h=>?_) (λcdv A outer s H vs Q E hr h=>?_)
 ·obtain⟨a,b,xs,ys,rfl,_⟩:=h;rfl
 ·obtain⟨a,b,xs,ys,rfl,hA,hB,hx,hy,k⟩:=h
  refine⟨_,(af (aj (i:=2) sc_added.nd rfl (Or.inl rfl) (aQ (zW rfl) (by rfl) T.max_ PyProof.Rows.boot_max (aa (aQ (cp (K:=K) rfl) (by rfl) T.len_ PySem.boot_len (aa (pv 0) ac)) (aa (aQ (cp (K:=K) rfl) (by rfl) T.len_ PySem.boot_len (aa (pv 1) ac)) ac))))
   (ah (aw (am ik (hr.mono) rfl gE gK ie .nil ai (aa (fE (own:=["k"]) (fr:=["first","second"]) (js:=[0,1]) (by walk_at "comp_ok") rfl (fC rfl T.range_ (aa (pv 2) ac)) (λ_ _ _ _=>(aU (i:=0) (show List.Nodup (["k","first","second"]:List Str)from by decide +kernel) rfl (Or.inl rfl))) (λ_ _ _ _=>(al bR (am mI (hr.mono) rfl lG lN mC .nil ai (aa (pv 1) (aa (pv 0) ac))) (am mI (hr.mono) rfl lG lN mC .nil ai (aa (pv 2) (aa (pv 0) ac)))))) ac))))),?_⟩
  refine⟨_,rfl,a,_,rfl,.inl hA,_,rfl,b,_,rfl,.inl hB,_,_,rfl,?_⟩;rw[xX,MZ,MZ];have hz:max xs.length ys.length<=sizeLine:=by have:=sizeLine_eq;omega
  refine⟨_,rfl,_,rfl,(nI hz).1,(nI hz).2,ud (lo:=0) (n:=max xs.length ys.length) (λi zs σ' H'=>∃z:Option V,σ'=[z,some (.ref a),some (.ref b)]/\zs=((List.range i).map λk=>V.int (cf xs k+cf ys k))/\H=H') hz ⟨none,rfl,rfl,rfl⟩ ?_ ?_ ?_⟩
  ·rintro i zs σ' H' _ ⟨z,rfl,rfl,rfl⟩;simp
  ·rintro i zs σ' H' hi ⟨z,rfl,rfl,rfl⟩;refine⟨_,rfl,_,rfl,a,xs,i,?_,hA,_,rfl,_,rfl,b,ys,i,?_,hB,_,_,rfl,rfl,_,rfl,?_,rfl⟩
   ·show[V.ref a,V.int (0+(i:Int))]=_;rw[NF]
   ·show[V.ref b,V.int (0+(i:Int))]=_;rw[NF]
   ·rw[List.range_succ,No];rfl
  ·rintro zs σ' H' p ⟨z,rfl,rfl,rfl⟩ hp;refine⟨p,(List.range (max xs.length ys.length)).map λk=>cf xs k+cf ys k,rfl,SqL.of ?_,?_⟩
   ·rw[ao,NH];rfl
   ·intro p' H' sm hp' e;refine k p' H' ((Same.upd_new hp).trans sm) ((Same.upd_new hp).free hp') ?_;rw[e,Lo]
def qr:Sp:=λvs H Q _=>∃(a b:Addr) (xs ys:List Int),vs=[.ref a,.ref b]/\H a=some (.lst (xs.map V.int))/\H b=some (.lst (ys.map V.int))/\xs.length<=1000000/\ys.length<=1000000/\AllB 1000000 xs/\AllB 1000000 ys/\mkL H Q (ad xs ys)
theorem Ew{f:Addr}{fd:FuncData}(F:Fun K "multiplied" "multiplied" ja f fd)(T:Txt K mg):FnOk P w K mg base CX0 1 f fd ["first","second"] qr:=by
 refine F.ok sc_multiplied (λvs H Q E h=>?_) (λcdv A outer s H vs Q E hr h=>?_)
 ·obtain⟨a,b,xs,ys,rfl,_⟩:=h;rfl
 ·obtain⟨a,b,xs,ys,rfl,hA,hB,hx,hy,bx,by',k⟩:=h;have hu:=hr.units
  refine⟨_,(af (aO (PW.pt (ei (aH (lx (K:=K) rfl hu) (pv 0) (aT ac) (aC _)) (gv (aH (lx (K:=K) rfl hu) (pv 1) (aT ac) (aC _)))))
   (ah (aw (aT ac)))
   aP)
   (af (aj (i:=2) sc_multiplied.nd rfl (Or.inl rfl) (al rk (aT (aa ae ac)) (al cs (al bR (aQ (cp (K:=K) rfl) (by rfl) T.len_ PySem.boot_len (aa (pv 0) ac)) (aQ (cp (K:=K) rfl) (by rfl) T.len_ PySem.boot_len (aa (pv 1) ac))) ae)))
   (af (ck PassesOwn.never rfl (re rfl T.enumerate_ (aa (pv 0) ac)) (n9 rfl (dB (aU (i:=3) sc_multiplied.nd rfl (Or.inl rfl)) (dB (aU (i:=4) sc_multiplied.nd rfl (Or.inl rfl)) ln)))
     (ah (ck PassesOwn.never rfl (re rfl T.enumerate_ (aa (pv 1) ac)) (n9 rfl (dB (aU (i:=5) sc_multiplied.nd rfl (Or.inl rfl)) (dB (aU (i:=6) sc_multiplied.nd rfl (Or.inl rfl)) ln)))
       (ah (jT (al bR (aG (bK (K:=K) rfl) (pv 2) (al bR (pv 3) (pv 5)) (λ_ _=>rfl)) (al aR (pv 4) (pv 6))) (lu (pv 2) (al bR (pv 3) (pv 5)) kS))))))
   (ah (aw (pv 2)))))),?_⟩
  refine⟨_,rfl,M9 _,λp1 hp1=>?_⟩;have s1:Same H (upd H p1 (.lst [])):=Same.upd_new hp1;refine⟨a,p1,xs,[],rfl,rfl,SqL.of (s1 _ _ hA),SqL.of ao,_,rfl,?_⟩;refine aX (λh0=>?_) (λh0=>?_)
  ·refine cK ⟨M9 _,λp2 hp2=>k p2 _ (s1.then_new hp2) (s1.free hp2) ?_⟩;rw[ao];unfold ad;rw[if_pos (.inl h0)];rfl
  refine⟨_,rfl,M9 _,λp2 hp2=>?_⟩;have s2:Same H (upd (upd H p1 (.lst [])) p2 (.lst [])):=s1.then_new hp2;refine⟨b,p2,ys,[],rfl,rfl,SqL.of (s2 _ _ hB),SqL.of ao,_,rfl,?_⟩;refine aX (λh1=>?_) (λh1=>?_)
  ·refine⟨M9 _,λp3 hp3=>k p3 _ (s2.then_new hp3) (s2.free hp3) ?_⟩;rw[ao];unfold ad;rw[if_pos (.inr h1)];rfl
  generalize upd (upd H p1 (.lst [])) p2 (.lst [])=H2 at s2 ⊢
  obtain⟨la,ea⟩:∃la,xs.length=la+1:=⟨xs.length-1,by have:=M5.mpr h0;omega⟩;obtain⟨lb,eb⟩:∃lb,ys.length=lb+1:=⟨ys.length-1,by have:=M5.mpr h1;omega⟩;refine⟨(by show 1<=sizeLine;decide),λp3 hp3=>?_⟩;have s3:=s2.then_new (o:=.lst [V.int 0]) hp3;have big:=sizeLine_eq;refine⟨_,rfl,a,_,rfl,.inl (SqL.of (s3 _ _ hA)),_,rfl,b,_,rfl,.inl (SqL.of (s3 _ _ hB)),_,_,rfl,rfl,_,_,rfl,rfl,p3,_,_,rfl,rfl,ao,?_,?_,?_,λp hp=>?_⟩
  ·rw[MZ,MZ];omega
  ·rw[MZ,MZ];omega
  ·rw[MZ,MZ];show 1*_<=_;omega
  have en:(((xs.map V.int).length:Int)+((ys.map V.int).length:Int)-1).toNat=la+lb+1:=by rw[MZ,MZ];omega
  rw[en,qP];have s4:=s3.then_new (o:=.lst ((List.replicate (la+lb+1) (0:Int)).map V.int)) hp;have npa:a≠p:=s3.ne hA hp;have npb:b≠p:=s3.ne hB hp;generalize hH4:upd (upd H2 p3 (.lst [V.int 0])) p (.lst ((List.replicate (la+lb+1) (0:Int)).map V.int))=H4 at s4 ⊢
  have hp4:H4 p=some (.lst ((List.replicate (la+lb+1) (0:Int)).map V.int)):=by rw[<- hH4,ao]
  refine⟨_,rfl,a,rfl,⟨_,SqL.of (s4 _ _ hA)⟩,sI (K:=K) (a:=a) (xs:=xs.map V.int) (λj σ' H'=>∃(acc:List Int) (z3 z4 z5 z6:Option V),σ'=[some (.ref a),some (.ref b),some (.ref p),z3,z4,z5,z6]/\SameB p H4 H'/\H' p=some (.lst (acc.map V.int))/\acc.length=la+lb+1/\∀n,n<acc.length->cf acc n=sm xs ys n j)
   ⟨List.replicate (la+lb+1) 0,none,none,none,none,rfl,SameB.refl _ _,hp4,by simp,λn _=>by rw[mn];rfl⟩ ?_ ?_ ?_⟩
  ·rintro j σ' H' _ ⟨acc,z3,z4,z5,z6,rfl,sb,_⟩;exact SqL.of (sb _ _ npa (s4 _ _ hA))
  ·rintro j x σ' H' q hj ⟨acc,z3,z4,z5,z6,rfl,sb,hpa,hal,hac⟩ hq;rw[List.getElem?_map]at hj
   have hjl:j<xs.length:=by apply Classical.byContradiction;intro hn;rw[List.getElem?_eq_none_iff.mpr (NX hn)]at hj;cases hj
   rw[gO hjl]at hj;obtain rfl:=Option.some.inj hj;refine⟨q,_,rfl,SqT.of ao,rfl,_,_,rfl,_,_,rfl,rfl,?_⟩;have nqp:p≠q:=aN hpa hq;have sb1:SameB p H4 (upd H' q (.tup [.int j,.int (cf xs j)])):=sb.then_new hq
   refine⟨_,rfl,b,rfl,⟨_,SqL.of (sb1 _ _ npb (s4 _ _ hB))⟩,sI (K:=K) (a:=b) (xs:=ys.map V.int) (λi σ' H'=>∃(acc:List Int) (z5 z6:Option V),σ'=[some (.ref a),some (.ref b),some (.ref p),some (.int j),some (.int (cf xs j)),z5,z6]/\SameB p H4 H'/\H' p=some (.lst (acc.map V.int))/\acc.length=la+lb+1/\∀n,n<acc.length->cf acc n=sm xs ys n j+(if j<=n/\n-j<i then tm xs ys n j else 0))
    ⟨acc,z5,z6,rfl,sb1,by rw[upd_ne nqp];exact hpa,hal,xJ hac⟩ ?_ ?_ ?_⟩
   ·rintro i σ' H' _ ⟨acc,z5,z6,rfl,sb,_⟩;exact SqL.of (sb _ _ npb (s4 _ _ hB))
   ·rintro i x σ' H' q hi ⟨acc,z5,z6,rfl,sb,hpa,hal,hac⟩ hq;rw[List.getElem?_map]at hi
    have hil:i<ys.length:=by apply Classical.byContradiction;intro hn;rw[List.getElem?_eq_none_iff.mpr (NX hn)]at hi;cases hi
    rw[gO hil]at hi;obtain rfl:=Option.some.inj hi;refine⟨q,_,rfl,SqT.of ao,rfl,_,_,rfl,_,_,rfl,rfl,?_⟩;have nqp:p≠q:=aN hpa hq;have hpa':upd H' q (.tup [.int i,.int (cf ys i)]) p=some (.lst (acc.map V.int)):=by rw[upd_ne nqp];exact hpa
    have hji:j+i<acc.length:=by omega
    have eji:((j:Nat):Int)+((i:Nat):Int)=((j+i:Nat):Int):=by omega
    refine⟨_,rfl,_,rfl,_,rfl,_,_,rfl,rfl,p,_,_,_,rfl,rfl,SqL.of hpa',ko eji hji,_,rfl,_,rfl,_,_,rfl,rfl,⟨bx.cf j,by'.cf i⟩,_,_,rfl,rfl,_,rfl,_,rfl,_,rfl,_,_,rfl,rfl,p,_,_,j+i,rfl,rfl,hpa',lQ eji (by rw[MZ];exact hji),?_⟩;refine⟨acc.set (j+i) (cf acc (j+i)+cf xs j*cf ys i),_,_,rfl,(sb.then_new hq).then_upd,by rw[ao,oG],by rw[Ou];exact hal,xI hjl hil hji hac⟩
   ·rintro σ' H' ⟨acc,z5,z6,rfl,sb,hpa,hal,hac⟩;rw[MZ]at hac;exact⟨acc,_,_,_,_,rfl,sb,hpa,hal,xK hac⟩
  ·rintro σ' H' ⟨acc,z3,z4,z5,z6,rfl,sb,hpa,hal,hac⟩;rw[MZ]at hac;refine⟨_,rfl,k p H' (λb' o e=>sb b' o (s3.ne e hp) (s4 b' o e)) (s3.free hp) ?_⟩;rw[hpa]
   have e:acc=ad xs ys:=by
    apply cY
    ·rw[hal];unfold ad;rw[if_neg (by intro z;exact z.elim h0 h1),MZ,N2];omega
    ·intro n _;rw[aE,xL (by omega) hac]
   rw[e]
def qm(C:Addr):Sp:=λvs H Q _=>∃(p q:Addr) (t b u d:Int) (i j:Nat),vs=[.ref p,.ref q]/\RA C H p t b/\RA C H q u d/\Bits 100000 t/\Bits i b/\Bits 100000 u/\Bits j d/\i+j<=9000/\0<b/\0<d/\mkR C H Q (t*d+u*b) (b*d)
theorem Fd{C f:Addr}{fd:FuncData}(F:Fun K "plus" "Ratio.plus" jH f fd)(T:Txt K mg)(R:RCI K mg C){cw:Addr}{cv:FuncData}{cx:List Value}(cz:KCal P w K mg base 2 C "Ratio" ["self","top","bottom"] (cP C) cw cv cx [.int 1]):FnOk P w K mg base CX0 4 f fd ["self","other"] (qm C):=by
 obtain⟨ci,cg,bZ,cy,du,dm⟩:=cz;refine F.ok Cy (λvs H Q E h=>?_) (λcdv A outer s H vs Q E hr h=>?_)
 ·obtain⟨p,q,t,b,u,d,i,j,rfl,_⟩:=h;rfl
 ·obtain⟨p,q,t,b,u,d,i,j,rfl,⟨dx,hp⟩,⟨dy,hq⟩,bt,bb,bu,bd,hij,hb,hd,k⟩:=h;have bb':Bits 1000000 b:=bb.mono (by omega);have bd':Bits 1000000 d:=bd.mono (by omega);refine⟨_,(ah (aw (cM cg ci (hr.mono) rfl bZ cy .nil ai (aa (al bR (al aR (aJ (K:=K) rfl (pv 0) rfl) (aJ (K:=K) rfl (pv 1) rfl)) (al aR (aJ (K:=K) rfl (pv 1) rfl) (aJ (K:=K) rfl (pv 0) rfl))) (aa (al aR (aJ (K:=K) rfl (pv 0) rfl) (aJ (K:=K) rfl (pv 1) rfl)) ac))))),?_⟩;refine⟨_,rfl,p,C,dx,_,_,rfl,hp,R.cl,R.nT,cu _ _,_,rfl,q,C,dy,_,_,rfl,hq,R.cl,R.nB,bn _ _,_,_,rfl,rfl,⟨bt.mono,bd'⟩,?_⟩;refine⟨_,rfl,q,C,dy,_,_,rfl,hq,R.cl,R.nT,cu _ _,_,rfl,p,C,dx,_,_,rfl,hp,R.cl,R.nB,bn _ _,_,_,rfl,rfl,⟨bu.mono,bb'⟩,_,_,rfl,rfl,?_⟩;refine⟨_,rfl,p,C,dx,_,_,rfl,hp,R.cl,R.nB,bn _ _,_,rfl,q,C,dy,_,_,rfl,hq,R.cl,R.nB,bn _ _,_,_,rfl,rfl,⟨bb',bd'⟩,?_⟩;exact dj (Ny (M6 hb hd)) ((bb.mul bd).mono hij) k
def nv(C:Addr):Sp:=λvs H Q _=>∃(p q:Addr) (t b u d:Int) (i j:Nat),vs=[.ref p,.ref q]/\RA C H p t b/\RA C H q u d/\Bits 100000 t/\Bits i b/\Bits 100000 u/\Bits j d/\i+j<=9000/\0<b/\0<d/\mkR C H Q (t*d-u*b) (b*d)
theorem Fe{C f:Addr}{fd:FuncData}(F:Fun K "minus" "Ratio.minus" jI f fd)(T:Txt K mg)(R:RCI K mg C){cw:Addr}{cv:FuncData}{cx:List Value}(cz:KCal P w K mg base 2 C "Ratio" ["self","top","bottom"] (cP C) cw cv cx [.int 1]):FnOk P w K mg base CX0 4 f fd ["self","other"] (nv C):=by
 obtain⟨ci,cg,bZ,cy,du,dm⟩:=cz;refine F.ok Cz (λvs H Q E h=>?_) (λcdv A outer s H vs Q E hr h=>?_)
 ·obtain⟨p,q,t,b,u,d,i,j,rfl,_⟩:=h;rfl
 ·obtain⟨p,q,t,b,u,d,i,j,rfl,⟨dx,hp⟩,⟨dy,hq⟩,bt,bb,bu,bd,hij,hb,hd,k⟩:=h;have bb':Bits 1000000 b:=bb.mono (by omega);have bd':Bits 1000000 d:=bd.mono (by omega);refine⟨_,(ah (aw (cM cg ci (hr.mono) rfl bZ cy .nil ai (aa (al cs (al aR (aJ (K:=K) rfl (pv 0) rfl) (aJ (K:=K) rfl (pv 1) rfl)) (al aR (aJ (K:=K) rfl (pv 1) rfl) (aJ (K:=K) rfl (pv 0) rfl))) (aa (al aR (aJ (K:=K) rfl (pv 0) rfl) (aJ (K:=K) rfl (pv 1) rfl)) ac))))),?_⟩;refine⟨_,rfl,p,C,dx,_,_,rfl,hp,R.cl,R.nT,cu _ _,_,rfl,q,C,dy,_,_,rfl,hq,R.cl,R.nB,bn _ _,_,_,rfl,rfl,⟨bt.mono,bd'⟩,?_⟩;refine⟨_,rfl,q,C,dy,_,_,rfl,hq,R.cl,R.nT,cu _ _,_,rfl,p,C,dx,_,_,rfl,hp,R.cl,R.nB,bn _ _,_,_,rfl,rfl,⟨bu.mono,bb'⟩,_,_,rfl,rfl,?_⟩;refine⟨_,rfl,p,C,dx,_,_,rfl,hp,R.cl,R.nB,bn _ _,_,rfl,q,C,dy,_,_,rfl,hq,R.cl,R.nB,bn _ _,_,_,rfl,rfl,⟨bb',bd'⟩,?_⟩;exact dj (Ny (M6 hb hd)) ((bb.mul bd).mono hij) k
def kJ(C:Addr):Sp:=λvs H Q _=>∃(p q:Addr) (t b u d:Int) (i j:Nat),vs=[.ref p,.ref q]/\RA C H p t b/\RA C H q u d/\Bits 100000 t/\Bits i b/\Bits 100000 u/\Bits j d/\i+j<=9000/\0<b/\0<d/\mkR C H Q (t*u) (b*d)
theorem Fc{C f:Addr}{fd:FuncData}(F:Fun K "times" "Ratio.times" jG f fd)(T:Txt K mg)(R:RCI K mg C){cw:Addr}{cv:FuncData}{cx:List Value}(cz:KCal P w K mg base 2 C "Ratio" ["self","top","bottom"] (cP C) cw cv cx [.int 1]):FnOk P w K mg base CX0 4 f fd ["self","other"] (kJ C):=by
 obtain⟨ci,cg,bZ,cy,du,dm⟩:=cz;refine F.ok Cw (λvs H Q E h=>?_) (λcdv A outer s H vs Q E hr h=>?_)
 ·obtain⟨p,q,t,b,u,d,i,j,rfl,_⟩:=h;rfl
 ·obtain⟨p,q,t,b,u,d,i,j,rfl,⟨dx,hp⟩,⟨dy,hq⟩,bt,bb,bu,bd,hij,hb,hd,k⟩:=h;refine⟨_,(ah (aw (cM cg ci (hr.mono) rfl bZ cy .nil ai (aa (al aR (aJ (K:=K) rfl (pv 0) rfl) (aJ (K:=K) rfl (pv 1) rfl)) (aa (al aR (aJ (K:=K) rfl (pv 0) rfl) (aJ (K:=K) rfl (pv 1) rfl)) ac))))),?_⟩;refine⟨_,rfl,p,C,dx,_,_,rfl,hp,R.cl,R.nT,cu _ _,_,rfl,q,C,dy,_,_,rfl,hq,R.cl,R.nT,cu _ _,_,_,rfl,rfl,⟨bt.mono,bu.mono⟩,?_⟩;refine⟨_,rfl,p,C,dx,_,_,rfl,hp,R.cl,R.nB,bn _ _,_,rfl,q,C,dy,_,_,rfl,hq,R.cl,R.nB,bn _ _,_,_,rfl,rfl,⟨bb.mono (by omega),bd.mono (by omega)⟩,?_⟩;exact dj (Ny (M6 hb hd)) ((bb.mul bd).mono hij) k
theorem zr{l:List Int}{i:Nat}{c:Int}(hi:i<l.length)(e:l[l.length-1-i]?=some c):l.drop (l.length-(i+1))=c::l.drop (l.length-i):=by
 have h:l.length-(i+1)=l.length-1-i:=by omega
 rw[h,O6 (by omega)];have h2:l.length-1-i+1=l.length-i:=by omega
 rw[h2];have h3:=List.getElem?_eq_getElem (l:=l) (i:=l.length-1-i) (by omega);rw[h3]at e;rw[Option.some.inj e]
theorem jU(n:Nat):(0:Int)<2^n:=Od (by decide)
theorem gw(n:Nat):(2:Int)^n=((2^n:Nat):Int):=by rw[Int.natCast_pow];rfl
theorem ll{n k:Nat}(h:n<k):Bits k ((2:Int)^n):=by rw[gw];show(((2^n:Nat):Int)).natAbs<2^k;rw[Nr];exact(Pd (by decide)).mpr h
theorem mV:Bits 1000000 (2:Int):=Bits.mono (j:=2) (by show(2:Int).natAbs<2^2;decide) (by decide)
def qx(C:Addr):Sp:=λvs H Q _=>∃(r wd:Addr) (r1 r2 w1 w2:Int) (kr kw:Nat),vs=[.ref r,.ref wd]/\RA C H r r1 r2/\RA C H wd w1 w2/\0<r2/\0<w1/\Bits kr r1/\Bits 100000 r2/\Bits 100000 w1/\Bits kw w2/\kr+kw<=100000/\∀n:Nat,n<=kr+kw->r1*w2<=w1*r2*2^n->(∀j:Nat,j<n->w1*r2*2^j<r1*w2)->Q (.int n) H
theorem ED{C f:Addr}{fd:FuncData}(F:Fun K "halvings" "halvings" jg f fd)(T:Txt K mg)(R:RCI K mg C):FnOk P w K mg base CX0 1 f fd ["reach","width"] (qx C):=by
 refine F.ok sc_halvings (λvs H Q E h=>?_) (λcdv A outer s H vs Q E hr h=>?_)
 ·obtain⟨r,wd,r1,r2,w1,w2,kr,kw,rfl,_⟩:=h;rfl
 ·obtain⟨r,wd,r1,r2,w1,w2,kr,kw,rfl,⟨dr,hR⟩,⟨dw,hW⟩,hr2,hw1,br1,br2,bw1,bw2,hkk,k⟩:=h
  refine⟨_,(af (aj (i:=2) sc_halvings.nd rfl (Or.inl rfl) (al aR (aJ (K:=K) rfl (pv 0) rfl) (aJ (K:=K) rfl (pv 1) rfl)))
   (af (aj (i:=3) sc_halvings.nd rfl (Or.inl rfl) (al aR (aJ (K:=K) rfl (pv 1) rfl) (aJ (K:=K) rfl (pv 0) rfl)))
   (af (aj (i:=4) sc_halvings.nd rfl (Or.inl rfl) ae)
   (af (fB PassesOwn.never (aH dD (pv 2) (pv 3) (aC _))
     (af (aj (i:=3) sc_halvings.nd rfl (Or.inl rfl) (al aR ae (pv 3)))
       (ah (aj (i:=4) sc_halvings.nd rfl (Or.inl rfl) (al bR (pv 4) ae)))))
   (ah (aw (pv 4))))))),?_⟩
  refine av ⟨_,rfl,r,C,dr,_,_,rfl,hR,R.cl,R.nT,cu _ _,_,rfl,wd,C,dw,_,_,rfl,hW,R.cl,R.nB,bn _ _,_,_,rfl,rfl,⟨br1.mono (by omega),bw2.mono (by omega)⟩,?_⟩;refine av ⟨_,rfl,wd,C,dw,_,_,rfl,hW,R.cl,R.nT,cu _ _,_,rfl,r,C,dr,_,_,rfl,hR,R.cl,R.nB,bn _ _,_,_,rfl,rfl,⟨bw1.mono,br2.mono⟩,?_⟩;have bW:Bits (kr+kw) (r1*w2):=br1.mul bw2;have g0:0<w1*r2:=M6 hw1 hr2;refine av ?_;dsimp only
  generalize r1*w2=W at *
  generalize w1*r2=g at *
  show cD _ _ _ _ _
  have b0:∀n:Nat,(∀j:Nat,j<n->g*2^j<W)->n<=kr+kw:=λn hn=>by
   rcases OJ (kr+kw) n with z |z
   ·have h1:=hn (kr+kw) z
    have h2:(2:Int)^(kr+kw)<=g*2^(kr+kw):=by have:=Nw (show(1:Int)<=g by omega) (M7 (jU (kr+kw)));omega
    have h3:W.natAbs<2^(kr+kw):=bW;have h5:(W.natAbs:Int)<((2^(kr+kw):Nat):Int):=OB.mpr h3;rw[<- gw]at h5;generalize (2:Int)^(kr+kw)=Y at *
    omega
   ·exact z
  refine⟨λm σ' H'=>∃n:Nat,σ'=[some (.ref r),some (.ref wd),some (.int W),some (.int (g*2^n)),some (.int n)]/\H=H'/\m=(W-g*2^n).toNat/\∀j:Nat,j<n->g*2^j<W,⟨_,0,by rw[NP,NJ];rfl,rfl,rfl,λj hj=>absurd hj (O0 _)⟩,?_⟩;rintro m σ' H' ⟨n,rfl,rfl,rfl,hj⟩;refine⟨_,rfl,_,rfl,_,_,rfl,rfl,_,rfl,aX (λhgt=>?_) (λhle=>?_)⟩
  ·have hgt':g*2^n<W:=hgt;have gp:0<g*2^n:=M6 g0 (jU n);have bg:Bits (kr+kw) (g*2^n):=bW.of_le (by omega);refine⟨λσ'' H''=>∃m',m'<(W-g*2^n).toNat/\∃n:Nat,σ''=[some (.ref r),some (.ref wd),some (.int W),some (.int (g*2^n)),some (.int n)]/\H=H''/\m'=(W-g*2^n).toNat/\∀j:Nat,j<n->g*2^j<W,λ_ _ h=>h,?_⟩;have e2:2*(g*2^n)=g*2^(n+1):=by rw[Nn];grind
   refine av ⟨_,rfl,_,_,rfl,rfl,⟨mV,bg.mono (by omega)⟩,?_⟩;refine bX ⟨_,rfl,_,_,rfl,rfl,?_⟩;refine⟨(W-g*2^(n+1)).toNat,by rw[<- e2];omega,n+1,by rw[<- e2];rfl,rfl,rfl,λj h'=>?_⟩;by_cases ej:j=n
   ·subst ej;exact hgt'
   ·exact hj j (by omega)
  ·refine⟨_,rfl,k n (b0 n hj) ?_ hj⟩;have:¬g*2^n<W:=hle;omega
theorem jP{k:Nat}{t b:Int}(hb:b≠0)(h:Bits k t):Bits k (rt t b):=h.of_le (wv hb)
theorem gt{k:Nat}{t b:Int}(hb:b≠0)(h:Bits k b):Bits k (rb t b):=h.of_le (wF hb)
theorem xy:¬(("plus":Str)="bottom")/\¬(("plus":Str)="top"):=⟨by decide +kernel,by decide +kernel⟩
theorem xz:¬(("minus":Str)="bottom")/\¬(("minus":Str)="top"):=⟨by decide +kernel,by decide +kernel⟩
theorem ol:¬(("times":Str)="bottom")/\¬(("times":Str)="top"):=⟨by decide +kernel,by decide +kernel⟩
def qF(C:Addr):Sp:=λvs H Q _=>∃(l r:Addr) (l1 l2 r1 r2 pl pc:Int) (i j n:Nat),vs=[.ref l,.ref r,.int pl,.int pc]/\RA C H l l1 l2/\RA C H r r1 r2/\0<l2/\0<r2/\0<pc/\Bits i l1/\Bits i l2/\Bits j r1/\Bits j r2/\Bits n pl/\Bits n pc/\i+(j+n)<=9000 /\
 ∀(x:Addr) (H':Hp) (x1 x2:Int),Same H H'->H x=none->RA C H' x x1 x2->0<x2->x1*(l2*r2*pc)=(l1*r2*pc+r1*l2*pl)*x2->Bits (i+(j+n)+1) x1->Bits (i+(j+n)+1) x2->Nat.gcd x1.natAbs x2.natAbs=1->Q (.ref x) H'
theorem ES{C f:Addr}{fd:FuncData}(F:Fun K "along" "along" jt f fd)(T:Txt K mg)(R:RCI K mg C){JO:Addr}{I0:FuncData}(MQ:MCal P w K mg base 4 C "plus" ["self","other"] (qm C) JO I0){mf:Addr}{lZ:FuncData}(mP:MCal P w K mg base 4 C "times" ["self","other"] (kJ C) mf lZ){cw:Addr}{cv:FuncData}{cx:List Value}(cz:KCal P w K mg base 2 C "Ratio" ["self","top","bottom"] (cP C) cw cv cx [.int 1]):FnOk P w K mg base CX0 5 f fd ["low","reach","place","pieces"] (qF C):=by
 obtain⟨L9,FD,K9⟩:=MQ;obtain⟨mK,lA,mE⟩:=mP;obtain⟨ci,cg,bZ,cy,du,dm⟩:=cz;refine F.ok Cp (λvs H Q E h=>?_) (λcdv A outer s H vs Q E hr h=>?_)
 ·obtain⟨l,r,l1,l2,r1,r2,pl,pc,i,j,n,rfl,_⟩:=h;rfl
 ·obtain⟨l,r,l1,l2,r1,r2,pl,pc,i,j,n,rfl,hL,hR,hl2,hr2,hpc,bl1,bl2,br1,br2,bpl,bpc,hijn,k⟩:=h;refine⟨_,(ah (aw (fD (pv 0) R.cl FD L9 (hr.mono) K9 .nil ai (aa (fD (pv 1) R.cl lA mK (hr.mono) mE .nil ai (aa (cM cg ci (hr.mono) rfl bZ cy .nil ai (aa (pv 2) (aa (pv 3) ac))) ac)) ac)))),?_⟩;obtain⟨dl,hl⟩:=id hL;obtain⟨dr,hrr⟩:=id hR;have pc0:pc≠0:=Ny hpc;refine aZ ⟨_,rfl,l,dl,_,rfl,hl,gQ _ _ xy.1 xy.2,_,rfl,r,dr,_,rfl,hrr,gQ _ _ ol.1 ol.2,_,rfl,_,rfl,dj pc0 (bpc.mono (by omega)) λxa H1 s1 ha hRa=>?_⟩;have a0:0<rb pl pc:=d9 pc0;have ba1:Bits n (rt pl pc):=jP pc0 bpl;have ba2:Bits n (rb pl pc):=gt pc0 bpc;have ea:=gu (t:=pl) pc0;generalize rt pl pc=a1 at *
  generalize rb pl pc=a2 at *
  refine⟨r,xa,r1,r2,a1,a2,j,n,rfl,hR.same s1,hRa,br1.mono (by omega),br2,ba1.mono (by omega),ba2,by omega,hr2,a0,λxc H2 s2 hc hRc=>?_⟩;have d0:r2*a2≠0:=Ny (M6 hr2 a0);have c0:0<rb (r1*a1) (r2*a2):=d9 d0;have bc1:Bits (j+n) (rt (r1*a1) (r2*a2)):=jP d0 (br1.mul ba1);have bc2:Bits (j+n) (rb (r1*a1) (r2*a2)):=gt d0 (br2.mul ba2);have ec:=gu (t:=r1*a1) d0;generalize rt (r1*a1) (r2*a2)=c1 at *
  generalize rb (r1*a1) (r2*a2)=c2 at *
  have t2:=s1.trans s2;refine⟨l,xc,l1,l2,c1,c2,i,j+n,rfl,hL.same t2,hRc,bl1.mono (by omega),bl2,bc1.mono (by omega),bc2,hijn,hl2,c0,λxx H3 s3 hx hRx=>?_⟩;have x0:l2*c2≠0:=Ny (M6 hl2 c0);refine k xx H3 _ _ (t2.trans s3) (t2.free hx) hRx (d9 x0) (Lm a0 c0 ea ec (gu x0)) ?_ ?_ (qT x0)
  ·refine(jP x0 ?_);exact Bits.add (bl1.mul bc2) ((bc1.mul bl2).mono (by omega))
  ·exact(gt x0 (bl2.mul bc2)).mono (by omega)
theorem FO{i j:Nat}{a b c:Int}{l:List Int}(hl:AllB i l)(ha:Bits j a)(hb:Bits j b)(hc:Bits (i+j) c):AllB (i+j+1) (mb a b c l):=AllB.of_cf λn=>by
 rw[hJ];refine Bits.add ?_ ?_
 ·exact(ha.neg.mul (hl.cf n)).mono (by omega)
 ·split
  ·exact hc
  ·exact(hb.mul (hl.cf (n-1))).mono (by omega)
theorem vN{kv j:Nat}{m s0 s1:Int}(hm:Bits j m)(h0:Bits j s0)(h1:Bits j s1):∀{l:List Int},AllB kv l->AllB (kv+(j+1)*l.length+1) (bj m s0 s1 l)
 | [],_=>AllB.nil
 |v::l,h=>by
  have ih:=vN hm h0 h1 (l:=l) λx hx=>h x (M8 _ hx)
  have hv:=h v (Na ..)
  have:=FO (c:=v*m^l.length) ih h0.neg h1 ((hv.mul (ia hm l.length)).mono (by
   have:(j+1)*l.length=j*l.length+l.length:=by rw[Nat.add_mul,Nat.one_mul]
   omega))
  refine AllB.mono this ?_;rw[Nq,Nat.mul_add,Nat.mul_one];omega
theorem Bz{a b c:Int}{l:List Int}(hne:l≠[])(hT:Tr (mb a b c l)):fh (ad l [-a,b]) (trim [c])=mb a b c l:=by
 refine mh (dM _) hT λk=>?_
 unfold fh;rw[fg,fS,fg,Nv,FA hne,hJ,hJ];rcases k with _ |k
 ·show _+0+c=_+c;omega
 ·rw[if_neg (by omega),if_neg (by omega)];show _+cf [] k=_;rw[bM];omega
theorem A7{m s0 s1:Int}(hs:0<s1){l:List Int}(hne:l≠[])(hl:Tr l):Tr (bj m s0 s1 l):=by
 have h1:=vM m s0 s1 l;have hlen:=iA m s0 s1 l;have hp:0<l.length:=M5.mpr hne;have h2:cf l (l.length-1)≠0:=hl _ (by omega);intro n hn;have:n=l.length-1:=by omega
 subst this;rw[h1];exact Nk h2 (Ny (Od hs))
theorem Bc{l:List Int}(hl:Tr l){i:Nat}(h:i<l.length):Tr (l.drop i):=by
 intro n hn;rw[Og]at hn
 have e:cf (l.drop i) n=cf l (i+n):=by unfold cf;simp[List.getD]
 rw[e];exact hl _ (by omega)
def qc(C:Addr):Sp:=λvs H Q _=>∃(a l r:Addr) (ns:List Int) (l1 l2 r1 r2:Int),vs=[.ref a,.ref l,.ref r]/\H a=some (.lst (ns.map V.int))/\RA C H l l1 l2/\RA C H r r1 r2/\Tr ns/\ns≠[]/\ns.length<=12/\AllB 1000 ns/\0<l2/\0<r1/\0<r2/\Bits 1400 l1/\Bits 1400 l2/\Bits 2900 r1/\Bits 2900 r2 /\
 ∀m s0 s1:Int,0<m->s0*l2=l1*m->s1*r2=r1*m->0<s1->AllB 60000 (bj m s0 s1 ns)->mkL H Q (bj m s0 s1 ns)
theorem Ec{C f:Addr}{fd:FuncData}(F:Fun K "stretched" "stretched" iM f fd)(T:Txt K mg)(R:RCI K mg C){tD:Addr}{sP:FuncData}(uV:Cal P w K mg base 2 "shared" ["row"] (ni K) tD sP){JF:Addr}{IR:FuncData}(MH:Cal P w K mg base 2 "added" ["first","second"] (iF K fh) JF IR){Jr:Addr}{IC:FuncData}(Ms:Cal P w K mg base 1 "multiplied" ["first","second"] qr Jr IC){gZ:Addr}{gT:FuncData}(ir:Cal P w K mg base 1 "poly" ["row"] (iB K) gZ gT):FnOk P w K mg base CX0 3 f fd ["row","low","reach"] (qc C):=by
 obtain⟨uJ,rP,se,uq⟩:=uV;obtain⟨LY,Gy,Hk,KY⟩:=MH;obtain⟨LL,Gk,G8,KK⟩:=Ms;obtain⟨ik,gE,gK,ie⟩:=ir;refine F.ok sc_stretched (λvs H Q E h=>?_) (λcdv A outer s H vs Q E hr h=>?_)
 ·obtain⟨a,l,r,ns,l1,l2,r1,r2,rfl,_⟩:=h;rfl
 ·obtain⟨a,l,r,ns,l1,l2,r1,r2,rfl,hA,⟨dl,hL⟩,⟨dr,hR⟩,hT,hne,hln,hbn,hl2,hr1,hr2,bl1,bl2,br1,br2,k⟩:=h
  refine⟨_,(af (aj (i:=3) sc_stretched.nd rfl (Or.inl rfl) (al cT (al aR (aJ (K:=K) rfl (pv 1) rfl) (aJ (K:=K) rfl (pv 2) rfl)) (am uJ (hr.mono) rfl rP se uq .nil ai (aa (aT (aa (aJ (K:=K) rfl (pv 1) rfl) (aa (aJ (K:=K) rfl (pv 2) rfl) ac))) ac))))
   (af (aj (i:=4) sc_stretched.nd rfl (Or.inl rfl) (al aR (aJ (K:=K) rfl (pv 1) rfl) (al cT (pv 3) (aJ (K:=K) rfl (pv 1) rfl))))
   (af (aj (i:=5) sc_stretched.nd rfl (Or.inl rfl) (al aR (aJ (K:=K) rfl (pv 2) rfl) (al cT (pv 3) (aJ (K:=K) rfl (pv 2) rfl))))
   (af (aj (i:=6) sc_stretched.nd rfl (Or.inl rfl) (aT ac))
   (af (aj (i:=7) sc_stretched.nd rfl (Or.inl rfl) ae)
   (af (ck PassesOwn.never rfl (rd rfl T.reversed_ (aa (pv 0) ac)) (aU (i:=8) sc_stretched.nd rfl (Or.inl rfl))
     (af (aj (i:=6) sc_stretched.nd rfl (Or.inl rfl) (am LY (hr.mono) rfl Gy Hk KY .nil ai (aa (am LL (hr.mono) rfl Gk G8 KK .nil ai (aa (pv 6) (aa (aT (aa (pv 4) (aa (pv 5) ac))) ac))) (aa (am ik (hr.mono) rfl gE gK ie .nil ai (aa (aT (aa (al aR (pv 8) (pv 7)) ac)) ac)) ac))))
       (ah (aj (i:=7) sc_stretched.nd rfl (Or.inl rfl) (al aR (pv 7) (pv 3))))))
   (ah (aw (pv 6))))))))),?_⟩
  obtain⟨l',r',pl',pr',pg,el,er,em,e1,e2,pm⟩:=Kt hl2 hr2 (g:=au [l2,r2]) (by show Nat.gcd (Nat.gcd 0 l2.natAbs) r2.natAbs=_;rw[OR]);have bg:Bits 9000 ((au [l2,r2]:Nat):Int):=Bits.mono (j:=1400) (bl2.of_le (by rw[Nr];exact Nat.le_of_dvd (by omega) (by show Nat.gcd (Nat.gcd 0 l2.natAbs) r2.natAbs∣_;rw[OR];exact N3 _ _))) (by decide)
  have bl':Bits 1400 l':=bl2.of_le (by
   rw[el,Ni]
   exact OP _ (by omega))
  have br':Bits 2900 r':=br2.of_le (by
   rw[er,Ni]
   exact OP _ (by omega))
  refine av ⟨_,rfl,l,C,dl,_,_,rfl,hL,R.cl,R.nB,bn _ _,_,rfl,r,C,dr,_,_,rfl,hR,R.cl,R.nB,bn _ _,_,_,rfl,rfl,⟨bl2.mono,br2.mono⟩,?_⟩;refine⟨_,rfl,l,C,dl,_,_,rfl,hL,R.cl,R.nB,bn _ _,_,rfl,r,C,dr,_,_,rfl,hR,R.cl,R.nB,bn _ _,by show 2<=sizeLine;decide,λp0 hp0=>?_⟩;have s0':=Same.upd_new (o:=.lst [V.int l2,V.int r2]) hp0;refine⟨p0,[l2,r2],rfl,SqL.of ao,_,_,rfl,rfl,⟨pg,bg⟩,?_⟩;generalize upd H p0 (.lst [V.int l2,V.int r2])=H0 at s0' ⊢
  dsimp only
  rw[em];refine av ⟨_,rfl,l,C,dl,_,_,rfl,s0' _ _ hL,R.cl,R.nT,cu _ _,_,rfl,_,rfl,l,C,dl,_,_,rfl,s0' _ _ hL,R.cl,R.nB,bn _ _,_,_,rfl,rfl,⟨hl2,bl2.mono⟩,?_⟩;dsimp only
  rw[e1];refine⟨_,_,rfl,rfl,⟨bl1.mono,br'.mono⟩,?_⟩;refine av ⟨_,rfl,r,C,dr,_,_,rfl,s0' _ _ hR,R.cl,R.nT,cu _ _,_,rfl,_,rfl,r,C,dr,_,_,rfl,s0' _ _ hR,R.cl,R.nB,bn _ _,_,_,rfl,rfl,⟨hr2,br2.mono⟩,?_⟩;dsimp only
  rw[e2];refine⟨_,_,rfl,rfl,⟨br1.mono,bl'.mono⟩,?_⟩;have q0:l1*r'*l2=l1*(l2*r'):=by grind
  have q1:r1*l'*r2=r1*(l2*r'):=by
   calc r1*l'*r2=r1*l'*(((au [l2,r2]:Nat):Int)*r'):=by rw[<- er]
    _=r1*((((au [l2,r2]:Nat):Int)*l')*r'):=by grind
    _=r1*(l2*r'):=by rw[<- el]
  have q2:0<r1*l':=M6 hr1 pl';have bm:Bits 4300 (l2*r'):=bl2.mul br';have bs0:Bits 4300 (l1*r'):=bl1.mul br';have bs1:Bits 4300 (r1*l'):=br1.mul bl';dsimp only
  generalize l2*r'=m at *
  generalize l1*r'=s0 at *
  generalize r1*l'=s1 at *
  have sb:∀{l:List Int},AllB 1000 l->l.length<=12->AllB 60000 (bj m s0 s1 l):=λ{l} h hl=>(vN bm bs0 bs1 h).mono (by omega)
  refine av ⟨M9 _,λp1 hp1=>?_⟩;have s1':=s0'.then_new (o:=.lst []) hp1;have h1:upd H0 p1 (.lst []) p1=some (.lst []):=ao;have f1:H p1=none:=s0'.free hp1;generalize upd H0 p1 (.lst [])=H1 at s1' h1 ⊢
  refine av ?_;have hl:(ns.map V.int).length=ns.length:=MZ _;refine⟨_,rfl,a,_,rfl,SqL.of (s1' _ _ hA),sH (K:=K) (a:=a) (xs:=ns.map V.int) (λi σ' H'=>∃(p:Addr) (z:Option V),σ'=[some (.ref a),some (.ref l),some (.ref r),some (.int m),some (.int s0),some (.int s1),some (.ref p),some (.int (m^i)),z]/\Same H H'/\H p=none/\H' p=some (.lst ((bj m s0 s1 (ns.drop (ns.length-i))).map V.int))) ⟨p1,none,by rw[NP];rfl,s1',f1,by rw[N4,List.drop_length];exact h1⟩ ?_ ?_ ?_⟩
  ·rintro i σ' H' _ ⟨p,z,rfl,sm,_⟩;exact SqL.of (sm _ _ hA)
  ·rintro i x σ' H2 hi hx ⟨p,z,rfl,s2,fp,e2'⟩;rw[hl]at hi hx;obtain⟨c,ec,rfl,hc,_⟩:=gN hx;have bc:=hbn c hc;have hd:=zr hi ec;have len:(ns.drop (ns.length-i)).length=i:=by rw[Og];omega
   have hbd:AllB 1000 (ns.drop (ns.length-i)):=λx hx=>hbn x (Pc hx)
   have aF:=sb hbd (by omega);have lF:(bj m s0 s1 (ns.drop (ns.length-i))).length=i:=by rw[iA,len]
   have bP:Bits 60000 (m^i):=(ia bm i).mono (by omega)
   have eF:fh (ad (bj m s0 s1 (ns.drop (ns.length-i))) [s0,s1]) (trim [c*m^i])=bj m s0 s1 (ns.drop (ns.length-(i+1))):=by
    have hT':Tr (bj m s0 s1 (ns.drop (ns.length-(i+1)))):=A7 q2 (by rw[hd];simp) (Bc hT (by omega));rw[hd]at hT' ⊢
    have hT2:Tr (mb (-s0) s1 (c*m^i) (bj m s0 s1 (ns.drop (ns.length-i)))):=by have:bj m s0 s1 (c::ns.drop (ns.length-i))=mb (-s0) s1 (c*m^(ns.drop (ns.length-i)).length) (bj m s0 s1 (ns.drop (ns.length-i))):=rfl;rw[this,len]at hT';exact hT'
    show _=mb (-s0) s1 (c*m^(ns.drop (ns.length-i)).length) (bj m s0 s1 (ns.drop (ns.length-i)));rw[len];by_cases hi0:i=0
    ·subst hi0;have e0:bj m s0 s1 (ns.drop (ns.length-0))=[]:=by rw[N4,List.drop_length];rfl
     rw[e0]at hT2 ⊢;refine mh (dM _) hT2 λk=>?_
     unfold fh;rw[fg,fS,aE,fg,Nv];show 0+_=_;rw[NF];rfl
    ·have hn':bj m s0 s1 (ns.drop (ns.length-i))≠[]:=λz=>by rw[z]at lF;exact hi0 lF.symm
     have:=Bz (a := -s0) (b:=s1) (c:=c*m^i) hn' hT2;rw[Int.neg_neg]at this;exact this
   show cD (fY _ (gP 6)) _ _ _ _
   have bs:AllB 4300 [s0,s1]:=λx hx=>by
    simp only[Nd,List.not_mem_nil,or_false]at hx;rcases hx with rfl |rfl
    ·exact bs0
    ·exact bs1
   generalize bj m s0 s1 (ns.drop (ns.length-i))=Fs at *
   refine av ⟨_,rfl,_,rfl,_,rfl,by show 2<=sizeLine;decide,λp3 hp3=>?_⟩;have s3:=s2.then_new (o:=.lst ([s0,s1].map V.int)) hp3;have e3:upd H2 p3 (.lst ([s0,s1].map V.int)) p=some (.lst (Fs.map V.int)):=(Same.upd_new hp3) _ _ e2';have h3:upd H2 p3 (.lst ([s0,s1].map V.int)) p3=some (.lst ([s0,s1].map V.int)):=ao;refine⟨p,p3,Fs,[s0,s1],rfl,e3,h3,by omega,by show 2<=1000000;decide,aF.mono,bs.mono,λp4 H4 s4 hp4 e4=>?_⟩;have t4:=s3.trans s4;refine⟨_,rfl,_,rfl,_,_,rfl,rfl,⟨bc.mono,bP.mono⟩,by show 1<=sizeLine;decide,λp5 hp5=>?_⟩;have s5:=t4.then_new (o:=.lst ([c*m^i].map V.int)) hp5;have e5:upd H4 p5 (.lst ([c*m^i].map V.int)) p4=some (.lst ((ad Fs [s0,s1]).map V.int)):=(Same.upd_new hp5) _ _ e4;have h5:upd H4 p5 (.lst ([c*m^i].map V.int)) p5=some (.lst ([c*m^i].map V.int)):=ao;refine⟨p5,[c*m^i],rfl,SqL.of h5,λp6 H6 s6 hp6 e6=>?_⟩;have t6:=s5.trans s6;refine⟨p4,p6,ad Fs [s0,s1],trim [c*m^i],rfl,SqL.of (s6 _ _ e5),SqL.of e6,?_,?_,λp7 H7 s7 hp7 e7=>?_⟩
   ·have:(ad Fs [s0,s1]).length<=1000:=by
     unfold ad;split
     ·exact M9 _
     ·rw[MZ,N2];show _+2-1<=_;omega
    omega
   ·have:=rV [c*m^i];have:(trim [c*m^i]).length<=1:=this;omega
   rw[eF]at e7;refine bX ⟨_,rfl,_,rfl,_,_,rfl,rfl,⟨bP.mono,bm.mono⟩,?_⟩;refine⟨p7,some (.int c),?_,t6.trans s7,t6.free hp7,e7⟩;rw[Nn];rfl
  ·rintro σ' H' ⟨p,z,rfl,sm,fp,e⟩;rw[hl,Ol,Os]at e;exact⟨_,rfl,k m s0 s1 pm q0 q1 q2 (sb hbn hln) p H' sm fp e⟩
def qd:Sp:=λvs H Q _=>∃(a:Addr) (ns:List Int),vs=[.ref a]/\H a=some (.lst (ns.map V.int))/\ns.length<=1000/\AllB 500000 ns/\mkL H Q (bV ns)
theorem Ee{f:Addr}{fd:FuncData}(F:Fun K "spread" "spread" iO f fd)(T:Txt K mg):FnOk P w K mg base CX0 1 f fd ["row"] qd:=by
 refine F.ok sc_spread (λvs H Q E h=>?_) (λcdv A outer s H vs Q E hr h=>?_)
 ·obtain⟨a,ns,rfl,_⟩:=h;rfl
 ·obtain⟨a,ns,rfl,hA,hn,hb,k⟩:=h;have big:=sizeLine_eq
  refine⟨_,(af (aj (i:=1) sc_spread.nd rfl (Or.inl rfl) (aT ac))
   (af (aj (i:=2) sc_spread.nd rfl (Or.inl rfl) ae)
   (af (ck PassesOwn.never rfl (rd rfl T.reversed_ (aa (pv 0) ac)) (aU (i:=3) sc_spread.nd rfl (Or.inl rfl))
     (af (eu (jW PySem.F.plainAttrs_list PySem.F.slot_list_append PySem.F.type_list_append j6 (pv 1) (aa (al aR (pv 2) (pv 3)) ac)))
       (ah (aj (i:=2) sc_spread.nd rfl (Or.inl rfl) (al aR ae (pv 2))))))
   (af (eu (DP PySem.F.plainAttrs_list PySem.F.slot_list_reverse PySem.F.type_list_reverse FC (pv 1)))
   (ah (aw (pv 1))))))),?_⟩
  refine av ⟨M9 _,λp1 hp1=>?_⟩;have s1':=Same.upd_new (o:=.lst []) hp1;have h1:upd H p1 (.lst []) p1=some (.lst []):=ao;generalize upd H p1 (.lst [])=H1 at s1' h1 ⊢
  refine av ?_;have hl:(ns.map V.int).length=ns.length:=MZ _;refine⟨_,rfl,a,_,rfl,SqL.of (s1' _ _ hA),sH (K:=K) (a:=a) (xs:=ns.map V.int) (λi σ' H'=>∃z:Option V,σ'=[some (.ref a),some (.ref p1),some (.int (2^i)),z]/\Same H H'/\H' p1=some (.lst ((bV (ns.drop (ns.length-i))).reverse.map V.int))) ⟨none,rfl,s1',by rw[N4,List.drop_length];exact h1⟩ ?_ ?_ ?_⟩
  ·rintro i σ' H' _ ⟨z,rfl,sm,_⟩;exact SqL.of (sm _ _ hA)
  ·rintro i x σ' H2 hi hx ⟨z,rfl,s2,h2⟩;rw[hl]at hi hx;obtain⟨c,ec,rfl,hc,_⟩:=gN hx;have hd:=zr hi ec;have len:(ns.drop (ns.length-i)).length=i:=by rw[Og];omega
   show cD (m6 _) _ _ _ _;refine kX ⟨_,rfl,.inl ⟨rfl,_,SqL.of h2⟩,_,rfl,_,rfl,_,_,rfl,rfl,⟨(ll (n:=i) (k:=1001) (by omega)).mono,(hb c hc).mono⟩,p1,_,_,rfl,rfl,h2,by rw[MZ,List.length_reverse,m9,len];omega,?_⟩;refine bX ⟨_,rfl,_,_,rfl,rfl,⟨mV,(ll (n:=i) (k:=1001) (by omega)).mono⟩,?_⟩;refine⟨some (.int c),?_,fJ s2 hp1,?_⟩
   ·show[some (V.ref a),some (V.ref p1),some (V.int (2*2^i)),some (V.int c)]=_;rw[Nn,Nm]
   ·rw[ao,hd,FR];show some (HO.lst (((bV (ns.drop (ns.length-i))).reverse++[2^i*c]).map V.int))=some (HO.lst ((2^(ns.drop (ns.length-i)).length*c::bV (ns.drop (ns.length-i))).reverse.map V.int));rw[List.reverse_cons,len]
  ·rintro σ' H2 ⟨z,rfl,s2,h2⟩;rw[hl,Ol,Os]at h2;dsimp only
   refine kX ⟨_,rfl,.inl ⟨rfl,_,SqL.of h2⟩,p1,_,rfl,rfl,h2,?_⟩;refine⟨_,rfl,k p1 _ (fJ s2 hp1) hp1 ?_⟩;rw[ao,<- List.map_reverse,List.reverse_reverse]
noncomputable def cO(m:List Int)(j:Nat):List Int:=m.take (m.length-1-j)++suf (m.drop (m.length-1-j))
theorem rj:∀(i:Nat) (m:List Int),cR i m=m.take i++suf (m.drop i)
 |0,m=>by rw[List.take_zero,Os];rfl
 |i+1,[]=>rfl
 |i+1,c::m=>by show c::cR i m=c::(m.take i++suf (m.drop i));rw[rj i m]
theorem HL(m:List Int)(j:Nat):(cO m j).length=m.length:=by unfold cO;rw[Nh,iz,<- Nh,List.take_append_drop]
theorem HJ(m:List Int):cO m 0=m:=by
 unfold cO;rw[N4];cases hd:m.drop (m.length-1)with
 |nil =>have:m.length-1=m.length\/True:=.inr trivial;have h1:m.length<=m.length-1:=List.drop_eq_nil_iff.mp hd;have:m=[]:=On (by omega);subst this;rfl
 |cons c r =>have hl:=congrArg List.length hd;rw[Og,Nq]at hl;have:r=[]:=On (by omega);subst this;show _++[c+0]=_;rw[ND,<- hd,List.take_append_drop]
theorem HM(m:List Int){i:Nat}(h:i+1<=m.length):cO m (m.length-1-i)=cR i m:=by
 unfold cO;rw[rj];have:m.length-1-(m.length-1-i)=i:=by omega
 rw[this]
theorem HK(m:List Int){j:Nat}(h:j+2<=m.length):(cO m j).set (m.length-2-j) (cf (cO m j) (m.length-2-j)+cf (cO m j) (m.length-1-j))=cO m (j+1):=by
 have e1:m.length-1-(j+1)=m.length-2-j:=by omega
 have e2:m.length-1-j=m.length-2-j+1:=by omega
 have hk:m.length-2-j<m.length:=by omega
 unfold cO;rw[e1,e2];generalize m.length-2-j=k at hk e2
 have hd:m.drop k=m[k]::m.drop (k+1):=O6 hk;have ht:m.take (k+1)=m.take k++[m[k]]:=by rw[NO,List.getElem?_eq_getElem hk];rfl
 rw[hd,ht];have lt:(m.take k).length=k:=by rw[NW];omega
 have c1:cf (m.take k++[m[k]]++suf (m.drop (k+1))) k=m[k]:=by rw[List.append_assoc,mr (by omega),lt,Ol];rfl
 have c2:cf (m.take k++[m[k]]++suf (m.drop (k+1))) (k+1)=(suf (m.drop (k+1))).headD 0:=by
  rw[mr (by rw[Nh,lt];exact M0 _),Nh,lt];show cf _ (k+1-(k+1))=_;rw[Ol];cases suf (m.drop (k+1))with
  |nil=>rfl
  |cons _ _=>rfl
 rw[c1,c2];show _=m.take k++((m[k]+(suf (m.drop (k+1))).headD 0)::suf (m.drop (k+1)));rw[List.append_assoc,List.set_append_right _ _ (by omega),lt,Ol];rfl
theorem vK{M:Nat}:∀{l:List Int},(∀x∈l,x.natAbs<=M)->∀x∈suf l,x.natAbs<=l.length*M
 | [],_,x,hx=>nomatch hx
 |v::l,h,x,hx=>by
  have ih:=vK (l:=l) λx hx=>h x (M8 _ hx)
  have hv:=h v (Na ..)
  have hh:((suf l).headD 0).natAbs<=l.length*M:=by
   cases hs:suf l with
   |nil=>show(0:Int).natAbs<=_;exact M9 _
   |cons g r=>exact ih g (by rw[hs];exact Na ..)
  rw[Nq,Nat.add_mul,Nat.one_mul];rcases Nd.mp hx with e |e
  ·subst e;exact Nb (Int.natAbs_add_le _ _) (Nb (OX hv hh) (Of (Nat.add_comm _ _)))
  ·exact Nb (ih x e) (Nat.le_add_right _ _)
theorem DQ{i k:Nat}{m:List Int}(h:AllB i m)(hl:m.length<=16):AllB (i+4) (cR k m):=by
 rw[rj];refine AllB.app (λx hx=>(h x (OZ hx)).mono (by omega)) λx hx=>?_
 have h1:=vK (M:=2^i-1) (l:=m.drop k) (λy hy=>by have:y.natAbs<2^i:=h y (Pc hy);omega) x hx;have h2:(m.drop k).length*(2^i-1)<=16*(2^i-1):=NK _ (by rw[Og];omega);have h3:0<2^i:=Oj (by decide);show x.natAbs<2^(i+4);have h4:2^(i+4)=2^i*16:=by rw[Nat.pow_add]
 omega
theorem xM{i:Nat}{m:List Int}(h:AllB i m)(hl:m.length<=16):∀n,AllB (i+4*n) (dE n m)
 |0=>h
 |n+1=>by have:=DQ (k:=n) (xM h hl n) (by rw[oA];exact hl);exact this.mono (by omega)
theorem FF{i:Nat}{m:List Int}(h:AllB i m)(hl:m.length<=12):AllB (i+44) (lC m):=(xM h (by omega) _).mono (by omega)
theorem vQ{i:Nat}:∀{m:List Int},AllB i m->m.length<=12->AllB (i+13) (bV m)
 | [],_,_=>AllB.nil
 |v::m,h,hl=>by
  have ih:=vQ (m:=m) (λx hx=>h x (M8 _ hx)) (by rw[Nq]at hl;omega);intro x hx;rcases Nd.mp hx with e |e
  ·subst e;have:=(ll (n:=m.length) (k:=13) (by rw[Nq]at hl;omega)).mul (h v (Na ..));exact this.mono (by omega)
  ·exact ih x e
def qt:Sp:=λvs H Q _=>∃(a:Addr) (ns:List Int),vs=[.ref a]/\H a=some (.lst (ns.map V.int))/\1<=ns.length/\ns.length<=1000/\mkL H Q (lC ns)
theorem qM(l:List Int)(k:Nat)(v:Int):(l.map V.int).set k (.int v)=(l.set k v).map V.int:=by rw[List.map_set]
theorem Ak{l:List Int}{k:Nat}{j:Int}(e:j=(k:Int))(h:k<l.length):atI (l.map V.int) j=some (.int (cf l k)):=by subst e;refine kq ?_;rw[List.getElem?_map,List.getElem?_eq_getElem h];show some (V.int l[k])=_;rw[zQ (List.getElem?_eq_getElem h)]
theorem Ex{f:Addr}{fd:FuncData}(F:Fun K "moved" "moved" jb f fd)(T:Txt K mg){g7:Addr}{gU:FuncData}(iu:Cal P w K mg base 1 "degree" ["row"] iE g7 gU):FnOk P w K mg base CX0 2 f fd ["row"] qt:=by
 obtain⟨dJ,dG,dH,dI⟩:=iu;refine F.ok sc_moved (λvs H Q E h=>?_) (λcdv A outer s H vs Q E hr h=>?_)
 ·obtain⟨a,ns,rfl,_⟩:=h;rfl
 ·obtain⟨a,ns,rfl,hA,hn1,hn,k⟩:=h;have big:=sizeLine_eq
  refine⟨_,(af (aj (i:=1) sc_moved.nd rfl (Or.inl rfl) (rg (uh (K:=K) rfl) (by rfl) T.list_ PyProof.Rows.boot_list (aa (pv 0) ac)))
   (af (ck PassesOwn.never rfl (fC rfl T.range_ (aa (am dJ (hr.mono) rfl dG dH dI .nil ai (aa (pv 0) ac)) ac)) (aU (i:=2) sc_moved.nd rfl (Or.inl rfl))
     (ah (ck PassesOwn.never rfl (xh rfl T.range_ (aa (al cs (am dJ (hr.mono) rfl dG dH dI .nil ai (aa (pv 0) ac)) ae) (aa (al cs (pv 2) ae) (aa (bY bT ae) ac)))) (aU (i:=3) sc_moved.nd rfl (Or.inl rfl))
       (ah (jT (al bR (aG (bK (K:=K) rfl) (pv 1) (pv 3) (λ_ _=>rfl)) (aG (bK (K:=K) rfl) (pv 1) (al bR (pv 3) ae) (λ_ _=>rfl))) (lu (pv 1) (pv 3) kS))))))
   (ah (aw (pv 1))))),?_⟩
  refine av ⟨_,rfl,a,_,rfl,.inl (SqL.of hA),λp hp=>?_⟩;have s1':=Same.upd_new (o:=.lst (ns.map V.int)) hp;have h1:upd H p (.lst (ns.map V.int)) p=some (.lst (ns.map V.int)):=ao;generalize upd H p (.lst (ns.map V.int))=H1 at s1' h1 ⊢
  have hl:(ns.map V.int).length=ns.length:=MZ _;have ed:((ns.map V.int).length:Int)-1=((ns.length-1:Nat):Int):=by rw[hl];omega
  refine⟨_,rfl,a,_,rfl,s1' _ _ hA,_,rfl,(by rw[ed];omega),(by rw[ed];omega),?_⟩;rw[ed];refine kf (lo:=0) (n:=ns.length-1) (λi σ' H'=>∃z2 z3:Option V,σ'=[some (.ref a),some (.ref p),z2,z3]/\Same H H'/\H' p=some (.lst ((dE i ns).map V.int))) ⟨none,none,rfl,s1',h1⟩ ?_ ?_
  ·rintro i σ' H2 hi ⟨z2,z3,rfl,s2,h2⟩;have lm:(dE i ns).length=ns.length:=oA _ _;generalize hM:dE i ns=M at h2 lm
   obtain⟨r,er⟩:∃r,ns.length=r+2:=⟨ns.length-2,by omega⟩;have er1:ns.length-1=r+1:=by rw[er];rfl
   have er2:ns.length-2=r:=by rw[er];rfl
   have hr':r+2<=100000:=by rw[<- er];omega
   rw[er1]at hi;refine⟨_,rfl,a,_,rfl,s2 _ _ hA,_,_,rfl,rfl,_,rfl,_,_,rfl,rfl,_,rfl,(r:Int),(i:Int)-1,?_,⟨by omega,by omega,by omega,by omega⟩,?_⟩
   ·rw[ed,er1];have e1:((r+1:Nat):Int)-1=(r:Int):=by omega
    have e2:(0:Int)+(i:Int)-1=(i:Int)-1:=by omega
    dsimp only
    rw[e1,e2]
   have en:((r:Int)-((i:Int)-1)).toNat=r+1-i:=by omega
   rw[en];refine yZ (λj σ' H'=>∃z3:Option V,σ'=[some (.ref a),some (.ref p),some (.int (0+(i:Int))),z3]/\Same H H'/\H' p=some (.lst ((cO M j).map V.int))) ⟨z3,rfl,s2,by rw[HJ];exact h2⟩ ?_ ?_
   ·rintro j σ' H3 hj ⟨z3,rfl,s3,h3⟩;have hj':j<=r:=by omega
    have lh:(cO M j).length=r+2:=by rw[HL,lm,er]
    have hs:=HK M (j:=j) (by rw[lm,er];omega);rw[lm,er1,er2]at hs;have k1:(r:Int)+(j:Int) * -1=((r-j:Nat):Int):=by omega
    have k2:(r:Int)+(j:Int) * -1+1=((r+1-j:Nat):Int):=by omega
    refine⟨_,rfl,_,rfl,p,_,_,_,rfl,rfl,SqL.of h3,Ak k1 (by omega),_,rfl,_,rfl,_,_,rfl,rfl,p,_,_,_,rfl,rfl,SqL.of h3,Ak k2 (by omega),_,_,rfl,rfl,_,rfl,_,rfl,p,_,_,r-j,rfl,rfl,h3,?_,?_⟩
    ·exact lQ k1 (by rw[MZ];omega)
    refine⟨_,rfl,fJ s3 hp,?_⟩;rw[ao,qM,hs]
   ·rintro σ' H3 ⟨z3,rfl,s3,h3⟩;refine⟨_,_,rfl,s3,?_⟩
    have:cO M (r+1-i)=dE (i+1) ns:=by rw[<- er1,<- lm,HM M (by rw[lm,er];omega),<- hM];rfl
    rw[<- this];exact h3
  ·rintro σ' H2 ⟨z2,z3,rfl,s2,h2⟩;exact⟨_,rfl,k p H2 s2 hp h2⟩
structure RootB(ns:List Int)(ε:Int)(up:Int->Int->Prop):Prop where
 e1:ε=1\/ε = -1
 r1:∀p c,0<p->p<=c->up p c->sg (hv p c ns) = -ε
 r2:∀p c,0<p->p<=c->¬up p c->sg (hv p c ns)=ε\/sg (hv p c ns)=0
 r3:∀p c p' c',0<p->p<=c->0<p'->p'<=c'->¬up p c->p*c'<p'*c->sg (hv p' c' ns)=ε
 sc:∀p c,0<c->(up (2*p) (2*c)↔up p c)
 top:¬up 1 1
theorem HF(p c:Int)(l:List Int):sg (hv (2*p) (2*c) l)=sg (hv p c l):=by rw[oW];exact da (Od (by decide))
def qy:Sp:=λvs H Q _=>∃(a:Addr) (ns:List Int) (e:Int) (n:Nat) (ε:Int) (up:Int->Int->Prop),vs=[.ref a,.int e,.int n]/\H a=some (.lst (ns.map V.int))/\1<=ns.length/\ns.length<=12/\AllB 60000 ns/\n<=4000/\RootB ns ε up/\e=sg (hv 1 1 ns) /\
 ∀(p:Addr) (H':Hp) (pl:Nat),Same H H'->H p=none->H' p=some (.tup [.int pl,.int (2^n)])->pl<2^n->(pl=0\/up pl (2^n))->¬up ((pl:Int)+1) (2^n)->Q (.ref p) H'
theorem EE{f:Addr}{fd:FuncData}(F:Fun K "halved" "halved" jh f fd)(T:Txt K mg){Jj:Addr}{Iu:FuncData}(Mj:Cal P w K mg base 1 "spread" ["row"] qd Jj Iu){gX:Addr}{gR:FuncData}(ip:Cal P w K mg base 1 "whole_sign" ["value"] iC gX gR){Js:Addr}{ID:FuncData}(Mt:Cal P w K mg base 2 "moved" ["row"] qt Js ID):FnOk P w K mg base CX0 3 f fd ["row","end","steps"] qy:=by
 obtain⟨LD,Ge,G2,KA⟩:=Mj;obtain⟨ii,gC,gI,ib⟩:=ip;obtain⟨LM,Gm,G9,KL⟩:=Mt;refine F.ok sc_halved (λvs H Q E h=>?_) (λcdv A outer s H vs Q E hr h=>?_)
 ·obtain⟨a,ns,e,n,ε,up,rfl,_⟩:=h;rfl
 ·obtain⟨a,ns,e,n,ε,up,rfl,hA,h1n,hln,hbn,hn,hB,he,k⟩:=h
  refine⟨_,(af (aj (i:=3) sc_halved.nd rfl (Or.inl rfl) ae)
   (af (aj (i:=4) sc_halved.nd rfl (Or.inl rfl) ae)
   (af (aj (i:=5) sc_halved.nd rfl (Or.inl rfl) (pv 1))
   (af (aj (i:=6) sc_halved.nd rfl (Or.inl rfl) (pv 0))
   (af (ck PassesOwn.never rfl (fC rfl T.range_ (aa (pv 2) ac)) (aU (i:=7) sc_halved.nd rfl (Or.inl rfl))
     (af (aj (i:=3) sc_halved.nd rfl (Or.inl rfl) (al aR ae (pv 3)))
       (af (aj (i:=4) sc_halved.nd rfl (Or.inl rfl) (al aR ae (pv 4)))
       (af (aj (i:=6) sc_halved.nd rfl (Or.inl rfl) (am LD (hr.mono) rfl Ge G2 KA .nil ai (aa (pv 6) ac)))
       (af (aj (i:=8) sc_halved.nd rfl (Or.inl rfl) (am ii (hr.mono) rfl gC gI ib .nil ai (aa (aQ (Km (K:=K) rfl rfl) (by rfl) T.sum_ PyProof.Rows.boot_sum (aa (pv 6) ac)) ac)))
       (ah (aO (PW.pt (fA (aH fH (pv 8) ae (aC _)) (fz (aH fH (pv 8) (pv 5) (aC _)))))
         (af (aj (i:=3) sc_halved.nd rfl (Or.inl rfl) (al bR (pv 3) ae))
           (ah (aj (i:=6) sc_halved.nd rfl (Or.inl rfl) (am LM (hr.mono) rfl Gm G9 KL .nil ai (aa (pv 6) ac)))))
         (ah (aj (i:=5) sc_halved.nd rfl (Or.inl rfl) (pv 8))))))))))
   (ah (aw (cQ (aa (pv 3) (aa (pv 4) ac)))))))))),?_⟩
  refine av ?_;refine av ?_;refine av ⟨_,rfl,?_⟩;refine av ⟨_,rfl,?_⟩;refine⟨_,rfl,n,rfl,by omega,by omega,kf (lo:=0) (n:=n) (λi σ' H'=>∃(p:Addr) (pl:Nat) (L:List Int) (z7 z8:Option V),σ'=[some (.ref a),some (.int e),some (.int n),some (.int pl),some (.int (2^i)),some (.int (sg (hv ((pl:Int)+1) (2^i) ns))),some (.ref p),z7,z8]/\Same H H'/\H' p=some (.lst (L.map V.int))/\L.length=ns.length/\AllB (60000+60*i) L/\(∀p q:Int,2^i*hv p q L=hv (pl*q+p) (2^i*q) ns)/\pl<2^i/\(pl=0\/up pl (2^i))/\¬up ((pl:Int)+1) (2^i)) ⟨a,0,ns,none,none,by rw[he];rfl,Same.refl _,hA,rfl,hbn,λp q=>by rw[NP,Nv,Nv];show _=hv (0*q+p) q ns;rw[Nz,NF],by decide,.inl rfl,by rw[NP];exact hB.top⟩ ?_ ?_⟩
  ·rintro i σ' H1 hi ⟨p,pl,L,z7,z8,rfl,s1,h1,lL,bL,hval,hpl,hup,hnup⟩;show cD (fY _ (gP 3)) _ _ _ _;have b2i:Bits 4002 ((2:Int)^i):=ll (by omega);have p2i:=jU i;have cpl:(pl:Int)<2^i:=by rw[gw];exact OB.mpr hpl
   have bpl:Bits 4002 (pl:Int):=b2i.of_le (by rw[gw];omega);refine av ⟨_,rfl,_,_,rfl,rfl,⟨mV,bpl.mono⟩,?_⟩;refine av ⟨_,rfl,_,_,rfl,rfl,⟨mV,b2i.mono⟩,?_⟩;refine av ⟨_,rfl,p,L,rfl,h1,by omega,bL.mono (by omega),λp2 H2 s2 hp2 e2=>?_⟩;have t2:=s1.trans s2;have lS:(bV L).length=ns.length:=by rw[m9,lL]
   have bS:AllB (60000+60*i+13) (bV L):=vQ bL (by omega);have e2i:(2:Int)*2^i=2^(i+1):=by rw[Nn,Nm]
   have vS:∀p q:Int,2^(i+1)*hv p q (bV L)=hv (((2*pl:Nat):Int)*q+p) (2^(i+1)*q) ns:=λp q=>by
    have h3:=hval p (2*q);rw[<- yI]at h3;have h4:(2:Int)^(i+1)*hv p q (bV L)=2^i*(2*hv p q (bV L)):=by rw[Nn];grind
    rw[h4,h3]
    have h5:(pl:Int)*(2*q)+p=((2*pl:Nat):Int)*q+p:=by
     have:((2*pl:Nat):Int)=2*(pl:Int):=by omega
     rw[this];grind
    have h6:(2:Int)^i*(2*q)=2^(i+1)*q:=by rw[Nn];grind
    rw[h5,h6]
   refine av ⟨_,rfl,p2,bV L,rfl,SqL.of e2,_,rfl,?_⟩;have p2i1:=jU (i+1)
   have ethere:sg (bV L).sum=sg (hv (((2*pl:Nat):Int)+1) (2^(i+1)) ns):=by have h3:=vS 1 1;rw[NJ,NJ]at h3;rw[<- yG,<- h3,da p2i1]
   have c2pl:(((2*pl:Nat):Int)+1)<=2^(i+1):=by rw[<- e2i];omega
   have hold:sg (hv ((pl:Int)+1) (2^i) ns)=sg (hv (2*((pl:Int)+1)) (2^(i+1)) ns):=by rw[<- e2i,HF]
   have plc:(pl:Int)+1<=2^i:=by omega
   generalize hth:sg (bV L).sum=th at ethere
   show dY _ _ _ _ _ _;have epl:(2:Int)*(pl:Int)=((2*pl:Nat):Int):=by omega
   have n2i:2^(i+1)=2*2^i:=by rw[OF,Ov]
   refine dz (λσ' H'=>σ'=[some (.ref a),some (.int e),some (.int n),some (.int (2*(pl:Int))),some (.int (2*2^i)),some (.int (sg (hv ((pl:Int)+1) (2^i) ns))),some (.ref p2),some (.int (0+(i:Int))),some (.int th)]/\H2=H') ⟨by rw[<- hth];rfl,rfl⟩ ?_;rintro σ' H' ⟨rfl,rfl⟩;by_cases hu:up (((2*pl:Nat):Int)+1) (2^(i+1))
   ·
    have r1:=hB.r1 _ _ (by omega) c2pl hu;rw[<- ethere]at r1;have r2:=hB.r2 _ _ (by omega) plc hnup;have n0:th≠0:=by rcases hB.e1 with z |z<;>omega
    have n1:th≠sg (hv ((pl:Int)+1) (2^i) ns):=by rcases hB.e1 with z |z<;>rcases r2 with y |y<;>omega
    refine fx (gm ⟨_,rfl,_,_,rfl,rfl,_,rfl,cG (λ_=>?_) (λh0=>absurd h0 n0)⟩);refine⟨_,rfl,_,rfl,_,_,rfl,rfl,_,rfl,cG (λ_=>?_) (λh0=>absurd h0 n1)⟩;refine av ⟨_,rfl,_,_,rfl,rfl,?_⟩;refine bX ⟨_,rfl,p2,bV L,rfl,e2,by omega,by omega,λp3 H3 s3 hp3 e3=>?_⟩;refine⟨p3,2*pl+1,lC (bV L),some (.int (0+(i:Int))),some (.int th),?_,t2.trans s3,e3,by rw[xN,lS],(FF bS (by omega)).mono (by omega),λp q=>?_,by omega,.inr ?_,?_⟩
    ·have q1:(2:Int)*(pl:Int)+1=((2*pl+1:Nat):Int):=by omega
     have q2:((2*pl+1:Nat):Int)+1=2*((pl:Int)+1):=by omega
     rw[q2,<- hold,<- q1,<- e2i];rfl
    ·rw[HG,vS]
     have:((2*pl:Nat):Int)*q+(p+q)=((2*pl+1:Nat):Int)*q+p:=by
      have:((2*pl+1:Nat):Int)=((2*pl:Nat):Int)+1:=by omega
      rw[this];grind
     rw[this]
    ·exact hu
    ·have q2:((2*pl+1:Nat):Int)+1=2*((pl:Int)+1):=by omega
     rw[q2,<- e2i,hB.sc _ _ p2i];exact hnup
   ·
    have r2:=hB.r2 _ _ (by omega) c2pl hu;rw[<- ethere]at r2
    have r3:=hB.r3 _ _ ((pl:Int)+1) (2^i) (by omega) c2pl (by omega) plc hu (by
     have h7:(((2*pl:Nat):Int)+1)*2^i<(2*(pl:Int)+2)*2^i:=NM (by omega) p2i;have h8:((pl:Int)+1)*2^(i+1)=(2*(pl:Int)+2)*2^i:=by rw[Nn];grind
     omega)
    have low:∃(p:Addr) (q:Nat) (L':List Int) (z7 z8:Option V),[some (V.ref a),some (V.int e),some (V.int n),some (V.int (2*(pl:Int))),some (V.int (2*2^i)),some (V.int th),some (V.ref p2),some (V.int (0+(i:Int))),some (V.int th)]=[some (.ref a),some (.int e),some (.int n),some (.int q),some (.int (2^(i+1))),some (.int (sg (hv ((q:Int)+1) (2^(i+1)) ns))),some (.ref p),z7,z8]/\Same H H2/\H2 p=some (.lst (L'.map V.int))/\L'.length=ns.length/\AllB (60000+60*(i+1)) L'/\(∀p q':Int,2^(i+1)*hv p q' L'=hv (q*q'+p) (2^(i+1)*q') ns)/\q<2^(i+1)/\(q=0\/up q (2^(i+1)))/\¬up ((q:Int)+1) (2^(i+1)):=by
     refine⟨p2,2*pl,bV L,some (.int (0+(i:Int))),some (.int th),by rw[e2i,epl,ethere],t2,e2,lS,bS.mono (by omega),vS,by omega,?_,hu⟩;rcases hup with z |z
     ·exact .inl (by omega)
     ·refine .inr ?_;rw[<- epl,<- e2i,hB.sc _ _ p2i];exact z
    by_cases n0:th=0
    ·refine fx (gm ⟨_,rfl,_,_,rfl,rfl,_,rfl,cG (λh0=>absurd n0 h0) (λ_=>?_)⟩);exact bQ (bX ⟨_,rfl,low⟩)
    ·have n1:th=sg (hv ((pl:Int)+1) (2^i) ns):=by
      rcases r2 with z |z
      ·rw[z,r3]
      ·exact absurd z n0
     refine fx (gm ⟨_,rfl,_,_,rfl,rfl,_,rfl,cG (λ_=>?_) (λh0=>absurd h0 n0)⟩);refine⟨_,rfl,_,rfl,_,_,rfl,rfl,_,rfl,cG (λh0=>absurd n1 h0) (λ_=>?_)⟩;exact bX ⟨_,rfl,low⟩
  ·rintro σ' H1 ⟨p,pl,L,z7,z8,rfl,s1,h1,lL,bL,hval,hpl,hup,hnup⟩;dsimp only
   refine aZ ⟨_,rfl,_,rfl,by show 2<=sizeLine;decide,λp' hp'=>?_⟩;exact k p' _ pl (s1.then_new hp') (s1.free hp') ao hpl hup hnup
structure RootU(ns:List Int)(l1 l2 h1 h2 ε:Int)(Up:Int->Int->Prop):Prop where
 e1:ε=1\/ε = -1
 r1:∀x1 x2,0<x2->l1*x2<x1*l2->x1*h2<=h1*x2->Up x1 x2->sg (hv x1 x2 ns) = -ε
 r2:∀x1 x2,0<x2->l1*x2<x1*l2->x1*h2<=h1*x2->¬Up x1 x2->sg (hv x1 x2 ns)=ε\/sg (hv x1 x2 ns)=0
 r3:∀x1 x2 y1 y2,0<x2->0<y2->l1*x2<x1*l2->y1*h2<=h1*y2->¬Up x1 x2->x1*y2<y1*x2->sg (hv y1 y2 ns)=ε
 sc:∀x1 x2 y1 y2,0<x2->0<y2->x1*y2=y1*x2->Up x1 x2->Up y1 y2
 low:Up l1 l2
 top:¬Up h1 h2
structure EndsG(k:Nat)(l1 l2 h1 h2:Int):Prop where
 l2p:0<l2
 h2p:0<h2
 bl1:Bits k l1
 bl2:Bits k l2
 bh1:Bits k h1
 bh2:Bits k h2
 lt:l1*h2<h1*l2
 gl:Nat.gcd l1.natAbs l2.natAbs=1
 gh:Nat.gcd h1.natAbs h2.natAbs=1
theorem EndsG.mono{j k:Nat}{l1 l2 h1 h2:Int}(e:EndsG j l1 l2 h1 h2)(h:j<=k:=by decide):EndsG k l1 l2 h1 h2:=⟨e.l2p,e.h2p,e.bl1.mono h,e.bl2.mono h,e.bh1.mono h,e.bh2.mono h,e.lt,e.gl,e.gh⟩
structure NarP(l1 l2 h1 h2 w1 w2:Int)(Up:Int->Int->Prop)(kb:Nat)(n pl:Nat)(x1 x2 y1 y2:Int):Prop where
 ends:EndsG kb x1 x2 y1 y2
 ux:Up x1 x2
 uy:¬Up y1 y2
 lo:l1*x2<=x1*l2
 hi:y1*h2<=h1*y2
 wide:(y1*x2-x1*y2)*w2<=w1*(x2*y2)
 pls:pl<2^n
 ex:x1*(l2*h2*2^n)=(l1*h2*2^n+(h1*l2-l1*h2)*pl)*x2
 ey:y1*(l2*h2*2^n)=(l1*h2*2^n+(h1*l2-l1*h2)*(pl+1))*y2
 big:∀j:Nat,j<n->w1*(h2*l2)*2^j<(h1*l2-l1*h2)*w2
 fit:(h1*l2-l1*h2)*w2<=w1*(h2*l2)*2^n
theorem B4{x1 x2 y1 y2:Int}(hx:0<x2)(hy:0<y2)(e:x1*y2=y1*x2)(l:List Int):sg (hv x1 x2 l)=sg (hv y1 y2 l):=by
 have h1:=oW y2 x1 x2 l;have h2:=oW x2 y1 y2 l;have e1:y2*x1=x2*y1:=by rw[Nm y2,e,Nm]
 rw[e1,Nm y2 x2]at h1;rw[h1]at h2;have h3:=congrArg sg h2;rw[da (Od hy),da (Od hx)]at h3;exact h3
theorem cancel{a b c:Int}(hc:0<c)(h:a*c=b*c):a=b:=OU (Ny hc) h
theorem kj{a b c:Int}(hc:0<c)(h:a*c<=b*c):a<=b:=Int.le_of_mul_le_mul_right h hc
theorem mv{a b c:Int}(hc:0<c)(h:a*c<b*c):a<b:=NT h (M7 hc)
theorem An{l1 l2 h1 h2 r1 r2 x1 x2 pc pl:Int}(hr:0<r2)(er:r1*(h2*l2)=(h1*l2-l1*h2)*r2)(e:x1*(l2*r2*pc)=(l1*r2*pc+r1*l2*pl)*x2):x1*(l2*h2*pc)=(l1*h2*pc+(h1*l2-l1*h2)*pl)*x2:=by
 refine cancel hr ?_
 calc x1*(l2*h2*pc)*r2=(x1*(l2*r2*pc))*h2:=by grind
  _=(l1*r2*pc+r1*l2*pl)*x2*h2:=by rw[e]
  _=(l1*h2*pc*r2+(r1*(h2*l2))*pl)*x2:=by grind
  _=(l1*h2*pc*r2+((h1*l2-l1*h2)*r2)*pl)*x2:=by rw[er]
  _=(l1*h2*pc+(h1*l2-l1*h2)*pl)*x2*r2:=by grind
theorem xD{l1 l2 h1 h2 w1 w2 x1 x2 y1 y2 pc pl:Int}(hl:0<l2)(hh:0<h2)(hx:0<x2)(hy:0<y2)(hpc:0<pc)(hp0:0<=pl)(hp1:pl+1<=pc)(hD:0<h1*l2-l1*h2)(ex:x1*(l2*h2*pc)=(l1*h2*pc+(h1*l2-l1*h2)*pl)*x2)(ey:y1*(l2*h2*pc)=(l1*h2*pc+(h1*l2-l1*h2)*(pl+1))*y2)(fit:(h1*l2-l1*h2)*w2<=w1*(h2*l2)*pc):x1*y2<y1*x2/\l1*x2<=x1*l2/\y1*h2<=h1*y2/\(y1*x2-x1*y2)*w2<=w1*(x2*y2):=by
 have hlh:0<l2*h2:=M6 hl hh;have hM:0<l2*h2*pc:=M6 hlh hpc;have hxy:0<x2*y2:=M6 hx hy
 have hd:(y1*x2-x1*y2)*(l2*h2*pc)=(h1*l2-l1*h2)*(x2*y2):=by
  calc (y1*x2-x1*y2)*(l2*h2*pc)=(y1*(l2*h2*pc))*x2-(x1*(l2*h2*pc))*y2:=by grind
   _=((l1*h2*pc+(h1*l2-l1*h2)*(pl+1))*y2)*x2-((l1*h2*pc+(h1*l2-l1*h2)*pl)*x2)*y2:=by rw[ex,ey]
   _=(h1*l2-l1*h2)*(x2*y2):=by grind
 have hi:y1*h2<=h1*y2:=by
  refine kj (c:=l2*pc) (M6 hl hpc) ?_;have e1:y1*h2*(l2*pc)=y1*(l2*h2*pc):=by grind
  have e2:h1*y2*(l2*pc)=(l1*h2*pc+(h1*l2-l1*h2)*pc)*y2:=by grind
  rw[e1,ey,e2];refine Nw ?_ (M7 hy);have:=OW hp1 (M7 hD);omega
 generalize h1*l2-l1*h2=D at *
 refine⟨?_,?_,hi,?_⟩
 ·have h3:0<(y1*x2-x1*y2)*(l2*h2*pc):=by rw[hd];exact M6 hD hxy
  have h4:0<y1*x2-x1*y2:=mv hM (by rw[Nz];exact h3);omega
 ·refine kj (c:=h2*pc) (M6 hh hpc) ?_;have e1:x1*l2*(h2*pc)=x1*(l2*h2*pc):=by grind
  have e2:l1*x2*(h2*pc)=l1*h2*pc*x2:=by grind
  rw[e1,ex,e2,Int.add_mul];have:0<=D*pl*x2:=NE (NE (M7 hD) hp0) (M7 hx);omega
 ·refine kj hM ?_;have e1:(y1*x2-x1*y2)*w2*(l2*h2*pc)=((y1*x2-x1*y2)*(l2*h2*pc))*w2:=by grind
  have e2:w1*(x2*y2)*(l2*h2*pc)=w1*(h2*l2)*pc*(x2*y2):=by grind
  have e3:D*(x2*y2)*w2=D*w2*(x2*y2):=by grind
  rw[e1,hd,e2,e3];exact Nw fit (M7 hxy)
def nu(C:Addr):Sp:=λvs H Q _=>∃(a l h wd:Addr) (ns:List Int) (l1 l2 h1 h2 w1 w2:Int) (k kw:Nat) (ε:Int) (Up:Int->Int->Prop),vs=[.ref a,.ref l,.ref h,.ref wd]/\H a=some (.lst (ns.map V.int))/\Tr ns/\ns≠[]/\ns.length<=12/\AllB 1000 ns/\RA C H l l1 l2/\RA C H h h1 h2/\RA C H wd w1 w2/\EndsG k l1 l2 h1 h2/\0<w1/\0<w2/\Bits kw w1/\Bits kw w2/\k<=1400/\2*k+kw<=3900/\5*k+kw<=8900/\RootU ns l1 l2 h1 h2 ε Up /\
 ∀(p x y:Addr) (H':Hp) (n pl:Nat) (x1 x2 y1 y2:Int),Same H H'->H p=none->H' p=some (.tup [.ref x,.ref y])->RA C H' x x1 x2->RA C H' y y1 y2->NarP l1 l2 h1 h2 w1 w2 Up (5*k+kw+4) n pl x1 x2 y1 y2->Q (.ref p) H'
theorem Ev{C f:Addr}{fd:FuncData}(F:Fun K "narrowed" "narrowed" i9 f fd)(T:Txt K mg)(R:RCI K mg C){tQ:Addr}{s9:FuncData}(vg:MCal P w K mg base 4 C "minus" ["self","other"] (nv C) tQ s9){Jx:Addr}{II:FuncData}(Mz:Cal P w K mg base 1 "halvings" ["reach","width"] (qx C) Jx II){Jy:Addr}{IJ:FuncData}(MA:Cal P w K mg base 3 "halved" ["row","end","steps"] qy Jy IJ){Jh:Addr}{Iq:FuncData}(Mh:Cal P w K mg base 3 "stretched" ["row","low","reach"] (qc C) Jh Iq){gY:Addr}{gS:FuncData}(iq:Cal P w K mg base 2 "sign_at" ["row","ratio"] (iD C) gY gS){JE:Addr}{IQ:FuncData}(MG:Cal P w K mg base 5 "along" ["low","reach","place","pieces"] (qF C) JE IQ):FnOk P w K mg base CX0 6 f fd ["row","low","high","width"] (nu C):=by
 obtain⟨uO,rF,uw⟩:=vg;obtain⟨LR,Gr,He,KQ⟩:=Mz;obtain⟨LS,Gs,Hf,KR⟩:=MA;obtain⟨LB,Gc,G0,Ky⟩:=Mh;obtain⟨ij,gD,gJ,ic⟩:=iq;obtain⟨Ax,x4,yj,Af⟩:=MG;refine F.ok sc_narrowed (λvs H Q E h=>?_) (λcdv A outer s H vs Q E hr h=>?_)
 ·obtain⟨a,l,h,wd,ns,l1,l2,h1,h2,w1,w2,k,kw,ε,Up,rfl,_⟩:=h;rfl
 ·obtain⟨a,l,h,wd,ns,l1,l2,h1,h2,w1,w2,kb,kw,ε,Up,rfl,hA,hT,hne,hln,hbn,hl,hh,hw,en,hw1,hw2,bw1,bw2,hk1,hk2,hk3,hU,k⟩:=h
  refine⟨_,(af (aj (i:=4) sc_narrowed.nd rfl (Or.inl rfl) (fD (pv 2) R.cl rF uO (hr.mono) uw .nil ai (aa (pv 1) ac)))
   (af (aj (i:=5) sc_narrowed.nd rfl (Or.inl rfl) (am LR (hr.mono) rfl Gr He KQ .nil ai (aa (pv 4) (aa (pv 3) ac))))
   (af (aO (aH df (pv 5) ae (aC _))
     (ah (aw (cQ (aa (pv 1) (aa (pv 2) ac)))))
     aP)
   (af (aj (i:=6) sc_narrowed.nd rfl (Or.inl rfl) (am LS (hr.mono) rfl Gs Hf KR .nil ai (aa (am LB (hr.mono) rfl Gc G0 Ky .nil ai (aa (pv 0) (aa (pv 1) (aa (pv 4) ac)))) (aa (am ij (hr.mono) rfl gD gJ ic .nil ai (aa (pv 0) (aa (pv 2) ac))) (aa (pv 5) ac)))))
   (ah (aw (cQ (aa (am Ax (hr.mono) rfl x4 yj Af .nil ai (aa (pv 1) (aa (pv 4) (aa (aG (aV (K:=K) rfl) (pv 6) ae (λ_ _=>rfl)) (aa (aG (aV (K:=K) rfl) (pv 6) ae (λ_ _=>rfl)) ac))))) (aa (am Ax (hr.mono) rfl x4 yj Af .nil ai (aa (pv 1) (aa (pv 4) (aa (al bR (aG (aV (K:=K) rfl) (pv 6) ae (λ_ _=>rfl)) ae) (aa (aG (aV (K:=K) rfl) (pv 6) ae (λ_ _=>rfl)) ac))))) ac))))))))),?_⟩
  obtain⟨dl,hl'⟩:=id hl;obtain⟨dh,hh'⟩:=id hh;obtain⟨l2p,h2p,bl1,bl2,bh1,bh2,lt,_,_⟩:=id en;refine av ⟨_,rfl,h,dh,_,rfl,hh',gQ _ _ xz.1 xz.2,_,rfl,h,l,h1,h2,l1,l2,kb,kb,rfl,hh,hl,bh1.mono (by omega),bh2,bl1.mono (by omega),bl2,by omega,h2p,l2p,λr H1 s1 fr hr1=>?_⟩;have d0:h2*l2≠0:=Ny (M6 h2p l2p);have er:=gu (t:=h1*l2-l1*h2) d0;have r2p:0<rb (h1*l2-l1*h2) (h2*l2):=d9 d0;have br1:Bits (2*kb+1) (rt (h1*l2-l1*h2) (h2*l2)):=jP d0 (Bits.sub ((bh1.mul bl2).mono (by omega)) ((bl1.mul bh2).mono (by omega)));have br2:Bits (2*kb+1) (rb (h1*l2-l1*h2) (h2*l2)):=gt d0 ((bh2.mul bl2).mono (by omega));generalize rt (h1*l2-l1*h2) (h2*l2)=r1 at *
  generalize rb (h1*l2-l1*h2) (h2*l2)=r2 at *
  have hD:0<h1*l2-l1*h2:=by omega
  have hhl:0<h2*l2:=M6 h2p l2p;have r1p:0<r1:=mv hhl (by rw[Nz,er];exact M6 hD r2p);have hA1:=s1 _ _ hA;have hl1:=hl.same s1;have hh1:=hh.same s1;refine av ⟨_,rfl,_,rfl,r,wd,r1,r2,w1,w2,2*kb+1,kw,rfl,hr1,hw.same s1,r2p,hw1,br1,br2.mono (by omega),bw1.mono (by omega),bw2,by omega,λn hn hle hmin=>?_⟩
  have fit:(h1*l2-l1*h2)*w2<=w1*(h2*l2)*2^n:=by
   refine kj r2p ?_
   calc (h1*l2-l1*h2)*w2*r2=((h1*l2-l1*h2)*r2)*w2:=by grind
    _=r1*(h2*l2)*w2:=by rw[er]
    _=r1*w2*(h2*l2):=by grind
    _<=w1*r2*2^n*(h2*l2):=Nw hle (M7 hhl)
    _=w1*(h2*l2)*2^n*r2:=by grind
  have bigg:∀j:Nat,j<n->w1*(h2*l2)*2^j<(h1*l2-l1*h2)*w2:=λj hj=>by
   refine mv r2p ?_
   calc w1*(h2*l2)*2^j*r2=w1*r2*2^j*(h2*l2):=by grind
    _<r1*w2*(h2*l2):=NM (hmin j hj) hhl
    _=r1*(h2*l2)*w2:=by grind
    _=(h1*l2-l1*h2)*r2*w2:=by rw[er]
    _=(h1*l2-l1*h2)*w2*r2:=by grind
  refine bF ⟨_,rfl,_,_,rfl,rfl,_,rfl,aX (λh0=>?_) (λ_=>?_)⟩
  ·obtain rfl:n=0:=by have:(n:Int)=0:=h0;omega
   refine aZ ⟨_,rfl,_,rfl,by show 2<=sizeLine;decide,λp hp=>?_⟩;have sp:=Same.upd_new (o:=.tup [V.ref l,V.ref h]) hp;have ex:l1*(l2*h2*2^0)=(l1*h2*2^0+(h1*l2-l1*h2)*((0:Nat):Int))*l2:=by rw[NP];show _=(_+_*0)*_;grind
   have ey:h1*(l2*h2*2^0)=(l1*h2*2^0+(h1*l2-l1*h2)*(((0:Nat):Int)+1))*h2:=by rw[NP];show _=(_+_*(0+1))*_;grind
   have nf:=xD (w1:=w1) (w2:=w2) (pc:=2^0) l2p h2p l2p h2p (jU 0) (NY 0) (by decide) hD ex ey fit;exact k p l h _ 0 0 l1 l2 h1 h2 (s1.then_new hp) (s1.free hp) ao (hl1.same sp) (hh1.same sp) ⟨en.mono (by omega),hU.low,hU.top,NY _,NY _,nf.2.2.2,by decide,ex,ey,bigg,fit⟩
  refine av ⟨_,rfl,_,rfl,_,rfl,a,l,r,ns,l1,l2,r1,r2,rfl,hA1,hl1,hr1,hT,hne,hln,hbn,l2p,r1p,r2p,bl1.mono hk1,bl2.mono hk1,br1.mono (by omega),br2.mono (by omega),λm s0 s1' pm e0 e1 hs1 bS p2 H2 s2 hp2 eq2=>?_⟩;have t2:=s1.trans s2;refine⟨_,rfl,_,rfl,a,h,ns,h1,h2,⟨rfl,t2 _ _ hA,hh.same t2,by omega,hbn.mono,bh1.mono (by omega),bh2.mono (by omega)⟩,λH3 s3=>?_⟩;have t3:=t2.trans s3;have lp:0<l2*r2:=M6 l2p r2p
  have top:(s0+s1')*h2=h1*m:=by
   refine cancel lp ?_
   calc (s0+s1')*h2*(l2*r2)=((s0*l2)*r2+(s1'*r2)*l2)*h2:=by grind
    _=(l1*m*r2+r1*m*l2)*h2:=by rw[e0,e1]
    _=m*(l1*r2*h2+r1*(h2*l2)):=by grind
    _=m*(l1*r2*h2+(h1*l2-l1*h2)*r2):=by rw[er]
    _=h1*m*(l2*r2):=by grind
  have pt:∀p c:Int,0<p->p<=c->0<m*c/\l1*(m*c)<(s0*c+s1'*p)*l2/\(s0*c+s1'*p)*h2<=h1*(m*c):=λp c hp hc=>by
   refine⟨M6 pm (by omega),?_,?_⟩
   ·have:(s0*c+s1'*p)*l2=l1*(m*c)+s1'*p*l2:=by
     calc (s0*c+s1'*p)*l2=(s0*l2)*c+s1'*p*l2:=by grind
      _=l1*m*c+s1'*p*l2:=by rw[e0]
      _=l1*(m*c)+s1'*p*l2:=by grind
    rw[this];have:=M6 (M6 hs1 hp) l2p;omega
   ·have h3:s1'*p<=s1'*c:=OW hc (M7 hs1);have h4:(s0*c+s1'*p)*h2<=(s0*c+s1'*c)*h2:=Nw (by omega) (M7 h2p)
    have h5:(s0*c+s1'*c)*h2=h1*(m*c):=by
     calc (s0*c+s1'*c)*h2=((s0+s1')*h2)*c:=by grind
      _=h1*m*c:=by rw[top]
      _=h1*(m*c):=by grind
    omega
  have vs:∀p c:Int,sg (hv p c (bj m s0 s1' ns))=sg (hv (s0*c+s1'*p) (m*c) ns):=λp c=>by rw[<- yH,da pm]
  have hB:RootB (bj m s0 s1' ns) ε (λp c=>Up (s0*c+s1'*p) (m*c)):=by
   refine⟨hU.e1,λp c hp hc hu=>?_,λp c hp hc hu=>?_,λp c p' c' hp hc hp' hc' hu hlt=>?_,λp c hc=>?_,λhu=>?_⟩
   ·rw[vs];obtain⟨q1,q2,q3⟩:=pt p c hp hc;exact hU.r1 _ _ q1 q2 q3 hu
   ·rw[vs];obtain⟨q1,q2,q3⟩:=pt p c hp hc;exact hU.r2 _ _ q1 q2 q3 hu
   ·rw[vs];obtain⟨q1,q2,q3⟩:=pt p c hp hc;obtain⟨q1',q2',q3'⟩:=pt p' c' hp' hc';refine hU.r3 _ _ _ _ q1 q1' q2 q3' hu ?_;have h3:s1'*m*(p*c')<s1'*m*(p'*c):=Ph hlt (M6 hs1 pm);have e3:(s0*c+s1'*p)*(m*c')=s0*c*(m*c')+s1'*m*(p*c'):=by grind
    have e4:(s0*c'+s1'*p')*(m*c)=s0*c*(m*c')+s1'*m*(p'*c):=by grind
    omega
   ·have g1:0<m*c:=M6 pm hc;have g2:0<m*(2*c):=M6 pm (by omega);constructor
    ·exact hU.sc _ _ _ _ g2 g1 (by grind)
    ·exact hU.sc _ _ _ _ g1 g2 (by grind)
   ·refine hU.top (hU.sc _ _ _ _ (by rw[NJ];exact pm) h2p ?_ hu);rw[NJ,NJ,NJ];exact top
  have lstr:=iA m s0 s1' ns;have hn1:1<=ns.length:=M5.mpr hne;refine⟨_,rfl,p2,bj m s0 s1' ns,_,n,ε,_,rfl,s3 _ _ eq2,by omega,by omega,bS,by omega,hB,?_,λp4 H4 pl s4 hp4 e4 hpl hup hnup=>?_⟩
  ·rw[vs];refine B4 h2p (by rw[NJ];exact pm) ?_ ns;rw[NJ,NJ,NJ];exact top.symm
  have t4:=t3.trans s4;have u4:=(s2.trans s3).trans s4;have b2n:Bits (n+1) ((2:Int)^n):=ll (by omega);have cpl:(pl:Int)<2^n:=by rw[gw];exact OB.mpr hpl
  have bpl:Bits (n+1) (pl:Int):=b2n.of_le (by rw[gw];omega);have bpl1:Bits (n+1) ((pl:Int)+1):=b2n.of_le (by rw[gw];omega);have p2n:=jU n;refine aZ ⟨_,rfl,_,rfl,_,rfl,p4,_,_,_,rfl,rfl,SqT.of e4,rfl,_,rfl,p4,_,_,_,rfl,rfl,SqT.of e4,rfl,l,r,l1,l2,r1,r2,pl,2^n,kb,2*kb+1,n+1,rfl,hl.same t4,hr1.same u4,l2p,r2p,p2n,bl1,bl2,br1,br2,bpl,b2n,by omega,λx H5 x1 x2 s5 hx hRx x2p ex bx1 bx2 gx=>?_⟩;have e5:=s5 _ _ e4;have t5:=t4.trans s5;have u5:=u4.trans s5;refine⟨_,rfl,_,rfl,_,rfl,p4,_,_,_,rfl,rfl,SqT.of e5,rfl,_,_,rfl,rfl,_,rfl,p4,_,_,_,rfl,rfl,SqT.of e5,rfl,l,r,l1,l2,r1,r2,pl+1,2^n,kb,2*kb+1,n+1,rfl,hl.same t5,hr1.same u5,l2p,r2p,p2n,bl1,bl2,br1,br2,bpl1,b2n,by omega,λy H6 y1 y2 s6 hy hRy y2p ey by1 by2 gy=>?_⟩;refine⟨by show 2<=sizeLine;decide,λp hp=>?_⟩;have sp:=Same.upd_new (o:=.tup [V.ref x,V.ref y]) hp;have t6:=t5.trans s6;have ex':=An r2p er ex;have ey':=An r2p er ey;have nf:=xD (w1:=w1) (w2:=w2) l2p h2p x2p y2p p2n (show(0:Int)<=(pl:Int) by omega) (by omega) hD ex' ey' fit
  have cross:∀(q z1 z2:Int),z1*(l2*r2*2^n)=(l1*r2*2^n+r1*l2*q)*z2->(s0*2^n+s1'*q)*z2=z1*(m*2^n):=λq z1 z2 ez=>by
   refine cancel lp ?_
   calc (s0*2^n+s1'*q)*z2*(l2*r2)=((s0*l2)*r2*2^n+(s1'*r2)*l2*q)*z2:=by grind
    _=(l1*m*r2*2^n+r1*m*l2*q)*z2:=by rw[e0,e1]
    _=m*((l1*r2*2^n+r1*l2*q)*z2):=by grind
    _=m*(z1*(l2*r2*2^n)):=by rw[ez]
    _=z1*(m*2^n)*(l2*r2):=by grind
  have hm2:0<m*2^n:=M6 pm p2n;refine k p x y _ n pl x1 x2 y1 y2 (t6.then_new hp) (t6.free hp) ao ((hRx.same s6).same sp) (hRy.same sp) ⟨⟨x2p,y2p,bx1.mono (by omega),bx2.mono (by omega),by1.mono (by omega),by2.mono (by omega),nf.1,gx,gy⟩,?_,?_,nf.2.1,nf.2.2.1,nf.2.2.2,hpl,ex',ey',bigg,fit⟩
  ·rcases hup with z |z
   ·refine hU.sc _ _ _ _ l2p x2p ?_ hU.low;rw[z]at ex';refine cancel (M6 h2p p2n) ?_
    calc l1*x2*(h2*2^n)=(l1*h2*2^n+(h1*l2-l1*h2)*((0:Nat):Int))*x2:=by show _=(_+_*0)*_;grind
     _=x1*(l2*h2*2^n):=ex'.symm
     _=x1*l2*(h2*2^n):=by grind
   ·exact hU.sc _ _ _ _ hm2 x2p (cross _ _ _ ex) z
  ·intro hu;exact hnup (hU.sc _ _ _ _ y2p hm2 (cross _ _ _ ey).symm hu)
structure NCI(K:PySem.W.Frag)(mg:Str->Option Value)(CN:Addr):Prop where
 cl:Cls K CN
 nP:NoAttr K CN "poly"
 nL:NoAttr K CN "low"
 nH:NoAttr K CN "high"
 mg:mg "Number"=some (.ref CN)
 ha:PySem.W.findIn K (.ref CN) "__class__"=some (some (.builtin "object.__class__"))
 hn:PySem.W.specialIn K (.builtin "object.__class__") "__get__"=some (some (.builtin "getset_descriptor.__get__"))
 ht:PySem.W.takesIn K (.builtin "object.__class__")=some true
 hm:PySem.W.mroIn K CN (.type "object")=some true
noncomputable def eX(p l h:Addr):List (Str×V):=cj "high" (.ref h) (cj "low" (.ref l) (cj "poly" (.ref p) []))
theorem DJ:¬(("poly":Str)="high"):=by decide +kernel
theorem DE:¬(("poly":Str)="low"):=by decide +kernel
theorem GJ:¬(("low":Str)="high"):=by decide +kernel
theorem sL(p l h:Addr):(eX p l h).lookup ("high":Str)=some (.ref h):=by unfold eX;rw[cV,if_pos rfl]
theorem sK(p l h:Addr):(eX p l h).lookup ("low":Str)=some (.ref l):=by unfold eX;rw[cV,if_neg GJ,cV,if_pos rfl]
theorem y8(p l h:Addr):(eX p l h).lookup ("poly":Str)=some (.ref p):=by unfold eX;rw[cV,if_neg DJ,cV,if_neg DE,cV,if_pos rfl]
def NA(CN:Addr)(H:Hp)(x p l h:Addr):Prop:=∃dx,H x=some (.ins CN dx (eX p l h))
theorem NA.same{CN:Addr}{H H':Hp}{x p l h:Addr}(n:NA CN H x p l h)(s:Same H H'):NA CN H' x p l h:=let⟨dx,e⟩:=n;⟨dx,s _ _ e⟩
def nC(CN:Addr):Sp:=λvs H Q _=>∃(x dx r l h:Addr) (ns:List V),vs=[.ref x,.ref r,.ref l,.ref h]/\H x=some (.ins CN dx [])/\H r=some (.lst ns)/\∀p,H p=none->Q .non (upd (upd H p (.lst ns)) x (.ins CN dx (eX p l h)))
theorem Fi{CN f:Addr}{fd:FuncData}(F:Fun K "__init__" "Number.__init__" jM f fd)(T:Txt K mg)(RN:NCI K mg CN):FnOk P w K mg base CX0 1 f fd ["self","row","low","high"] (nC CN):=by
 refine F.ok CC (λvs H Q E h=>?_) (λcdv A outer s H vs Q E hr h=>?_)
 ·obtain⟨x,dx,r,l,h,ns,rfl,_⟩:=h;rfl
 ·obtain⟨x,dx,r,l,h,ns,rfl,hx,hR,k⟩:=h
  refine⟨_,(af (li (pv 0) (rg (uh (K:=K) rfl) (by rfl) T.list_ PyProof.Rows.boot_list (aa (pv 1) ac)) rfl)
   (af (li (pv 0) (pv 2) rfl)
   (ah (li (pv 0) (pv 3) rfl)))),?_⟩
  refine⟨_,rfl,r,_,rfl,.inl (SqL.of hR),λp hp=>?_⟩;have npx:x≠p:=aN hx hp;refine⟨_,rfl,x,CN,dx,_,rfl,by rw[upd_ne npx];exact hx,RN.cl,RN.nP,by show 0<1000;decide,?_⟩;refine⟨_,rfl,_,rfl,x,CN,dx,_,rfl,ao,RN.cl,RN.nL,by show 1<1000;decide,?_⟩;refine⟨_,rfl,_,rfl,x,CN,dx,_,rfl,ao,RN.cl,RN.nH,by show 2<1000;decide,?_⟩;show Q .non (upd (upd (upd (upd H p _) x _) x _) x _);rw[mU,mU];exact k p hp
def qh:Sp:=λvs H Q _=>∃(a:Addr) (ns:List Int),vs=[.ref a]/\H a=some (.lst (ns.map V.int))/\ns.length<=1000/\AllB 300 ns/\∀H',Same H H'->Q .non H'
theorem Le:Bits 399 (10^60*10^60)/\(2:Int)^300<=10^60*10^60:=by
 constructor
 ·show((10:Int)^60*10^60).natAbs<2^399;decide +kernel
 ·decide +kernel
theorem Eo{f:Addr}{fd:FuncData}(F:Fun K "refuse_great" "refuse_great" iX f fd)(T:Txt K mg):FnOk P w K mg base CX0 1 f fd ["row"] qh:=by
 refine F.ok sc_refuse_great (λvs H Q E h=>?_) (λcdv A outer s H vs Q E hr h=>?_)
 ·obtain⟨a,ns,rfl,_⟩:=h;rfl
 ·obtain⟨a,ns,rfl,hA,hl,hb,k⟩:=h;have big:=sizeLine_eq
  refine⟨_,(af (aj (i:=1) sc_refuse_great.nd rfl (Or.inr rfl) (al aR (al xn ae ae) (al xn ae ae)))
   (ah (aO (Dr (aQ (Kr (K:=K) rfl rfl) (by rfl) T.any_ PyProof.Rows.boot_any (aa (fE (own:=["value"]) (fr:=["limit"]) (js:=[1]) (by walk_at "comp_ok") rfl (dA (K:=K) rfl (pv 0)) (λ_ _ _ _=>(aU (i:=0) (show List.Nodup (["value","limit"]:List Str)from by decide +kernel) rfl (Or.inl rfl))) (λ_ _ _ _=>(gz xo (aQ fU (by rfl) T.abs_ PyProof.Rows.boot_abs (aa (pv 0) ac)) (pv 1) (aC _)))) ac)) (by intro _;rfl))
     (ah nX)
     aP))),?_⟩
  have b6:Bits 1000000 ((10:Int)^60):=b60.mono;refine av ⟨_,_,rfl,rfl,⟨by decide,by decide,by decide⟩,_,_,rfl,rfl,⟨by decide,by decide,by decide⟩,_,_,rfl,rfl,⟨b6,b6⟩,?_⟩;refine fx ⟨_,rfl,a,rfl,⟨_,SqL.of hA⟩,mk (K:=K) (a:=a) (xs:=ns.map V.int) (λi ys σ' H'=>∃(z0:Option V) (bs:List Bool),σ'=[z0,some (.int (10^60*10^60))]/\ys=bs.map V.bl/\bs.length=i/\(∀x∈bs,x=false)/\H=H') (by rw[MZ];omega) ⟨none,[],rfl,rfl,rfl,(λ_ h=>nomatch h),rfl⟩ ?_ ?_ ?_⟩
  ·rintro i ys σ' H' _ ⟨z0,bs,rfl,rfl,rfl,_,rfl⟩;exact⟨SqL.of hA,by rw[MZ];exact M0 _⟩
  ·rintro i x ys σ' H' hi ⟨z0,bs,rfl,rfl,rfl,hbs,rfl⟩;obtain⟨c,_,rfl,hc,_⟩:=gN hi;refine⟨_,rfl,_,rfl,_,rfl,_,_,rfl,rfl,?_⟩;refine⟨_,bs++[false],rfl,?_,by rw[Nh];rfl,λx hx=>?_,rfl⟩
   ·have hlt:¬((if c<0 then -c else c)≥10^60*10^60):=by
     have h1:c.natAbs<2^300:=hb c hc;have h2:=Le.2;have h3:((2^300:Nat):Int)=(2:Int)^300:=by rw[Int.natCast_pow];rfl
     have h4:(c.natAbs:Int)<(2:Int)^300:=by rw[<- h3];exact OB.mpr h1
     generalize (2:Int)^300=X at h2 h4
     generalize (10:Int)^60*10^60=Y at h2 ⊢
     split<;>omega
    rw[No];show _++[V.bl (decide _)]=_;rw[decide_eq_false hlt];rfl
   ·rcases Nu.mp hx with h |h
    ·exact hbs x h
    ·exact Nf.mp h
  rintro ys σ' H' p ⟨z0,bs,rfl,rfl,hbl,hbs,rfl⟩ hp;refine⟨p,bs,rfl,SqL.of ao,?_⟩
  have e:bs.any id=false:=by rw[List.any_eq_false];intro x hx;rw[hbs x hx];decide
  rw[e];refine⟨_,rfl,bQ ?_⟩;exact k _ (Same.upd_new hp)
theorem B2{x:Int}(h:x<0):sg x = -1:=by unfold sg;split<;>(try split)<;>omega
theorem BZ{x:Int}(h:0<x):sg x=1:=by unfold sg;split<;>(try split)<;>omega
theorem om:(¬("against":Str)="bottom")/\¬("against":Str)="top":=⟨by decide +kernel,by decide +kernel⟩
theorem b1k{k:Nat}(h:1<=k):Bits k (1:Int):=Bits.mono (j:=1) (by show(1:Int).natAbs<2^1;decide) h
theorem zo(t:Int):dv t 1=1:=by unfold dv;rw[if_neg (by decide)];show((Nat.gcd t.natAbs 1:Nat):Int)=1;rw[OA];rfl
theorem qO(t:Int):rt t 1=t:=by have h:=jO (t:=t) (b:=1) (by decide);rw[zo,Nv]at h;exact h
theorem qS(t:Int):rb t 1=1:=by have h:=gq (t:=t) (b:=1) (by decide);rw[zo,Nv]at h;exact h
theorem zn{b:Int}(hb:0<b):dv 1 b=1:=by unfold dv;rw[if_neg (by omega)];show((Nat.gcd 1 b.natAbs:Nat):Int)=1;rw[Nat.gcd_one_left];rfl
theorem CK{b:Int}(hb:0<b):rt 1 b=1:=by have h:=jO (t:=1) (b:=b) (by omega);rw[zn hb,Nv]at h;exact h
theorem C4{b:Int}(hb:0<b):rb 1 b=b:=by have h:=gq (t:=1) (b:=b) (by omega);rw[zn hb,Nv]at h;exact h
theorem FX{CN:Addr}{H3:Hp}{q:Addr->Hp->Prop}{E:XK}{r l h:Addr}{ns:List V}(e3:H3 r=some (.lst ns))(k:∀(x p:Addr) (H':Hp),Same H3 H'->H3 x=none->NA CN H' x p l h->H' p=some (.lst ns)->H3 p=none->q x H'):∀x dx:Addr,H3 x=none->H3 dx=none->dx≠x->nC CN (.ref x::([.ref r,.ref l,.ref h]++[])) (upd (upd H3 dx (.own x)) x (.ins CN dx [])) (λv H2=>v=.non/\q x H2) E:=λx dx nx ndx ne=>by
 have npx:r≠x:=aN e3 nx;have npd:r≠dx:=aN e3 ndx;refine⟨x,dx,r,l,h,_,rfl,ao,by rw[upd_ne npx,upd_ne npd];exact e3,λq hq=>⟨rfl,?_⟩⟩;have nqx:q≠x:=λz=>by rw[z,ao]at hq;cases hq
 have nqd:q≠dx:=λz=>by rw[z,upd_ne ne,ao]at hq;cases hq
 have hq3:H3 q=none:=by rw[upd_ne nqx,upd_ne nqd]at hq;exact hq
 refine k x q _ (λc o ec=>?_) nx ⟨dx,ao⟩ (by rw[upd_ne nqx,ao]) hq3;have ncx:c≠x:=aN ec nx;have ncd:c≠dx:=aN ec ndx;have e4:upd (upd H3 dx (.own x)) x (.ins CN dx []) c=some o:=by rw[upd_ne ncx,upd_ne ncd];exact ec
 rw[upd_ne ncx,upd_ne (aN e4 hq)];exact e4
theorem tY{xs ys:List Int}{x y:Nat}(hx:AllB x xs)(hy:AllB y ys):∀i,AllB (x+i*(y+1)) (aL xs ys i).1/\AllB (x+i*(y+1)) (aL xs ys i).2
 |0=>by rw[Nat.zero_mul];exact⟨AllB.zeros,hx⟩
 |i+1=>by
  obtain⟨h1,h2⟩:=tY hx hy i;have e:x+(i+1)*(y+1)=x+i*(y+1)+y+1:=by rw[Nat.succ_mul];omega
  have hs:Bits y (((RM.cf ys (ys.length-1)).natAbs:Nat):Int):=uC (hy.cf _);rw[e];show AllB _ (cH ys (aL xs ys i) _).1/\AllB _ (cH ys (aL xs ys i) _).2;unfold cH;dsimp only
  constructor
  ·intro v hv;rcases List.mem_or_eq_of_mem_set hv with h |rfl
   ·obtain⟨u,hu,rfl⟩:=Nc.mp h;exact(hs.mul (h1 u hu)).mono (by omega)
   ·exact(kQ (h2.cf _)).mono (by omega)
  ·refine AllB.of_cf λn=>?_
   rw[pC];by_cases hn:n<(scL (((RM.cf ys (ys.length-1)).natAbs:Nat):Int) (aL xs ys i).2).length-1
   ·rw[if_pos hn,aY]
    have m1:Bits (x+i*(y+1)+y) ((((RM.cf ys (ys.length-1)).natAbs:Nat):Int)*RM.cf (aL xs ys i).2 n):=by have:=hs.mul (h2.cf n);rwa [Nat.add_comm]at this
    refine m1.sub ?_;by_cases hp:(xs.length+1-ys.length-1-i)<=n
    ·rw[if_pos hp];exact(kQ (h2.cf _)).mul (hy.cf _)
    ·rw[if_neg hp];exact Bits.zero
   ·rw[if_neg hn];exact Bits.zero
theorem kP{n:Nat}{l:List Int}(h:AllB n l):AllB n (ak l):=by
 intro y hy;obtain⟨x,hx,rfl⟩:=Nc.mp hy;obtain⟨d,hd⟩:=kc hx;by_cases hg:(au l:Int)=0
 ·rw[hg,Int.ediv_zero];exact Bits.zero
 ·have e:x/(au l:Int)=d:=by rw[hd];exact O8 d hg
  rw[e];refine(h x hx).of_le ?_;rw[hd,Ni];exact OP _ (Oa.mpr hg)
theorem qJ(l:List Int):(ak l).length=l.length:=MZ _
theorem wq(n:Nat)(o:List Int):Run n [] o:=by cases n with |zero=>rfl |succ n=>exact .inl rfl
theorem zk(n:Nat)(o:List Int):RM.Ends n [] o:=by cases n with |zero=>rfl |succ n=>exact .inl rfl
theorem gr8:gr 540 6=91260:=by decide
def Okr(xs:List Int):Prop:=Tr xs/\AllB 91260 xs/\xs.length<=7
theorem wo:∀(n:Nat) (one other:List Int) (x y s:Nat),one.length=s+1->s<=6->other.length<=s->s<n->Tr one->Tr other->AllB x one->AllB y other->x+1<=gr 540 (6-s)->y+1<=gr 540 (6-s+1)->Run n one other/\RM.Ends n one other/\∀xs∈aW n one other,Okr xs
 |0,one,other,x,y,s,_,_,_,h,_,_,_,_,_,_=>absurd h (O0 _)
 |m+1,one,other,x,y,s,hl,hs8,hol,hsm,t1,t2,b1,b2,g1,g2=>by
  have hne:one≠[]:=λz=>by rw[z]at hl;simp at hl
  have m1:gr 540 (6-s)<=91260:=by rw[<- gr8];exact dS 540 (by omega)
  have bo1:AllB 91260 one:=b1.mono (by omega)
  have bo2:AllB 91260 other:=by
   by_cases ho:other=[]
   ·rw[ho];exact AllB.nil
   ·have:=M5.mpr ho;have m2:gr 540 (6-s+1)<=91260:=by rw[<- gr8];exact dS 540 (by omega)
    exact b2.mono (by omega)
  have fit:Fit one other:=⟨t1,t2,91260,bo1,bo2,by rw[hl];omega,by omega⟩
  have eS:aW (m+1) one other=one::aW m other (nxt one other):=by show(if one=[]then[]else one::aW m other (nxt one other))=_;rw[if_neg hne]
  have ok1:Okr one:=⟨t1,bo1,by omega⟩;by_cases ho:other=[]
  ·subst ho;refine⟨.inr ⟨fit,wq _ _⟩,.inr (zk _ _),λxs hx=>?_⟩;rw[eS,kU]at hx;rw[Nf.mp hx];exact ok1
  ·have hop:=M5.mpr ho;obtain⟨d,hd⟩:∃d,other.length=d+1:=⟨other.length-1,by omega⟩;have hN:aS one other=(s-d-1)+2:=by unfold aS;omega
   have e6:6-s+2+(s-d-1)=6-d+1:=by omega
   have rb:AllB (x+aS one other*(y+1)) (aK one other):=((tY b1 b2 (aS one other)).2).trim
   have nb:AllB (x+aS one other*(y+1)) (nxt one other):=by
    unfold nxt rst;rw[if_neg ho,m7 (dU _ _)];refine kP λv hv=>?_
    obtain⟨u,hu,rfl⟩:=Nc.mp hv;have:=(rb u hu).neg
    rwa [show -1*u = -u by omega]
   have nl:(nxt one other).length<=d:=by unfold nxt rst;rw[if_neg ho,m7 (dU _ _),qJ,bJ];have:=fc (a:=one) ho;omega
   have nt:Tr (nxt one other):=dX (dM _);have jump:=sy 540 (6-s) (s-d-1);rw[e6]at jump;have mm:=Oo (s-d-1+2) g2;obtain⟨r1,r2,r3⟩:=wo m other (nxt one other) y (x+aS one other*(y+1)) d hd (by omega) nl (by omega) t2 nt b2 nb (Nb g2 (dS 540 (by omega))) (by rw[hN];omega);refine⟨.inr ⟨fit,r1⟩,.inr r2,λxs hx=>?_⟩;rw[eS]at hx;rcases Nd.mp hx with rfl |hx
   ·exact ok1
   ·exact r3 xs hx
theorem wy:∀(n:Nat) (one other:List Int),(aW n one other).length<=n
 |0,_,_=>M0 _
 |n+1,one,other=>by
  show(if one=[]then[]else one::aW n other (nxt one other)).length<=n+1;split
  ·exact M9 _
  ·have:=wy n other (nxt one other);rw[Nq];omega
theorem v8{n:Nat}{xs:List Int}(h:AllB n xs)(hl:xs.length<=9):AllB (n+4) (slopeL xs):=by intro x hx;obtain⟨k,hk,rfl⟩:=Nc.mp hx;have hk':k<xs.length-1:=List.mem_range.mp hk;have b1:Bits 4 ((k:Int)+1):=OO (show((k:Int)+1).natAbs<=8 by omega) (by decide);exact(b1.mul (h.cf (k+1))).mono (by omega)
theorem BI(xs:List Int):(slopeL xs).length=xs.length-1:=by unfold slopeL;rw[MZ,N2]
theorem CQ{kps:List Int}(ktr:Tr kps)(kb:AllB 530 kps)(kl:kps.length<=7):Run 9 (ak kps) (ak (slopeL kps))/\RM.Ends 9 (ak kps) (ak (slopeL kps))/\∀xs∈aW 9 (ak kps) (ak (slopeL kps)),Okr xs:=by
 by_cases h0:kps=[]
 ·subst h0
  exact⟨wq _ _,zk _ _,λxs hx=>by
   have e:ak []=[]:=rfl;rw[e,kU]at hx
   exact nomatch hx⟩
 ·have hl:=M5.mpr h0;obtain⟨s,hs⟩:∃s,kps.length=s+1:=⟨kps.length-1,by omega⟩;refine wo 9 (ak kps) (ak (slopeL kps)) 530 534 s (by rw[qJ,hs]) (by omega) (by rw[qJ,BI,hs];omega) (by omega) (dX ktr) (dX (vA ktr)) (kP kb) (kP (v8 kb (by omega))) ?_ ?_
  ·exact Nb (show 531<=gr 540 0 by decide) (dS 540 (M9 _))
  ·exact Nb (show 535<=gr 540 1 by decide) (dS 540 (by omega))
theorem rc{n:Nat}{l:List Int}(h:AllB n l):AllB n (ay l):=by
 unfold ay cn;split
 ·intro y hy;obtain⟨x,hx,rfl⟩:=Nc.mp hy;exact(kP h x hx).neg
 ·exact kP h
theorem HP:∀s:Nat,s<=8->1<=s->(s+3)*(gr 240 (8-s+1)+1)<=1000000
 |0,_,h=>absurd h (by decide)
 |1,_,_=>by show 4*(236400+1)<=1000000;decide
 |2,_,_=>by show 5*(97920+1)<=1000000;decide
 |3,_,_=>by show 6*(40560+1)<=1000000;decide
 |4,_,_=>by show 7*(16800+1)<=1000000;decide
 |5,_,_=>by show 8*(6960+1)<=1000000;decide
 |6,_,_=>by show 9*(2880+1)<=1000000;decide
 |7,_,_=>by show 10*(1200+1)<=1000000;decide
 |8,_,_=>by show 11*(480+1)<=1000000;decide
 |n+9,h,_=>absurd h (by omega)
theorem wu:∀(n:Nat) (one other:List Int) (x y s:Nat),one.length=s+1->s<=8->other.length<=s->s<n->Tr one->Tr other->AllB x one->AllB y other->x+1<=gr 240 (8-s)->y+1<=gr 240 (8-s+1)->kt n one other
 |0,one,other,x,y,s,_,_,_,h,_,_,_,_,_,_=>absurd h (O0 _)
 |m+1,one,other,x,y,s,hl,hs8,hol,hsm,t1,t2,b1,b2,g1,g2=>by
  by_cases ho:other=[]
  ·exact .inl ho
  have hop:=M5.mpr ho;obtain⟨d,hd⟩:∃d,other.length=d+1:=⟨other.length-1,by omega⟩;have hN:aS one other=(s-d-1)+2:=by unfold aS;omega
  have e6:8-s+2+(s-d-1)=8-d+1:=by omega
  have rb:AllB (x+aS one other*(y+1)) (aK one other):=((tY b1 b2 (aS one other)).2).trim;have jump:=sy 240 (8-s) (s-d-1);rw[e6]at jump;have mm:=Oo (s-d-1+2) g2;have nl:=fc (a:=one) ho;have m0:=dS 240 (show 8-s<=8-s+1 by omega);have fit:uQ one other:=⟨t1,t2,gr 240 (8-s+1),b1.mono (by omega),b2.mono (by omega),by rw[hl];exact HP s hs8 (by omega),by omega⟩
  exact .inr ⟨fit,wu m other (ay (aK one other)) y (x+aS one other*(y+1)) d hd (by omega) (by rw[RM.plain_len];omega) (by omega) t2 (fu (dU _ _)) b2 (rc rb) (Nb g2 (dS 240 (by omega))) (by
   rw[hN];generalize (s-d-1+2)*(y+1)=z at mm ⊢
   generalize (s-d-1+2)*gr 240 (8-s+1)=z2 at mm jump
   omega)⟩
structure Made(kp:List Int)(c:Int)(us:List (List Int×Nat)):Prop where
 is:kp=whl c us
 c0:c≠0
 bc:Bits 10 c
 use:Use us
 deg:dgs id us<=8
 one:2<=kp.length
 bits:AllB 230 (fP id us)
 more:AllB 230 (mor us 1)
theorem Made.len{kp:List Int}{c:Int}{us:List (List Int×Nat)}(h:Made kp c us):kp.length<=9/\(mor us 1).length<=9/\1<=(mor us 1).length/\AllB 241 kp:=by
 have ne:∀p∈us,p.1≠[]:=λp hp=>(h.use.pri p hp).pln.ne
 have h1:=(kg id us ne).1;have h2:=(kg (·-1) us ne).1;have h3:dgs (·-1) us<=dgs id us:=zx us λp _=>Nat.sub_le _ _
 have h4:=h.deg;refine⟨by rw[h.is,dL,bJ];omega,by unfold mor;omega,by unfold mor;omega,?_⟩;rw[h.is,dL];intro x hx;obtain⟨y,hy,rfl⟩:=Nc.mp hx;exact(h.bc.mul (h.bits y hy)).mono
theorem Made.slope{kp:List Int}{c:Int}{us:List (List Int×Nat)}(h:Made kp c us):AllB 234 (ay (slopeL kp)):=by
 have pl:=fb h.use id;have hl:=h.len.1
 have e:slopeL kp=scL c (slopeL (fP id us)):=by
  rw[h.is];refine cY ?_ λk _=>?_
  ·rw[bJ,eO,eO,dL,bJ]
  ·rw[aY,dq,dq,dL,aY];grind
 rw[e,n6 h.c0 (fX pl.tr)];exact rc (v8 h.bits (by rw[h.is,dL,bJ]at hl;exact hl))
def pX:Sp:=λvs H Q _=>∃(a:Addr) (kp:List Int) (c:Int) (us:List (List Int×Nat)),vs=[.ref a]/\H a=some (.lst (kp.map V.int))/\Made kp c us/\mkL H Q (flt us)
theorem D7{f:Addr}{fd:FuncData}(F:Fun K "without_squares" "without_squares" iH f fd)(T:Txt K mg){Jo:Addr}{Iz:FuncData}(Mp:Cal P w K mg base 35 "part" ["row","divisor"] qo Jo Iz){JB:Addr}{IM:FuncData}(MD:Cal P w K mg base 35 "common" ["first","second"] qD JB IM){tq:Addr}{sM:FuncData}(uS:Cal P w K mg base 1 "slope" ["row"] (sp1 slopeL) tq sM):FnOk P w K mg base CX0 36 f fd ["row"] pX:=by
 obtain⟨LJ,Gi,G6,KH⟩:=Mp;obtain⟨LW,Gw,Hi,KU⟩:=MD;obtain⟨uH,rN,r9,um⟩:=uS;refine F.ok B9 (λvs H Q E h=>?_) (λcdv A outer s H vs Q E hr h=>?_)
 ·obtain⟨a,kp,c,us,rfl,_⟩:=h;rfl
 ·obtain⟨a,kp,c,us,rfl,hA,hM,k⟩:=h;have hu:=hr.units;have eW:=hM.is;obtain⟨tW,nW,pW⟩:=fk hM.use hM.c0;obtain⟨lW,lM,lM1,bW⟩:=hM.len;have hsl:=hM.slope;have l2':=hM.one;have eC:=vi hM.use hM.c0 (by rw[<- eW];omega);obtain⟨r1,r2⟩:=AK hM.use hM.c0;rw[<- eW]at tW nW pW eC r1 r2;have lS:=eO kp
  refine⟨_,(af (aO (aH (lx (K:=K) rfl hu) (pv 0) (aT ac) (aC _))
   (ah (aw (aT ac)))
   aP)
   (ah (aw (am LJ (hr.mono) rfl Gi G6 KH .nil ai (aa (pv 0) (aa (am LW (hr.mono) rfl Gw Hi KU .nil ai (aa (pv 0) (aa (am uH (hr.mono) rfl rN r9 um .nil ai (aa (pv 0) ac)) ac))) ac)))))),?_⟩
  refine bF ⟨_,rfl,M9 _,λp0 hp0=>?_⟩;have s0:Same H (upd H p0 (.lst [])):=Same.upd_new hp0;refine⟨a,p0,kp,[],rfl,rfl,SqL.of (s0 _ _ hA),SqL.of ao,_,rfl,aX (λh0=>absurd h0 nW) (λ_=>?_)⟩;generalize upd H p0 (.lst [])=H0 at s0 ⊢
  have hA0:=s0 _ _ hA;refine aZ ⟨_,rfl,_,rfl,_,rfl,a,kp,rfl,hA0,by omega,bW.mono,λp1 H1 s1 hp1 e1=>?_⟩;have t1:=s0.trans s1;obtain⟨s,hs⟩:∃s,kp.length=s+1:=⟨kp.length-1,by omega⟩;refine⟨a,p1,kp,slopeL kp,20,rfl,t1 _ _ hA,e1,tW,fX tW,by omega,by omega,wu 20 (ay kp) (ay (slopeL kp)) 230 234 s (by rw[RM.plain_len];exact hs) (by omega) (by rw[RM.plain_len];omega) (by omega) (fu tW) (fu (fX tW)) (by rw[pW];exact hM.bits) hsl ?_ ?_,λp2 H2 s2 hp2 e2=>?_⟩
  ·exact Nb (show 231<=gr 240 0 by decide) (dS 240 (M9 _))
  ·exact Nb (show 235<=gr 240 1 by decide) (dS 240 (by omega))
  have e2':H2 p2=some (.lst ((mor us 1).map V.int)):=by rw[<- eC];exact e2
  have t2:=t1.trans s2;refine⟨a,p2,kp,_,241,rfl,t2 _ _ hA,e2',tW,(fb hM.use _).tr,bW,hM.more.mono,by have:(kp.length+2)*(241+1)<=11*242:=NK _ (by omega);omega,by omega,(fb hM.use _).ne,r1,λp3 H3 s3 hp3 e3=>?_⟩;rw[r2]at e3;exact k p3 H3 (t2.trans s3) (t2.free hp3) e3
structure Whl(fs:List (List Int)):Prop where
 fam:Fam fs
 l2:2<=(prQ fs).length
 l7:(prQ fs).length<=7
 bits:AllB 250 (prQ fs)
noncomputable def kW(fs:List (List Int)):List (List Int):=aW 9 (ak (prQ fs)) (ak (slopeL (prQ fs)))
theorem CP{fs:List (List Int)}(hF:Fam fs)(hl:(prQ fs).length<=7){t n t' n':Int}(hn:0<n)(hn':0<n')(hlt:t*n'<t'*n):((chS (sgs t n (kW fs))).1:Int)-(chS (sgs t' n' (kW fs))).1=bh (aM fs) t n t' n':=by have:=Kb (N:=8) (c:=1) hF.fac hF.nd (by decide) (P:=prQ fs) hF.one.symm (by omega) (by omega) hn hn' hlt;rw[zN,zN];exact this
theorem CO{fs:List (List Int)}(hF:Fam fs)(hl:(prQ fs).length<=7)(hb:AllB 250 (prQ fs)):Run 9 (ak (prQ fs)) (ak (slopeL (prQ fs)))/\(∀xs∈kW fs,xs.length<=20/\AllB 95000 xs)/\(kW fs).length<=1000000:=by
 obtain⟨r1,_,r3⟩:=CQ hF.pln.tr (hb.mono) hl;refine⟨r1,λxs hx=>?_,?_⟩
 ·obtain⟨_,b,l⟩:=r3 xs hx;exact⟨by omega,b.mono⟩
 ·have:=wy 9 (ak (prQ fs)) (ak (slopeL (prQ fs)));show(aW 9 _ _).length<=_;omega
structure EndB(k:Nat)(l1 l2 h1 h2:Int):Prop where
 l2p:0<l2
 h2p:0<h2
 bl1:Bits k l1
 bl2:Bits k l2
 bh1:Bits k h1
 bh2:Bits k h2
 gl:Nat.gcd l1.natAbs l2.natAbs=1
 gh:Nat.gcd h1.natAbs h2.natAbs=1
theorem EndB.en{k:Nat}{l1 l2 h1 h2:Int}(e:EndB k l1 l2 h1 h2)(h:l1*h2<h1*l2):EndsG k l1 l2 h1 h2:=⟨e.l2p,e.h2p,e.bl1,e.bl2,e.bh1,e.bh2,h,e.gl,e.gh⟩
noncomputable def dF(fs:List (List Int))(l1 l2 h1 h2:Int):Int:=if l1*h2<h1*l2 then bh (aM fs) l1 l2 h1 h2 else 0
def qq(C:Addr):Sp:=λvs H Q _=>∃(a l h:Addr) (fs:List (List Int)) (l1 l2 h1 h2:Int),vs=[.ref a,.ref l,.ref h]/\H a=some (.lst ((prQ fs).map V.int))/\Whl fs/\RA C H l l1 l2/\RA C H h h1 h2/\EndB 250 l1 l2 h1 h2/\∀H',Same H H'->Q (.int (dF fs l1 l2 h1 h2)) H'
theorem Ey{C f:Addr}{fd:FuncData}(F:Fun K "many_within" "many_within" jc f fd)(T:Txt K mg)(R:RCI K mg C){tR:Addr}{tf:FuncData}(vh:MCal P w K mg base 2 C "against" ["self","other"] (nG C) tR tf){tG:Addr}{sS:FuncData}(uY:Cal P w K mg base 4 "count" ["row","low","high"] (nE C) tG sS){tE:Addr}{sQ:FuncData}(uW:Cal P w K mg base 35 "row_of" ["polynomial"] nj tE sQ):FnOk P w K mg base CX0 36 f fd ["simple","low","high"] (qq C):=by
 obtain⟨uP,rG,uz⟩:=vh;obtain⟨uM,rS,sj,ut⟩:=uY;obtain⟨uK,rQ,sh,ur⟩:=uW;refine F.ok Ci (λvs H Q E h=>?_) (λcdv A outer s H vs Q E hr h=>?_)
 ·obtain⟨a,l,h,fs,l1,l2,h1,h2,rfl,_⟩:=h;rfl
 ·obtain⟨a,l,h,fs,l1,l2,h1,h2,rfl,hA,hW,hl,hh,en,k⟩:=h
  refine⟨_,(af (aO (aH xo (fD (pv 1) R.cl rG uP (hr.mono) uz .nil ai (aa (pv 2) ac)) ae (aC _))
   (ah (aw ae))
   aP)
   (ah (aw (am uM (hr.mono) rfl rS sj ut .nil ai (aa (am uK (hr.mono) rfl rQ sh ur .nil ai (aa (pv 0) ac)) (aa (pv 1) (aa (pv 2) ac))))))),?_⟩
  have l7:=hW.l7;obtain⟨rn,rx,rl⟩:=CO hW.fam l7 hW.bits;obtain⟨dxl,hl'⟩:=id hl;refine bF ⟨_,rfl,l,dxl,_,rfl,hl',gQ _ _ om.1 om.2,_,rfl,l,h,l1,l2,h1,h2,rfl,hl,hh,en.bl1.mono,en.bl2.mono,en.bh1.mono,en.bh2.mono,_,_,rfl,rfl,_,rfl,aX (λhge=>?_) (λhge=>?_)⟩
  ·have hn:¬l1*h2<h1*l2:=λz=>by have:sg (l1*h2-h1*l2) = -1:=B2 (by omega);rw[this]at hge;exact absurd hge (by decide)
   have:=k H (Same.refl H);unfold dF at this
   rw[if_neg hn]at this;exact this
  have hlt:l1*h2<h1*l2:=Int.not_le.mp λz=>hge (by
   show(0:Int)<=sg (l1*h2-h1*l2);by_cases z0:l1*h2-h1*l2=0
   ·rw[z0];decide
   ·rw[BZ (by omega)];decide)
  refine aZ ⟨_,rfl,a,prQ fs,9,rfl,hA,hW.fam.pln.tr,hW.bits.mono,by omega,by decide,rn,λlr ps H1 s1 hl1 hnew el hR=>?_⟩;refine⟨_,rfl,_,rfl,lr,l,h,ps,kW fs,l1,l2,h1,h2,rfl,el,hR,hl.same s1,hh.same s1,en.bl1.mono,en.bl2.mono,en.bh1.mono,en.bh2.mono,rx,rl,λH2 s2=>?_⟩;have:=k H2 (s1.trans s2);unfold dF at this
  rw[if_pos hlt,<- CP hW.fam l7 en.l2p en.h2p hlt]at this;exact this
theorem Ks{ns:List Int}(h:AllB 250 ns)(hp:0<ap ns){kb:Nat}(hB:isB (ns.take (ns.length-1)) (ap ns).natAbs kb):kb<=252:=by
 rcases OJ kb 253 with z |z
 ·omega
 ·obtain⟨x,hx,h2⟩:=hB.2 252 (by omega);have h3:x.natAbs<2^250:=h x (OZ hx);have h4:2^250<=2^252-1:=by decide +kernel
  have h5:2^252-1<=(2^252-1)*(ap ns).natAbs:=Nat.le_mul_of_pos_right _ (by omega);omega
theorem oN{ns:List Int}(h:ns≠[]):atI (ns.map V.int) (-1)=some (.int (ap ns)):=by obtain⟨r,x,rfl⟩:=(cF ns).resolve_left h;rw[cL];exact Aj r x
theorem rY{k:Nat}{ns:List Int}(h:AllB k ns):Bits k (ap ns):=h.cf _
def qz(C:Addr):Sp:=λvs H Q _=>∃(a:Addr) (fs:List (List Int)),vs=[.ref a]/\H a=some (.lst ((prQ fs).map V.int))/\Whl fs/\∀(x:Addr) (H':Hp) (kb:Nat),kb<=252->isB ((prQ fs).take ((prQ fs).length-1)) (ap (prQ fs)).natAbs kb->Same H H'->H x=none->RA C H' x 1 (8*ap (prQ fs)*2^kb)->0<8*ap (prQ fs)*(2:Int)^kb->Bits 520 (8*ap (prQ fs)*(2:Int)^kb)->Q (.ref x) H'
theorem EF{C f:Addr}{fd:FuncData}(F:Fun K "fine_width" "fine_width" ji f fd)(T:Txt K mg)(R:RCI K mg C){cw:Addr}{cv:FuncData}{cx:List Value}(cz:KCal P w K mg base 2 C "Ratio" ["self","top","bottom"] (cP C) cw cv cx [.int 1]){tJ:Addr}{sU:FuncData}(u7:Cal P w K mg base 1 "bound" ["row"] (nF K) tJ sU):FnOk P w K mg base CX0 4 f fd ["whole"] (qz C):=by
 obtain⟨ci,cg,bZ,cy,du,dm⟩:=cz;obtain⟨pI,oJ,oQ,pE⟩:=u7;refine F.ok Cj (λvs H Q E h=>?_) (λcdv A outer s H vs Q E hr h=>?_)
 ·obtain⟨a,fs,rfl,_⟩:=h;rfl
 ·obtain⟨a,fs,rfl,hA,hW,k⟩:=h;refine⟨_,(ah (aw (cM cg ci (hr.mono) rfl bZ cy .nil ai (aa ae (aa (al aR (al aR ae (aG (bK (K:=K) rfl) (pv 0) (bY bT ae) (λ_ _=>rfl))) (am pI (hr.mono) rfl oJ oQ pE .nil ai (aa (pv 0) ac))) ac))))),?_⟩;have hP:=hW.fam.pln;have l7:=hW.l7;have hb:=hW.bits;have b8:Bits 4 (8:Int):=by show(8:Int).natAbs<2^4;decide
  have hp:=hP.pos;refine aZ ⟨_,rfl,_,rfl,a,_,_,_,rfl,rfl,SqL.of hA,oN hP.ne,_,_,rfl,rfl,⟨b8.mono,(rY hb).mono⟩,_,rfl,a,prQ fs,rfl,SqL.of hA,hP.tr,hP.ne,by omega,hb.mono,λkb H1 hkb hB s1=>?_⟩;have hk:=Ks hb hp hB
  have b2:Bits 253 ((2^kb:Nat):Int):=by show(((2^kb:Nat):Int)).natAbs<2^253;rw[Nr];exact(Pd (by decide)).mpr (by omega)
  have b3:Bits 254 (8*ap (prQ fs)):=(b8.mul (rY hb)).mono;have pk:(0:Int)<((2^kb:Nat):Int):=OB.mpr (Oj (by decide));have hD:0<8*ap (prQ fs)*((2^kb:Nat):Int):=M6 (by omega) pk;have bD:Bits 520 (8*ap (prQ fs)*((2^kb:Nat):Int)):=(b3.mul b2).mono;refine⟨_,_,rfl,rfl,⟨b3.mono,b2.mono⟩,dj (t:=1) (by omega) (bD.mono) λx H2 s2 hx hR=>?_⟩;rw[CK hD,C4 hD]at hR;have eB:((2^kb:Nat):Int)=(2:Int)^kb:=by rw[Int.natCast_pow];rfl
  rw[eB]at hR hD bD;exact k x H2 kb hk hB (s1.trans s2) (s1.free hx) hR hD bD
def qB(C:Addr):Sp:=λvs H Q _=>∃(p:Addr) (t b:Int),vs=[.ref p]/\RA C H p t b/\0<b/\Bits 9000 b/\Q (.int (t/b)) H
theorem Ff{C f:Addr}{fd:FuncData}(F:Fun K "floor" "Ratio.floor" jJ f fd)(T:Txt K mg)(R:RCI K mg C):FnOk P w K mg base CX0 1 f fd ["self"] (qB C):=by
 refine F.ok CA (λvs H Q E h=>?_) (λcdv A outer s H vs Q E hr h=>?_)
 ·obtain⟨p,t,b,rfl,_⟩:=h;rfl
 ·obtain⟨p,t,b,rfl,⟨dx,hp⟩,hb,bb,k⟩:=h;refine⟨_,(ah (aw (al cT (aJ (K:=K) rfl (pv 0) rfl) (aJ (K:=K) rfl (pv 0) rfl)))),?_⟩;exact⟨_,rfl,p,C,dx,_,_,rfl,hp,R.cl,R.nT,cu _ _,_,rfl,p,C,dx,_,_,rfl,hp,R.cl,R.nB,bn _ _,_,_,rfl,rfl,⟨hb,bb⟩,k⟩
theorem xA:¬(("floor":Str)="bottom")/\¬(("floor":Str)="top"):=⟨by decide +kernel,by decide +kernel⟩
theorem Di{a c:Int}(hc:0<c):rt a c/rb a c=a/c:=by
 have h0:c≠0:=by omega
 have e1:=jO (t:=a) h0;have e2:=gq (t:=a) h0
 have hp:0<dv a c:=by unfold dv;rw[if_neg (by omega)];have:=ke (t:=a) h0;omega
 have e3:dv a c*rt a c/(dv a c*rb a c)=rt a c/rb a c:=Int.mul_ediv_mul_of_pos _ _ hp;rw[e1,e2]at e3;exact e3.symm
def qb(C:Addr):Sp:=λvs H Q _=>∃(r:Addr) (c t b:Int),vs=[.int c,.ref r]/\RA C H r t b/\0<b/\Bits 10000 c/\Bits 10000 t/\Bits 8900 b/\∀H',Same H H'->Q (.int (c*t/b)) H'
theorem Ea{C f:Addr}{fd:FuncData}(F:Fun K "times_floor" "times_floor" iK f fd)(T:Txt K mg)(R:RCI K mg C){cw:Addr}{cv:FuncData}{cx:List Value}(cz:KCal P w K mg base 2 C "Ratio" ["self","top","bottom"] (cP C) cw cv cx [.int 1]){mf:Addr}{lZ:FuncData}(mP:MCal P w K mg base 4 C "times" ["self","other"] (kJ C) mf lZ){JP:Addr}{I9:FuncData}(MR:MCal P w K mg base 1 C "floor" ["self"] (qB C) JP I9):FnOk P w K mg base CX0 5 f fd ["factor","ratio"] (qb C):=by
 obtain⟨ci,cg,bZ,cy,du,dm⟩:=cz;obtain⟨mK,lA,mE⟩:=mP;obtain⟨Ma,FE,La⟩:=MR;refine F.ok Cb (λvs H Q E h=>?_) (λcdv A outer s H vs Q E hr h=>?_)
 ·obtain⟨r,c,t,b,rfl,_⟩:=h;rfl
 ·obtain⟨r,c,t,b,rfl,hR,hb,bc,bt,bb,k⟩:=h;refine⟨_,(ah (aw (DM (fD (cM cg ci (hr.mono) rfl bZ du dm ai (aa (pv 0) ac)) R.cl lA mK (hr.mono) mE .nil ai (aa (pv 1) ac)) R.cl FE Ma (hr.mono) La .nil ai))),?_⟩;refine aZ ⟨_,rfl,dj (t:=c) (b:=1) (by decide) (b1k (by decide)) λx H1 s1 hx hX=>?_⟩;rw[qO,qS]at hX;obtain⟨dx,hX'⟩:=id hX;refine⟨x,dx,_,rfl,hX',gQ _ _ ol.1 ol.2,_,rfl,x,r,c,1,t,b,1,8900,rfl,hX,hR.same s1,bc.mono,b1k (by decide),bt.mono,bb,by decide,by decide,hb,λy H2 s2 hy hY=>?_⟩;obtain⟨dy,hY'⟩:=id hY;have d0:1*b≠0:=by omega
  refine⟨y,dy,_,rfl,hY',gQ _ _ xA.1 xA.2,y,_,_,rfl,hY,d9 d0,(gt d0 (by rw[Nv];exact bb)).mono,?_⟩;rw[Di (show 0<1*b by omega),Nv];exact k H2 (s1.trans s2)
noncomputable def vl(p:Int×Int):Rat:=(p.1:Rat)/(p.2:Rat)
structure TwoS(C:Addr)(H:Hp)(p q x y x' y':Addr)(x1 x2 y1 y2 p1 p2 q1 q2:Int):Prop where
 hp:H p=some (.tup [.ref x,.ref y])
 hq:H q=some (.tup [.ref x',.ref y'])
 hx:RA C H x x1 x2
 hy:RA C H y y1 y2
 hx':RA C H x' p1 p2
 hy':RA C H y' q1 q2
 e1:EndsG 1774 x1 x2 y1 y2
 e2:EndsG 4074 p1 p2 q1 q2
theorem TwoS.same{C:Addr}{H H':Hp}{p q x y x' y':Addr}{x1 x2 y1 y2 p1 p2 q1 q2:Int}(h:TwoS C H p q x y x' y' x1 x2 y1 y2 p1 p2 q1 q2)(s:Same H H'):TwoS C H' p q x y x' y' x1 x2 y1 y2 p1 p2 q1 q2:=⟨s _ _ h.hp,s _ _ h.hq,h.hx.same s,h.hy.same s,h.hx'.same s,h.hy'.same s,h.e1,h.e2⟩
structure PrH(C:Addr)(H:Hp)(r:Addr)(m1 m2:Int)(v:Rat):Prop where
 ra:RA C H r m1 m2
 m2p:0<m2
 b1:Bits 6000 m1
 b2:Bits 6000 m2
 is:vl (m1,m2)=v
theorem PrH.same{C:Addr}{H H':Hp}{r:Addr}{m1 m2:Int}{v:Rat}(h:PrH C H r m1 m2 v)(s:Same H H'):PrH C H' r m1 m2 v:=⟨h.ra.same s,h.m2p,h.b1,h.b2,h.is⟩
theorem vP{t n t' n':Int}:∀{ls:List (List Int)},(∀l∈ls,ar l t n=ar l t' n')->spr t n ls=spr t' n' ls
 | [],_=>rfl
 |l::ls,h=>by show -ar l t n*spr t n ls = -ar l t' n'*spr t' n' ls;rw[h l (Na ..),vP λx hx=>h x (M8 _ hx)]
theorem vO{t n:Int}:∀{ls:List (List Int)},(∀l∈ls,ar l t n≠0)->spr t n ls=1\/spr t n ls = -1
 | [],_=>.inl rfl
 |l::ls,h=>by
  have h1:=h l (Na ..);have h2:=vO (ls:=ls) λx hx=>h x (M8 _ hx)
  show -ar l t n*spr t n ls=1 \/ -ar l t n*spr t n ls = -1;rcases iG l t n with z |z |z
  ·rw[z];omega
  ·exact absurd z h1
  ·rw[z];omega
theorem BM{l:List Int}(hl:Spt l){t n t' n':Int}(hn:0<n)(hn':0<n')(h:t*n'<=t'*n)(hs:0<ar l t' n'):0<ar l t n:=by
 rcases Ox 0 (ar l t n)with z |z
 ·exact z
 ·exfalso;rcases Int.lt_or_eq_of_le h with y |y
  ·have:=gb hl hn hn' y z;omega
  ·rw[nK l hn hn' y]at z;omega
theorem wa{l:List Int}(hl:Spt l){l1 l2 h1 h2 x1 x2:Int}(l2p:0<l2)(h2p:0<h2)(x2p:0<x2)(lt:l1*h2<h1*l2)(hno:¬(0<ar l l1 l2/\ar l h1 h2<=0))(hx:l1*x2<x1*l2)(hx':x1*h2<=h1*x2):ar l x1 x2=ar l h1 h2/\ar l h1 h2≠0:=by
 rcases Ox 0 (ar l l1 l2)with z |z
 ·have h3:0<ar l h1 h2:=by
   rcases Ox 0 (ar l h1 h2)with y |y
   ·exact y
   ·exact absurd ⟨z,y⟩ hno
  have h4:=BM hl x2p h2p hx' h3;rcases iG l x1 x2 with y |y |y<;>rcases iG l h1 h2 with w |w |w<;>omega
 ·have e1:=gb hl l2p x2p hx z;have e2:=gb hl l2p h2p lt z;omega
theorem CS{fs pre post:List (List Int)}{s:List Int}{c l1 l2 h1 h2:Int}(hF:∀f∈fs,fj f)(hc:c≠0)(hsp:aM fs=pre++s::post)(l2p:0<l2)(h2p:0<h2)(lt:l1*h2<h1*l2)(hin:0<ar s l1 l2/\ar s h1 h2<=0)(hno:∀x∈pre++post,¬(0<ar x l1 l2/\ar x h1 h2<=0)) :
 ∃ε,RootU (ad [c] (bH [1] (fs.map aB))) l1 l2 h1 h2 ε (λx1 x2=>0<ar s x1 x2):=by
 have hS:∀x∈aM fs,Spt x:=λx hx=>kG hF hx
 have hs:Spt s:=hS s (by rw[hsp];simp);have ho:∀x∈pre++post,Spt x:=λx hx=>hS x (by rw[hsp];simp at hx ⊢;rcases hx with h |h<;>simp[h])
 have val:∀x1 x2,0<x2->l1*x2<x1*l2->x1*h2<=h1*x2->sg (hv x1 x2 (ad [c] (bH [1] (fs.map aB))))=sg c*spr h1 h2 (pre++post) * -ar s x1 x2:=λx1 x2 x2p a b=>by
  rw[qZ x2p hF,hsp,m8];show sg c*(spr x1 x2 pre*(-ar s x1 x2*spr x1 x2 post))=_;have e:spr x1 x2 (pre++post)=spr h1 h2 (pre++post):=vP λy hy=>(wa (ho y hy) l2p h2p x2p lt (hno y hy) a b).1
  rw[<- e,m8];grind
 have hu:=vO (t:=h1) (n:=h2) (ls:=pre++post) λy hy=>(wa (ho y hy) l2p h2p h2p lt (hno y hy) lt (NY _)).2
 have hsg:sg c=1\/sg c = -1:=by
  rcases Pa hc with z |z
  ·right;unfold sg;rw[if_pos z]
  ·left;unfold sg;rw[if_neg (by omega),if_pos z]
 have e1:sg c*spr h1 h2 (pre++post)=1\/sg c*spr h1 h2 (pre++post) = -1:=by rcases hsg with z |z<;>rcases hu with y |y<;>rw[z,y]<;>decide
 generalize sg c*spr h1 h2 (pre++post)=ε at val e1
 refine⟨ε,e1,λx1 x2 x2p a b hU=>?_,λx1 x2 x2p a b hU=>?_,λx1 x2 y1 y2 x2p y2p a b hU hlt=>?_,λx1 x2 y1 y2 x2p y2p e hU=>?_,hin.1,λz=>?_⟩
 ·rw[val x1 x2 x2p a b];rcases iG s x1 x2 with z |z |z
  ·rw[z];omega
  ·rw[z]at hU;exact absurd hU (by decide)
  ·rw[z]at hU;exact absurd hU (by decide)
 ·rw[val x1 x2 x2p a b];rcases iG s x1 x2 with z |z |z
  ·exact absurd (show 0<ar s x1 x2 by omega) hU
  ·rw[z];right;omega
  ·rw[z];left;omega
 ·have hU':ar s x1 x2<=0:=Int.not_lt.mp hU;have z:=gb hs x2p y2p hlt hU'
  have a':l1*y2<y1*l2:=by
   refine mv x2p ?_;have q1:=NM a y2p;have q2:=NM hlt l2p;have e2:l1*y2*x2=l1*x2*y2:=by grind
   have e3:x1*l2*y2=x1*y2*l2:=by grind
   have e4:y1*l2*x2=y1*x2*l2:=by grind
   omega
  rw[val y1 y2 y2p a' b,z];omega
 ·show 0<ar s y1 y2;rw[<- nK s x2p y2p e];exact hU
 ·have z':0<ar s h1 h2:=z;omega
noncomputable def gH(f0:List Int):List Int:=if cf f0 1=0 then aB f0 else[]
structure Nar1(fs:List (List Int))(s0:List Int)(l1 l2 h1 h2 x1 x2 y1 y2:Int)(kb:Nat):Prop where
 ends:EndsG 1774 x1 x2 y1 y2
 ux:0<ar s0 x1 x2
 uy:ar s0 y1 y2<=0
 lo:l1*x2<=x1*l2
 hi:y1*h2<=h1*y2
 wide:(y1*x2-x1*y2)*(8*ap (prQ fs)*2^kb)<=1*(x2*y2)
def qw(C:Addr):Sp:=λvs H Q _=>∃(a p x y:Addr) (fs:List (List Int)) (f0 s0:List Int) (l1 l2 h1 h2 x1 x2 y1 y2:Int) (kb:Nat),vs=[.ref a,.ref p]/\H a=some (.lst ((prQ fs).map V.int))/\H p=some (.tup [.ref x,.ref y])/\RA C H x x1 x2/\RA C H y y1 y2/\Whl fs/\OneS fs f0 s0 l1 l2 h1 h2/\Nar1 fs s0 l1 l2 h1 h2 x1 x2 y1 y2 kb/\mkL H Q (gH f0)
theorem EA{C f:Addr}{fd:FuncData}(F:Fun K "line_of" "line_of" je f fd)(T:Txt K mg)(R:RCI K mg C){cw:Addr}{cv:FuncData}{cx:List Value}(cz:KCal P w K mg base 2 C "Ratio" ["self","top","bottom"] (cP C) cw cv cx [.int 1]){Jf:Addr}{Im:FuncData}(Mf:Cal P w K mg base 5 "times_floor" ["factor","ratio"] (qb C) Jf Im){tR:Addr}{tf:FuncData}(vh:MCal P w K mg base 2 C "against" ["self","other"] (nG C) tR tf){gY:Addr}{gS:FuncData}(iq:Cal P w K mg base 2 "sign_at" ["row","ratio"] (iD C) gY gS):FnOk P w K mg base CX0 6 f fd ["whole","span"] (qw C):=by
 obtain⟨ci,cg,bZ,cy,du,dm⟩:=cz;obtain⟨Lz,Ga,GY,Kw⟩:=Mf;obtain⟨uP,rG,uz⟩:=vh;obtain⟨ij,gD,gJ,ic⟩:=iq;refine F.ok sc_line_of (λvs H Q E h=>?_) (λcdv A outer s H vs Q E hr h=>?_)
 ·obtain⟨a,p,x,y,fs,f0,s0,l1,l2,h1,h2,x1,x2,y1,y2,kb,rfl,_⟩:=h;rfl
 ·obtain⟨a,p,x,y,fs,f0,s0,l1,l2,h1,h2,x1,x2,y1,y2,kb,rfl,hA,hp,hx,hy,hW,hO,hN,k⟩:=h
  refine⟨_,(af (aj (i:=2) sc_line_of.nd rfl (Or.inl rfl) (cM cg ci (hr.mono) rfl bZ cy .nil ai (aa (am Lz (hr.mono) rfl Ga GY Kw .nil ai (aa (aG (bK (K:=K) rfl) (pv 0) (bY bT ae) (λ_ _=>rfl)) (aa (aG (aV (K:=K) rfl) (pv 1) ae (λ_ _=>rfl)) ac))) (aa (aG (bK (K:=K) rfl) (pv 0) (bY bT ae) (λ_ _=>rfl)) ac))))
   (af (aO (PW.pt (fA (aH dD (fD (pv 2) R.cl rG uP (hr.mono) uz .nil ai (aa (aG (aV (K:=K) rfl) (pv 1) ae (λ_ _=>rfl)) ac)) ae (aC _)) (fz (aH df (am ij (hr.mono) rfl gD gJ ic .nil ai (aa (pv 0) (aa (pv 2) ac))) ae (aC _)))))
     (ah (aw (aT (aa (bY bT (aJ (K:=K) rfl (pv 2) rfl)) (aa (aJ (K:=K) rfl (pv 2) rfl) ac)))))
     aP)
   (ah (aw (aT ac))))),?_⟩
  have big:=sizeLine_eq;have en:=hN.ends;have hb:=hW.bits;have hP:=hW.fam.pln;have l7:=hW.l7;have bl:=rY hb;have lp:=hP.pos;have B1:(1:Int)<=2^kb:=by have:=Od (n:=2) (m:=kb) (by decide);omega
  refine av ⟨_,rfl,_,rfl,a,_,_,_,rfl,rfl,SqL.of hA,oN hP.ne,_,rfl,p,_,_,_,rfl,rfl,SqT.of hp,rfl,y,ap (prQ fs),y1,y2,rfl,hy,en.h2p,bl.mono,en.bh1.mono,en.bh2.mono,λH1 s1=>?_⟩;have bm:Bits 2300 (ap (prQ fs)*y1/y2):=Bits.of_le ((bl.mul en.bh1).mono (k:=2300) (by decide)) (Int.natAbs_ediv_le_natAbs _ _);have l0:ap (prQ fs)≠0:=by omega
  have two:(gH f0=[-(rt (ap (prQ fs)*y1/y2) (ap (prQ fs))),rb (ap (prQ fs)*y1/y2) (ap (prQ fs))]/\x1*rb (ap (prQ fs)*y1/y2) (ap (prQ fs))<rt (ap (prQ fs)*y1/y2) (ap (prQ fs))*x2/\hv (rt (ap (prQ fs)*y1/y2) (ap (prQ fs))) (rb (ap (prQ fs)*y1/y2) (ap (prQ fs))) (prQ fs)=0)\/(gH f0=[]/\(x1*rb (ap (prQ fs)*y1/y2) (ap (prQ fs))<rt (ap (prQ fs)*y1/y2) (ap (prQ fs))*x2->hv (rt (ap (prQ fs)*y1/y2) (ap (prQ fs))) (rb (ap (prQ fs)*y1/y2) (ap (prQ fs))) (prQ fs)≠0)):=by
   obtain⟨u,e,b,σ,rfl,rfl,hb1,hNS,hc⟩:=hO.cases;rcases hc with⟨rfl,rfl⟩ |⟨hσ,he⟩
   ·left;have e0:gH [u,0,b]=aB [u,0,b]:=if_pos rfl;rw[e0];exact hO.line en.l2p en.h2p B1 hN.ux hN.uy en.lt hN.wide
   ·right;refine⟨if_neg (show ¬e=0 by omega),λhlt=>?_⟩;have hpos:=d9 (t:=ap (prQ fs)*y1/y2) l0;have hc:=gu (t:=ap (prQ fs)*y1/y2) l0;have hfl:ap (prQ fs)*y1/y2*y2<=ap (prQ fs)*y1:=Int.ediv_mul_le _ (by have:=en.h2p;omega);generalize rt (ap (prQ fs)*y1/y2) (ap (prQ fs))=m1 at *
    generalize rb (ap (prQ fs)*y1/y2) (ap (prQ fs))=m2 at *
    generalize ap (prQ fs)*y1/y2=Z at *
    have my:m1*y2<=y1*m2:=by
     refine kj lp ?_;have:=Nw hfl (M7 hpos);have e1:m1*y2*ap (prQ fs)=Z*y2*m2:=by rw[Int.mul_right_comm,hc];grind
     have e2:y1*m2*ap (prQ fs)=ap (prQ fs)*y1*m2:=by grind
     omega
    refine hO.none rfl hNS he hpos ?_ ?_
    ·refine mv en.l2p ?_;have q1:=Nw hN.lo (M7 hpos);have q2:=NM hlt hO.l2p;have e1:l1*m2*x2=l1*x2*m2:=by grind
     have e2:x1*l2*m2=x1*m2*l2:=by grind
     have e3:m1*l2*x2=m1*x2*l2:=by grind
     omega
    ·refine kj en.h2p ?_;have q1:=Nw hN.hi (M7 hpos);have q2:=Nw my (M7 hO.h2p);have e1:m1*h2*y2=m1*y2*h2:=by grind
     have e2:y1*m2*h2=y1*h2*m2:=by grind
     have e3:h1*m2*y2=h1*y2*m2:=by grind
     omega
  generalize ap (prQ fs)*y1/y2=m at bm two ⊢
  refine⟨_,rfl,_,rfl,a,_,_,_,rfl,rfl,SqL.of (s1 _ _ hA),oN hP.ne,dj l0 (bl.mono) λr H2 s2 hr2 hR=>?_⟩;have t2:=s1.trans s2;obtain⟨dr,hR'⟩:=id hR
  have sgl:∀c d:Int,sg (c-d)>0↔d<c:=λc d=>by unfold sg;split<;>(try split)<;>constructor<;>intro z<;>omega
  refine bF (gm ⟨_,rfl,r,dr,_,rfl,hR',gQ _ _ om.1 om.2,_,rfl,p,_,_,_,rfl,rfl,SqT.of (t2 _ _ hp),rfl,r,x,_,_,x1,x2,rfl,hR,hx.same t2,(jP l0 bm).mono,(gt l0 bl).mono,en.bl1.mono,en.bl2.mono,_,_,rfl,rfl,_,rfl,aX (λh0=>?_) (λh0=>?_)⟩)
  ·have h0':=(sgl _ _).mp h0;refine⟨_,rfl,_,rfl,a,r,prQ fs,_,_,⟨rfl,t2 _ _ hA,hR,by omega,hb.mono,(jP l0 bm).mono,(gt l0 bl).mono⟩,λH3 s3=>⟨_,_,rfl,rfl,_,rfl,aX (λh3=>?_) (λh3=>?_)⟩⟩
   ·have h3':sg (hv (rt m (ap (prQ fs))) (rb m (ap (prQ fs))) (prQ fs))=0:=h3;rcases two with⟨z1,_,_⟩ |⟨_,z2⟩
    ·have hR3:=s3 _ _ hR';refine aZ ⟨_,rfl,r,C,dr,_,_,rfl,hR3,R.cl,R.nT,cu _ _,_,rfl,_,rfl,r,C,dr,_,_,rfl,hR3,R.cl,R.nB,bn _ _,by show 2<=sizeLine;omega,λq hq=>?_⟩;refine k q _ ((t2.trans s3).then_new hq) ((t2.trans s3).free hq) ?_;rw[ao,z1];rfl
    ·exact absurd ((qK _).mp h3') (z2 h0')
   ·rcases two with⟨_,_,z3⟩ |⟨z1,_⟩
    ·exact absurd ((qK _).mpr z3) h3
    ·exact aZ ⟨M9 _,λq hq=>k q _ ((t2.trans s3).then_new hq) ((t2.trans s3).free hq) (by rw[ao,z1];rfl)⟩
  ·rcases two with⟨_,z2,_⟩ |⟨z1,_⟩
   ·exact absurd ((sgl _ _).mpr z2) h0
   ·exact bQ (aZ ⟨M9 _,λq hq=>k q _ (t2.then_new hq) (t2.free hq) (by rw[ao,z1];rfl)⟩)
theorem CV{fs:List (List Int)}{l1 l2 h1 h2:Int}(hF:Fam fs)(l2p:0<l2)(h2p:0<h2)(lt:l1*h2<h1*l2)(h:bh (aM fs) l1 l2 h1 h2=1):∃s ε,s∈aM fs/\0<ar s l1 l2/\ar s h1 h2<=0/\RootU (prQ fs) l1 l2 h1 h2 ε (λt n=>0<ar s t n):=by obtain⟨pre,s,post,e,hin,hno⟩:=px h;obtain⟨ε,hr⟩:=CS (c:=1) hF.q (by decide) e l2p h2p lt hin hno;rw[show ad [1] (bH [1] (fs.map aB))=prQ fs from hF.one]at hr;exact⟨s,ε,by rw[e];simp,hin.1,hin.2,hr⟩
theorem BU{f:List Int}(h:FacG f):AllB 62 (aB f)/\(aB f).length<=3:=by
 obtain⟨u,e,b,rfl,h1,h2,h3,h4,h5,h6,_⟩:=h;have sm:∀{x:Int} {n:Nat},x.natAbs<n->n<=2^62->Bits 62 x:=λh1 h2=>Nl h1 h2
 have hr:AllB 62 (aI u e b)/\(aI u e b).length<=3:=by
  unfold aI;split
  ·refine⟨λx hx=>?_,by show 2<=3;decide⟩;rcases Nd.mp hx with rfl |hx
   ·exact sm (n:=1000000001) (by omega) (by decide)
   ·rw[Nf.mp hx];exact sm (n:=1001) (by omega) (by decide)
  ·refine⟨λx hx=>?_,M0 _⟩;have u1:u.natAbs<=1000000000:=by omega
   have uu:(u*u).natAbs<=1000000000*1000000000:=by rw[Ni];exact Nat.mul_le_mul u1 u1
   have bu:(b*u).natAbs<=1000*1000000000:=by rw[Ni];exact Nat.mul_le_mul (by omega) u1
   have bb:(b*b).natAbs<=1000*1000:=by rw[Ni];exact Nat.mul_le_mul (by omega) (by omega)
   have e2 : -2*b*u = -2*(b*u):=NG _ _ _;rw[e2]at hx;generalize u*u=A at *
   generalize b*u=B at *
   generalize b*b=D at *
   rcases Nd.mp hx with rfl |hx
   ·exact sm (n:=2000000000000000000) (by omega) (by decide)
   rcases Nd.mp hx with rfl |hx
   ·exact sm (n:=2000000000001) (by omega) (by decide)
   ·rw[Nf.mp hx];exact sm (n:=1000001) (by omega) (by decide)
 exact⟨rc hr.1,by show(ay _).length<=3;rw[RM.plain_len];exact hr.2⟩
def dZ:Sp:=λ_ _ _ _=>False
theorem EQ{f:Addr}{fd:FuncData}(F:Fun K "cells" "cells" jq f fd)(T:Txt K mg):FnOk P w K mg base CX0 1 f fd ["row"] dZ:=F.ok Co (λ_ _ _ _ h=>h.elim) (λ_ _ _ _ _ _ _ _ _ h=>h.elim)
theorem Ed{f:Addr}{fd:FuncData}(F:Fun K "square_of" "square_of" iN f fd)(T:Txt K mg):FnOk P w K mg base CX0 1 f fd ["whole","span","other"] dZ:=F.ok Cc (λ_ _ _ _ h=>h.elim) (λ_ _ _ _ _ _ _ _ _ h=>h.elim)
theorem EG{f:Addr}{fd:FuncData}(F:Fun K "divides" "divides" jj f fd)(T:Txt K mg):FnOk P w K mg base CX0 1 f fd ["divisor","row"] dZ:=F.ok Ck (λ_ _ _ _ h=>h.elim) (λ_ _ _ _ _ _ _ _ _ h=>h.elim)
def qu(C:Addr):Sp:=λvs H Q _=>∃(a l h:Addr) (fs:List (List Int)) (f0 s0:List Int) (l1 l2 h1 h2:Int),vs=[.ref a,.ref l,.ref h]/\H a=some (.lst ((prQ fs).map V.int))/\RA C H l l1 l2/\RA C H h h1 h2/\Whl fs/\OneS fs f0 s0 l1 l2 h1 h2/\bh (aM fs) l1 l2 h1 h2=1/\EndsG 250 l1 l2 h1 h2/\cf f0 1=0/\mkL H Q (aB f0)
theorem EB{C f:Addr}{fd:FuncData}(F:Fun K "least" "least" jf f fd)(T:Txt K mg){ma:Addr}{lV:FuncData}(mL:Cal P w K mg base 34 "plain" ["row"] kK ma lV){g7:Addr}{gU:FuncData}(iu:Cal P w K mg base 1 "degree" ["row"] iE g7 gU){Jz:Addr}{IK:FuncData}(MB:Cal P w K mg base 4 "fine_width" ["whole"] (qz C) Jz IK){tF:Addr}{sR:FuncData}(uX:Cal P w K mg base 6 "narrowed" ["row","low","high","width"] (nu C) tF sR){Jv:Addr}{IG:FuncData}(Mw:Cal P w K mg base 6 "line_of" ["whole","span"] (qw C) Jv IG){JD:Addr}{IP:FuncData}(MF:Cal P w K mg base 1 "cells" ["row"] dZ JD IP){Ji:Addr}{Ir:FuncData}(Mi:Cal P w K mg base 1 "square_of" ["whole","span","other"] dZ Ji Ir){JA:Addr}{IL:FuncData}(MC:Cal P w K mg base 1 "divides" ["divisor","row"] dZ JA IL){tG:Addr}{sS:FuncData}(uY:Cal P w K mg base 4 "count" ["row","low","high"] (nE C) tG sS){tE:Addr}{sQ:FuncData}(uW:Cal P w K mg base 35 "row_of" ["polynomial"] nj tE sQ):FnOk P w K mg base CX0 37 f fd ["row","low","high"] (qu C):=by
 obtain⟨io,gF,gL,ig⟩:=mL;obtain⟨dJ,dG,dH,dI⟩:=iu;obtain⟨LU,Gu,Hg,KS⟩:=MB;obtain⟨pG,oH,oP,pD⟩:=uX;obtain⟨LP,Gp,Hc,KO⟩:=Mw;obtain⟨LX,Gx,Hj,KW⟩:=MF;obtain⟨LC,Gd,G1,Kz⟩:=Mi;obtain⟨LV,Gv,Hh,KT⟩:=MC;obtain⟨uM,rS,sj,ut⟩:=uY;obtain⟨uK,rQ,sh,ur⟩:=uW;refine F.ok sc_least (λvs H Q E h=>?_) (λcdv A outer s H vs Q E hr h=>?_)
 ·obtain⟨a,l,h,fs,f0,s0,l1,l2,h1,h2,rfl,_⟩:=h;rfl
 ·obtain⟨a,l,h,fs,f0,s0,l1,l2,h1,h2,rfl,hA,hl,hh,hW,hO,hcn,en,hlin,k⟩:=h;have hu:=hr.units;have big:=sizeLine_eq;have hF:=hW.fam;have hP:=hF.pln;have l7:=hW.l7;have l2':=hW.l2;have hml:((prQ fs).map V.int).length=(prQ fs).length:=MZ _;have pf0:=gW (hF.fac f0 hO.mem);have hL:=hP.pos
  refine⟨_,(af (aj (i:=3) sc_least.nd rfl (Or.inl rfl) (am io (hr.mono) rfl gF gL ig .nil ai (aa (pv 0) ac)))
   (af (aO (aH dc (am dJ (hr.mono) rfl dG dH dI .nil ai (aa (pv 3) ac)) ae (aC _))
     (ah (aw (pv 3)))
     aP)
   (af (aj (i:=4) sc_least.nd rfl (Or.inl rfl) (am LU (hr.mono) rfl Gu Hg KS .nil ai (aa (pv 3) ac)))
   (af (aj (i:=5) sc_least.nd rfl (Or.inl rfl) (am pG (hr.mono) rfl oH oP pD .nil ai (aa (pv 3) (aa (pv 1) (aa (pv 2) (aa (pv 4) ac))))))
   (af (aj (i:=6) sc_least.nd rfl (Or.inl rfl) (am LP (hr.mono) rfl Gp Hc KO .nil ai (aa (pv 3) (aa (pv 5) ac))))
   (af (aO (aH (jX (K:=K) rfl hu) (pv 6) (aT ac) (aC _))
     (ah (aw (pv 6)))
     aP)
   (af (aO (aH df (am dJ (hr.mono) rfl dG dH dI .nil ai (aa (pv 3) ac)) ae (aC _))
     (ah (aw (pv 3)))
     aP)
   (af (ck PassesOwn.never rfl (dA (K:=K) rfl (am LX (hr.mono) rfl Gx Hj KW .nil ai (aa (pv 3) ac))) (aU (i:=7) sc_least.nd rfl (Or.inl rfl))
     (af (aj (i:=8) sc_least.nd rfl (Or.inl rfl) (am LC (hr.mono) rfl Gd G1 Kz .nil ai (aa (pv 3) (aa (pv 5) (aa (am pG (hr.mono) rfl oH oP pD .nil ai (aa (pv 3) (aa (aG (aV (K:=K) rfl) (pv 7) ae (λ_ _=>rfl)) (aa (aG (aV (K:=K) rfl) (pv 7) ae (λ_ _=>rfl)) (aa (pv 4) ac))))) ac)))))
       (ah (aO (PW.pt (fA (db (am LV (hr.mono) rfl Gv Hh KT .nil ai (aa (pv 8) (aa (pv 3) ac)))) (fz (aH df (am uM (hr.mono) rfl rS sj ut .nil ai (aa (am uK (hr.mono) rfl rQ sh ur .nil ai (aa (pv 8) ac)) (aa (pv 1) (aa (pv 2) ac)))) ae (aC _)))))
         (ah (aw (pv 8)))
         aP))))
   (ah (aw (pv 3))))))))))),?_⟩
  refine av ⟨_,rfl,a,prQ fs,rfl,hA,hP.tr,by omega,λp H1 s1 hp e1=>?_⟩;rw[hP.plain]at e1;refine bF ⟨_,rfl,p,_,rfl,e1,_,_,rfl,rfl,_,rfl,aX (λh0=>?_) (λh0=>?_)⟩
  ·have h0':((prQ fs).map V.int).length-(1:Int)<2:=h0;rw[hml]at h0';have e:=AL hF hO.mem (by have:=pf0.two;omega);rw[e]at e1;exact⟨_,rfl,k p H1 s1 hp e1⟩
  refine av ⟨_,rfl,p,fs,rfl,e1,hW,λwd H2 kb hk hB s2 hwd hWd hD bD=>?_⟩;have t2:=s1.trans s2;have e2:=s2 _ _ e1;obtain⟨sx,ε,hsx,hx1,hx2,ru⟩:=CV hF en.l2p en.h2p en.lt hcn;obtain rfl:=hO.only sx hsx hx1 hx2;refine av ⟨_,rfl,_,rfl,_,rfl,_,rfl,p,l,h,wd,prQ fs,l1,l2,h1,h2,1,8*ap (prQ fs)*2^kb,250,520,ε,_,rfl,e2,hP.tr,hP.ne,by omega,hW.bits.mono,hl.same t2,hh.same t2,hWd,en,by decide,hD,b1k (by decide),bD,by decide,by decide,by decide,ru,λps x y H3 n pl x1 x2 y1 y2 s3 hps e3 hx hy nar=>?_⟩;have t3:=t2.trans s3;have ep3:=s3 _ _ e2;have N1:Nar1 fs sx l1 l2 h1 h2 x1 x2 y1 y2 kb:=⟨nar.ends,nar.ux,Int.not_lt.mp nar.uy,nar.lo,nar.hi,nar.wide⟩;refine av ⟨_,rfl,_,rfl,p,ps,x,y,fs,f0,sx,l1,l2,h1,h2,x1,x2,y1,y2,kb,rfl,ep3,e3,hx,hy,hW,hO,N1,λpl' H4 s4 hpl e4=>?_⟩;refine bF ⟨_,rfl,M9 _,λp0 hp0=>?_⟩;have s5:=Same.upd_new (o:=.lst []) hp0;obtain⟨u,e,b,σ,rfl,rfl,hb1,hNS,hc⟩:=hO.cases;have hne:aB [u,e,b]≠[]:=pf0.pln.ne;refine⟨pl',p0,gH [u,e,b],[],rfl,rfl,SqL.of (s5 _ _ e4),SqL.of ao,_,rfl,cG (λh3=>?_) (λh3=>?_)⟩
  ·have h3':gH [u,e,b]≠[]:=h3
   have e0:gH [u,e,b]=aB [u,e,b]:=by
    by_cases z:e=0
    ·exact if_pos z
    ·exact absurd (if_neg z) h3'
   rw[e0]at e4;exact⟨_,rfl,k pl' _ (t3.trans (s4.trans s5)) (t3.free hpl) (s5 _ _ e4)⟩
  exact absurd (show aB [u,e,b]=[]from(if_pos (show cf [u,e,b] 1=0 from hlin)).symm.trans h3) hne
structure OneW(fs:List (List Int))(f0 s0:List Int)(l1 l2 h1 h2:Int):Prop where
 whl:Whl fs
 one:OneS fs f0 s0 l1 l2 h1 h2
 cnt:bh (aM fs) l1 l2 h1 h2=1
 en:EndsG 250 l1 l2 h1 h2
 lin:cf f0 1=0
def qp(C CN:Addr):Sp:=λvs H Q _=>∃(a l h:Addr) (fs:List (List Int)) (f0 s0:List Int) (l1 l2 h1 h2:Int),vs=[.ref a,.ref l,.ref h]/\H a=some (.lst ((prQ fs).map V.int))/\RA C H l l1 l2/\RA C H h h1 h2/\OneW fs f0 s0 l1 l2 h1 h2/\∀(x q:Addr) (H':Hp),Same H H'->H x=none->NA CN H' x q l h->H' q=some (.lst ((aB f0).map V.int))->H q=none->Q (.ref x) H'
theorem Et{C CN f:Addr}{fd:FuncData}(F:Fun K "number_in" "number_in" i7 f fd)(T:Txt K mg)(R:RCI K mg C){Jw:Addr}{IH:FuncData}(Mx:Cal P w K mg base 37 "least" ["row","low","high"] (qu C) Jw IH){gY:Addr}{gS:FuncData}(iq:Cal P w K mg base 2 "sign_at" ["row","ratio"] (iD C) gY gS){tF:Addr}{sR:FuncData}(uX:Cal P w K mg base 6 "narrowed" ["row","low","high","width"] (nu C) tF sR){tQ:Addr}{s9:FuncData}(vg:MCal P w K mg base 4 C "minus" ["self","other"] (nv C) tQ s9){mf:Addr}{lZ:FuncData}(mP:MCal P w K mg base 4 C "times" ["self","other"] (kJ C) mf lZ){cw:Addr}{cv:FuncData}{cx:List Value}(cz:KCal P w K mg base 2 C "Ratio" ["self","top","bottom"] (cP C) cw cv cx [.int 1]){JQ:Addr}{Ja:FuncData}{JZ:List Value}(MS:KCal P w K mg base 1 CN "Number" ["self","row","low","high"] (nC CN) JQ Ja JZ []):FnOk P w K mg base CX0 38 f fd ["simple","low","high"] (qp C CN):=by
 obtain⟨LQ,Gq,Hd,KP⟩:=Mx;obtain⟨ij,gD,gJ,ic⟩:=iq;obtain⟨pG,oH,oP,pD⟩:=uX;obtain⟨uO,rF,uw⟩:=vg;obtain⟨mK,lA,mE⟩:=mP;obtain⟨ci,cg,bZ,cy,du,dm⟩:=cz;obtain⟨Mb,Lv,GG,Lb,MY,MX⟩:=MS;refine F.ok sc_number_in (λvs H Q E h=>?_) (λcdv A outer s H vs Q E hr h=>?_)
 ·obtain⟨a,l,h,fs,f0,s0,l1,l2,h1,h2,rfl,_⟩:=h;rfl
 ·obtain⟨a,l,h,fs,f0,s0,l1,l2,h1,h2,rfl,hA,hl,hh,hN,k⟩:=h
  refine⟨_,(af (aj (i:=3) sc_number_in.nd rfl (Or.inl rfl) (am LQ (hr.mono) rfl Gq Hd KP .nil ai (aa (pv 0) (aa (pv 1) (aa (pv 2) ac)))))
   (af (aj (i:=4) sc_number_in.nd rfl (Or.inl rfl) (cQ (aa (pv 1) (aa (pv 2) ac))))
   (af (fB PassesOwn.never (aH df (am ij (hr.mono) rfl gD gJ ic .nil ai (aa (pv 3) (aa (aG (aV (K:=K) rfl) (pv 4) ae (λ_ _=>rfl)) ac))) ae (aC _))
     (af (aj (i:=5) sc_number_in.nd rfl (Or.inl rfl) (fD (fD (aG (aV (K:=K) rfl) (pv 4) ae (λ_ _=>rfl)) R.cl rF uO (hr.mono) uw .nil ai (aa (aG (aV (K:=K) rfl) (pv 4) ae (λ_ _=>rfl)) ac)) R.cl lA mK (hr.mono) mE .nil ai (aa (cM cg ci (hr.mono) rfl bZ cy .nil ai (aa ae (aa ae ac))) ac)))
       (ah (aj (i:=4) sc_number_in.nd rfl (Or.inl rfl) (am pG (hr.mono) rfl oH oP pD .nil ai (aa (pv 3) (aa (aG (aV (K:=K) rfl) (pv 4) ae (λ_ _=>rfl)) (aa (aG (aV (K:=K) rfl) (pv 4) ae (λ_ _=>rfl)) (aa (pv 5) ac)))))))))
   (ah (aw (cM Lv Mb (hr.mono) rfl GG Lb .nil ai (aa (pv 3) (aa (aG (aV (K:=K) rfl) (pv 4) ae (λ_ _=>rfl)) (aa (aG (aV (K:=K) rfl) (pv 4) ae (λ_ _=>rfl)) ac))))))))),?_⟩
  obtain⟨bS,lS⟩:=BU (hN.one.fam.fac f0 hN.one.mem);refine av ⟨_,rfl,_,rfl,_,rfl,a,l,h,fs,f0,s0,l1,l2,h1,h2,rfl,hA,hl,hh,hN.whl,hN.one,hN.cnt,hN.en,hN.lin,λp H1 s1 hp e1=>?_⟩;refine av ⟨_,rfl,_,rfl,by show 2<=sizeLine;decide,λps hps=>?_⟩;have s2:=s1.then_new (o:=.tup [V.ref l,V.ref h]) hps;have q2:upd H1 ps (.tup [V.ref l,V.ref h]) ps=some (.tup [V.ref l,V.ref h]):=ao;have e2:=(Same.upd_new (o:=.tup [V.ref l,V.ref h]) hps) _ _ e1;generalize upd H1 ps (.tup [V.ref l,V.ref h])=H2 at s2 q2 e2 ⊢
  refine⟨λm σ' H'=>m=0/\(∃z5:Option V,σ'=[some (.ref a),some (.ref l),some (.ref h),some (.ref p),some (.ref ps),z5])/\H2=H',⟨0,rfl,⟨none,rfl⟩,rfl⟩,?_⟩;rintro m σ' H' ⟨rfl,⟨z5,rfl⟩,rfl⟩;refine⟨_,rfl,_,rfl,ps,_,_,_,rfl,rfl,SqT.of q2,rfl,p,l,aB f0,l1,l2,⟨rfl,e2,hl.same s2,by omega,bS.mono,hN.en.bl1.mono,hN.en.bl2.mono⟩,λH3 s3=>⟨_,_,rfl,rfl,_,rfl,aX (λh0=>absurd h0 hN.one.low) (λ_=>?_)⟩⟩;have q3:=s3 _ _ q2;have e3:=s3 _ _ e2;have t3:=s2.trans s3;dsimp only
  refine aZ ⟨_,rfl,_,rfl,ps,_,_,_,rfl,rfl,SqT.of q3,rfl,_,rfl,ps,_,_,_,rfl,rfl,SqT.of q3,rfl,FX e3 λx q H4 s4 hx hNA hq hqn=>?_⟩;exact k x q H4 (t3.trans s4) (t3.free hx) hNA hq (t3.free hqn)
def XV(C:Addr)(att:Str)(v:Int)(H:Hp)(E:XK):Prop:=∀(H':Hp) (dx:Addr),Same H H'->H' dx=some (.xd [(att,V.int v)])->E (.ref C) (some dx) H'
theorem XV.step{C:Addr}{att:Str}{v:Int}{H H1:Hp}{E:XK}(h:XV C att v H E)(s:Same H H1):XV C att v H1 E:=λH' dx s' e=>h H' dx (s.trans s') e
theorem Fb{CTooHigh f:Addr}{fd:FuncData}(F:Fun K "__init__" "TooHigh.__init__" jF f fd)(T:Txt K mg)(hX:XCls K CTooHigh)(hN:NoAttr K CTooHigh "degree"):FnOk P w K mg base CX0 1 f fd ["self","degree"] (kH CTooHigh "degree"):=by
 refine F.ok Cv (λvs H Q E h=>?_) (λcdv A outer s H vs Q E hr h=>?_)
 ·obtain⟨e,v,rfl,_⟩:=h;rfl
 ·obtain⟨e,v,rfl,he,k⟩:=h;refine⟨_,(ah (wX (pv 0) (pv 1) rfl)),?_⟩;exact⟨_,rfl,_,rfl,e,CTooHigh,rfl,he,hX,hN,λdx h1 h2=>k dx h1 h2⟩
theorem Fj{CNoRoot f:Addr}{fd:FuncData}(F:Fun K "__init__" "NoRoot.__init__" jN f fd)(T:Txt K mg)(hX:XCls K CNoRoot)(hN:NoAttr K CNoRoot "many"):FnOk P w K mg base CX0 1 f fd ["self","many"] (kH CNoRoot "many"):=by
 refine F.ok CD (λvs H Q E h=>?_) (λcdv A outer s H vs Q E hr h=>?_)
 ·obtain⟨e,v,rfl,_⟩:=h;rfl
 ·obtain⟨e,v,rfl,he,k⟩:=h;refine⟨_,(ah (wX (pv 0) (pv 1) rfl)),?_⟩;exact⟨_,rfl,_,rfl,e,CNoRoot,rfl,he,hX,hN,λdx h1 h2=>k dx h1 h2⟩
def qg(CT:Addr):Sp:=λvs H Q E=>∃i:Int,vs=[.int i]/\(i<=8->Q .non H)/\(8<i->XV CT "degree" i H E)
theorem En{CTooHigh f:Addr}{fd:FuncData}(F:Fun K "refuse_high" "refuse_high" iW f fd)(T:Txt K mg){tO:Addr}{sZ:FuncData}(C_TooHigh:XCal P w K mg base 1 CTooHigh "TooHigh" "degree" ["self","degree"] tO sZ):FnOk P w K mg base (CXV P w) 3 f fd ["height"] (qg CTooHigh):=by
 obtain⟨tH,hHIGHEST⟩:=T.HIGHEST_;refine F.okV Ch (λvs H Q E h=>?_) (λcdv A outer s H vs Q E hr h=>?_)
 ·obtain⟨i,rfl,_⟩:=h;rfl
 ·obtain⟨i,rfl,k1,k2⟩:=h
  refine⟨_,(ah (aO (aH dD (pv 0) (lw (v:=.int 8) rfl hHIGHEST ⟨_,rfl⟩) (aC _))
   (ah (qY (C:=CTooHigh) rfl C_TooHigh.ow PySem.F.excBase_ValueError C_TooHigh.ok (hr.mono) C_TooHigh.bd C_TooHigh.kp (aa (pv 0) ac)))
   aP)),?_⟩
  refine fx ⟨_,rfl,_,_,rfl,rfl,_,rfl,aX (λh=>?_) (λh=>?_)⟩
  ·have h':i>8:=h;exact⟨_,rfl,_,rfl,λd hd=>k2 (by omega) _ d (Same.upd_new hd) ao⟩
  ·have h':¬i>8:=h;exact k1 (by omega)
theorem yu{os:List Int}{l k k':Nat}(h:isB os l k)(h':isB os l k'):k=k':=by
 rcases Nat.lt_trichotomy k k' with z |z |z
 ·obtain⟨x,hx,hl⟩:=h'.2 k z;have:=h.1 x hx;omega
 ·exact z
 ·obtain⟨x,hx,hl⟩:=h.2 k' z;have:=h'.1 x hx;omega
def NbE(C:Addr)(H:Hp)(lo:V)(d l1 l2:Int):Prop:=(lo=.non/\l1=d/\l2=1)\/∃p,lo=.ref p/\RA C H p l1 l2
def nr(C CN CR CT:Addr):Sp:=λvs H Q E=>∃(a:Addr) (lo hi:V) (kp:List Int),vs=[.ref a,lo,hi]/\H a=some (.lst (kp.map V.int))/\kp.length<=1000/\(9<kp.length->XV CT "degree" (kp.length-1) H E)/\(kp.length<2->XV CR "many" 0 H E) /\
 (2<=kp.length->kp.length<=9->∃(c:Int) (us:List (List Int×Nat)) (fs:List (List Int)) (l1 l2 h1 h2:Int) (kb:Nat),Made kp c us/\flt us=prQ fs/\Whl fs/\isB (kp.take (kp.length-1)) (ap kp).natAbs kb/\NbE C H lo (-((2^kb:Nat):Int)) l1 l2/\NbE C H hi ((2^kb:Nat):Int) h1 h2/\EndB 250 l1 l2 h1 h2 /\
   (dF fs l1 l2 h1 h2≠1->XV CR "many" (dF fs l1 l2 h1 h2) H E) /\
   (dF fs l1 l2 h1 h2=1->∃f0 s0,OneW fs f0 s0 l1 l2 h1 h2/\∀(x q l h:Addr) (H':Hp),Same H H'->H x=none->NA CN H' x q l h->RA C H' l l1 l2->RA C H' h h1 h2->H' q=some (.lst ((aB f0).map V.int))->H q=none->Q (.ref x) H'))
theorem Eu{C CN CNoRoot CTooHigh f:Addr}{dV:Value}{fd:FuncData}(F:FunD K "number" "number" i8 dV f fd)(T:Txt K mg)(R:RCI K mg C){Jm:Addr}{Ix:FuncData}(Mn:CalV P w K mg base 3 "refuse_high" ["height"] (qg CTooHigh) Jm Ix){g7:Addr}{gU:FuncData}(iu:Cal P w K mg base 1 "degree" ["row"] iE g7 gU){cw:Addr}{cv:FuncData}{cx:List Value}(cz:KCal P w K mg base 2 C "Ratio" ["self","top","bottom"] (cP C) cw cv cx [.int 1]){tJ:Addr}{sU:FuncData}(u7:Cal P w K mg base 1 "bound" ["row"] (nF K) tJ sU){Jd:Addr}{Ik:FuncData}(Md:Cal P w K mg base 36 "without_squares" ["row"] pX Jd Ik){Jt:Addr}{IE:FuncData}(Mu:Cal P w K mg base 36 "many_within" ["simple","low","high"] (qq C) Jt IE){Jn:Addr}{Iy:FuncData}(Mo:Cal P w K mg base 1 "refuse_great" ["row"] qh Jn Iy){Jp:Addr}{IA:FuncData}(Mq:Cal P w K mg base 38 "number_in" ["simple","low","high"] (qp C CN) Jp IA){tT:Addr}{tj:FuncData}(C_NoRoot:XCal P w K mg base 1 CNoRoot "NoRoot" "many" ["self","many"] tT tj):FnOk P w K mg base (CXV P w) 39 f fd ["row","low","high"] (nr C CN CNoRoot CTooHigh):=by
 obtain⟨LG,Gg,G4,KE⟩:=Mn;obtain⟨dJ,dG,dH,dI⟩:=iu;obtain⟨ci,cg,bZ,cy,du,dm⟩:=cz;obtain⟨pI,oJ,oQ,pE⟩:=u7;obtain⟨Lx,FY,GW,Ku⟩:=Md;obtain⟨LN,Gn,Ha,KM⟩:=Mu;obtain⟨LH,Gh,G5,KG⟩:=Mo;obtain⟨LK,Gj,G7,KI⟩:=Mq;refine F.okV sc_number (λvs H Q E h=>?_) (λcdv A outer s H vs Q E hr h=>?_)
 ·obtain⟨a,lo,hi,kp,rfl,_⟩:=h;rfl
 ·obtain⟨a,lo,hi,kp,rfl,hA,h1000,kT,kR,kk⟩:=h;have hml:(kp.map V.int).length=kp.length:=MZ _
  refine⟨_,(af (eu (am LG (hr.mono) rfl Gg G4 KE .nil (oj (λ_ _ _ z=>z)) (aa (am dJ (hr.mono) rfl dG dH dI .nil ai (aa (pv 0) ac)) ac)))
   (af (aO (aH dc (am dJ (hr.mono) rfl dG dH dI .nil ai (aa (pv 0) ac)) ae (aC _))
     (ah (qY (C:=CNoRoot) rfl C_NoRoot.ow PySem.F.excBase_ValueError C_NoRoot.ok (hr.mono) C_NoRoot.bd C_NoRoot.kp (aa ae ac)))
     aP)
   (af (aj (i:=3) sc_number.nd rfl (Or.inl rfl) (rf (aH jY (pv 1) eG (aC _)) (cM cg ci (hr.mono) rfl bZ du dm ai (aa (bY bT (am pI (hr.mono) rfl oJ oQ pE .nil ai (aa (pv 0) ac))) ac)) (pv 1)))
   (af (aj (i:=4) sc_number.nd rfl (Or.inl rfl) (rf (aH jY (pv 2) eG (aC _)) (cM cg ci (hr.mono) rfl bZ du dm ai (aa (am pI (hr.mono) rfl oJ oQ pE .nil ai (aa (pv 0) ac)) ac)) (pv 2)))
   (af (aj (i:=5) sc_number.nd rfl (Or.inl rfl) (am Lx (hr.mono) rfl FY GW Ku .nil ai (aa (pv 0) ac)))
   (af (aj (i:=6) sc_number.nd rfl (Or.inl rfl) (am LN (hr.mono) rfl Gn Ha KM .nil ai (aa (pv 5) (aa (pv 3) (aa (pv 4) ac)))))
   (af (aO (aH fH (pv 6) ae (aC _))
     (ah (qY (C:=CNoRoot) rfl C_NoRoot.ow PySem.F.excBase_ValueError C_NoRoot.ok (hr.mono) C_NoRoot.bd C_NoRoot.kp (aa (pv 6) ac)))
     aP)
   (af (eu (am LH (hr.mono) rfl Gh G5 KG .nil ai (aa (pv 5) ac)))
   (ah (aw (am LK (hr.mono) rfl Gj G7 KI .nil ai (aa (pv 5) (aa (pv 3) (aa (pv 4) ac)))))))))))))),?_⟩
  refine kX ⟨_,rfl,a,_,rfl,hA,_,rfl,λh8=>?_,λh8=>?_⟩
  rotate_left
  ·rw[hml]at h8 ⊢;exact kT (by omega)
  rw[hml]at h8;refine bF ⟨_,rfl,a,_,rfl,hA,_,_,rfl,rfl,_,rfl,aX (λh0=>?_) (λh0=>?_)⟩
  ·have h0':((kp.map V.int).length:Int)-1<1:=h0;rw[hml]at h0';exact⟨_,rfl,λd hd=>kR (by omega) _ d (Same.upd_new hd) ao⟩
  have h0':¬((kp.map V.int).length:Int)-1<1:=h0;rw[hml]at h0';obtain⟨c,us,fs,l1,l2,h1,h2,kb,hM,hfl,hW,hB,hlo,hhi,en,kN,k1⟩:=kk (by omega) (by omega);have l7:=hW.l7;obtain⟨tW,nW,_⟩:=fk hM.use hM.c0;rw[<- hM.is]at tW nW;have bW:=hM.len.2.2.2;refine kZ (λσ' H'=>∃l:Addr,σ'=[some (.ref a),some lo,some hi,some (.ref l),none,none,none]/\Same H H'/\RA C H' l l1 l2) ?_ (λrest=>?_)
  rotate_left
  ·refine bX ⟨_,rfl,rfl,_,rfl,?_⟩;rcases hlo with⟨rfl,rfl,rfl⟩ |⟨p,rfl,hp⟩
   ·refine cK ⟨_,rfl,a,kp,rfl,SqL.of hA,tW,nW,by omega,bW.mono,λk H2 hk hk' s2=>?_⟩;obtain rfl:=yu hB hk';refine⟨_,rfl,dj (t := -((2^kb:Nat):Int)) (b:=1) (by decide) (b1k (by decide)) λpl H5 s5 hpl hRl=>?_⟩;rw[qO,qS]at hRl;exact rest _ _ ⟨pl,rfl,s2.trans s5,hRl⟩
   ·rw[decide_eq_false (by simp)];exact bQ ⟨_,rfl,rest _ _ ⟨p,rfl,Same.refl H,hp⟩⟩
  rintro σ' H1 ⟨l,rfl,s1,hl⟩;refine kZ (λσ' H'=>∃h:Addr,σ'=[some (.ref a),some lo,some hi,some (.ref l),some (.ref h),none,none]/\Same H1 H'/\RA C H' h h1 h2) ?_ (λrest=>?_)
  rotate_left
  ·refine bX ⟨_,rfl,rfl,_,rfl,?_⟩;rcases hhi with⟨rfl,rfl,rfl⟩ |⟨p,rfl,hp⟩
   ·refine cK ⟨_,rfl,a,kp,rfl,SqL.of (s1 _ _ hA),tW,nW,by omega,bW.mono,λk H2 hk hk' s2=>?_⟩;obtain rfl:=yu hB hk';refine dj (t:=((2^kb:Nat):Int)) (b:=1) (by decide) (b1k (by decide)) λpl H5 s5 hpl hRl=>?_
    rw[qO,qS]at hRl;exact rest _ _ ⟨pl,rfl,s2.trans s5,hRl⟩
   ·rw[decide_eq_false (by simp)];exact bQ ⟨_,rfl,rest _ _ ⟨p,rfl,Same.refl H1,hp.same s1⟩⟩
  rintro σ' H2 ⟨h,rfl,s2,hh⟩;have t2:=s1.trans s2;have hl2:=hl.same s2;refine av ⟨_,rfl,a,kp,c,us,rfl,t2 _ _ hA,hM,λpw H3 s3 hpw e3=>?_⟩;rw[hfl]at e3;refine av ⟨_,rfl,_,rfl,_,rfl,pw,l,h,fs,l1,l2,h1,h2,rfl,e3,hW,hl2.same s3,hh.same s3,en,λH4 s4=>?_⟩;have e4:=s4 _ _ e3;have t4:=(t2.trans s3).trans s4;refine bF ⟨_,rfl,_,_,rfl,rfl,_,rfl,cG (λhn=>?_) (λhn=>?_)⟩
  ·exact⟨_,rfl,_,rfl,λd hd=>kN hn _ d (t4.then_new hd) ao⟩
  obtain⟨f0,s0,hO,k⟩:=k1 hn;refine kX ⟨_,rfl,pw,prQ fs,rfl,e4,by omega,hW.bits.mono,λH5 s5=>?_⟩;have t5:=t4.trans s5;have u5:=(s3.trans s4).trans s5;refine aZ ⟨_,rfl,_,rfl,_,rfl,pw,l,h,fs,f0,s0,l1,l2,h1,h2,rfl,s5 _ _ e4,hl2.same u5,hh.same u5,hO,λx q H6 s6 hx hNA hq hqn=>?_⟩;exact k x q l h H6 (t5.trans s6) (t5.free hx) hNA (hl2.same (u5.trans s6)) (hh.same (u5.trans s6)) hq (t5.free hqn)
theorem v4{i j:Nat}{a b:List Int}{n:Nat}(ha:AllB i a)(hb:AllB j b):∀m,Bits (i+j+m) (sm a b n m)
 |0=>Bits.zero
 |m+1=>by
  rw[sm];refine(v4 ha hb m).add ?_;unfold tm;split
  ·exact((ha.cf m).mul (hb.cf _)).mono (by omega)
  ·exact Bits.zero
theorem rE{i j k:Nat}{a b:List Int}(ha:AllB i a)(hb:AllB j b)(hk:i+j+a.length<=k):AllB k (ad a b):=AllB.of_cf λn=>by rw[aE];exact(v4 ha hb a.length).mono hk
theorem wS{s:List Int}(h5:AllB 5 s)(hl:s.length<=3):∀n,AllB (8*n+1) (pw s n)
 |0=>λx hx=>by rw[Nf.mp hx];exact b1k (by decide)
 |n+1=>rE h5 (wS h5 hl n) (by omega)
theorem o9{g:Nat->Nat}(hg:∀m,1<=m->g m<=m):∀us:List (List Int×Nat),(∀p∈us,AllB 5 p.1/\p.1.length<=3/\p.1≠[]/\1<=p.2)->AllB (1+wt us) (fP g us)
 | [],_=>λx hx=>by rw[Nf.mp hx];exact b1k (by decide)
 |p::us,h=>by
  obtain⟨h5,hl,hne,h1⟩:=h p (Na ..);have ih:=o9 hg us λq hq=>h q (M8 _ hq)
  have hgm:=hg p.2 h1;have hw:wt (p::us)=10*p.2+2+wt us:=by unfold wt;rw[Nx,N6]
  have hpl:=(lf hne (g p.2)).1;have:g p.2*(p.1.length-1)<=g p.2*2:=Oo _ (by omega);exact rE (wS h5 hl (g p.2)) ih (by omega)
theorem AO{gs:List ((Int×Int)×Nat)}{ex:Bool}:wt (usE gs ex)=10*bE gs+2*gs.length+if ex then 12 else 0:=by
 have h:wt (uG gs)=10*bE gs+2*gs.length:=by
  induction gs with
  |nil=>rfl
  |cons p gs ih =>
   have e1:wt (uG (p::gs))=10*p.2+2+wt (uG gs):=by unfold wt uG;rw[Nx,Nx,N6]
   have e2:bE (p::gs)=p.2+bE gs:=by unfold bE;rw[Nx,N6]
   rw[e1,e2,ih,Nq];omega
 have e:wt (usE gs ex)=wt (uG gs)+wt (if ex then[([1,0,1],1)]else[]):=by unfold usE wt;rw[No,List.sum_append]
 rw[e,h];cases ex<;>rfl
theorem mS{gs:List ((Int×Int)×Nat)}{ex:Bool}(h:GsO gs):∀p∈usE gs ex,AllB 5 p.1/\p.1.length<=3/\p.1≠[]/\1<=p.2:=λp hp=>by
 have h1:=(mR h ex).pos p hp;unfold usE at hp
 rcases Nu.mp hp with z |z
 ·obtain⟨q,hq,rfl⟩:=Nc.mp z;have o:=h.ok q.1 (OK hq);have ot:=o.t;have o1:=o.b1;have o6:=o.b6;refine⟨λx hx=>?_,by show 2<=3;decide,by show sF q.1≠[];unfold sF;simp,h1⟩;rcases Nd.mp hx with rfl |hx
  ·show(-q.1.1).natAbs<2^5;omega
  ·rw[Nf.mp hx];show q.1.2.natAbs<2^5;omega
 ·cases ex
  ·cases z
  ·rw[Nf.mp z];refine⟨λx hx=>?_,by show 3<=3;decide,by simp,M0 _⟩;have:x=1\/x=0\/x=1:=by simpa using hx
   rcases this with rfl |rfl |rfl<;>(show Int.natAbs _<2^5;decide)
noncomputable def exN(ex:Bool):Nat:=if ex then 2 else 0
theorem AQ{gs:List ((Int×Int)×Nat)}{ex:Bool}:dgs j0 (usE gs ex)=gs.length+exN ex:=by
 unfold usE;rw[tZ]
 congr 1
 ·induction gs with
  |nil=>rfl
  |cons p gs ih =>show 1*(2-1)+dgs j0 (uG gs)=gs.length+1;rw[ih];omega
 ·cases ex<;>rfl
theorem Bv{gs:List ((Int×Int)×Nat)}(h:∀p∈gs,1<=p.2):gs.length<=bE gs:=by
 induction gs with
 |nil=>exact M0 _
 |cons p gs ih =>
  have e2:bE (p::gs)=p.2+bE gs:=by unfold bE;rw[Nx,N6]
  have:=h p (Na ..);have:=ih λq hq=>h q (M8 _ hq)
  rw[e2,Nq];omega
theorem yf{gs:List ((Int×Int)×Nat)}{ex:Bool}(h:GsO gs){c:Int}:(whl c (usE gs ex)).length=1+(bE gs+exN ex):=by rw[dL,bJ,(kg id _ λp hp=>(mS h p hp).2.2.1).1,vv];rfl
structure KpO(kp:List Int)(gs:List ((Int×Int)×Nat))(ex:Bool)(c:Int):Prop where
 ok:GsO gs
 l4:gs.length<=4
 s8:bE gs<=8
 c3:c.natAbs<=3
 is:kp=if c=0 then[]else whl c (usE gs ex)
theorem KpO.made{kp:List Int}{gs:List ((Int×Int)×Nat)}{ex:Bool}{c:Int}(h:KpO kp gs ex c)(h2:2<=kp.length)(h9:kp.length<=9):kp=whl c (usE gs ex)/\Made kp c (usE gs ex)/\flt (usE gs ex)=prQ (fsE gs ex)/\Whl (fsE gs ex):=by
 have hc:c≠0:=λz=>by rw[h.is,if_pos z]at h2;exact absurd h2 (by decide)
 have e:kp=whl c (usE gs ex):=by rw[h.is,if_neg hc]
 have hl:=yf (ex:=ex) h.ok (c:=c);rw[<- e]at hl;have l4:=h.l4;have hw:wt (usE gs ex)<=200:=by rw[AO];have:=h.s8;split<;>omega
 have small:=mS (ex:=ex) h.ok;have c3:=h.c3;have hfl:=AR h.ok ex;have b1:AllB 230 (fP id (usE gs ex)):=(o9 (g:=id) (λm _=>M0 m) _ small).mono (by omega);have b2:AllB 230 (mor (usE gs ex) 1):=(o9 (g:=(·-1)) (λm _=>Nat.sub_le m 1) _ small).mono (by omega);have b3:AllB 230 (flt (usE gs ex)):=(o9 (g:=j0) (λm h=>h) _ small).mono (by omega)
 have l3:(flt (usE gs ex)).length=1+(gs.length+exN ex):=by show(fP j0 _).length=_;rw[(kg j0 _ λp hp=>(small p hp).2.2.1).1,AQ]
 have hs:=Bv h.ok.pos;have hgp:bE gs=0->gs.length=0:=by omega
 have hgl:gs.length=0->bE gs=0:=λz=>by have:gs=[]:=Om.mp z;rw[this];rfl
 have hex:exN ex<=2:=by unfold exN;split<;>omega
 refine⟨e,⟨e,hc,?_,mR h.ok ex,?_,h2,b1,b2⟩,hfl,⟨yW h.ok ex,?_,?_,?_⟩⟩
 ·show c.natAbs<2^10;omega
 ·rw[vv];show bE gs+exN ex<=8;omega
 ·rw[<- hfl,l3];omega
 ·rw[<- hfl,l3];omega
 ·rw[<- hfl];exact b3.mono
noncomputable def yB(lo:Option (Int×Int))(z:Int×Int):Bool:=match lo with
 |none=>true
 |some x=>decide (x.1*z.2<z.1*x.2)
noncomputable def yC(hi:Option (Int×Int))(z:Int×Int):Bool:=match hi with
 |none=>true
 |some y=>!decide (y.1*z.2<z.1*y.2)
noncomputable def inE(lo hi:Option (Int×Int))(z:Int×Int):Bool:=yB lo z&&yC hi z
structure PaO(x:Int×Int):Prop where
 t:x.1.natAbs<=30
 b1:1<=x.2
 b6:x.2<=6
theorem ub{x z:Int×Int}(hx:1<=x.2)(hz:1<=z.2):(rt x.1 x.2*z.2<z.1*rb x.1 x.2)↔x.1*z.2<z.1*x.2:=by
 have hb:x.2≠0:=by omega
 have e:=gu (t:=x.1) hb;have hr:=d9 (t:=x.1) hb
 have e1:rt x.1 x.2*z.2*x.2=x.1*z.2*rb x.1 x.2:=by
  have:rt x.1 x.2*z.2*x.2=rt x.1 x.2*x.2*z.2:=by grind
  rw[this,e];grind
 constructor
 ·intro h;have h2:=NM h (show 0<x.2 by omega);rw[e1]at h2;have e2:z.1*rb x.1 x.2*x.2=z.1*x.2*rb x.1 x.2:=by grind
  rw[e2]at h2;exact NT h2 (M7 hr)
 ·intro h;have h2:=NM h hr;rw[<- e1]at h2;have e2:z.1*x.2*rb x.1 x.2=z.1*rb x.1 x.2*x.2:=by grind
  rw[e2]at h2;exact NT h2 (by omega)
noncomputable def eN(lo:Option (Int×Int))(B:Int):Int×Int:=match lo with
 |none=>(-B,1)
 |some x=>(rt x.1 x.2,rb x.1 x.2)
noncomputable def eV(hi:Option (Int×Int))(B:Int):Int×Int:=match hi with
 |none=>(B,1)
 |some x=>(rt x.1 x.2,rb x.1 x.2)
theorem qG{x:Int×Int}(h:PaO x):Bits 250 (rt x.1 x.2)/\Bits 250 (rb x.1 x.2)/\0<rb x.1 x.2/\Nat.gcd (rt x.1 x.2).natAbs (rb x.1 x.2).natAbs=1:=by
 have hb:x.2≠0:=by have:=h.b1;omega
 have h1:=wv (t:=x.1) hb;have h2:=wF (t:=x.1) hb;have:=h.t;have:=h.b6;have:=h.b1;exact⟨Bits.mono (j:=5) (by show _<2^5;omega) (by decide),Bits.mono (j:=3) (by show _<2^3;omega) (by decide),d9 hb,qT hb⟩
theorem KpO.ends{kp:List Int}{gs:List ((Int×Int)×Nat)}{ex:Bool}{c:Int}(h:KpO kp gs ex c)(h2:2<=kp.length)(h9:kp.length<=9){kb:Nat}(hB:isB (kp.take (kp.length-1)) (ap kp).natAbs kb){lo hi:Option (Int×Int)}(hlo:∀x,lo=some x->PaO x)(hhi:∀x,hi=some x->PaO x) :
 EndB 250 (eN lo ((2^kb:Nat):Int)).1 (eN lo ((2^kb:Nat):Int)).2 (eV hi ((2^kb:Nat):Int)).1 (eV hi ((2^kb:Nat):Int)).2/\(∀z∈ks gs,inW (eN lo ((2^kb:Nat):Int)).1 (eN lo ((2^kb:Nat):Int)).2 (eV hi ((2^kb:Nat):Int)).1 (eV hi ((2^kb:Nat):Int)).2 z=inE lo hi z):=by
 obtain⟨e,hM,hfl,hW⟩:=h.made h2 h9;obtain⟨tW,nW,_⟩:=fk hM.use hM.c0;rw[<- hM.is]at tW nW;have bW:=hM.len.2.2.2
 have kb2:kb<=245:=by
  rcases OJ kb 246 with z |z
  ·omega
  ·obtain⟨x,hx,h2⟩:=hB.2 245 (by omega);have h3:x.natAbs<2^241:=bW x (OZ hx);have h4:2^241<=2^245-1:=by decide +kernel
   have h5:2^245-1<=(2^245-1)*(ap kp).natAbs:=Nat.le_mul_of_pos_right _ (Oa.mpr (oO tW nW));omega
 have bB:Bits 250 ((2^kb:Nat):Int):=by show((2^kb:Nat):Int).natAbs<2^250;rw[Nr];exact Nat.pow_lt_pow_right (by decide) (by omega)
 have hin:∀z∈ks gs,-((2^kb:Nat):Int)*z.2<z.1/\z.1<(2^kb:Nat)*z.2:=λz hz=>by have oz:=h.ok.ok z hz;obtain⟨p,hp,rfl⟩:=Nc.mp hz;have hpm:(sF p.1,p.2)∈usE gs ex:=NQ _ (Nc.mpr ⟨p,hp,rfl⟩);refine CU nW tW (by have:=oz.b1;omega) (Nat.one_le_two_pow) hB.1 ?_;rw[e,dL,sv,ze (by have:=oz.b1;omega) (usE gs ex) (λq hq=>⟨(mS h.ok q hq).2.2.1,(mS h.ok q hq).2.2.2⟩) _ hpm (GI p.1),Nj]
 refine⟨?_,λz hz=>?_⟩
 ·have o1:Bits 250 (1:Int):=b1k (by decide);have p01:(0:Int)<1:=by decide
  cases lo with
  |none =>
   cases hi with
   |none=>exact⟨p01,p01,bB.neg,o1,bB,o1,OA _,OA _⟩
   |some y=>obtain⟨q1,q2,q3,q4⟩:=qG (hhi y rfl);exact⟨p01,q3,bB.neg,o1,q1,q2,OA _,q4⟩
  |some x =>
   obtain⟨p1,p2,p3,p4⟩:=qG (hlo x rfl);cases hi with
   |none=>exact⟨p3,p01,p1,p2,bB,o1,p4,OA _⟩
   |some y=>obtain⟨q1,q2,q3,q4⟩:=qG (hhi y rfl);exact⟨p3,q3,p1,p2,q1,q2,p4,q4⟩
 ·obtain⟨i1,i2⟩:=hin z hz;have oz:=(h.ok.ok z hz).b1;unfold inW inE
  congr 1
  ·cases lo with
   |none=>exact decide_eq_true (by show -((2^kb:Nat):Int)*z.2<z.1*1;omega)
   |some x=>exact decide_eq_decide.mpr (ub (hlo x rfl).b1 oz)
  ·cases hi with
   |none =>show(!decide (((2^kb:Nat):Int)*z.2<z.1*1))=true;rw[decide_eq_false (by omega)];rfl
   |some y =>exact congrArg (! ·) (decide_eq_decide.mpr (ub (hhi y rfl).b1 oz))
theorem xO{gs:List ((Int×Int)×Nat)}{ex:Bool}(h:GsO gs){l1 l2 h1 h2:Int}(hl:0<l2)(hh:0<h2):dF (fsE gs ex) l1 l2 h1 h2=(((ks gs).filter (inW l1 l2 h1 h2)).length:Int):=by
 unfold dF;by_cases hlt:l1*h2<h1*l2
 ·rw[if_pos hlt,Kh]
 ·rw[if_neg hlt]
  have:(ks gs).filter (inW l1 l2 h1 h2)=[]:=List.filter_eq_nil_iff.mpr λz hz=>by
   unfold inW;intro y;simp only[OE,Bool.not_eq_true',decide_eq_true_eq,decide_eq_false_iff_not]at y;have oz:=(h.ok z hz).b1;have y2:z.1*h2<=h1*z.2:=by omega
   have a:=NM y.1 hh;have b:=Nw y2 (M7 hl);have e1:z.1*l2*h2=z.1*h2*l2:=by grind
   have e2:l1*z.2*h2=l1*h2*z.2:=by grind
   have e3:h1*z.2*l2=h1*l2*z.2:=by grind
   rw[e1,e2]at a;rw[e3]at b;exact hlt (NT (Int.lt_of_lt_of_le a b) (by omega))
  rw[this];rfl
theorem D6{gs:List ((Int×Int)×Nat)}{ex:Bool}(h:GsO gs)(hW:Whl (fsE gs ex)){l1 l2 h1 h2:Int}(en:EndB 250 l1 l2 h1 h2)(hc:dF (fsE gs ex) l1 l2 h1 h2=1):∃z,(ks gs).filter (inW l1 l2 h1 h2)=[z]/\FrO z/\OneW (fsE gs ex) (fF z) [z.1,0,z.2,1] l1 l2 h1 h2/\l1*z.2<z.1*l2/\¬h1*z.2<z.1*h2:=by
 have hm:=xO (ex:=ex) h (l1:=l1) (h1:=h1) en.l2p en.h2p;rw[hc]at hm;obtain⟨z,hz⟩:=OT.mp (show((ks gs).filter (inW l1 l2 h1 h2)).length=1 by omega);have hzm:z∈(ks gs).filter (inW l1 l2 h1 h2):=by rw[hz];simp
 obtain⟨hzk,hzi⟩:=OL.mp hzm;unfold inW at hzi
 simp only[OE,Bool.not_eq_true',decide_eq_true_eq,decide_eq_false_iff_not]at hzi
 have hlt:l1*h2<h1*l2:=by
  unfold dF at hc
  split at hc
  ·assumption
  ·cases hc
 have hcn:bh (aM (fsE gs ex)) l1 l2 h1 h2=1:=by unfold dF at hc;rw[if_pos hlt]at hc;exact hc
 obtain⟨f0,s0,hO⟩:=D5 hW.fam en.l2p en.h2p hlt hcn;have hspm:[z.1,0,z.2,1]∈aM (fsE gs ex):=Oy.mpr ⟨fF z,NQ _ (OK hzk),by show _∈spF [z.1,0,z.2];rw[nc];simp⟩;have e0:=hO.only _ hspm (side_line.mpr (by rw[Nm];exact hzi.1)) (Int.not_lt.mp λy=>hzi.2 (by have:=side_line.mp y;rw[Nm]at this;exact this));subst e0;have ef:f0=fF z:=vT (hW.fam.q f0 hO.mem) hO.sp;subst ef;exact⟨z,hz,h.ok z hzk,⟨hW,hO,hcn,en.en hlt,rfl⟩,hzi.1,hzi.2⟩
theorem E9{f:Addr}{fd:FuncData}(F:Fun K "_law_cell_at" "_law_cell_at" jD f fd)(T:Txt K mg):FnOk P w K mg base CX0 1 f fd ["_law_script","_law_k"] (fv K):=by
 refine F.ok Ct (λvs H Q E h=>?_) (λcdv A outer s H vs Q E hr h=>?_)
 ·obtain⟨a,ns,k,rfl,_⟩:=h;rfl
 ·obtain⟨a,ns,n,rfl,hS,k⟩:=h
  refine⟨_,(af (aO (aH dc (pv 1) (aQ (cp (K:=K) rfl) (by rfl) T.len_ PySem.boot_len (aa (pv 0) ac)) (aC _))
   (ah (aw (aG (bK (K:=K) rfl) (pv 0) (pv 1) (λ_ _=>rfl))))
   aP)
   (ah (aw ae))),?_⟩
  refine⟨_,rfl,_,rfl,a,_,rfl,.inl hS,_,_,rfl,rfl,_,rfl,?_⟩;refine aX (λh1=>?_) (λh1=>?_)
  ·rw[MZ]at h1;have h2:n<ns.length:=by omega
   refine⟨_,rfl,_,rfl,a,_,_,_,rfl,rfl,hS,kq (v:=.int (ns.getD n 0)) ?_,k⟩;rw[List.getElem?_map,List.getElem?_eq_getElem h2];simp[List.getD,h2]
  ·rw[MZ]at h1;have h2:ns.length<=n:=by omega
   have e:ns.getD n 0=0:=by simp[List.getD,List.getElem?_eq_none_iff.mpr h2]
   rw[e]at k;exact k
def kI:Sp:=λvs H Q _=>∃i:Int,vs=[.int i]/\Q (.bl true) H
theorem EV{f:Addr}{fd:FuncData}(F:Fun K "_law_whole" "_law_whole" jv f fd)(T:Txt K mg):FnOk P w K mg base CX0 1 f fd ["_law_found"] kI:=by
 refine F.ok Cq (λvs H Q E h=>?_) (λcdv A outer s H vs Q E hr h=>?_)
 ·obtain⟨i,rfl,_⟩:=h;rfl
 ·obtain⟨i,rfl,k⟩:=h;refine⟨_,(ah (aw (oi (aQ (mw (K:=K) rfl) (by rfl) T.isinstance_ PyProof.Rows.boot_isinstance (aa (pv 0) (aa (oh (v:=.ty "int") (by rfl) T.int_ PyProof.Rows.boot_int (by rfl)) ac))) (og (xj (aQ (mw (K:=K) rfl) (by rfl) T.isinstance_ PyProof.Rows.boot_isinstance (aa (pv 0) (aa (oh (v:=.ty "bool") (by rfl) T.bool_ PyProof.Rows.boot_bool (by rfl)) ac)))))))),?_⟩;refine aZ (nU (kY ⟨_,rfl,sr (.int i) (k:=true) (by rfl) ⟨_,rfl,cK ?_⟩⟩));refine wB (kY ⟨_,rfl,sr (.int i) (k:=false) (by rfl) ⟨_,rfl,?_⟩⟩);exact k
def nD:Sp:=λvs H Q _=>∃x y:Int,vs=[.int x,.int y]/\0<=x/\0<=y/\Q (.int (Nat.gcd x.natAbs y.natAbs:Nat)) H
theorem E8{f:Addr}{fd:FuncData}(F:Fun K "_law_divisor" "_law_divisor" jC f fd)(T:Txt K mg):FnOk P w K mg base CX0 1 f fd ["_law_one","_law_other"] nD:=by
 refine F.ok sc__law_divisor (λvs H Q E h=>?_) (λcdv A outer s H vs Q E hr h=>?_)
 ·obtain⟨a,b,rfl,_⟩:=h;rfl
 ·obtain⟨a,b,rfl,ha,h0,k⟩:=h
  refine⟨_,(af (fB PassesOwn.never (aH fH (pv 1) ae (aC _))
   (af (aj (i:=2) sc__law_divisor.nd rfl (Or.inl rfl) (al cS (pv 0) (pv 1)))
     (af (aj (i:=0) sc__law_divisor.nd rfl (Or.inl rfl) (pv 1))
     (ah (aj (i:=1) sc__law_divisor.nd rfl (Or.inl rfl) (pv 2))))))
   (ah (aw (pv 0)))),?_⟩
  refine⟨λm σ' H'=>∃(x y:Int) (z:Option V),σ'=[some (.int x),some (.int y),z]/\H=H'/\0<=x/\0<=y/\y.natAbs=m/\Nat.gcd x.natAbs y.natAbs=Nat.gcd a.natAbs b.natAbs,⟨_,_,_,none,rfl,rfl,ha,h0,rfl,rfl⟩,?_⟩;rintro m σ' H' ⟨x,y,z,rfl,rfl,hx,hy,rfl,hg⟩;refine⟨_,rfl,_,_,rfl,rfl,_,rfl,?_⟩;refine cG (λhn=>?_) (λh0=>?_)
  ·have hp:0<y:=by have:y≠0:=hn;omega
   refine⟨λσ'' H''=>∃m',m'<y.natAbs/\∃(x' y':Int) (z:Option V),σ''=[some (.int x'),some (.int y'),z]/\H=H''/\0<=x'/\0<=y'/\y'.natAbs=m'/\Nat.gcd x'.natAbs y'.natAbs=Nat.gcd a.natAbs b.natAbs,λ_ _ h=>h,?_⟩;refine⟨_,rfl,_,rfl,_,_,rfl,rfl,hp,?_⟩;refine⟨_,rfl,?_⟩;refine⟨_,rfl,?_⟩;have h1:=N8 x (Ny hp);have h2:=N9 x hp;exact⟨(x%y).natAbs,by omega,y,x%y,_,rfl,rfl,hy,h1,rfl,by rw[yS hx hp];exact hg⟩
  ·have e:(y:Int)=0:=h0;subst e;refine⟨_,rfl,?_⟩
   have e2:(x:Int)=((Nat.gcd a.natAbs b.natAbs:Nat):Int):=by rw[<- hg];show x=((Nat.gcd x.natAbs 0:Nat):Int);rw[Nat.gcd_zero_right];omega
   rw[e2];exact k
def qi(C:Addr):Sp:=λvs H Q _=>∃(r:Addr) (t b:Int),vs=[.ref r]/\RA C H r t b/\0<b/\Nat.gcd t.natAbs b.natAbs=1/\Q (.bl true) H
theorem E3{C f:Addr}{fd:FuncData}(F:Fun K "_law_ratio" "_law_ratio" jy f fd)(T:Txt K mg)(R:RCI K mg C){me:Addr}{lY:FuncData}(mO:Cal P w K mg base 1 "_law_whole" ["_law_found"] kI me lY){tL:Addr}{sW:FuncData}(vb:Cal P w K mg base 1 "_law_divisor" ["_law_one","_law_other"] nD tL sW):FnOk P w K mg base CX0 2 f fd ["_law_found"] (qi C):=by
 obtain⟨ky,j7,j9,km⟩:=mO;obtain⟨uN,rT,sk,uv⟩:=vb;refine F.ok Cs (λvs H Q E h=>?_) (λcdv A outer s H vs Q E hr h=>?_)
 ·obtain⟨r,t,b,rfl,_⟩:=h;rfl
 ·obtain⟨p,t,b,rfl,⟨dx,hp⟩,hb,hg,k⟩:=h
  refine⟨_,(af (aO (PW.pt (ei (dN (db (aQ (mw (K:=K) rfl) (by rfl) T.isinstance_ PyProof.Rows.boot_isinstance (aa (pv 0) (aa (lw (v:=.ref C) rfl R.mg rfl) ac))))) (ei (dN (db (am ky (hr.mono) rfl j7 j9 km .nil ai (aa (aJ (K:=K) rfl (pv 0) rfl) ac)))) (gv (dN (db (am ky (hr.mono) rfl j7 j9 km .nil ai (aa (aJ (K:=K) rfl (pv 0) rfl) ac))))))))
   (ah (aw fG))
   aP)
   (ah (aw (oi (gz dD (aJ (K:=K) rfl (pv 0) rfl) ae (aC _)) (og (gz df (am uN (hr.mono) rfl rT sk uv .nil ai (aa (aQ fU (by rfl) T.abs_ PyProof.Rows.boot_abs (aa (aJ (K:=K) rfl (pv 0) rfl) ac)) (aa (aJ (K:=K) rfl (pv 0) rfl) ac))) ae (aC _))))))),?_⟩
  refine bF (d7 (d8 (qR (kY ⟨_,rfl,yq (.ins hp R.cl R.ha R.hn R.ht R.hm) (k:=true) (by unfold PySem.W.kitOne;rw[if_pos (by simp)]) ⟨_,rfl,bQ ?_⟩⟩))));refine d7 (d8 ⟨_,rfl,p,C,dx,_,_,rfl,hp,R.cl,R.nT,cu _ _,_,rfl,_,rfl,bQ ?_⟩);refine d8 ⟨_,rfl,p,C,dx,_,_,rfl,hp,R.cl,R.nB,bn _ _,_,rfl,_,rfl,bQ ?_⟩;refine aZ (nU ⟨_,rfl,p,C,dx,_,_,rfl,hp,R.cl,R.nB,bn _ _,_,_,rfl,rfl,_,rfl,?_⟩);rw[decide_eq_true (show b>0 from hb)];refine cK ⟨_,rfl,p,C,dx,_,_,rfl,hp,R.cl,R.nT,cu _ _,_,rfl,_,rfl,p,C,dx,_,_,rfl,hp,R.cl,R.nB,bn _ _,_,b,rfl,by split<;>omega,M7 hb,?_⟩
  have e:Nat.gcd (if t<0 then -t else t).natAbs b.natAbs=1:=by
   have:(if t<0 then -t else t).natAbs=t.natAbs:=by split<;>omega
   rw[this];exact hg
  rw[e];exact⟨_,_,rfl,rfl,k⟩
def qk:Sp:=λvs H Q _=>∃(a:Addr) (ns:List Int),vs=[.ref a]/\H a=some (.lst (ns.map V.int))/\Q (.bl true) H
theorem E5{f:Addr}{fd:FuncData}(F:Fun K "_law_poly" "_law_poly" jA f fd)(T:Txt K mg){me:Addr}{lY:FuncData}(mO:Cal P w K mg base 1 "_law_whole" ["_law_found"] kI me lY):FnOk P w K mg base CX0 2 f fd ["_law_found"] qk:=by
 obtain⟨ky,j7,j9,km⟩:=mO;refine F.ok sc__law_poly (λvs H Q E h=>?_) (λcdv A outer s H vs Q E hr h=>?_)
 ·obtain⟨a,ns,rfl,_⟩:=h;rfl
 ·obtain⟨a,ns,rfl,hA,k⟩:=h
  refine⟨_,(af (aO (dN (db (aQ (mw (K:=K) rfl) (by rfl) T.isinstance_ PyProof.Rows.boot_isinstance (aa (pv 0) (aa (oh (v:=.ty "list") (by rfl) T.list_ PyProof.Rows.boot_list (by rfl)) ac)))))
   (ah (aw fG))
   aP)
   (af (ck PassesOwn.never rfl (dA (K:=K) rfl (pv 0)) (aU (i:=1) sc__law_poly.nd rfl (Or.inl rfl))
     (ah (aO (dN (db (am ky (hr.mono) rfl j7 j9 km .nil ai (aa (pv 1) ac))))
       (ah (aw fG))
       aP)))
   (ah (aw fG)))),?_⟩
  refine bF (d8 (qR (kY ⟨_,rfl,sr (.lst hA) (k:=true) (by rfl) ⟨_,rfl,bQ ?_⟩⟩)));refine⟨_,rfl,a,rfl,⟨_,SqL.of hA⟩,lU (K:=K) (a:=a) (xs:=ns.map V.int) (λi σ' H'=>∃z:Option V,σ'=[some (.ref a),z]/\H=H') ⟨none,rfl,rfl⟩ ?_ ?_ ?_⟩
  ·rintro i σ' H' _ ⟨z,rfl,rfl⟩;exact SqL.of hA
  ·rintro i x σ' H' hi ⟨z,rfl,rfl⟩;obtain⟨y,_,rfl,_,_⟩:=gN hi;exact⟨_,rfl,_,rfl,_,rfl,bQ ⟨_,rfl,rfl⟩⟩
  ·rintro σ' H' ⟨z,rfl,rfl⟩;exact k
def qa:Sp:=λvs H Q _=>∃(a b:Addr) (xs ys:List Int),vs=[.ref a,.ref b]/\H a=some (.lst (xs.map V.int))/\H b=some (.lst (ys.map V.int))/\xs≠[]/\ys≠[]/\xs.length<=1000/\ys.length<=1000/\AllB 1000000 xs/\AllB 1000000 ys/\mkL H Q (ad xs ys)
theorem EY{f:Addr}{fd:FuncData}(F:Fun K "_law_times" "_law_times" jx f fd)(T:Txt K mg):FnOk P w K mg base CX0 1 f fd ["_law_one","_law_other"] qa:=by
 refine F.ok sc__law_times (λvs H Q E h=>?_) (λcdv A outer s H vs Q E hr h=>?_)
 ·obtain⟨a,b,xs,ys,rfl,_⟩:=h;rfl
 ·obtain⟨a,b,xs,ys,rfl,hA,hB,hx0,hy0,hx,hy,bx,by',k⟩:=h;have big:=sizeLine_eq
  refine⟨_,(af (aj (i:=2) sc__law_times.nd rfl (Or.inl rfl) (al rk (aT (aa ae ac)) (al cs (al bR (aQ (cp (K:=K) rfl) (by rfl) T.len_ PySem.boot_len (aa (pv 0) ac)) (aQ (cp (K:=K) rfl) (by rfl) T.len_ PySem.boot_len (aa (pv 1) ac))) ae)))
   (af (ck PassesOwn.never rfl (fC rfl T.range_ (aa (aQ (cp (K:=K) rfl) (by rfl) T.len_ PySem.boot_len (aa (pv 0) ac)) ac)) (aU (i:=3) sc__law_times.nd rfl (Or.inl rfl))
     (ah (ck PassesOwn.never rfl (fC rfl T.range_ (aa (aQ (cp (K:=K) rfl) (by rfl) T.len_ PySem.boot_len (aa (pv 1) ac)) ac)) (aU (i:=4) sc__law_times.nd rfl (Or.inl rfl))
       (ah (jT (al bR (aG (bK (K:=K) rfl) (pv 2) (al bR (pv 3) (pv 4)) (λ_ _=>rfl)) (al aR (aG (bK (K:=K) rfl) (pv 0) (pv 3) (λ_ _=>rfl)) (aG (bK (K:=K) rfl) (pv 1) (pv 4) (λ_ _=>rfl)))) (lu (pv 2) (al bR (pv 3) (pv 4)) kS))))))
   (ah (aw (pv 2))))),?_⟩
  have hlx:(xs.map V.int).length=xs.length:=MZ _;have hly:(ys.map V.int).length=ys.length:=MZ _;obtain⟨la,ea⟩:∃la,xs.length=la+1:=⟨xs.length-1,by have:=M5.mpr hx0;omega⟩;obtain⟨lb,eb⟩:∃lb,ys.length=lb+1:=⟨ys.length-1,by have:=M5.mpr hy0;omega⟩;have en:((xs.map V.int).length:Int)+((ys.map V.int).length:Int)-1=((la+lb+1:Nat):Int):=by rw[hlx,hly];omega
  refine av ⟨by show 1<=sizeLine;omega,λp2 hp2=>?_⟩;have s0:=Same.upd_new (o:=.lst [V.int 0]) hp2;refine⟨_,rfl,a,_,rfl,.inl (SqL.of (s0 _ _ hA)),_,rfl,b,_,rfl,.inl (SqL.of (s0 _ _ hB)),_,_,rfl,rfl,_,_,rfl,rfl,?_⟩;dsimp only
  rw[en];refine⟨p2,_,_,rfl,rfl,ao,by omega,by omega,by show 1*_<=_;omega,λp hp=>?_⟩;rw[show((la+lb+1:Nat):Int).toNat=la+lb+1 from rfl,qP];have s4:=s0.then_new (o:=.lst ((List.replicate (la+lb+1) (0:Int)).map V.int)) hp;have hp0:=s0.free hp;have npa:a≠p:=aN hA hp0;have npb:b≠p:=aN hB hp0;have hp4:upd (upd H p2 (.lst [V.int 0])) p (.lst ((List.replicate (la+lb+1) (0:Int)).map V.int)) p=some (.lst ((List.replicate (la+lb+1) (0:Int)).map V.int)):=ao;generalize upd (upd H p2 (.lst [V.int 0])) p (.lst ((List.replicate (la+lb+1) (0:Int)).map V.int))=H4 at s4 hp4 ⊢
  refine⟨_,rfl,a,_,rfl,.inl (SqL.of (s4 _ _ hA)),_,rfl,by rw[hlx];omega,by rw[hlx];omega,?_⟩;rw[hlx]
  refine kf (lo:=0) (n:=xs.length) (λj σ' H'=>∃(acc:List Int) (z3 z4:Option V),σ'=[some (.ref a),some (.ref b),some (.ref p),z3,z4]/\SameB p H4 H'/\H' p=some (.lst (acc.map V.int))/\acc.length=la+lb+1/\∀n,n<acc.length->cf acc n=sm xs ys n j)
   ⟨List.replicate (la+lb+1) 0,none,none,rfl,SameB.refl _ _,hp4,by simp,λn _=>by rw[mn];rfl⟩ ?_ ?_
  ·rintro j σ' H' hjl ⟨acc,z3,z4,rfl,sb,hpa,hal,hac⟩;have hA':=sb _ _ npa (s4 _ _ hA);have hB':=sb _ _ npb (s4 _ _ hB);refine⟨_,rfl,b,_,rfl,.inl (SqL.of hB'),_,rfl,by rw[hly];omega,by rw[hly];omega,?_⟩;rw[hly]
   refine kf (lo:=0) (n:=ys.length) (λi σ' H'=>∃(acc:List Int) (z4:Option V),σ'=[some (.ref a),some (.ref b),some (.ref p),some (.int (0+(j:Int))),z4]/\SameB p H4 H'/\H' p=some (.lst (acc.map V.int))/\acc.length=la+lb+1/\∀n,n<acc.length->cf acc n=sm xs ys n j+(if j<=n/\n-j<i then tm xs ys n j else 0))
    ⟨acc,z4,rfl,sb,hpa,hal,xJ hac⟩ ?_ ?_
   ·rintro i σ' H' hil ⟨acc,z4,rfl,sb,hpa,hal,hac⟩;have hA':=sb _ _ npa (s4 _ _ hA);have hB':=sb _ _ npb (s4 _ _ hB);have hji:j+i<acc.length:=by omega
    have eji:(0+((j:Nat):Int))+(0+((i:Nat):Int))=((j+i:Nat):Int):=by omega
    have e0:∀x:Nat,(0:Int)+((x:Nat):Int)=((x:Nat):Int):=λx=>by omega
    refine⟨_,rfl,_,rfl,_,rfl,_,_,rfl,rfl,p,_,_,_,rfl,rfl,SqL.of hpa,ko eji hji,_,rfl,_,rfl,a,_,_,_,rfl,rfl,SqL.of hA',ko (e0 j) hjl,_,rfl,_,rfl,b,_,_,_,rfl,rfl,SqL.of hB',ko (e0 i) hil,_,_,rfl,rfl,⟨bx.cf j,by'.cf i⟩,_,_,rfl,rfl,_,rfl,_,rfl,_,rfl,_,_,rfl,rfl,p,_,_,j+i,rfl,rfl,hpa,lQ eji (by rw[MZ];exact hji),?_⟩;exact⟨acc.set (j+i) (cf acc (j+i)+cf xs j*cf ys i),_,rfl,sb.then_upd,by rw[ao,oG],by rw[Ou];exact hal,xI hjl hil hji hac⟩
   ·rintro σ' H' ⟨acc,z4,rfl,sb,hpa,hal,hac⟩;exact⟨acc,_,_,rfl,sb,hpa,hal,xK hac⟩
  ·rintro σ' H' ⟨acc,z3,z4,rfl,sb,hpa,hal,hac⟩;refine⟨_,rfl,k p H' (λb' o e=>sb b' o (aN e hp0) (s4 b' o e)) hp0 ?_⟩;rw[hpa]
   have e:acc=ad xs ys:=by
    apply cY
    ·rw[hal];unfold ad;rw[if_neg (by intro z;exact z.elim hx0 hy0),MZ,N2];omega
    ·intro n _;rw[aE,xL (by omega) hac]
   rw[e]
def TuH(H:Hp)(ps:List Addr)(xss:List (List Int)):Prop:=ps.length=xss.length/\∀(i:Nat) (p:Addr) (xs:List Int),ps[i]?=some p->xss[i]?=some xs->H p=some (.tup (xs.map V.int))
theorem TuH.nil{H:Hp}:TuH H [] []:=⟨rfl,λi p xs h=>by simp at h⟩
theorem TuH.same{H H':Hp}{ps:List Addr}{xss:List (List Int)}(h:TuH H ps xss)(s:Same H H'):TuH H' ps xss:=⟨h.1,λi p xs a b=>s _ _ (h.2 i p xs a b)⟩
theorem TuH.snoc{H:Hp}{ps:List Addr}{xss:List (List Int)}{p:Addr}{xs:List Int}(h:TuH H ps xss)(hp:H p=some (.tup (xs.map V.int))):TuH H (ps++[p]) (xss++[xs]):=by
 refine⟨by rw[Nh,Nh,h.1];rfl,λi q ys a b=>?_⟩;by_cases hi:i<ps.length
 ·rw[List.getElem?_append_left hi]at a;rw[List.getElem?_append_left (by rw[<- h.1];exact hi)]at b;exact h.2 i q ys a b
 ·rw[List.getElem?_append_right (by omega)]at a;rw[List.getElem?_append_right (by rw[<- h.1];omega),<- h.1]at b;by_cases h0:i-ps.length=0
  ·rw[h0]at a b;obtain rfl:p=q:=by simpa using a
   obtain rfl:xs=ys:=by simpa using b
   exact hp
  ·rw[List.getElem?_eq_none_iff.mpr (by simp;omega)]at a;cases a
theorem TuH.of_get{H:Hp}{ps:List Addr}{xss:List (List Int)}{i:Nat}{x:V}(h:TuH H ps xss)(hx:(ps.map V.ref)[i]?=some x):∃p xs,x=.ref p/\ps[i]?=some p/\xss[i]?=some xs/\H p=some (.tup (xs.map V.int))/\i<xss.length:=by
 rw[List.getElem?_map]at hx;cases e:ps[i]? with
 |none=>rw[e]at hx;cases hx
 |some p =>
  rw[e]at hx;have hi:i<ps.length:=(List.getElem?_eq_some_iff.mp e).1;have hi':i<xss.length:=by rw[<- h.1];exact hi
  exact⟨p,xss[i],(Option.some.inj hx).symm,rfl,List.getElem?_eq_getElem hi',h.2 i p _ e (List.getElem?_eq_getElem hi'),hi'⟩
theorem TuH.upd_lst{H:Hp}{ps:List Addr}{xss:List (List Int)}{a:Addr}{vs:List V}{o:HO}(h:TuH H ps xss)(ha:H a=some (.lst vs)):TuH (upd H a o) ps xss:=⟨h.1,λi p xs e1 e2=>by
 have e3:=h.2 i p xs e1 e2
 rw[L2.upd_ne (λz=>by rw[z,ha]at e3;cases e3)];exact e3⟩
noncomputable def tr3(p:(Int×Int)×Nat):List Int:=[p.1.1,p.1.2,(p.2:Int)]
structure FrT(ts:List ((Int×Int)×Nat)):Prop where
 ok:∀p∈ts,FrO p.1/\(p.2=1\/p.2=2)
 l4:ts.length<=4
theorem Ih{t b:Int}{g:Nat}(ht:t.natAbs<=20)(h1:1<=b)(h6:b<=6)(hg:g=Nat.gcd t.natAbs b.natAbs):FrO (t/(g:Int),b/(g:Int)):=by
 have gp:0<g:=by rw[hg];exact Nat.gcd_pos_of_pos_right _ (by omega)
 have d1:(g:Int)∣t:=Oc.mpr (by rw[hg];exact N3 _ _);have d2:(g:Int)∣b:=Oc.mpr (by rw[hg];exact Ob _ _);obtain⟨x,hx⟩:=d1;obtain⟨y,hy⟩:=d2;have g0:(g:Int)≠0:=by omega
 have e1:t/(g:Int)=x:=by rw[hx];exact O8 _ g0
 have e2:b/(g:Int)=y:=by rw[hy];exact O8 _ g0
 have n1:t.natAbs=g*x.natAbs:=by rw[hx,Ni,Nr]
 have n2:b.natAbs=g*y.natAbs:=by rw[hy,Ni,Nr]
 have m1:1*x.natAbs<=g*x.natAbs:=NK _ gp;have m2:1*y.natAbs<=g*y.natAbs:=NK _ gp
 have yp:0<y:=by
  rcases Ox 0 y with z |z
  ·exact z
  ·have:=Int.mul_nonpos_of_nonneg_of_nonpos (show 0<=(g:Int) by omega) z;omega
 rw[e1,e2];refine⟨by show x.natAbs<=20;omega,by show 1<=y;omega,by show y<=6;omega,?_⟩;show Nat.gcd x.natAbs y.natAbs=1;have hh:g*Nat.gcd x.natAbs y.natAbs=g:=by rw[<- Nat.gcd_mul_left,<- n1,<- n2];exact hg.symm
 exact Pe gp (by omega)
theorem sm9(n:Int)(h0:0<=n)(h:n<2000):Bits 9000 n:=Bits.mono (j:=11) (by show n.natAbs<2^11;omega) (by decide)
theorem Ao(i:Int):(if i<0 then -i else i)=(i.natAbs:Int):=by split<;>omega
def qA(K:PySem.W.Frag):Sp:=λvs H Q _=>∃(a:Addr) (ns:List Int),vs=[.ref a]/\SqL K H a (ns.map V.int)/\∀(p:Addr) (H':Hp) (qs:List Addr) (ts:List ((Int×Int)×Nat)),Same H H'->H p=none->H' p=some (.lst (qs.map V.ref))->TuH H' qs (ts.map tr3)->FrT ts->Q (.ref p) H'
theorem E6{f:Addr}{fd:FuncData}(F:Fun K "_law_fractions" "_law_fractions" jB f fd)(T:Txt K mg){tM:Addr}{sX:FuncData}(vc:Cal P w K mg base 1 "_law_cell_at" ["_law_script","_law_k"] (fv K) tM sX){tL:Addr}{sW:FuncData}(vb:Cal P w K mg base 1 "_law_divisor" ["_law_one","_law_other"] nD tL sW):FnOk P w K mg base CX0 2 f fd ["_law_script"] (qA K):=by
 obtain⟨kz,j8,ka,kn⟩:=vc;obtain⟨uN,rT,sk,uv⟩:=vb;refine F.ok sc__law_fractions (λvs H Q E h=>?_) (λcdv A outer s H vs Q E hr h=>?_)
 ·obtain⟨a,ns,rfl,_⟩:=h;rfl
 ·obtain⟨a,ns,rfl,hS,kk⟩:=h;have big:=sizeLine_eq
  refine⟨_,(af (aj (i:=1) sc__law_fractions.nd rfl (Or.inl rfl) (aT ac))
   (af (ck PassesOwn.never rfl (fC rfl T.range_ (aa ae ac)) (aU (i:=2) sc__law_fractions.nd rfl (Or.inl rfl))
     (af (aj (i:=3) sc__law_fractions.nd rfl (Or.inl rfl) (am kz (hr.mono) rfl j8 ka kn .nil ai (aa (pv 0) (aa (pv 2) ac))))
       (ah (aO (PW.pt (fA (aH dc (al cS (pv 3) ae) ae (aC _)) (fz (aH fH (pv 3) ae (aC _)))))
         (af (aj (i:=4) sc__law_fractions.nd rfl (Or.inl rfl) (al cs (al cS (al cT (pv 3) ae) ae) ae))
           (af (aj (i:=5) sc__law_fractions.nd rfl (Or.inl rfl) (al bR ae (al cS (al cT (pv 3) ae) ae)))
           (af (aj (i:=6) sc__law_fractions.nd rfl (Or.inl rfl) (am uN (hr.mono) rfl rT sk uv .nil ai (aa (aQ fU (by rfl) T.abs_ PyProof.Rows.boot_abs (aa (pv 4) ac)) (aa (pv 5) ac))))
           (ah (eu (jW PySem.F.plainAttrs_list PySem.F.slot_list_append PySem.F.type_list_append j6 (pv 1) (aa (cQ (aa (al cT (pv 4) (pv 6)) (aa (al cT (pv 5) (pv 6)) (aa (al bR ae (al cS (al cT (pv 3) ae) ae)) ac)))) ac)))))))
         aP))))
   (ah (aw (pv 1))))),?_⟩
  refine av ⟨by show 0<=sizeLine;decide,λp hp=>?_⟩;have s1:=Same.upd_new (o:=.lst []) hp;have e1:upd H p (.lst []) p=some (.lst []):=ao;generalize upd H p (.lst [])=H1 at s1 e1 ⊢
  refine⟨4,rfl,by decide,by decide,kf (lo:=0) (n:=4) (λi σ' H'=>∃(z2 z3 z4 z5 z6:Option V) (qs:List Addr) (ts:List ((Int×Int)×Nat)),σ'=[some (.ref a),some (.ref p),z2,z3,z4,z5,z6]/\Same H H'/\H' p=some (.lst (qs.map V.ref))/\TuH H' qs (ts.map tr3)/\(∀x∈ts,FrO x.1/\(x.2=1\/x.2=2))/\ts.length<=i) ⟨none,none,none,none,none,[],[],rfl,s1,e1,TuH.nil,λ_ h=>(nomatch h),M0 _⟩ ?_ ?_⟩
  ·rintro i σ' H2 hi ⟨z2,z3,z4,z5,z6,qs,ts,rfl,s2,e2,hT,hok,hlen⟩;rw[show(0:Int)+(i:Int)=i from NF _];show cD _ _ _ _ _;refine av ⟨_,rfl,_,rfl,a,ns,i,rfl,s2.seq hS,?_⟩;generalize ns.getD i 0=c;refine dz (u:=dY _ _ _) (λσ' H'=>σ'=[some (.ref a),some (.ref p),some (.int i),some (.int c),z4,z5,z6]/\H2=H') ⟨rfl,rfl⟩ ?_;rintro σ' H3 ⟨rfl,rfl⟩;have stay:∀z4 z5 z6:Option V,∃(y2 y3 y4 y5 y6:Option V) (qs:List Addr) (ts:List ((Int×Int)×Nat)),([some (.ref a),some (.ref p),some (.int i),some (.int c),z4,z5,z6]:St)=[some (.ref a),some (.ref p),y2,y3,y4,y5,y6]/\Same H H2/\H2 p=some (.lst (qs.map V.ref))/\TuH H2 qs (ts.map tr3)/\(∀x∈ts,FrO x.1/\(x.2=1\/x.2=2))/\ts.length<=i+1:=λz4 z5 z6=>⟨_,_,_,_,_,qs,ts,rfl,s2,e2,hT,hok,Nat.le_succ_of_le hlen⟩
   refine fx (gm ⟨_,rfl,_,_,rfl,rfl,(by show(0:Int)<5;decide),_,_,rfl,rfl,_,rfl,aX (λ_=>⟨_,rfl,_,_,rfl,rfl,_,rfl,cG (λ_=>?_) (λ_=>nR (stay _ _ _))⟩) (λ_=>nR (stay _ _ _))⟩);have t0:=N8 (c/5) (b:=41) (by decide);have t1:=N9 (c/5) (b:=41) (by decide);have b0:=N8 (c/205) (b:=6) (by decide);have b1:=N9 (c/205) (b:=6) (by decide);have o0:=N8 (c/1230) (b:=2) (by decide);have o1:=N9 (c/1230) (b:=2) (by decide);refine av ⟨_,rfl,_,_,rfl,rfl,⟨by decide,sm9 5 (by decide) (by decide)⟩,_,_,rfl,rfl,(by show(0:Int)<41;decide),_,_,rfl,rfl,?_⟩;refine av ⟨_,rfl,_,_,rfl,rfl,⟨by decide,sm9 205 (by decide) (by decide)⟩,_,_,rfl,rfl,(by show(0:Int)<6;decide),_,_,rfl,rfl,?_⟩;show cD _ _ _ _ _;obtain⟨t,ht⟩:∃t,c/5%41-20=t:=⟨_,rfl⟩;obtain⟨b,hb⟩:∃b,1+c/205%6=b:=⟨_,rfl⟩;have ht20:t.natAbs<=20:=by omega
   have hb1:1<=b:=by omega
   have hb6:b<=6:=by omega
   refine dz (λσ' H'=>σ'=[some (.ref a),some (.ref p),some (.int i),some (.int c),some (.int t),some (.int b),z6]/\H2=H') ⟨by rw[<- ht,<- hb];rfl,rfl⟩ ?_;rintro σ' H3 ⟨rfl,rfl⟩;refine av ⟨_,rfl,_,rfl,_,rfl,_,_,rfl,by rw[Ao];omega,by omega,?_⟩;rw[Ao,Nr];obtain⟨g,hg⟩:∃g,Nat.gcd t.natAbs b.natAbs=g:=⟨_,rfl⟩;rw[hg];have gp:0<g:=by rw[<- hg];exact Nat.gcd_pos_of_pos_right _ (by omega)
   have g6:g<=6:=Nb (by rw[<- hg];exact Nat.le_of_dvd (by omega) (Ob _ _)) (show b.natAbs<=6 by omega);have bg:Bits 9000 (g:Int):=sm9 _ (by omega) (by omega);have hF:=Ih ht20 hb1 hb6 hg.symm;refine nS ⟨_,rfl,.inl ⟨rfl,_,SqL.of e2⟩,_,rfl,_,rfl,_,_,rfl,rfl,⟨by omega,bg⟩,_,rfl,_,rfl,_,_,rfl,rfl,⟨by omega,bg⟩,_,rfl,_,_,rfl,rfl,⟨by decide,sm9 1230 (by decide) (by decide)⟩,_,_,rfl,rfl,(by show(0:Int)<2;decide),_,_,rfl,rfl,by show 3<=sizeLine;decide,λpt hpt=>?_⟩;obtain⟨o,ho⟩:∃o:Nat,1+c/1230%2=(o:Int):=⟨(1+c/1230%2).toNat,by omega⟩;have u3:=Same.upd_new (o:=.tup [V.int (t/(g:Int)),V.int (b/(g:Int)),V.int (1+c/1230%2)]) hpt;have e3:=u3 _ _ e2;have e4:upd H2 pt (.tup [V.int (t/(g:Int)),V.int (b/(g:Int)),V.int (1+c/1230%2)]) pt=some (.tup ((tr3 ((t/(g:Int),b/(g:Int)),o)).map V.int)):=by rw[ao,ho];rfl
   generalize upd H2 pt (.tup [V.int (t/(g:Int)),V.int (b/(g:Int)),V.int (1+c/1230%2)])=H4 at u3 e3 e4 ⊢
   have hql:qs.length=ts.length:=by rw[hT.1,MZ]
   refine⟨p,_,_,rfl,rfl,e3,by rw[MZ];omega,?_⟩;refine⟨_,_,_,_,_,qs++[pt],ts++[((t/(g:Int),b/(g:Int)),o)],rfl,fJ (s2.trans u3) hp,by rw[ao,No];rfl,?_,?_,by rw[Nh];show ts.length+1<=i+1;omega⟩
   ·rw[No];exact((hT.same u3).snoc e4).upd_lst e3
   ·intro x hx;rcases Nu.mp hx with z |z
    ·exact hok x z
    ·rw[Nf.mp z];exact⟨hF,by show o=1\/o=2;omega⟩
  ·rintro σ' H2 ⟨z2,z3,z4,z5,z6,qs,ts,rfl,s2,e2,hT,hok,hlen⟩;exact⟨_,rfl,kk p H2 qs ts s2 hp e2 hT ⟨hok,hlen⟩⟩
noncomputable def gsT(ts:List ((Int×Int)×Nat)):List ((Int×Int)×Nat):=ts.foldl (λgs p=>RM.ins p.1 p.2 gs) []
theorem yP(ts:List ((Int×Int)×Nat))(p:(Int×Int)×Nat):gsT (ts++[p])=RM.ins p.1 p.2 (gsT ts):=by unfold gsT;rw[OQ];rfl
theorem BF{α:Type}{M:List α->Prop}(h0:M [])(h1:∀l x,M l->M (l++[x]))(l:List α):M l:=by
 have:∀r:List α,M r.reverse:=λr=>by
  induction r with
  |nil=>exact h0
  |cons x r ih=>rw[List.reverse_cons];exact h1 _ _ ih
 have:=this l.reverse
 rwa [List.reverse_reverse]at this
theorem yz(x:Int×Int)(m:Nat):∀gs,(RM.ins x m gs).length<=gs.length+1
 | []=>M0 _
 |p::gs=>by
  unfold RM.ins;split
  ·exact Nat.le_succ _
  ·have:=yz x m gs;rw[Nq,Nq];omega
theorem yQ(ts:List ((Int×Int)×Nat))(h:∀p∈ts,FrO p.1/\(p.2=1\/p.2=2)):GsO (gsT ts)/\bE (gsT ts)<=2*ts.length/\(gsT ts).length<=ts.length/\ks (gsT ts)=(ts.map (·.1)).foldl bG []:=by
 revert h;refine BF (M:=λts=>(∀p∈ts,FrO p.1/\(p.2=1\/p.2=2))->GsO (gsT ts)/\bE (gsT ts)<=2*ts.length/\(gsT ts).length<=ts.length/\ks (gsT ts)=(ts.map (·.1)).foldl bG []) ?_ ?_ ts
 ·exactλ_=>⟨⟨λ_ h=>(nomatch h),λ_ h=>(nomatch h),List.nodup_nil⟩,M0 _,M0 _,rfl⟩
 ·intro l x ih h;obtain⟨i1,i2,i3,i4⟩:=ih λp hp=>h p (NQ _ hp)
  obtain⟨x1,x2⟩:=h x (by simp);rw[yP];have:=yz x.1 x.2 (gsT l);refine⟨i1.ins x1 (by omega),?_,?_,?_⟩
  ·rw[yx,Nh];show _<=2*(l.length+1);omega
  ·rw[Nh];show _<=l.length+1;omega
  ·rw[oU,i4,No,OQ];rfl
noncomputable def cc(c:Int)(ts:List ((Int×Int)×Nat)):List Int:=ad [c] (fP id (uG (gsT ts)))
theorem Lq(c:Int)(ts:List ((Int×Int)×Nat))(p:(Int×Int)×Nat):cc c (ts++[p])=ad (cc c ts) (pw (sF p.1) p.2):=by unfold cc;rw[yP,yA];ac_rfl
theorem BB(acc:List Int)(x:Int×Int)(j:Nat):ad (ad acc (pw (sF x) j)) (sF x)=ad acc (pw (sF x) (j+1)):=by
 show _=ad acc (ad (sF x) (pw (sF x) j))
 ac_rfl
def qj:Sp:=λvs H Q _=>∃(a:Addr) (cell:Int) (qs:List Addr) (ts:List ((Int×Int)×Nat)),vs=[.ref a,.int cell]/\H a=some (.lst (qs.map V.ref))/\TuH H qs (ts.map tr3)/\FrT ts/\∀(p:Addr) (H':Hp) (kp:List Int) (ex:Bool) (c:Int),Same H H'->H p=none->H' p=some (.lst (kp.map V.int))->KpO kp (gsT ts) ex c->Q (.ref p) H'
theorem E4{f:Addr}{fd:FuncData}(F:Fun K "_law_product" "_law_product" jz f fd)(T:Txt K mg){JH:Addr}{IT:FuncData}(MJ:Cal P w K mg base 1 "_law_times" ["_law_one","_law_other"] qa JH IT):FnOk P w K mg base CX0 2 f fd ["_law_some","_law_cell"] qj:=by
 obtain⟨Ay,x5,yk,Ag⟩:=MJ;refine F.ok sc__law_product (λvs H Q E h=>?_) (λcdv A outer s H vs Q E hr h=>?_)
 ·obtain⟨a,cell,qs,ts,rfl,_⟩:=h;rfl
 ·obtain⟨a,cell,qs,ts,rfl,hA,hT,hF,kk⟩:=h;have big:=sizeLine_eq
  refine⟨_,(af (aj (i:=2) sc__law_product.nd rfl (Or.inl rfl) (aT (aa (al cs (al cS (pv 1) ae) ae) ac)))
   (af (ck PassesOwn.never rfl (dA (K:=K) rfl (pv 0)) (n9 rfl (dB (aU (i:=3) sc__law_product.nd rfl (Or.inl rfl)) (dB (aU (i:=4) sc__law_product.nd rfl (Or.inl rfl)) (dB (aU (i:=5) sc__law_product.nd rfl (Or.inl rfl)) ln))))
     (ah (ck PassesOwn.never rfl (fC rfl T.range_ (aa (pv 5) ac)) (aU (i:=6) sc__law_product.nd rfl (Or.inl rfl))
       (ah (aj (i:=2) sc__law_product.nd rfl (Or.inl rfl) (am Ay (hr.mono) rfl x5 yk Ag .nil ai (aa (pv 2) (aa (aT (aa (bY bT (pv 3)) (aa (pv 4) ac))) ac))))))))
   (af (aO (aH df (al cS (al cT (pv 1) ae) ae) ae (aC _))
     (ah (aj (i:=2) sc__law_product.nd rfl (Or.inl rfl) (am Ay (hr.mono) rfl x5 yk Ag .nil ai (aa (pv 2) (aa (aT (aa ae (aa ae (aa ae ac)))) ac)))))
     aP)
   (af (aO (aH df (aG (bK (K:=K) rfl) (pv 2) (bY bT ae) (λ_ _=>rfl)) ae (aC _))
     (ah (aw (aT ac)))
     aP)
   (ah (aw (pv 2))))))),?_⟩
  have m0:=N8 cell (b:=7) (by decide);have m1:=N9 cell (b:=7) (by decide);obtain⟨c,hc⟩:∃c,cell%7-3=c:=⟨_,rfl⟩;have c3:c.natAbs<=3:=by omega
  have l4:=hF.l4;have hql:qs.length=ts.length:=by rw[hT.1,MZ]
  refine av ⟨_,rfl,_,_,rfl,rfl,(by show(0:Int)<7;decide),_,_,rfl,rfl,by show 1<=sizeLine;decide,λp hp=>?_⟩;have s1:=Same.upd_new (o:=.lst [V.int (cell%7-3)]) hp;have e1:upd H p (.lst [V.int (cell%7-3)]) p=some (.lst ((cc c []).map V.int)):=by rw[ao,hc];show _=some (HO.lst ((ad [c] [1]).map V.int));rw[cI];rfl
  generalize upd H p (.lst [V.int (cell%7-3)])=H1 at s1 e1 ⊢
  have b0:AllB 40 (cc c []):=by
   show AllB 40 (ad [c] [1]);rw[cI]
   exactλx hx=>by rw[Nf.mp hx];show c.natAbs<2^40;omega
  have sfb:∀x,FrO x->AllB 5 (sF x):=λx h y hy=>by
   have:=h.t;have:=h.b1;have:=h.b6;rcases Nd.mp hy with rfl |hy
   ·show(-x.1).natAbs<2^5;omega
   ·rw[Nf.mp hy];show x.2.natAbs<2^5;omega
  have sne:∀x:Int×Int,sF x≠[]:=λx=>by unfold sF;simp
  refine⟨_,rfl,a,rfl,⟨_,SqL.of (s1 _ _ hA)⟩,lU (K:=K) (a:=a) (xs:=qs.map V.ref) (λi σ' H'=>∃(z3 z4 z5 z6:Option V) (q:Addr),σ'=[some (.ref a),some (.int cell),some (.ref q),z3,z4,z5,z6]/\Same H H'/\H q=none/\H' q=some (.lst ((cc c (ts.take i)).map V.int))/\(cc c (ts.take i)).length<=1+2*i/\cc c (ts.take i)≠[]/\AllB (40*(1+(cc c (ts.take i)).length)) (cc c (ts.take i))) ⟨none,none,none,none,p,rfl,s1,hp,e1,by show(ad [c] [1]).length<=1;rw[cI];exact M0 _,by show ad [c] [1]≠[];rw[cI];simp,b0.mono (by omega)⟩ ?_ ?_ ?_⟩
  ·rintro i σ' H2 _ ⟨z3,z4,z5,z6,q,rfl,s2,_⟩;exact SqL.of (s2 _ _ hA)
  ·rintro i x σ' H2 hx ⟨z3,z4,z5,z6,q,rfl,s2,hq,e2,hl2,hne2,hb2⟩;obtain⟨pt,xs,rfl,hpt,hxs,ept,hi⟩:=(hT.same s2).of_get hx;rw[MZ]at hi;obtain⟨t,ht⟩:∃t,ts[i]?=some t:=⟨ts[i],List.getElem?_eq_getElem hi⟩;have hxt:xs=tr3 t:=by rw[List.getElem?_map,ht]at hxs;exact(Option.some.inj hxs).symm
   subst hxt;obtain⟨t1,t2⟩:=hF.ok t (List.mem_of_getElem? ht);refine⟨pt,_,rfl,SqT.of ept,rfl,_,_,rfl,_,_,rfl,_,_,rfl,rfl,?_⟩;have t2':t.2<=2:=by omega
   refine⟨_,rfl,(t.2:Int),rfl,by omega,by omega,?_⟩;rw[Int.toNat_natCast];have htk:ts.take (i+1)=ts.take i++[t]:=by rw[NO,ht];rfl
   refine kf (lo:=0) (n:=t.2) (λj σ' H'=>∃(z6:Option V) (q:Addr),σ'=[some (.ref a),some (.int cell),some (.ref q),some (.int t.1.1),some (.int t.1.2),some (.int t.2),z6]/\Same H H'/\H q=none/\H' q=some (.lst ((ad (cc c (ts.take i)) (pw (sF t.1) j)).map V.int))/\(ad (cc c (ts.take i)) (pw (sF t.1) j)).length<=1+2*i+j/\ad (cc c (ts.take i)) (pw (sF t.1) j)≠[]/\AllB (40*(1+(ad (cc c (ts.take i)) (pw (sF t.1) j)).length)) (ad (cc c (ts.take i)) (pw (sF t.1) j))) ⟨z6,q,rfl,s2,hq,by show _=some (HO.lst ((ad _ [1]).map V.int));rw[cI];exact e2,by show(ad _ [1]).length<=_;rw[cI];exact hl2,by show ad _ [1]≠[];rw[cI];exact hne2,by show AllB (40*(1+(ad _ [1]).length)) (ad _ [1]);rw[cI];exact hb2⟩ ?_ ?_
   ·rintro j σ' H3 hj ⟨z6,q',rfl,s3,hq',e3,hl3,hne3,hb3⟩;rw[<- BB];generalize ad (cc c (ts.take i)) (pw (sF t.1) j)=acc at e3 hl3 hne3 hb3 ⊢
    refine bX ⟨_,rfl,_,rfl,_,rfl,_,rfl,by show 2<=sizeLine;decide,λp2 hp2=>?_⟩;have u4:=Same.upd_new (o:=.lst [V.int (-t.1.1),V.int t.1.2]) hp2;have hnl:=ba hne3 (sne t.1);have hacc:acc.length<=10:=by omega
    have hap:=M5.mpr hne3;refine⟨q',p2,acc,sF t.1,rfl,u4 _ _ e3,ao,hne3,sne _,by omega,by show 2<=1000;decide,hb3.mono (by omega),(sfb _ t1).mono,λq2 H5 s5 hq2 e5=>?_⟩;have s35:=s3.trans (u4.trans s5);have hln:(ad acc (sF t.1)).length=acc.length+1:=by rw[hnl];show acc.length+2-1=_;omega
    refine⟨_,q2,rfl,s35,s3.free (u4.free hq2),e5,by omega,ou hne3 (sne _),?_⟩;refine rE hb3 (sfb _ t1) ?_;rw[hln];omega
   ·rintro σ' H3 ⟨z6,q',rfl,s3,hq',e3,hl3,hne3,hb3⟩;rw[<- Lq,<- htk]at e3 hl3 hne3 hb3;exact⟨_,_,_,_,q',rfl,s3,hq',e3,by omega,hne3,hb3⟩
  ·rintro σ' H2 ⟨z3,z4,z5,z6,q,rfl,s2,hq,e2,hl2,hne2,hb2⟩;rw[MZ,hql,N0]at e2 hl2 hne2 hb2;obtain⟨g1,g2,g3,g4⟩:=yQ ts hF.ok;dsimp only
   have ex3:AllB 5 ([1,0,1]:List Int):=λx hx=>by
    have:x=1\/x=0\/x=1:=by simpa using hx
    rcases this with rfl |rfl |rfl<;>(show Int.natAbs _<2^5;decide)
   refine fy (λσ' H'=>∃(q:Addr) (ex:Bool),σ'=[some (.ref a),some (.int cell),some (.ref q),z3,z4,z5,z6]/\Same H H'/\H q=none/\H' q=some (.lst ((whl c (usE (gsT ts) ex)).map V.int))/\whl c (usE (gsT ts) ex)≠[]/\(whl c (usE (gsT ts) ex)).length<=20) ?_ (λrest=>⟨_,rfl,_,_,rfl,rfl,⟨by decide,sm9 7 (by decide) (by decide)⟩,_,_,rfl,rfl,(by show(0:Int)<3;decide),_,_,rfl,rfl,_,rfl,aX (λ_=>?_) (λ_=>?_)⟩)
   rotate_left
   ·refine bX ⟨_,rfl,by show 3<=sizeLine;decide,λp2 hp2=>?_⟩;have u4:=Same.upd_new (o:=.lst [V.int 1,V.int 0,V.int 1]) hp2;refine⟨q,p2,cc c ts,[1,0,1],rfl,u4 _ _ e2,ao,hne2,by simp,by omega,by decide,hb2.mono (by omega),ex3.mono,λq2 H5 s5 hq2 e5=>?_⟩
    have e:ad (cc c ts) [1,0,1]=whl c (usE (gsT ts) true):=by unfold cc whl;rw[vt,if_pos rfl,gB]
    have hnl:=ba hne2 (show([1,0,1]:List Int)≠[] by simp);have hne3:=ou hne2 (show([1,0,1]:List Int)≠[] by simp);rw[e]at e5 hnl hne3;exact rest _ _ ⟨q2,true,rfl,s2.trans (u4.trans s5),s2.free (u4.free hq2),e5,hne3,by rw[hnl];show(cc c ts).length+3-1<=20;omega⟩
   ·have e:cc c ts=whl c (usE (gsT ts) false):=by unfold cc whl;rw[vt];rfl
    rw[e]at e2 hne2 hl2;exact rest _ _ ⟨q,false,rfl,s2,hq,e2,hne2,by omega⟩
   rintro σ' H3 ⟨q',ex,rfl,s3,hq',e3,hne3,hl3⟩;have hlast:atI ((whl c (usE (gsT ts) ex)).map V.int) (-1)=some (.int (ap (whl c (usE (gsT ts) ex)))):=oN hne3
   have hl0:ap (whl c (usE (gsT ts) ex))=c*ap (fP id (usE (gsT ts) ex)):=by have:=rX (a:=[c]) (b:=fP id (usE (gsT ts) ex)) (by simp) (fb (mR g1 ex) id).ne;exact this
   have hpos:=(fb (mR g1 ex) id).pos;refine bF ⟨_,rfl,_,rfl,q',_,_,_,rfl,rfl,SqL.of e3,hlast,_,_,rfl,rfl,_,rfl,aX (λh0=>?_) (λh0=>?_)⟩
   ·have h0':ap (whl c (usE (gsT ts) ex))=0:=h0
    have hc0:c=0:=by
     rw[hl0]at h0';rcases NR.mp h0' with z |z
     ·exact z
     ·omega
    refine aZ ⟨by show 0<=sizeLine;decide,λp4 hp4=>?_⟩;exact kk p4 _ [] ex c (s3.then_new hp4) (s3.free hp4) ao ⟨g1,by omega,by omega,c3,by rw[if_pos hc0]⟩
   ·have h0':ap (whl c (usE (gsT ts) ex))≠0:=h0;have hc0:c≠0:=λz=>h0' (by rw[hl0,z,Nz])
    exact aZ ⟨_,rfl,kk q' H3 _ ex c s3 hq' e3 ⟨g1,by omega,by omega,c3,by rw[if_neg hc0]⟩⟩
def qC:Sp:=λvs H Q _=>∃(a:Addr) (one other:Int) (qs:List Addr) (ts:List ((Int×Int)×Nat)),vs=[.ref a,.int one,.int other]/\H a=some (.lst (qs.map V.ref))/\TuH H qs (ts.map tr3)/\FrT ts/\∀(p:Addr) (H':Hp) (ps:List Addr) (xs:List (Int×Int)),Same H H'->H p=none->H' p=some (.lst (ps.map V.ref))->PaH H' ps xs->xs.length=2->(∀x∈xs,PaO x)->Q (.ref p) H'
theorem PaH.snoc{H:Hp}{ps:List Addr}{xs:List (Int×Int)}{p:Addr}{x:Int×Int}(h:PaH H ps xs)(hp:H p=some (prT x)):PaH H (ps++[p]) (xs++[x]):=by
 refine⟨by rw[Nh,Nh,h.1];rfl,λi q y a b=>?_⟩;by_cases hi:i<ps.length
 ·rw[List.getElem?_append_left hi]at a;rw[List.getElem?_append_left (by rw[<- h.1];exact hi)]at b;exact h.2 i q y a b
 ·rw[List.getElem?_append_right (by omega)]at a;rw[List.getElem?_append_right (by rw[<- h.1];omega),<- h.1]at b;by_cases h0:i-ps.length=0
  ·rw[h0]at a b;obtain rfl:p=q:=by simpa using a
   obtain rfl:x=y:=by simpa using b
   exact hp
  ·rw[List.getElem?_eq_none_iff.mpr (by simp;omega)]at a;cases a
theorem PaH.nil{H:Hp}:PaH H [] []:=⟨rfl,λi p x h=>by simp at h⟩
theorem PaH.same{H H':Hp}{ps:List Addr}{xs:List (Int×Int)}(h:PaH H ps xs)(s:Same H H'):PaH H' ps xs:=⟨h.1,λi p x a b=>s _ _ (h.2 i p x a b)⟩
theorem PaH.upd_lst{H:Hp}{ps:List Addr}{xs:List (Int×Int)}{a:Addr}{vs:List V}{o:HO}(h:PaH H ps xs)(ha:H a=some (.lst vs)):PaH (upd H a o) ps xs:=⟨h.1,λi p x e1 e2=>by
 have e3:=h.2 i p x e1 e2
 rw[L2.upd_ne (λz=>by rw[z,ha]at e3;cases e3)];exact e3⟩
theorem wD{D:Ends}{σ:St}{H:Hp}{t1 t2:TS}{c1 c2:TT}(R:Hp->Prop)(b1 b2:Bool)(e1:∀G:Bool->Hp->Prop,(∀H4,R H4->G b1 H4)->c1 σ H G)(e2:b1=true->∀H4,R H4->∀G:Bool->Hp->Prop,(∀H5,R H5->G b2 H5)->c2 σ H4 G)(h1:b1=true->b2=true->∀H4,R H4->t1 D σ H4)(h2:b1=false\/b2=false->∀H4,R H4->t2 D σ H4):dY (pP c1 c2) t1 t2 D σ H:=by
 refine fx (gm (e1 _ λH4 r4=>?_));cases hb1:b1 with
 |false=>exact bQ (bQ (h2 (.inl hb1) H4 r4))
 |true =>
  refine cK (e2 hb1 H4 r4 _ λH5 r5=>?_);cases hb2:b2 with
  |true=>exact cK (h1 hb1 hb2 H5 r5)
  |false=>exact bQ (h2 (.inr hb2) H5 r5)
def EnI(a p pt:Addr)(one other:Int)(H:Hp)(i:Nat)(σ':St)(H':Hp):Prop:=∃(z4 z5:Option V) (ps:List Addr) (xs:List (Int×Int)),σ'=[some (.ref a),some (.int one),some (.int other),some (.ref p),z4,z5]/\Same H H'/\H' pt=some (.tup ([one,other].map V.int))/\H' p=some (.lst (ps.map V.ref))/\PaH H' ps xs/\xs.length=i/\∀x∈xs,PaO x
theorem E7{f:Addr}{fd:FuncData}(F:Fun K "_law_ends" "_law_ends" gj f fd)(T:Txt K mg):FnOk P w K mg base CX0 1 f fd ["_law_some","_law_one","_law_other"] qC:=by
 refine F.ok sc__law_ends (λvs H Q E h=>?_) (λcdv A outer s H vs Q E hr h=>?_)
 ·obtain⟨a,one,other,qs,ts,rfl,_⟩:=h;rfl
 ·obtain⟨a,one,other,qs,ts,rfl,hA,hT,hF,kk⟩:=h;have big:=sizeLine_eq;have hu2:(A.deeper (PyProof.Rows.envOfC "_law_ends" (ag gj) s.heap.objs.size f cdv)).units+66<cLine:=by have:=hr.un;omega
  have l4:=hF.l4;have hql:qs.length=ts.length:=by rw[hT.1,MZ]
  refine⟨_,(af (aj (i:=3) sc__law_ends.nd rfl (Or.inl rfl) (aT ac))
   (af (ck PassesOwn.never rfl (DF (K:=K) rfl (cQ (aa (pv 1) (aa (pv 2) ac)))) (aU (i:=4) sc__law_ends.nd rfl (Or.inl rfl))
     (ah (aO (PW.pt (fA (aH df (al cS (pv 4) ae) ae (aC _)) (fz (aH (DX (K:=K) rfl hu2) (pv 0) (aT ac) (aC _)))))
       (af (aj (i:=5) sc__law_ends.nd rfl (Or.inl rfl) (aG (bK (K:=K) rfl) (pv 0) (al cS (al cT (pv 4) ae) (aQ (cp (K:=K) rfl) (by rfl) T.len_ PySem.boot_len (aa (pv 0) ac))) (λ_ _=>rfl)))
         (ah (eu (jW PySem.F.plainAttrs_list PySem.F.slot_list_append PySem.F.type_list_append j6 (pv 3) (aa (cQ (aa (aG (aV (K:=K) rfl) (pv 5) ae (λ_ _=>rfl)) (aa (aG (aV (K:=K) rfl) (pv 5) ae (λ_ _=>rfl)) ac))) ac)))))
       (ah (eu (jW PySem.F.plainAttrs_list PySem.F.slot_list_append PySem.F.type_list_append j6 (pv 3) (aa (cQ (aa (al cs (al cS (al cT (pv 4) ae) ae) ae) (aa (al bR ae (al cS (al cT (pv 4) ae) ae)) ac))) ac)))))))
   (ah (aw (pv 3))))),?_⟩
  refine av ⟨by show 0<=sizeLine;decide,λp hp=>?_⟩;have s1:=Same.upd_new (o:=.lst []) hp;have e1:upd H p (.lst []) p=some (.lst []):=ao;generalize upd H p (.lst [])=H1 at s1 e1 ⊢
  refine⟨_,rfl,_,rfl,by show 2<=sizeLine;decide,λpt hpt=>?_⟩;have u2:=Same.upd_new (o:=.tup [V.int one,V.int other]) hpt;have s2:=s1.trans u2;have e2:=u2 _ _ e1;have et:upd H1 pt (.tup [V.int one,V.int other]) pt=some (.tup ([one,other].map V.int)):=ao;have npt:pt≠p:=(aN e1 hpt).symm;generalize upd H1 pt (.tup [V.int one,V.int other])=H2 at u2 s2 e2 et ⊢
  refine⟨pt,rfl,⟨_,SqT.of et⟩,Ii (K:=K) (a:=pt) (xs:=[one,other].map V.int) (EnI a p pt one other H) ⟨none,none,[],[],rfl,s2,et,e2,PaH.nil,rfl,λ_ h=>nomatch h⟩ ?_ ?_ ?_⟩
  ·rintro i σ' H3 _ ⟨z4,z5,ps,xs,rfl,_,et3,_⟩;exact SqT.of et3
  ·rintro i x σ' H3 hx ⟨z4,z5,ps,xs,rfl,s3,et3,e3,hP,hl,hok⟩;obtain⟨c,_,rfl,_,hi⟩:=gN hx;have hi2:i<2:=(List.getElem?_eq_some_iff.mp hx).1;have hA3:=s3 _ _ hA
   have fin:∀(H4:Hp) (z5:Option V) (x:Int×Int) (pn:Addr),Same H3 H4->H4 pn=some (prT x)->PaO x->EnI a p pt one other H (i+1) [some (.ref a),some (.int one),some (.int other),some (.ref p),some (.int c),z5] (upd H4 p (.lst (ps.map V.ref++[V.ref pn]))):=λH4 z5 x pn s4 e4 hx=>by
    have e4p:=s4 _ _ e3;refine⟨_,_,ps++[pn],xs++[x],rfl,fJ (s3.trans s4) hp,by rw[upd_ne npt];exact s4 _ _ et3,by rw[ao,No];rfl,PaH.upd_lst (PaH.snoc (PaH.same hP s4) e4) e4p,by rw[Nh,hl];rfl,λy hy=>?_⟩;rcases Nu.mp hy with z |z
    ·exact hok y z
    ·rw[Nf.mp z];exact hx
   have lps:ps.length<5:=by have:=hP.1;omega
   refine dz (u:=dY _ _ _) (λσ' H'=>σ'=[some (.ref a),some (.int one),some (.int other),some (.ref p),some (.int c),z5]/\H3=H') ⟨rfl,rfl⟩ ?_;rintro σ' H3' ⟨rfl,rfl⟩;refine wD (λH4=>Same H3 H4) (decide (c%2=1)) (!decide (qs.map V.ref=[])) (λG hG=>⟨_,rfl,_,_,rfl,rfl,(by show(0:Int)<2;decide),_,_,rfl,rfl,_,rfl,hG _ (Same.refl _)⟩) (λ_ H4 s4 G hG=>⟨_,rfl,by show 0<=sizeLine;decide,λpe hpe=>⟨a,pe,_,rfl,rfl,SqL.of ((Same.upd_new hpe) _ _ (s4 _ _ hA3)),SqL.of ao,_,rfl,hG _ (s4.then_new hpe)⟩⟩) (λ_ hne H4 s4=>?_) (λ_ H4 s4=>?_)
   ·have hne':qs.map V.ref≠[]:=by simpa using hne
    have hpos:(0:Int)<((qs.map V.ref).length:Int):=by have:=M5.mpr hne';omega
    obtain⟨v,hv,ev⟩:=Lg (xs:=qs.map V.ref) (n:=((qs.map V.ref).length:Int)) rfl hpos (c/2);obtain⟨j,hj⟩:=List.mem_iff_getElem?.mp hv;obtain⟨q,ys,rfl,_,hys,eq,hjl⟩:=(hT.same (s3.trans s4)).of_get hj;rw[MZ]at hjl;obtain⟨t,ht⟩:∃t,ts[j]?=some t:=⟨ts[j],List.getElem?_eq_getElem hjl⟩;have hyt:ys=tr3 t:=by rw[List.getElem?_map,ht]at hys;exact(Option.some.inj hys).symm
    subst hyt;obtain⟨o,_⟩:=hF.ok t (List.mem_of_getElem? ht);have hA4:=s4 _ _ hA3;refine av ⟨_,rfl,_,rfl,_,_,rfl,rfl,⟨by decide,sm9 2 (by decide) (by decide)⟩,_,rfl,a,_,rfl,.inl (SqL.of hA4),_,_,rfl,rfl,hpos,a,_,_,_,rfl,rfl,SqL.of hA4,ev,?_⟩;have e4:=s4 _ _ e3;refine nS ⟨_,rfl,.inl ⟨rfl,_,SqL.of e4⟩,_,rfl,q,_,_,_,rfl,rfl,SqT.of eq,rfl,_,rfl,q,_,_,_,rfl,rfl,SqT.of eq,rfl,by show 2<=sizeLine;decide,λpn hpn=>?_⟩;refine⟨p,_,_,rfl,rfl,(Same.upd_new hpn) _ _ e4,by rw[MZ];omega,?_⟩;exact fin _ _ t.1 pn (s4.then_new hpn) ao ⟨by have:=o.t;omega,o.b1,o.b6⟩
   ·have t0:=N8 (c/2) (b:=61) (by decide);have t1:=N9 (c/2) (b:=61) (by decide);have b0:=N8 (c/122) (b:=4) (by decide);have b1:=N9 (c/122) (b:=4) (by decide);have e4:=s4 _ _ e3;refine nS ⟨_,rfl,.inl ⟨rfl,_,SqL.of e4⟩,_,rfl,_,_,rfl,rfl,⟨by decide,sm9 2 (by decide) (by decide)⟩,_,_,rfl,rfl,(by show(0:Int)<61;decide),_,_,rfl,rfl,_,rfl,_,_,rfl,rfl,⟨by decide,sm9 122 (by decide) (by decide)⟩,_,_,rfl,rfl,(by show(0:Int)<4;decide),_,_,rfl,rfl,by show 2<=sizeLine;decide,λpn hpn=>?_⟩;refine⟨p,_,_,rfl,rfl,(Same.upd_new hpn) _ _ e4,by rw[MZ];omega,?_⟩;exact fin _ _ (c/2%61-30,1+c/122%4) pn (s4.then_new hpn) ao ⟨by show(c/2%61-30).natAbs<=30;omega,by show 1<=1+c/122%4;omega,by show 1+c/122%4<=6;omega⟩
  ·rintro σ' H3 ⟨z4,z5,ps,xs,rfl,s3,et3,e3,hP,hl,hok⟩;exact⟨_,rfl,kk p H3 ps xs s3 hp e3 hP hl hok⟩
def ng:Sp:=λvs H Q _=>∃(p q:Addr) (x y:Int×Int),vs=[.ref p,.ref q]/\H p=some (prT x)/\H q=some (prT y)/\Bits 1000 x.1/\Bits 1000 x.2/\Bits 1000 y.1/\Bits 1000 y.2/\Q (.bl (decide (x.1*y.2<y.1*x.2))) H
theorem EW{f:Addr}{fd:FuncData}(F:Fun K "_law_under" "_law_under" jw f fd)(T:Txt K mg):FnOk P w K mg base CX0 1 f fd ["_law_one","_law_other"] ng:=by
 refine F.ok Cr (λvs H Q E h=>?_) (λcdv A outer s H vs Q E hr h=>?_)
 ·obtain⟨p,q,x,y,rfl,_⟩:=h;rfl
 ·obtain⟨p,q,x,y,rfl,hp,hq,b1,b2,b3,b4,k⟩:=h;refine⟨_,(ah (aw (gz dc (al aR (aG (aV (K:=K) rfl) (pv 0) ae (λ_ _=>rfl)) (aG (aV (K:=K) rfl) (pv 1) ae (λ_ _=>rfl))) (al aR (aG (aV (K:=K) rfl) (pv 1) ae (λ_ _=>rfl)) (aG (aV (K:=K) rfl) (pv 0) ae (λ_ _=>rfl))) (aC _)))),?_⟩;exact aZ ⟨_,rfl,p,_,_,_,rfl,rfl,SqT.of hp,rfl,_,rfl,q,_,_,_,rfl,rfl,SqT.of hq,rfl,_,_,rfl,rfl,⟨b1.mono,b4.mono⟩,_,rfl,q,_,_,_,rfl,rfl,SqT.of hq,rfl,_,rfl,p,_,_,_,rfl,rfl,SqT.of hp,rfl,_,_,rfl,rfl,⟨b3.mono,b2.mono⟩,_,_,rfl,rfl,k⟩
noncomputable def EnV(H:Hp)(v:V):Option (Int×Int)->Prop
 |none=>v=.non
 |some x=>∃p,v=.ref p/\H p=some (prT x)/\PaO x
theorem EnV.same{H H':Hp}{v:V}{o:Option (Int×Int)}(h:EnV H v o)(s:Same H H'):EnV H' v o:=by
 cases o with
 |none=>exact h
 |some x=>obtain⟨p,a,b,c⟩:=h;exact⟨p,a,s _ _ b,c⟩
theorem PaO.bits{x:Int×Int}(h:PaO x):Bits 1000 x.1/\Bits 1000 x.2:=by have:=h.t;have:=h.b1;have:=h.b6;exact⟨Bits.mono (j:=5) (by show x.1.natAbs<2^5;omega) (by decide),Bits.mono (j:=5) (by show x.2.natAbs<2^5;omega) (by decide)⟩
def pY:Sp:=λvs H Q _=>∃(a:Addr) (lv hv:V) (lo hi:Option (Int×Int)) (qs:List Addr) (ts:List ((Int×Int)×Nat)),vs=[.ref a,lv,hv]/\H a=some (.lst (qs.map V.ref))/\TuH H qs (ts.map tr3)/\FrT ts/\EnV H lv lo/\EnV H hv hi/\∀(p:Addr) (H':Hp) (ps:List Addr),Same H H'->H p=none->H' p=some (.lst (ps.map V.ref))->PaH H' ps ((ks (gsT ts)).filter (inE lo hi))->Q (.ref p) H'
theorem wE{H:Hp}{v:V}{o:Option (Int×Int)}{σ:St}{i:Nat}{G:Bool->Hp->Prop}(h:EnV H v o)(e:σ[i]?=some (some v))(hN:o=none->G true H)(hS:∀p x,v=.ref p->o=some x->H p=some (prT x)->PaO x->G false H):vB (tOp (λx y H Q=>y=V.non/\Q (.bl (decide (x=V.non))) H) (pN i) (tC .non)) σ H G:=by
 cases o with
 |none =>cases h;exact⟨_,e,rfl,_,rfl,hN rfl⟩
 |some x =>obtain⟨p,rfl,hp,ho⟩:=h;refine⟨_,e,rfl,_,rfl,?_⟩;rw[decide_eq_false (by simp)];exact hS p x rfl rfl hp ho
theorem EU{f:Addr}{fd:FuncData}(F:Fun K "_law_within" "_law_within" gf f fd)(T:Txt K mg){tK:Addr}{sV:FuncData}(va:Cal P w K mg base 1 "_law_under" ["_law_one","_law_other"] ng tK sV):FnOk P w K mg base CX0 2 f fd ["_law_some","_law_low","_law_high"] pY:=by
 obtain⟨mJ,lH,lP,mD⟩:=va;refine F.ok sc__law_within (λvs H Q E h=>?_) (λcdv A outer s H vs Q E hr h=>?_)
 ·obtain⟨a,lv,hv,lo,hi,qs,ts,rfl,_⟩:=h;rfl
 ·obtain⟨a,lv,hv,lo,hi,qs,ts,rfl,hA,hT,hF,hL,hH,kk⟩:=h;have big:=sizeLine_eq;have hu2:(A.deeper (PyProof.Rows.envOfC "_law_within" (ag gf) s.heap.objs.size f cdv)).units+66<cLine:=by have:=hr.un;omega
  have l4:=hF.l4;have hql:qs.length=ts.length:=by rw[hT.1,MZ]
  refine⟨_,(af (aj (i:=3) sc__law_within.nd rfl (Or.inl rfl) (aT ac))
   (af (ck PassesOwn.never rfl (dA (K:=K) rfl (pv 0)) (aU (i:=4) sc__law_within.nd rfl (Or.inl rfl))
     (af (aj (i:=5) sc__law_within.nd rfl (Or.inl rfl) (cQ (aa (aG (aV (K:=K) rfl) (pv 4) ae (λ_ _=>rfl)) (aa (aG (aV (K:=K) rfl) (pv 4) ae (λ_ _=>rfl)) ac))))
       (ah (aO (PW.pt (fA (PW.pt (ei (aH jY (pv 1) eG (aC _)) (gv (db (am mJ (hr.mono) rfl lH lP mD .nil ai (aa (pv 1) (aa (pv 5) ac))))))) (fz (PW.pt (ei (aH jY (pv 2) eG (aC _)) (gv (dN (db (am mJ (hr.mono) rfl lH lP mD .nil ai (aa (pv 2) (aa (pv 5) ac)))))))))))
         (ah (aO (aH (DU (K:=K) rfl hu2) (pv 5) (pv 3) (by rfl))
           (ah (eu (jW PySem.F.plainAttrs_list PySem.F.slot_list_append PySem.F.type_list_append j6 (pv 3) (aa (pv 5) ac))))
           aP))
         aP))))
   (ah (aw (pv 3))))),?_⟩
  refine av ⟨by show 0<=sizeLine;decide,λp hp=>?_⟩;have s1:=Same.upd_new (o:=.lst []) hp;have e1:upd H p (.lst []) p=some (.lst []):=ao;generalize upd H p (.lst [])=H1 at s1 e1 ⊢
  refine⟨_,rfl,a,rfl,⟨_,SqL.of (s1 _ _ hA)⟩,lU (K:=K) (a:=a) (xs:=qs.map V.ref) (λi σ' H'=>∃(z4 z5:Option V) (ps:List Addr),σ'=[some (.ref a),some lv,some hv,some (.ref p),z4,z5]/\Same H H'/\H' p=some (.lst (ps.map V.ref))/\PaH H' ps ((((ts.take i).map (·.1)).filter (inE lo hi)).foldl bG [])/\ps.length<=i/\∀b∈ps,H b=none) ⟨none,none,[],rfl,s1,e1,PaH.nil,M0 _,λ_ h=>nomatch h⟩ ?_ ?_ ?_⟩
  ·rintro i σ' H2 _ ⟨z4,z5,ps,rfl,s2,_⟩;exact SqL.of (s2 _ _ hA)
  ·rintro i x σ' H2 hx ⟨z4,z5,ps,rfl,s2,e2,hP,hl,hfr⟩;obtain⟨q,ys,rfl,_,hys,eq,hjl⟩:=(hT.same s2).of_get hx;rw[MZ]at hjl;obtain⟨t,ht⟩:∃t,ts[i]?=some t:=⟨ts[i],List.getElem?_eq_getElem hjl⟩;have hyt:ys=tr3 t:=by rw[List.getElem?_map,ht]at hys;exact(Option.some.inj hys).symm
   subst hyt;obtain⟨o,_⟩:=hF.ok t (List.mem_of_getElem? ht);have hot:PaO t.1:=⟨by have:=o.t;omega,o.b1,o.b6⟩;have htk:ts.take (i+1)=ts.take i++[t]:=by rw[NO,ht];rfl
   have hnext:(((ts.take (i+1)).map (·.1)).filter (inE lo hi)).foldl bG []=if inE lo hi t.1 then bG ((((ts.take i).map (·.1)).filter (inE lo hi)).foldl bG []) t.1 else((((ts.take i).map (·.1)).filter (inE lo hi)).foldl bG []):=by
    rw[htk,No,List.filter_append,OQ];by_cases h:inE lo hi t.1=true
    ·rw[if_pos h];show List.foldl bG _ (List.filter (inE lo hi) [t.1])=_;rw[show List.filter (inE lo hi) [t.1]=[t.1] by simp[h]];rfl
    ·rw[if_neg h];show List.foldl bG _ (List.filter (inE lo hi) [t.1])=_;rw[show List.filter (inE lo hi) [t.1]=[] by simp[h]];rfl
   rw[hnext];generalize (((ts.take i).map (·.1)).filter (inE lo hi)).foldl bG []=ds at hP ⊢
   show cD _ _ _ _ _;refine av ⟨_,rfl,q,_,_,_,rfl,rfl,SqT.of eq,rfl,_,rfl,q,_,_,_,rfl,rfl,SqT.of eq,rfl,by show 2<=sizeLine;decide,λpn hpn=>?_⟩;have u3:=Same.upd_new (o:=prT t.1) hpn;have e3:upd H2 pn (prT t.1) pn=some (prT t.1):=ao;have f3:H pn=none:=s2.free hpn
   have nin:pn∉ps:=λz=>by
    obtain⟨j,hj⟩:=List.mem_iff_getElem?.mp z;have hjx:j<ds.length:=by rw[<- hP.1];exact(List.getElem?_eq_some_iff.mp hj).1
    have:=hP.2 j pn _ hj (List.getElem?_eq_getElem hjx);rw[hpn]at this;cases this
   refine dz (u:=dY _ _ _) (λσ' H'=>σ'=[some (.ref a),some lv,some hv,some (.ref p),some (.ref q),some (.ref pn)]/\upd H2 pn (prT t.1)=H') ⟨rfl,rfl⟩ ?_;rintro σ' H3 ⟨rfl,rfl⟩;generalize upd H2 pn (prT t.1)=H3 at u3 e3 ⊢
   have s3:=s2.trans u3;have e3p:=u3 _ _ e2;have hP3:=PaH.same hP u3;have bt:=hot.bits;refine wD (λH4=>H3=H4) (yB lo t.1) (yC hi t.1) (λG hG=>?_) (λ_ H4 e4 G hG=>?_) (λb1 b2 H4 e4=>?_) (λhb H4 e4=>?_)
   ·refine d7 (wE (hL.same s3) rfl (λh0=>?_) (λpl x h1 h2 h3 h4=>?_))
    ·subst h0;exact cK (hG _ rfl)
    ·subst h1 h2;exact bQ ⟨_,rfl,_,rfl,pl,pn,x,t.1,rfl,h3,e3,h4.bits.1,h4.bits.2,bt.1,bt.2,_,rfl,hG _ rfl⟩
   ·subst e4;refine d7 (wE (hH.same s3) rfl (λh0=>?_) (λpl x h1 h2 h3 h4=>?_))
    ·subst h0;exact cK (hG _ rfl)
    ·subst h1 h2;exact bQ (d8 ⟨_,rfl,_,rfl,pl,pn,x,t.1,rfl,h3,e3,h4.bits.1,h4.bits.2,bt.1,bt.2,_,rfl,hG _ rfl⟩)
   ·subst e4;have hin:inE lo hi t.1=true:=by unfold inE;rw[b1,b2];rfl
    rw[if_pos hin];refine fx ⟨_,rfl,_,rfl,p,pn,ps,ds,t.1,rfl,rfl,e3,SqL.of e3p,hP3,nin,_,rfl,?_⟩;unfold bG;by_cases hm:t.1∈ds
    ·rw[decide_eq_true hm,if_pos hm];exact bQ (nR ⟨_,_,ps,rfl,s3,e3p,hP3,by omega,hfr⟩)
    ·rw[decide_eq_false hm,if_neg hm];refine cK (nS ⟨_,rfl,.inl ⟨rfl,_,SqL.of e3p⟩,_,rfl,p,_,_,rfl,rfl,e3p,by rw[MZ];omega,?_⟩);refine⟨_,_,ps++[pn],rfl,fJ s3 hp,by rw[ao,No];rfl,PaH.upd_lst (PaH.snoc hP3 e3) e3p,by rw[Nh];show ps.length+1<=i+1;omega,λb hb=>?_⟩;rcases Nu.mp hb with z |z
     ·exact hfr b z
     ·rw[Nf.mp z];exact f3
   ·subst e4
    have hin:¬inE lo hi t.1=true:=by
     unfold inE;rcases hb with h |h
     ·rw[h];simp
     ·rw[h];simp
    rw[if_neg hin];exact nR ⟨_,_,ps,rfl,s3,e3p,hP3,by omega,hfr⟩
  ·rintro σ' H2 ⟨z4,z5,ps,rfl,s2,e2,hP,hl,hfr⟩;rw[MZ,hql,N0]at hP
   have e:((ts.map (·.1)).filter (inE lo hi)).foldl bG []=(ks (gsT ts)).filter (inE lo hi):=by rw[(yQ ts hF.ok).2.2.2];exact wW (inE lo hi) (ts.map (·.1)) []
   rw[e]at hP;exact⟨_,rfl,kk p H2 ps s2 hp e2 hP⟩
theorem yd{M:Nat->Prop}:∀n k,k<=n->M k->∃j,M j/\∀i,i<j->¬M i
 |0,k,hk,h=>⟨k,h,λi hi=>absurd hi (by omega)⟩
 |n+1,k,hk,h=>by
  by_cases hx:∃i,i<k/\M i
  ·obtain⟨i,hi,hM⟩:=hx;exact yd n i (by omega) hM
  ·exact⟨k,h,λi hi hM=>hx ⟨i,hi,hM⟩⟩
theorem Hw{os:List Int}{l:Nat}(hl:0<l):∃k,isB os l k:=by
 obtain⟨m,hm⟩:∃m:Nat,∀x∈os,x.natAbs<=m:=by
  induction os with
  |nil=>exact⟨0,λ_ h=>nomatch h⟩
  |cons y os ih =>
   obtain⟨m,hm⟩:=ih;refine⟨m+y.natAbs,λx hx=>?_⟩;rcases Nd.mp hx with z |z
   ·rw[z];omega
   ·have:=hm x z;omega
 have h0:∀x∈os,x.natAbs<=(2^(m+1)-1)*l:=λx hx=>by have h1:=hm x hx;have h2:m+1<2^(m+1):=Nat.lt_two_pow_self;have h3:(2^(m+1)-1)*1<=(2^(m+1)-1)*l:=Oo _ hl;omega
 obtain⟨j,hj,hn⟩:=yd (M:=λk=>∀x∈os,x.natAbs<=(2^k-1)*l) (m+1) (m+1) (M0 _) h0;refine⟨j,hj,λi hi=>?_⟩;have:=hn i hi;apply Classical.byContradiction;intro hx;refine this λx hx'=>?_
 apply Classical.byContradiction;intro hy;exact hx ⟨x,hx',by omega⟩
def fZ(C CN CR CT:Addr):Sp:=λvs H Q E=>∃(a:Addr) (lv hv:V) (lo hi:Option (Int×Int)) (kp:List Int) (gs:List ((Int×Int)×Nat)) (ex:Bool) (c:Int),vs=[.ref a,lv,hv]/\H a=some (.lst (kp.map V.int))/\KpO kp gs ex c/\EnV H lv lo/\EnV H hv hi/\(lo=none->hi=none) /\
 (9<kp.length->XV CT "degree" (kp.length-1) H E)/\(kp.length<2->XV CR "many" 0 H E)/\(2<=kp.length->kp.length<=9->((ks gs).filter (inE lo hi)).length≠1->XV CR "many" ((ks gs).filter (inE lo hi)).length H E) /\
 (2<=kp.length->kp.length<=9->∀z,(ks gs).filter (inE lo hi)=[z]->FrO z->∀(x q l h:Addr) (l1 l2 h1 h2:Int) (H':Hp),Same H H'->NA CN H' x q l h->RA C H' l l1 l2->RA C H' h h1 h2->EndB 250 l1 l2 h1 h2->l1*z.2<z.1*l2->¬h1*z.2<z.1*h2->H' q=some (.lst ((sF z).map V.int))->Q (.ref x) H')
theorem Fa{C CN CNoRoot CTooHigh f:Addr}{fd:FuncData}(F:Fun K "_law_asked" "_law_asked" jE f fd)(T:Txt K mg)(R:RCI K mg C){Jq:Addr}{IB:FuncData}(Mr:CalVE P w K mg base 39 "number" ["row","low","high"] (nr C CN CNoRoot CTooHigh) Jq IB){cw:Addr}{cv:FuncData}{cx:List Value}(cz:KCal P w K mg base 2 C "Ratio" ["self","top","bottom"] (cP C) cw cv cx [.int 1]):FnOk P w K mg base (CXV P w) 40 f fd ["_law_kp","_law_low","_law_high"] (fZ C CN CNoRoot CTooHigh):=by
 obtain⟨uL,rR,si,KJ,Ld,Lc⟩:=Mr;obtain⟨ci,cg,bZ,cy,du,dm⟩:=cz;refine F.okV Cu (λvs H Q E h=>?_) (λcdv A outer s H vs Q E hr h=>?_)
 ·obtain⟨a,lv,hv,lo,hi,kp,gs,ex,c,rfl,_⟩:=h;rfl
 ·obtain⟨a,lv,hv,lo,hi,kp,gs,ex,c,rfl,hA,hK,hL,hH,hLH,kT,kR,kN,k1⟩:=h;have pL:∀x,lo=some x->PaO x:=λx hx=>by subst hx;obtain⟨_,_,_,o⟩:=hL;exact o
  have pH:∀x,hi=some x->PaO x:=λx hx=>by subst hx;obtain⟨_,_,_,o⟩:=hH;exact o
  have exN2:exN ex<=2:=by unfold exN;split<;>omega
  have hlen:kp.length<=1000:=by
   rw[hK.is];split
   ·exact M9 _
   ·rw[yf hK.ok];have:=hK.s8;omega
  have nb:∀(H1:Hp) (lo' hi':V),Same H H1->(∀B,NbE C H1 lo' (-B) (eN lo B).1 (eN lo B).2)->(∀B,NbE C H1 hi' B (eV hi B).1 (eV hi B).2)->nr C CN CNoRoot CTooHigh [.ref a,lo',hi'] H1 Q E:=λH1 lo' hi' s1 eL eH=>by
   refine⟨a,lo',hi',kp,rfl,s1 _ _ hA,hlen,λh=>(kT h).step s1,λh=>(kR h).step s1,λh2 h9=>?_⟩;obtain⟨e,hM,hfl,hW⟩:=hK.made h2 h9;obtain⟨tW,nW,_⟩:=fk hM.use hM.c0;rw[<- hM.is]at tW nW;obtain⟨kb,hB⟩:=Hw (os:=kp.take (kp.length-1)) (l:=(ap kp).natAbs) (Oa.mpr (oO tW nW));obtain⟨en,hin⟩:=hK.ends h2 h9 hB pL pH;have hfil:(ks gs).filter (inW (eN lo ((2^kb:Nat):Int)).1 (eN lo ((2^kb:Nat):Int)).2 (eV hi ((2^kb:Nat):Int)).1 (eV hi ((2^kb:Nat):Int)).2)=(ks gs).filter (inE lo hi):=List.filter_congr hin;have hmn:=xO (ex:=ex) hK.ok (l1:=(eN lo ((2^kb:Nat):Int)).1) (h1:=(eV hi ((2^kb:Nat):Int)).1) en.l2p en.h2p;rw[hfil]at hmn;refine⟨c,usE gs ex,fsE gs ex,_,_,_,_,kb,hM,hfl,hW,hB,eL _,eH _,en,λhn=>?_,λhn=>?_⟩
   ·rw[hmn];exact(kN h2 h9 (λz=>hn (by rw[hmn,z];rfl))).step s1
   ·obtain⟨z,hz,oz,hO,i1,i2⟩:=D6 hK.ok hW en hn;rw[hfil]at hz;refine⟨fF z,_,hO,λx q l h H' s' hx hNA hl hh hq hqn=>?_⟩;rw[wc oz]at hq;exact k1 h2 h9 z hz oz x q l h _ _ _ _ H' (s1.trans s') hNA hl hh en i1 i2 hq
  refine⟨_,(af (aO (aH jY (pv 1) eG (aC _))
   (ah (aw (am (dvs:=[.non,.non]) uL (hr.mono) rfl rR si Lc (.cons rfl (.cons rfl (.nil))) (oj (λ_ _ _ z=>z)) (aa (pv 0) ac))))
   aP)
   (af (aO (aH jY (pv 2) eG (aC _))
     (ah (aw (am (dvs:=[.non]) uL (hr.mono) rfl rR si Ld (.cons rfl (.nil)) (oj (λ_ _ _ z=>z)) (aa (pv 0) (aa (cM cg ci (hr.mono) rfl bZ cy .nil ai (aa (aG (aV (K:=K) rfl) (pv 1) ae (λ_ _=>rfl)) (aa (aG (aV (K:=K) rfl) (pv 1) ae (λ_ _=>rfl)) ac))) ac)))))
     aP)
   (ah (aw (am uL (hr.mono) rfl rR si KJ .nil (oj (λ_ _ _ z=>z)) (aa (pv 0) (aa (cM cg ci (hr.mono) rfl bZ cy .nil ai (aa (aG (aV (K:=K) rfl) (pv 1) ae (λ_ _=>rfl)) (aa (aG (aV (K:=K) rfl) (pv 1) ae (λ_ _=>rfl)) ac))) (aa (cM cg ci (hr.mono) rfl bZ cy .nil ai (aa (aG (aV (K:=K) rfl) (pv 2) ae (λ_ _=>rfl)) (aa (aG (aV (K:=K) rfl) (pv 2) ae (λ_ _=>rfl)) ac))) ac)))))))),?_⟩
  cases lo with
  |none =>obtain rfl:lv=.non:=hL;obtain rfl:=hLH rfl;obtain rfl:hv=.non:=hH;exact bF ⟨_,rfl,rfl,_,rfl,cK (aZ ⟨_,rfl,nb H _ _ (Same.refl H) (λB=>.inl ⟨rfl,rfl,rfl⟩) (λB=>.inl ⟨rfl,rfl,rfl⟩)⟩)⟩
  |some x =>
   obtain⟨pl,rfl,hpl,ox⟩:=hL;have xb:x.2≠0:=by have:=ox.b1;omega
   have bx:Bits 9000 x.2:=ox.bits.2.mono;refine bF ⟨_,rfl,rfl,_,rfl,?_⟩;rw[decide_eq_false (by simp)];refine bQ ?_;cases hi with
   |none =>obtain rfl:hv=.non:=hH;refine bF ⟨_,rfl,rfl,_,rfl,cK (aZ ⟨_,rfl,_,rfl,pl,_,_,_,rfl,rfl,SqT.of hpl,rfl,_,rfl,pl,_,_,_,rfl,rfl,SqT.of hpl,rfl,dj (t:=x.1) (b:=x.2) xb bx λp1 H1 s1 hp1 hR1=>?_⟩)⟩;exact nb H1 _ _ s1 (λB=>.inr ⟨p1,rfl,hR1⟩) (λB=>.inl ⟨rfl,rfl,rfl⟩)
   |some y =>
    obtain⟨ph,rfl,hph,oy⟩:=hH;have yb:y.2≠0:=by have:=oy.b1;omega
    have by':Bits 9000 y.2:=oy.bits.2.mono;refine bF ⟨_,rfl,rfl,_,rfl,?_⟩;rw[decide_eq_false (by simp)];refine bQ (aZ ⟨_,rfl,_,rfl,pl,_,_,_,rfl,rfl,SqT.of hpl,rfl,_,rfl,pl,_,_,_,rfl,rfl,SqT.of hpl,rfl,dj (t:=x.1) (b:=x.2) xb bx λp1 H1 s1 hp1 hR1=>?_⟩);have hph1:=s1 _ _ hph;refine⟨_,rfl,ph,_,_,_,rfl,rfl,SqT.of hph1,rfl,_,rfl,ph,_,_,_,rfl,rfl,SqT.of hph1,rfl,dj (t:=y.1) (b:=y.2) yb by' λp2 H2 s2 hp2 hR2=>?_⟩;exact nb H2 _ _ (s1.trans s2) (λB=>.inr ⟨p1,rfl,hR1.same s2⟩) (λB=>.inr ⟨p2,rfl,hR2⟩)
def nk(C:Addr):Sp:=λvs H Q _=>∃(a:Addr) (lv hv:V) (lo hi:Option (Int×Int)) (kp:List Int) (gs:List ((Int×Int)×Nat)) (ex:Bool) (c:Int) (n:Nat),vs=[.ref a,lv,hv,.int ((kp.length:Int)-1),.int n]/\H a=some (.lst (kp.map V.int))/\KpO kp gs ex c/\EnV H lv lo/\EnV H hv hi/\(lo=none->hi=none)/\(kp.length<2->n=0)/\(2<=kp.length->n=((ks gs).filter (inE lo hi)).length)/\(9<kp.length\/n≠1)/\∀H',Same H H'->Q (.bl true) H'
theorem EZ{C CN f:Addr}{fd:FuncData}(F:Fun K "_law_refused" "_law_refused" gg f fd)(T:Txt K mg)(R:RCI K mg C){CNoRoot CTooHigh CRootError:Addr}(XE:EXC K mg base CNoRoot CTooHigh CRootError){tN:Addr}{sY:FuncData}(vf:CalV P w K mg base 40 "_law_asked" ["_law_kp","_law_low","_law_high"] (fZ C CN CNoRoot CTooHigh) tN sY){me:Addr}{lY:FuncData}(mO:Cal P w K mg base 1 "_law_whole" ["_law_found"] kI me lY){tT:Addr}{tj:FuncData}(C_NoRoot:XCal P w K mg base 1 CNoRoot "NoRoot" "many" ["self","many"] tT tj){tO:Addr}{sZ:FuncData}(C_TooHigh:XCal P w K mg base 1 CTooHigh "TooHigh" "degree" ["self","degree"] tO sZ):FnOk P w K mg base CX0 41 f fd ["_law_kp","_law_low","_law_high","_law_height","_law_many"] (nk C):=by
 obtain⟨pJ,oK,oR,pF⟩:=vf;obtain⟨ky,j7,j9,km⟩:=mO;refine F.ok sc__law_refused (λvs H Q E h=>?_) (λcdv A outer s H vs Q E hr h=>?_)
 ·obtain⟨a,lv,hv,lo,hi,kp,gs,ex,c,n,rfl,_⟩:=h;rfl
 ·obtain⟨a,lv,hv,lo,hi,kp,gs,ex,c,n,rfl,hA,hK,hL,hH,hLH,n0,n1,hbad,kk⟩:=h;have big:=sizeLine_eq;have hu2:(A.deeper (PyProof.Rows.envOfC "_law_refused" (ag gg) s.heap.objs.size f cdv)).units+66<cLine:=by have:=hr.un;omega
  refine⟨_,(af (aj (i:=5) sc__law_refused.nd rfl (Or.inl rfl) eG)
   (af (aj (i:=6) sc__law_refused.nd rfl (Or.inl rfl) (aT ac))
   (af (Dt rfl rfl (wQ pJ (hr.mono) (λ_=>rfl) oK oR pF .nil (λ_=>(aa (pv 0) (aa (pv 1) (aa (pv 2) ac))))) (λ_ _=>rfl) XE.mgRootError sc__law_refused.nd (i:=7) rfl rfl (λea oe=>(ah (aj (i:=6) sc__law_refused.nd rfl (Or.inl rfl) (aT (aa (aQ ui (by rfl) T.isinstance_ PyProof.Rows.boot_isinstance (aa (pv 7) (aa (oh (v:=.ty "ValueError") (by rfl) T.ValueError_ PyProof.Rows.boot_ValueError (by rfl)) ac))) (aa (aQ ui (by rfl) T.isinstance_ PyProof.Rows.boot_isinstance (aa (pv 7) (aa (lw (v:=.ref CNoRoot) rfl XE.mgNoRoot rfl) ac))) (aa (aQ ui (by rfl) T.isinstance_ PyProof.Rows.boot_isinstance (aa (pv 7) (aa (lw (v:=.ref CTooHigh) rfl XE.mgTooHigh rfl) ac))) ac))))))))
   (af (aO (aH (DZ (K:=K) rfl hu2) (pv 6) (aT (aa fG (aa (gz D2 (pv 3) ae (aC _)) (aa (gz dD (pv 3) ae (aC _)) ac)))) (aC _))
     (ah (aw fG))
     aP)
   (af (Ds rfl rfl (wQ pJ (hr.mono) (λ_=>rfl) oK oR pF .nil (λ_=>(aa (pv 0) (aa (pv 1) (aa (pv 2) ac))))) (λ_ _=>rfl) XE.mgNoRoot (λ_ _=>rfl) XE.mgTooHigh sc__law_refused.nd (i:=7) rfl rfl (λea oe=>(ah (aj (i:=5) sc__law_refused.nd rfl (Or.inl rfl) (xi (pv 7) rfl)))) (i2:=7) rfl rfl (λea oe=>(ah (aj (i:=5) sc__law_refused.nd rfl (Or.inl rfl) (xi (pv 7) rfl)))))
   (af (aO (aH dD (pv 3) ae (aC _))
     (ah (aj (i:=4) sc__law_refused.nd rfl (Or.inl rfl) (pv 3)))
     aP)
   (ah (aw (oi (am ky (hr.mono) rfl j7 j9 km .nil ai (aa (pv 5) ac)) (og (gz df (pv 5) (pv 4) (aC _)))))))))))),?_⟩
  have ask:∀(H1:Hp) (Q1:VK) (E1:XK),Same H H1->(9<kp.length->XV CTooHigh "degree" (kp.length-1) H1 E1)->(kp.length<=9->XV CNoRoot "many" n H1 E1)->fZ C CN CNoRoot CTooHigh [.ref a,lv,hv] H1 Q1 E1:=λH1 Q1 E1 s1 kT kN=>by
   refine⟨a,lv,hv,lo,hi,kp,gs,ex,c,rfl,s1 _ _ hA,hK,hL.same s1,hH.same s1,hLH,kT,λh=>?_,λh2 h9 hn=>?_,λh2 h9 z hz=>?_⟩
   ·have:=kN (by omega);rw[n0 h]at this;exact this
   ·have:=kN h9;rw[n1 h2]at this;exact this
   ·exfalso;have:=n1 h2;rw[hz]at this;rcases hbad with q |q
    ·omega
    ·exact q this
  refine av (av ⟨by show 0<=sizeLine;decide,λp hp=>?_⟩);have s1:=Same.upd_new (o:=.lst []) hp;show cD _ _ _ _ _;refine dz (λσ' H'=>σ'=[some (.ref a),some lv,some hv,some (.int ((kp.length:Int)-1)),some (.int n),some .non,some (.ref p),none]/\Same H H') ⟨rfl,s1⟩ ?_;clear s1 hp;rintro σ' H1 ⟨rfl,s1⟩;have hN:kp.length<=9->decide ((kp.length:Int)-1<=8)=true/\decide ((kp.length:Int)-1>8)=false:=λh=>⟨decide_eq_true (by omega),decide_eq_false (by omega)⟩
  have hT:9<kp.length->decide ((kp.length:Int)-1<=8)=false/\decide ((kp.length:Int)-1>8)=true:=λh=>⟨decide_eq_false (by omega),decide_eq_true (by omega)⟩
  refine kZ (λσ' H'=>∃pk:Addr,σ'=[some (.ref a),some lv,some hv,some (.int ((kp.length:Int)-1)),some (.int n),some .non,some (.ref pk),none]/\Same H H'/\H' pk=some (.lst ([true,decide ((kp.length:Int)-1<=8),decide ((kp.length:Int)-1>8)].map V.bl))) ?_ (λrest=>?_)
  rotate_left
  ·refine⟨_,rfl,_,rfl,_,rfl,?_⟩;refine nQ ?_;change fZ C CN CNoRoot CTooHigh _ H1 _ _;refine ask H1 _ _ s1 (λh9 H' dx s' ed=>⟨XE.hit_TooHigh_RootError,λea oe vs ce de fe he=>?_⟩) (λh9 H' dx s' ed=>⟨XE.hit_NoRoot_RootError,λea oe vs ce de fe he=>?_⟩)
   ·refine bX (wC (jR (jQ ⟨_,rfl,yr ce C_TooHigh.ec XE.is_TooHigh_ValueError ?_⟩)));refine jR (jQ ⟨_,rfl,oS ce C_TooHigh.ec XE.is_TooHigh_NoRoot ?_⟩);refine jR (jQ ⟨_,rfl,oS ce C_TooHigh.ec XE.is_TooHigh_TooHigh ?_⟩);refine nQ ⟨by show 3<=sizeLine;decide,λpk hpk=>?_⟩;refine rest _ _ ⟨pk,rfl,(s1.trans s').then_new hpk,?_⟩;rw[(hT h9).1,(hT h9).2];exact ao
   ·refine bX (wC (jR (jQ ⟨_,rfl,yr ce C_NoRoot.ec XE.is_NoRoot_ValueError ?_⟩)));refine jR (jQ ⟨_,rfl,oS ce C_NoRoot.ec XE.is_NoRoot_NoRoot ?_⟩);refine jR (jQ ⟨_,rfl,oS ce C_NoRoot.ec XE.is_NoRoot_TooHigh ?_⟩);refine nQ ⟨by show 3<=sizeLine;decide,λpk hpk=>?_⟩;refine rest _ _ ⟨pk,rfl,(s1.trans s').then_new hpk,?_⟩;rw[(hN h9).1,(hN h9).2];exact ao
  clear s1;rintro σ' H1 ⟨pk,rfl,s1,ek⟩;refine bF ⟨_,rfl,_,rfl,_,_,rfl,rfl,_,rfl,_,_,rfl,rfl,by show 3<=sizeLine;decide,λpb hpb=>?_⟩;refine⟨pk,pb,_,rfl,rfl,SqL.of ((Same.upd_new hpb) _ _ ek),SqL.of ao,_,rfl,bQ ?_⟩;have s2:=s1.then_new (o:=.lst ([true,decide ((kp.length:Int)-1<=8),decide ((kp.length:Int)-1>8)].map V.bl)) hpb;refine dz (λσ' H'=>σ'=[some (.ref a),some lv,some hv,some (.int ((kp.length:Int)-1)),some (.int n),some .non,some (.ref pk),none]/\Same H H') ⟨rfl,s2⟩ ?_;clear s2 hpb;rintro σ' H2 ⟨rfl,s2⟩;refine kZ (λσ' H'=>∃told:Int,σ'=[some (.ref a),some lv,some hv,some (.int ((kp.length:Int)-1)),some (.int n),some (.int told),some (.ref pk),none]/\Same H H'/\(9<kp.length->told=(kp.length:Int)-1)/\(kp.length<=9->told=n)) ?_ (λrest=>?_)
  rotate_left
  ·refine⟨_,rfl,_,rfl,_,rfl,?_⟩;refine nQ ?_;change fZ C CN CNoRoot CTooHigh _ H2 _ _;refine ask H2 _ _ s2 (λh9 H' dx s' ed=>.inr ⟨XE.hit_TooHigh_NoRoot,XE.hit_TooHigh_TooHigh,λea oe vs ce de fe he=>?_⟩) (λh9 H' dx s' ed=>.inl ⟨XE.hit_NoRoot_NoRoot,λea oe vs ce de fe he=>?_⟩)
   ·have lk:([(("degree":Str),V.int ((kp.length:Int)-1))]:List (Str×V)).lookup ("degree":Str)=some (V.int ((kp.length:Int)-1)):=by simp[List.lookup]
    refine bX ⟨_,rfl,_,dx,vs,_,_,rfl,ce,de,fe,C_TooHigh.xc,C_TooHigh.ec,C_TooHigh.na,ed,lk,?_⟩;exact rest _ _ ⟨_,rfl,s2.trans s',λ_=>rfl,λh=>absurd h (by omega)⟩
   ·have lk:([(("many":Str),V.int (n:Int))]:List (Str×V)).lookup ("many":Str)=some (V.int (n:Int)):=by simp[List.lookup]
    refine bX ⟨_,rfl,_,dx,vs,_,_,rfl,ce,de,fe,C_NoRoot.xc,C_NoRoot.ec,C_NoRoot.na,ed,lk,?_⟩;exact rest _ _ ⟨_,rfl,s2.trans s',λh=>absurd h (by omega),λ_=>rfl⟩
  rintro σ' H3 ⟨told,rfl,s3,t1,t2⟩;refine fy (λσ' H'=>∃m:Int,σ'=[some (.ref a),some lv,some hv,some (.int ((kp.length:Int)-1)),some (.int m),some (.int told),some (.ref pk),none]/\H3=H'/\told=m) ?_ (λrest=>⟨_,rfl,_,_,rfl,rfl,_,rfl,aX (λh8=>?_) (λh8=>?_)⟩)
  rotate_left
  ·have h8':(kp.length:Int)-1>8:=h8;exact bX ⟨_,rfl,rest _ _ ⟨_,rfl,rfl,t1 (by omega)⟩⟩
  ·have h8':¬(kp.length:Int)-1>8:=h8;exact rest _ _ ⟨_,rfl,rfl,t2 (by omega)⟩
  rintro σ' H4 ⟨m,rfl,rfl,rfl⟩;refine aZ (nU ⟨_,rfl,_,rfl,_,rfl,cK ⟨_,rfl,_,rfl,_,_,rfl,rfl,?_⟩⟩);have q:=kk H3 s3;simpa using q
theorem vy{α:Type}:∀{l:List α},l.length=2->∃a b,l=[a,b]
 | [a,b],_=>⟨a,b,rfl⟩
theorem EC{C CN f:Addr}{fd:FuncData}(F:Fun K "law" "law" d6 f fd)(T:Txt K mg)(R:RCI K mg C)(RN:NCI K mg CN){CNoRoot CTooHigh:Addr}{JM:Addr}{IY:FuncData}(MO:Cal P w K mg base 2 "_law_fractions" ["_law_script"] (qA K) JM IY){JK:Addr}{IW:FuncData}(MM:Cal P w K mg base 2 "_law_product" ["_law_some","_law_cell"] qj JK IW){tM:Addr}{sX:FuncData}(vc:Cal P w K mg base 1 "_law_cell_at" ["_law_script","_law_k"] (fv K) tM sX){JN:Addr}{IZ:FuncData}(MP:Cal P w K mg base 1 "_law_ends" ["_law_some","_law_one","_law_other"] qC JN IZ){JG:Addr}{IS:FuncData}(MI:Cal P w K mg base 2 "_law_within" ["_law_some","_law_low","_law_high"] pY JG IS){JI:Addr}{IU:FuncData}(MK:Cal P w K mg base 41 "_law_refused" ["_law_kp","_law_low","_law_high","_law_height","_law_many"] (nk C) JI IU){tN:Addr}{sY:FuncData}(vf:CalV P w K mg base 40 "_law_asked" ["_law_kp","_law_low","_law_high"] (fZ C CN CNoRoot CTooHigh) tN sY){JL:Addr}{IX:FuncData}(MN:Cal P w K mg base 2 "_law_poly" ["_law_found"] qk JL IX){JJ:Addr}{IV:FuncData}(ML:Cal P w K mg base 2 "_law_ratio" ["_law_found"] (qi C) JJ IV){tK:Addr}{sV:FuncData}(va:Cal P w K mg base 1 "_law_under" ["_law_one","_law_other"] ng tK sV):FnOk P w K mg base CX0 42 f fd ["_law_script"] (ny K):=by
 obtain⟨L7,GE,Hq,K7⟩:=MO;obtain⟨L5,GC,Hn,K3⟩:=MM;obtain⟨kz,j8,ka,kn⟩:=vc;obtain⟨L8,GF,Hr,K8⟩:=MP;obtain⟨LZ,Gz,Hl,KZ⟩:=MI;obtain⟨L4,GA,Hm,K0⟩:=MK;obtain⟨pJ,oK,oR,pF⟩:=vf;obtain⟨L6,GD,Ho,K6⟩:=MN;obtain⟨Az,x6,yl,Ah⟩:=ML;obtain⟨mJ,lH,lP,mD⟩:=va;refine F.ok sc_law (λvs H Q E h=>?_) (λcdv A outer s H vs Q E hr h=>?_)
 ·obtain⟨a,ns,rfl,_⟩:=h;rfl
 ·obtain⟨a,ns,rfl,hS,hlen,k⟩:=h;have big:=sizeLine_eq;have hu:=hr.units
  refine⟨_,(af (aj (i:=1) sc_law.nd rfl (Or.inl rfl) (am L7 (hr.mono) rfl GE Hq K7 .nil ai (aa (pv 0) ac)))
   (af (aj (i:=2) sc_law.nd rfl (Or.inl rfl) (am L5 (hr.mono) rfl GC Hn K3 .nil ai (aa (pv 1) (aa (am kz (hr.mono) rfl j8 ka kn .nil ai (aa (pv 0) (aa ae ac))) ac))))
   (af (jT (am L8 (hr.mono) rfl GF Hr K8 .nil ai (aa (pv 1) (aa (am kz (hr.mono) rfl j8 ka kn .nil ai (aa (pv 0) (aa ae ac))) (aa (am kz (hr.mono) rfl j8 ka kn .nil ai (aa (pv 0) (aa ae ac))) ac)))) (DK rfl (dB (aU (i:=3) sc_law.nd rfl (Or.inl rfl)) (dB (aU (i:=4) sc_law.nd rfl (Or.inl rfl)) ln))))
   (af (aj (i:=5) sc_law.nd rfl (Or.inl rfl) (al cS (am kz (hr.mono) rfl j8 ka kn .nil ai (aa (pv 0) (aa ae ac))) ae))
   (af (aO (aH dD (pv 5) ae (aC _))
     (ah (aj (i:=4) sc_law.nd rfl (Or.inl rfl) eG))
     aP)
   (af (aO (aH dD (pv 5) ae (aC _))
     (ah (aj (i:=3) sc_law.nd rfl (Or.inl rfl) eG))
     aP)
   (af (aj (i:=6) sc_law.nd rfl (Or.inl rfl) (am LZ (hr.mono) rfl Gz Hl KZ .nil ai (aa (pv 1) (aa (pv 3) (aa (pv 4) ac)))))
   (af (aO (aH dc (aQ (cp (K:=K) rfl) (by rfl) T.len_ PySem.boot_len (aa (pv 2) ac)) ae (aC _))
     (ah (aj (i:=6) sc_law.nd rfl (Or.inl rfl) (aT ac)))
     aP)
   (af (aO (PW.pt (ei (aH dD (aQ (cp (K:=K) rfl) (by rfl) T.len_ PySem.boot_len (aa (pv 2) ac)) ae (aC _)) (gv (aH fH (aQ (cp (K:=K) rfl) (by rfl) T.len_ PySem.boot_len (aa (pv 6) ac)) ae (aC _)))))
     (ah (aw (am L4 (hr.mono) rfl GA Hm K0 .nil ai (aa (pv 2) (aa (pv 3) (aa (pv 4) (aa (al cs (aQ (cp (K:=K) rfl) (by rfl) T.len_ PySem.boot_len (aa (pv 2) ac)) ae) (aa (aQ (cp (K:=K) rfl) (by rfl) T.len_ PySem.boot_len (aa (pv 6) ac)) ac))))))))
     aP)
   (af (aj (i:=7) sc_law.nd rfl (Or.inl rfl) (am pJ (hr.mono) rfl oK oR pF .nil DR (aa (pv 2) (aa (pv 3) (aa (pv 4) ac)))))
   (af (aO (PW.pt (ei (dN (db (aQ (mw (K:=K) rfl) (by rfl) T.isinstance_ PyProof.Rows.boot_isinstance (aa (pv 7) (aa (lw (v:=.ref CN) rfl RN.mg rfl) ac))))) (ei (dN (db (am L6 (hr.mono) rfl GD Ho K6 .nil ai (aa (aJ (K:=K) rfl (pv 7) rfl) ac)))) (gv (aH (jX (K:=K) rfl hu) (aJ (K:=K) rfl (pv 7) rfl) (aT (aa (bY bT (aG (aV (K:=K) rfl) (aG (bK (K:=K) rfl) (pv 6) ae (λ_ _=>rfl)) ae (λ_ _=>rfl))) (aa (aG (aV (K:=K) rfl) (aG (bK (K:=K) rfl) (pv 6) ae (λ_ _=>rfl)) ae (λ_ _=>rfl)) ac))) (aC _))))))
     (ah (aw fG))
     aP)
   (af (aO (PW.pt (ei (dN (db (am Az (hr.mono) rfl x6 yl Ah .nil ai (aa (aJ (K:=K) rfl (pv 7) rfl) ac)))) (gv (dN (db (am Az (hr.mono) rfl x6 yl Ah .nil ai (aa (aJ (K:=K) rfl (pv 7) rfl) ac)))))))
     (ah (aw fG))
     aP)
   (af (aj (i:=3) sc_law.nd rfl (Or.inl rfl) (cQ (aa (aJ (K:=K) rfl (aJ (K:=K) rfl (pv 7) rfl) rfl) (aa (aJ (K:=K) rfl (aJ (K:=K) rfl (pv 7) rfl) rfl) ac))))
   (ah (aw (oi (am mJ (hr.mono) rfl lH lP mD .nil ai (aa (pv 3) (aa (aG (bK (K:=K) rfl) (pv 6) ae (λ_ _=>rfl)) ac))) (og (xj (am mJ (hr.mono) rfl lH lP mD .nil ai (aa (cQ (aa (aJ (K:=K) rfl (aJ (K:=K) rfl (pv 7) rfl) rfl) (aa (aJ (K:=K) rfl (aJ (K:=K) rfl (pv 7) rfl) rfl) ac))) (aa (aG (bK (K:=K) rfl) (pv 6) ae (λ_ _=>rfl)) ac))))))))))))))))))))),?_⟩
  refine av ⟨_,rfl,a,ns,rfl,hS,λp1 H1 qs ts s1 hp1 e1 hT hF=>?_⟩;refine av ⟨_,rfl,_,rfl,a,ns,4,rfl,s1.seq hS,p1,_,qs,ts,rfl,e1,hT,hF,λpk H2 kp ex c s2 hpk ek hK=>?_⟩;have t2:=s1.trans s2;refine⟨_,rfl,_,rfl,a,ns,5,rfl,t2.seq hS,_,rfl,a,ns,6,rfl,t2.seq hS,p1,_,_,qs,ts,rfl,s2 _ _ e1,hT.same s2,hF,λpe H3 ps xs s3 hpe ee hP hx2 hxs=>⟨pe,_,rfl,SqL.of ee,by rw[MZ,hP.1,hx2];rfl,?_⟩⟩;obtain⟨x,y,rfl⟩:=vy hx2;obtain⟨pa,pb,rfl⟩:=vy (hP.1.trans hx2);have ea:H3 pa=some (prT x):=hP.2 0 pa x rfl rfl;have eb:H3 pb=some (prT y):=hP.2 1 pb y rfl rfl;have ox:=hxs x (by simp);have oy:=hxs y (by simp);have t3:=t2.trans s3;have e13:=s3 _ _ (s2 _ _ e1);have hT3:=(hT.same s2).same s3;have ek3:=s3 _ _ ek;refine⟨_,_,rfl,_,_,rfl,rfl,?_⟩;dsimp only
  refine av ⟨_,rfl,a,ns,7,rfl,t3.seq hS,_,_,rfl,rfl,(by show(0:Int)<4;decide),?_⟩;have m0:=N8 (ns.getD 7 0) (b:=4) (by decide);have m1:=N9 (ns.getD 7 0) (b:=4) (by decide);obtain⟨kd,hkd⟩:∃kd,ns.getD 7 0%4=kd:=⟨_,rfl⟩;rw[hkd]at m0 m1;show cD _ _ _ _ _;refine dz (λσ' H'=>σ'=[some (.ref a),some (.ref p1),some (.ref pk),some (.ref pa),some (.ref pb),some (.int kd),none,none]/\H3=H') ⟨by rw[<- hkd];rfl,rfl⟩ ?_;rintro σ' H4 ⟨rfl,rfl⟩;refine fy (λσ' H'=>∃(hv:V) (hi:Option (Int×Int)),σ'=[some (.ref a),some (.ref p1),some (.ref pk),some (.ref pa),some hv,some (.int kd),none,none]/\H3=H'/\EnV H3 hv hi/\(kd>1->hi=none)) ?_ (λrest=>⟨_,rfl,_,_,rfl,rfl,_,rfl,aX (λh1=>?_) (λh1=>?_)⟩)
  rotate_left
  ·exact bX (rest _ _ ⟨.non,none,rfl,rfl,rfl,λ_=>rfl⟩)
  ·exact rest _ _ ⟨.ref pb,some y,rfl,rfl,⟨pb,rfl,eb,oy⟩,λz=>absurd z h1⟩
  rintro σ' H4 ⟨hv,hi,rfl,rfl,hH,hk1⟩;refine fy (λσ' H'=>∃(lv:V) (lo:Option (Int×Int)),σ'=[some (.ref a),some (.ref p1),some (.ref pk),some lv,some hv,some (.int kd),none,none]/\H3=H'/\EnV H3 lv lo/\(lo=none->kd>2)) ?_ (λrest=>⟨_,rfl,_,_,rfl,rfl,_,rfl,aX (λh1=>?_) (λh1=>?_)⟩)
  rotate_left
  ·exact bX (rest _ _ ⟨.non,none,rfl,rfl,rfl,λ_=>h1⟩)
  ·exact rest _ _ ⟨.ref pa,some x,rfl,rfl,⟨pa,rfl,ea,ox⟩,λz=>nomatch z⟩
  rintro σ' H4 ⟨lv,lo,rfl,rfl,hL,hk2⟩;have hLH:lo=none->hi=none:=λz=>hk1 (by have:=hk2 z;omega)
  refine av ⟨_,rfl,_,rfl,_,rfl,p1,lv,hv,lo,hi,qs,ts,rfl,e13,hT3,hF,hL,hH,λph H4 qs' s4 hph eh hPh=>?_⟩;have hml:(kp.map V.int).length=kp.length:=MZ _;show cD _ _ _ _ _;refine dz (λσ' H'=>σ'=[some (.ref a),some (.ref p1),some (.ref pk),some lv,some hv,some (.int kd),some (.ref ph),none]/\H4=H') ⟨rfl,rfl⟩ ?_;rintro σ' H5 ⟨rfl,rfl⟩;refine fy (λσ' H'=>∃(ph:Addr) (qs':List Addr) (zs:List (Int×Int)),σ'=[some (.ref a),some (.ref p1),some (.ref pk),some lv,some hv,some (.int kd),some (.ref ph),none]/\Same H3 H'/\H' ph=some (.lst (qs'.map V.ref))/\PaH H' qs' zs/\(kp.length<2->zs=[])/\(2<=kp.length->zs=(ks (gsT ts)).filter (inE lo hi))) ?_ (λrest=>⟨_,rfl,pk,_,rfl,.inl (SqL.of (s4 _ _ ek3)),_,_,rfl,rfl,_,rfl,aX (λh1=>?_) (λh1=>?_)⟩)
  rotate_left
  ·have h1':((kp.map V.int).length:Int)<2:=h1;rw[hml]at h1';exact bX ⟨by show 0<=sizeLine;decide,λpn hpn=>rest _ _ ⟨pn,[],[],rfl,s4.then_new hpn,ao,PaH.nil,λ_=>rfl,λz=>absurd z (by omega)⟩⟩
  ·have h1':¬((kp.map V.int).length:Int)<2:=h1;rw[hml]at h1';exact rest _ _ ⟨ph,qs',_,rfl,s4,eh,hPh,λz=>absurd z (by omega),λ_=>rfl⟩
  clear hPh eh hph s4 ph qs' H4;rintro σ' H4 ⟨ph,qs',zs,rfl,s4,eh,hPh,hz0,hz1⟩;have ek4:=s4 _ _ ek3;have hqz:(qs'.map V.ref).length=zs.length:=by rw[MZ];exact hPh.1
  by_cases hbad:9<kp.length\/zs.length≠1
  ·have ret:nk C [.ref pk,lv,hv,.int (((kp.map V.int).length:Int)-1),.int ((qs'.map V.ref).length:Nat)] H4 Q E0:=⟨pk,lv,hv,lo,hi,kp,gsT ts,ex,c,zs.length,by rw[hml,hqz],ek4,hK,hL.same s4,hH.same s4,hLH,λz=>by rw[hz0 z];rfl,λz=>by rw[hz1 z],hbad,λH' _=>k _⟩;refine bF (d7 ⟨_,rfl,pk,_,rfl,.inl (SqL.of ek4),_,_,rfl,rfl,_,rfl,aX (λh9=>cK ?_) (λh9=>⟨_,rfl,ph,_,rfl,.inl (SqL.of eh),_,_,rfl,rfl,_,rfl,cG (λh1=>?_) (λh1=>?_)⟩)⟩)
   ·exact aZ ⟨_,rfl,_,rfl,_,rfl,_,rfl,pk,_,rfl,.inl (SqL.of ek4),_,_,rfl,rfl,_,rfl,ph,_,rfl,.inl (SqL.of eh),ret⟩
   ·exact aZ ⟨_,rfl,_,rfl,_,rfl,_,rfl,pk,_,rfl,.inl (SqL.of ek4),_,_,rfl,rfl,_,rfl,ph,_,rfl,.inl (SqL.of eh),ret⟩
   ·exfalso;have h9':¬((kp.map V.int).length:Int)>9:=h9;have h1':((qs'.map V.ref).length:Int)=1:=h1;rw[hml]at h9';rw[hqz]at h1';omega
  have h9:kp.length<=9:=by omega
  have hz1':zs.length=1:=by omega
  have h2:2<=kp.length:=by
   rcases OJ kp.length 2 with z |z
   ·rw[hz0 z]at hz1';cases hz1'
   ·exact z
  have hz:=hz1 h2;refine bF (d7 ⟨_,rfl,pk,_,rfl,.inl (SqL.of ek4),_,_,rfl,rfl,_,rfl,aX (λz=>absurd (show((kp.map V.int).length:Int)>9 from z) (by rw[hml];omega)) (λ_=>⟨_,rfl,ph,_,rfl,.inl (SqL.of eh),_,_,rfl,rfl,_,rfl,cG (λz=>absurd (show((qs'.map V.ref).length:Int)=1 by rw[hqz];omega) z) (λ_=>?_)⟩)⟩);refine av ⟨_,rfl,_,rfl,_,rfl,pk,lv,hv,lo,hi,kp,gsT ts,ex,c,rfl,ek4,hK,hL.same s4,hH.same s4,hLH,λz=>absurd z (by omega),λz=>absurd z (by omega),λ_ _ z=>absurd (hz ▸ hz1') z,λ_ _ z hz2 oz n q l h l1 l2 h1 h2 H5 s5 hNA hl hh en i1 i2 hq=>?_⟩;obtain rfl:zs=[z]:=hz.trans hz2;obtain⟨pz,rfl⟩:=OT.mp hPh.1;have ez:H4 pz=some (prT z):=hPh.2 0 pz z rfl rfl;have ez5:=s5 _ _ ez;have eh5:=s5 _ _ eh;obtain⟨dx,hx⟩:=id hNA;refine bF (d7 (d8 (qR (kY ⟨_,rfl,yq (.ins hx RN.cl RN.ha RN.hn RN.ht RN.hm) (k:=true) (by unfold PySem.W.kitOne;rw[if_pos (by simp)]) ⟨_,rfl,bQ ?_⟩⟩))));refine d7 (d8 ⟨_,rfl,n,CN,dx,_,_,rfl,hx,RN.cl,RN.nP,y8 _ _ _,q,sF z,rfl,hq,_,rfl,bQ ?_⟩);refine⟨_,rfl,n,CN,dx,_,_,rfl,hx,RN.cl,RN.nP,y8 _ _ _,_,rfl,ph,_,_,_,rfl,rfl,SqL.of eh5,rfl,pz,_,_,_,rfl,rfl,SqT.of ez5,rfl,_,rfl,_,rfl,ph,_,_,_,rfl,rfl,SqL.of eh5,rfl,pz,_,_,_,rfl,rfl,SqT.of ez5,rfl,by show 2<=sizeLine;decide,λpn hpn=>?_⟩;have u6:=Same.upd_new (o:=.lst ((sF z).map V.int)) hpn;refine⟨q,pn,sF z,sF z,rfl,rfl,SqL.of (u6 _ _ hq),SqL.of ao,_,rfl,cG (λz=>absurd rfl z) (λ_=>?_)⟩;have e7:upd H5 pn (.lst ((sF z).map V.int)) n=some (.ins CN dx (eX q l h)):=u6 _ _ hx;have hl7:=hl.same u6;have hh7:=hh.same u6;have eh7:=u6 _ _ eh5;have ez7:=u6 _ _ ez5;show cD _ _ _ _ _;refine dz (λσ' H'=>σ'=[some (.ref a),some (.ref p1),some (.ref pk),some lv,some hv,some (.int kd),some (.ref ph),some (.ref n)]/\upd H5 pn (.lst ((sF z).map V.int))=H') ⟨rfl,rfl⟩ ?_;rintro σ' H7 ⟨rfl,rfl⟩;generalize upd H5 pn (.lst ((sF z).map V.int))=H7 at e7 hl7 hh7 eh7 ez7 ⊢
  obtain⟨dl,el⟩:=id hl7;obtain⟨dh,eh'⟩:=id hh7;refine bF (d7 (d8 ⟨_,rfl,n,CN,dx,_,_,rfl,e7,RN.cl,RN.nL,sK _ _ _,l,l1,l2,rfl,hl7,en.l2p,en.gl,_,rfl,bQ ?_⟩));refine d8 ⟨_,rfl,n,CN,dx,_,_,rfl,e7,RN.cl,RN.nH,sL _ _ _,h,h1,h2,rfl,hh7,en.h2p,en.gh,_,rfl,bQ ?_⟩;refine av ⟨_,rfl,n,CN,dx,_,_,rfl,e7,RN.cl,RN.nL,sK _ _ _,l,C,dl,_,_,rfl,el,R.cl,R.nT,cu _ _,_,rfl,n,CN,dx,_,_,rfl,e7,RN.cl,RN.nL,sK _ _ _,l,C,dl,_,_,rfl,el,R.cl,R.nB,bn _ _,by show 2<=sizeLine;decide,λp8 hp8=>?_⟩;have u8:=Same.upd_new (o:=.tup [V.int l1,V.int l2]) hp8;have e8:upd H7 p8 (.tup [V.int l1,V.int l2]) p8=some (prT (l1,l2)):=ao;show m5 _ _ _ _;refine dz (u:=m5 _) (λσ' H'=>σ'=[some (.ref a),some (.ref p1),some (.ref pk),some (.ref p8),some hv,some (.int kd),some (.ref ph),some (.ref n)]/\upd H7 p8 (.tup [V.int l1,V.int l2])=H') ⟨rfl,rfl⟩ ?_;rintro σ' H8 ⟨rfl,rfl⟩;generalize upd H7 p8 (.tup [V.int l1,V.int l2])=H8 at u8 e8 ⊢
  have eh8:=u8 _ _ eh7;have ez8:=u8 _ _ ez7;have bz:Bits 1000 z.1/\Bits 1000 z.2:=⟨Bits.mono (j:=5) (by show z.1.natAbs<2^5;have:=oz.t;omega) (by decide),Bits.mono (j:=5) (by show z.2.natAbs<2^5;have:=oz.b1;have:=oz.b6;omega) (by decide)⟩;refine aZ (nU ⟨_,rfl,_,rfl,ph,_,_,_,rfl,rfl,SqL.of eh8,rfl,p8,pz,(l1,l2),z,rfl,e8,ez8,en.bl1.mono,en.bl2.mono,bz.1,bz.2,_,rfl,?_⟩);rw[decide_eq_true (show(l1,l2).1*z.2<z.1*(l1,l2).2 from i1)];refine cK (wB ?_);have e78:=u8 _ _ e7;have eh8':=u8 _ _ eh';refine⟨_,rfl,n,CN,dx,_,_,rfl,e78,RN.cl,RN.nH,sL _ _ _,h,C,dh,_,_,rfl,eh8',R.cl,R.nT,cu _ _,_,rfl,n,CN,dx,_,_,rfl,e78,RN.cl,RN.nH,sL _ _ _,h,C,dh,_,_,rfl,eh8',R.cl,R.nB,bn _ _,by show 2<=sizeLine;decide,λp9 hp9=>?_⟩;have u9:=Same.upd_new (o:=.tup [V.int h1,V.int h2]) hp9;refine⟨_,rfl,ph,_,_,_,rfl,rfl,SqL.of (u9 _ _ eh8),rfl,p9,pz,(h1,h2),z,rfl,ao,u9 _ _ ez8,en.bh1.mono,en.bh2.mono,bz.1,bz.2,_,rfl,?_⟩;rw[decide_eq_false (show ¬(h1,h2).1*z.2<z.1*(h1,h2).2 from i2)];exact k _
end
theorem all_mk{l:PySem.W.OpenLaw}{w:World}{K:PySem.W.Frag}{h:Heap}{mg:Str->Option Value}{fa CC1 CC2 CNoRoot CTooHigh CRootError f1 f2 f3 f4 dt4 f5 f6 f7 f8 f9 f10 f11 f12 f13 f14 f15 f16 f17 f18 f19 f20 f21 f22 f23 f24 f25 f26 f27 f28 f29 f30 f31 f32 f33 f34 f35 f36 f37 f38 f39 f40 f41 f42 f43 f44 f45 f46 f47 f48 f49 f50 f51 f52 f53 dt53 f54 f55 f56 f57 f58 f59 f60 f61 f62 f63 f64 f65 f66 f67:Addr}(X:K.In h)(G:h.Ns mainGlobals mg)(hfa:mg "law"=some (.ref fa))
 {od1 an1 od2 an2 od3 an3 od4 an4 odt4 od5 an5 od6 an6 od7 an7 od8 an8 od9 an9 od10 an10 od11 an11 od12 an12 od13 an13 od14 an14 od15 an15 od16 an16 od17 an17 od18 an18 od19 an19 od20 an20 od21 an21 od22 an22 od23 an23 od24 an24 od25 an25 od26 an26 od27 an27 od28 an28 od29 an29 od30 an30 od31 an31 od32 an32 od33 an33 od34 an34 od35 an35 od36 an36 od37 an37 od38 an38 od39 an39 od40 an40 od41 an41 od42 an42 od43 an43 od44 an44 od45 an45 od46 an46 od47 an47 od48 an48 od49 an49 od50 an50 od51 an51 od52 an52 od53 an53 odt53 od54 an54 od55 an55 od56 an56 od57 an57 od58 an58 od59 an59 od60 an60 od61 an61 od62 an62 od63 an63 od64 an64 od65 an65 od66 an66 od67 an67:Option Addr} {sl1 sl2 sl3 sl4 slt4 sl5 sl6 sl7 sl8 sl9 sl10 sl11 sl12 sl13 sl14 sl15 sl16 sl17 sl18 sl19 sl20 sl21 sl22 sl23 sl24 sl25 sl26 sl27 sl28 sl29 sl30 sl31 sl32 sl33 sl34 sl35 sl36 sl37 sl38 sl39 sl40 sl41 sl42 sl43 sl44 sl45 sl46 sl47 sl48 sl49 sl50 sl51 sl52 sl53 slt53 sl54 sl55 sl56 sl57 sl58 sl59 sl60 sl61 sl62 sl63 sl64 sl65 sl66 sl67:Array (Option Value)} {oc1 kV1 dc1 pm1 cd1 ct1 oc2 kV2 dc2 pm2 cd2 ct2 oc3 kV3 dc3 pm3 cd3 ct3 oc4 kV4 dc4 pm4 cd4 ct4 oct4 oc5 kV5 dc5 pm5 cd5 ct5 oc6 kV6 dc6 pm6 cd6 ct6 oc7 kV7 dc7 pm7 cd7 ct7 oc8 kV8 dc8 pm8 cd8 ct8 oc9 kV9 dc9 pm9 cd9 ct9 oc10 kV10 dc10 pm10 cd10 ct10 oc11 kV11 dc11 pm11 cd11 ct11 oc12 kV12 dc12 pm12 cd12 ct12 oc13 kV13 dc13 pm13 cd13 ct13 oc14 kV14 dc14 pm14 cd14 ct14 oc15 kV15 dc15 pm15 cd15 ct15 oc16 kV16 dc16 pm16 cd16 ct16 oc17 kV17 dc17 pm17 cd17 ct17 oc18 kV18 dc18 pm18 cd18 ct18 oc19 kV19 dc19 pm19 cd19 ct19 oc20 kV20 dc20 pm20 cd20 ct20 oc21 kV21 dc21 pm21 cd21 ct21 oc22 kV22 dc22 pm22 cd22 ct22 oc23 kV23 dc23 pm23 cd23 ct23 oc24 kV24 dc24 pm24 cd24 ct24 oc25 kV25 dc25 pm25 cd25 ct25 oc26 kV26 dc26 pm26 cd26 ct26 oc27 kV27 dc27 pm27 cd27 ct27 oc28 kV28 dc28 pm28 cd28 ct28 oc29 kV29 dc29 pm29 cd29 ct29 oc30 kV30 dc30 pm30 cd30 ct30 oc31 kV31 dc31 pm31 cd31 ct31 oc32 kV32 dc32 pm32 cd32 ct32 oc33 kV33 dc33 pm33 cd33 ct33 oc34 kV34 dc34 pm34 cd34 ct34 oc35 kV35 dc35 pm35 cd35 ct35 oc36 kV36 dc36 pm36 cd36 ct36 oc37 kV37 dc37 pm37 cd37 ct37 oc38 kV38 dc38 pm38 cd38 ct38 oc39 kV39 dc39 pm39 cd39 ct39 oc40 kV40 dc40 pm40 cd40 ct40 oc41 kV41 dc41 pm41 cd41 ct41 oc42 kV42 dc42 pm42 cd42 ct42 oc43 kV43 dc43 pm43 cd43 ct43 oc44 kV44 dc44 pm44 cd44 ct44 oc45 kV45 dc45 pm45 cd45 ct45 oc46 kV46 dc46 pm46 cd46 ct46 oc47 kV47 dc47 pm47 cd47 ct47 oc48 kV48 dc48 pm48 cd48 ct48 oc49 kV49 dc49 pm49 cd49 ct49 oc50 kV50 dc50 pm50 cd50 ct50 oc51 kV51 dc51 pm51 cd51 ct51 oc52 kV52 dc52 pm52 cd52 ct52 oc53 kV53 dc53 pm53 cd53 ct53 oct53 oc54 kV54 dc54 pm54 cd54 ct54 oc55 kV55 dc55 pm55 cd55 ct55 oc56 kV56 dc56 pm56 cd56 ct56 oc57 kV57 dc57 pm57 cd57 ct57 oc58 kV58 dc58 pm58 cd58 ct58 oc59 kV59 dc59 pm59 cd59 ct59 oc60 kV60 dc60 pm60 cd60 ct60 oc61 kV61 dc61 pm61 cd61 ct61 oc62 kV62 dc62 pm62 cd62 ct62 oc63 kV63 dc63 pm63 cd63 ct63 oc64 kV64 dc64 pm64 cd64 ct64 oc65 kV65 dc65 pm65 cd65 ct65 oc66 kV66 dc66 pm66 cd66 ct66 oc67 kV67 dc67 pm67 cd67 ct67:Value} {nt4:Nat} {tk4_0:Tok} {nt53:Nat} {tk_HIGHEST:Tok}
 (aC1:PySem.W.nsIn K mainGlobals "Ratio"=some (some (.ref CC1)))
 (pg1:PySem.W.plainGet K CC1 Str.empty=true)
 (hd1:PySem.W.hasDictIn K CC1=true)
 (po1:PySem.W.plainOver K CC1=true)
 (sa1:PySem.W.findIn K (.ref CC1) "__setattr__"=some (some (.builtin "object.__setattr__")))
 (mk1:PySem.W.makesIn K CC1=true)
 (kc1:PySem.W.keepIn K (.ref CC1)=true)
 (n1_top:PySem.W.findIn K (.ref CC1) "top"=some none)
 (n1_bottom:PySem.W.findIn K (.ref CC1) "bottom"=some none)
 (ha1:PySem.W.findIn K (.ref CC1) "__class__"=some (some (.builtin "object.__class__")))
 (hn1:PySem.W.specialIn K (.builtin "object.__class__") "__get__"=some (some (.builtin "getset_descriptor.__get__")))
 (ht1:PySem.W.takesIn K (.builtin "object.__class__")=some true)
 (hm1:PySem.W.mroIn K CC1 (.type "object")=some true)
 (aC2:PySem.W.nsIn K mainGlobals "Number"=some (some (.ref CC2)))
 (pg2:PySem.W.plainGet K CC2 Str.empty=true)
 (hd2:PySem.W.hasDictIn K CC2=true)
 (po2:PySem.W.plainOver K CC2=true)
 (sa2:PySem.W.findIn K (.ref CC2) "__setattr__"=some (some (.builtin "object.__setattr__")))
 (mk2:PySem.W.makesIn K CC2=true)
 (kc2:PySem.W.keepIn K (.ref CC2)=true)
 (n2_poly:PySem.W.findIn K (.ref CC2) "poly"=some none)
 (n2_low:PySem.W.findIn K (.ref CC2) "low"=some none)
 (n2_high:PySem.W.findIn K (.ref CC2) "high"=some none)
 (ha2:PySem.W.findIn K (.ref CC2) "__class__"=some (some (.builtin "object.__class__")))
 (hn2:PySem.W.specialIn K (.builtin "object.__class__") "__get__"=some (some (.builtin "getset_descriptor.__get__")))
 (ht2:PySem.W.takesIn K (.builtin "object.__class__")=some true)
 (hm2:PySem.W.mroIn K CC2 (.type "object")=some true)
 (aENoRoot:PySem.W.nsIn K mainGlobals "NoRoot"=some (some (.ref CNoRoot)))
 (aETooHigh:PySem.W.nsIn K mainGlobals "TooHigh"=some (some (.ref CTooHigh)))
 (aERootError:PySem.W.nsIn K mainGlobals "RootError"=some (some (.ref CRootError)))
 (e0NoRoot:PySem.W.findIn K (.ref CNoRoot) "__getattribute__"=some (some (.builtin "BaseException.__getattribute__")))
 (e1NoRoot:PySem.W.findIn K (.ref CNoRoot) "__getattr__"=some none)
 (e2NoRoot:PySem.W.mroIn K CNoRoot (.type "BaseException")=some true)
 (e3NoRoot:PySem.W.findIn K (.ref CNoRoot) "__class__"=some (some (.builtin "object.__class__")))
 (e4NoRoot:PySem.W.specialIn K (.builtin "object.__class__") "__get__"=some (some (.builtin "getset_descriptor.__get__")))
 (e5NoRoot:PySem.W.takesIn K (.builtin "object.__class__")=some true)
 (e6NoRoot:PySem.W.mroIn K CNoRoot (.type "object")=some true)
 (e0TooHigh:PySem.W.findIn K (.ref CTooHigh) "__getattribute__"=some (some (.builtin "BaseException.__getattribute__")))
 (e1TooHigh:PySem.W.findIn K (.ref CTooHigh) "__getattr__"=some none)
 (e2TooHigh:PySem.W.mroIn K CTooHigh (.type "BaseException")=some true)
 (e3TooHigh:PySem.W.findIn K (.ref CTooHigh) "__class__"=some (some (.builtin "object.__class__")))
 (e4TooHigh:PySem.W.specialIn K (.builtin "object.__class__") "__get__"=some (some (.builtin "getset_descriptor.__get__")))
 (e5TooHigh:PySem.W.takesIn K (.builtin "object.__class__")=some true)
 (e6TooHigh:PySem.W.mroIn K CTooHigh (.type "object")=some true)
 (yXNoRoot:pd K CNoRoot f25 iw "ValueError.__new__"=true)
 (yCNoRoot:mQ K CNoRoot=true)
 (yKNoRoot:PySem.W.keepIn K (.ref CNoRoot)=true)
 (yNNoRoot:PySem.W.findIn K (.ref CNoRoot) "many"=some none)
 (yXTooHigh:pd K CTooHigh f26 iw "ValueError.__new__"=true)
 (yCTooHigh:mQ K CTooHigh=true)
 (yKTooHigh:PySem.W.keepIn K (.ref CTooHigh)=true)
 (yNTooHigh:PySem.W.findIn K (.ref CTooHigh) "degree"=some none)
 (xh_NoRoot_RootError:PySem.W.exmOne K (.ref CNoRoot) (.ref CRootError)=some true)
 (xh_TooHigh_RootError:PySem.W.exmOne K (.ref CTooHigh) (.ref CRootError)=some true)
 (xh_NoRoot_NoRoot:PySem.W.exmOne K (.ref CNoRoot) (.ref CNoRoot)=some true)
 (xh_TooHigh_NoRoot:PySem.W.exmOne K (.ref CTooHigh) (.ref CNoRoot)=some false)
 (xh_TooHigh_TooHigh:PySem.W.exmOne K (.ref CTooHigh) (.ref CTooHigh)=some true)
 (xi_NoRoot_ValueError:PySem.W.kitOne K (.ref CNoRoot) (.type "ValueError")=some true)
 (xi_TooHigh_ValueError:PySem.W.kitOne K (.ref CTooHigh) (.type "ValueError")=some true)
 (xi_NoRoot_NoRoot:PySem.W.kitOne K (.ref CNoRoot) (.ref CNoRoot)=some true)
 (xi_TooHigh_NoRoot:PySem.W.kitOne K (.ref CTooHigh) (.ref CNoRoot)=some false)
 (xi_NoRoot_TooHigh:PySem.W.kitOne K (.ref CNoRoot) (.ref CTooHigh)=some false)
 (xi_TooHigh_TooHigh:PySem.W.kitOne K (.ref CTooHigh) (.ref CTooHigh)=some true)
 (a1:PySem.W.nsIn K mainGlobals "shared_by_two"=some (some (.ref f1)))
 (l1:K.lookup f1=some ⟨oc1,od1,.func (PySem.W.fnOf "shared_by_two" "shared_by_two" (aA iR) (ax iR) (ag iR) .none kV1 dc1 pm1 an1 cd1 ct1),sl1⟩) (c1:PySem.W.codeIn K cd1 "shared_by_two"=true) (k1:PySem.W.keepIn K (.ref f1)=true)
 (a2:PySem.W.nsIn K mainGlobals "shared"=some (some (.ref f2)))
 (l2:K.lookup f2=some ⟨oc2,od2,.func (PySem.W.fnOf "shared" "shared" (aA iS) (ax iS) (ag iS) .none kV2 dc2 pm2 an2 cd2 ct2),sl2⟩) (c2:PySem.W.codeIn K cd2 "shared"=true) (k2:PySem.W.keepIn K (.ref f2)=true)
 (a3:PySem.W.nsIn K mainGlobals "whole_sign"=some (some (.ref f3)))
 (l3:K.lookup f3=some ⟨oc3,od3,.func (PySem.W.fnOf "whole_sign" "whole_sign" (aA iI) (ax iI) (ag iI) .none kV3 dc3 pm3 an3 cd3 ct3),sl3⟩) (c3:PySem.W.codeIn K cd3 "whole_sign"=true) (k3:PySem.W.keepIn K (.ref f3)=true)
 (a4:PySem.W.findIn K (.ref CC1) "__init__"=some (some (.ref f4))) (i4:PySem.W.isFn K (.ref f4)=true)
 (l4:K.lookup f4=some ⟨oc4,od4,.func (PySem.W.fnOf "__init__" "Ratio.__init__" (aA jL) (ax jL) (ag jL) (.ref dt4) kV4 dc4 pm4 an4 cd4 ct4),sl4⟩) (c4:PySem.W.codeIn K cd4 "Ratio.__init__"=true) (k4:PySem.W.keepIn K (.ref f4)=true)
 (t4:K.lookup dt4=some ⟨oct4,odt4,.seq #[.int 1 tk4_0] nt4,slt4⟩)
 (a5:PySem.W.findIn K (.ref CC1) "against"=some (some (.ref f5))) (i5:PySem.W.isFn K (.ref f5)=true)
 (l5:K.lookup f5=some ⟨oc5,od5,.func (PySem.W.fnOf "against" "Ratio.against" (aA jK) (ax jK) (ag jK) .none kV5 dc5 pm5 an5 cd5 ct5),sl5⟩) (c5:PySem.W.codeIn K cd5 "Ratio.against"=true) (k5:PySem.W.keepIn K (.ref f5)=true)
 (a6:PySem.W.nsIn K mainGlobals "poly"=some (some (.ref f6)))
 (l6:K.lookup f6=some ⟨oc6,od6,.func (PySem.W.fnOf "poly" "poly" (aA iY) (ax iY) (ag iY) .none kV6 dc6 pm6 an6 cd6 ct6),sl6⟩) (c6:PySem.W.codeIn K cd6 "poly"=true) (k6:PySem.W.keepIn K (.ref f6)=true)
 (a7:PySem.W.nsIn K mainGlobals "degree"=some (some (.ref f7)))
 (l7:K.lookup f7=some ⟨oc7,od7,.func (PySem.W.fnOf "degree" "degree" (aA jl) (ax jl) (ag jl) .none kV7 dc7 pm7 an7 cd7 ct7),sl7⟩) (c7:PySem.W.codeIn K cd7 "degree"=true) (k7:PySem.W.keepIn K (.ref f7)=true)
 (a8:PySem.W.nsIn K mainGlobals "coefficient"=some (some (.ref f8)))
 (l8:K.lookup f8=some ⟨oc8,od8,.func (PySem.W.fnOf "coefficient" "coefficient" (aA jo) (ax jo) (ag jo) .none kV8 dc8 pm8 an8 cd8 ct8),sl8⟩) (c8:PySem.W.codeIn K cd8 "coefficient"=true) (k8:PySem.W.keepIn K (.ref f8)=true)
 (a9:PySem.W.nsIn K mainGlobals "taken"=some (some (.ref f9)))
 (l9:K.lookup f9=some ⟨oc9,od9,.func (PySem.W.fnOf "taken" "taken" (aA iL) (ax iL) (ag iL) .none kV9 dc9 pm9 an9 cd9 ct9),sl9⟩) (c9:PySem.W.codeIn K cd9 "taken"=true) (k9:PySem.W.keepIn K (.ref f9)=true)
 (a10:PySem.W.nsIn K mainGlobals "slope"=some (some (.ref f10)))
 (l10:K.lookup f10=some ⟨oc10,od10,.func (PySem.W.fnOf "slope" "slope" (aA iP) (ax iP) (ag iP) .none kV10 dc10 pm10 an10 cd10 ct10),sl10⟩) (c10:PySem.W.codeIn K cd10 "slope"=true) (k10:PySem.W.keepIn K (.ref f10)=true)
 (a11:PySem.W.nsIn K mainGlobals "shrunk"=some (some (.ref f11)))
 (l11:K.lookup f11=some ⟨oc11,od11,.func (PySem.W.fnOf "shrunk" "shrunk" (aA gd) (ax gd) (ag gd) .none kV11 dc11 pm11 an11 cd11 ct11),sl11⟩) (c11:PySem.W.codeIn K cd11 "shrunk"=true) (k11:PySem.W.keepIn K (.ref f11)=true)
 (a12:PySem.W.nsIn K mainGlobals "plain"=some (some (.ref f12)))
 (l12:K.lookup f12=some ⟨oc12,od12,.func (PySem.W.fnOf "plain" "plain" (aA iZ) (ax iZ) (ag iZ) .none kV12 dc12 pm12 an12 cd12 ct12),sl12⟩) (c12:PySem.W.codeIn K cd12 "plain"=true) (k12:PySem.W.keepIn K (.ref f12)=true)
 (a13:PySem.W.nsIn K mainGlobals "scaled"=some (some (.ref f13)))
 (l13:K.lookup f13=some ⟨oc13,od13,.func (PySem.W.fnOf "scaled" "scaled" (aA iT) (ax iT) (ag iT) .none kV13 dc13 pm13 an13 cd13 ct13),sl13⟩) (c13:PySem.W.codeIn K cd13 "scaled"=true) (k13:PySem.W.keepIn K (.ref f13)=true)
 (a14:PySem.W.nsIn K mainGlobals "lowered"=some (some (.ref f14)))
 (l14:K.lookup f14=some ⟨oc14,od14,.func (PySem.W.fnOf "lowered" "lowered" (aA jd) (ax jd) (ag jd) .none kV14 dc14 pm14 an14 cd14 ct14),sl14⟩) (c14:PySem.W.codeIn K cd14 "lowered"=true) (k14:PySem.W.keepIn K (.ref f14)=true)
 (a15:PySem.W.nsIn K mainGlobals "divided"=some (some (.ref f15)))
 (l15:K.lookup f15=some ⟨oc15,od15,.func (PySem.W.fnOf "divided" "divided" (aA jk) (ax jk) (ag jk) .none kV15 dc15 pm15 an15 cd15 ct15),sl15⟩) (c15:PySem.W.codeIn K cd15 "divided"=true) (k15:PySem.W.keepIn K (.ref f15)=true)
 (a16:PySem.W.nsIn K mainGlobals "value_parts"=some (some (.ref f16)))
 (l16:K.lookup f16=some ⟨oc16,od16,.func (PySem.W.fnOf "value_parts" "value_parts" (aA iJ) (ax iJ) (ag iJ) .none kV16 dc16 pm16 an16 cd16 ct16),sl16⟩) (c16:PySem.W.codeIn K cd16 "value_parts"=true) (k16:PySem.W.keepIn K (.ref f16)=true)
 (a17:PySem.W.nsIn K mainGlobals "sign_at"=some (some (.ref f17)))
 (l17:K.lookup f17=some ⟨oc17,od17,.func (PySem.W.fnOf "sign_at" "sign_at" (aA iQ) (ax iQ) (ag iQ) .none kV17 dc17 pm17 an17 cd17 ct17),sl17⟩) (c17:PySem.W.codeIn K cd17 "sign_at"=true) (k17:PySem.W.keepIn K (.ref f17)=true)
 (a18:PySem.W.nsIn K mainGlobals "row_from"=some (some (.ref f18)))
 (l18:K.lookup f18=some ⟨oc18,od18,.func (PySem.W.fnOf "row_from" "row_from" (aA iV) (ax iV) (ag iV) .none kV18 dc18 pm18 an18 cd18 ct18),sl18⟩) (c18:PySem.W.codeIn K cd18 "row_from"=true) (k18:PySem.W.keepIn K (.ref f18)=true)
 (a19:PySem.W.nsIn K mainGlobals "row_of"=some (some (.ref f19)))
 (l19:K.lookup f19=some ⟨oc19,od19,.func (PySem.W.fnOf "row_of" "row_of" (aA iU) (ax iU) (ag iU) .none kV19 dc19 pm19 an19 cd19 ct19),sl19⟩) (c19:PySem.W.codeIn K cd19 "row_of"=true) (k19:PySem.W.keepIn K (.ref f19)=true)
 (a20:PySem.W.nsIn K mainGlobals "changes"=some (some (.ref f20)))
 (l20:K.lookup f20=some ⟨oc20,od20,.func (PySem.W.fnOf "changes" "changes" (aA jp) (ax jp) (ag jp) .none kV20 dc20 pm20 an20 cd20 ct20),sl20⟩) (c20:PySem.W.codeIn K cd20 "changes"=true) (k20:PySem.W.keepIn K (.ref f20)=true)
 (a21:PySem.W.nsIn K mainGlobals "count"=some (some (.ref f21)))
 (l21:K.lookup f21=some ⟨oc21,od21,.func (PySem.W.fnOf "count" "count" (aA jm) (ax jm) (ag jm) .none kV21 dc21 pm21 an21 cd21 ct21),sl21⟩) (c21:PySem.W.codeIn K cd21 "count"=true) (k21:PySem.W.keepIn K (.ref f21)=true)
 (a22:PySem.W.nsIn K mainGlobals "bound"=some (some (.ref f22)))
 (l22:K.lookup f22=some ⟨oc22,od22,.func (PySem.W.fnOf "bound" "bound" (aA jr) (ax jr) (ag jr) .none kV22 dc22 pm22 an22 cd22 ct22),sl22⟩) (c22:PySem.W.codeIn K cd22 "bound"=true) (k22:PySem.W.keepIn K (.ref f22)=true)
 (a23:PySem.W.nsIn K mainGlobals "common"=some (some (.ref f23)))
 (l23:K.lookup f23=some ⟨oc23,od23,.func (PySem.W.fnOf "common" "common" (aA jn) (ax jn) (ag jn) .none kV23 dc23 pm23 an23 cd23 ct23),sl23⟩) (c23:PySem.W.codeIn K cd23 "common"=true) (k23:PySem.W.keepIn K (.ref f23)=true)
 (a24:PySem.W.nsIn K mainGlobals "part"=some (some (.ref f24)))
 (l24:K.lookup f24=some ⟨oc24,od24,.func (PySem.W.fnOf "part" "part" (aA i6) (ax i6) (ag i6) .none kV24 dc24 pm24 an24 cd24 ct24),sl24⟩) (c24:PySem.W.codeIn K cd24 "part"=true) (k24:PySem.W.keepIn K (.ref f24)=true)
 (a25:PySem.W.findIn K (.ref CNoRoot) "__init__"=some (some (.ref f25)))
 (l25:K.lookup f25=some ⟨oc25,od25,.func (PySem.W.fnOf "__init__" "NoRoot.__init__" (aA jN) (ax jN) (ag jN) .none kV25 dc25 pm25 an25 cd25 ct25),sl25⟩) (c25:PySem.W.codeIn K cd25 "NoRoot.__init__"=true) (k25:PySem.W.keepIn K (.ref f25)=true)
 (a26:PySem.W.findIn K (.ref CTooHigh) "__init__"=some (some (.ref f26)))
 (l26:K.lookup f26=some ⟨oc26,od26,.func (PySem.W.fnOf "__init__" "TooHigh.__init__" (aA jF) (ax jF) (ag jF) .none kV26 dc26 pm26 an26 cd26 ct26),sl26⟩) (c26:PySem.W.codeIn K cd26 "TooHigh.__init__"=true) (k26:PySem.W.keepIn K (.ref f26)=true)
 (a27:PySem.W.nsIn K mainGlobals "refuse_high"=some (some (.ref f27)))
 (l27:K.lookup f27=some ⟨oc27,od27,.func (PySem.W.fnOf "refuse_high" "refuse_high" (aA iW) (ax iW) (ag iW) .none kV27 dc27 pm27 an27 cd27 ct27),sl27⟩) (c27:PySem.W.codeIn K cd27 "refuse_high"=true) (k27:PySem.W.keepIn K (.ref f27)=true)
 (a28:PySem.W.nsIn K mainGlobals "without_squares"=some (some (.ref f28)))
 (l28:K.lookup f28=some ⟨oc28,od28,.func (PySem.W.fnOf "without_squares" "without_squares" (aA iH) (ax iH) (ag iH) .none kV28 dc28 pm28 an28 cd28 ct28),sl28⟩) (c28:PySem.W.codeIn K cd28 "without_squares"=true) (k28:PySem.W.keepIn K (.ref f28)=true)
 (a29:PySem.W.findIn K (.ref CC2) "__init__"=some (some (.ref f29))) (i29:PySem.W.isFn K (.ref f29)=true)
 (l29:K.lookup f29=some ⟨oc29,od29,.func (PySem.W.fnOf "__init__" "Number.__init__" (aA jM) (ax jM) (ag jM) .none kV29 dc29 pm29 an29 cd29 ct29),sl29⟩) (c29:PySem.W.codeIn K cd29 "Number.__init__"=true) (k29:PySem.W.keepIn K (.ref f29)=true)
 (a30:PySem.W.nsIn K mainGlobals "fine_width"=some (some (.ref f30)))
 (l30:K.lookup f30=some ⟨oc30,od30,.func (PySem.W.fnOf "fine_width" "fine_width" (aA ji) (ax ji) (ag ji) .none kV30 dc30 pm30 an30 cd30 ct30),sl30⟩) (c30:PySem.W.codeIn K cd30 "fine_width"=true) (k30:PySem.W.keepIn K (.ref f30)=true)
 (a31:PySem.W.findIn K (.ref CC1) "floor"=some (some (.ref f31))) (i31:PySem.W.isFn K (.ref f31)=true)
 (l31:K.lookup f31=some ⟨oc31,od31,.func (PySem.W.fnOf "floor" "Ratio.floor" (aA jJ) (ax jJ) (ag jJ) .none kV31 dc31 pm31 an31 cd31 ct31),sl31⟩) (c31:PySem.W.codeIn K cd31 "Ratio.floor"=true) (k31:PySem.W.keepIn K (.ref f31)=true)
 (a32:PySem.W.nsIn K mainGlobals "cells"=some (some (.ref f32)))
 (l32:K.lookup f32=some ⟨oc32,od32,.func (PySem.W.fnOf "cells" "cells" (aA jq) (ax jq) (ag jq) .none kV32 dc32 pm32 an32 cd32 ct32),sl32⟩) (c32:PySem.W.codeIn K cd32 "cells"=true) (k32:PySem.W.keepIn K (.ref f32)=true)
 (a33:PySem.W.nsIn K mainGlobals "divides"=some (some (.ref f33)))
 (l33:K.lookup f33=some ⟨oc33,od33,.func (PySem.W.fnOf "divides" "divides" (aA jj) (ax jj) (ag jj) .none kV33 dc33 pm33 an33 cd33 ct33),sl33⟩) (c33:PySem.W.codeIn K cd33 "divides"=true) (k33:PySem.W.keepIn K (.ref f33)=true)
 (a34:PySem.W.nsIn K mainGlobals "added"=some (some (.ref f34)))
 (l34:K.lookup f34=some ⟨oc34,od34,.func (PySem.W.fnOf "added" "added" (aA ju) (ax ju) (ag ju) .none kV34 dc34 pm34 an34 cd34 ct34),sl34⟩) (c34:PySem.W.codeIn K cd34 "added"=true) (k34:PySem.W.keepIn K (.ref f34)=true)
 (a35:PySem.W.nsIn K mainGlobals "multiplied"=some (some (.ref f35)))
 (l35:K.lookup f35=some ⟨oc35,od35,.func (PySem.W.fnOf "multiplied" "multiplied" (aA ja) (ax ja) (ag ja) .none kV35 dc35 pm35 an35 cd35 ct35),sl35⟩) (c35:PySem.W.codeIn K cd35 "multiplied"=true) (k35:PySem.W.keepIn K (.ref f35)=true)
 (a36:PySem.W.findIn K (.ref CC1) "plus"=some (some (.ref f36))) (i36:PySem.W.isFn K (.ref f36)=true)
 (l36:K.lookup f36=some ⟨oc36,od36,.func (PySem.W.fnOf "plus" "Ratio.plus" (aA jH) (ax jH) (ag jH) .none kV36 dc36 pm36 an36 cd36 ct36),sl36⟩) (c36:PySem.W.codeIn K cd36 "Ratio.plus"=true) (k36:PySem.W.keepIn K (.ref f36)=true)
 (a37:PySem.W.findIn K (.ref CC1) "minus"=some (some (.ref f37))) (i37:PySem.W.isFn K (.ref f37)=true)
 (l37:K.lookup f37=some ⟨oc37,od37,.func (PySem.W.fnOf "minus" "Ratio.minus" (aA jI) (ax jI) (ag jI) .none kV37 dc37 pm37 an37 cd37 ct37),sl37⟩) (c37:PySem.W.codeIn K cd37 "Ratio.minus"=true) (k37:PySem.W.keepIn K (.ref f37)=true)
 (a38:PySem.W.findIn K (.ref CC1) "times"=some (some (.ref f38))) (i38:PySem.W.isFn K (.ref f38)=true)
 (l38:K.lookup f38=some ⟨oc38,od38,.func (PySem.W.fnOf "times" "Ratio.times" (aA jG) (ax jG) (ag jG) .none kV38 dc38 pm38 an38 cd38 ct38),sl38⟩) (c38:PySem.W.codeIn K cd38 "Ratio.times"=true) (k38:PySem.W.keepIn K (.ref f38)=true)
 (a39:PySem.W.nsIn K mainGlobals "times_floor"=some (some (.ref f39)))
 (l39:K.lookup f39=some ⟨oc39,od39,.func (PySem.W.fnOf "times_floor" "times_floor" (aA iK) (ax iK) (ag iK) .none kV39 dc39 pm39 an39 cd39 ct39),sl39⟩) (c39:PySem.W.codeIn K cd39 "times_floor"=true) (k39:PySem.W.keepIn K (.ref f39)=true)
 (a40:PySem.W.nsIn K mainGlobals "square_of"=some (some (.ref f40)))
 (l40:K.lookup f40=some ⟨oc40,od40,.func (PySem.W.fnOf "square_of" "square_of" (aA iN) (ax iN) (ag iN) .none kV40 dc40 pm40 an40 cd40 ct40),sl40⟩) (c40:PySem.W.codeIn K cd40 "square_of"=true) (k40:PySem.W.keepIn K (.ref f40)=true)
 (a41:PySem.W.nsIn K mainGlobals "line_of"=some (some (.ref f41)))
 (l41:K.lookup f41=some ⟨oc41,od41,.func (PySem.W.fnOf "line_of" "line_of" (aA je) (ax je) (ag je) .none kV41 dc41 pm41 an41 cd41 ct41),sl41⟩) (c41:PySem.W.codeIn K cd41 "line_of"=true) (k41:PySem.W.keepIn K (.ref f41)=true)
 (a42:PySem.W.nsIn K mainGlobals "halvings"=some (some (.ref f42)))
 (l42:K.lookup f42=some ⟨oc42,od42,.func (PySem.W.fnOf "halvings" "halvings" (aA jg) (ax jg) (ag jg) .none kV42 dc42 pm42 an42 cd42 ct42),sl42⟩) (c42:PySem.W.codeIn K cd42 "halvings"=true) (k42:PySem.W.keepIn K (.ref f42)=true)
 (a43:PySem.W.nsIn K mainGlobals "stretched"=some (some (.ref f43)))
 (l43:K.lookup f43=some ⟨oc43,od43,.func (PySem.W.fnOf "stretched" "stretched" (aA iM) (ax iM) (ag iM) .none kV43 dc43 pm43 an43 cd43 ct43),sl43⟩) (c43:PySem.W.codeIn K cd43 "stretched"=true) (k43:PySem.W.keepIn K (.ref f43)=true)
 (a44:PySem.W.nsIn K mainGlobals "spread"=some (some (.ref f44)))
 (l44:K.lookup f44=some ⟨oc44,od44,.func (PySem.W.fnOf "spread" "spread" (aA iO) (ax iO) (ag iO) .none kV44 dc44 pm44 an44 cd44 ct44),sl44⟩) (c44:PySem.W.codeIn K cd44 "spread"=true) (k44:PySem.W.keepIn K (.ref f44)=true)
 (a45:PySem.W.nsIn K mainGlobals "moved"=some (some (.ref f45)))
 (l45:K.lookup f45=some ⟨oc45,od45,.func (PySem.W.fnOf "moved" "moved" (aA jb) (ax jb) (ag jb) .none kV45 dc45 pm45 an45 cd45 ct45),sl45⟩) (c45:PySem.W.codeIn K cd45 "moved"=true) (k45:PySem.W.keepIn K (.ref f45)=true)
 (a46:PySem.W.nsIn K mainGlobals "halved"=some (some (.ref f46)))
 (l46:K.lookup f46=some ⟨oc46,od46,.func (PySem.W.fnOf "halved" "halved" (aA jh) (ax jh) (ag jh) .none kV46 dc46 pm46 an46 cd46 ct46),sl46⟩) (c46:PySem.W.codeIn K cd46 "halved"=true) (k46:PySem.W.keepIn K (.ref f46)=true)
 (a47:PySem.W.nsIn K mainGlobals "along"=some (some (.ref f47)))
 (l47:K.lookup f47=some ⟨oc47,od47,.func (PySem.W.fnOf "along" "along" (aA jt) (ax jt) (ag jt) .none kV47 dc47 pm47 an47 cd47 ct47),sl47⟩) (c47:PySem.W.codeIn K cd47 "along"=true) (k47:PySem.W.keepIn K (.ref f47)=true)
 (a48:PySem.W.nsIn K mainGlobals "narrowed"=some (some (.ref f48)))
 (l48:K.lookup f48=some ⟨oc48,od48,.func (PySem.W.fnOf "narrowed" "narrowed" (aA i9) (ax i9) (ag i9) .none kV48 dc48 pm48 an48 cd48 ct48),sl48⟩) (c48:PySem.W.codeIn K cd48 "narrowed"=true) (k48:PySem.W.keepIn K (.ref f48)=true)
 (a49:PySem.W.nsIn K mainGlobals "many_within"=some (some (.ref f49)))
 (l49:K.lookup f49=some ⟨oc49,od49,.func (PySem.W.fnOf "many_within" "many_within" (aA jc) (ax jc) (ag jc) .none kV49 dc49 pm49 an49 cd49 ct49),sl49⟩) (c49:PySem.W.codeIn K cd49 "many_within"=true) (k49:PySem.W.keepIn K (.ref f49)=true)
 (a50:PySem.W.nsIn K mainGlobals "refuse_great"=some (some (.ref f50)))
 (l50:K.lookup f50=some ⟨oc50,od50,.func (PySem.W.fnOf "refuse_great" "refuse_great" (aA iX) (ax iX) (ag iX) .none kV50 dc50 pm50 an50 cd50 ct50),sl50⟩) (c50:PySem.W.codeIn K cd50 "refuse_great"=true) (k50:PySem.W.keepIn K (.ref f50)=true)
 (a51:PySem.W.nsIn K mainGlobals "least"=some (some (.ref f51)))
 (l51:K.lookup f51=some ⟨oc51,od51,.func (PySem.W.fnOf "least" "least" (aA jf) (ax jf) (ag jf) .none kV51 dc51 pm51 an51 cd51 ct51),sl51⟩) (c51:PySem.W.codeIn K cd51 "least"=true) (k51:PySem.W.keepIn K (.ref f51)=true)
 (a52:PySem.W.nsIn K mainGlobals "number_in"=some (some (.ref f52)))
 (l52:K.lookup f52=some ⟨oc52,od52,.func (PySem.W.fnOf "number_in" "number_in" (aA i7) (ax i7) (ag i7) .none kV52 dc52 pm52 an52 cd52 ct52),sl52⟩) (c52:PySem.W.codeIn K cd52 "number_in"=true) (k52:PySem.W.keepIn K (.ref f52)=true)
 (a53:PySem.W.nsIn K mainGlobals "number"=some (some (.ref f53)))
 (l53:K.lookup f53=some ⟨oc53,od53,.func (PySem.W.fnOf "number" "number" (aA i8) (ax i8) (ag i8) (.ref dt53) kV53 dc53 pm53 an53 cd53 ct53),sl53⟩) (c53:PySem.W.codeIn K cd53 "number"=true) (k53:PySem.W.keepIn K (.ref f53)=true)
 (t53:K.lookup dt53=some ⟨oct53,odt53,.seq #[.none,.none] nt53,slt53⟩)
 (a54:PySem.W.nsIn K mainGlobals "_law_cell_at"=some (some (.ref f54)))
 (l54:K.lookup f54=some ⟨oc54,od54,.func (PySem.W.fnOf "_law_cell_at" "_law_cell_at" (aA jD) (ax jD) (ag jD) .none kV54 dc54 pm54 an54 cd54 ct54),sl54⟩) (c54:PySem.W.codeIn K cd54 "_law_cell_at"=true) (k54:PySem.W.keepIn K (.ref f54)=true)
 (a55:PySem.W.nsIn K mainGlobals "_law_whole"=some (some (.ref f55)))
 (l55:K.lookup f55=some ⟨oc55,od55,.func (PySem.W.fnOf "_law_whole" "_law_whole" (aA jv) (ax jv) (ag jv) .none kV55 dc55 pm55 an55 cd55 ct55),sl55⟩) (c55:PySem.W.codeIn K cd55 "_law_whole"=true) (k55:PySem.W.keepIn K (.ref f55)=true)
 (a56:PySem.W.nsIn K mainGlobals "_law_divisor"=some (some (.ref f56)))
 (l56:K.lookup f56=some ⟨oc56,od56,.func (PySem.W.fnOf "_law_divisor" "_law_divisor" (aA jC) (ax jC) (ag jC) .none kV56 dc56 pm56 an56 cd56 ct56),sl56⟩) (c56:PySem.W.codeIn K cd56 "_law_divisor"=true) (k56:PySem.W.keepIn K (.ref f56)=true)
 (a57:PySem.W.nsIn K mainGlobals "_law_ratio"=some (some (.ref f57)))
 (l57:K.lookup f57=some ⟨oc57,od57,.func (PySem.W.fnOf "_law_ratio" "_law_ratio" (aA jy) (ax jy) (ag jy) .none kV57 dc57 pm57 an57 cd57 ct57),sl57⟩) (c57:PySem.W.codeIn K cd57 "_law_ratio"=true) (k57:PySem.W.keepIn K (.ref f57)=true)
 (a58:PySem.W.nsIn K mainGlobals "_law_poly"=some (some (.ref f58)))
 (l58:K.lookup f58=some ⟨oc58,od58,.func (PySem.W.fnOf "_law_poly" "_law_poly" (aA jA) (ax jA) (ag jA) .none kV58 dc58 pm58 an58 cd58 ct58),sl58⟩) (c58:PySem.W.codeIn K cd58 "_law_poly"=true) (k58:PySem.W.keepIn K (.ref f58)=true)
 (a59:PySem.W.nsIn K mainGlobals "_law_times"=some (some (.ref f59)))
 (l59:K.lookup f59=some ⟨oc59,od59,.func (PySem.W.fnOf "_law_times" "_law_times" (aA jx) (ax jx) (ag jx) .none kV59 dc59 pm59 an59 cd59 ct59),sl59⟩) (c59:PySem.W.codeIn K cd59 "_law_times"=true) (k59:PySem.W.keepIn K (.ref f59)=true)
 (a60:PySem.W.nsIn K mainGlobals "_law_fractions"=some (some (.ref f60)))
 (l60:K.lookup f60=some ⟨oc60,od60,.func (PySem.W.fnOf "_law_fractions" "_law_fractions" (aA jB) (ax jB) (ag jB) .none kV60 dc60 pm60 an60 cd60 ct60),sl60⟩) (c60:PySem.W.codeIn K cd60 "_law_fractions"=true) (k60:PySem.W.keepIn K (.ref f60)=true)
 (a61:PySem.W.nsIn K mainGlobals "_law_product"=some (some (.ref f61)))
 (l61:K.lookup f61=some ⟨oc61,od61,.func (PySem.W.fnOf "_law_product" "_law_product" (aA jz) (ax jz) (ag jz) .none kV61 dc61 pm61 an61 cd61 ct61),sl61⟩) (c61:PySem.W.codeIn K cd61 "_law_product"=true) (k61:PySem.W.keepIn K (.ref f61)=true)
 (a62:PySem.W.nsIn K mainGlobals "_law_ends"=some (some (.ref f62)))
 (l62:K.lookup f62=some ⟨oc62,od62,.func (PySem.W.fnOf "_law_ends" "_law_ends" (aA gj) (ax gj) (ag gj) .none kV62 dc62 pm62 an62 cd62 ct62),sl62⟩) (c62:PySem.W.codeIn K cd62 "_law_ends"=true) (k62:PySem.W.keepIn K (.ref f62)=true)
 (a63:PySem.W.nsIn K mainGlobals "_law_under"=some (some (.ref f63)))
 (l63:K.lookup f63=some ⟨oc63,od63,.func (PySem.W.fnOf "_law_under" "_law_under" (aA jw) (ax jw) (ag jw) .none kV63 dc63 pm63 an63 cd63 ct63),sl63⟩) (c63:PySem.W.codeIn K cd63 "_law_under"=true) (k63:PySem.W.keepIn K (.ref f63)=true)
 (a64:PySem.W.nsIn K mainGlobals "_law_within"=some (some (.ref f64)))
 (l64:K.lookup f64=some ⟨oc64,od64,.func (PySem.W.fnOf "_law_within" "_law_within" (aA gf) (ax gf) (ag gf) .none kV64 dc64 pm64 an64 cd64 ct64),sl64⟩) (c64:PySem.W.codeIn K cd64 "_law_within"=true) (k64:PySem.W.keepIn K (.ref f64)=true)
 (a65:PySem.W.nsIn K mainGlobals "_law_asked"=some (some (.ref f65)))
 (l65:K.lookup f65=some ⟨oc65,od65,.func (PySem.W.fnOf "_law_asked" "_law_asked" (aA jE) (ax jE) (ag jE) .none kV65 dc65 pm65 an65 cd65 ct65),sl65⟩) (c65:PySem.W.codeIn K cd65 "_law_asked"=true) (k65:PySem.W.keepIn K (.ref f65)=true)
 (a66:PySem.W.nsIn K mainGlobals "_law_refused"=some (some (.ref f66)))
 (l66:K.lookup f66=some ⟨oc66,od66,.func (PySem.W.fnOf "_law_refused" "_law_refused" (aA gg) (ax gg) (ag gg) .none kV66 dc66 pm66 an66 cd66 ct66),sl66⟩) (c66:PySem.W.codeIn K cd66 "_law_refused"=true) (k66:PySem.W.keepIn K (.ref f66)=true)
 (a67:PySem.W.nsIn K mainGlobals "law"=some (some (.ref f67)))
 (l67:K.lookup f67=some ⟨oc67,od67,.func (PySem.W.fnOf "law" "law" (aA d6) (ax d6) (ag d6) .none kV67 dc67 pm67 an67 cd67 ct67),sl67⟩) (c67:PySem.W.codeIn K cd67 "law"=true) (k67:PySem.W.keepIn K (.ref f67)=true)
 (z0:PySem.W.nsIn K mainGlobals "abs"=some none)
 (z1:PySem.W.nsIn K mainGlobals "len"=some none)
 (z2:PySem.W.nsIn K mainGlobals "max"=some none)
 (z3:PySem.W.nsIn K mainGlobals "range"=some none)
 (z4:PySem.W.nsIn K mainGlobals "enumerate"=some none)
 (z5:PySem.W.nsIn K mainGlobals "reversed"=some none)
 (z6:PySem.W.nsIn K mainGlobals "list"=some none)
 (z7:PySem.W.nsIn K mainGlobals "sum"=some none)
 (z8:PySem.W.nsIn K mainGlobals "any"=some none)
 (z9:PySem.W.nsIn K mainGlobals "isinstance"=some none)
 (z10:PySem.W.nsIn K mainGlobals "int"=some none)
 (z11:PySem.W.nsIn K mainGlobals "bool"=some none)
 (z12:PySem.W.nsIn K mainGlobals "ValueError"=some none)
 (aI_HIGHEST:PySem.W.nsIn K mainGlobals "HIGHEST"=some (some (.int 8 tk_HIGHEST)))
 (hTr:l.prog.given.tree=none)
 : ∃fd:FuncData,(∀(s:Shared) (v:Value),BindsTo s fd ⟨[v],[]⟩ [("_law_script",v)])/\∀base:Heap,K.In base->base.Ns mainGlobals mg->base.NoSeer->FnOk l.prog w K mg base CX0 42 fa fd ["_law_script"] (ny K):=by
 have e:=hfa.symm.trans (PySem.W.mg_of X G a67);cases e;have T:Txt K mg:=⟨PySem.W.mg_none_of X G z0,PySem.W.mg_none_of X G z1,PySem.W.mg_none_of X G z2,PySem.W.mg_none_of X G z3,PySem.W.mg_none_of X G z4,PySem.W.mg_none_of X G z5,PySem.W.mg_none_of X G z6,PySem.W.mg_none_of X G z7,PySem.W.mg_none_of X G z8,PySem.W.mg_none_of X G z9,PySem.W.mg_none_of X G z10,PySem.W.mg_none_of X G z11,PySem.W.mg_none_of X G z12,⟨_,PySem.W.mg_of X G aI_HIGHEST⟩⟩;have R1:RCI K mg CC1:=⟨⟨pg1,hd1,po1,sa1⟩,n1_top,n1_bottom,PySem.W.mg_of X G aC1,ha1,hn1,ht1,hm1⟩;have R2:NCI K mg CC2:=⟨⟨pg2,hd2,po2,sa2⟩,n2_poly,n2_low,n2_high,PySem.W.mg_of X G aC2,ha2,hn2,ht2,hm2⟩;have F1:=aD (st:=iR) l1 c1 k1;have b1:=F1.binds (ps:=["one","other"]) λ_ _ _ _ _ _ us hl=>match us,hl with | [_,_],_=>rfl
 have F2:=aD (st:=iS) l2 c2 k2;have b2:=F2.binds (ps:=["row"]) λ_ _ _ _ _ _ us hl=>match us,hl with | [_],_=>rfl
 have F3:=aD (st:=iI) l3 c3 k3;have b3:=F3.binds (ps:=["value"]) λ_ _ _ _ _ _ us hl=>match us,hl with | [_],_=>rfl
 have F4:=yU (st:=jL) l4 c4 k4;have b4:=FunD.bindsD (ps:=["self","top","bottom"]) (ds:=[]) (tup:=[.int 1 tk4_0]) 3 F4 t4 rfl rfl λ_ _ _ _ _ _ us hl=>match us,hl with | [_,_,_],_=>⟨_,rfl,rfl⟩
 have bD4:=FunD.bindsD (ps:=["self","top","bottom"]) (ds:=[.int 1 tk4_0]) (tup:=[.int 1 tk4_0]) 2 F4 t4 rfl rfl λ_ _ _ _ _ _ us hl=>match us,hl with | [_,_],_=>⟨_,rfl,rfl⟩
 have F5:=aD (st:=jK) l5 c5 k5;have b5:=F5.binds (ps:=["self","other"]) λ_ _ _ _ _ _ us hl=>match us,hl with | [_,_],_=>rfl
 have F6:=aD (st:=iY) l6 c6 k6;have b6:=F6.binds (ps:=["row"]) λ_ _ _ _ _ _ us hl=>match us,hl with | [_],_=>rfl
 have F7:=aD (st:=jl) l7 c7 k7;have b7:=F7.binds (ps:=["row"]) λ_ _ _ _ _ _ us hl=>match us,hl with | [_],_=>rfl
 have F8:=aD (st:=jo) l8 c8 k8;have b8:=F8.binds (ps:=["row","place"]) λ_ _ _ _ _ _ us hl=>match us,hl with | [_,_],_=>rfl
 have F9:=aD (st:=iL) l9 c9 k9;have b9:=F9.binds (ps:=["first","second"]) λ_ _ _ _ _ _ us hl=>match us,hl with | [_,_],_=>rfl
 have F10:=aD (st:=iP) l10 c10 k10;have b10:=F10.binds (ps:=["row"]) λ_ _ _ _ _ _ us hl=>match us,hl with | [_],_=>rfl
 have F11:=aD (st:=gd) l11 c11 k11;have b11:=F11.binds (ps:=["row"]) λ_ _ _ _ _ _ us hl=>match us,hl with | [_],_=>rfl
 have F12:=aD (st:=iZ) l12 c12 k12;have b12:=F12.binds (ps:=["row"]) λ_ _ _ _ _ _ us hl=>match us,hl with | [_],_=>rfl
 have F13:=aD (st:=iT) l13 c13 k13;have b13:=F13.binds (ps:=["row","factor"]) λ_ _ _ _ _ _ us hl=>match us,hl with | [_,_],_=>rfl
 have F14:=aD (st:=jd) l14 c14 k14;have b14:=F14.binds (ps:=["row","second","place","lead"]) λ_ _ _ _ _ _ us hl=>match us,hl with | [_,_,_,_],_=>rfl
 have F15:=aD (st:=jk) l15 c15 k15;have b15:=F15.binds (ps:=["first","second"]) λ_ _ _ _ _ _ us hl=>match us,hl with | [_,_],_=>rfl
 have F16:=aD (st:=iJ) l16 c16 k16;have b16:=F16.binds (ps:=["row","top","bottom"]) λ_ _ _ _ _ _ us hl=>match us,hl with | [_,_,_],_=>rfl
 have F17:=aD (st:=iQ) l17 c17 k17;have b17:=F17.binds (ps:=["row","ratio"]) λ_ _ _ _ _ _ us hl=>match us,hl with | [_,_],_=>rfl
 have F18:=aD (st:=iV) l18 c18 k18;have b18:=F18.binds (ps:=["first","second"]) λ_ _ _ _ _ _ us hl=>match us,hl with | [_,_],_=>rfl
 have F19:=aD (st:=iU) l19 c19 k19;have b19:=F19.binds (ps:=["polynomial"]) λ_ _ _ _ _ _ us hl=>match us,hl with | [_],_=>rfl
 have F20:=aD (st:=jp) l20 c20 k20;have b20:=F20.binds (ps:=["row","ratio"]) λ_ _ _ _ _ _ us hl=>match us,hl with | [_,_],_=>rfl
 have F21:=aD (st:=jm) l21 c21 k21;have b21:=F21.binds (ps:=["row","low","high"]) λ_ _ _ _ _ _ us hl=>match us,hl with | [_,_,_],_=>rfl
 have F22:=aD (st:=jr) l22 c22 k22;have b22:=F22.binds (ps:=["row"]) λ_ _ _ _ _ _ us hl=>match us,hl with | [_],_=>rfl
 have F23:=aD (st:=jn) l23 c23 k23;have b23:=F23.binds (ps:=["first","second"]) λ_ _ _ _ _ _ us hl=>match us,hl with | [_,_],_=>rfl
 have F24:=aD (st:=i6) l24 c24 k24;have b24:=F24.binds (ps:=["row","divisor"]) λ_ _ _ _ _ _ us hl=>match us,hl with | [_,_],_=>rfl
 have F25:=aD (st:=jN) l25 c25 k25;have b25:=F25.binds (ps:=["self","many"]) λ_ _ _ _ _ _ us hl=>match us,hl with | [_,_],_=>rfl
 have F26:=aD (st:=jF) l26 c26 k26;have b26:=F26.binds (ps:=["self","degree"]) λ_ _ _ _ _ _ us hl=>match us,hl with | [_,_],_=>rfl
 have F27:=aD (st:=iW) l27 c27 k27;have b27:=F27.binds (ps:=["height"]) λ_ _ _ _ _ _ us hl=>match us,hl with | [_],_=>rfl
 have F28:=aD (st:=iH) l28 c28 k28;have b28:=F28.binds (ps:=["row"]) λ_ _ _ _ _ _ us hl=>match us,hl with | [_],_=>rfl
 have F29:=aD (st:=jM) l29 c29 k29;have b29:=F29.binds (ps:=["self","row","low","high"]) λ_ _ _ _ _ _ us hl=>match us,hl with | [_,_,_,_],_=>rfl
 have F30:=aD (st:=ji) l30 c30 k30;have b30:=F30.binds (ps:=["whole"]) λ_ _ _ _ _ _ us hl=>match us,hl with | [_],_=>rfl
 have F31:=aD (st:=jJ) l31 c31 k31;have b31:=F31.binds (ps:=["self"]) λ_ _ _ _ _ _ us hl=>match us,hl with | [_],_=>rfl
 have F32:=aD (st:=jq) l32 c32 k32;have b32:=F32.binds (ps:=["row"]) λ_ _ _ _ _ _ us hl=>match us,hl with | [_],_=>rfl
 have F33:=aD (st:=jj) l33 c33 k33;have b33:=F33.binds (ps:=["divisor","row"]) λ_ _ _ _ _ _ us hl=>match us,hl with | [_,_],_=>rfl
 have F34:=aD (st:=ju) l34 c34 k34;have b34:=F34.binds (ps:=["first","second"]) λ_ _ _ _ _ _ us hl=>match us,hl with | [_,_],_=>rfl
 have F35:=aD (st:=ja) l35 c35 k35;have b35:=F35.binds (ps:=["first","second"]) λ_ _ _ _ _ _ us hl=>match us,hl with | [_,_],_=>rfl
 have F36:=aD (st:=jH) l36 c36 k36;have b36:=F36.binds (ps:=["self","other"]) λ_ _ _ _ _ _ us hl=>match us,hl with | [_,_],_=>rfl
 have F37:=aD (st:=jI) l37 c37 k37;have b37:=F37.binds (ps:=["self","other"]) λ_ _ _ _ _ _ us hl=>match us,hl with | [_,_],_=>rfl
 have F38:=aD (st:=jG) l38 c38 k38;have b38:=F38.binds (ps:=["self","other"]) λ_ _ _ _ _ _ us hl=>match us,hl with | [_,_],_=>rfl
 have F39:=aD (st:=iK) l39 c39 k39;have b39:=F39.binds (ps:=["factor","ratio"]) λ_ _ _ _ _ _ us hl=>match us,hl with | [_,_],_=>rfl
 have F40:=aD (st:=iN) l40 c40 k40;have b40:=F40.binds (ps:=["whole","span","other"]) λ_ _ _ _ _ _ us hl=>match us,hl with | [_,_,_],_=>rfl
 have F41:=aD (st:=je) l41 c41 k41;have b41:=F41.binds (ps:=["whole","span"]) λ_ _ _ _ _ _ us hl=>match us,hl with | [_,_],_=>rfl
 have F42:=aD (st:=jg) l42 c42 k42;have b42:=F42.binds (ps:=["reach","width"]) λ_ _ _ _ _ _ us hl=>match us,hl with | [_,_],_=>rfl
 have F43:=aD (st:=iM) l43 c43 k43;have b43:=F43.binds (ps:=["row","low","reach"]) λ_ _ _ _ _ _ us hl=>match us,hl with | [_,_,_],_=>rfl
 have F44:=aD (st:=iO) l44 c44 k44;have b44:=F44.binds (ps:=["row"]) λ_ _ _ _ _ _ us hl=>match us,hl with | [_],_=>rfl
 have F45:=aD (st:=jb) l45 c45 k45;have b45:=F45.binds (ps:=["row"]) λ_ _ _ _ _ _ us hl=>match us,hl with | [_],_=>rfl
 have F46:=aD (st:=jh) l46 c46 k46;have b46:=F46.binds (ps:=["row","end","steps"]) λ_ _ _ _ _ _ us hl=>match us,hl with | [_,_,_],_=>rfl
 have F47:=aD (st:=jt) l47 c47 k47;have b47:=F47.binds (ps:=["low","reach","place","pieces"]) λ_ _ _ _ _ _ us hl=>match us,hl with | [_,_,_,_],_=>rfl
 have F48:=aD (st:=i9) l48 c48 k48;have b48:=F48.binds (ps:=["row","low","high","width"]) λ_ _ _ _ _ _ us hl=>match us,hl with | [_,_,_,_],_=>rfl
 have F49:=aD (st:=jc) l49 c49 k49;have b49:=F49.binds (ps:=["simple","low","high"]) λ_ _ _ _ _ _ us hl=>match us,hl with | [_,_,_],_=>rfl
 have F50:=aD (st:=iX) l50 c50 k50;have b50:=F50.binds (ps:=["row"]) λ_ _ _ _ _ _ us hl=>match us,hl with | [_],_=>rfl
 have F51:=aD (st:=jf) l51 c51 k51;have b51:=F51.binds (ps:=["row","low","high"]) λ_ _ _ _ _ _ us hl=>match us,hl with | [_,_,_],_=>rfl
 have F52:=aD (st:=i7) l52 c52 k52;have b52:=F52.binds (ps:=["simple","low","high"]) λ_ _ _ _ _ _ us hl=>match us,hl with | [_,_,_],_=>rfl
 have F53:=yU (st:=i8) l53 c53 k53;have b53:=FunD.bindsD (ps:=["row","low","high"]) (ds:=[]) (tup:=[.none,.none]) 3 F53 t53 rfl rfl λ_ _ _ _ _ _ us hl=>match us,hl with | [_,_,_],_=>⟨_,rfl,rfl⟩
 have bD53:=FunD.bindsD (ps:=["row","low","high"]) (ds:=[.none,.none]) (tup:=[.none,.none]) 1 F53 t53 rfl rfl λ_ _ _ _ _ _ us hl=>match us,hl with | [_],_=>⟨_,rfl,rfl⟩
 have F54:=aD (st:=jD) l54 c54 k54;have b54:=F54.binds (ps:=["_law_script","_law_k"]) λ_ _ _ _ _ _ us hl=>match us,hl with | [_,_],_=>rfl
 have F55:=aD (st:=jv) l55 c55 k55;have b55:=F55.binds (ps:=["_law_found"]) λ_ _ _ _ _ _ us hl=>match us,hl with | [_],_=>rfl
 have F56:=aD (st:=jC) l56 c56 k56;have b56:=F56.binds (ps:=["_law_one","_law_other"]) λ_ _ _ _ _ _ us hl=>match us,hl with | [_,_],_=>rfl
 have F57:=aD (st:=jy) l57 c57 k57;have b57:=F57.binds (ps:=["_law_found"]) λ_ _ _ _ _ _ us hl=>match us,hl with | [_],_=>rfl
 have F58:=aD (st:=jA) l58 c58 k58;have b58:=F58.binds (ps:=["_law_found"]) λ_ _ _ _ _ _ us hl=>match us,hl with | [_],_=>rfl
 have F59:=aD (st:=jx) l59 c59 k59;have b59:=F59.binds (ps:=["_law_one","_law_other"]) λ_ _ _ _ _ _ us hl=>match us,hl with | [_,_],_=>rfl
 have F60:=aD (st:=jB) l60 c60 k60;have b60:=F60.binds (ps:=["_law_script"]) λ_ _ _ _ _ _ us hl=>match us,hl with | [_],_=>rfl
 have F61:=aD (st:=jz) l61 c61 k61;have b61:=F61.binds (ps:=["_law_some","_law_cell"]) λ_ _ _ _ _ _ us hl=>match us,hl with | [_,_],_=>rfl
 have F62:=aD (st:=gj) l62 c62 k62;have b62:=F62.binds (ps:=["_law_some","_law_one","_law_other"]) λ_ _ _ _ _ _ us hl=>match us,hl with | [_,_,_],_=>rfl
 have F63:=aD (st:=jw) l63 c63 k63;have b63:=F63.binds (ps:=["_law_one","_law_other"]) λ_ _ _ _ _ _ us hl=>match us,hl with | [_,_],_=>rfl
 have F64:=aD (st:=gf) l64 c64 k64;have b64:=F64.binds (ps:=["_law_some","_law_low","_law_high"]) λ_ _ _ _ _ _ us hl=>match us,hl with | [_,_,_],_=>rfl
 have F65:=aD (st:=jE) l65 c65 k65;have b65:=F65.binds (ps:=["_law_kp","_law_low","_law_high"]) λ_ _ _ _ _ _ us hl=>match us,hl with | [_,_,_],_=>rfl
 have F66:=aD (st:=gg) l66 c66 k66;have b66:=F66.binds (ps:=["_law_kp","_law_low","_law_high","_law_height","_law_many"]) λ_ _ _ _ _ _ us hl=>match us,hl with | [_,_,_,_,_],_=>rfl
 have F67:=aD (st:=d6) l67 c67 k67;have b67:=F67.binds (ps:=["_law_script"]) λ_ _ _ _ _ _ us hl=>match us,hl with | [_],_=>rfl
 refine⟨PySem.W.fnOf "law" "law" (aA d6) (ax d6) (ag d6) .none kV67 dc67 pm67 an67 cd67 ct67,λs v=>.of_eq rfl,λbase KB GB hNS=>?_⟩;have XE:EXC K mg base CNoRoot CTooHigh CRootError:=⟨PySem.W.mg_of X G aENoRoot,PySem.W.mg_of X G aETooHigh,PySem.W.mg_of X G aERootError,xh_NoRoot_RootError,xh_TooHigh_RootError,xh_NoRoot_NoRoot,xh_TooHigh_NoRoot,xh_TooHigh_TooHigh,xi_NoRoot_ValueError,xi_TooHigh_ValueError,xi_NoRoot_NoRoot,xi_TooHigh_NoRoot,xi_NoRoot_TooHigh,xi_TooHigh_TooHigh⟩;have C1:Cal l.prog w K mg base 1 "shared_by_two" ["one","other"] sp2 _ _:=⟨Ei F1 T  ,PySem.W.mg_of X G a1,k1,b1⟩;have C2:Cal l.prog w K mg base 2 "shared" ["row"] (ni K) _ _:=⟨Ej F2 T  C1,PySem.W.mg_of X G a2,k2,b2⟩;have C3:Cal l.prog w K mg base 1 "whole_sign" ["value"] iC _ _:=⟨D8 F3 T  ,PySem.W.mg_of X G a3,k3,b3⟩;have K1:KCal l.prog w K mg base 2 CC1 "Ratio" ["self","top","bottom"] (cP CC1) _ _ _ [.int 1]:=⟨Fh F4 T R1 C1,⟨mk1,a4,i4,kc1⟩,PySem.W.mg_of X G aC1,b4,bD4,.cons ⟨_,rfl⟩ .nil⟩;have C5:MCal l.prog w K mg base 2 CC1 "against" ["self","other"] (nG CC1) _ _:=⟨Fg F5 T R1 C3,⟨a5,i5,k5⟩,b5⟩;have C6:Cal l.prog w K mg base 1 "poly" ["row"] (iB K) _ _:=⟨Ep F6 T  ,PySem.W.mg_of X G a6,k6,b6⟩;have C7:Cal l.prog w K mg base 1 "degree" ["row"] iE _ _:=⟨EI F7 T  ,PySem.W.mg_of X G a7,k7,b7⟩;have C8:Cal l.prog w K mg base 1 "coefficient" ["row","place"] (fv K) _ _:=⟨EN F8 T  ,PySem.W.mg_of X G a8,k8,b8⟩;have C9:Cal l.prog w K mg base 2 "taken" ["first","second"] (iF K bU) _ _:=⟨Eb F9 T  C6 C8,PySem.W.mg_of X G a9,k9,b9⟩;have C10:Cal l.prog w K mg base 1 "slope" ["row"] (sp1 slopeL) _ _:=⟨Ef F10 T  ,PySem.W.mg_of X G a10,k10,b10⟩;have C11:Cal l.prog w K mg base 33 "shrunk" ["row"] nh _ _:=⟨Eh F11 T  hNS hTr C2,PySem.W.mg_of X G a11,k11,b11⟩;have C12:Cal l.prog w K mg base 34 "plain" ["row"] kK _ _:=⟨Er F12 T  C11,PySem.W.mg_of X G a12,k12,b12⟩;have C13:Cal l.prog w K mg base 1 "scaled" ["row","factor"] qe _ _:=⟨Ek F13 T  ,PySem.W.mg_of X G a13,k13,b13⟩;have C14:Cal l.prog w K mg base 1 "lowered" ["row","second","place","lead"] qv _ _:=⟨Ez F14 T  ,PySem.W.mg_of X G a14,k14,b14⟩;have C15:Cal l.prog w K mg base 2 "divided" ["first","second"] kL _ _:=⟨EH F15 T  C3 C7 C13 C14 C6,PySem.W.mg_of X G a15,k15,b15⟩;have C16:Cal l.prog w K mg base 1 "value_parts" ["row","top","bottom"] pZ _ _:=⟨D9 F16 T  ,PySem.W.mg_of X G a16,k16,b16⟩;have C17:Cal l.prog w K mg base 2 "sign_at" ["row","ratio"] (iD CC1) _ _:=⟨Eg F17 T R1 C16 C3,PySem.W.mg_of X G a17,k17,b17⟩;have C18:Cal l.prog w K mg base 34 "row_from" ["first","second"] qf _ _:=⟨Em F18 T  C11 C15 C9,PySem.W.mg_of X G a18,k18,b18⟩;have C19:Cal l.prog w K mg base 35 "row_of" ["polynomial"] nj _ _:=⟨El F19 T  C18 C10,PySem.W.mg_of X G a19,k19,b19⟩;have C20:Cal l.prog w K mg base 3 "changes" ["row","ratio"] (qE CC1) _ _:=⟨EO F20 T R1 C17,PySem.W.mg_of X G a20,k20,b20⟩;have C21:Cal l.prog w K mg base 4 "count" ["row","low","high"] (nE CC1) _ _:=⟨EJ F21 T R1 C20,PySem.W.mg_of X G a21,k21,b21⟩;have C22:Cal l.prog w K mg base 1 "bound" ["row"] (nF K) _ _:=⟨ER F22 T  ,PySem.W.mg_of X G a22,k22,b22⟩;have C23:Cal l.prog w K mg base 35 "common" ["first","second"] qD _ _:=⟨EK F23 T  C12 C15,PySem.W.mg_of X G a23,k23,b23⟩;have C24:Cal l.prog w K mg base 35 "part" ["row","divisor"] qo _ _:=⟨Es F24 T  C15 C12,PySem.W.mg_of X G a24,k24,b24⟩;have C25:XCal l.prog w K mg base 1 CNoRoot "NoRoot" "many" ["self","many"] _ _:=⟨Fj F25 T (XCls.of yCNoRoot) yNNoRoot,xl KB GB aENoRoot yXNoRoot,yKNoRoot,b25,XCls.of yCNoRoot,⟨zJ e6NoRoot,e0NoRoot,e1NoRoot,e2NoRoot,e3NoRoot,e4NoRoot,e5NoRoot,e6NoRoot⟩,yNNoRoot⟩;have C26:XCal l.prog w K mg base 1 CTooHigh "TooHigh" "degree" ["self","degree"] _ _:=⟨Fb F26 T (XCls.of yCTooHigh) yNTooHigh,xl KB GB aETooHigh yXTooHigh,yKTooHigh,b26,XCls.of yCTooHigh,⟨zJ e6TooHigh,e0TooHigh,e1TooHigh,e2TooHigh,e3TooHigh,e4TooHigh,e5TooHigh,e6TooHigh⟩,yNTooHigh⟩;have C27:CalV l.prog w K mg base 3 "refuse_high" ["height"] (qg CTooHigh) _ _:=⟨En F27 T  C26,PySem.W.mg_of X G a27,k27,b27⟩;have C28:Cal l.prog w K mg base 36 "without_squares" ["row"] pX _ _:=⟨D7 F28 T  C24 C23 C10,PySem.W.mg_of X G a28,k28,b28⟩;have K2:KCal l.prog w K mg base 1 CC2 "Number" ["self","row","low","high"] (nC CC2) _ _ _ []:=⟨Fi F29 T R2 ,⟨mk2,a29,i29,kc2⟩,PySem.W.mg_of X G aC2,b29,b29,.nil⟩;have C30:Cal l.prog w K mg base 4 "fine_width" ["whole"] (qz CC1) _ _:=⟨EF F30 T R1 K1 C22,PySem.W.mg_of X G a30,k30,b30⟩;have C31:MCal l.prog w K mg base 1 CC1 "floor" ["self"] (qB CC1) _ _:=⟨Ff F31 T R1 ,⟨a31,i31,k31⟩,b31⟩;have C32:Cal l.prog w K mg base 1 "cells" ["row"] dZ _ _:=⟨EQ F32 T  ,PySem.W.mg_of X G a32,k32,b32⟩;have C33:Cal l.prog w K mg base 1 "divides" ["divisor","row"] dZ _ _:=⟨EG F33 T  ,PySem.W.mg_of X G a33,k33,b33⟩;have C34:Cal l.prog w K mg base 2 "added" ["first","second"] (iF K fh) _ _:=⟨ET F34 T  C6 C8,PySem.W.mg_of X G a34,k34,b34⟩;have C35:Cal l.prog w K mg base 1 "multiplied" ["first","second"] qr _ _:=⟨Ew F35 T  ,PySem.W.mg_of X G a35,k35,b35⟩;have C36:MCal l.prog w K mg base 4 CC1 "plus" ["self","other"] (qm CC1) _ _:=⟨Fd F36 T R1 K1,⟨a36,i36,k36⟩,b36⟩;have C37:MCal l.prog w K mg base 4 CC1 "minus" ["self","other"] (nv CC1) _ _:=⟨Fe F37 T R1 K1,⟨a37,i37,k37⟩,b37⟩;have C38:MCal l.prog w K mg base 4 CC1 "times" ["self","other"] (kJ CC1) _ _:=⟨Fc F38 T R1 K1,⟨a38,i38,k38⟩,b38⟩;have C39:Cal l.prog w K mg base 5 "times_floor" ["factor","ratio"] (qb CC1) _ _:=⟨Ea F39 T R1 K1 C38 C31,PySem.W.mg_of X G a39,k39,b39⟩;have C40:Cal l.prog w K mg base 1 "square_of" ["whole","span","other"] dZ _ _:=⟨Ed F40 T  ,PySem.W.mg_of X G a40,k40,b40⟩;have C41:Cal l.prog w K mg base 6 "line_of" ["whole","span"] (qw CC1) _ _:=⟨EA F41 T R1 K1 C39 C5 C17,PySem.W.mg_of X G a41,k41,b41⟩;have C42:Cal l.prog w K mg base 1 "halvings" ["reach","width"] (qx CC1) _ _:=⟨ED F42 T R1 ,PySem.W.mg_of X G a42,k42,b42⟩;have C43:Cal l.prog w K mg base 3 "stretched" ["row","low","reach"] (qc CC1) _ _:=⟨Ec F43 T R1 C2 C34 C35 C6,PySem.W.mg_of X G a43,k43,b43⟩;have C44:Cal l.prog w K mg base 1 "spread" ["row"] qd _ _:=⟨Ee F44 T  ,PySem.W.mg_of X G a44,k44,b44⟩;have C45:Cal l.prog w K mg base 2 "moved" ["row"] qt _ _:=⟨Ex F45 T  C7,PySem.W.mg_of X G a45,k45,b45⟩;have C46:Cal l.prog w K mg base 3 "halved" ["row","end","steps"] qy _ _:=⟨EE F46 T  C44 C3 C45,PySem.W.mg_of X G a46,k46,b46⟩;have C47:Cal l.prog w K mg base 5 "along" ["low","reach","place","pieces"] (qF CC1) _ _:=⟨ES F47 T R1 C36 C38 K1,PySem.W.mg_of X G a47,k47,b47⟩;have C48:Cal l.prog w K mg base 6 "narrowed" ["row","low","high","width"] (nu CC1) _ _:=⟨Ev F48 T R1 C37 C42 C46 C43 C17 C47,PySem.W.mg_of X G a48,k48,b48⟩;have C49:Cal l.prog w K mg base 36 "many_within" ["simple","low","high"] (qq CC1) _ _:=⟨Ey F49 T R1 C5 C21 C19,PySem.W.mg_of X G a49,k49,b49⟩;have C50:Cal l.prog w K mg base 1 "refuse_great" ["row"] qh _ _:=⟨Eo F50 T  ,PySem.W.mg_of X G a50,k50,b50⟩;have C51:Cal l.prog w K mg base 37 "least" ["row","low","high"] (qu CC1) _ _:=⟨EB F51 T  C12 C7 C30 C48 C41 C32 C40 C33 C21 C19,PySem.W.mg_of X G a51,k51,b51⟩;have C52:Cal l.prog w K mg base 38 "number_in" ["simple","low","high"] (qp CC1 CC2) _ _:=⟨Et F52 T R1 C51 C17 C48 C37 C38 K1 K2,PySem.W.mg_of X G a52,k52,b52⟩;have bH53:=FunD.bindsD (ps:=["row","low","high"]) (ds:=[.none]) (tup:=[.none,.none]) 2 F53 t53 rfl rfl λ_ _ _ _ _ _ us hl=>match us,hl with | [_,_],_=>⟨_,rfl,rfl⟩
 have C53:CalVE l.prog w K mg base 39 "number" ["row","low","high"] (nr CC1 CC2 CNoRoot CTooHigh) _ _:=⟨Eu F53 T R1 C27 C7 K1 C22 C28 C49 C50 C52 C25,PySem.W.mg_of X G a53,k53,b53,bH53,bD53⟩;have C54:Cal l.prog w K mg base 1 "_law_cell_at" ["_law_script","_law_k"] (fv K) _ _:=⟨E9 F54 T  ,PySem.W.mg_of X G a54,k54,b54⟩;have C55:Cal l.prog w K mg base 1 "_law_whole" ["_law_found"] kI _ _:=⟨EV F55 T  ,PySem.W.mg_of X G a55,k55,b55⟩;have C56:Cal l.prog w K mg base 1 "_law_divisor" ["_law_one","_law_other"] nD _ _:=⟨E8 F56 T  ,PySem.W.mg_of X G a56,k56,b56⟩;have C57:Cal l.prog w K mg base 2 "_law_ratio" ["_law_found"] (qi CC1) _ _:=⟨E3 F57 T R1 C55 C56,PySem.W.mg_of X G a57,k57,b57⟩;have C58:Cal l.prog w K mg base 2 "_law_poly" ["_law_found"] qk _ _:=⟨E5 F58 T  C55,PySem.W.mg_of X G a58,k58,b58⟩;have C59:Cal l.prog w K mg base 1 "_law_times" ["_law_one","_law_other"] qa _ _:=⟨EY F59 T  ,PySem.W.mg_of X G a59,k59,b59⟩;have C60:Cal l.prog w K mg base 2 "_law_fractions" ["_law_script"] (qA K) _ _:=⟨E6 F60 T  C54 C56,PySem.W.mg_of X G a60,k60,b60⟩;have C61:Cal l.prog w K mg base 2 "_law_product" ["_law_some","_law_cell"] qj _ _:=⟨E4 F61 T  C59,PySem.W.mg_of X G a61,k61,b61⟩;have C62:Cal l.prog w K mg base 1 "_law_ends" ["_law_some","_law_one","_law_other"] qC _ _:=⟨E7 F62 T  ,PySem.W.mg_of X G a62,k62,b62⟩;have C63:Cal l.prog w K mg base 1 "_law_under" ["_law_one","_law_other"] ng _ _:=⟨EW F63 T  ,PySem.W.mg_of X G a63,k63,b63⟩;have C64:Cal l.prog w K mg base 2 "_law_within" ["_law_some","_law_low","_law_high"] pY _ _:=⟨EU F64 T  C63,PySem.W.mg_of X G a64,k64,b64⟩;have C65:CalV l.prog w K mg base 40 "_law_asked" ["_law_kp","_law_low","_law_high"] (fZ CC1 CC2 CNoRoot CTooHigh) _ _:=⟨Fa F65 T R1 C53 K1,PySem.W.mg_of X G a65,k65,b65⟩;have C66:Cal l.prog w K mg base 41 "_law_refused" ["_law_kp","_law_low","_law_high","_law_height","_law_many"] (nk CC1) _ _:=⟨EZ F66 T R1 XE C65 C55 C25 C26,PySem.W.mg_of X G a66,k66,b66⟩;exact EC F67 T R1 R2 C60 C61 C54 C62 C64 C66 C65 C58 C57 C63
theorem walk{l:PySem.W.OpenLaw}{q:Program}{loose:List Str}{XP:(Str->Option Value)->Heap->Prop}{YP:World->Heap->Prop}{d:DefRec}{K:Params->PySem.W.Frag}(hi:PyProof.Rows.importsNone q=true)(hn:l.most=some 63)(hdf:d.params.defaults=[])
 (hY:∀(w:World) (h:Heap),YP w h->(K w.params).In h)
 (F:∀(w:World) (mg:Str->Option Value) (fa:Addr) (h:Heap),(K w.params).In h->h.Ns mainGlobals mg->mg d.name=some (.ref fa) ->
   ∃fd:FuncData,(∀(s:Shared) (u:Value),BindsTo s fd ⟨[u],[]⟩ [("_law_script",u)])/\∀base:Heap,(K w.params).In base->base.Ns mainGlobals mg->base.NoSeer->FnOk l.prog w (K w.params) mg base CX0 42 fa fd ["_law_script"] (ny (K w.params))) :
 PySem.W.WalkO q loose XP YP l.row.toRowW d [] (λf vs=>PySem.call f vs) :=
 L2.walk_ofS (n:=63) (k:=42) (x:="_law_script") (CX:=λ_=>CX0) (sp:=λw=>ny (K w.params)) hi hn (by decide) hdf ⟨rfl,by decide,by decide⟩ hY F (λ_ _ a ns hl _ hS=>⟨a,ns,rfl,hS,hl,λ_=>rfl⟩) λ_ _ _ _ _ z=>z
section
end
end R43
open PySem PySem.W PyProof.Rows
set_option maxRecDepth 100000 in
set_option maxHeartbeats 0 in
theorem PySem.Challenge.cw_rootspan_k43_roots_in_a_span_holds : PySem.Challenge.rw_rootspan_k43_roots_in_a_span.Holds := by
 w_on;o_law;k_head;(case hw=>w_witness2)
 k_fill
 refine R43.walk (l:=PySem.Challenge.rw_rootspan_k43_roots_in_a_span) (by decide +kernel) rfl rfl (λw h Y=>PySem.W.kIn_of Y) ?F
 case F =>
  intro w mg fa h KX G hmg
  refine' R43.all_mk KX G hmg ?aC1 ?pg1 ?hd1 ?po1 ?sa1 ?mk1 ?kc1 ?n1_top ?n1_bottom ?ha1 ?hn1 ?ht1 ?hm1 ?aC2 ?pg2 ?hd2 ?po2 ?sa2 ?mk2 ?kc2 ?n2_poly ?n2_low ?n2_high ?ha2 ?hn2 ?ht2 ?hm2 ?aENoRoot ?aETooHigh ?aERootError ?e0NoRoot ?e1NoRoot ?e2NoRoot ?e3NoRoot ?e4NoRoot ?e5NoRoot ?e6NoRoot ?e0TooHigh ?e1TooHigh ?e2TooHigh ?e3TooHigh ?e4TooHigh ?e5TooHigh ?e6TooHigh ?yXNoRoot ?yCNoRoot ?yKNoRoot ?yNNoRoot ?yXTooHigh ?yCTooHigh ?yKTooHigh ?yNTooHigh ?xh_NoRoot_RootError ?xh_TooHigh_RootError ?xh_NoRoot_NoRoot ?xh_TooHigh_NoRoot ?xh_TooHigh_TooHigh ?xi_NoRoot_ValueError ?xi_TooHigh_ValueError ?xi_NoRoot_NoRoot ?xi_TooHigh_NoRoot ?xi_NoRoot_TooHigh ?xi_TooHigh_TooHigh ?a1 ?l1 ?c1 ?k1 ?a2 ?l2 ?c2 ?k2 ?a3 ?l3 ?c3 ?k3 ?a4 ?i4 ?l4 ?c4 ?k4 ?t4 ?a5 ?i5 ?l5 ?c5 ?k5 ?a6 ?l6 ?c6 ?k6 ?a7 ?l7 ?c7 ?k7 ?a8 ?l8 ?c8 ?k8 ?a9 ?l9 ?c9 ?k9 ?a10 ?l10 ?c10 ?k10 ?a11 ?l11 ?c11 ?k11 ?a12 ?l12 ?c12 ?k12 ?a13 ?l13 ?c13 ?k13 ?a14 ?l14 ?c14 ?k14 ?a15 ?l15 ?c15 ?k15 ?a16 ?l16 ?c16 ?k16 ?a17 ?l17 ?c17 ?k17 ?a18 ?l18 ?c18 ?k18 ?a19 ?l19 ?c19 ?k19 ?a20 ?l20 ?c20 ?k20 ?a21 ?l21 ?c21 ?k21 ?a22 ?l22 ?c22 ?k22 ?a23 ?l23 ?c23 ?k23 ?a24 ?l24 ?c24 ?k24 ?a25 ?l25 ?c25 ?k25 ?a26 ?l26 ?c26 ?k26 ?a27 ?l27 ?c27 ?k27 ?a28 ?l28 ?c28 ?k28 ?a29 ?i29 ?l29 ?c29 ?k29 ?a30 ?l30 ?c30 ?k30 ?a31 ?i31 ?l31 ?c31 ?k31 ?a32 ?l32 ?c32 ?k32 ?a33 ?l33 ?c33 ?k33 ?a34 ?l34 ?c34 ?k34 ?a35 ?l35 ?c35 ?k35 ?a36 ?i36 ?l36 ?c36 ?k36 ?a37 ?i37 ?l37 ?c37 ?k37 ?a38 ?i38 ?l38 ?c38 ?k38 ?a39 ?l39 ?c39 ?k39 ?a40 ?l40 ?c40 ?k40 ?a41 ?l41 ?c41 ?k41 ?a42 ?l42 ?c42 ?k42 ?a43 ?l43 ?c43 ?k43 ?a44 ?l44 ?c44 ?k44 ?a45 ?l45 ?c45 ?k45 ?a46 ?l46 ?c46 ?k46 ?a47 ?l47 ?c47 ?k47 ?a48 ?l48 ?c48 ?k48 ?a49 ?l49 ?c49 ?k49 ?a50 ?l50 ?c50 ?k50 ?a51 ?l51 ?c51 ?k51 ?a52 ?l52 ?c52 ?k52 ?a53 ?l53 ?c53 ?k53 ?t53 ?a54 ?l54 ?c54 ?k54 ?a55 ?l55 ?c55 ?k55 ?a56 ?l56 ?c56 ?k56 ?a57 ?l57 ?c57 ?k57 ?a58 ?l58 ?c58 ?k58 ?a59 ?l59 ?c59 ?k59 ?a60 ?l60 ?c60 ?k60 ?a61 ?l61 ?c61 ?k61 ?a62 ?l62 ?c62 ?k62 ?a63 ?l63 ?c63 ?k63 ?a64 ?l64 ?c64 ?k64 ?a65 ?l65 ?c65 ?k65 ?a66 ?l66 ?c66 ?k66 ?a67 ?l67 ?c67 ?k67 ?z0 ?z1 ?z2 ?z3 ?z4 ?z5 ?z6 ?z7 ?z8 ?z9 ?z10 ?z11 ?z12 ?aI_HIGHEST rfl
  (case aC1=>k_is)
  (case pg1=>k_is)
  (case hd1=>k_is)
  (case po1=>k_is)
  (case sa1=>k_is)
  (case mk1=>k_is)
  (case kc1=>k_is)
  (case n1_top=>k_is)
  (case n1_bottom=>k_is)
  (case ha1=>k_is)
  (case hn1=>k_is)
  (case ht1=>k_is)
  (case hm1=>k_is)
  (case aC2=>k_is)
  (case pg2=>k_is)
  (case hd2=>k_is)
  (case po2=>k_is)
  (case sa2=>k_is)
  (case mk2=>k_is)
  (case kc2=>k_is)
  (case n2_poly=>k_is)
  (case n2_low=>k_is)
  (case n2_high=>k_is)
  (case ha2=>k_is)
  (case hn2=>k_is)
  (case ht2=>k_is)
  (case hm2=>k_is)
  (case aENoRoot=>k_is)
  (case aETooHigh=>k_is)
  (case aERootError=>k_is)
  (case e0NoRoot=>k_is)
  (case e1NoRoot=>k_is)
  (case e2NoRoot=>k_is)
  (case e3NoRoot=>k_is)
  (case e4NoRoot=>k_is)
  (case e5NoRoot=>k_is)
  (case e6NoRoot=>k_is)
  (case e0TooHigh=>k_is)
  (case e1TooHigh=>k_is)
  (case e2TooHigh=>k_is)
  (case e3TooHigh=>k_is)
  (case e4TooHigh=>k_is)
  (case e5TooHigh=>k_is)
  (case e6TooHigh=>k_is)
  (case yCNoRoot=>first |rfl |with_unfolding_all rfl)
  (case yKNoRoot=>k_is)
  (case yNNoRoot=>k_is)
  (case yCTooHigh=>first |rfl |with_unfolding_all rfl)
  (case yKTooHigh=>k_is)
  (case yNTooHigh=>k_is)
  (case xh_NoRoot_RootError=>kts_exm)
  (case xh_TooHigh_RootError=>kts_exm)
  (case xh_NoRoot_NoRoot=>kts_exm)
  (case xh_TooHigh_NoRoot=>kts_exm)
  (case xh_TooHigh_TooHigh=>kts_exm)
  (case xi_NoRoot_ValueError=>kit_is)
  (case xi_TooHigh_ValueError=>kit_is)
  (case xi_NoRoot_NoRoot=>kit_is)
  (case xi_TooHigh_NoRoot=>kit_is)
  (case xi_NoRoot_TooHigh=>kit_is)
  (case xi_TooHigh_TooHigh=>kit_is)
  (case a1=>k_is)
  (case l1=>k_is)
  (case c1=>k_is)
  (case k1=>k_is)
  (case a2=>k_is)
  (case l2=>k_is)
  (case c2=>k_is)
  (case k2=>k_is)
  (case a3=>k_is)
  (case l3=>k_is)
  (case c3=>k_is)
  (case k3=>k_is)
  (case a4=>k_is)
  (case i4=>k_is)
  (case l4=>k_is)
  (case c4=>k_is)
  (case k4=>k_is)
  (case t4=>k_is)
  (case a5=>k_is)
  (case i5=>k_is)
  (case l5=>k_is)
  (case c5=>k_is)
  (case k5=>k_is)
  (case a6=>k_is)
  (case l6=>k_is)
  (case c6=>k_is)
  (case k6=>k_is)
  (case a7=>k_is)
  (case l7=>k_is)
  (case c7=>k_is)
  (case k7=>k_is)
  (case a8=>k_is)
  (case l8=>k_is)
  (case c8=>k_is)
  (case k8=>k_is)
  (case a9=>k_is)
  (case l9=>k_is)
  (case c9=>k_is)
  (case k9=>k_is)
  (case a10=>k_is)
  (case l10=>k_is)
  (case c10=>k_is)
  (case k10=>k_is)
  (case a11=>k_is)
  (case l11=>k_is)
  (case c11=>k_is)
  (case k11=>k_is)
  (case a12=>k_is)
  (case l12=>k_is)
  (case c12=>k_is)
  (case k12=>k_is)
  (case a13=>k_is)
  (case l13=>k_is)
  (case c13=>k_is)
  (case k13=>k_is)
  (case a14=>k_is)
  (case l14=>k_is)
  (case c14=>k_is)
  (case k14=>k_is)
  (case a15=>k_is)
  (case l15=>k_is)
  (case c15=>k_is)
  (case k15=>k_is)
  (case a16=>k_is)
  (case l16=>k_is)
  (case c16=>k_is)
  (case k16=>k_is)
  (case a17=>k_is)
  (case l17=>k_is)
  (case c17=>k_is)
  (case k17=>k_is)
  (case a18=>k_is)
  (case l18=>k_is)
  (case c18=>k_is)
  (case k18=>k_is)
  (case a19=>k_is)
  (case l19=>k_is)
  (case c19=>k_is)
  (case k19=>k_is)
  (case a20=>k_is)
  (case l20=>k_is)
  (case c20=>k_is)
  (case k20=>k_is)
  (case a21=>k_is)
  (case l21=>k_is)
  (case c21=>k_is)
  (case k21=>k_is)
  (case a22=>k_is)
  (case l22=>k_is)
  (case c22=>k_is)
  (case k22=>k_is)
  (case a23=>k_is)
  (case l23=>k_is)
  (case c23=>k_is)
  (case k23=>k_is)
  (case a24=>k_is)
  (case l24=>k_is)
  (case c24=>k_is)
  (case k24=>k_is)
  (case a25=>k_is)
  (case l25=>k_is)
  (case c25=>k_is)
  (case k25=>k_is)
  (case a26=>k_is)
  (case l26=>k_is)
  (case c26=>k_is)
  (case k26=>k_is)
  (case a27=>k_is)
  (case l27=>k_is)
  (case c27=>k_is)
  (case k27=>k_is)
  (case a28=>k_is)
  (case l28=>k_is)
  (case c28=>k_is)
  (case k28=>k_is)
  (case a29=>k_is)
  (case i29=>k_is)
  (case l29=>k_is)
  (case c29=>k_is)
  (case k29=>k_is)
  (case a30=>k_is)
  (case l30=>k_is)
  (case c30=>k_is)
  (case k30=>k_is)
  (case a31=>k_is)
  (case i31=>k_is)
  (case l31=>k_is)
  (case c31=>k_is)
  (case k31=>k_is)
  (case a32=>k_is)
  (case l32=>k_is)
  (case c32=>k_is)
  (case k32=>k_is)
  (case a33=>k_is)
  (case l33=>k_is)
  (case c33=>k_is)
  (case k33=>k_is)
  (case a34=>k_is)
  (case l34=>k_is)
  (case c34=>k_is)
  (case k34=>k_is)
  (case a35=>k_is)
  (case l35=>k_is)
  (case c35=>k_is)
  (case k35=>k_is)
  (case a36=>k_is)
  (case i36=>k_is)
  (case l36=>k_is)
  (case c36=>k_is)
  (case k36=>k_is)
  (case a37=>k_is)
  (case i37=>k_is)
  (case l37=>k_is)
  (case c37=>k_is)
  (case k37=>k_is)
  (case a38=>k_is)
  (case i38=>k_is)
  (case l38=>k_is)
  (case c38=>k_is)
  (case k38=>k_is)
  (case a39=>k_is)
  (case l39=>k_is)
  (case c39=>k_is)
  (case k39=>k_is)
  (case a40=>k_is)
  (case l40=>k_is)
  (case c40=>k_is)
  (case k40=>k_is)
  (case a41=>k_is)
  (case l41=>k_is)
  (case c41=>k_is)
  (case k41=>k_is)
  (case a42=>k_is)
  (case l42=>k_is)
  (case c42=>k_is)
  (case k42=>k_is)
  (case a43=>k_is)
  (case l43=>k_is)
  (case c43=>k_is)
  (case k43=>k_is)
  (case a44=>k_is)
  (case l44=>k_is)
  (case c44=>k_is)
  (case k44=>k_is)
  (case a45=>k_is)
  (case l45=>k_is)
  (case c45=>k_is)
  (case k45=>k_is)
  (case a46=>k_is)
  (case l46=>k_is)
  (case c46=>k_is)
  (case k46=>k_is)
  (case a47=>k_is)
  (case l47=>k_is)
  (case c47=>k_is)
  (case k47=>k_is)
  (case a48=>k_is)
  (case l48=>k_is)
  (case c48=>k_is)
  (case k48=>k_is)
  (case a49=>k_is)
  (case l49=>k_is)
  (case c49=>k_is)
  (case k49=>k_is)
  (case a50=>k_is)
  (case l50=>k_is)
  (case c50=>k_is)
  (case k50=>k_is)
  (case a51=>k_is)
  (case l51=>k_is)
  (case c51=>k_is)
  (case k51=>k_is)
  (case a52=>k_is)
  (case l52=>k_is)
  (case c52=>k_is)
  (case k52=>k_is)
  (case a53=>k_is)
  (case l53=>k_is)
  (case c53=>k_is)
  (case k53=>k_is)
  (case t53=>k_is)
  (case a54=>k_is)
  (case l54=>k_is)
  (case c54=>k_is)
  (case k54=>k_is)
  (case a55=>k_is)
  (case l55=>k_is)
  (case c55=>k_is)
  (case k55=>k_is)
  (case a56=>k_is)
  (case l56=>k_is)
  (case c56=>k_is)
  (case k56=>k_is)
  (case a57=>k_is)
  (case l57=>k_is)
  (case c57=>k_is)
  (case k57=>k_is)
  (case a58=>k_is)
  (case l58=>k_is)
  (case c58=>k_is)
  (case k58=>k_is)
  (case a59=>k_is)
  (case l59=>k_is)
  (case c59=>k_is)
  (case k59=>k_is)
  (case a60=>k_is)
  (case l60=>k_is)
  (case c60=>k_is)
  (case k60=>k_is)
  (case a61=>k_is)
  (case l61=>k_is)
  (case c61=>k_is)
  (case k61=>k_is)
  (case a62=>k_is)
  (case l62=>k_is)
  (case c62=>k_is)
  (case k62=>k_is)
  (case a63=>k_is)
  (case l63=>k_is)
  (case c63=>k_is)
  (case k63=>k_is)
  (case a64=>k_is)
  (case l64=>k_is)
  (case c64=>k_is)
  (case k64=>k_is)
  (case a65=>k_is)
  (case l65=>k_is)
  (case c65=>k_is)
  (case k65=>k_is)
  (case a66=>k_is)
  (case l66=>k_is)
  (case c66=>k_is)
  (case k66=>k_is)
  (case a67=>k_is)
  (case l67=>k_is)
  (case c67=>k_is)
  (case k67=>k_is)
  (case z0=>k_is)
  (case z1=>k_is)
  (case z2=>k_is)
  (case z3=>k_is)
  (case z4=>k_is)
  (case z5=>k_is)
  (case z6=>k_is)
  (case z7=>k_is)
  (case z8=>k_is)
  (case z9=>k_is)
  (case z10=>k_is)
  (case z11=>k_is)
  (case z12=>k_is)
  (case aI_HIGHEST=>k_is)
  (case yXNoRoot=>first |rfl |with_unfolding_all rfl)
  (case yXTooHigh=>first |rfl |with_unfolding_all rfl)
