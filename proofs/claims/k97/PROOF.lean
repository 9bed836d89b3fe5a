import PyProof.Rows.All
import Wide.All
import OpenK.AllK
import Wide.FinOn
import Lean
import PyProof.EqAt
import PyProof.EqKinds
import PyProof.TupleCall
import PySem.Challenge.RW_rootspan_k97_whole_no_false_count
set_option Elab.async false
set_option linter.all false
set_option maxRecDepth 100000
local macro_rules | `(tactic|omega)=>`(tactic|first |lia |omega (splitDisjunctions:=true))
noncomputable section
namespace Al
def Hs:=@List.length_map
def Ht:=@Nat.le_refl
def Hu:=@List.map_append
def Hv:=@List.length_append
def Hw:=@List.length_pos_iff
def Hx:=@List.mem_singleton
def Hy:=@Nat.zero_le
def Hz:=@List.mem_map
def HC:=@List.mem_cons_of_mem
def HD:=@Int.le_of_lt
def HE:=@List.mem_cons_self
def HF:=@Int.mul_pos
def HG:=@Rat.le_of_lt
def HH:=@Nat.le_trans
def HI:=@List.mem_cons
def HJ:=@List.mem_append_right
def HK:=@List.size_toArray
def HL:=@Int.mul_zero
def HM:=@Int.mul_ne_zero
def HN:=@Rat.mul_nonneg
def HP:=@List.mem_append
def HQ:=@Nat.lt_of_lt_of_le
def HR:=@Nat.ne_of_lt
def HS:=@Rat.intCast_lt_intCast
def HU:=@List.length_set
def HV:=@Int.one_mul
def HW:=@Rat.intCast_mul
def HX:=@Rat.div_mul_cancel
def HY:=@List.take_length
def HZ:=@List.length_take
def Ia:=@List.getElem_mem
def Ib:=@List.take_add_one
def Ic:=@Int.mul_eq_zero
def Ie:=@List.length_cons
def Ig:=@Int.natAbs_mul
def Ih:=@List.length_range
def Ii:=@Int.natAbs_natCast
def Ij:=@Rat.mul_le_mul_of_nonneg_right
def Ik:=@Nat.lt_irrefl
def Il:=@Int.mul_one
def Im:=@Int.mul_comm
def Io:=@Rat.mul_pos
def Iq:=@Int.zero_mul
def Ir:=@Bool.false_ne_true
def Is:=@List.map_cons
def Iu:=@List.length_eq_zero_iff
def Iv:=@Int.add_zero
def Iw:=@List.map_map
def Ix:=@Nat.le_of_not_lt
def Iy:=@Int.pow_succ
def Iz:=@Int.mul_le_mul_of_nonneg_right
def IA:=@Rat.le_total
def IB:=@Rat.not_lt
def IC:=@Nat.le_of_eq
def ID:=@Int.mul_assoc
def IE:=@Int.mul_nonneg
def IF:=@List.mem_append_left
def IG:=@Nat.mul_le_mul_right
def IH:=@Rat.intCast_add
def II:=@Bool.eq_iff_iff
def IJ:=@Nat.lt_succ_self
def IK:=@List.length_replicate
def IL:=@Int.zero_add
def IM:=@Int.natAbs_pos
def IN:=@Nat.dvd_refl
def IP:=@List.replicate_succ
def IQ:=@List.length_dropLast
def IR:=@List.lookup_cons
def IS:=@List.all_eq_true
def IT:=@List.getElem_of_mem
def IU:=@Int.lt_or_gt_of_ne
def IV:=@Rat.not_le
def IW:=@List.range_succ
def IX:=@List.mem_range
def IY:=@Nat.le_of_lt
def IZ:=@List.nodup_cons
def I0:=@Int.ne_of_gt
def I9:=@Int.le_refl
def Ja:=@Nat.gcd_dvd_left
def Jb:=@Nat.sub_zero
def Jc:=@List.map_congr_left
def Jd:=@Int.ofNat_dvd_left
def Je:=@Int.mul_le_mul
def Jf:=@Nat.le_zero
def Jg:=@Rat.mul_le_mul_of_nonneg_left
def Jh:=@Nat.mul_le_mul_left
def Ji:=@Nat.gcd_dvd_right
def Jj:=@Int.natCast_mul
def Jk:=@Nat.dvd_trans
def Jl:=@Int.natCast_nonneg
def Jm:=@Int.lt_or_le
def Jn:=@Int.natAbs_sub_le
def Jo:=@Int.zero_sub
def Jp:=@List.mem_or_eq_of_mem_set
def Jq:=@List.flatten_cons
def Jr:=@List.length_eq_one_iff
def Js:=@List.cons_append
def Jt:=@Int.mul_lt_mul_of_pos_right
def Ju:=@Int.lt_of_mul_lt_mul_right
def Jv:=@Int.eq_of_mul_eq_mul_left
def Jw:=@Nat.mul_le_mul
def Jx:=@List.pairwise_map
def Jy:=@List.eq_nil_of_length_eq_zero
def Jz:=@Rat.intCast_inj
def JA:=@Rat.mul_lt_mul_of_pos_right
def JB:=@Rat.intCast_sub
def JC:=@Int.emod_nonneg
def JD:=@Int.emod_lt_of_pos
def JE:=@List.not_mem_nil
def JF:=@Nat.min_le_left
def JG:=@List.take_zero
def JH:=@Nat.lt_of_le_of_lt
def JI:=@Nat.le_mul_of_pos_left
def JJ:=@Int.eq_ofNat_of_zero_le
def JK:=@Int.mul_ediv_cancel'
def JL:=@List.pairwise_cons
def JM:=@Int.toNat_of_nonneg
def JN:=@Int.mul_nonneg_of_nonpos_of_nonpos
def JO:=@Int.mul_neg_of_neg_of_pos
def JP:=@Int.mul_neg_of_pos_of_neg
def JQ:=@Int.mul_le_mul_of_nonneg_left
end Al
open Al
namespace PySem.W.Fast
def tw10323552231561080574:=()
def tw6759389918154736556:=()
def tw13169128249788650444:=()
def tw71226058737478225:=()
def tw7154156226206613357:=()
def tw2353744160436928930:=()
def tw9040927163351415801:=()
def tw16860641071774646019:=()
def tw7368703865422418383:=()
def tw1301989276282528758:=()
def tw1496441629972199827:=()
def tw14322700505107452580:=()
def tw15923188062198888719:=()
def tw13953607581104730790:=()
def tw11206417152538118779:=()
def tw13110615160810889934:=()
def tw15216247734732551866:=()
def tw2845036083528065683:=()
def tw592979118961204397:=()
def tw15358321227587805798:=()
def tw1447527811552149812:=()
def tw17484311298319060940:=()
def tw12179280275343674661:=()
def tw17447241420625385777:=()
def tw12241991436500011991:=()
def tw17746054071325862369:=()
def tw6324418923215645519:=()
def tw10224540536671227214:=()
def tw8498058620719636158:=()
def tw544997509117495570:=()
def tw4294210769505351291:=()
def tw7336463467069609630:=()
def tw16934435939174304262:=()
def tw2035399924277943981:=()
def tw18201802823085530602:=()
def tw17819093162343350772:=()
def tw8605750166208103220:=()
def tw13737300411757317712:=()
def tw14563956920630919299:=()
def tw15873477601307365004:=()
def tw6721989130074817210:=()
def tw7033809162643169525:=()
def tw7658961609972517321:=()
def tw3388841375431616870:=()
def tw1233821872875511394:=()
def tw17358243304788136903:=()
def tw16666804120272460703:=()
def tw8747598107952599615:=()
def tw18411491604481915662:=()
def tw17382786983478045847:=()
def tw16632421470641271202:=()
def tw13527027770776894743:=()
def tw10265478679861767213:=()
def tw14715598541922886363:=()
def tw4047825623134663744:=()
def tw7184245748785329939:=()
def tw1740368747450521708:=()
def tw14735181268208233537:=()
def tw8312441286574204779:=()
def tw18430276760103725105:=()
def tw11960871677688183653:=()
def tw9815863308079062577:=()
def tw17710666859822903088:=()
def tw8523645386383781693:=()
def tw15072505744731689370:=()
def tw492273522111521418:=()
def tw13118348584481706790:=()
def tw5503918631961664220:=()
def tw12809270291691643703:=()
def tw9705965806605391659:=()
def tw8265390696829919642:=()
def tw4427070705332431189:=()
def tw14414119096998186689:=()
def tw12715525206665163659:=()
def tw16085254016921372497:=()
def tw4149823118359523079:=()
def tw9651307299039282883:=()
def tw10797731388710644229:=()
def tw4924077968482555608:=()
def tw7648369103695155498:=()
def tw9342786622911543625:=()
def tw17471349993782163014:=()
def tw11927908523529210602:=()
def tw13672587958587897186:=()
def tw12416945512134894753:=()
def tw12201874648979874434:=()
def tw462306025432726701:=()
def tw9471286776697635407:=()
def tw5577566471700350332:=()
def tw8965386109315197664:=()
def tw4037585819272187932:=()
def tw9909310628393224328:=()
def tw10926100719891016776:=()
def tw10643542472717163328:=()
def tw15714602289489684792:=()
def tw315321503917645600:=()
def tw13787584938930885293:=()
def tw18443943901992559032:=()
def tw5344063660773204898:=()
def tw15713055799790625202:=()
def tw5981222174447418377:=()
def tw4448776373224549179:=()
def tw4510015680338590984:=()
def tw12651765913653157112:=()
def tw14306105935457635134:=()
def tw1708182634240537667:=()
def tw828724245200980764:=()
def tw5911502018433938683:=()
def tw14016237172357340329:=()
def tw3472533555479003874:=()
def tw7248063834027000610:=()
def tw2025465871542589134:=()
def tw17006798859960952301:=()
def tw6953539160555196648:=()
def tw15822893224989495351:=()
def tw9011854254615643695:=()
def tw8336879130591667745:=()
def tw1234341277854250059:=()
def tw451588398306927664:=()
def tw10724347525919103309:=()
def tw11582254710475094881:=()
def tw10106260547758948582:=()
def tw17065383606804428610:=()
def tw8642228581785969811:=()
def tw17655466367547778785:=()
def tw2469113694296434257:=()
def tw5999300373180392167:=()
def tw7926609671433179765:=()
def tw16283965890558843009:=()
def tw15033551779177527089:=()
def tw4638987212334590797:=()
def tw9431272817143016154:=()
def tw1026924709565611740:=()
def tw10428754226827013613:=()
def tw3466863438585226225:=()
def tw1511439286230422157:=()
def tw9611945324695018967:=()
def tw102435812232750194:=()
def tw17845441029496391325:=()
def tw12385236079321141948:=()
def tw16275572064654577998:=()
def tw352869215948147716:=()
def tw6343732100905904372:=()
def tw1862129867303655839:=()
def tw434710749348926583:=()
def tw540474410569781103:=()
def tw1606244523626859761:=()
def tw15596067494450271124:=()
def tw117960589767121362:=()
def tw11461625268951046126:=()
def tw10092595147375346753:=()
def tw14468931931803178488:=()
def tw1479813314057028670:=()
def tw14098127456146882364:=()
def tw13553718843365975877:=()
def tw10811048877982487802:=()
def tw9585940921647146488:=()
def tw17126547626703398797:=()
def tw4688420905417855300:=()
def tw13806638332211275582:=()
def tw6001409066219818889:=()
def tw15114293630263853044:=()
def tw11321472538842536723:=()
def tw5379710860093108692:=()
def tw3858293070382816581:=()
def tw10028062662123049093:=()
def tw2551848425807104919:=()
def tw3417772044770288225:=()
def tw6404647900509635425:=()
def tw4280892254399413225:=()
def tw558353190949911807:=()
def tw17725002597897195719:=()
def tw2313899367372999867:=()
def tw240894481736530114:=()
end PySem.W.Fast
namespace L2
open PySem PySem.Spec PyProof.Rows
abbrev Key:=Sum Int Str
noncomputable def tL:Key->Value->Bool
 |.inl k,v=>Value.isInt k v
 |.inr x,v=>Value.isStrOf x v
noncomputable def BB(w:World):Key->Int
 |.inl k=>hashInt k
 |.inr x=>hashStr w x
theorem fm:∀{k:Key} {v:Value},tL k v=true->(∃i t,k=Sum.inl i/\v=Value.int i t)\/(∃x t,k=Sum.inr x/\v=Value.str x t)
 |.inl i,v,h=>by obtain⟨t,e⟩:=Value.isInt_shape (k:=i) (v:=v) h;exact .inl ⟨i,t,rfl,e⟩
 |.inr x,v,h=>by obtain⟨t,e⟩:=Value.isStrOf_shape (x:=x) (v:=v) h;exact .inr ⟨x,t,rfl,e⟩
theorem BA(a b:Int):decide ((Sum.inl a:Key)=Sum.inl b)=(a == b):=by
 by_cases e:a=b
 ·subst e;simp
 ·have h:¬(Sum.inl a:Key)=Sum.inl b:=λq=>e (Sum.inl.inj q)
  rw[decide_eq_false h];exact(beq_eq_false_iff_ne.mpr e).symm
theorem Bw(a b:Str):decide ((Sum.inr a:Key)=Sum.inr b)=decide (a=b):=by
 by_cases e:a=b
 ·subst e;simp
 ·have h:¬(Sum.inr a:Key)=Sum.inr b:=λq=>e (Sum.inr.inj q)
  rw[decide_eq_false h,decide_eq_false e]
theorem Bz(a:Int)(b:Str):decide ((Sum.inl a:Key)=Sum.inr b)=false:=decide_eq_false (λq=>nomatch q)
theorem By(a:Str)(b:Int):decide ((Sum.inr a:Key)=Sum.inl b)=false:=decide_eq_false (λq=>nomatch q)
noncomputable def mJ(prog:Program)(w:World):PySem.KeyKind prog w Key where
 is:=tL
 hash:=BB w
 inj:=λv a b ha hb=>by
  rcases fm ha with⟨i,t,rfl,rfl⟩ |⟨x,t,rfl,rfl⟩
  ·rcases fm hb with⟨j,u,rfl,e⟩ |⟨y,u,rfl,e⟩
   ·injection e with e1 _;rw[e1]
   ·exact nomatch e
  ·rcases fm hb with⟨j,u,rfl,e⟩ |⟨y,u,rfl,e⟩
   ·exact nomatch e
   ·injection e with e1 _;rw[e1]
 byValue:=λk v h=>by rcases fm h with⟨i,t,rfl,rfl⟩ |⟨x,t,rfl,rfl⟩<;>rfl
 pyHash:=λhv h=>by
  rcases fm hv with⟨i,t,rfl,rfl⟩ |⟨x,t,rfl,rfl⟩
  ·exact wpAny_pyHash_int h
  ·exact wpAny_pyHash_str h
 eqBool:=λhu hv h=>by
  rcases fm hu with⟨i,t,rfl,rfl⟩ |⟨x,t,rfl,rfl⟩
  ·rcases fm hv with⟨j,u,rfl,rfl⟩ |⟨y,u,rfl,rfl⟩
   ·rw[BA]at h;exact wpAny_eqBool_int h
   ·rw[Bz]at h;exact SeqAt.EqAt.int_str i t y u _ _ _ _ h
  ·rcases fm hv with⟨j,u,rfl,rfl⟩ |⟨y,u,rfl,rfl⟩
   ·rw[By]at h;exact SeqAt.EqAt.str_int x t j u _ _ _ _ h
   ·rw[Bw]at h;exact wpAny_eqBool_str h
 «strs»:=λk x t v h=>by
  rcases fm h with⟨i,u,rfl,e⟩ |⟨y,u,rfl,e⟩
  ·exact nomatch e
  ·injection e with e1 _
   subst e1;cases v<;>rfl
inductive V where
 |non |bl (b:Bool) |int (i:Int) |str (x:Str) |byt (b:Array UInt8) |flt (b:UInt64) |ref (a:Addr) |ty (n:String)
 deriving DecidableEq
noncomputable def RelV:V->Value->Prop
 |.non,u=>u=Value.none
 |.bl b,u=>u=Value.bool b
 |.int i,u=>∃t,u=Value.int i t
 |.str x,u=>∃t,u=Value.str x t
 |.byt b,u=>∃t,u=Value.bytes b t
 |.flt b,u=>∃t,u=Value.float b t
 |.ref a,u=>u=Value.ref a
 |.ty n,u=>u=Value.type n
abbrev Vals:List V->List Value->Prop:=Paired RelV
theorem Vals.length{xs:List V}{us:List Value}(r:Vals xs us):xs.length=us.length:=Paired.length r
theorem Vals.get:∀{xs:List V} {us:List Value} {i:Nat} {x:V},Vals xs us->xs[i]?=some x->∃u,us[i]?=some u/\RelV x u
 |_,_,_,_,.nil,e=>by simp at e
 |_,_,0,_,.cons r _,e=>by simp at e;subst e;exact⟨_,rfl,r⟩
 |_,_,i+1,x,.cons _ t,e=>by obtain⟨u,h1,h2⟩:=Vals.get (i:=i) (x:=x) t (by simpa using e);exact⟨u,by simpa using h1,h2⟩
theorem Vals.set{x:V}{u:Value}(r:RelV x u):∀{xs:List V} {us:List Value} (i:Nat),Vals xs us->Vals (xs.set i x) (us.set i u)
 |_,_,_,.nil=>.nil
 |_,_,0,.cons _ t=>.cons r t
 |_,_,i+1,.cons q t=>.cons q (Vals.set r i t)
theorem Vals.append:∀{xs ys:List V} {us ws:List Value},Vals xs us->Vals ys ws->Vals (xs++ys) (us++ws)
 |_,_,_,_,.nil,s=>s
 |_,_,_,_,.cons r t,s=>.cons r (Vals.append t s)
theorem Vals.take:∀{xs:List V} {us:List Value} (n:Nat),Vals xs us->Vals (xs.take n) (us.take n)
 |_,_,0,_=>.nil
 |_,_,_+1,.nil=>.nil
 |_,_,n+1,.cons r t=>.cons r (Vals.take n t)
theorem Vals.drop:∀{xs:List V} {us:List Value} (n:Nat),Vals xs us->Vals (xs.drop n) (us.drop n)
 |_,_,0,r=>r
 |_,_,_+1,.nil=>.nil
 |_,_,n+1,.cons _ t=>Vals.drop n t
theorem Vals.none_of:∀{xs:List V} {us:List Value} {i:Nat},Vals xs us->xs[i]?=none->us[i]?=none:=λ{xs us i} r e=>by have h1:=r.length;have h2:xs.length<=i:=List.getElem?_eq_none_iff.mp e;exact List.getElem?_eq_none_iff.mpr (by omega)
noncomputable def RelO:Option V->Option Value->Prop
 |some v,some u=>RelV v u
 |none,none=>True
 |_,_=>False
noncomputable def KV{κ:Type}:List (κ×V)->List (κ×Value)->Prop:=Paired λ(p:κ×V) (q:κ×Value)=>p.1=q.1/\RelV p.2 q.2
noncomputable def kV:Key->V
 |.inl i=>.int i
 |.inr x=>.str x
inductive HO where
 |lst (xs:List V)
 |tup (xs:List V)
 |dK (kvs:List (Key×V)) |dT (kvs:List (List Key×V))
 |set (S:Int->Bool) (n:Nat)
 |ins (C dx:Addr) (fs:List (Str×V))
 |own (x:Addr)
 |xd (fs:List (Str×V))
 |met (f x:Addr)
 |rng (lo hi:Int)
 |frz (o:Obj) (u:HO)
 |tbl (ps:Array Value)
 |ext (φ:Heap->Prop)
abbrev Hp:=Addr->Option HO
noncomputable def upd(H:Hp)(a:Addr)(o:HO):Hp:=λb=>if b=a then some o else H b
theorem aj{H:Hp}{a:Addr}{o:HO}:upd H a o a=some o:=by unfold upd;rw[if_pos rfl]
theorem upd_ne{H:Hp}{a b:Addr}{o:HO}(h:b≠a):upd H a o b=H b:=by unfold upd;rw[if_neg h]
theorem o8{H:Hp}{a:Addr}{o u:HO}:upd (upd H a o) a u=upd H a u:=by funext b;unfold upd;split<;>rfl
theorem aE{H:Hp}{a b:Addr}{o:HO}(h:H a=some o)(h':H b=none):a≠b:=by intro e;subst e;rw[h]at h';cases h'
section
variable (P:Program)(w:World)
noncomputable def ObjOk(H:Hp)(h:Heap)(a:Addr):HO->Prop
 |.lst xs=>xs.length<=sizeLine/\∃(its:List Value) (n:Nat),Vals xs its/\h.get? a=some { cls:=.type "list",data:=.seq its.toArray n }
 |.tup xs=>xs.length<=sizeLine/\∃its:List Value,Vals xs its/\IsTup h a its.toArray
 |.dK kvs=>kvs.length<=sizeLine/\(a == sysModules)=false/\∃vs,KV kvs vs/\h.DictOf (mJ P w) a vs
 |.dT kvs=>kvs.length<=sizeLine/\(a == sysModules)=false/\∃xs:List (List Key×Addr×Value),
  Paired (λ(p:List Key×V) (q:List Key×Addr×Value)=>p.1=q.1/\H q.2.1=some (.tup (p.1.map kV))/\RelV p.2 q.2.2) kvs xs /\
  ∃o es ep,h.get? a=some o/\o.ExactDict/\o.data=.dict es ep/\es.toList=xs.map (entryOfKey (tupleKind (mJ P w)))/\(xs.map (·.1)).Nodup
 |.set S n=>h.SetOf (intKind P w) a S n
 |.ins C dx fs=>H dx=some (.own a)/\fs.length<=1000/\dx≠a/\h.get? a=some (PySem.W.instObj C dx) /\
  ∃mA,h.Ns1 dx mA/\(∀f,RelO (fs.lookup f) (mA f))/\PySem.Within mA (fs.map (·.1))
 |.own _=>∃o,h.get? a=some o
 |.xd fs=>∃mA,h.Ns1 a mA/\∀f,RelO (fs.lookup f) (mA f)
 |.rng lo hi=>∃t u v,h.get? a=some { cls:=.type "range",data:=.fields #[.int lo t,.int hi u,.int 1 v] }
 |.frz o u=>h.get? a=some o/\ObjOk H h a u
 |.tbl ps=>h.get? a=some { cls:=.none,data:=.fields ps }
 |.met f x=>h.get? a=some (PySem.W.methodObj (.ref f) (.ref x))
 |.ext φ=>φ h/\(∃o,h.get? a=some o)/\∀h1 h2:Heap,φ h1->(∀o,h1.get? a=some o->h2.get? a=some o)->φ h2
def HOk(H:Hp)(h:Heap):Prop:=∀a o,H a=some o->ObjOk P w H h a o
end
section
variable {P:Program}{w:World}{H H':Hp}{h h':Heap}{a:Addr}{o:HO}
theorem ObjOk.lt(x:ObjOk P w H h a o):a<h.objs.size:=by
 cases o with
 |lst xs=>obtain⟨_,_,_,_,e⟩:=x;exact Heap.lt_size e
 |tup xs=>obtain⟨_,_,_,p⟩:=x;exact p.lt
 |dK kvs=>obtain⟨_,_,_,_,o,_,_,e,_⟩:=x;exact Heap.lt_size e
 |dT kvs=>obtain⟨_,_,_,_,o,_,_,e,_⟩:=x;exact Heap.lt_size e
 |set S n=>obtain⟨o,_,_,_,e,_⟩:=x;exact Heap.lt_size e
 |ins C dx fs=>obtain⟨_,_,_,e,_⟩:=x;exact Heap.lt_size e
 |own y=>obtain⟨_,e⟩:=x;exact Heap.lt_size e
 |xd fs=>obtain⟨_,⟨_,_,_,e,_⟩,_⟩:=x;exact Heap.lt_size e
 |rng lo hi=>obtain⟨_,_,_,e⟩:=x;exact Heap.lt_size e
 |frz ob u=>obtain⟨e,_⟩:=x;exact Heap.lt_size e
 |tbl ps=>exact Heap.lt_size (show h.get? a=some _ from x)
 |met f y=>exact Heap.lt_size (show h.get? a=some _ from x)
 |ext φ=>obtain⟨_,⟨_,e⟩,_⟩:=x;exact Heap.lt_size e
theorem Paired.mapP{α β:Type}{F G:α->β->Prop}:∀{l₁:List α} {l₂:List β},Paired F l₁ l₂->(∀a b,F a b->G a b)->Paired G l₁ l₂
 |_,_,.nil,_=>.nil
 |_,_,.cons r t,f=>.cons (f _ _ r) (Paired.mapP t f)
theorem ObjOk.stay(x:ObjOk P w H h a o)(k:∀b u,(b=a\/H b=some (.own a))->h.get? b=some u->h'.get? b=some u)
 (ho:∀b,H b=some (.own a)->H' b=some (.own a)) (ht:∀b xs,H b=some (.tup xs)->H' b=some (.tup xs)):ObjOk P w H' h' a o:=by
 induction o with
 |lst xs=>obtain⟨z,its,n,r,e⟩:=x;exact⟨z,its,n,r,k _ _ (.inl rfl) e⟩
 |tup xs=>obtain⟨z,its,r,ob,e,c⟩:=x;exact⟨z,its,r,ob,k _ _ (.inl rfl) e,c⟩
 |dK kvs=>obtain⟨z,y,vs,r,ob,es,ep,e,c⟩:=x;exact⟨z,y,vs,r,ob,es,ep,k _ _ (.inl rfl) e,c⟩
 |dT kvs =>obtain⟨z,y,xs,r,ob,es,ep,e,c⟩:=x;exact⟨z,y,xs,Paired.mapP r λp q z=>⟨z.1,ht _ _ z.2.1,z.2.2⟩,ob,es,ep,k _ _ (.inl rfl) e,c⟩
 |set S n=>obtain⟨ob,es,ep,t,e,c⟩:=x;exact⟨ob,es,ep,t,k _ _ (.inl rfl) e,c⟩
 |ins C dx fs =>obtain⟨d,z,ne,e,mA,⟨od,es,ep,e2,c⟩,r⟩:=x;exact⟨ho _ d,z,ne,k _ _ (.inl rfl) e,mA,⟨od,es,ep,k _ _ (.inr d) e2,c⟩,r⟩
 |own y=>obtain⟨ob,e⟩:=x;exact⟨ob,k _ _ (.inl rfl) e⟩
 |xd fs=>obtain⟨mA,⟨od,es,ep,e,c⟩,r⟩:=x;exact⟨mA,⟨od,es,ep,k _ _ (.inl rfl) e,c⟩,r⟩
 |rng lo hi=>obtain⟨t,u,v,e⟩:=x;exact⟨t,u,v,k _ _ (.inl rfl) e⟩
 |frz ob u ih=>obtain⟨e,q⟩:=x;exact⟨k _ _ (.inl rfl) e,ih q⟩
 |tbl ps =>have e:h.get? a=some { cls:=.none,data:=.fields ps }:=x;show h'.get? a=some { cls:=.none,data:=.fields ps };exact k a _ (.inl rfl) e
 |met f y =>have e:h.get? a=some (PySem.W.methodObj (.ref f) (.ref y)):=x;show h'.get? a=some (PySem.W.methodObj (.ref f) (.ref y));exact k a _ (.inl rfl) e
 |ext φ=>obtain⟨p,⟨o,e⟩,st⟩:=x;exact⟨st _ _ p λo q=>k _ _ (.inl rfl) q,⟨o,k _ _ (.inl rfl) e⟩,st⟩
theorem HOk.lt(x:HOk P w H h)(e:H a=some o):a<h.objs.size:=(x a o e).lt
theorem HOk.fresh(x:HOk P w H h)(e:h.objs.size<=a):H a=none:=by
 cases q:H a with
 |none=>rfl
 |some u=>exact absurd (HQ (x.lt q) e) (Ik _)
theorem HOk.kept(x:HOk P w H h)(k:∀b u,h.get? b=some u->h'.get? b=some u):HOk P w H h':=λa o e =>(x a o e).stay (λb u _ q=>k b u q) (λ_ q=>q) λ_ _ q=>q
theorem HOk.laid(x:HOk P w H h)(k:∀b u,h.get? b=some u->h'.get? b=some u)(hp:h.objs.size<=a)(new:ObjOk P w (upd H a o) h' a o):HOk P w (upd H a o) h':=λb u e=>by
 have hn:=x.fresh hp;by_cases hb:b=a
 ·subst hb;rw[aj]at e;cases e;exact new
 ·rw[upd_ne hb]at e;exact(x b u e).stay (λc v _ q=>k c v q) (λc q=>by rw[upd_ne (aE q hn)];exact q) λc xs q=>by rw[upd_ne (aE q hn)];exact q
end
def Rd(H:Hp)(a:Addr)(u:HO):Prop:=H a=some u\/∃o,H a=some (.frz o u)
theorem Rd.of{H:Hp}{a:Addr}{u:HO}(h:H a=some u):Rd H a u:=.inl h
theorem Rd.ok{P:Program}{w:World}{H:Hp}{h:Heap}{a:Addr}{u:HO}(r:Rd H a u)(x:HOk P w H h):ObjOk P w H h a u:=by
 rcases r with r |⟨o,r⟩
 ·exact x a u r
 ·obtain⟨_,q⟩:=x a _ r;exact q
noncomputable def Mut:Option HO->Prop
 |some (.lst _)=>True
 |some (.dK _)=>True
 |some (.dT _)=>True
 |some (.set _ _)=>True
 |some (.ins _ _ _)=>True
 |some (.ext _)=>True
 |_=>False
section
variable {P:Program}{w:World}{H:Hp}{h h':Heap}{x e:Addr}{o':HO}
theorem HOk.write(ok:HOk P w H h)(mu:Mut (H x))(he:e=x\/H e=some (.own x))(k:∀b u,b≠e->h.get? b=some u->h'.get? b=some u)(heo:∃u,h'.get? e=some u)
 (new:ObjOk P w (upd H x o') h' x o'):HOk P w (upd H x o') h':=λb u q=>by
 have nown:∀c y,H c=some (.own y)->c≠x:=λc y r z=>by subst z;rw[r]at mu;exact mu
 have ntup:∀c xs,H c=some (.tup xs)->c≠x:=λc xs r z=>by subst z;rw[r]at mu;exact mu
 by_cases hb:b=x
 ·subst hb;rw[aj]at q;cases q;exact new
 ·rw[upd_ne hb]at q;by_cases hbe:b=e
  ·have q':H b=some (.own x):=by
    rcases he with z |z
    ·exact absurd (hbe.trans z) hb
    ·rw[hbe];exact z
   rw[q]at q';cases q';obtain⟨v,hv⟩:=heo;exact⟨v,by rw[hbe];exact hv⟩
  ·refine(ok b u q).stay (λc v hc r=>k c v ?_ r) (λc r=>by rw[upd_ne (nown c b r)];exact r) λc xs r=>by rw[upd_ne (ntup c xs r)];exact r
   rcases hc with rfl |hc
   ·exact hbe
   ·rintro rfl;rcases he with z |z
    ·exact nown c b hc z
    ·rw[hc]at z;cases z;exact hb rfl
end
structure Un(fs ex:List Addr)(H H':Hp)(h h':Heap):Prop where
 keep:∀b o,h.get? b=some o->H b=none->b∉fs->b∉ex->h'.get? b=some o
 slot:∀b o,h.get? b=some o->H b=none->b∈fs->b∉ex->∃sl,h'.get? b=some { o with slots:=sl }
 free:∀b o,h.get? b=some o->H b=none->b∉ex->H' b=none
 there:∀b o,h.get? b=some o->b∉ex->∃o',h'.get? b=some o'
 tups:∀b xs,H b=some (.tup xs)->H' b=some (.tup xs)
 frzs:∀b o u,H b=some (.frz o u)->H' b=some (.frz o u)
 tbls:∀b ps,H b=some (.tbl ps)->∃more,H' b=some (.tbl (ps++more))
section
variable {fs fs' ex ex':List Addr}{H H1 H2:Hp}{h h1 h2 h':Heap}{a x e:Addr}{o:HO}
theorem Un.any(u:Un fs ex H H1 h h1){b:Addr}{ob:Obj}(q:h.get? b=some ob)(n:H b=none)(hx:b∉ex):∃sl,h1.get? b=some { ob with slots:=sl }:=by
 by_cases hb:b∈fs
 ·exact u.slot b ob q n hb hx
 ·exact⟨ob.slots,u.keep b ob q n hb hx⟩
theorem Un.trans(a:Un fs ex H H1 h h1)(b:Un fs ex H1 H2 h1 h2):Un fs ex H H2 h h2 where
 keep:=λc ob q n hc hx=>b.keep c ob (a.keep c ob q n hc hx) (a.free c ob q n hx) hc hx
 slot:=λc ob q n hc hx=>by obtain⟨sl,e1⟩:=a.slot c ob q n hc hx;obtain⟨sl',e2⟩:=b.slot c _ e1 (a.free c ob q n hx) hc hx;exact⟨sl',e2⟩
 free:=λc ob q n hx=>by obtain⟨o',e1⟩:=a.there c ob q hx;exact b.free c o' e1 (a.free c ob q n hx) hx
 there:=λc ob q hx=>by obtain⟨o',e1⟩:=a.there c ob q hx;exact b.there c o' e1 hx
 tups:=λc xs q=>b.tups c xs (a.tups c xs q)
 frzs:=λc ob xs q=>b.frzs c ob xs (a.frzs c ob xs q)
 tbls:=λc ps q=>by obtain⟨m1,e1⟩:=a.tbls c ps q;obtain⟨m2,e2⟩:=b.tbls c _ e1;exact⟨m1++m2,by rw[e2,Array.append_assoc]⟩
theorem Un.kept(k:∀b u,h.get? b=some u->h'.get? b=some u):Un fs ex H H h h' :=
 ⟨λb ob q _ _ _=>k b ob q,λb ob q _ _ _=>⟨ob.slots,k b ob q⟩,λ_ _ _ n _=>n,λb ob q _=>⟨ob,k b ob q⟩,λ_ _ q=>q,λ_ _ _ q=>q,λ_ ps q=>⟨#[],by rw[q];simp⟩⟩
theorem Un.refl:Un fs ex H H h h:=Un.kept λ_ _ q=>q
theorem Un.laid(k:∀b u,h.get? b=some u->h'.get? b=some u)(hp:h.objs.size<=a)(hn:H a=none):Un fs ex H (upd H a o) h h' where
 keep:=λb u q _ _ _=>k b u q
 slot:=λb u q _ _ _=>⟨u.slots,k b u q⟩
 free:=λb u q n _=>by rw[upd_ne (HR (HQ (Heap.lt_size q) hp))];exact n
 there:=λb u q _=>⟨u,k b u q⟩
 tups:=λb xs q=>by rw[upd_ne (aE q hn)];exact q
 frzs:=λb u xs q=>by rw[upd_ne (aE q hn)];exact q
 tbls:=λb ps q=>⟨#[],by rw[upd_ne (aE q hn),q];simp⟩
theorem Un.write(mu:Mut (H x))(he:e=x\/H e=some (.own x))(k:∀b u,b≠e->h.get? b=some u->h'.get? b=some u)(heo:∃u,h'.get? e=some u):Un fs ex H (upd H x o) h h':=by
 have hx:∀b,H b=none->b≠x:=λb n z=>by subst z;rw[n]at mu;exact mu
 have hb:∀b,H b=none->b≠e:=λb n z=>by
  subst z;rcases he with r |r
  ·exact hx b n r
  ·rw[n]at r;cases r
 have hm:∀b u,H b=some u->¬Mut (some u)->b≠x:=λb u q nm z=>by subst z;rw[q]at mu;exact nm mu
 refine⟨λb u q n _ _=>k b u (hb b n) q,λb u q n _ _=>⟨u.slots,k b u (hb b n) q⟩,λb u q n _=>by rw[upd_ne (hx b n)];exact n,λb u q _=>?_,
  λb xs q=>by rw[upd_ne (hm b _ q λz=>z)];exact q,λb u xs q=>by rw[upd_ne (hm b _ q λz=>z)];exact q,λb ps q=>⟨#[],by rw[upd_ne (hm b _ q λz=>z),q];simp⟩⟩
 by_cases hbe:b=e
 ·subst hbe;exact heo
 ·exact⟨u,k b u hbe q⟩
theorem Un.mono(u:Un fs ex H H1 h h1)(hs:∀b∈fs,b∈fs')(hx:∀b∈ex,b∈ex'):Un fs' ex' H H1 h h1 :=
 ⟨λb ob q n hb he=>u.keep b ob q n (λz=>hb (hs b z)) λz=>he (hx b z),λ_ _ q n _ he=>u.any q n λz=>he (hx _ z),λb ob q n he=>u.free b ob q n λz=>he (hx b z),λb ob q he=>u.there b ob q λz=>he (hx b z),u.tups,u.frzs,u.tbls⟩
end
noncomputable def trk(h:Heap)(H:Hp):List Addr:=(List.range h.objs.size).filter λa=>(H a).isSome
noncomputable def eI(h:Heap)(H:Hp):Heap:=PySem.W.hideAll h (trk h H)
theorem Cq(h:Heap)(H:Hp):(eI h H).objs.size=h.objs.size:=PySem.W.hideAll_size _ _
theorem Cr{h:Heap}{H:Hp}{b:Addr}{o:Obj}(e:h.get? b=some o)(n:H b=none):(eI h H).get? b=some o :=
 PySem.W.hideAll_get _ e λhm=>by have q:(H b).isSome=true:=(List.mem_filter.mp hm).2;rw[n]at q;simp at q
theorem Ak{h:Heap}{H:Hp}{b:Addr}{o:Obj}(e:(eI h H).get? b=some o):h.get? b=some o/\H b=none:=by
 have e':h.get? b=some o:=PySem.W.of_hideAll (trk h H) e;refine⟨e',?_⟩;cases q:H b with
 |none=>rfl
 |some x =>have hm:b∈trk h H:=List.mem_filter.mpr ⟨IX.mpr (Heap.lt_size e'),by simp[q]⟩;have z:(eI h H).get? b=none:=PySem.W.hideAll_none (trk h H) hm;rw[z]at e;cases e
noncomputable def EB(g h:Heap)(L:Addr):List (Addr×Obj):=(List.range h.objs.size).filterMap λa=>if a=L\/(g.get? a).isSome=true then none else(h.get? a).map λo=>(a,o)
noncomputable def rest(g h:Heap)(L d:Addr):List (Addr×Obj):=(EB g h L).filter λp=>decide (p.1≠d)
structure Mod(K:PySem.W.Frag)(mg:Str->Option Value)(base:Heap):Prop where
 kin:K.In base
 glob:base.Ns mainGlobals mg
 blt:∃mb,base.Ns builtinsNs mb/\∀x:Str,x≠"__name__"->mb x=bootBuiltins x
 nolimit:base.NoLimit
structure Cx where
 prog:Program
 w:World
 K:PySem.W.Frag
 mg:Str->Option Value
 base:Heap
 A:Around
 N:List Str
 s₀:Shared
 H₀:Hp
 env:Env
 outer:List Env
 stack:List Env
 ex:List Addr
 fn:Str->Bool
 calm:Bool
 pn:List (Addr×Obj)
 xe:Value->Shared->Prop
noncomputable def frs(l:List Env):List Addr:=l.filterMap (·.frame)
abbrev Cx.fs(X:Cx):List Addr:=frs X.outer
def Vis(sc:Scope)(x:Str):Prop:=sc.names.lookup x=some .local\/sc.names.lookup x=some .cell\/sc.names.lookup x=some .free
def Loc(sc:Scope)(x:Str):Prop:=sc.names.lookup x=some .local\/sc.names.lookup x=some .cell
noncomputable def EG(env:Env)(h:Heap)(m:Str->Option Value)(x:Str)(u:Value):Prop :=
 (env.kindOf x=some .local/\m x=some u)\/((env.kindOf x=some .cell\/env.kindOf x=some .free)/\∃c,env.cells.lookup x=some c/\h.IsCell c (some u))
structure Cx.Ok(X:Cx):Prop where
 mod:Mod X.K X.mg X.base
 kind:X.env.scope.kind=.function
 glob:X.env.globals=mainGlobals
 blt:X.env.builtins=builtinsNs
 above:X.s₀.heap.objs.size<=X.env.locals
 inj:∀x y c,X.env.cells.lookup x=some c->X.env.cells.lookup y=some c->x=y
 has:∀x,(X.env.kindOf x=some .cell\/X.env.kindOf x=some .free)->∃c,X.env.cells.lookup x=some c
 cab:∀x c,X.fn x=true->X.env.cells.lookup x=some c->X.s₀.heap.objs.size<=c
 hd:X.calm=true->X.A.handled=none
 frames:X.A.frames=some X.stack
 stk:X.stack=X.outer\/(X.stack=X.env::X.outer/\X.env.frame=some X.env.locals)
 exf:∀b∈X.ex,b≠X.env.locals/\∀x c,X.env.cells.lookup x=some c->c≠b
 bs:∀b o,X.base.get? b=some o->X.s₀.heap.get? b=some o/\X.H₀ b=none
 bsz:X.base.objs.size<=X.s₀.heap.objs.size
 noex:∀b o,X.base.get? b=some o->b∉X.ex
 exfs:∀b∈X.ex,b∉X.fs
 funs:X.s₀.heap.FunFrames X.base X.outer
 frf:∀b∈X.fs,X.H₀ b=none
structure Inv(X:Cx)(pins:List (Addr×Obj))(σ:List (Option V))(H:Hp)(s:Shared):Prop where
 ok:X.Ok
 os:s.os=X.s₀.os
 bare:AllBare s.gens
 base:Un X.fs X.ex X.H₀ H X.s₀.heap s.heap
 loc:∃m,s.heap.Ns X.env.locals m/\∀(i:Nat) (x:Str) (v:V),X.N[i]?=some x->σ[i]?=some (some v)->Vis X.env.scope x->∃u,RelV v u/\EG X.env s.heap m x u
 cell:∀x c,X.env.cells.lookup x=some c->∃v,s.heap.IsCell c v
 free:H X.env.locals=none
 freeC:∀x c,X.env.cells.lookup x=some c->H c=none
 pin:∀p∈X.pn++pins,s.heap.get? p.1=some p.2/\H p.1=none/\p.1≠X.env.locals/\p.1∉X.fs/\∀v,p.2.data≠.cell v
 hok:HOk X.prog X.w H s.heap
 len:σ.length=X.N.length
section
variable {X:Cx}{pins:List (Addr×Obj)}{σ:List (Option V)}{H H':Hp}{s:Shared}{h':Heap}
theorem Cx.Ok.nofr(ok:X.Ok){b:Addr}{o:Obj}(e:X.base.get? b=some o):b∉X.fs:=λhb=>by have:=(ok.funs.mem hb).1;rw[e]at this;cases this
theorem Inv.bs(I:Inv X pins σ H s):∀b o,X.base.get? b=some o->s.heap.get? b=some o/\H b=none:=λb o e =>⟨I.base.keep b o (I.ok.bs b o e).1 (I.ok.bs b o e).2 (I.ok.nofr e) (I.ok.noex b o e),I.base.free b o (I.ok.bs b o e).1 (I.ok.bs b o e).2 (I.ok.noex b o e)⟩
theorem Inv.bk(I:Inv X pins σ H s):∀b o,X.base.get? b=some o->s.heap.get? b=some o:=λb o e=>(I.bs b o e).1
theorem Inv.mod(I:Inv X pins σ H s):Mod X.K X.mg X.base:=I.ok.mod
theorem Inv.kIn(I:Inv X pins σ H s):X.K.In s.heap:=I.ok.mod.kin.keeps I.bk
theorem Inv.nolimit(I:Inv X pins σ H s):s.heap.NoLimit:=I.ok.mod.nolimit.keeps I.bk
theorem Inv.fr(I:Inv X pins σ H s):∃m,Fr X.base X.env.locals s.heap m :=
 let⟨m,hn,_⟩:=I.loc
 ⟨m,hn,I.bk,HH I.ok.bsz I.ok.above⟩
theorem Inv.lt(I:Inv X pins σ H s):X.env.locals<s.heap.objs.size:=let⟨_,hn,_⟩:=I.loc;hn.lt
theorem Inv.sz(I:Inv X pins σ H s):X.s₀.heap.objs.size<=s.heap.objs.size:=HH I.ok.above (IY I.lt)
theorem Inv.nofs(I:Inv X pins σ H s){a:Addr}(h:s.heap.objs.size<=a):a∉X.fs:=λhb=>by obtain⟨_,o,ho,_⟩:=I.ok.funs.mem hb;exact absurd (HQ (Heap.lt_size ho) (HH I.sz h)) (Ik _)
theorem Inv.cne(I:Inv X pins σ H s):∀x c,X.env.cells.lookup x=some c->c≠X.env.locals:=λx c e z=>by obtain⟨v,o,ho,hd⟩:=I.cell x c e;obtain⟨m,⟨o',es,ep,ho',hd',_⟩,_⟩:=I.loc;rw[z,ho']at ho;cases ho;rw[hd']at hd;cases hd
theorem Inv.funs(I:Inv X pins σ H s):s.heap.FunFrames X.base X.outer:=by
 have all:∀(l:List Env),(∀b∈frs l,b∈X.fs)->X.s₀.heap.FunFrames X.base l->s.heap.FunFrames X.base l:=by
  intro l
  induction l with
  |nil=>intro _ _;trivial
  |cons env r ih =>
   intro hs hl;obtain⟨hk,⟨L,o,hf,hn,ho,hd⟩,hr⟩:=hl;have hL:L∈X.fs:=hs L (by unfold frs;rw[List.filterMap_cons,hf];exact HE);obtain⟨sl,e⟩:=I.base.slot L o ho (I.ok.frf L hL) hL λz=>I.ok.exfs L z hL
   exact⟨hk,⟨L,_,hf,hn,e,hd⟩,ih (λb hb=>hs b (by unfold frs;rw[List.filterMap_cons,hf];exact HC _ hb)) hr⟩
 exact all X.outer (λ_ hb=>hb) I.ok.funs
theorem Inv.stack(I:Inv X pins σ H s):s.heap.FunFrames X.base X.stack:=by
 rcases I.ok.stk with e |⟨e,hf⟩
 ·rw[e];exact I.funs
 ·rw[e];obtain⟨m,hn,_⟩:=I.loc;refine .cons (by rw[I.ok.kind];decide) hf hn ?_ I.funs;exact Heap.get?_none_of_le (HH I.ok.bsz I.ok.above)
theorem Inv.stkSub(I:Inv X pins σ H s):∀b∈frs X.stack,b∈X.env.locals::X.fs:=λb hb=>by
 rcases I.ok.stk with e |⟨e,hf⟩
 ·rw[e]at hb;exact HC _ hb
 ·rw[e]at hb;unfold frs at hb
  rw[List.filterMap_cons,hf]at hb;exact hb
theorem Inv.stkFree(I:Inv X pins σ H s):∀b∈frs X.stack,H b=none:=λb hb=>by
 rcases HI.mp (I.stkSub b hb)with e |hb
 ·rw[e];exact I.free
 ·obtain⟨_,o,ho,_⟩:=I.ok.funs.mem hb;exact I.base.free b o ho (I.ok.frf b hb) λz=>I.ok.exfs b z hb
theorem Inv.step{g':Array GenState}{t':Nat}{d':Drawn}{ch:List Addr}(I:Inv X pins σ H s)
 (hch:∀b∈ch,(b∈X.ex\/X.s₀.heap.objs.size<=b)/\b≠X.env.locals/\(∀x c,X.env.cells.lookup x=some c->c≠b)/\∀p∈X.pn++pins,p.1≠b)
 (keep:∀b o,b≠X.env.locals->b∉X.fs->b∉ch->s.heap.get? b=some o->H b=none->h'.get? b=some o)
 (slot:∀b o,b≠X.env.locals->b∈X.fs->b∉ch->s.heap.get? b=some o->H b=none->∃sl,h'.get? b=some { o with slots:=sl }) (free:∀b o,b∉ch->s.heap.get? b=some o->H b=none->H' b=none)
 (there:∀b o,b∉ch->s.heap.get? b=some o->∃o',h'.get? b=some o')
 (tups:∀b xs,H b=some (.tup xs)->H' b=some (.tup xs)) (frzs:∀b o u,H b=some (.frz o u)->H' b=some (.frz o u)) (tbls:∀b ps,H b=some (.tbl ps)->∃more,H' b=some (.tbl (ps++more)))
 (ns:∀m,s.heap.Ns X.env.locals m->h'.Ns X.env.locals m) (hok:HOk X.prog X.w H' h') (hg:AllBare g') :
 Inv X pins σ H' { s with heap:=h',gens:=g',drawn:=d',toks:=t' }:=by
 have neL:∀b o,X.s₀.heap.get? b=some o->b≠X.env.locals:=λb o e=>HR (HQ (Heap.lt_size e) I.ok.above)
 have neC:∀b o,X.s₀.heap.get? b=some o->b∉X.ex->b∉ch:=λb o e hx hb=>by
  rcases(hch b hb).1 with z |z
  ·exact hx z
  ·exact absurd (HQ (Heap.lt_size e) z) (Ik _)
 have cellK:∀x c,X.env.cells.lookup x=some c->∀v,s.heap.IsCell c v->h'.IsCell c v:=λx c e v ⟨o,ho,hd⟩=>by
  have nch:c∉ch:=λz=>(hch c z).2.2.1 x c e rfl
  by_cases hc:c∈X.fs
  ·obtain⟨sl,q⟩:=slot c o (I.cne x c e) hc nch ho (I.freeC x c e);exact⟨_,q,hd⟩
  ·exact⟨o,keep c o (I.cne x c e) hc nch ho (I.freeC x c e),hd⟩
 refine⟨I.ok,I.os,hg,⟨λb o e n hb hx=>?_,λb o e n hb hx=>?_,λb o e n hx=>?_,λb o e hx=>?_,λb xs e=>tups b xs (I.base.tups b xs e),λb o xs e=>frzs b o xs (I.base.frzs b o xs e),λb ps e=>?_⟩,?_,λx c e=>?_,?_,λx c e=>?_,λp hp=>?_,hok,I.len⟩
 ·exact keep b o (neL b o e) hb (neC b o e hx) (I.base.keep b o e n hb hx) (I.base.free b o e n hx)
 ·obtain⟨sl,e1⟩:=I.base.slot b o e n hb hx;obtain⟨sl',e2⟩:=slot b _ (neL b o e) hb (neC b o e hx) e1 (I.base.free b o e n hx);exact⟨sl',e2⟩
 ·obtain⟨o',e1⟩:=I.base.there b o e hx;exact free b o' (neC b o e hx) e1 (I.base.free b o e n hx)
 ·obtain⟨o',e1⟩:=I.base.there b o e hx;exact there b o' (neC b o e hx) e1
 ·obtain⟨m1,e1⟩:=I.base.tbls b ps e;obtain⟨m2,e2⟩:=tbls b _ e1;exact⟨m1++m2,by rw[e2,Array.append_assoc]⟩
 ·obtain⟨m,hn,hl⟩:=I.loc;refine⟨m,ns m hn,λi x v e1 e2 e3=>?_⟩;obtain⟨u,r,l⟩:=hl i x v e1 e2 e3;refine⟨u,r,?_⟩;rcases l with l |⟨k,c,e,z⟩
  ·exact .inl l
  ·exact .inr ⟨k,c,e,cellK x c e _ z⟩
 ·obtain⟨v,z⟩:=I.cell x c e;exact⟨v,cellK x c e v z⟩
 ·obtain⟨m,⟨o,_,_,ho,_⟩,_⟩:=I.loc;exact free _ o (λz=>(hch _ z).2.1 rfl) ho I.free
 ·obtain⟨v,o,ho,hd⟩:=I.cell x c e;exact free c o (λz=>(hch c z).2.2.1 x c e rfl) ho (I.freeC x c e)
 ·obtain⟨e,n,ne,nf,d⟩:=I.pin p hp;have nch:p.1∉ch:=λz=>(hch p.1 z).2.2.2 p hp rfl
  exact⟨keep p.1 p.2 ne nf nch e n,free p.1 p.2 nch e n,ne,nf,d⟩
theorem Inv.un{t':Nat}(I:Inv X pins σ H s)(u:Un X.fs [] H H' s.heap h')(hok:HOk X.prog X.w H' h'):Inv X pins σ H' { s with heap:=h',toks:=t' }:=by
 obtain⟨m,⟨o,es,ep,ho,r⟩,_⟩:=id I.loc;obtain⟨sl,hL⟩:=u.any ho I.free (by simp)
 exact I.step (g':=s.gens) (d':=s.drawn) (ch:=[]) (λ_ z=>nomatch z) (λb o _ hb _ e n=>u.keep b o e n hb (by simp)) (λb o _ hb _ e n=>u.slot b o e n hb (by simp)) (λb o _ e n=>u.free b o e n (by simp)) (λb o _ e=>u.there b o e (by simp)) u.tups u.frzs u.tbls (λm' hm=>by
  obtain⟨o',es',ep',ho',r'⟩:=hm;rw[ho]at ho';cases ho'
  exact⟨_,es',ep',hL,r'⟩) hok I.bare
theorem Inv.call{g':Array GenState}{t':Nat}{d':Drawn}{ch:List Addr}(I:Inv X pins σ H s)(u:Un (frs X.stack) ch H H' s.heap h')(hok:HOk X.prog X.w H' h')(hg:AllBare g')
 (hch:∀b∈ch,(b∈X.ex\/X.s₀.heap.objs.size<=b)/\b≠X.env.locals/\(∀x c,X.env.cells.lookup x=some c->c≠b)/\∀p∈X.pn++pins,p.1≠b) :
 Inv X pins σ H' { s with heap:=h',gens:=g',drawn:=d',toks:=t' }:=by
 obtain⟨m,⟨o,es,ep,ho,r⟩,_⟩:=id I.loc;obtain⟨sl,hL⟩:=u.any ho I.free λz=>(hch _ z).2.1 rfl
 exact I.step (ch:=ch) hch (λb o hL hb hc e n=>u.keep b o e n (λz=>(HI.mp (I.stkSub b z)).elim hL hb) hc) (λb o _ _ hc e n=>u.any e n hc) (λb o hc e n=>u.free b o e n hc) (λb o hc e=>u.there b o e hc) u.tups u.frzs u.tbls (λm' hm=>by
  obtain⟨o',es',ep',ho',r'⟩:=hm;rw[ho]at ho';cases ho'
  exact⟨_,es',ep',hL,r'⟩) hok hg
theorem Inv.turned{t':Nat}{it:Addr}(I:Inv X pins σ H s)(k:∀b o,b≠it->s.heap.get? b=some o->h'.get? b=some o)(hn:H it=none)(hL:it≠X.env.locals)
 (h1:it∈X.ex\/X.s₀.heap.objs.size<=it) (h2:∀x c,X.env.cells.lookup x=some c->c≠it) (h3:∀p∈X.pn++pins,p.1≠it):Inv X pins σ H { s with heap:=h',toks:=t' }:=by
 have nit:∀b u,H b=some u->b≠it:=λb u e z=>by rw[z,hn]at e;cases e
 refine I.step (g':=s.gens) (d':=s.drawn) (ch:=[it]) (λb hb=>?_) (λb o _ _ hc e _=>k b o (λz=>hc (by simp[z])) e) (λb o _ _ hc e _=>⟨o.slots,k b o (λz=>hc (by simp[z])) e⟩) (λ_ _ _ _ n=>n)
  (λb o hc e=>⟨o,k b o (λz=>hc (by simp[z])) e⟩) (λ_ _ e=>e) (λ_ _ _ e=>e) (λb ps e=>⟨#[],by rw[e];simp⟩) (λm hm=>?_) (λb u e=>?_) I.bare
 ·have e:b=it:=by simpa using hb
  subst e;exact⟨h1,hL,h2,h3⟩
 ·obtain⟨o,es,ep,ho,r⟩:=hm;exact⟨o,es,ep,k _ o (Ne.symm hL) ho,r⟩
 ·refine(I.hok b u e).stay (λc v hc q=>k c v ?_ q) (λ_ q=>q) λ_ _ q=>q
  rcases hc with z |z
  ·rw[z];exact nit b u e
  ·exact nit c _ z
theorem Inv.tok(I:Inv X pins σ H s)(t:Nat):Inv X pins σ H { s with toks:=t }:=I.un (h':=s.heap) (t':=t) Un.refl I.hok
theorem Inv.kept{t':Nat}(I:Inv X pins σ H s)(k:∀b u,s.heap.get? b=some u->h'.get? b=some u):Inv X pins σ H { s with heap:=h',toks:=t' }:=I.un (Un.kept k) (I.hok.kept k)
theorem Inv.laid{a:Addr}{o:HO}{t':Nat}(I:Inv X pins σ H s)(k:∀b u,s.heap.get? b=some u->h'.get? b=some u)(hp:s.heap.objs.size<=a)(new:ObjOk X.prog X.w (upd H a o) h' a o) :
 Inv X pins σ (upd H a o) { s with heap:=h',toks:=t' }:=I.un (Un.laid k hp (I.hok.fresh hp)) (I.hok.laid k hp new)
theorem Inv.write{x e:Addr}{o:HO}{t':Nat}(I:Inv X pins σ H s)(mu:Mut (H x))(he:e=x\/H e=some (.own x))(k:∀b u,b≠e->s.heap.get? b=some u->h'.get? b=some u)(heo:∃u,h'.get? e=some u)
 (new:ObjOk X.prog X.w (upd H x o) h' x o):Inv X pins σ (upd H x o) { s with heap:=h',toks:=t' }:=I.un (Un.write mu he k heo) (I.hok.write mu he k heo new)
theorem Inv.pins_of{pins':List (Addr×Obj)}(I:Inv X pins σ H s)(h:∀p∈pins',s.heap.get? p.1=some p.2/\H p.1=none/\p.1≠X.env.locals/\p.1∉X.fs/\∀v,p.2.data≠.cell v):Inv X pins' σ H s :=
 ⟨I.ok,I.os,I.bare,I.base,I.loc,I.cell,I.free,I.freeC,λp hp=>(HP.mp hp).elim (λz=>I.pin p (IF _ z)) (h p),I.hok,I.len⟩
theorem sD{N:List Str}(hN:N.Nodup){i j:Nat}{x:Str}(a:N[i]?=some x)(b:N[j]?=some x):i=j:=by obtain⟨h1,e1⟩:=List.getElem?_eq_some_iff.mp a;obtain⟨h2,e2⟩:=List.getElem?_eq_some_iff.mp b;exact(List.getElem_inj hN).mp (e1.trans e2.symm)
theorem km{M:Model}{A:Around}{E:Value->Shared->Prop}{i:Nat}{x:Str}{v:V}{u:Value}{Q:Unit->Shared->Prop}(I:Inv X pins σ H s)(hN:X.N.Nodup)(hi:X.N[i]?=some x)(hx:Loc X.env.scope x)(r:RelV v u)
 (h:∀s',Inv X pins (σ.set i (some v)) H s'->(∃a,Heap.SameBut a s.heap s'.heap/\(a=X.env.locals\/X.env.cells.lookup x=some a))->Q () s') (hf:X.fn x=true\/X.env.scope.names.lookup x=some .local:=by first |exact .inl rfl |exact .inr rfl |assumption):wpAny M A (storeName X.env x u) Q E s:=by
 obtain⟨m,hn,hl⟩:=id I.loc;have hcls:(X.env.scope.kind == .class || (X.env.scope.kind == .module&&X.env.locals != X.env.globals))=false:=by rw[I.ok.kind];rfl
 have hiσ:i<σ.length:=by rw[I.len];exact(List.getElem?_eq_some_iff.mp hi).1
 have cne:=I.cne
 have tracked:∀{a:Addr} {h':Heap},(∃o,s.heap.get? a=some o/\H a=none)->Heap.SameBut a s.heap h'->HOk X.prog X.w H h':=λ{a h'} ha hs b ob e=>by
  obtain⟨_,_,hfree⟩:=ha;refine(I.hok b ob e).stay (λc w' hc q=>(hs.2 c ?_).trans q) (λ_ q=>q) λ_ _ q=>q
  rintro rfl;rcases hc with rfl |hc
  ·rw[hfree]at e;cases e
  ·rw[hfree]at hc;cases hc
 rcases hx with hk |hk
 ·refine wpAny_storeName_local hk hn (λh' hn' hs=>?_) hcls;obtain⟨oL,_,_,hoL,_⟩:=id hn;refine h _ ⟨I.ok,I.os,I.bare,⟨λb o e n hb hx=>?_,λb o e n hb hx=>?_,I.base.free,λb o e hx=>?_,I.base.tups,I.base.frzs,I.base.tbls⟩,⟨_,hn',λj y v' e1 e2 e3=>?_⟩,λy c e=>?_,I.free,I.freeC,λp hp=>?_,tracked ⟨oL,hoL,I.free⟩ hs,by simpa using I.len⟩ ⟨_,hs,.inl rfl⟩
  ·exact(hs.2 b (HR (HQ (Heap.lt_size e) I.ok.above))).trans (I.base.keep b o e n hb hx)
  ·obtain⟨sl,e1⟩:=I.base.slot b o e n hb hx;exact⟨sl,(hs.2 b (HR (HQ (Heap.lt_size e) I.ok.above))).trans e1⟩
  ·obtain⟨o',e1⟩:=I.base.there b o e hx;exact⟨o',(hs.2 b (HR (HQ (Heap.lt_size e) I.ok.above))).trans e1⟩
  ·by_cases hj:j=i
   ·subst hj;rw[hi]at e1;cases e1;rw[List.getElem?_set_self hiσ]at e2;cases e2;exact⟨u,r,.inl ⟨hk,by simp⟩⟩
   ·rw[List.getElem?_set_ne (Ne.symm hj)]at e2;obtain⟨u',r',q⟩:=hl j y v' e1 e2 e3;refine⟨u',r',?_⟩;rcases q with⟨k,e⟩ |⟨k,c,e,z⟩
    ·refine .inl ⟨k,?_⟩;have:y≠x:=λe=>hj (sD hN e1 (e ▸ hi))
     simp[this,e]
    ·exact .inr ⟨k,c,e,z.sameBut hs (cne y c e)⟩
  ·obtain⟨w',z⟩:=I.cell y c e;exact⟨w',z.sameBut hs (cne y c e)⟩
  ·obtain⟨e,n,ne,nf,d⟩:=I.pin p hp;exact⟨(hs.2 p.1 ne).trans e,n,ne,nf,d⟩
 ·have hfn:X.fn x=true:=by
   rcases hf with z |z
   ·exact z
   ·rw[z]at hk;cases hk
  obtain⟨c,hc⟩:=I.ok.has x (.inl hk);obtain⟨w',z⟩:=I.cell x c hc;refine wpAny_storeName_cell I.ok.kind hk hc z (λh' hc' hs=>?_);obtain⟨oc,hoc,hocd⟩:=id z;refine h { s with heap:=h' } ⟨I.ok,I.os,I.bare,⟨λb o e n hb hx=>?_,λb o e n hb hx=>?_,I.base.free,λb o e hx=>?_,I.base.tups,I.base.frzs,I.base.tbls⟩,⟨m,hn.sameBut hs (Ne.symm (cne x c hc)),λj y v' e1 e2 e3=>?_⟩,λy c' e=>?_,I.free,I.freeC,λp hp=>?_,tracked ⟨oc,hoc,I.freeC x c hc⟩ hs,by simpa using I.len⟩ ⟨c,hs,.inr hc⟩
  ·exact(hs.2 b (HR (HQ (Heap.lt_size e) (I.ok.cab x c hfn hc)))).trans (I.base.keep b o e n hb hx)
  ·obtain⟨sl,e1⟩:=I.base.slot b o e n hb hx;exact⟨sl,(hs.2 b (HR (HQ (Heap.lt_size e) (I.ok.cab x c hfn hc)))).trans e1⟩
  ·obtain⟨o',e1⟩:=I.base.there b o e hx;exact⟨o',(hs.2 b (HR (HQ (Heap.lt_size e) (I.ok.cab x c hfn hc)))).trans e1⟩
  ·by_cases hj:j=i
   ·subst hj;rw[hi]at e1;cases e1;rw[List.getElem?_set_self hiσ]at e2;cases e2;exact⟨u,r,.inr ⟨.inl hk,c,hc,hc'⟩⟩
   ·rw[List.getElem?_set_ne (Ne.symm hj)]at e2;obtain⟨u',r',q⟩:=hl j y v' e1 e2 e3;refine⟨u',r',?_⟩;rcases q with q |⟨k,c',e,z'⟩
    ·exact .inl q
    ·refine .inr ⟨k,c',e,z'.sameBut hs ?_⟩;rintro rfl;exact hj (sD hN e1 (I.ok.inj _ _ _ e hc ▸ hi))
  ·by_cases hcc:c'=c
   ·subst hcc;exact⟨_,hc'⟩
   ·obtain⟨w2,z2⟩:=I.cell y c' e;exact⟨w2,z2.sameBut hs hcc⟩
  ·obtain⟨e,n,ne,nf,d⟩:=I.pin p hp;refine⟨(hs.2 p.1 ?_).trans e,n,ne,nf,d⟩;intro q;rw[q,hoc]at e;have q':oc=p.2:=Option.some.inj e;exact d w' (by rw[<- q'];exact hocd)
theorem pQ{M:Model}{A:Around}{E:Value->Shared->Prop}{i:Nat}{x:Str}{v:V}{u:Value}{Q:Unit->Shared->Prop}(I:Inv X pins σ H s)(hN:X.N.Nodup)(hi:X.N[i]?=some x)(hx:Loc X.env.scope x)(r:RelV v u)
 (h:∀s',Inv X pins (σ.set i (some v)) H s'->Q () s') (hf:X.fn x=true\/X.env.scope.names.lookup x=some .local:=by first |exact .inl rfl |exact .inr rfl |assumption):wpAny M A (storeName X.env x u) Q E s :=
 km I hN hi hx r (λs' I' _=>h s' I') hf
theorem Inv.call'{s':Shared}{ch:List Addr}(I:Inv X pins σ H s)(ho:s'.os=s.os)(u:Un (frs X.stack) ch H H' s.heap s'.heap)(hok:HOk X.prog X.w H' s'.heap)(hg:AllBare s'.gens)
 (hch:∀b∈ch,(b∈X.ex\/X.s₀.heap.objs.size<=b)/\b≠X.env.locals/\(∀x c,X.env.cells.lookup x=some c->c≠b)/\∀p∈X.pn++pins,p.1≠b):Inv X pins σ H' s':=by
 obtain⟨h',g',d',t',o'⟩:=s';have e:o'=s.os:=ho;subst e;exact I.call (g':=g') (t':=t') (d':=d') u hok hg hch
end
abbrev XK:=Value->Option Addr->Hp->Prop
abbrev St:=List (Option V)
abbrev VK:=V->Hp->Prop
abbrev TE:=St->Hp->VK->Prop
abbrev TT:=St->Hp->(Bool->Hp->Prop)->Prop
abbrev TA:=St->Hp->(List V->Hp->Prop)->Prop
structure Ends where
 nx:St->Hp->Prop
 rt:VK
 bk:St->Hp->Prop:=λ_ _=>False
 ct:St->Hp->Prop:=λ_ _=>False
abbrev TS:=Ends->St->Hp->Prop
def EP(X:Cx)(pins:List (Addr×Obj))(σ:St)(Q:VK)(u:Value)(s':Shared):Prop:=∃v H',Inv X pins σ H' s'/\RelV v u/\Q v H'
def TP(X:Cx)(pins:List (Addr×Obj))(σ:St)(Q:Bool->Hp->Prop)(b:Bool)(s':Shared):Prop:=∃H',Inv X pins σ H' s'/\Q b H'
def AP(X:Cx)(pins:List (Addr×Obj))(σ:St)(Q:List V->Hp->Prop)(us:List Value)(s':Shared):Prop:=∃vs H',Inv X pins σ H' s'/\Vals vs us/\Q vs H'
noncomputable def SP(X:Cx)(pins:List (Addr×Obj))(D:Ends)(f:Flow)(s':Shared):Prop :=
 match f with
 |.next=>∃σ' H',Inv X pins σ' H' s'/\D.nx σ' H'
 |.brk=>∃σ' H',Inv X pins σ' H' s'/\D.bk σ' H'
 |.cont=>∃σ' H',Inv X pins σ' H' s'/\D.ct σ' H'
 |.ret u=>∃v σ' H',Inv X pins σ' H' s'/\RelV v u/\D.rt v H'
noncomputable def PE(X:Cx)(e:Expr)(t:TE):Prop :=
 ∀(pins:List (Addr×Obj)) (s:Shared) (σ:St) (H:Hp) (Q:VK),Inv X pins σ H s->t σ H Q->wpAny (model X.prog X.w) X.A (eval e X.env) (EP X pins σ Q) X.xe s
noncomputable def PT(X:Cx)(e:Expr)(t:TT):Prop :=
 ∀(pins:List (Addr×Obj)) (s:Shared) (σ:St) (H:Hp) (Q:Bool->Hp->Prop),Inv X pins σ H s->t σ H Q->wpAny (model X.prog X.w) X.A (isTrue e X.env (eval e X.env)) (TP X pins σ Q) X.xe s
noncomputable def PW(X:Cx)(e:Expr)(t:TT):Prop :=
 ∀(whole:Sem Value) (pins:List (Addr×Obj)) (s:Shared) (σ:St) (H:Hp) (Q:Bool->Hp->Prop),Inv X pins σ H s->t σ H Q->wpAny (model X.prog X.w) X.A (isTrue e X.env whole) (TP X pins σ Q) X.xe s
theorem PW.pt{X:Cx}{e:Expr}{t:TT}(h:PW X e t):PT X e t:=h _
noncomputable def PA(X:Cx)(es:List Expr)(t:TA):Prop :=
 ∀(pos:Pos) (pins:List (Addr×Obj)) (s:Shared) (σ:St) (H:Hp) (Q:List V->Hp->Prop),Inv X pins σ H s->t σ H Q->wpAny (model X.prog X.w) X.A (spliced (backTo pos (starEach es X.env))) (AP X pins σ Q) X.xe s
noncomputable def PS(X:Cx)(st:Stmt)(t:TS):Prop :=
 ∀(pins:List (Addr×Obj)) (s:Shared) (σ:St) (H:Hp) (D:Ends),Inv X pins σ H s->t D σ H->wpAny (model X.prog X.w) X.A (exec st X.env) (SP X pins D) X.xe s
noncomputable def PSs(X:Cx)(st:List Stmt)(t:TS):Prop :=
 ∀(pins:List (Addr×Obj)) (s:Shared) (σ:St) (H:Hp) (D:Ends),Inv X pins σ H s->t D σ H->wpAny (model X.prog X.w) X.A (execs st X.env) (SP X pins D) X.xe s
theorem thn{α:Type}{t:Sem α}{Q Q':α->Shared->Prop}{M:Model}{A:Around}{E:Value->Shared->Prop}{s:Shared}(h:wpAny M A t Q E s)(hQ:∀a s,Q a s->Q' a s):wpAny M A t Q' E s:=wpAny_mono h hQ λ_ _ x=>x
section
variable {X:Cx}
def cZ(i:Nat):TE:=λσ H Q=>∃v,σ[i]?=some (some v)/\Q v H
def tC(v:V):TE:=λ_ H Q=>Q v H
theorem yS{i:Nat}{x:Str}{pos:Pos}(hN:X.N[i]?=some x)(hv:Vis X.env.scope x)(hd:(x == ("__debug__":Str))=false:=by decide)(hcd:(x == ("__classdict__":Str))=false:=by decide):PE X (.Name x pos) (cZ i):=by
 intro pins s σ H Q I h;obtain⟨v,e,h⟩:=h;obtain⟨m,hn,hl⟩:=I.loc;obtain⟨u,r,l⟩:=hl i x v hN e hv;have fin:EP X pins σ Q u s:=⟨v,H,I,r,h⟩;rcases l with⟨hk,hm⟩ |⟨hk,c,hc,hcell⟩
 ·exact wpAny_Name (wpAny_loadName_local I.ok.kind hk hn hm fin) hd
 ·rcases hk with hk |hk
  ·exact wpAny_Name (wpAny_loadName_cell I.ok.kind hk hc hcell fin) hd
  ·exact wpAny_Name (wpAny_loadName_free I.ok.kind hk hc hcell fin hcd) hd
theorem ac{i j pos}:PE X (.Constant (.int i) j pos) (tC (.int i)):=λ_ _ _ H _ I h=>wpAny_Constant_int ⟨.int i,H,I.tok _,⟨_,rfl⟩,h⟩
theorem iz{b j pos}:PE X (.Constant (.bool b) j pos) (tC (.bl b)):=λ_ _ _ H _ I h=>Constant_bool ⟨.bl b,H,I,rfl,h⟩
def Gl(X:Cx)(x:Str):Prop:=X.env.kindOf x=some .globalImplicit
theorem tJ{E:Value->Shared->Prop}{pins:List (Addr×Obj)}{s:Shared}{σ:St}{H:Hp}{x:Str}{u:Value}{pos:Pos}{Q:Value->Shared->Prop}(I:Inv X pins σ H s)(hg:Gl X x)(hm:X.mg x=some u)(h:Q u s)
 (hd:(x == ("__debug__":Str))=false:=by decide):wpAny (model X.prog X.w) X.A (eval (.Name x pos) X.env) Q E s :=
 Calls.Name_function_global I.ok.kind hg (Calls.loadGlobal_global (by rw[I.ok.glob];exact I.mod.glob.keeps I.bk) hm h) hd
theorem fi{E:Value->Shared->Prop}{pins:List (Addr×Obj)}{s:Shared}{σ:St}{H:Hp}{x:Str}{u:Value}{pos:Pos}{Q:Value->Shared->Prop}(I:Inv X pins σ H s)(hg:Gl X x)(hm:X.mg x=none)(hv:bootBuiltins x=some u)(h:Q u s)
 (hn:x≠"__name__":=by decide) (hd:(x == ("__debug__":Str))=false:=by decide):wpAny (model X.prog X.w) X.A (eval (.Name x pos) X.env) Q E s:=by
 obtain⟨mb,h1,h2⟩:=I.mod.blt;exact Calls.Name_function_global I.ok.kind hg (Calls.loadGlobal_builtin (by rw[I.ok.glob];exact I.mod.glob.keeps I.bk) hm (by rw[I.ok.blt];exact h1.keeps I.bk) ((h2 x hn).trans hv) h) hd
theorem yV{x:Str}{v:V}{u:Value}{pos:Pos}(hg:Gl X x)(hm:X.mg x=none)(hv:bootBuiltins x=some u)(r:RelV v u)(hn:x≠"__name__":=by decide)(hd:(x == ("__debug__":Str))=false:=by decide):PE X (.Name x pos) (tC v) :=
 λ_ _ _ H _ I h=>fi I hg hm hv ⟨v,H,I,r,h⟩ hn hd
variable {a b:Expr}{ta tb:TE}{pos:Pos}
def tB(t:TE):TT:=λσ H Q=>t σ H λx H1=>∃c,x=.bl c/\Q c H1
theorem gE{e:Expr}{t:TE}(h:PE X e t)(he:∀whole,isTrue e X.env whole=(do let v <- whole;standAt e.pos;holding [v] (truthy v)):=by intro _;rfl):PT X e (tB t):=by intro pins s σ H Q I hw;refine isTrue_plain (thn (h pins s σ H _ I hw) λv s1 ⟨x,H1,I1,r1,q1⟩=>?_) (he _);obtain⟨d,rfl,q⟩:=q1;cases r1;exact wpAny_truthy_bool ⟨H1,I1,q⟩
variable {tA tB':TT}{rest:List Expr}
def ie(t u:TT):TT:=λσ H Q=>t σ H λc H1=>if c=true then u σ H1 Q else Q false H1
def tOr(t u:TT):TT:=λσ H Q=>t σ H λc H1=>if c=true then Q true H1 else u σ H1 Q
def pG(t:TT):TT:=λσ H Q=>t σ H λc H1=>Q (!c) H1
theorem cU(ha:PT X a tA):PW X (.BoolOp .And [a] pos) tA:=by
 intro wh pins s σ H Q I h;refine isTrue_and (thn (ha pins s σ H Q I h) λc s1 e=>?_);cases c with
 |true=>exact isTrue_and_nil e
 |false=>exact e
theorem eh(ha:PT X a tA):PW X (.BoolOp .Or [a] pos) tA:=by
 intro wh pins s σ H Q I h;refine isTrue_or (thn (ha pins s σ H Q I h) λc s1 e=>?_);cases c with
 |false=>exact isTrue_or_nil e
 |true=>exact e
theorem cF(ha:PT X a tA)(hb:PW X (.BoolOp .And (b::rest) pos) tB'):PW X (.BoolOp .And (a::b::rest) pos) (ie tA tB'):=by
 intro wh pins s σ H Q I h;refine isTrue_and (thn (ha pins s σ H _ I h) λc s1 ⟨H1,I1,q1⟩=>?_);cases c with
 |true=>exact hb wh pins s1 σ H1 Q I1 q1
 |false=>exact⟨H1,I1,q1⟩
theorem dN(ha:PT X a tA)(hb:PW X (.BoolOp .Or (b::rest) pos) tB'):PW X (.BoolOp .Or (a::b::rest) pos) (tOr tA tB'):=by
 intro wh pins s σ H Q I h;refine isTrue_or (thn (ha pins s σ H _ I h) λc s1 ⟨H1,I1,q1⟩=>?_);cases c with
 |true=>exact⟨H1,I1,q1⟩
 |false=>exact hb wh pins s1 σ H1 Q I1 q1
theorem mh(ha:PT X a tA):PT X (.UnaryOp .Not a pos) (pG tA):=by intro pins s σ H Q I h;exact isTrue_not (ha pins s σ H (λc H1=>Q (!c) H1) I h)
def pL(ta tb:TE):TE:=λσ H Q=>ta σ H λx H1=>∃c,x=.bl c/\if c=true then tb σ H1 Q else Q (.bl false) H1
theorem mv{op}{t:TE}(h:PE X a t):PE X (.BoolOp op [a] pos) t:=λpins s σ H Q I hw=>BoolOp_one (h pins s σ H Q I hw)
theorem jH(ha:PE X a ta)(hb:PE X (.BoolOp .And (b::rest) pos) tb):PE X (.BoolOp .And (a::b::rest) pos) (pL ta tb):=by
 intro pins s σ H Q I h;refine BoolOp_and (thn (ha pins s σ H _ I h) λv s1 ⟨x,H1,I1,r1,q1⟩=>?_);obtain⟨c,rfl,q1⟩:=q1;cases r1;refine wpAny_truthy_bool ?_;cases c with
 |true=>exact hb pins s1 σ H1 Q I1 q1
 |false=>exact⟨.bl false,H1,I1,rfl,q1⟩
end
noncomputable def SqL(K:PySem.W.Frag)(H:Hp)(a:Addr)(xs:List V):Prop :=
 Rd H a (.lst xs) \/
  ∃(o:Obj) (its:Array Value) (n:Nat),K.lookup a=some o/\o.cls=.type "list"/\o.dict=none/\o.data=.seq its n/\its.size<=sizeLine/\Vals xs its.toList
noncomputable def SqT(K:PySem.W.Frag)(H:Hp)(a:Addr)(xs:List V):Prop :=
 Rd H a (.tup xs) \/
  ∃(o:Obj) (its:Array Value) (n:Nat),K.lookup a=some o/\o.cls=.type "tuple"/\o.data=.seq its n/\its.size<=sizeLine/\Vals xs its.toList
noncomputable def ED:Value->Option V
 |.none=>some .non
 |.bool b=>some (.bl b)
 |.int i _=>some (.int i)
 |.str x _=>some (.str x)
 |.bytes b _=>some (.byt b)
 |.float b _=>some (.flt b)
 |.ref a=>some (.ref a)
 |.type n=>some (.ty n)
 |_=>none
theorem RelV.abs{x:V}{u:Value}(r:RelV x u):ED u=some x:=by
 cases x with
 |non=>cases r;rfl
 |bl _=>cases r;rfl
 |int _=>obtain⟨t,rfl⟩:=r;rfl
 |str _=>obtain⟨t,rfl⟩:=r;rfl
 |byt _=>obtain⟨t,rfl⟩:=r;rfl
 |flt _=>obtain⟨t,rfl⟩:=r;rfl
 |ref _=>cases r;rfl
 |ty _=>cases r;rfl
theorem RelV.inj{x y:V}{u:Value}(r:RelV x u)(q:RelV y u):x=y:=Option.some.inj (r.abs.symm.trans q.abs)
theorem Vals.inj:∀{xs ys:List V} {us:List Value},Vals xs us->Vals ys us->xs=ys
 |_,_,_,.nil,.nil=>rfl
 |_,_,_,.cons r t,.cons r' t'=>by rw[r.inj r',Vals.inj t t']
section
variable {X:Cx}{pins:List (Addr×Obj)}{σ:St}{H:Hp}{s:Shared}{a:Addr}{xs ys:List V}
theorem SqL.of{K:PySem.W.Frag}(h:H a=some (.lst xs)):SqL K H a xs:=.inl (.inl h)
theorem SqT.of{K:PySem.W.Frag}(h:H a=some (.tup xs)):SqT K H a xs:=.inl (.inl h)
theorem Inv.list(I:Inv X pins σ H s)(h:SqL X.K H a xs):∃its:List Value,Vals xs its/\PlainL s.heap a its.toArray/\xs.length<=sizeLine:=by
 rcases h with h |⟨o,its,n,hk,hc,hd,hs,hz,r⟩
 ·obtain⟨z,its,n,r,e⟩:=h.ok I.hok;exact⟨its,r,⟨_,n,e,rfl,rfl,rfl⟩,z⟩
 ·refine⟨its.toList,r,⟨o,n,I.kIn a o hk,hc,hd,by simpa using hs⟩,?_⟩;have e:=r.length;simp only[Array.length_toList]at e;omega
theorem Inv.tuple(I:Inv X pins σ H s)(h:SqT X.K H a xs):∃its:List Value,Vals xs its/\IsTup s.heap a its.toArray/\xs.length<=sizeLine:=by
 rcases h with h |⟨o,its,n,hk,hc,hs,hz,r⟩
 ·obtain⟨z,its,r,p⟩:=h.ok I.hok;exact⟨its,r,p,z⟩
 ·refine⟨its.toList,r,⟨o,I.kIn a o hk,hc,n,by simpa using hs⟩,?_⟩;have e:=r.length;simp only[Array.length_toList]at e;omega
theorem Inv.list_inj(I:Inv X pins σ H s)(h:SqL X.K H a xs)(h':SqL X.K H a ys):xs=ys:=by
 obtain⟨its,r,⟨o,n,e,_,_,d⟩,_⟩:=I.list h;obtain⟨its',r',⟨o',n',e',_,_,d'⟩,_⟩:=I.list h';rw[e]at e';cases e';rw[d]at d'
 injection d' with d1 _
 have:its=its':=by simpa using congrArg Array.toList d1
 subst this;exact r.inj r'
end
abbrev Cx.wish(X:Cx)(E:Value->Shared->Prop):Cx:={ X with xe:=E }
abbrev Cx.nox(X:Cx):Cx:=X.wish λ_ _=>False
theorem Cx.Ok.wish{X:Cx}(ok:X.Ok)(E:Value->Shared->Prop):(X.wish E).Ok :=
 ⟨ok.mod,ok.kind,ok.glob,ok.blt,ok.above,ok.inj,ok.has,ok.cab,ok.hd,ok.frames,ok.stk,ok.exf,ok.bs,ok.bsz,ok.noex,ok.exfs,ok.funs,ok.frf⟩
theorem Cx.Ok.unwish{X:Cx}{E:Value->Shared->Prop}(ok:(X.wish E).Ok):X.Ok :=
 ⟨ok.mod,ok.kind,ok.glob,ok.blt,ok.above,ok.inj,ok.has,ok.cab,ok.hd,ok.frames,ok.stk,ok.exf,ok.bs,ok.bsz,ok.noex,ok.exfs,ok.funs,ok.frf⟩
section
variable {X:Cx}{pins:List (Addr×Obj)}{σ:St}{H:Hp}{s:Shared}{E:Value->Shared->Prop}
theorem Inv.wish(I:Inv X pins σ H s)(E:Value->Shared->Prop):Inv (X.wish E) pins σ H s:=⟨I.ok.wish E,I.os,I.bare,I.base,I.loc,I.cell,I.free,I.freeC,I.pin,I.hok,I.len⟩
theorem Inv.unwish(I:Inv (X.wish E) pins σ H s):Inv X pins σ H s:=⟨I.ok.unwish,I.os,I.bare,I.base,I.loc,I.cell,I.free,I.freeC,I.pin,I.hok,I.len⟩
theorem SP.unwish{D:Ends}{f:Flow}{s':Shared}(h:SP (X.wish E) pins D f s'):SP X pins D f s':=by
 cases f with
 |next=>obtain⟨σ',H',I,q⟩:=h;exact⟨σ',H',I.unwish,q⟩
 |brk=>obtain⟨σ',H',I,q⟩:=h;exact⟨σ',H',I.unwish,q⟩
 |cont=>obtain⟨σ',H',I,q⟩:=h;exact⟨σ',H',I.unwish,q⟩
 |ret u=>obtain⟨v,σ',H',I,r,q⟩:=h;exact⟨v,σ',H',I.unwish,r,q⟩
theorem PE.nox{e:Expr}{t:TE}(h:PE X.nox e t):PE X e t:=λpins s σ H Q I hw =>wpAny_mono (h pins s σ H Q (I.wish _) hw) (λ_ _ ⟨v,H',I',r,q⟩=>⟨v,H',I'.unwish,r,q⟩) λ_ _ z=>False.elim z
theorem PT.nox{e:Expr}{t:TT}(h:PT X.nox e t):PT X e t:=λpins s σ H Q I hw =>wpAny_mono (h pins s σ H Q (I.wish _) hw) (λ_ _ ⟨H',I',q⟩=>⟨H',I'.unwish,q⟩) λ_ _ z=>False.elim z
theorem PSs.nox{st:List Stmt}{t:TS}(h:PSs X.nox st t):PSs X st t:=λpins s σ H D I hw =>wpAny_mono (h pins s σ H D (I.wish _) hw) (λ_ _ q=>q.unwish) λ_ _ z=>False.elim z
end
section
variable {X:Cx}{st:Stmt}{rest:List Stmt}{t u:TS}{e:Expr}{te:TE}{pos:Pos}
def d8:TS:=λD σ H=>D.nx σ H
def bz(t u:TS):TS:=λD σ H=>t { D with nx:=u D } σ H
theorem aV:PSs X [] d8:=λ_ _ σ H _ I h=>wpAny_execs_nil ⟨σ,H,I,h⟩
theorem ag(h1:PS X st t)(h2:PSs X rest u):PSs X (st::rest) (bz t u):=by
 intro pins s σ H D I h;refine wpAny_execs_cons (thn (h1 pins s σ H { D with nx:=u D } I h) λf s1 q=>?_);cases f with
 |next =>obtain⟨σ',H',I',q⟩:=q;exact h2 pins s1 σ' H' D I' q
 |ret v=>exact q
 |brk=>exact q
 |cont=>exact q
theorem ak(h1:PS X st t):PSs X [st] t:=by
 intro pins s σ H D I h;refine wpAny_execs_cons (thn (h1 pins s σ H D I h) λf s1 q=>?_);cases f with
 |next=>exact wpAny_execs_nil q
 |ret v=>exact q
 |brk=>exact q
 |cont=>exact q
theorem Inv.quiet{pins:List (Addr×Obj)}{σ:St}{H:Hp}{s:Shared}(I:Inv X pins σ H s):interactive X.env=false:=by simp[interactive,I.ok.kind]
def ki(te:TE):TS:=λD σ H=>te σ H λ_ H1=>D.nx σ H1
theorem bX(he:PE X e te)(hs:swapsWith e none pos.line X.env=pure false:=by rfl):PS X (.Expr e pos) (ki te):=by intro pins s σ H D I h;exact wpAny_Expr_any (thn (he pins s σ H _ I h) λv s1 ⟨x,H1,I1,r1,q1⟩=>⟨σ,H1,I1,q1⟩) I.quiet hs
def pF(te:TE):TS:=λD σ H=>te σ H D.rt
theorem aG(he:PE X e te):PS X (.Return (some e) pos) (pF te):=by intro pins s σ H D I h;exact wpAny_Return_some (thn (he pins s σ H _ I h) λv s1 ⟨x,H1,I1,r1,q1⟩=>⟨x,σ,H1,I1,r1,q1⟩)
def cS(c:TT)(t u:TS):TS:=λD σ H=>c σ H λb H1=>if b=true then t D σ H1 else u D σ H1
theorem aW{c:Expr}{a b:List Stmt}{tc:TT}(hc:PT X c tc)(ha:PSs X a t)(hb:PSs X b u):PS X (.If c a b pos) (cS tc t u):=by
 intro pins s σ H D I h;refine wpAny_If (thn (hc pins s σ H _ I h) λd s1 ⟨H1,I1,q1⟩=>?_);cases d with
 |true=>exact ha pins s1 σ H1 D I1 q1
 |false=>exact hb pins s1 σ H1 D I1 q1
def wI:TS:=λ_ _ _=>False
theorem yA:PS X st wI:=λ_ _ _ _ _ _ h=>h.elim
end
abbrev TG:=V->St->Hp->(St->Hp->Prop)->Prop
abbrev TGs:=List V->St->Hp->(St->Hp->Prop)->Prop
noncomputable def PG(X:Cx)(target:Expr)(t:TG):Prop :=
 ∀(pins:List (Addr×Obj)) (s:Shared) (σ:St) (H:Hp) (v:V) (u:Value) (Q:St->Hp->Prop),Inv X pins σ H s->RelV v u->t v σ H Q ->
  wpAny (model X.prog X.w) X.A (assign target X.env u) (λ_ s'=>∃σ' H',Inv X pins σ' H' s'/\Q σ' H') X.xe s
noncomputable def PGs(X:Cx)(ts:List Expr)(t:TGs):Prop :=
 ∀(pins:List (Addr×Obj)) (s:Shared) (σ:St) (H:Hp) (vs:List V) (us:List Value) (Q:St->Hp->Prop),Inv X pins σ H s->Vals vs us->t vs σ H Q ->
  wpAny (model X.prog X.w) X.A (assignInOrder ((assignEach ts X.env).map (·.2)) us) (λ_ s'=>∃σ' H',Inv X pins σ' H' s'/\Q σ' H') X.xe s
abbrev oG:=V->V->V->Hp->(Hp->Prop)->Prop
noncomputable def vN(X:Cx)(t:oG):Prop :=
 ∀(pins:List (Addr×Obj)) (s:Shared) (σ:St) (H:Hp) (o i v:V) (ov iv u:Value) (Q:Hp->Prop),Inv X pins σ H s->RelV o ov->RelV i iv->RelV v u->t o i v H Q ->
  wpAny (model X.prog X.w) X.A (setItem ov iv u) (λ_ s'=>∃H',Inv X pins σ H' s'/\Q H') X.xe s
section
variable {X:Cx}{pos:Pos}
def dS(i:Nat):TG:=λv σ H Q=>Q (σ.set i (some v)) H
theorem aL{i:Nat}{x:Str}(hN:X.N.Nodup)(hi:X.N[i]?=some x)(hx:Loc X.env.scope x)(hf:X.fn x=true\/X.env.scope.names.lookup x=some .local:=by first |exact .inl rfl |exact .inr rfl |assumption):PG X (.Name x pos) (dS i):=by intro pins s σ H v u Q I r h;exact wpAny_assign_Name (pQ I hN hi hx r (λs' I'=>⟨_,H,I',h⟩) hf)
noncomputable def CI:TGs:=λvs σ H Q=>vs=[]/\Q σ H
noncomputable def CJ(t:TG)(u:TGs):TGs:=λvs σ H Q=>∃v r,vs=v::r/\t v σ H λσ' H'=>u r σ' H' Q
theorem eC:PGs X [] CI:=by intro pins s σ H vs us Q I r h;obtain⟨e,h⟩:=h;subst e;cases r;exact assignInOrder_nil ⟨σ,H,I,h⟩
theorem cj{e:Expr}{es:List Expr}{t:TG}{u:TGs}(h1:PG X e t)(h2:PGs X es u)
 (hs:(assignEach (e::es) X.env).map (·.2)=assign e X.env::(assignEach es X.env).map (·.2):=by rfl):PGs X (e::es) (CJ t u):=by
 intro pins s σ H vs us Q I r h;obtain⟨v,vr,e1,h⟩:=h;subst e1;cases r with
 |cons r rr =>rw[hs];refine assignInOrder_cons (thn (h1 pins s σ H _ _ _ I r h) λ_ s1 ⟨σ1,H1,I1,q1⟩=>?_);exact h2 pins s1 σ1 H1 _ _ Q I1 rr q1
def ur(K:PySem.W.Frag)(n:Nat)(t:TGs):TG:=λv σ H Q=>∃a xs,v=.ref a/\SqT K H a xs/\xs.length=n/\t xs σ H Q
theorem fC{es:List Expr}{k:Nat}{t:TGs}{n:Nat}(hc:X.calm=true)(h:PGs X es t)
 (hn:(assignEach es X.env).length=n:=by rfl) (hst:(assignEach es X.env).findIdx? (·.1)=none:=by rfl):PG X (.Tuple es k pos) (ur X.K n t):=by
 intro pins s σ H v u Q I r hw;obtain⟨a,xs,e1,hq,hl,hw⟩:=hw;subst e1;cases r;obtain⟨its,rv,ht,hz⟩:=I.tuple hq;refine assign_Tuple_tuple (I.ok.hd hc) ht (by simp[hn,<- hl,rv.length]) hst λh' hx=>?_
 have I1:Inv X pins σ H { s with heap:=h' }:=I.kept (t':=s.toks) λb o e=>hx b o (HR (Heap.lt_size e)) e
 exact h pins _ σ H xs _ Q I1 (by simpa using rv) hw
def CH(to ti:TE)(t:oG):TG:=λv σ H Q=>to σ H λo H1=>ti σ H1 λi H2=>t o i v H2 λH3=>Q σ H3
theorem du{o i:Expr}{to ti:TE}{t:oG}(ho:PE X o to)(hi:PE X i ti)(hs:vN X t)
 (ha:∀v,assign (.Subscript o i pos) X.env v=(do
   let ov <- holding [v] (eval o X.env)
   let iv <- holding [v,ov] (eval i X.env)
   standAt pos
   holding [v,ov,iv] (setItem ov iv v)
   release [v,ov,iv] []):=by intro _;rfl):PG X (.Subscript o i pos) (CH to ti t):=by
 intro pins s σ H v u Q I r h;rw[ha];refine wpAny_bind (wpAny_holding (thn (ho pins s σ H _ I h) λov s1 ⟨x,H1,I1,r1,q1⟩=>?_));refine wpAny_bind (wpAny_holding (thn (hi pins s1 σ H1 _ I1 q1) λiv s2 ⟨y,H2,I2,r2,q2⟩=>?_));refine wpAny_bind (wpAny_standAt (wpAny_bind (wpAny_holding (thn (hs pins s2 σ H2 x y v ov iv u _ I2 r1 r2 r q2) λ_ s3 ⟨H3,I3,q3⟩=>?_))));exact wpAny_release ⟨σ,H3,I3,q3⟩
def eV(te:TE)(g:TG):TS:=λD σ H=>te σ H λx H1=>g x σ H1 D.nx
theorem c8{tg e:Expr}{te:TE}{g:TG}(he:PE X e te)(hg:PG X tg g)(hs:swapsWithSole [tg] e pos.line X.env=pure false:=by rfl)(hw:swappedStores [tg] e X.env=pure none:=by rfl)
 (h1:(assignEach [tg] X.env).map (·.2)=[assign tg X.env]:=by rfl):PS X (.Assign [tg] e pos) (eV te g):=by
 intro pins s σ H D I h;refine wpAny_Assign_stores (thn (he pins s σ H _ I h) λv s1 ⟨x,H1,I1,r1,q1⟩=>?_) hs hw;rw[h1];exact thn (hg pins s1 σ H1 x v _ I1 r1 q1) λ_ s2 q=>q
theorem am{i:Nat}{x:Str}{e:Expr}{te:TE}{pos':Pos}(hN:X.N.Nodup)(hi:X.N[i]?=some x)(hx:Loc X.env.scope x)(he:PE X e te)(hs:swapsWith e (some (.Name x pos')) pos.line X.env=pure false:=by rfl)(hf:X.fn x=true\/X.env.scope.names.lookup x=some .local:=by first |exact .inl rfl |exact .inr rfl |assumption) :
 PS X (.Assign [.Name x pos'] e pos) (eV te (dS i)):=by
 intro pins s σ H D I h;refine wpAny_Assign_Name (thn (he pins s σ H _ I h) λv s1 ⟨y,H1,I1,r1,q1⟩=>?_) hs;exact pQ I1 hN hi hx r1 (λs2 I2=>⟨_,H1,I2,q1⟩) hf
end
section
variable {X:Cx}{pos:Pos}
def wE(c:TT)(tb:TS):TS:=λD σ H=>∃W:Nat->St->Hp->Prop,(∃m,W m σ H)/\∀m σ H,W m σ H ->
 c σ H λb H1=>if b=true then ∃N:St->Hp->Prop,(∀σ' H',N σ' H'->∃m',m'<m/\W m' σ' H')/\tb { D with nx:=N,ct:=N,bk:=D.nx } σ H1 else D.nx σ H1
theorem gF{c:Expr}{body:List Stmt}{tc:TT}{tb:TS}(hp:PassesOwn (model X.prog X.w) X.A X.env X.xe)(hc:PT X c tc)(hb:PSs X body tb):PS X (.While c body [] pos) (wE tc tb):=by
 intro pins s σ H D I h;obtain⟨W,⟨m0,w0⟩,turn⟩:=h;refine wpAny_While (codeAny_whileLoop (λn s'=>∃σ' H',Inv X pins σ' H' s'/\W n σ' H') ?_ m0 ⟨σ,H,I,w0⟩);rintro n s1 ⟨σ1,H1,I1,w1⟩;refine wpAny_passesOwn hp (thn (hc pins s1 σ1 H1 _ I1 (turn n σ1 H1 w1)) λb s2 ⟨H2,I2,q2⟩=>?_);cases b with
 |true =>
  obtain⟨N,hN,q2⟩:=q2;rw[if_pos rfl];refine wpAny_passesOwn hp (thn (hb pins s2 σ1 H2 _ I2 q2) λf s3 q3=>?_);cases f with
  |next =>obtain⟨σ3,H3,I3,n3⟩:=q3;obtain⟨m',hm,w3⟩:=hN σ3 H3 n3;exact⟨m',hm,σ3,H3,I3,w3⟩
  |cont =>obtain⟨σ3,H3,I3,n3⟩:=q3;obtain⟨m',hm,w3⟩:=hN σ3 H3 n3;exact⟨m',hm,σ3,H3,I3,w3⟩
  |brk=>exact q3
  |ret v=>exact q3
 |false =>rw[if_neg Ir];exact wpAny_execs_nil ⟨σ1,H2,I2,q2⟩
end
structure It where
 go:Nat->Hp->Prop
 yld:Nat->Hp->V->Hp->Prop
 stop:Nat->Hp->Prop
noncomputable def dI(X:Cx)(pins:List (Addr×Obj))(H:Hp)(b:Addr):Prop :=
 H b=none/\b≠X.env.locals/\b∉X.fs/\(b∈X.ex\/X.s₀.heap.objs.size<=b)/\(∀x c,X.env.cells.lookup x=some c->c≠b)/\∀p∈X.pn++pins,p.1≠b
theorem Inv.fpOk{X:Cx}{pins:List (Addr×Obj)}{σ:St}{H H':Hp}{s:Shared}{b:Addr}(I:Inv X pins σ H s)(hb:s.heap.objs.size<=b)(hn:H' b=none):dI X pins H' b:=by
 refine⟨hn,Nat.ne_of_gt (HQ I.lt hb),I.nofs hb,.inr (HH I.sz hb),λx c e z=>?_,λp hp z=>?_⟩
 ·obtain⟨v,q⟩:=I.cell x c e;exact absurd (HQ q.lt (by rw[z];exact hb)) (Ik _)
 ·exact absurd (HQ (Heap.lt_size (I.pin p hp).1) (by rw[z];exact hb)) (Ik _)
structure Turn(P:Program)(w:World)(K:PySem.W.Frag)(tg:Expr)(J:It)(fp:List Addr)(it:Addr)(tn:Nat->Heap->Prop):Prop where
 mem:it∈fp
 obj:∀i h,tn i h->∀b∈fp,∃o,h.get? b=some o/\∀v,o.data≠.cell v
 keep:∀i h h',tn i h->(∀b∈fp,∀o,h.get? b=some o->h'.get? b=some o)->tn i h'
 item:∀(X:Cx),X.prog=P->X.w=w->X.K=K->X.calm=true->∀(i:Nat) (pins:List (Addr×Obj)) (s:Shared) (σ:St) (H:Hp) (E:Value->Shared->Prop),Inv X pins σ H s->(∀b∈fp,dI X pins H b)->tn i s.heap->J.go i H ->
  wpAny (model P w) X.A (pyNext (.ref it)) (λr s1=>∃u,r=some u /\
   wpAny (model P w) X.A (letOwnedTupleGo tg (.ref it) u) (λ_ s2=>∃x H',Inv X pins σ H' s2/\RelV x u/\J.yld i H x H'/\tn (i+1) s2.heap/\∀b∈fp,H' b=none) E s1) E s
 done:∀(X:Cx),X.prog=P->X.w=w->X.K=K->X.calm=true->∀(i:Nat) (pins:List (Addr×Obj)) (s:Shared) (σ:St) (H:Hp) (E:Value->Shared->Prop),Inv X pins σ H s->(∀b∈fp,dI X pins H b)->tn i s.heap->J.stop i H ->
  wpAny (model P w) X.A (pyNext (.ref it)) (λr s1=>r=none/\Inv X pins σ H s1) E s
 self:∀(A:Around) (i:Nat) (s:Shared) (Q:Value->Shared->Prop) (E:Value->Shared->Prop),tn i s.heap->Q (.ref it) s->wpAny (model P w) A (pyIter (.ref it)) Q E s
abbrev TI:=St->Hp->(It->Hp->Prop)->Prop
noncomputable def PIE(X:Cx)(pins:List (Addr×Obj))(σ:St)(tg:Expr)(R:It->Hp->Prop)(itv:Value)(s2:Shared):Prop :=
 ∃(it:Addr) (fp:List Addr) (tn:Nat->Heap->Prop) (J:It) (H':Hp),itv=.ref it/\Inv X pins σ H' s2/\Turn X.prog X.w X.K tg J fp it tn/\tn 0 s2.heap/\(∀b∈fp,dI X pins H' b)/\R J H'
noncomputable def PI(X:Cx)(tg iter:Expr)(wi:TI):Prop :=
 ∀(pins:List (Addr×Obj)) (s:Shared) (σ:St) (H:Hp) (R:It->Hp->Prop),Inv X pins σ H s->wi σ H R ->
  wpAny (model X.prog X.w) X.A (eval iter X.env) (λv s1=>wpAny (model X.prog X.w) X.A (pyIter v) (PIE X pins σ tg R) X.xe s1) X.xe s
theorem jQ{M:Model}{A:Around}{E:Value->Shared->Prop}{s:Shared}{tg:Expr}{it:Addr}{u:Value}{o:Obj}{n:String}{vs:Array Value}{Q:Unit->Shared->Prop}(ho:s.heap.get? it=some o)(hc:o.cls=.type n)(hd:o.data=.fields vs)
 (hn:["enumerate","zip","dict_itemiterator","dict_reverseitemiterator","odict_iterator","itertools.zip_longest","itertools.pairwise"].contains n=false) (hQ:Q () s):wpAny M A (letOwnedTupleGo tg (.ref it) u) Q E s:=by
 unfold letOwnedTupleGo
 cases tg<;>first
  |exact wpAny_pure hQ
  | (cases u<;>first
      |exact wpAny_pure hQ
      | (refine wpAny_bind (wpAny_load ho ?_)
         rw[hc,hd];show wpAny M A (if(["enumerate","zip","dict_itemiterator","dict_reverseitemiterator","odict_iterator","itertools.zip_longest","itertools.pairwise"].contains n&&vs[0]? == some (rawInt _))=true then _ else _) Q E s;rw[if_neg (by intro h;rw[hn,Bool.false_and]at h;cases h)]
         exact wpAny_pure hQ))
noncomputable def Itl(K:PySem.W.Frag)(a:Addr):It :=
 ⟨λi H=>∃xs x,SqL K H a xs/\xs[i]?=some x,λi H x H'=>H'=H/\∀xs,SqL K H a xs->xs[i]?=some x,λi H=>∃xs,SqL K H a xs/\xs.length<=i⟩
noncomputable def Itr(lo:Int)(n:Nat):It:=⟨λi _=>i<n,λi H x H'=>H'=H/\x=.int (lo+i),λi _=>n<=i⟩
theorem wq{P:Program}{w:World}{K:PySem.W.Frag}{tg:Expr}(a it:Addr):Turn P w K tg (Itl K a) [it] it (λi h=>h.IsListIter it a i) where
 mem:=by simp
 obj:=λi h st b hb=>by
  have e:b=it:=by simpa using hb
  subst e;obtain⟨o,e,c,d⟩:=st;exact⟨o,e,λv z=>by rw[d]at z;cases z⟩
 keep:=λi h h' st k=>st.at λo e=>k it (by simp) o e
 item:=by
  intro X hP hw hK hc i pins s σ H E I hf st hg;subst hP hw hK;obtain⟨xs,x,hq,hx⟩:=hg;obtain⟨its,rv,p,hz⟩:=I.list hq;obtain⟨u,hu,ru⟩:=rv.get hx;obtain⟨f0,f1,f2,f3,f4,f5⟩:=hf it (by simp);refine wpAny_pyNext_list_item st p.isList (x:=u) (by simpa using hu) λh' st' sb=>?_
  have I1:Inv X pins σ H { s with heap:=h' }:=I.turned (t':=s.toks) (λb o hb e=>(sb.2 b hb).trans e) f0 f1 f3 f4 f5;obtain⟨o,e,c,d⟩:=id st';exact⟨u,rfl,jQ (s:={ s with heap:=h' }) e c d (by decide) ⟨x,H,I1,ru,⟨rfl,λys hy=>by rw[I.list_inj hy hq];exact hx⟩,st',λb hb=>(hf b hb).1⟩⟩
 done:=by intro X hP hw hK hc i pins s σ H E I hf st hg;subst hP hw hK;obtain⟨xs,hq,hx⟩:=hg;obtain⟨its,rv,p,hz⟩:=I.list hq;obtain⟨f0,f1,f2,f3,f4,f5⟩:=hf it (by simp);have hl:=rv.length;exact wpAny_pyNext_list_end (I.ok.hd hc) st p.isList (by simp;omega) λh' eb=>⟨rfl,I.turned (t':=s.toks) (λb o hb e=>eb b o hb e) f0 f1 f3 f4 f5⟩
 self:=λ_ _ _ _ _ st h=>wpAny_pyIter_listiter st h
theorem wo{P:Program}{w:World}{K:PySem.W.Frag}{tg:Expr}(it:Addr)(lo:Int)(n:Nat):Turn P w K tg (Itr lo n) [it] it (λi h=>IsRangeIter h it (lo+(i:Nat)*1) ((n:Int)-(i:Nat)) 1) where
 mem:=by simp
 obj:=λi h st b hb=>by
  have e:b=it:=by simpa using hb
  subst e
  exact⟨_,st,λv z=>by
   have z':Data.fields _=Data.cell v:=z
   cases z'⟩
 keep:=λi h h' st k=>k it (by simp) _ st
 item:=by
  intro X hP hw hK hc i pins s σ H E I hf st hg;subst hP hw hK;obtain⟨f0,f1,f2,f3,f4,f5⟩:=hf it (by simp);have W:=Walks.range (prog:=X.prog) (w:=X.w) (I.ok.hd hc) it lo 1 n;refine W.item i s _ _ hg st λv h' tk hv st' kk=>?_
  obtain⟨t,rfl⟩:=hv;have I1:Inv X pins σ H { s with heap:=h',toks:=tk }:=I.turned (λb o hb e=>kk b o (by simpa using hb) e) f0 f1 f3 f4 f5;refine⟨_,rfl,jQ (s:={ s with heap:=h',toks:=tk }) (n:="range_iterator") st' rfl rfl (by decide) ⟨.int (lo+i),H,I1,⟨t,?_⟩,⟨rfl,rfl⟩,st',λb hb=>(hf b hb).1⟩⟩;rw[Il]
 done:=by intro X hP hw hK hc i pins s σ H E I hf st hg;subst hP hw hK;obtain⟨f0,f1,f2,f3,f4,f5⟩:=hf it (by simp);exact wpAny_pyNext_range_end (I.ok.hd hc) st (by have:n<=i:=hg;omega) λh' eb=>⟨rfl,I.turned (t':=s.toks) (λb o hb e=>eb b o hb e) f0 f1 f3 f4 f5⟩
 self:=λ_ _ _ _ _ st h=>wpAny_pyIter_rangeiter st h
section
variable {X:Cx}{tg:Expr}
def ud(K:PySem.W.Frag)(tl:TE):TI:=λσ H R=>tl σ H λx H1=>∃a,x=.ref a/\(∃xs,SqL K H1 a xs)/\R (Itl K a) H1
theorem yR{l:Expr}{tl:TE}(hl:PE X l tl):PI X tg l (ud X.K tl):=by
 intro pins s σ H R I h;refine thn (hl pins s σ H _ I h) λv s1 ⟨x,H1,I1,r1,q1⟩=>?_
 obtain⟨a,e,⟨xs,hq⟩,q⟩:=q1;subst e;cases r1;obtain⟨its,rv,p,hz⟩:=I1.list hq;refine wpAny_pyIter_list p.isList ?_;refine⟨s1.heap.objs.size,[s1.heap.objs.size],_,_,H1,rfl,I1.kept (t':=s1.toks) λb o e=>Heap.get?_push_of_some _ e,wq a _,⟨_,Heap.get?_push_size _ rfl,rfl,rfl⟩,λb hb=>?_,q⟩;have e:b=s1.heap.objs.size:=by simpa using hb
 subst e;exact I1.fpOk (Ht _) (I1.hok.fresh (Ht _))
theorem rz{pins:List (Addr×Obj)}{σ:St}{H:Hp}{s:Shared}{R:It->Hp->Prop}{E:Value->Shared->Prop}{lo hi:Int}{t u v:Tok}{tk:Nat}(I:Inv X pins σ H s)(h1 : -(2^62)<=lo)(h2:lo<2^62)(h3 : -(2^62)<=hi)(h4:hi<2^62)
 (q:R (Itr lo (hi-lo).toNat) H):wpAny (model X.prog X.w) X.A (pyIter (.ref s.heap.objs.size)) (PIE X pins σ tg R) E { s with heap:=s.heap.push { cls:=.type "range",data:=.fields #[.int lo t,.int hi u,.int 1 v] },toks:=tk }:=by
 refine wpAny_pyIter_range (IsRange.new ..) (small_one h1 h2 h3 h4) ?_;have I1:Inv X pins σ H { s with heap:=s.heap.push { cls:=.type "range",data:=.fields #[.int lo t,.int hi u,.int 1 v] },toks:=tk }:=I.kept λb o e=>Heap.get?_push_of_some _ e
 refine⟨(s.heap.push { cls:=.type "range",data:=.fields #[.int lo t,.int hi u,.int 1 v] }).objs.size,[(s.heap.push { cls:=.type "range",data:=.fields #[.int lo t,.int hi u,.int 1 v] }).objs.size],_,_,H,rfl,
  I1.kept (t':=tk) λb o e=>Heap.get?_push_of_some _ e,wo _ lo (hi-lo).toNat,?_,λb hb=>?_,q⟩
 ·have e1:lo+((0:Nat):Int)*1=lo:=by simp
  have e2:(((hi-lo).toNat:Nat):Int)-((0:Nat):Int)=Builtin.Range.rangeSize lo hi 1:=by rw[rangeSize_one];split<;>omega
  show IsRangeIter _ _ (lo+((0:Nat):Int)*1) ((((hi-lo).toNat:Nat):Int)-((0:Nat):Int)) 1;rw[e1,e2];exact Heap.get?_push_size _ rfl
 ·have e:b=(s.heap.push { cls:=.type "range",data:=.fields #[.int lo t,.int hi u,.int 1 v] }).objs.size:=by simpa using hb
  subst e;exact I1.fpOk (Ht _) (I1.hok.fresh (Ht _))
def Cj(ta:TA):TI:=λσ H R=>ta σ H λvs H1=>∃j:Int,vs=[.int j] /\ -(2^62)<=j/\j<2^62/\R (Itr 0 j.toNat) H1
def Ci(ta:TA):TI:=λσ H R=>ta σ H λvs H1=>∃i j:Int,vs=[.int i,.int j]/\(-(2^62)<=i/\i<2^62 /\ -(2^62)<=j/\j<2^62)/\R (Itr i (j-i).toNat) H1
theorem dr{a:Expr}{ta:TA}{p pos:Pos}(hg:Gl X "range")(hm:X.mg "range"=none)(ha:PA X [a] ta)(hs:starEach [a] X.env=[(false,eval a X.env)]:=by rfl):PI X tg (.Call (.Name "range" p) [a] [] pos) (Cj ta):=by
 intro pins s σ H R I h;refine Call_ (fi I hg hm boot_range (PyProof.Rows.callWith_type1 (thn (ha pos pins s σ H _ I h) λus s1 ⟨vs,H1,I1,r1,q1⟩=>?_) hs rfl));obtain⟨j,e,q1,q2,q⟩:=q1;subst e;cases r1 with
 |cons r rr =>cases rr;obtain⟨t,rfl⟩:=r;exact call_range_1 (rz I1 (by omega) (by omega) q1 q2 (by simpa using q))
theorem yQ{a b:Expr}{ta:TA}{p pos:Pos}(hg:Gl X "range")(hm:X.mg "range"=none)(ha:PA X [a,b] ta)(hs:starEach [a,b] X.env=[(false,eval a X.env),(false,eval b X.env)]:=by rfl)(hs2:starEach [b] X.env=[(false,eval b X.env)]:=by rfl) :
 PI X tg (.Call (.Name "range" p) [a,b] [] pos) (Ci ta):=by
 intro pins s σ H R I h;refine Call_ (fi I hg hm boot_range (PyProof.Rows.callWith_type1 (thn (ha pos pins s σ H _ I h) λus s1 ⟨vs,H1,I1,r1,q1⟩=>?_) (by rw[hs,hs2]) (by rw[hs2];rfl)));obtain⟨i,j,e,⟨q1,q2,q3,q4⟩,q⟩:=q1;subst e;cases r1 with
 |cons r rr =>
  cases rr with
  |cons r' rr =>cases rr;obtain⟨t,rfl⟩:=r;obtain⟨t',rfl⟩:=r';exact call_range_2 (rz I1 q1 q2 q3 q4 q)
def pI(wi:TI)(g:TG)(tb:TS):TS:=λD σ H=>wi σ H λJ H1=>∃W:Nat->Nat->St->Hp->Prop,(∃m,W 0 m σ H1)/\∀i m σ H,W i m σ H ->
 (J.stop i H/\D.nx σ H)\/(J.go i H/\∃N:St->Hp->Prop,(∀σ' H',N σ' H'->∃m',m'<m/\W (i+1) m' σ' H')/\∀x H',J.yld i H x H'->g x σ H' λσ2 H2=>tb { D with nx:=N,ct:=N,bk:=D.nx } σ2 H2)
noncomputable def jG(fp:List Addr)(h:Heap):List (Addr×Obj):=fp.filterMap λb=>(h.get? b).map λo=>(b,o)
theorem fI{fp:List Addr}{h:Heap}{b:Addr}{o:Obj}(hb:b∈fp)(e:h.get? b=some o):(b,o)∈jG fp h:=List.mem_filterMap.mpr ⟨b,hb,by rw[e];rfl⟩
theorem Aj{fp:List Addr}{h:Heap}{p:Addr×Obj}(hp:p∈jG fp h):p.1∈fp/\h.get? p.1=some p.2:=by
 obtain⟨b,hb,e⟩:=List.mem_filterMap.mp hp;cases q:h.get? b with
 |none=>rw[q]at e;cases e
 |some o =>rw[q]at e;have e':(b,o)=p:=Option.some.inj e;subst e';exact⟨hb,q⟩
theorem Inv.pinned{pins:List (Addr×Obj)}{σ:St}{H:Hp}{s:Shared}{fp:List Addr}(I:Inv X pins σ H s)(hf:∀b∈fp,dI X pins H b)(ho:∀b∈fp,∃o,s.heap.get? b=some o/\∀v,o.data≠.cell v):Inv X (pins++jG fp s.heap) σ H s :=
 I.pins_of λp hp=>(HP.mp hp).elim (λz=>I.pin p (HJ _ z)) λz=>by obtain⟨hb,e⟩:=Aj z;obtain⟨f0,f1,f2,_⟩:=hf p.1 hb;obtain⟨o,e',d⟩:=ho p.1 hb;rw[e]at e';cases e';exact⟨e,f0,f1,f2,d⟩
theorem Inv.unpinned{pins pl:List (Addr×Obj)}{σ:St}{H:Hp}{s:Shared}(I:Inv X (pins++pl) σ H s):Inv X pins σ H s:=I.pins_of λp hp=>I.pin p (HJ _ (IF _ hp))
theorem bW{iter:Expr}{body:List Stmt}{wi:TI}{g:TG}{tb:TS}{pos:Pos}(hp:PassesOwn (model X.prog X.w) X.A X.env X.xe)(hc:X.calm=true)(hi:PI X tg iter wi)(hg:PG X tg g)(hb:PSs X body tb)
 (hs:∀x,foldedSetIterable iter X.env x=pure x:=by intro _;rfl):PS X (.For tg iter body [] pos) (pI wi g tb):=by
 intro pins s σ H D I h;refine wpAny_For (thn (hi pins s σ H _ I h) λv s1 h1=>thn h1 λitv s2 h2=>?_) hs;obtain⟨it,fp,tn,J,H2,e,I2,T,st2,f2,W,⟨m0,w0⟩,turn⟩:=h2;subst e;have stat:∀{H':Hp},(∀b∈fp,H' b=none)->∀b∈fp,dI X pins H' b:=λhn b hb=>⟨hn b hb,(f2 b hb).2⟩
 refine codeAny_forLoop_any (λn s'=>∃i σ' H',Inv X pins σ' H' s'/\tn i s'.heap/\(∀b∈fp,H' b=none)/\W i n σ' H') ?_ m0 ⟨0,σ,H2,I2,st2,λb hb=>(f2 b hb).1,w0⟩;rintro n s3 ⟨i,σ3,H3,I3,st3,fr3,w3⟩;rcases turn i n σ3 H3 w3 with⟨stop,qn⟩ |⟨go,N,hN,step⟩
 ·refine wpAny_passesOwn hp (thn (T.done X rfl rfl rfl hc i pins s3 σ3 H3 X.xe I3 (stat fr3) st3 stop) λr s4 ⟨hr,I4⟩=>?_);subst hr;exact wpAny_execs_nil ⟨σ3,H3,I4,qn⟩
 ·refine wpAny_passesOwn hp (thn (T.item X rfl rfl rfl hc i pins s3 σ3 H3 X.xe I3 (stat fr3) st3 go) λr s4 ⟨u,hr,h4⟩=>?_);subst hr;refine wpAny_passesOwn hp (thn h4 λ_ s5 ⟨x,H5,I5,r5,y5,st5,fr5⟩=>?_);have I5':=I5.pinned (stat fr5) (T.obj _ _ st5);refine wpAny_passesOwn hp (thn (hg _ s5 σ3 H5 x u _ I5' r5 (step x H5 y5)) λ_ s6 ⟨σ6,H6,I6,q6⟩=>?_);refine wpAny_passesOwn hp (thn (hb _ s6 σ6 H6 _ I6 q6) λf s7 q7=>?_)
  have again:∀{σ7:St} {H7:Hp},Inv X (pins++jG fp s5.heap) σ7 H7 s7->N σ7 H7->∃m,m<n/\∃i σ' H',Inv X pins σ' H' s7/\tn i s7.heap/\(∀b∈fp,H' b=none)/\W i m σ' H':=λ{σ7 H7} I7 n7=>by obtain⟨m',hm,w7⟩:=hN σ7 H7 n7;refine⟨m',hm,i+1,σ7,H7,I7.unpinned,T.keep _ _ _ st5 λb hb o e=>(I7.pin (b,o) (HJ _ (HJ _ (fI hb e)))).1,λb hb=>?_,w7⟩;obtain⟨o,e,d⟩:=T.obj _ _ st5 b hb;exact(I7.pin (b,o) (HJ _ (HJ _ (fI hb e)))).2.1
  cases f with
  |next=>obtain⟨σ7,H7,I7,n7⟩:=q7;exact again I7 n7
  |cont=>obtain⟨σ7,H7,I7,n7⟩:=q7;exact again I7 n7
  |brk=>obtain⟨σ7,H7,I7,q7⟩:=q7;exact⟨σ7,H7,I7.unpinned,q7⟩
  |ret v=>obtain⟨x7,σ7,H7,I7,r7,q7⟩:=q7;exact⟨x7,σ7,H7,I7.unpinned,r7,q7⟩
end
theorem fL{K:PySem.W.Frag}{a:Addr}{xs:List V}{g:TG}{tb:TS}{D:Ends}{σ:St}{H:Hp}(Pv:Nat->St->Hp->Prop)(h0:Pv 0 σ H)(hl:∀i σ H,i<=xs.length->Pv i σ H->SqL K H a xs)
 (hs:∀i x σ H,xs[i]?=some x->Pv i σ H->g x σ H λσ2 H2=>tb { D with nx:=Pv (i+1),ct:=Pv (i+1),bk:=D.nx } σ2 H2) (hd:∀σ H,Pv xs.length σ H->D.nx σ H) :
 ∃W:Nat->Nat->St->Hp->Prop,(∃m,W 0 m σ H)/\∀i m σ H,W i m σ H ->
  ((Itl K a).stop i H/\D.nx σ H)\/((Itl K a).go i H/\∃N:St->Hp->Prop,(∀σ' H',N σ' H'->∃m',m'<m/\W (i+1) m' σ' H')/\∀x H',(Itl K a).yld i H x H'->g x σ H' λσ2 H2=>tb { D with nx:=N,ct:=N,bk:=D.nx } σ2 H2):=by
 refine⟨λi m σ H=>m=xs.length-i/\i<=xs.length/\Pv i σ H,⟨xs.length,by simp,Hy _,h0⟩,?_⟩;rintro i m σ H ⟨rfl,hi,p⟩;have q:=hl i σ H hi p;by_cases hlt:i<xs.length
 ·refine .inr ⟨⟨xs,xs[i],q,by simp[hlt]⟩,Pv (i+1),λσ' H' p'=>⟨xs.length-(i+1),by omega,rfl,hlt,p'⟩,λx H' y=>?_⟩;obtain⟨e,y⟩:=y;subst e;exact hs i x σ _ (y xs q) p
 ·have e:i=xs.length:=by omega
  subst e;exact .inl ⟨⟨xs,q,Ht _⟩,hd σ H p⟩
theorem ga{lo:Int}{n:Nat}{g:TG}{tb:TS}{D:Ends}{σ:St}{H:Hp}(Pv:Nat->St->Hp->Prop)(h0:Pv 0 σ H)
 (hs:∀i σ H,i<n->Pv i σ H->g (.int (lo+i)) σ H λσ2 H2=>tb { D with nx:=Pv (i+1),ct:=Pv (i+1),bk:=D.nx } σ2 H2) (hd:∀σ H,Pv n σ H->D.nx σ H) :
 ∃W:Nat->Nat->St->Hp->Prop,(∃m,W 0 m σ H)/\∀i m σ H,W i m σ H ->
  ((Itr lo n).stop i H/\D.nx σ H)\/((Itr lo n).go i H/\∃N:St->Hp->Prop,(∀σ' H',N σ' H'->∃m',m'<m/\W (i+1) m' σ' H')/\∀x H',(Itr lo n).yld i H x H'->g x σ H' λσ2 H2=>tb { D with nx:=N,ct:=N,bk:=D.nx } σ2 H2):=by
 refine⟨λi m σ H=>m=n-i/\i<=n/\Pv i σ H,⟨n,by simp,Hy _,h0⟩,?_⟩;rintro i m σ H ⟨rfl,hi,p⟩;by_cases hlt:i<n
 ·refine .inr ⟨hlt,Pv (i+1),λσ' H' p'=>⟨n-(i+1),by omega,rfl,hlt,p'⟩,λx H' y=>?_⟩;obtain⟨e,y⟩:=y;subst e y;exact hs i σ _ hlt p
 ·have e:i=n:=by omega
  subst e;exact .inl ⟨Ht _,hd σ H p⟩
abbrev R2:=V->V->Hp->VK->Prop
noncomputable def OpR(X:Cx)(f:Value->Value->Sem Value)(r:R2):Prop :=
 ∀(pins:List (Addr×Obj)) (s:Shared) (σ:St) (H:Hp) (x y:V) (v u:Value) (Q:VK),Inv X pins σ H s->RelV x v->RelV y u->r x y H Q ->
  wpAny (model X.prog X.w) X.A (f v u) (EP X pins σ Q) X.xe s
noncomputable def UnR(X:Cx)(f:Value->Sem Value)(r:V->Hp->VK->Prop):Prop :=
 ∀(pins:List (Addr×Obj)) (s:Shared) (σ:St) (H:Hp) (x:V) (v:Value) (Q:VK),Inv X pins σ H s->RelV x v->r x H Q ->
  wpAny (model X.prog X.w) X.A (f v) (EP X pins σ Q) X.xe s
noncomputable def CallR(X:Cx)(f:Value)(r:List V->Hp->VK->Prop):Prop :=
 ∀(pins:List (Addr×Obj)) (s:Shared) (σ:St) (H:Hp) (xs:List V) (us:List Value) (Q:VK),Inv X pins σ H s->Vals xs us->r xs H Q ->
  wpAny (model X.prog X.w) X.A (call f us) (EP X pins σ Q) X.xe s
noncomputable def EE(X:Cx)(r:V->Hp->(Bool->Hp->Prop)->Prop):Prop :=
 ∀(pins:List (Addr×Obj)) (s:Shared) (σ:St) (H:Hp) (x:V) (v:Value) (Q:Bool->Hp->Prop),Inv X pins σ H s->RelV x v->r x H Q ->
  wpAny (model X.prog X.w) X.A (truthy v) (TP X pins σ Q) X.xe s
def tOp(r:R2)(ta tb:TE):TE:=λσ H Q=>ta σ H λx H1=>tb σ H1 λy H2=>r x y H2 Q
def tUn(r:V->Hp->VK->Prop)(ta:TE):TE:=λσ H Q=>ta σ H λx H1=>r x H1 Q
def rI(C:Int->Int->Prop)(g:Int->Int->V):R2:=λx y H Q=>∃i j,x=.int i/\y=.int j/\C i j/\Q (g i j) H
def rI0(g:Int->Int->V):R2:=λx y H Q=>∃i j,x=.int i/\y=.int j/\Q (g i j) H
noncomputable def rU(g:Int->V):V->Hp->VK->Prop:=λx H Q=>∃i,x=.int i/\Q (g i) H
section
variable {X:Cx}{a b c:Expr}{ta tb tc:TE}{pos:Pos}
theorem ou(ha:PE X a ta)(hb:PE X b tb){pins:List (Addr×Obj)}{s:Shared}{σ:St}{H:Hp}{R:V->V->Hp->Prop}(I:Inv X pins σ H s)
 (h:ta σ H λx H1=>tb σ H1 λy H2=>R x y H2) {Q:Value->Shared->Prop} {f:Value->Value->Sem Value}
 (hf:∀v u s2 x y H2,Inv X pins σ H2 s2->RelV x v->RelV y u->R x y H2->wpAny (model X.prog X.w) X.A (f v u) Q X.xe s2) :
 wpAny (model X.prog X.w) X.A (eval a X.env) (λv s₁=>wpAny (model X.prog X.w) X.A (eval b X.env) (λu s₂=>wpAny (model X.prog X.w) X.A (f v u) Q X.xe s₂) X.xe s₁) X.xe s:=by
 refine thn (ha pins s σ H _ I h) λv s1 ⟨x,H1,I1,r1,q1⟩=>?_
 refine thn (hb pins s1 σ H1 _ I1 q1) λu s2 ⟨y,H2,I2,r2,q2⟩=>?_
 exact hf v u s2 x y H2 I2 r1 r2 q2
theorem af{op:Operator}{r:R2}(ho:OpR X (binaryOp op) r)(ha:PE X a ta)(hb:PE X b tb):PE X (.BinOp a op b pos) (tOp r ta tb):=by intro pins s σ H Q I h;exact wpAny_BinOp (ou ha hb I h λv u s2 x y H2 I2 rx ry q=>ho pins s2 σ H2 x y v u Q I2 rx ry q)
theorem cV{op:UnaryOp}{r:V->Hp->VK->Prop}(ho:UnR X (unaryOp op) r)(ha:PE X a ta):PE X (.UnaryOp op a pos) (tUn r ta):=by intro pins s σ H Q I h;exact UnaryOp_ (thn (ha pins s σ H _ I h) λv s1 ⟨x,H1,I1,r1,q1⟩=>ho pins s1 σ H1 x v Q I1 r1 q1)
theorem opI{f:Value->Value->Sem Value}{C:Int->Int->Prop}{g:Int->Int->Int}
 (rule:∀(i j:Int) (t u:Tok) (s:Shared) (Q:Value->Shared->Prop) (E:Value->Shared->Prop),C i j->Q (.int (g i j) s.toks) { s with toks:=s.toks+1 }->wpAny (model X.prog X.w) X.A (f (.int i t) (.int j u)) Q E s) :
 OpR X f (rI C λi j=>.int (g i j)):=by
 intro pins s σ H x y v u Q I rx ry h;obtain⟨i,j,rfl,rfl,hc,q⟩:=h;obtain⟨t,rfl⟩:=rx;obtain⟨t',rfl⟩:=ry;exact rule i j t t' s _ _ hc ⟨.int (g i j),H,I.tok _,⟨_,rfl⟩,q⟩
theorem sj{f:Value->Value->Sem Value}{g:Int->Int->Int}
 (rule:∀(i j:Int) (t u:Tok) (s:Shared) (Q:Value->Shared->Prop) (E:Value->Shared->Prop),Q (.int (g i j) s.toks) { s with toks:=s.toks+1 }->wpAny (model X.prog X.w) X.A (f (.int i t) (.int j u)) Q E s) :
 OpR X f (rI0 λi j=>.int (g i j)):=by
 intro pins s σ H x y v u Q I rx ry h;obtain⟨i,j,rfl,rfl,q⟩:=h;obtain⟨t,rfl⟩:=rx;obtain⟨t',rfl⟩:=ry;exact rule i j t t' s _ _ ⟨.int (g i j),H,I.tok _,⟨_,rfl⟩,q⟩
theorem gJ{f:Value->Value->Sem Value}{g:Int->Int->Bool}
 (rule:∀(i j:Int) (t u:Tok) (s:Shared) (Q:Value->Shared->Prop) (E:Value->Shared->Prop),Q (.bool (g i j)) s->wpAny (model X.prog X.w) X.A (f (.int i t) (.int j u)) Q E s) :
 OpR X f (rI0 λi j=>.bl (g i j)):=by
 intro pins s σ H x y v u Q I rx ry h;obtain⟨i,j,rfl,rfl,q⟩:=h;obtain⟨t,rfl⟩:=rx;obtain⟨t',rfl⟩:=ry;exact rule i j t t' s _ _ ⟨.bl (g i j),H,I,rfl,q⟩
def CMul(i j:Int):Prop:=(-(2^64)<i/\i<2^64)\/(-(2^64)<j/\j<2^64)
theorem CMul.ok{i j:Int}(h:CMul i j):IntMulOk i j:=by
 rcases h with⟨h1,h2⟩ |⟨h1,h2⟩
 ·exact .of_left (intBits_le_64 h1 h2)
 ·exact .of_right (intBits_le_64 h1 h2)
theorem aT:OpR X (binaryOp .Add) (rI0 λi j=>.int (i+j)):=sj λ_ _ _ _ _ _ _ q=>add_int q
theorem aZ:OpR X (binaryOp .Sub) (rI0 λi j=>.int (i-j)):=sj λ_ _ _ _ _ _ _ q=>sub_int q
theorem eE:OpR X (binaryOp .Mult) (rI CMul λi j=>.int (i*j)):=opI λ_ _ _ _ _ _ _ hc q=>mul_int q hc.ok
theorem y8:OpR X (binaryOp .Mod) (rI (λ_ j=>0<j) λi j=>.int (i%j)):=opI λi j _ _ _ _ _ hc q=>by have h1:(0:Int)<j:=hc;exact mod_int' (by omega) (by rw[Int.fmod_eq_emod_of_nonneg i (by omega)];exact q)
theorem unI{f:Value->Sem Value}{g:Int->Int}
 (rule:∀(i:Int) (t:Tok) (s:Shared) (Q:Value->Shared->Prop) (E:Value->Shared->Prop),Q (.int (g i) s.toks) { s with toks:=s.toks+1 }->wpAny (model X.prog X.w) X.A (f (.int i t)) Q E s) :
 UnR X f (rU λi=>.int (g i)):=by
 intro pins s σ H x v Q I rx h;obtain⟨i,rfl,q⟩:=h;obtain⟨t,rfl⟩:=rx;exact rule i t s _ _ ⟨.int (g i),H,I.tok _,⟨_,rfl⟩,q⟩
theorem cR:UnR X (unaryOp .USub) (rU λi=>.int (-i)):=unI λ_ _ _ _ _ q=>neg_int q
end
noncomputable def xB:V->V->Bool
 |.non,.non=>true |.non,.int _=>true |.int _,.non=>true |.non,.bl _=>true |.bl _,.non=>true |.non,.str _=>true |.str _,.non=>true
 |.int _,.int _=>true |.bl _,.bl _=>true |.str _,.str _=>true |.byt _,.byt _=>true
 |.int _,.str _=>true |.str _,.int _=>true |.bl _,.str _=>true |.str _,.bl _=>true
 |_,_=>false
def rNe:R2:=λx y H Q=>xB x y=true/\Q (.bl (!decide (x=y))) H
theorem Dp{i j:Int}:decide (V.int i=V.int j)=(i == j):=by rw[II];simp
theorem Dr{i j:Bool}:decide (V.bl i=V.bl j)=(i == j):=by rw[II];simp
theorem Do{i j:Str}:decide (V.str i=V.str j)=(i == j):=by rw[II];simp
theorem Dq{i j:Array UInt8}:decide (V.byt i=V.byt j)=(i.toList == j.toList):=by rw[II];cases i;cases j;simp
section
variable {X:Cx}{a b c:Expr}{ta tb tc:TE}{pos:Pos}
theorem cP{pins:List (Addr×Obj)}{σ:St}{H:Hp}{s:Shared}{Q:VK}{k k':Bool}(I:Inv X pins σ H s)(q:Q (.bl k) H)(e:k=k'):EP X pins σ Q (.bool k') s:=by subst e;exact⟨.bl k,H,I,rfl,q⟩
theorem y7:OpR X (compareOp .NotEq) rNe:=by
 intro pins s σ H x y v u Q I rx ry h;obtain⟨hs,q⟩:=h;cases x with
 |non =>
  cases rx;cases y with
  |non=>cases ry;exact PySem.EqNone.ne_none_none (cP I q (by simp))
  |bl j=>cases ry;exact PySem.EqNone.ne_none_bool (cP I q (by simp))
  |int j=>obtain⟨t',rfl⟩:=ry;exact PySem.EqNone.ne_none_int (cP I q (by simp))
  |str j=>obtain⟨t',rfl⟩:=ry;exact PySem.EqNone.ne_none_str (cP I q (by simp))
  |_=>exact absurd (show false=true from hs) Ir
 |bl i =>
  cases rx;cases y with
  |non=>cases ry;exact PySem.EqNone.ne_bool_none (cP I q (by simp))
  |bl j=>cases ry;exact ne_bool (cP I q (congrArg not Dr))
  |str j=>obtain⟨t',rfl⟩:=ry;exact PySem.EqMixed.ne_bool_str (cP I q (by simp))
  |_=>exact absurd (show false=true from hs) Ir
 |int i =>
  obtain⟨t,rfl⟩:=rx;cases y with
  |non=>cases ry;exact PySem.EqNone.ne_int_none (cP I q (by simp))
  |int j=>obtain⟨t',rfl⟩:=ry;exact ne_int (cP I q (congrArg not Dp))
  |str j=>obtain⟨t',rfl⟩:=ry;exact PySem.EqMixed.ne_int_str (cP I q (by simp))
  |_=>exact absurd (show false=true from hs) Ir
 |str i =>
  obtain⟨t,rfl⟩:=rx;cases y with
  |non=>cases ry;exact PySem.EqNone.ne_str_none (cP I q (by simp))
  |bl j=>cases ry;exact PySem.EqMixed.ne_str_bool (cP I q (by simp))
  |int j=>obtain⟨t',rfl⟩:=ry;exact PySem.EqMixed.ne_str_int (cP I q (by simp))
  |str j=>obtain⟨t',rfl⟩:=ry;exact ne_str (cP I q (congrArg not Do))
  |_=>exact absurd (show false=true from hs) Ir
 |byt i =>
  obtain⟨t,rfl⟩:=rx;cases y with
  |byt j=>obtain⟨t',rfl⟩:=ry;exact PySem.W.ne_bytes (cP I q (congrArg not Dq))
  |_=>exact absurd (show false=true from hs) Ir
 |_=>cases y<;>exact absurd (show false=true from hs) Ir
theorem dw:OpR X (compareOp .Lt) (rI0 λi j=>.bl (decide (i<j))):=gJ λ_ _ _ _ _ _ _ q=>lt_int q
theorem gI:OpR X (compareOp .LtE) (rI0 λi j=>.bl (decide (i<=j))):=gJ λ_ _ _ _ _ _ _ q=>le_int q
theorem cM:OpR X (compareOp .Gt) (rI0 λi j=>.bl (decide (j<i))):=gJ λ_ _ _ _ _ _ _ q=>gt_int q
theorem za:OpR X (compareOp .GtE) (rI0 λi j=>.bl (decide (j<=i))):=gJ λ_ _ _ _ _ _ _ q=>ge_int q
theorem OpR.or{f:Value->Value->Sem Value}{r r':R2}(h:OpR X f r)(h':OpR X f r'):OpR X f (λx y H Q=>r x y H Q\/r' x y H Q):=by
 intro pins s σ H x y v u Q I rx ry q;rcases q with q |q
 ·exact h pins s σ H x y v u Q I rx ry q
 ·exact h' pins s σ H x y v u Q I rx ry q
theorem av(b:Expr){op:CmpOp}(h:op≠.In:=by decide)(h2:op≠.NotIn:=by decide):behindInMarks op b=false:=by
 have e1:(op == CmpOp.In)=false:=by cases op<;>first |rfl |exact absurd rfl h
 have e2:(op == CmpOp.NotIn)=false:=by cases op<;>first |rfl |exact absurd rfl h2
 cases b<;>simp[behindInMarks,e1,e2]
theorem da{op:CmpOp}{r:R2}(ho:OpR X (compareOp op) r)(ha:PE X a ta)(hb:PE X b tb)(hm:behindInMarks op b=false):PE X (.Compare a [op] [b] pos) (tOp r ta tb):=by intro pins s σ H Q I h;exact wpAny_Compare1 (ou ha hb I h λv u s2 x y H2 I2 rx ry q=>ho pins s2 σ H2 x y v u Q I2 rx ry q) hm
def dk(t:TE):TT:=λσ H Q=>t σ H λx H'=>∃k,x=.bl k/\Q k H'
theorem aD{op:CmpOp}{r:R2}(ho:OpR X (compareOp op) r)(ha:PE X a ta)(hb:PE X b tb)(hm:behindInMarks op b=false):PT X (.Compare a [op] [b] pos) (dk (tOp r ta tb)):=by
 intro pins s σ H Q I h
 refine wpAny_isTrue_Compare1 (thn (ha pins s σ H _ I h) λv s1 ⟨x,H1,I1,r1,q1⟩=>thn (hb pins s1 σ H1 _ I1 q1) λu s2 ⟨y,H2,I2,r2,q2⟩ =>thn (ho pins s2 σ H2 x y v u _ I2 r1 r2 q2) λc s3 ⟨z,H3,I3,r3,k,e,q3⟩=>?_) hm
 subst e;cases r3;exact wpAny_truthy_bool ⟨H3,I3,q3⟩
noncomputable def vM(K:PySem.W.Frag)(x:V)(H:Hp)(k:Bool):Prop :=
 match x with
 |.non=>k=false
 |.bl b=>k=b
 |.int i=>k=(i != 0)
 |.str y=>y.length<=sizeLine/\k=((y.length:Int) != 0)
 |.byt y=>y.size<=sizeLine/\k=((y.size:Int) != 0)
 |.ref p=>(∃xs,SqL K H p xs/\k=!xs.isEmpty)\/(∃xs,SqT K H p xs/\k=!xs.isEmpty)\/∃kvs,H p=some (.dK kvs)/\k=!kvs.isEmpty
 |_=>False
theorem Cf{κ:Type}{kvs:List (κ×V)}{vs:List (κ×Value)}(r:KV kvs vs):(!vs.isEmpty)=!kvs.isEmpty:=by cases r<;>rfl
theorem ua{xs:List V}{its:List Value}(r:Vals xs its):(!its.toArray.isEmpty)=!xs.isEmpty:=by cases r<;>simp
theorem iF:(sizeLine:Nat)<2^63:=by rw[sizeLine_eq];decide
theorem wu:EE X (λx H Q=>∃k,vM X.K x H k/\Q k H):=by
 intro pins s σ H x v Q I rx h;obtain⟨k,e,q⟩:=h;have hl:=iF;have hs:sizeLine=16777216:=sizeLine_eq;cases x with
 |non =>cases rx;have e':k=false:=e;subst e';exact truthy_none ⟨H,I,q⟩
 |bl b =>cases rx;have e':k=b:=e;subst e';exact wpAny_truthy_bool ⟨H,I,q⟩
 |int i =>obtain⟨t,rfl⟩:=rx;have e':k=(i != 0):=e;subst e';exact PySem.P.truthy_int ⟨H,I,q⟩
 |str y =>obtain⟨t,rfl⟩:=rx;obtain⟨hy,e'⟩:y.length<=sizeLine/\k=((y.length:Int) != 0):=e;subst e';exact PySem.P.truthy_str (by omega) ⟨H,I.tok _,q⟩
 |byt y =>obtain⟨t,rfl⟩:=rx;obtain⟨hy,e'⟩:y.size<=sizeLine/\k=((y.size:Int) != 0):=e;subst e';exact PySem.W.truthy_bytes (by omega) ⟨H,I.tok _,q⟩
 |ref p =>
  cases rx;have e':(∃xs,SqL X.K H p xs/\k=!xs.isEmpty)\/(∃xs,SqT X.K H p xs/\k=!xs.isEmpty)\/∃kvs,H p=some (.dK kvs)/\k=!kvs.isEmpty:=e;rcases e' with⟨xs,hx,e'⟩ |⟨xs,hx,e'⟩ |⟨kvs,hx,e'⟩
  ·subst e';obtain⟨its,r,pl,hz⟩:=I.list hx;have hlen:=r.length;exact wpAny_truthy_list pl.isList (by simp only[HK];omega) ⟨H,I.tok _,by rw[ua r];exact q⟩
  ·subst e';obtain⟨its,r,pl,hz⟩:=I.tuple hx;have hlen:=r.length;exact truthy_tuple pl (by simp only[HK];omega) ⟨H,I.tok _,by rw[ua r];exact q⟩
  ·subst e';obtain⟨hz,hS,vs,r,m⟩:kvs.length<=sizeLine/\(p == sysModules)=false/\∃vs,KV kvs vs/\s.heap.DictOf (mJ X.prog X.w) p vs:=I.hok p _ hx;have hlen:kvs.length=vs.length:=Paired.length r;exact wpAny_truthy_dict hS m (by omega) ⟨H,I.tok _,by rw[Cf r];exact q⟩
 |_=>exact(show False from e).elim
theorem yy(ha:PE X a ta)(he:∀whole,isTrue a X.env whole=(do let v <- whole;standAt a.pos;holding [v] (truthy v))) :
 PT X a (λσ H Q=>ta σ H λx H'=>∃k,vM X.K x H' k/\Q k H'):=by
 intro pins s σ H Q I h;exact isTrue_plain (thn (ha pins s σ H _ I h) λv s1 ⟨x,H1,I1,r1,q1⟩=>wu pins s1 σ H1 x v Q I1 r1 q1) (he _)
theorem gn{x:V}{us:List Value}(r:Vals [x] us):∃u,us=[u]/\RelV x u:=by
 cases r with
 |cons r1 r2=>cases r2;exact⟨_,rfl,r1⟩
theorem o7{x y:V}{us:List Value}(r:Vals [x,y] us):∃u w',us=[u,w']/\RelV x u/\RelV y w':=by
 cases r with
 |cons r1 r2 =>
  cases r2 with
  |cons r3 r4=>cases r4;exact⟨_,_,rfl,r1,r3⟩
theorem g7:CallR X (.builtin "abs") (λxs H Q=>∃i,xs=[.int i]/\Q (.int (if i<0 then -i else i)) H):=by intro pins s σ H xs us Q I r h;obtain⟨i,rfl,q⟩:=h;obtain⟨u,rfl,t,rfl⟩:=gn r;exact call_abs_int λu tk=>⟨.int (if i<0 then -i else i),H,I.tok _,⟨_,rfl⟩,q⟩
theorem oq(hc:X.calm=true):CallR X (.builtin "max") (λxs H Q=>∃i j,xs=[.int i,.int j]/\Q (.int (if j>i then j else i)) H):=by
 intro pins s σ H xs us Q I r h;obtain⟨i,j,rfl,q⟩:=h;obtain⟨u,w',rfl,⟨t,rfl⟩,⟨t',rfl⟩⟩:=o7 r;refine max_two_ints (I.ok.hd hc) λh' tk k=>⟨_,H,I.kept k,?_,q⟩
 by_cases hj:j>i
 ·rw[if_pos hj,if_pos hj];exact⟨_,rfl⟩
 ·rw[if_neg hj,if_neg hj];exact⟨_,rfl⟩
theorem DV(hc:X.calm=true):CallR X (.builtin "min") (λxs H Q=>∃i j,xs=[.int i,.int j]/\Q (.int (if j<i then j else i)) H):=by
 intro pins s σ H xs us Q I r h;obtain⟨i,j,rfl,q⟩:=h;obtain⟨u,w',rfl,⟨t,rfl⟩,⟨t',rfl⟩⟩:=o7 r;refine min_two_ints (I.ok.hd hc) λh' tk k=>⟨_,H,I.kept k,?_,q⟩
 by_cases hj:j<i
 ·rw[if_pos hj,if_pos hj];exact⟨_,rfl⟩
 ·rw[if_neg hj,if_neg hj];exact⟨_,rfl⟩
theorem j5:CallR X (.type "int") (λxs H Q=>(∃i,xs=[.int i]/\Q (.int i) H)\/∃k,xs=[.bl k]/\Q (.int (if k then 1 else 0)) H):=by
 intro pins s σ H xs us Q I r h;rcases h with⟨i,rfl,q⟩ |⟨k,rfl,q⟩
 ·obtain⟨u,rfl,t,rfl⟩:=gn r;exact call_int_int ⟨.int i,H,I,⟨_,rfl⟩,q⟩
 ·obtain⟨u,rfl,r1⟩:=gn r;cases r1;exact call_int_bool ⟨.int (if k then 1 else 0),H,I.tok _,⟨_,rfl⟩,q⟩
end
structure ObjM(h:Heap)(x dx C:Addr)(mA:Str->Option Value):Prop where
 obj:h.get? x=some (PySem.W.instObj C dx)
 ns:h.Ns1 dx mA
 ne:dx≠x
theorem Bj{h:Heap}{dx:Addr}{mA:Str->Option Value}(n:h.Ns1 dx mA):∃od,h.get? dx=some od/\∀name,PySem.W.lookIn name od=some (mA name):=by
 obtain⟨o,es,ep,ho,hd,hk,_,hm⟩:=n;refine⟨o,ho,λname=>?_⟩;have e:=hm name;unfold nsFind findBy at e
 rw[<- Array.find?_toList]at e;unfold PySem.W.lookIn;rw[hd];dsimp only
 split
 ·rename_i y q
  rw[q]at e;exact congrArg some e
 ·rename_i q
  rw[q]at e
  have a:es.toList.any (·.refKey)=false:=by rw[List.any_eq_false];intro y hy;obtain⟨z,t,hkey⟩:=hk y (Array.mem_toList_iff.mp hy);simp[DictEntry.refKey,hkey]
  have a':¬es.toList.any (·.refKey)=true:=by rw[a];exact Ir
  rw[if_neg a'];exact congrArg some e
theorem ObjM.look{h:Heap}{x dx C:Addr}{mA:Str->Option Value}(I:ObjM h x dx C mA):∃od,PySem.W.InstAt h x (PySem.W.instObj C dx) C (some od)/\∀name,PySem.W.lookIn name od=some (mA name) :=
 let⟨od,ho,hl⟩:=Bj I.ns
 ⟨od,⟨I.obj,rfl,rfl,ho⟩,hl⟩
section
variable {prog:Program}{w:World}{A:Around}{E:Value->Shared->Prop}{s:Shared}{K:PySem.W.Frag}{x dx C f:Addr}{mA:Str->Option Value}{name:Str}{v:Value}
theorem Cy{expr:Bool}{Q:Value->Shared->Prop}(X:K.In s.heap)(I:ObjM s.heap x dx C mA)(hg:PySem.W.plainGet K C name=true)(hh:PySem.W.hasDictIn K C=true)
 (ha:PySem.W.findIn K (.ref C) name=some none) (hv:mA name=some v) (hv':PySem.W.handedIn v=true) (h:Q v { s with toks:=s.toks+1 }) :
 wpAny (model prog w) A (getAttr (.ref x) name expr) Q E s:=by
 obtain⟨od,J,hl⟩:=I.look;exact PySem.W.get_value X J (PySem.W.plainGet_of hg).1 (PySem.W.findObj_own hh ha rfl (by rw[hl,hv])) hv' h
theorem Cw{pl:Sem Bool}{Q:Value×List Value->Shared->Prop}(X:K.In s.heap)(I:ObjM s.heap x dx C mA)(hg:PySem.W.plainGet K C name=true)
 (hf:PySem.W.findIn K (.ref C) name=some (some (.ref f))) (ht:PySem.W.isFn K (.ref f)=true) (hv:mA name=none) (h:Q (.ref f,[.ref x]) s) :
 wpAny (model prog w) A (getMethod (.ref x) name pl) Q E s:=by
 obtain⟨od,J,hl⟩:=I.look;exact PySem.W.method_fn X J (PySem.W.plainGet_of hg).1 (PySem.W.plainGet_of hg).2 hf (beq_iff_eq.mp ht) (by show(PySem.W.lookIn name od).map (·.isSome)=some false;rw[hl,hv];rfl) h
theorem xz{ns:List Str}{Q:Unit->Shared->Prop}(X:K.In s.heap)(I:ObjM s.heap x dx C mA)
 (hs:PySem.W.findIn K (.ref C) "__setattr__"=some (some (.builtin "object.__setattr__"))) (hp:PySem.W.plainOver K C=true) (ht:PySem.W.takerIn K C name=some none) (hh:PySem.W.hasDictIn K C=true)
 (hw:PySem.Within mA ns) (hsz:ns.length<=sizeLine)
 (h:∀h',ObjM h' x dx C (λy=>if y=name then some v else mA y)->Heap.SameBut dx s.heap h'->Q () { s with heap:=h',toks:=s.toks+2 }) :
 wpAny (model prog w) A (setAttr (.ref x) name v) Q E s:=by
 obtain⟨od,J,hl⟩:=I.look;refine PySem.W.set_plain X J hs (PySem.W.osa_open (s:={ s with toks:=s.toks+1 }) (r:=none) X J hp ht λb=>?_);obtain⟨cd,hc,hd'⟩:=PySem.W.any_some hh;have hx:s.heap.get? x=some ⟨.ref C,some dx,.plain,#[]⟩:=I.obj;refine wpAny_bind (wpAny_pure (wpAny_bind (wpAny_bind (wpAny_loadPart hx (wpAny_bind (PySem.W.Looks.here (s:={ s with toks:=s.toks+1 }) (PySem.W.looks_clsIn X hc) ?_))))));rw[hd'];refine wpAny_pure (a:=some dx) (wpAny_bind (wpAny_pure (wpAny_bind ?_)));refine wpAny_nsSet1 (s:={ s with toks:=s.toks+1 }) I.ns λh' hn2 hs2=>?_
 obtain⟨oD,esD,epD,hoD,hdD,hcD⟩:=hn2.count (PySem.Within.cons name v hw);refine wpAny_bind (wpAny_lookBehind hoD (by rw[hdD];exact pastItsLine_dict (HH hcD (by rw[Ie];omega))) ?_);exact wpAny_pure (h _ ⟨(hs2.2 _ (Ne.symm I.ne)).trans I.obj,hn2,I.ne⟩ hs2)
theorem AM{R:Result->Shared->Prop}{vs:List Value}{kw:List (Str×Value)}(X:K.In s.heap)(hm:PySem.W.makesIn K C=true)
 (hi:PySem.W.findIn K (.ref C) "__init__"=some (some (.ref f))) (hf:PySem.W.typeIn K (.ref f)=some (.type "function"))
 (h:codeAny (model prog w) (A.under (.builtin "type.__call__" ⟨.ref C::vs,kw⟩)) (.call (.ref f) ⟨.ref (s.heap.objs.size+1)::vs,kw⟩) (PySem.W.InitBack (s.heap.objs.size+1) R)
   { s with heap:=(s.heap.push PySem.W.emptyDict).push (PySem.W.instObj C s.heap.objs.size) }) :
 codeAny (model prog w) A (.call (.ref C) ⟨vs,kw⟩) R s:=by
 obtain⟨hh,g,d,t,os⟩:=s;exact PySem.W.make_core (PySem.W.makes_of X hm) (PySem.W.looks_findIn X hi) (λself=>PySem.W.bind_fn X self hf) (.inl rfl) h
end
noncomputable def cx(f:Str)(v:V):List (Str×V)->List (Str×V)
 | []=>[(f,v)]
 | (g,x)::r=>if g=f then(g,v)::r else(g,x)::cx f v r
theorem f8(f g:Str)(v:V):∀fs:List (Str×V),(cx f v fs).lookup g=if g=f then some v else fs.lookup g
 | []=>by
  show List.lookup g [(f,v)]=_;by_cases h:g=f
  ·have hb:(g == f)=true:=beq_iff_eq.mpr h;simp only[List.lookup,hb,if_pos h]
  ·have hb:(g == f)=false:=beq_eq_false_iff_ne.mpr h;simp only[List.lookup,hb,if_neg h]
 | (k,x)::r=>by
  have ih:=f8 f g v r;rw[show cx f v ((k,x)::r)=(if k=f then(k,v)::r else(k,x)::cx f v r)from rfl];by_cases hk:k=f
  ·rw[if_pos hk];by_cases h:g=k
   ·have hb:(g == k)=true:=beq_iff_eq.mpr h;simp only[List.lookup,hb,if_pos (h.trans hk)]
   ·have hb:(g == k)=false:=beq_eq_false_iff_ne.mpr h;simp only[List.lookup,hb,if_neg (λe:g=f=>h (e.trans hk.symm))]
  ·rw[if_neg hk];by_cases h:g=k
   ·have hb:(g == k)=true:=beq_iff_eq.mpr h;simp only[List.lookup,hb,if_neg (λe:g=f=>hk (h.symm.trans e))]
   ·have hb:(g == k)=false:=beq_eq_false_iff_ne.mpr h;simp only[List.lookup,hb];exact ih
theorem mV(f:Str)(v:V):∀fs:List (Str×V),f∈(cx f v fs).map (·.1)/\∀g,g∈fs.map (·.1)->g∈(cx f v fs).map (·.1)
 | []=>⟨by simp[cx],λg h=>by simp at h⟩
 | (k,x)::r=>by
  obtain⟨i1,i2⟩:=mV f v r;rw[show cx f v ((k,x)::r)=(if k=f then(k,v)::r else(k,x)::cx f v r)from rfl];by_cases hk:k=f
  ·rw[if_pos hk];subst hk;exact⟨by simp,λg h=>by simpa using h⟩
  ·rw[if_neg hk];refine⟨?_,λg h=>?_⟩
   ·rw[Is];exact HC _ i1
   ·rw[Is]at h ⊢;rcases HI.mp h with e |e
    ·exact HI.mpr (.inl e)
    ·exact HC _ (i2 g e)
theorem tH(f:Str)(v:V):∀fs:List (Str×V),(cx f v fs).length<=fs.length+1
 | []=>by simp[cx]
 | (k,x)::r=>by
  have ih:=tH f v r;rw[show cx f v ((k,x)::r)=(if k=f then(k,v)::r else(k,x)::cx f v r)from rfl];by_cases hk:k=f
  ·rw[if_pos hk,Ie,Ie];omega
  ·rw[if_neg hk,Ie,Ie];omega
theorem RelO.some_of{v:V}{o:Option Value}(r:RelO (some v) o):∃u,o=some u/\RelV v u:=by
 cases o with
 |none=>exact(show False from r).elim
 |some u=>exact⟨u,rfl,r⟩
theorem RelO.none_of{o:Option Value}(r:RelO none o):o=none:=by
 cases o with
 |none=>rfl
 |some u=>exact(show False from r).elim
theorem Cs{v:V}{u:Value}(r:RelV v u):PySem.W.handedIn u=true:=by
 cases v with
 |non=>cases(show u=Value.none from r);rfl
 |bl b=>cases(show u=Value.bool b from r);rfl
 |int i=>obtain⟨t,e⟩:=(show ∃t,u=Value.int i t from r);cases e;rfl
 |str x=>obtain⟨t,e⟩:=(show ∃t,u=Value.str x t from r);cases e;rfl
 |byt b=>obtain⟨t,e⟩:=(show ∃t,u=Value.bytes b t from r);cases e;rfl
 |flt b=>obtain⟨t,e⟩:=(show ∃t,u=Value.float b t from r);cases e;rfl
 |ref a=>cases(show u=Value.ref a from r);rfl
 |ty n=>cases(show u=Value.type n from r);rfl
section
variable {P:Program}{w:World}{H H':Hp}{h h':Heap}{a C dx:Addr}{fs fs':List (Str×V)}
theorem jO(hok:HOk P w H h)(e:H a=some (.ins C dx fs)):∃mA,ObjM h a dx C mA/\(∀f,RelO (fs.lookup f) (mA f))/\PySem.Within mA (fs.map (·.1))/\fs.length<=1000/\H dx=some (.own a):=by obtain⟨d,z,ne,ob,mA,n,r,q⟩:=(show ObjOk P w H h a (.ins C dx fs)from hok a _ e);exact⟨mA,⟨ob,n,ne⟩,r,q,z,d⟩
end
structure Cls(K:PySem.W.Frag)(C:Addr):Prop where
 pg:PySem.W.plainGet K C Str.empty=true
 hd:PySem.W.hasDictIn K C=true
 po:PySem.W.plainOver K C=true
 sa:PySem.W.findIn K (.ref C) "__setattr__"=some (some (.builtin "object.__setattr__"))
theorem Cls.get{K:PySem.W.Frag}{C:Addr}(c:Cls K C)(f:Str):PySem.W.plainGet K C f=true:=c.pg
def NoAttr(K:PySem.W.Frag)(C:Addr)(f:Str):Prop:=PySem.W.findIn K (.ref C) f=some none
theorem NoAttr.taker{K:PySem.W.Frag}{C:Addr}{f:Str}(n:NoAttr K C f):PySem.W.takerIn K C f=some none:=by unfold PySem.W.takerIn;rw[show PySem.W.findIn K (.ref C) f=some none from n];rfl
structure Meth(K:PySem.W.Frag)(C:Addr)(m:Str)(f:Addr):Prop where
 at_:PySem.W.findIn K (.ref C) m=some (some (.ref f))
 fn:PySem.W.isFn K (.ref f)=true
 kp:PySem.W.keepIn K (.ref f)=true
section
variable {X:Cx}{pins:List (Addr×Obj)}{σ:St}{H:Hp}{s:Shared}{a C dx:Addr}{fs:List (Str×V)}{f:Str}{v:V}{A:Around}{E:Value->Shared->Prop}
theorem Cv{b:Bool}{Q:Value->Shared->Prop}(I:Inv X pins σ H s)(e:H a=some (.ins C dx fs))(c:Cls X.K C)(n:NoAttr X.K C f)(l:fs.lookup f=some v)
 (h:∀u s',Inv X pins σ H s'->RelV v u->Q u s'):wpAny (model X.prog X.w) A (getAttr (.ref a) f b) Q E s:=by
 obtain⟨mA,O,r,_,_,_⟩:=jO I.hok e;obtain⟨u,hu,ru⟩:=RelO.some_of (v:=v) (o:=mA f) (by rw[<- l];exact r f);exact Cy I.kIn O (c.get f) c.hd n hu (Cs ru) (h u _ (I.tok _) ru)
theorem Cu{m:Str}{g:Addr}{pl:Sem Bool}{Q:Value×List Value->Shared->Prop}(I:Inv X pins σ H s)(e:H a=some (.ins C dx fs))(c:Cls X.K C)(k:Meth X.K C m g)(l:fs.lookup m=none)
 (h:Q (.ref g,[.ref a]) s):wpAny (model X.prog X.w) A (getMethod (.ref a) m pl) Q E s:=by
 obtain⟨mA,O,r,_,_,_⟩:=jO I.hok e;have hn:mA m=none:=RelO.none_of (by rw[<- l];exact r m);exact Cw I.kIn O (c.get m) k.at_ k.fn hn h
theorem xy{y:V}{u:Value}{Q:Unit->Shared->Prop}(I:Inv X pins σ H s)(e:H a=some (.ins C dx fs))(c:Cls X.K C)(n:NoAttr X.K C f)(hl:fs.length<1000)(ry:RelV y u)
 (h:∀s',Inv X pins σ (upd H a (.ins C dx (cx f y fs))) s'->Q () s'):wpAny (model X.prog X.w) A (setAttr (.ref a) f u) Q E s:=by
 obtain⟨mA,O,r,wi,_,ho⟩:=jO I.hok e;have hz:(fs.map (·.1)).length<=sizeLine:=by rw[Hs,sizeLine_eq];omega
 refine xz I.kIn O c.sa c.po n.taker c.hd wi hz λh' O' sb=>h _ ?_
 have hd:∃o,h'.get? dx=some o:=let⟨o,_,_,e',_⟩:=O'.ns;⟨o,e'⟩;refine I.write (x:=a) (e:=dx) (by rw[e];exact True.intro) (.inr ho) (λb q hb z=>(sb.2 b hb).trans z) hd ?_;refine⟨by rw[upd_ne O.ne];exact ho,?_,O.ne,O'.obj,_,O'.ns,λg=>?_,λg hg=>?_⟩
 ·have:=tH f y fs;omega
 ·show RelO ((cx f y fs).lookup g) (if g=f then some u else mA g);rw[f8];by_cases q:g=f
  ·rw[if_pos q,if_pos q];exact ry
  ·rw[if_neg q,if_neg q];exact r g
 ·by_cases q:g=f
  ·rw[q];exact(mV f y fs).1
  ·refine(mV f y fs).2 g (wi g λz=>hg ?_);show(if g=f then some u else mA g)=none;rw[if_neg q];exact z
theorem Inv.made(I:Inv X pins σ H s):Inv X pins σ (upd (upd H s.heap.objs.size (.own (s.heap.objs.size+1))) (s.heap.objs.size+1) (.ins C s.heap.objs.size []))
 { s with heap:=(s.heap.push PySem.W.emptyDict).push (PySem.W.instObj C s.heap.objs.size) }:=by
 have e1:(s.heap.push PySem.W.emptyDict).get? s.heap.objs.size=some PySem.W.emptyDict:=Heap.get?_push_size s.heap rfl
 have e2:((s.heap.push PySem.W.emptyDict).push (PySem.W.instObj C s.heap.objs.size)).get? (s.heap.objs.size+1)=some (PySem.W.instObj C s.heap.objs.size):=by
  have:=Heap.get?_push_size (s.heap.push PySem.W.emptyDict) (o:=PySem.W.instObj C s.heap.objs.size) rfl
  rwa [Heap.size_push]at this
 have e3:(s.heap.push PySem.W.emptyDict).Ns s.heap.objs.size (λ_=>none):=⟨PySem.W.emptyDict,#[],_,e1,rfl,(λe he=>absurd he (by simp)),λ_=>rfl⟩;have I1:=I.laid (a:=s.heap.objs.size) (o:=.own (s.heap.objs.size+1)) (h':=s.heap.push PySem.W.emptyDict) (t':=s.toks) (λb u q=>Heap.get?_push_of_some _ q) (Ht _) ⟨_,e1⟩;refine I1.laid (a:=s.heap.objs.size+1) (o:=.ins C s.heap.objs.size []) (t':=s.toks) (λb u q=>Heap.get?_push_of_some _ q) (IC (Heap.size_push _ _)) ?_;have ne:s.heap.objs.size≠s.heap.objs.size+1:=HR (IJ _);refine⟨by rw[upd_ne ne,aj],Hy _,ne,e2,λ_=>none,(Heap.Ns1.of_empty e3).at λo q=>Heap.get?_push_of_some _ q,λ_=>True.intro,λy hy=>absurd rfl hy⟩
theorem Eu{prog:Program}{w:World}{env:Env}{e:Expr}{f:Str}{pos:Pos}{s:Shared}{Q:Value->Shared->Prop}(hb:attributeBase e f env (eval e env)=eval e env)
 (h:wpAny (model prog w) A (eval e env) (λo s₁=>wpAny (model prog w) A (getAttr o f true) Q E s₁) E s):wpAny (model prog w) A (eval (.Attribute e f pos) env) Q E s :=
 Attribute_any_ h (by rw[arm_eval_Attribute,hb])
end
def pJ(K:PySem.W.Frag)(ta:TE)(f:Str):TE:=λσ H Q=>ta σ H λx H1=>∃a C dx fs v,x=.ref a/\H1 a=some (.ins C dx fs)/\Cls K C/\NoAttr K C f/\fs.lookup f=some v/\Q v H1
def xR(K:PySem.W.Frag)(ta tv:TE)(f:Str):TS:=λD σ H=>tv σ H λy H1=>ta σ H1 λx H2=>∃a C dx fs,x=.ref a/\H2 a=some (.ins C dx fs)/\Cls K C/\NoAttr K C f/\fs.length<1000 /\
 D.nx σ (upd H2 a (.ins C dx (cx f y fs)))
section
variable {X:Cx}{o e value:Expr}{f:Str}{pos pos' tpos:Pos}{ta tv:TE}
theorem yU(he:PE X e ta)(hb:attributeBase e f X.env (eval e X.env)=eval e X.env):PE X (.Attribute e f pos) (pJ X.K ta f):=by intro pins s σ H Q I h;refine Eu hb (thn (he pins s σ H _ I h) λu s1 ⟨x,H1,I1,rx,a,C,dx,fs,v,ex,ea,c,n,l,q⟩=>?_);subst ex;obtain rfl:u=Value.ref a:=rx;exact Cv I1 ea c n l λu' s2 I2 ru=>⟨v,H1,I2,ru,q⟩
theorem rM(ha:PE X o ta)(hv:PE X value tv)(hs:swapsWith value (some (.Attribute o f pos')) pos.line X.env=pure false):PS X (.Assign [.Attribute o f pos'] value pos) (xR X.K ta tv f):=by intro pins s σ H D I h;refine plainObj_wpAny_Assign_Attribute (thn (hv pins s σ H _ I h) λu s1 ⟨y,H1,I1,ry,q⟩=>thn (ha pins s1 σ H1 _ I1 q) λov s2 ⟨x,H2,I2,rx,a,C,dx,fs,ex,ea,c,n,l,q2⟩=>?_) hs;subst ex;obtain rfl:ov=Value.ref a:=rx;exact xy I2 ea c n l ry λs3 I3=>⟨σ,_,I3,q2⟩
end
section
variable {X:Cx}{pins:List (Addr×Obj)}{σ:St}{H:Hp}{s:Shared}{A:Around}{E:Value->Shared->Prop}{Q:Value->Shared->Prop}{c:Value}{b:Bool}
inductive TyOf(K:PySem.W.Frag)(H:Hp):V->Value->Prop where
 |non:TyOf K H .non (.type "NoneType")
 |bl (x:Bool):TyOf K H (.bl x) (.type "bool")
 |int (i:Int):TyOf K H (.int i) (.type "int")
 |str (x:Str):TyOf K H (.str x) (.type "str")
 |flt (x:UInt64):TyOf K H (.flt x) (.type "float")
 |lst {a:Addr} {xs:List V} (e:H a=some (.lst xs)):TyOf K H (.ref a) (.type "list")
 |frz {a:Addr} {o:Obj} {xs:List V} (e:H a=some (.frz o (.lst xs))):TyOf K H (.ref a) (.type "list")
 |tup {a:Addr} {xs:List V} (e:H a=some (.tup xs)):TyOf K H (.ref a) (.type "tuple")
 |dK {a:Addr} {kvs:List (Key×V)} (e:H a=some (.dK kvs)):TyOf K H (.ref a) (.type "dict")
 |dT {a:Addr} {kvs:List (List Key×V)} (e:H a=some (.dT kvs)):TyOf K H (.ref a) (.type "dict")
 |ins {a C dx:Addr} {fs:List (Str×V)} (e:H a=some (.ins C dx fs)) (cl:Cls K C) (ha:PySem.W.findIn K (.ref C) "__class__"=some (some (.builtin "object.__class__")))
  (hn:PySem.W.specialIn K (.builtin "object.__class__") "__get__"=some (some (.builtin "getset_descriptor.__get__"))) (htk:PySem.W.takesIn K (.builtin "object.__class__")=some true)
  (hm:PySem.W.mroIn K C (.type "object")=some true):TyOf K H (.ref a) (.ref C)
theorem Cd{x:V}{u t:Value}(I:Inv X pins σ H s)(rx:RelV x u)(ty:TyOf X.K H x t)(e:PySem.W.kitOne X.K t c=some b)(h:∀tk,Q (.bool b) { s with toks:=tk }) :
 wpAny (model X.prog X.w) A (call (.builtin "isinstance") [u,c]) Q E s:=by
 cases ty with
 |non=>cases(show u=Value.none from rx);exact PySem.W.kia_one PySem.W.kitx_none I.kIn True.intro e (λz=>nomatch z) h
 |bl y=>cases(show u=Value.bool y from rx);exact PySem.W.kia_one PySem.W.kitx_bool I.kIn True.intro e (λz=>nomatch z) h
 |int i=>obtain⟨t,q⟩:=(show ∃t,u=Value.int i t from rx);cases q;exact PySem.W.kia_one PySem.W.kitx_int I.kIn True.intro e (λz=>nomatch z) h
 |str y=>obtain⟨t,q⟩:=(show ∃t,u=Value.str y t from rx);cases q;exact PySem.W.kia_one PySem.W.kitx_str I.kIn True.intro e (λz=>nomatch z) h
 |flt y=>obtain⟨t,q⟩:=(show ∃t,u=Value.float y t from rx);cases q;exact PySem.W.kia_one PySem.W.kitx_float I.kIn True.intro e (λz=>nomatch z) h
 | @lst a xs ea =>cases(show u=Value.ref a from rx);obtain⟨_,_,n,_,h1⟩:=(show ObjOk X.prog X.w H s.heap a (.lst xs)from I.hok a _ ea);exact PySem.W.kia_one PySem.W.kitx_list I.kIn ⟨_,h1,rfl⟩ e (λz=>nomatch z) h
 | @frz a ob xs ea =>cases(show u=Value.ref a from rx);obtain⟨_,_,_,n,_,h1⟩:=(show ObjOk X.prog X.w H s.heap a (.frz ob (.lst xs))from I.hok a _ ea);exact PySem.W.kia_one PySem.W.kitx_list I.kIn ⟨_,h1,rfl⟩ e (λz=>nomatch z) h
 | @tup a xs ea =>cases(show u=Value.ref a from rx);obtain⟨_,_,_,p⟩:=(show ObjOk X.prog X.w H s.heap a (.tup xs)from I.hok a _ ea);obtain⟨o,h1,h2,_⟩:=p;exact PySem.W.kia_one PySem.W.kitx_tuple I.kIn ⟨o,h1,h2⟩ e (λz=>nomatch z) h
 | @dK a kvs ea =>cases(show u=Value.ref a from rx);obtain⟨_,_,vs,_,p⟩:=(show ObjOk X.prog X.w H s.heap a (.dK kvs)from I.hok a _ ea);obtain⟨o,es,ep,h1,h2,_⟩:=p;exact PySem.W.kia_one PySem.W.kitx_dict I.kIn ⟨o,h1,h2.1⟩ e (λz=>nomatch z) h
 | @dT a kvs ea =>cases(show u=Value.ref a from rx);obtain⟨_,_,xs,_,o,es,ep,h1,h2,_⟩:=(show ObjOk X.prog X.w H s.heap a (.dT kvs)from I.hok a _ ea);exact PySem.W.kia_one PySem.W.kitx_dict I.kIn ⟨o,h1,h2.1⟩ e (λz=>nomatch z) h
 | @ins a C dx fs ea cl ha hn htk hm =>cases(show u=Value.ref a from rx);obtain⟨mA,O,_⟩:=jO I.hok ea;obtain⟨od,J,_⟩:=O.look;exact PySem.W.kia_one (PySem.W.kitx_own (cl.get _) cl.hd ha hn htk hm) I.kIn J e (λz=>nomatch z) h
end
structure Room(k:Nat)(A:Around):Prop where
 hd:A.handled=none
 dp:A.depth+3*k+5<recursionLimit
 un:A.units+16*k+200<cLine
theorem Room.mono{j k:Nat}{A:Around}(r:Room k A)(h:j<=k:=by decide):Room j A:=⟨r.hd,by have:=r.dp;omega,by have:=r.un;omega⟩
theorem Room.deeper{k:Nat}{A:Around}(r:Room (k+1) A)(env:Env):Room k (A.deeper env) :=
 ⟨r.hd,by have:=r.dp;show A.depth+1+3*k+5<_;omega,by have:=r.un;show A.units+3+16*k+200<_;omega⟩
theorem Room.in1{k:Nat}{A:Around}(r:Room (k+1) A):Room k A.in1 :=
 ⟨r.hd,by have:=r.dp;show A.depth+3*k+5<_;omega,by have:=r.un;show A.units+1+16*k+200<_;omega⟩
theorem AN{A:Around}{C:Addr}{us:List Value}{kw:List (Str×Value)}:(A.under (.builtin "type.__call__" ⟨.ref C::us,kw⟩)).depth=A.depth+1:=by first |rfl |simp[Around.under,Code.weight,Code.isCreation,Code.isGuard,Code.isCaller,Code.frames,Code.isFrame,guardIds]
theorem AL{A:Around}{C:Addr}{us:List Value}{kw:List (Str×Value)}:(A.under (.builtin "type.__call__" ⟨.ref C::us,kw⟩)).units=A.units+1:=by first |rfl |simp[Around.under,Code.cUnits,Code.frames,Code.isFrame]
theorem Room.make{k:Nat}{A:Around}(r:Room (k+1) A)(C:Addr)(us:List Value)(kw:List (Str×Value)):Room k (A.under (.builtin "type.__call__" ⟨.ref C::us,kw⟩)) :=
 ⟨r.hd,by have:=r.dp;rw[AN];omega,by have:=r.un;rw[AL];omega⟩
theorem Room.depth{k:Nat}{A:Around}(r:Room k A):A.depth<recursionLimit:=by have:=r.dp;omega
theorem Room.units{k:Nat}{A:Around}(r:Room k A):A.units+64<cLine:=by have:=r.un;omega
def pH:TA:=λ_ H Q=>Q [] H
def kj(ta:TE)(tr:TA):TA:=λσ H Q=>ta σ H λx H1=>tr σ H1 λxs H2=>Q (x::xs) H2
section
variable {X:Cx}{e:Expr}{es:List Expr}{te:TE}{t:TA}{pos:Pos}
theorem ad:PA X [] pH:=λ_ _ _ _ H Q I h=>Calls.spliced_nil ⟨[],H,I,.nil,h⟩
theorem aa(ha:PE X e te)(hr:PA X es t)(hs:starEach (e::es) X.env=(false,eval e X.env)::starEach es X.env:=by rfl):PA X (e::es) (kj te t):=by intro pos pins s σ H Q I h;rw[hs];show wpAny _ _ (spliced ((false,eval e X.env)::backTo pos (starEach es X.env))) _ _ s;refine Calls.spliced_cons (thn (ha pins s σ H _ I h) λu s1 ⟨x,H1,I1,r1,q1⟩=>?_);exact thn (hr pos pins s1 σ H1 _ I1 q1) λus s2 ⟨xs,H2,I2,r2,q2⟩=>⟨x::xs,H2,I2,.cons r1 r2,q2⟩
def wF(t:TA):TE:=λσ H Q=>t σ H λxs H1=>xs.length<=sizeLine/\∀p,H1 p=none->Q (.ref p) (upd H1 p (.tup xs))
def wL(t:TA):TE:=λσ H Q=>t σ H λxs H1=>xs.length<=sizeLine/\∀p,H1 p=none->Q (.ref p) (upd H1 p (.lst xs))
theorem bS{x1}(h:PA X es t):PE X (.Tuple es x1 pos) (wF t):=by intro pins s σ H Q I hq;refine wpAny_Tuple_spliced (thn (h pos pins s σ H _ I hq) λus s1 ⟨xs,H1,I1,r,z,q⟩=>⟨by rw[<- r.length];exact z,?_⟩);have hf:H1 s1.heap.objs.size=none:=I1.hok.fresh (Ht _);refine⟨.ref s1.heap.objs.size,upd H1 s1.heap.objs.size (.tup xs),I1.laid (t':=s1.toks) (λb u e=>Heap.get?_push_of_some _ e) (Ht _) ?_,rfl,q _ hf⟩;exact⟨z,us,r,⟨_,Heap.get?_push_size _ rfl,rfl,_,rfl⟩⟩
theorem bH(h:PA X es t):PE X (.List es pos) (wL t):=by intro pins s σ H Q I hq;refine wpAny_List_spliced (thn (h pos pins s σ H _ I hq) λus s1 ⟨xs,H1,I1,r,z,q⟩=>⟨by rw[<- r.length];exact z,?_⟩);have hf:H1 s1.heap.objs.size=none:=I1.hok.fresh (Ht _);refine⟨.ref s1.heap.objs.size,upd H1 s1.heap.objs.size (.lst xs),I1.laid (t':=s1.toks) (λb u e=>Heap.get?_push_of_some _ e) (Ht _) ?_,rfl,q _ hf⟩;exact⟨z,us,0,r,Heap.get?_push_size _ rfl⟩
end
abbrev Sp:=List V->Hp->VK->XK->Prop
abbrev CXT:=List Env->Hp->Shared->XK->Value->Shared->Prop
structure Env0(P:Program)(w:World)(K:PySem.W.Frag)(mg:Str->Option Value)(base:Heap)(A:Around)(outer:List Env)(s:Shared)(H:Hp):Prop where
 frames:A.frames=some outer
 mod:Mod K mg base
 bs:∀b o,base.get? b=some o->s.heap.get? b=some o/\H b=none
 bsz:base.objs.size<=s.heap.objs.size
 funs:s.heap.FunFrames base outer
 frf:∀b∈frs outer,H b=none
 hok:HOk P w H s.heap
 bare:AllBare s.gens
noncomputable def CE(outer:List Env)(P:Program)(w:World)(H:Hp)(s:Shared)(Q:VK)(u:Value)(s':Shared):Prop :=
 ∃v H',s'.os=s.os/\AllBare s'.gens/\Un (frs outer) [] H H' s.heap s'.heap/\HOk P w H' s'.heap/\RelV v u/\Q v H'
noncomputable def CR(CX:CXT)(outer:List Env)(P:Program)(w:World)(H:Hp)(s:Shared)(Q:VK)(E:XK)(r:Result)(s':Shared):Prop :=
 match r with
 |.ok (.ret u)=>CE outer P w H s Q u s'
 |.ok _=>False
 |.error e=>CX outer H s E e s'
structure FnOk(P:Program)(w:World)(K:PySem.W.Frag)(mg:Str->Option Value)(base:Heap)(CX:CXT)(k:Nat)(f:Addr)(fd:FuncData)(ps:List Str)(sp:Sp):Prop where
 len:∀vs H Q E,sp vs H Q E->vs.length=ps.length
 run:∀(A:Around) (outer:List Env) (s:Shared) (H:Hp) (args:Args) (us:List Value) (vs:List V) (Q:VK) (E:XK),Room k A->Env0 P w K mg base A outer s H->BindsTo s fd args (ps.zip us)->Vals vs us->sp vs H Q E ->
  codeAny (model P w) A (.call (.ref f) args) (CR CX outer P w H s Q E) s
theorem FnOk.mono{P:Program}{w:World}{K:PySem.W.Frag}{mg:Str->Option Value}{base:Heap}{CX:CXT}{j k:Nat}{f:Addr}{fd:FuncData}{ps:List Str}{sp:Sp}(F:FnOk P w K mg base CX j f fd ps sp)(h:j<=k:=by decide) :
 FnOk P w K mg base CX k f fd ps sp:=⟨F.len,λA outer s H args us vs Q E hr=>F.run A outer s H args us vs Q E (hr.mono h)⟩
theorem Env0.make{P:Program}{w:World}{K:PySem.W.Frag}{mg:Str->Option Value}{base:Heap}{A:Around}{outer:List Env}{s:Shared}{H:Hp}(e:Env0 P w K mg base A outer s H)(C:Addr)(us:List Value)(kw:List (Str×Value)) :
 Env0 P w K mg base (A.under (.builtin "type.__call__" ⟨.ref C::us,kw⟩)) outer s H:=⟨by first |exact e.frames | (simpa[Around.under,Code.envs,Code.isFrame,pushEnvs]using e.frames),e.mod,e.bs,e.bsz,e.funs,e.frf,e.hok,e.bare⟩
section
variable {X:Cx}{pins:List (Addr×Obj)}{σ:St}{H:Hp}{s s':Shared}
theorem Inv.env0(I:Inv X pins σ H s):Env0 X.prog X.w X.K X.mg X.base X.A X.stack s H :=
 ⟨I.ok.frames,I.ok.mod,I.bs,HH I.ok.bsz I.sz,I.stack,I.stkFree,I.hok,I.bare⟩
theorem Inv.after{Q:VK}{u:Value}(I:Inv X pins σ H s)(h:CE X.stack X.prog X.w H s Q u s'):EP X pins σ Q u s':=by obtain⟨v,H',os,bare,un,hok,r,q⟩:=h;obtain⟨hh,g,d,t,os'⟩:=s';obtain rfl:os'=s.os:=os;exact⟨v,H',I.call (h':=hh) (g':=g) (d':=d) (t':=t) (ch:=[]) un hok bare (λb z=>absurd z (by simp)),r,q⟩
end
def wN(sp:Sp)(dvs:List V)(E:XK)(t:TA):TE:=λσ H Q=>t σ H λvs H1=>sp (vs++dvs) H1 Q E
def wJ(C:Addr)(m:Str)(sp:Sp)(dvs:List V)(E:XK)(ta:TE)(t:TA):TE:=λσ H Q=>ta σ H λx H1=>∃a dx fs,x=.ref a/\H1 a=some (.ins C dx fs)/\fs.lookup m=none /\
 t σ H1 λvs H2=>sp (x::(vs++dvs)) H2 Q E
def wK(C:Addr)(sp:Sp)(dvs:List V)(E:XK)(t:TA):TE:=λσ H Q=>t σ H λvs H1=>∀x dx,H1 x=none->H1 dx=none->dx≠x ->
 sp (.ref x::(vs++dvs)) (upd (upd H1 dx (.own x)) x (.ins C dx [])) (λv H2=>v=.non/\Q (.ref x) H2) E
noncomputable def Binds(K:PySem.W.Frag)(fd:FuncData)(ps:List Str)(ds:List Value):Prop :=
 ∀(s:Shared) (us:List Value),K.In s.heap->(us++ds).length=ps.length->BindsTo s fd ⟨us,[]⟩ (ps.zip (us++ds))
theorem Binds.all{K:PySem.W.Frag}{fd:FuncData}{ps:List Str}(h:∀us:List Value,us.length=ps.length->bindArgs fd ⟨us,[]⟩=pure (ps.zip us)):Binds K fd ps []:=λs us _ hl=>by rw[List.append_nil]at hl ⊢;exact .of_eq (h us hl)
def ia(CX:CXT)(X:Cx)(E:XK):Prop:=∀(pins:List (Addr×Obj)) (σ:St) (H:Hp) (s:Shared) (e:Value) (s':Shared),Inv X pins σ H s->CX X.stack H s E e s'->X.xe e s'
section
variable {X:Cx}{CX:CXT}{k:Nat}{f C:Addr}{fd:FuncData}{ps:List Str}{sp:Sp}{dvs:List V}{ds:List Value}{E:XK}{x m:Str}{p pos apos:Pos}{e o:Expr}{es:List Expr}{ta:TE}{t:TA}
theorem rc{pins:List (Addr×Obj)}{σ:St}{H:Hp}{s:Shared}{Q:VK}{us:List Value}{vs:List V}(F:FnOk X.prog X.w X.K X.mg X.base CX k f fd ps sp)(hr:Room k X.A)(hb:Binds X.K fd ps ds)(hd:Vals dvs ds)(hx:ia CX X E)
 (I:Inv X pins σ H s) (r:Vals vs us) (h:sp (vs++dvs) H Q E):wpAny (model X.prog X.w) X.A (call (.ref f) us) (EP X pins σ Q) X.xe s:=by
 have r2:Vals (vs++dvs) (us++ds):=r.append hd;have hl:(us++ds).length=ps.length:=by rw[<- r2.length];exact F.len _ _ _ _ h
 refine wpAny_call (codeAny_mono (F.run X.A X.stack s H ⟨us,[]⟩ (us++ds) (vs++dvs) Q E hr I.env0 (hb s us I.kIn hl) r2 h) λr s' hq=>?_);cases r with
 |error e=>exact hx pins σ H s e s' I hq
 |ok fl =>
  cases fl with
  |ret u=>exact I.after hq
  |next=>exact False.elim hq
  |brk=>exact False.elim hq
  |cont=>exact False.elim hq
theorem au(F:FnOk X.prog X.w X.K X.mg X.base CX k f fd ps sp)(hr:Room k X.A)(hg:Gl X x)(hm:X.mg x=some (.ref f))(hk:PySem.W.keepIn X.K (.ref f)=true)(hb:Binds X.K fd ps ds)(hd:Vals dvs ds)(hx:ia CX X E)
 (ha:PA X (e::es) t) (hdb:(x == ("__debug__":Str))=false:=by decide) (he:starEach (e::es) X.env=(false,eval e X.env)::starEach es X.env:=by rfl) (hpl:(backTo pos (starEach es X.env)).any (·.1)=false:=by rfl) :
 PE X (.Call (.Name x p) (e::es) [] pos) (wN sp dvs E t):=by
 intro pins s σ H Q I h;refine wpAny_Call_Name_kw (tJ I hg hm ?_ hdb);refine PySem.W.callWith_K (h₀:=X.base) I.ok.mod.kin hk (thn (ha pos pins s σ H _ I h) λus s1 ⟨vs,H1,I1,r,q⟩=>⟨I1.kIn,?_⟩) he hpl;exact rc F hr hb hd hx I1 r q
theorem yT{pl:Sem Bool}(he:PE X o ta)(c:Cls X.K C)(hm:Meth X.K C m f)(F:FnOk X.prog X.w X.K X.mg X.base CX k f fd ps sp)(hr:Room k X.A)(hb:Binds X.K fd ps ds)(hd:Vals dvs ds)(hx:ia CX X E)(ha:PA X (e::es) t)
 (hst:starEach (e::es) X.env=(false,eval e X.env)::starEach es X.env:=by rfl) (hpl:(backTo pos (starEach es X.env)).any (·.1)=false:=by rfl)
 (ht:eval (.Call (.Attribute o m apos) (e::es) [] pos) X.env=(do
   let ov <- eval o X.env
   standAt apos.atName
   let(f,first) <- holding [ov] (getMethod ov m pl)
   callWith pos f first (backTo pos (starEach (e::es) X.env)) (backToKw pos (keywordEach [] X.env))):=by rfl) :
 PE X (.Call (.Attribute o m apos) (e::es) [] pos) (wJ C m sp dvs E ta t):=by
 intro pins s σ H Q I h;refine PySem.W.methodCall_KW (pl:=pl) (thn (he pins s σ H _ I h) λu s1 ⟨x,H1,I1,rx,a,dx,fs,ex,ea,l,q⟩=>?_) ht;subst ex;obtain rfl:u=Value.ref a:=rx;refine Cu I1 ea c hm l ?_;refine PySem.W.callWith_K (first:=[.ref a]) (h₀:=X.base) I.ok.mod.kin hm.kp (thn (ha pos pins s1 σ H1 _ I1 q) λus s2 ⟨vs,H2,I2,r,q2⟩=>⟨I2.kIn,?_⟩) hst hpl;exact rc (us:=.ref a::us) (vs:=.ref a::vs) F hr hb hd hx I2 (.cons rfl r) q2
structure Mk(K:PySem.W.Frag)(C f:Addr):Prop where
 makes:PySem.W.makesIn K C=true
 init:PySem.W.findIn K (.ref C) "__init__"=some (some (.ref f))
 fn:PySem.W.isFn K (.ref f)=true
 kp:PySem.W.keepIn K (.ref C)=true
theorem xU{pins:List (Addr×Obj)}{σ:St}{H:Hp}{s:Shared}{Q:VK}{us:List Value}{vs:List V}(M:Mk X.K C f)(F:FnOk X.prog X.w X.K X.mg X.base CX k f fd ps sp)(hr:Room (k+1) X.A)(hb:Binds X.K fd ps ds)(hd:Vals dvs ds)
 (hx:ia CX X E) (I:Inv X pins σ H s) (r:Vals vs us)
 (h:∀x dx,H x=none->H dx=none->dx≠x->sp (.ref x::(vs++dvs)) (upd (upd H dx (.own x)) x (.ins C dx [])) (λv H2=>v=.non/\Q (.ref x) H2) E) :
 wpAny (model X.prog X.w) X.A (call (.ref C) us) (EP X pins σ Q) X.xe s:=by
 have hq:=h (s.heap.objs.size+1) s.heap.objs.size (I.hok.fresh (Nat.le_succ _)) (I.hok.fresh (Ht _)) (HR (IJ _));have I2:=Inv.made (C:=C) I;have r2:Vals (V.ref (s.heap.objs.size+1)::(vs++dvs)) (Value.ref (s.heap.objs.size+1)::(us++ds)):=.cons rfl (r.append hd)
 have hl:(Value.ref (s.heap.objs.size+1)::us++ds).length=ps.length:=by have e:=r2.length;rw[F.len _ _ _ _ hq]at e;exact e.symm
 refine wpAny_call (AM (f:=f) I.kIn M.makes M.init (beq_iff_eq.mp M.fn) (codeAny_mono (F.run _ X.stack _ _ ⟨Value.ref (s.heap.objs.size+1)::us,[]⟩ (Value.ref (s.heap.objs.size+1)::(us++ds)) _ _ E (hr.make C us [])
  (I2.env0.make C us []) (hb _ (Value.ref (s.heap.objs.size+1)::us) I2.kIn hl) r2 hq) λr s' hq'=>?_))
 cases r with
 |error e=>exact hx pins σ _ _ e s' I2 hq'
 |ok fl =>
  cases fl with
  |ret u =>obtain⟨v,H',I3,rv,ev,q3⟩:=I2.after hq';subst ev;exact⟨rv,⟨V.ref (s.heap.objs.size+1),H',I3,rfl,q3⟩⟩
  |next=>exact False.elim hq'
  |brk=>exact False.elim hq'
  |cont=>exact False.elim hq'
theorem rZ(M:Mk X.K C f)(F:FnOk X.prog X.w X.K X.mg X.base CX k f fd ps sp)(hr:Room (k+1) X.A)(hg:Gl X x)(hm:X.mg x=some (.ref C))(hb:Binds X.K fd ps ds)(hd:Vals dvs ds)(hx:ia CX X E)
 (ha:PA X (e::es) t) (hdb:(x == ("__debug__":Str))=false:=by decide) (he:starEach (e::es) X.env=(false,eval e X.env)::starEach es X.env:=by rfl) (hpl:(backTo pos (starEach es X.env)).any (·.1)=false:=by rfl) :
 PE X (.Call (.Name x p) (e::es) [] pos) (wK C sp dvs E t):=by
 intro pins s σ H Q I h;refine wpAny_Call_Name_kw (tJ I hg hm ?_ hdb);refine PySem.W.callWith_K (h₀:=X.base) I.ok.mod.kin M.kp (thn (ha pos pins s σ H _ I h) λus s1 ⟨vs,H1,I1,r,q⟩=>⟨I1.kIn,?_⟩) he hpl;exact xU M F hr hb hd hx I1 r q
end
section
variable {X:Cx}{CX:CXT}{k:Nat}{f C:Addr}{fd:FuncData}{ps ks:List Str}{sp:Sp}{E:XK}{x m:Str}{p pos apos kpos:Pos}{e o:Expr}{es:List Expr}{kws:List Keyword}{te ta:TE}{t tk:TA}{nm:Option Str}
variable {g:List Value->List Value->List Value}{gV:List V->List V->List V}
end
structure FnScope(N P:List Str)(sc:Scope):Prop where
 kind:sc.kind=.function
 co:sc.isCoroutine=false
 gen:sc.isGenerator=false
 nd:N.Nodup
 pre:N.take P.length=P
 par:∀x∈P,sc.names.lookup x=some .local\/sc.names.lookup x=some .cell
 nofree:∀y∈sc.names,y.2≠.free
theorem vp{kindOf:Str->Option NameKind}{x:Str}:∀{binds:List (Str×Value)} {m:Str->Option Value},(∀v,(x,v)∉binds)->bindL kindOf binds m x=m x
 | [],_,_=>rfl
 | (n,v)::r,m,h=>by
  unfold bindL;rw[vp λw hw=>h w (HC _ hw)];split
  ·have:x≠n:=by rintro rfl;exact h v HE
   simp[this]
  ·rfl
theorem vt{kindOf:Str->Option NameKind}{x:Str}:∀{binds:List (Str×Value)} {m:Str->Option Value},(∀v,(x,v)∉binds)->bindC kindOf binds m x=m x
 | [],_,_=>rfl
 | (n,v)::r,m,h=>by
  unfold bindC;rw[vt λw hw=>h w (HC _ hw)];split
  ·rfl
  ·have:x≠n:=by rintro rfl;exact h v HE
   simp[this]
theorem vq{kindOf:Str->Option NameKind}{x:Str}{v:Value}:∀{P:List Str} {vs:List Value} {i:Nat} {m:Str->Option Value},P.Nodup->P[i]?=some x->vs[i]?=some v->kindOf x=some .local ->
 bindL kindOf (P.zip vs) m x=some v
 | [],_,_,_,_,h,_,_=>by simp at h
 |_::_,[],_,_,_,_,h,_=>by simp at h
 |p::P,w::vs,0,m,nd,h1,h2,hk=>by
  simp at h1 h2;subst h1;subst h2
  show bindL kindOf ((p,w)::P.zip vs) m p=_;unfold bindL;rw[vp λv hv=>(IZ.mp nd).1 (List.of_mem_zip hv).1,if_pos hk];simp
 |p::P,w::vs,i+1,m,nd,h1,h2,hk=>by show bindL kindOf ((p,w)::P.zip vs) m x=_;unfold bindL;exact vq (i:=i) (IZ.mp nd).2 (by simpa using h1) (by simpa using h2) hk
theorem vv{kindOf:Str->Option NameKind}{x:Str}{v:Value}:∀{P:List Str} {vs:List Value} {i:Nat} {m:Str->Option Value},P.Nodup->P[i]?=some x->vs[i]?=some v->kindOf x≠some .local ->
 bindC kindOf (P.zip vs) m x=some v
 | [],_,_,_,_,h,_,_=>by simp at h
 |_::_,[],_,_,_,_,h,_=>by simp at h
 |p::P,w::vs,0,m,nd,h1,h2,hk=>by
  simp at h1 h2;subst h1;subst h2
  show bindC kindOf ((p,w)::P.zip vs) m p=_;unfold bindC;rw[vt λv hv=>(IZ.mp nd).1 (List.of_mem_zip hv).1,if_neg hk];simp
 |p::P,w::vs,i+1,m,nd,h1,h2,hk=>by show bindC kindOf ((p,w)::P.zip vs) m x=_;unfold bindC;exact vv (i:=i) (IZ.mp nd).2 (by simpa using h1) (by simpa using h2) hk
noncomputable def eW(N:List Str)(vs:List V):St:=vs.map some++List.replicate (N.length-vs.length) none
noncomputable def gc(CX:CXT)(P:Program)(w:World)(K:PySem.W.Frag)(mg:Str->Option Value)(base:Heap)(N:List Str)(qual:Str)(scope:Scope)(f:Addr)(cd:Value)(A:Around)(outer:List Env)(s:Shared)(H:Hp)(E:XK):Cx where
 prog:=P
 w:=w
 K:=K
 mg:=mg
 base:=base
 A:=A.deeper (envOfC qual scope s.heap.objs.size f cd)
 N:=N
 s₀:=s
 H₀:=H
 env:=envOfC qual scope s.heap.objs.size f cd
 outer:=outer
 stack:=envOfC qual scope s.heap.objs.size f cd::outer
 ex:=[]
 calm:=true
 fn:=λ_=>true
 pn:=[]
 xe:=λe s'=>wpAny (model P w) (A.deeper (envOfC qual scope s.heap.objs.size f cd)) (leaving (envOfC qual scope s.heap.objs.size f cd) e) (λ_ s''=>CX outer H s E e s'') (λe' s''=>CX outer H s E e' s'') s'
theorem vm{sc:Scope}{n:Nat}{x:Str}(h:sc.names.lookup x=some .cell):∃c,(cellsFrom n sc.names []).lookup x=some c:=by have q:=PySem.W.cellsFrom_some sc.names n [] (.inl h);exact Option.isSome_iff_exists.mp q
theorem Cg{CX:CXT}{P:Program}{w:World}{K:PySem.W.Frag}{mg:Str->Option Value}{base:Heap}{N ps:List Str}{qual:Str}{scope:Scope}{f:Addr}{cd:Value}{A:Around}{outer:List Env}{s s1:Shared}{H:Hp}{E:XK}{us:List Value}{vs:List V}
 (S:FnScope N ps scope) (hd:A.handled=none) (e0:Env0 P w K mg base A outer s H) (hl:vs.length=ps.length) (r:Vals vs us)
 (x:InCallC s s.heap.objs.size (bindL (envOfC qual scope s.heap.objs.size f cd).kindOf (ps.zip us) λ_=>none) (cellsFrom (s.heap.objs.size+1) scope.names []) (bindC (envOfC qual scope s.heap.objs.size f cd).kindOf (ps.zip us) λ_=>none) s1) :
 Inv (gc CX P w K mg base N qual scope f cd A outer s H E) [] (eW N vs) H s1:=by
 have hpl:ps.length<=N.length:=by have:=congrArg List.length S.pre;rw[HZ]at this;omega
 obtain⟨h1,tk,rfl,hk⟩:=x.done;have noA:∀b:Addr,b∉(gc CX P w K mg base N qual scope f cd A outer s H E).ex:=λb z=>absurd (show b∈([]:List Addr)from z) (by simp)
 refine⟨⟨e0.mod,S.kind,rfl,rfl,Ht _,λy z c h1 h2=>?_,λy hy=>?_,λy c _ h=>?_,λ_=>hd,Around.frames_deeper e0.frames,.inr ⟨rfl,rfl⟩,λb z=>absurd z (noA b),e0.bs,e0.bsz,λb _ _=>noA b,λb z=>absurd z (noA b),e0.funs,e0.frf⟩,
  rfl,e0.bare,Un.kept hk,⟨_,x.toInCall.ns,λi y v h1 h2 h3=>?_⟩,λy c h=>⟨_,x.cell y c h⟩,e0.hok.fresh (Ht _),λy c h=>?_,λp hp=>absurd (show p∈([]:List (Addr×Obj))from hp) (by simp),e0.hok.kept hk,?_⟩
 ·exact name_of_addr x.apart (PySem.mem_of_lookup h1) (PySem.mem_of_lookup h2)
 ·have hy:scope.names.lookup y=some .cell\/scope.names.lookup y=some .free:=hy;rcases hy with hy |hy
  ·exact vm hy
  ·exact absurd rfl (S.nofree _ (PySem.mem_of_lookup hy))
 ·exact IY (x.above y c (PySem.mem_of_lookup h))
 ·have hi:i<vs.length:=by
   unfold eW at h2
   by_cases hi:i<vs.length
   ·exact hi
   ·rw[List.getElem?_append_right (by simpa using hi)]at h2;rw[List.getElem?_replicate]at h2;split at h2<;>cases h2
  have ha:vs[i]?=some v:=by
   unfold eW at h2
   rw[List.getElem?_append_left (by simpa using hi),List.getElem?_map]at h2;cases e:vs[i]? with
   |none=>rw[e]at h2;cases h2
   |some a=>rw[e]at h2;cases h2;rfl
  obtain⟨u,hu,rv⟩:=r.get ha
  have hp:ps[i]?=some y:=by rw[<- S.pre,List.getElem?_take_of_lt (by omega)];exact h1
  have ndP:ps.Nodup:=by rw[<- S.pre];exact S.nd.sublist (List.take_sublist _ _)
  refine⟨u,rv,?_⟩;rcases S.par y (List.mem_of_getElem? hp)with k |k
  ·exact .inl ⟨k,vq ndP hp hu k⟩
  ·obtain⟨c,e⟩:=vm (n:=s.heap.objs.size+1) k;refine .inr ⟨.inl k,c,e,?_⟩;have q:=x.cell y c e;rw[vv ndP hp hu (by show scope.names.lookup y≠_;rw[k];decide)]at q;exact q
 ·exact e0.hok.fresh (IY (x.above y c (PySem.mem_of_lookup h)))
 ·unfold eW;show _=N.length;rw[Hv,Hs,IK];omega
theorem uw{CX:CXT}{P:Program}{w:World}{K:PySem.W.Frag}{mg:Str->Option Value}{base:Heap}{k:Nat}{f:Addr}{name qual:Str}{params:Arguments}{body:List Stmt}{scope:Scope}{dV kV doc pm cdv ct oc:Value}{an od:Option Addr}
 {osl:Array (Option Value)} {N ps:List Str} {sp:Sp} (lk:K.lookup f=some ⟨oc,od,.func (PySem.W.fnOf name qual params body scope dV kV doc pm an cdv ct),osl⟩) (hcd:PySem.W.codeIn K cdv qual=true) (S:FnScope N ps scope)
 (len:∀vs H Q E,sp vs H Q E->vs.length=ps.length)
 (hbody:∀(A:Around) (outer:List Env) (s:Shared) (H:Hp) (vs:List V) (Q:VK) (E:XK),Room k (A.deeper (envOfC qual scope s.heap.objs.size f cdv))->sp vs H Q E ->
   ∃t,PSs (gc CX P w K mg base N qual scope f cdv A outer s H E) body t/\t { nx:=λ_ H'=>Q .non H',rt:=Q } (eW N vs) H) :
 FnOk P w K mg base CX (k+1) f (PySem.W.fnOf name qual params body scope dV kV doc pm an cdv ct) ps sp:=by
 refine⟨len,λA outer s H args us vs Q E hr e0 hb r hsp=>?_⟩;have hl:=len _ _ _ _ hsp;have KX:K.In s.heap:=e0.mod.kin.keeps λb o e=>(e0.bs b o e).1
 have lim:s.heap.NoLimit:=e0.mod.nolimit.keeps λb o e=>(e0.bs b o e).1
 have hkind:∀y∈ps.zip us,scope.names.lookup y.1=some .local\/(scope.names.lookup y.1=some .cell/\((cellsFrom (s.heap.objs.size+1) scope.names []).lookup y.1).isSome=true):=λ⟨n,v⟩ hy=>by
  rcases S.par n (List.of_mem_zip hy).1 with q |q
  ·exact .inl q
  ·exact .inr ⟨q,PySem.W.cellsFrom_some _ _ _ (.inl q)⟩
 refine codeAny_call_function hr.depth (KX _ _ lk) rfl S.co S.gen rfl (PySem.W.codeRec_of KX hcd) (hb _ _ _ _ ?_);refine wpAny_newFunctionEnv_cells S.kind hkind λenv he s1 x=>?_
 subst he;refine⟨lim.keeps x.toInCall.keep,codeAny_func ?_⟩;obtain⟨t,ht,hq⟩:=hbody A outer s H vs Q E (hr.deeper _) hsp;have I:Inv (gc CX P w K mg base N qual scope f cdv A outer s H E) [] (eW N vs) H s1:=Cg S hr.hd e0 hl r x;refine wpAny_mono (ht [] s1 (eW N vs) H _ I hq) (λfl s' hs=>?_) λe s' hs=>hs
 have fin:∀{σ':St} {H':Hp} {v:V} {u:Value},Inv (gc CX P w K mg base N qual scope f cdv A outer s H E) [] σ' H' s'->RelV v u->Q v H'->CE outer P w H s Q u s' :=
  λ{σ' H' v u} J rv q=>⟨v,H',J.os,J.bare,J.base,J.hok,rv,q⟩
 cases fl with
 |ret u =>obtain⟨v,σ',H',J,rv,q⟩:=hs;exact fin J rv q
 |next =>obtain⟨σ',H',J,q⟩:=hs;exact fin (v:=V.non) (u:=Value.none) J rfl q
 |brk =>obtain⟨_,_,_,q⟩:=hs;exact False.elim q
 |cont =>obtain⟨_,_,_,q⟩:=hs;exact False.elim q
section
variable {X:Cx}{x:Str}{p pos:Pos}{e:Expr}{es:List Expr}{t:TA}{id T:String}{r:List V->Hp->VK->Prop}
def tCB(r:List V->Hp->VK->Prop)(t:TA):TE:=λσ H Q=>t σ H λvs H1=>r vs H1 Q
theorem aI(hc:CallR X (.builtin id) r)(hg:Gl X x)(hm:X.mg x=none)(hv:bootBuiltins x=some (.builtin id))(ha:PA X (e::es) t)(hn:x≠"__name__":=by decide)(hdb:(x == ("__debug__":Str))=false:=by decide)
 (he:starEach (e::es) X.env=(false,eval e X.env)::starEach es X.env:=by rfl) (hpl:(backTo pos (starEach es X.env)).any (·.1)=false:=by rfl):PE X (.Call (.Name x p) (e::es) [] pos) (tCB r t):=by
 intro pins s σ H Q I h;refine wpAny_Call_Name_kw (fi I hg hm hv ?_ hn hdb);exact PyProof.Rows.callWith_builtin1 (thn (ha pos pins s σ H _ I h) λus s1 ⟨vs,H1,I1,r1,q1⟩=>hc pins s1 σ H1 vs us Q I1 r1 q1) he hpl
theorem eD(hc:CallR X (.type T) r)(hg:Gl X x)(hm:X.mg x=none)(hv:bootBuiltins x=some (.type T))(ha:PA X (e::es) t)(hn:x≠"__name__":=by decide)(hdb:(x == ("__debug__":Str))=false:=by decide)
 (he:starEach (e::es) X.env=(false,eval e X.env)::starEach es X.env:=by rfl) (hpl:(backTo pos (starEach es X.env)).any (·.1)=false:=by rfl):PE X (.Call (.Name x p) (e::es) [] pos) (tCB r t):=by
 intro pins s σ H Q I h;refine wpAny_Call_Name_kw (fi I hg hm hv ?_ hn hdb);exact PyProof.Rows.callWith_type1 (thn (ha pos pins s σ H _ I h) λus s1 ⟨vs,H1,I1,r1,q1⟩=>hc pins s1 σ H1 vs us Q I1 r1 q1) he hpl
end
end L2
namespace HT
open PySem PyProof.Rows
section
open PySem.SeqAt
open PySem.AutoSeq1 (wpAny_loadPart')
open PySem.MeetsSeq PySem.MeetsSeq2 PySem.MeetsSeq3
end
section
variable {prog:Program}{w:World}{A:Around}{E:Value->Shared->Prop}{s:Shared}
noncomputable def sIx(n d:Nat):Option Int->Nat
 |none=>d
 |some v=>if v<0 then(v+(n:Int)).toNat else min v.toNat n
theorem sIx_none(n d:Nat):sIx n d none=d:=rfl
theorem sIx_nat(n d k:Nat):sIx n d (some (k:Int))=min k n:=by show(if(k:Int)<0 then((k:Int)+(n:Int)).toNat else min (k:Int).toNat n)=min k n;rw[if_neg (by omega),Int.toNat_natCast]
end
end HT
namespace L2
open PySem PySem.Spec PyProof.Rows
abbrev TO:=St->Hp->(Option Int->Hp->Prop)->Prop
noncomputable def PO(X:Cx)(e:Option Expr)(t:TO):Prop :=
 ∀(pins:List (Addr×Obj)) (s:Shared) (σ:St) (H:Hp) (Q:Option Int->Hp->Prop),Inv X pins σ H s->t σ H Q ->
  wpAny (model X.prog X.w) X.A (evalPart e X.env) (λu s'=>∃o H',Inv X pins σ H' s'/\IsPart u o/\Q o H') X.xe s
noncomputable def wH:TO:=λ_ H Q=>Q none H
noncomputable def wG(t:TE):TO:=λσ H Q=>t σ H λx H1=>∃i,x=.int i/\Q (some i) H1
theorem fK{ns:List Int}:∀{us:List Value},Vals (ns.map V.int) us->IntsAre us ns:=by
 induction ns with
 |nil=>intro us r;rw[List.map_nil]at r;cases r;exact .nil
 |cons n ns ih =>
  intro us r;rw[Is]at r;cases r with
  |cons r1 r2 =>obtain⟨t,e⟩:=r1;subst e;exact .cons n t (ih r2)
section
variable {X:Cx}{e:Expr}{te:TE}{lo hi:Option Expr}{tl th:TO}{pos p2:Pos}
theorem jF:PO X none wH:=by intro pins s σ H Q I h;rw[evalPart_none];exact wpAny_pure ⟨none,H,I,.none,h⟩
theorem gG(h:PE X e te):PO X (some e) (wG te):=by
 intro pins s σ H Q I hw;rw[evalPart_some];refine thn (h pins s σ H _ I hw) λu s1 ⟨x,H1,I1,r1,q1⟩=>?_
 obtain⟨i,rfl,q⟩:=q1;obtain⟨t,rfl⟩:=r1;exact⟨some i,H1,I1,.int i t,q⟩
noncomputable def SlR(X:Cx)(r:V->Option Int->Option Int->Hp->VK->Prop):Prop :=
 ∀(pins:List (Addr×Obj)) (s:Shared) (σ:St) (H:Hp) (x:V) (v vl vu:Value) (lo hi:Option Int) (sl:Addr) (Q:VK),Inv X pins σ H s->RelV x v->s.heap.IsSliceOf sl vl vu .none->IsPart vl lo->IsPart vu hi->r x lo hi H Q ->
  ∃T id,typeLookup (.type T) "__getitem__"=pure (some (.builtin id))/\s.TypeIs v T/\wpAny (model X.prog X.w) X.A (getItem v (.ref sl)) (EP X pins σ Q) X.xe s
theorem SlR.or{r r':V->Option Int->Option Int->Hp->VK->Prop}(h:SlR X r)(h':SlR X r'):SlR X (λx lo hi H Q=>r x lo hi H Q\/r' x lo hi H Q):=by
 intro pins s σ H x v vl vu lo hi sl Q I rx hs pl pu q;rcases q with q |q
 ·exact h pins s σ H x v vl vu lo hi sl Q I rx hs pl pu q
 ·exact h' pins s σ H x v vl vu lo hi sl Q I rx hs pl pu q
def tSl(r:V->Option Int->Option Int->Hp->VK->Prop)(te:TE)(tl th:TO):TE:=λσ H Q=>te σ H λx H1=>tl σ H1 λl H2=>th σ H2 λu H3=>r x l u H3 Q
theorem iy{r:V->Option Int->Option Int->Hp->VK->Prop}(hr:SlR X r)(he:PE X e te)(hl:PO X lo tl)(hu:PO X hi th):PE X (.Subscript e (.Slice lo hi none p2) pos) (tSl r te tl th):=by
 intro pins s σ H Q I h;refine Subscript_ (thn (he pins s σ H _ I h) λv s1 ⟨x,H1,I1,r1,q1⟩=>?_);refine wpAny_Slice (thn (hl pins s1 σ H1 _ I1 q1) λvl s2 ⟨l,H2,I2,pl,q2⟩=>thn (hu pins s2 σ H2 _ I2 q2) λvu s3 ⟨u,H3,I3,pu,q3⟩=>?_);rw[evalPart_none];refine wpAny_pure ?_;have I4:Inv X pins σ H3 { s3 with heap:=s3.heap.push { cls:=.type "slice",data:=.fields #[vl,vu,.none] } }:=I3.kept (t':=s3.toks) λb ob q=>Heap.get?_push_of_some _ q
 obtain⟨T,id,hT,ht,hg⟩:=hr pins { s3 with heap:=s3.heap.push { cls:=.type "slice",data:=.fields #[vl,vu,.none] } } σ H3 x v vl vu l u s3.heap.objs.size Q I4 r1 (Heap.IsSliceOf.new ..) pl pu q3;show wpAny (model X.prog X.w) X.A (subscriptTail e (.Slice lo hi none p2) v (.ref s3.heap.objs.size)) (EP X pins σ Q) X.xe { s3 with heap:=s3.heap.push { cls:=.type "slice",data:=.fields #[vl,vu,.none] } };exact tail_any (ops:=[.ref s3.heap.objs.size,v]) ht hT hg (by with_unfolding_all rfl)
noncomputable def dG(xs:List V)(lo hi:Option Int):List V:=(xs.drop (HT.sIx xs.length 0 lo)).take (HT.sIx xs.length xs.length hi-HT.sIx xs.length 0 lo)
theorem Dw(xs:List V)(lo hi:Option Int):(dG xs lo hi).length<=xs.length:=by unfold dG;rw[HZ,List.length_drop];omega
end
noncomputable def ixN(n:Nat)(i:Int):Option Nat:=if 0<=i then(if i<n then some i.toNat else none)else if -(n:Int)<=i then some (i+n).toNat else none
noncomputable def atI{α:Type}(xs:List α)(i:Int):Option α:=(ixN xs.length i).bind λj=>xs[j]?
theorem tY{n:Nat}{i:Int}{j:Nat}(h:ixN n i=some j):seqIndex? i n=some j/\j<n /\ -(n:Int)<=i/\i<n:=by
 unfold ixN at h
 by_cases h0:0<=i
 ·rw[if_pos h0]at h;by_cases h1:i<n
  ·rw[if_pos h1]at h;have e:i.toNat=j:=Option.some.inj h;exact⟨by rw[seqIndex_of h0 h1,e],by omega,by omega,h1⟩
  ·rw[if_neg h1]at h;cases h
 ·rw[if_neg h0]at h;by_cases h1 : -(n:Int)<=i
  ·rw[if_pos h1]at h;have e:(i+n).toNat=j:=Option.some.inj h;exact⟨by rw[seqIndex_neg (by omega) h1,e],by omega,h1,by omega⟩
  ·rw[if_neg h1]at h;cases h
theorem vH{α:Type}{xs:List α}{i:Int}{v:α}(h:atI xs i=some v):∃j,seqIndex? i xs.length=some j/\xs[j]?=some v/\j<xs.length /\ -(xs.length:Int)<=i/\i<xs.length:=by
 unfold atI at h
 cases e:ixN xs.length i with
 |none=>rw[e]at h;cases h
 |some j =>rw[e]at h;obtain⟨h1,h2,h3,h4⟩:=tY e;exact⟨j,h1,h,h2,h3,h4⟩
theorem fy{α:Type}{xs:List α}{j:Nat}{v:α}(h:xs[j]?=some v):atI xs (j:Int)=some v:=by
 have hj:j<xs.length:=(List.getElem?_eq_some_iff.mp h).1
 have e:ixN xs.length (j:Int)=some j:=by unfold ixN;rw[if_pos (by omega),if_pos (by omega)];simp
 unfold atI;rw[e];exact h
theorem vG{α:Type}(xs:List α)(v:α):atI (xs++[v]) (-1)=some v:=by
 have hl:(xs++[v]).length=xs.length+1:=by simp
 have e:ixN (xs++[v]).length (-1)=some xs.length:=by
  unfold ixN;rw[hl,if_neg (by decide),if_pos (by omega)]
  congr 1
  omega
 unfold atI;rw[e];show(xs++[v])[xs.length]?=some v;simp
def EF(b:Expr):Prop:=∀o i,subscripted b false o i=operate [o,i] (getItem o i)
noncomputable def IxR(X:Cx)(r:R2):Prop :=
 ∀(value slice:Expr) (pins:List (Addr×Obj)) (s:Shared) (σ:St) (H:Hp) (x y:V) (v u:Value) (Q:VK),Inv X pins σ H s->RelV x v->RelV y u->r x y H Q ->
  subscripted slice false v u=operate [v,u] (getItem v u)->wpAny (model X.prog X.w) X.A (subscriptTail value slice v u) (EP X pins σ Q) X.xe s
noncomputable def MtR(X:Cx)(id:String)(r:V->List V->Hp->VK->Prop):Prop :=
 ∀(pins:List (Addr×Obj)) (s:Shared) (σ:St) (H:Hp) (x:V) (xs:List V) (v:Value) (us:List Value) (Q:VK),Inv X pins σ H s->RelV x v->Vals xs us->r x xs H Q ->
  wpAny (model X.prog X.w) X.A (call (.builtin id) (v::us)) (EP X pins σ Q) X.xe s
section
variable {X:Cx}{a b:Expr}{ta tb:TE}{pos:Pos}
theorem IxR.or{r r':R2}(h:IxR X r)(h':IxR X r'):IxR X (λx y H Q=>r x y H Q\/r' x y H Q):=by
 intro value slice pins s σ H x y v u Q I rx ry q hs;rcases q with q |q
 ·exact h value slice pins s σ H x y v u Q I rx ry q hs
 ·exact h' value slice pins s σ H x y v u Q I rx ry q hs
theorem MtR.or{id:String}{r r':V->List V->Hp->VK->Prop}(h:MtR X id r)(h':MtR X id r'):MtR X id (λx xs H Q=>r x xs H Q\/r' x xs H Q):=by
 intro pins s σ H x xs v us Q I rx rs q;rcases q with q |q
 ·exact h pins s σ H x xs v us Q I rx rs q
 ·exact h' pins s σ H x xs v us Q I rx rs q
theorem ai{r:R2}(hr:IxR X r)(ha:PE X a ta)(hb:PE X b tb)(hs:EF b):PE X (.Subscript a b pos) (tOp r ta tb):=by intro pins s σ H Q I h;exact Subscript_ (ou ha hb I h λv u s2 x y H2 I2 rx ry q=>hr a b pins s2 σ H2 x y v u Q I2 rx ry q (hs _ _))
def rD(K:PySem.W.Frag):R2:=λx y H Q=>∃p xs i v,x=.ref p/\y=.int i/\SqL K H p xs/\atI xs i=some v/\Q v H
def rC(K:PySem.W.Frag):R2:=λx y H Q=>∃p xs i v,x=.ref p/\y=.int i/\SqT K H p xs/\atI xs i=some v/\Q v H
theorem Cc:IxR X (rD X.K):=by
 intro value slice pins s σ H x y v u Q I rx ry h hs;obtain⟨p,xs,i,z,rfl,rfl,hq,he,q⟩:=h;cases rx;obtain⟨t,rfl⟩:=ry;obtain⟨its,r,pl,hz⟩:=I.list hq;obtain⟨j,h1,h2,h3,h4,h5⟩:=vH he;obtain⟨w,ew,rw'⟩:=r.get h2;have hl:=r.length;have hn:=iF;have fin:EP X pins σ Q w s:=⟨z,H,I,rw',q⟩;by_cases h0:0<=i
 ·have hj:i.toNat=j:=by rw[seqIndex_of h0 h5]at h1;exact Option.some.inj h1
  exact item_listR pl.isList h0 (by omega) (by rw[hj];simpa using ew) fin hs
 ·have hj:(i+(its.toArray.size:Int)).toNat=j:=by rw[seqIndex_neg (by omega) h4]at h1;rw[HK,<- hl];exact Option.some.inj h1
  exact subscriptTail_builtinR (x:=w) pl.isList.typeIs slot_list_getitem.lookup
   (wpAny_getItem_list_neg (Q:=λr s'=>r=w/\EP X pins σ Q r s') pl.isList (by omega) (by rw[HK]<;>omega) (by omega) (by rw[hj];simpa using ew) ⟨rfl,fin⟩) hs
theorem Cb:IxR X (rC X.K):=by
 intro value slice pins s σ H x y v u Q I rx ry h hs;obtain⟨p,xs,i,z,rfl,rfl,hq,he,q⟩:=h;cases rx;obtain⟨t,rfl⟩:=ry;obtain⟨its,r,pl,hz⟩:=I.tuple hq;obtain⟨j,h1,h2,h3,h4,h5⟩:=vH he;obtain⟨w,ew,rw'⟩:=r.get h2;have hl:=r.length;have hn:=iF;have fin:EP X pins σ Q w s:=⟨z,H,I,rw',q⟩
 exact subscriptTail_builtinR (x:=w) pl.typeIs slot_tuple_getitem.lookup
  (getItem_tuple (j:=j) (Q:=λr s'=>r=w/\EP X pins σ Q r s') pl (by omega) (by omega) (by rw[HK,<- hl];exact h1) (by simpa using ew) ⟨rfl,fin⟩) hs
theorem AK(its:List Value)(n j:Nat)(u:Value):Obj.mapSeq (·.setIfInBounds j u) { cls:=.type "list",data:=.seq its.toArray n }={ cls:=.type "list",data:=.seq (its.set j u).toArray n }:=by simp[Obj.mapSeq]
theorem Inv.lst{pins:List (Addr×Obj)}{σ:St}{H:Hp}{s:Shared}{p:Addr}{xs:List V}(I:Inv X pins σ H s)(h:H p=some (.lst xs)) :
 ∃(its:List Value) (n:Nat),Vals xs its/\s.heap.get? p=some { cls:=.type "list",data:=.seq its.toArray n }/\xs.length<=sizeLine:=by
 obtain⟨z,its,n,r,e⟩:=I.hok p _ h;exact⟨its,n,r,e,z⟩
theorem Inv.lstUpd{pins:List (Addr×Obj)}{σ:St}{H:Hp}{s:Shared}{p:Addr}{xs ys:List V}{its its':List Value}{n n':Nat}{f:Obj->Obj}(I:Inv X pins σ H s)(h:H p=some (.lst xs))
 (ho:s.heap.get? p=some { cls:=.type "list",data:=.seq its.toArray n }) (hf:f { cls:=.type "list",data:=.seq its.toArray n }={ cls:=.type "list",data:=.seq its'.toArray n' }) (r:Vals ys its') (hz:ys.length<=sizeLine) (t:Nat) :
 Inv X pins σ (upd H p (.lst ys)) { s with heap:=s.heap.update p f,toks:=t }:=by
 have e:(s.heap.update p f).get? p=some { cls:=.type "list",data:=.seq its'.toArray n' }:=by rw[Heap.get?_update_self f ho (by rw[hf]<;>rfl),hf]
 refine I.write (x:=p) (e:=p) (by rw[h];trivial) (.inl rfl) (λb u hb q=>(Heap.get?_update_other _ _ (Ne.symm hb)).trans q) ⟨_,e⟩ ?_;exact⟨hz,its',n',r,e⟩
noncomputable def yq:V->V->V->Hp->(Hp->Prop)->Prop:=λo i v H Q=>∃p xs k j,o=.ref p/\i=.int k/\H p=some (.lst xs)/\ixN xs.length k=some j/\Q (upd H p (.lst (xs.set j v)))
theorem dm:vN X yq:=by
 intro pins s σ H o i v ov iv u Q I ro ri rv h;obtain⟨p,xs,k,j,rfl,rfl,hp,hj,q⟩:=h;cases ro;obtain⟨t,rfl⟩:=ri;obtain⟨its,n,r,ho,hz⟩:=I.lst hp;obtain⟨h1,h2,h3,h4⟩:=tY hj;have hl:=r.length;have hn:=iF
 have I':Inv X pins σ (upd H p (.lst (xs.set j v))) { s with heap:=s.heap.update p (Obj.mapSeq (·.setIfInBounds j u)) } :=
  I.lstUpd hp ho (AK its n j u) (r.set rv j) (by rw[HU];exact hz) s.toks
 by_cases h0:0<=k
 ·have hk:k.toNat=j:=by rw[seqIndex_of h0 h4]at h1;exact Option.some.inj h1
  exact PySem.W.ki_setAt ho h0 (by omega) (by rw[HK,<- hl];exact h4) (by rw[hk];exact⟨_,I',q⟩)
 ·have hk:(k+(its.toArray.size:Int)).toNat=j:=by rw[seqIndex_neg (by omega) h3]at h1;rw[HK,<- hl];exact Option.some.inj h1
  exact PySem.W.ki_setBack ho (by omega) (by rw[HK,<- hl];exact h3) (by omega) (by rw[hk];exact⟨_,I',q⟩)
theorem wZ(lo hi:Option Int)(n:Nat):(sliceBounds lo hi none n).1=((HT.sIx n 0 lo:Nat):Int)/\(sliceBounds lo hi none n).2.1=((HT.sIx n n hi:Nat):Int)/\(sliceBounds lo hi none n).2.2=1:=by
 refine⟨?_,?_,rfl⟩
 ·cases lo with
  |none=>simp[sliceBounds,HT.sIx]
  |some i =>
   simp only[sliceBounds,HT.sIx,Option.getD_none,show(1:Int)>0 by decide,if_true];by_cases h:i<0
   ·simp only[h,if_true]<;>omega
   ·simp only[h,if_false]<;>omega
 ·cases hi with
  |none=>simp[sliceBounds,HT.sIx]
  |some i =>
   simp only[sliceBounds,HT.sIx,Option.getD_none,show(1:Int)>0 by decide,if_true];by_cases h:i<0
   ·simp only[h,if_true]<;>omega
   ·simp only[h,if_false]<;>omega
theorem w6(its:List Value)(lo hi:Option Int):slicePick its.toArray lo hi none=((its.drop (HT.sIx its.length 0 lo)).take (HT.sIx its.length its.length hi-HT.sIx its.length 0 lo)).toArray:=by obtain⟨h1,h2,h3⟩:=wZ lo hi its.toArray.size;unfold slicePick;rw[h1,h2,h3];simp only[sliceRange_one,pick_run,HK]<;>rfl
noncomputable def jC(K:PySem.W.Frag):V->Option Int->Option Int->Hp->VK->Prop:=λx lo hi H Q=>∃a xs,x=.ref a/\SqL K H a xs/\∀p,H p=none->Q (.ref p) (upd H p (.lst (dG xs lo hi)))
theorem w8:SlR X (jC X.K):=by intro pins s σ H x v vl vu lo hi sl Q I rx hs pl pu h;obtain⟨a,xs,rfl,hx,q⟩:=h;cases rx;obtain⟨its,r,ht,hz⟩:=I.list hx;have hlen:=r.length;refine⟨"list",_,slot_list_getitem.lookup,ht.isList.typeIs,?_⟩;refine wpAny_getItem_list_slice ht.isList hs pl pu .none (by simp) ?_ (by rw[HK]<;>omega);rw[w6,<- hlen];refine⟨.ref s.heap.objs.size,_,I.laid (t':=s.toks) (o:=.lst (dG xs lo hi)) (λb ob q=>Heap.get?_push_of_some _ q) (Ht _) ?_,rfl,q _ (I.hok.fresh (Ht _))⟩;exact⟨HH (Dw xs lo hi) hz,_,0,(r.drop (HT.sIx xs.length 0 lo)).take (HT.sIx xs.length xs.length hi-HT.sIx xs.length 0 lo),Heap.get?_push_size _ rfl⟩
theorem DX:CallR X (.builtin "len") (λxs H Q=>∃p ys,xs=[.ref p]/\(SqL X.K H p ys\/SqT X.K H p ys)/\Q (.int ys.length) H):=by
 intro pins s σ H xs us Q I r h;obtain⟨p,ys,rfl,hq,q⟩:=h;obtain⟨u,rfl,rx⟩:=gn r;cases rx;have hn:=iF;rcases hq with hq |hq
 ·obtain⟨its,r',pl,hz⟩:=I.list hq;have hlen:=r'.length;exact Calls.call_len_list pl.isList (by simp only[HK]<;>omega) ⟨.int ys.length,H,I.tok _,⟨s.toks+1,by rw[HK,hlen]⟩,q⟩
 ·obtain⟨its,r',pl,hz⟩:=I.tuple hq;have hlen:=r'.length;exact len_tuple pl (by simp only[HK]<;>omega) ⟨.int ys.length,H,I.tok _,⟨s.toks+1,by rw[HK,hlen]⟩,q⟩
theorem CallR.or{f:Value}{r r':List V->Hp->VK->Prop}(h:CallR X f r)(h':CallR X f r'):CallR X f (λxs H Q=>r xs H Q\/r' xs H Q):=by
 intro pins s σ H xs us Q I rs q;rcases q with q |q
 ·exact h pins s σ H xs us Q I rs q
 ·exact h' pins s σ H xs us Q I rs q
theorem DW:CallR X (.type "list") (λxs H Q=>∃p ys,xs=[.ref p]/\(SqL X.K H p ys\/SqT X.K H p ys)/\∀l,H l=none->Q (.ref l) (upd H l (.lst ys))):=by
 intro pins s σ H xs us Q I r h;obtain⟨p,ys,rfl,hq,q⟩:=h;obtain⟨u,rfl,rx⟩:=gn r;cases rx
 have fin:∀(its:List Value),Vals ys its->ys.length<=sizeLine->∀(h':Heap) (c':Nat),(∀b o',s.heap.get? b=some o'->h'.get? b=some o') ->
  h'.get? s.heap.objs.size=some { cls:=.type "list",dict:=none,data:=.seq its.toArray c',slots:=#[] }->EP X pins σ Q (.ref s.heap.objs.size) { s with heap:=h' }:=λits r' hz h' c' kp e =>
  ⟨.ref s.heap.objs.size,_,I.laid (t':=s.toks) kp (Ht _) (show ObjOk X.prog X.w _ h' _ (.lst ys)from⟨hz,its,c',r',e⟩),rfl,q _ (I.hok.fresh (Ht _))⟩
 rcases hq with hq |hq
 ·obtain⟨its,r',pl,hz⟩:=I.list hq;have hlen:=r'.length;obtain⟨o,ho,hc,n,hd⟩:=pl.isList;exact call_list_seq p (.inl rfl) ho hc hd (λh' c' kp e=>fin its r' hz h' c' kp e) (by simp only[HK]<;>omega)
 ·obtain⟨its,r',pl,hz⟩:=I.tuple hq;have hlen:=r'.length;obtain⟨o,ho,hc,n,hd⟩:=pl;exact call_list_seq p (.inr rfl) ho hc hd (λh' c' kp e=>fin its r' hz h' c' kp e) (by simp only[HK]<;>omega)
def tyV(K:PySem.W.Frag)(T:String)(x:V)(H:Hp):Prop:=match x with
 |.str _=>T="str"
 |.int _=>T="int"
 |.ref p=>(T="list"/\∃xs,SqL K H p xs)\/(T="tuple"/\∃o,K.lookup p=some o/\o.cls=.type "tuple"/\o.dict=none) \/
  (T="dict"/\((∃kvs,H p=some (.dK kvs))\/∃kvs,H p=some (.dT kvs)))\/(T="set"/\∃S n,H p=some (.set S n))
 |_=>False
theorem pe{pins:List (Addr×Obj)}{σ:St}{H:Hp}{s:Shared}{T:String}{x:V}{v:Value}(I:Inv X pins σ H s)(r:RelV x v)(ty:tyV X.K T x H) :
 s.TypeIs v T/\∀a,v=.ref a->∃ob,s.heap.get? a=some ob/\ob.dict=none:=by
 cases x with
 |str z =>obtain⟨t,rfl⟩:=r;cases(show T="str" from ty);exact⟨typeIs_str s z t,λ_ e=>nomatch e⟩
 |int i =>obtain⟨t,rfl⟩:=r;cases(show T="int" from ty);exact⟨typeIs_int s i t,λ_ e=>nomatch e⟩
 |ref p =>
  cases r;rcases ty with⟨rfl,xs,hq⟩ |⟨rfl,o,hk,hc,hd⟩ |⟨rfl,hk⟩ |⟨rfl,S,n,hk⟩
  ·obtain⟨its,_,pl,_⟩:=I.list hq;refine⟨pl.isList.typeIs,λa e=>?_⟩;cases e;obtain⟨o,n,e,c,hd,_⟩:=pl;exact⟨o,e,hd⟩
  ·refine⟨⟨o,I.kIn p o hk,hc⟩,λa e=>?_⟩;cases e;exact⟨o,I.kIn _ o hk,hd⟩
  ·have z:∃o,s.heap.get? p=some o/\o.ExactDict:=by
    rcases hk with⟨kvs,hk⟩ |⟨kvs,hk⟩
    ·obtain⟨_,_,_,_,o,_,_,e,ex,_⟩:=I.hok p _ hk;exact⟨o,e,ex⟩
    ·obtain⟨_,_,_,_,o,_,_,e,ex,_⟩:=I.hok p _ hk;exact⟨o,e,ex⟩
   obtain⟨o,e,ex⟩:=z;refine⟨⟨o,e,ex.1⟩,λa e2=>?_⟩;cases e2;exact⟨o,e,ex.2.1⟩
  ·obtain⟨o,_,_,_,e,ex,_⟩:=I.hok p _ hk;refine⟨⟨o,e,ex.1⟩,λa e2=>?_⟩;cases e2;exact⟨o,e,ex.2.1⟩
 |_=>exact False.elim ty
def wO(K:PySem.W.Frag)(T:String)(r:V->List V->Hp->VK->Prop)(to:TE):TE:=λσ H Q=>to σ H λx H1=>tyV K T x H1/\r x [] H1 Q
def tBM(K:PySem.W.Frag)(T:String)(r:V->List V->Hp->VK->Prop)(to:TE)(t:TA):TE:=λσ H Q=>to σ H λx H1=>tyV K T x H1/\t σ H1 λxs H2=>r x xs H2 Q
variable {o e:Expr}{es:List Expr}{to:TE}{t:TA}{name:Str}{apos cpos:Pos}{T id:String}{r:V->List V->Hp->VK->Prop}
theorem r8(pa:PlainAttrs T)(slot:Slot T name id)(hty:typeOf (.builtin id)=pure (.type "method_descriptor"))(hm:MtR X id r)(ho:PE X o to)
 (hbase:attributeBase o name X.env (eval o X.env)=eval o X.env:=by rfl) (hline:(apos.endLine == cpos.line)=true:=by rfl):PE X (.Call (.Attribute o name apos) [] [] cpos) (wO X.K T r to):=by
 intro pins s σ H Q I h;refine wpAny_Call_method0_late hbase hline (thn (ho pins s σ H _ I h) λv s1 ⟨x,H1,I1,r1,ty,q1⟩=>?_);obtain⟨h1,h2⟩:=pe I1 r1 ty;exact⟨T,id,pa,slot,hty,h1,h2,Calls.callWith_builtin rfl (PySem.evalArgs_none (hm pins s1 σ H1 x [] v [] Q I1 r1 .nil q1))⟩
theorem cH(pa:PlainAttrs T)(slot:Slot T name id)(hty:typeOf (.builtin id)=pure (.type "method_descriptor"))(hm:MtR X id r)(ho:PE X o to)(ha:PA X (e::es) t)
 (hbase:attributeBase o name X.env (eval o X.env)=eval o X.env:=by rfl)
 (hfew:((backTo cpos (starEach (e::es) X.env)).all (λx=>!x.1)&&(backToKw cpos (keywordEach [] X.env)).all (λx=>x.1.isSome)
   && decide ((e::es).length+([]:List Keyword).length+(if([]:List Keyword).isEmpty then 0 else 1)<30))=true:=by rfl)
 (hline:(apos.endLine == cpos.line)=true:=by rfl) (hs:starEach (e::es) X.env=(false,eval e X.env)::starEach es X.env:=by rfl) (hplain:(backTo cpos (starEach es X.env)).any (·.1)=false:=by rfl) :
 PE X (.Call (.Attribute o name apos) (e::es) [] cpos) (tBM X.K T r to t):=by
 intro pins s σ H Q I h;refine wpAny_Call_method_late hbase hfew hline rfl (thn (ho pins s σ H _ I h) λv s1 ⟨x,H1,I1,r1,ty,q1⟩=>?_);obtain⟨h1,h2⟩:=pe I1 r1 ty;refine⟨T,id,pa,slot,hty,h1,h2,?_⟩;have hA:=ha cpos pins s1 σ H1 _ I1 q1;rw[hs]at hA ⊢;refine Calls.callWith_builtin (by show(false || (backTo cpos (starEach es X.env)).any (·.1))=false;rw[hplain]<;>rfl) (Calls.evalArgs_plain ?_);exact thn hA λus s2 ⟨vs,H2,I2,r2,q2⟩=>hm pins s2 σ H2 x vs v us Q I2 r1 r2 q2
end
noncomputable def MtM(X:Cx)(id:String)(r:V->List V->Hp->VK->Prop):Prop :=
 ∀(pins:List (Addr×Obj)) (s:Shared) (σ:St) (H:Hp) (x:V) (xs:List V) (v:Value) (us:List Value) (Q:VK),Inv X pins σ H s->RelV x v->Vals xs us->r x xs H Q ->
  wpAny (model X.prog X.w) X.A (call (.builtin id) (v::us)) (EP X pins σ Q) X.xe s
theorem Vals.one:∀{x:V} {us:List Value},Vals [x] us->∃u,us=[u]/\RelV x u
 |_,_,.cons r .nil=>⟨_,rfl,r⟩
theorem Vals.two:∀{x y:V} {us:List Value},Vals [x,y] us->∃u v,us=[u,v]/\RelV x u/\RelV y v
 |_,_,_,.cons r (.cons q .nil)=>⟨_,_,rfl,r,q⟩
theorem Vals.zero:∀{us:List Value},Vals [] us->us=[]
 |_,.nil=>rfl
theorem Vals.dropLast{xs:List V}{us:List Value}(h:Vals xs us):Vals xs.dropLast us.dropLast:=by
 induction h with
 |nil=>exact .nil
 |cons r t ih =>
  cases t with
  |nil=>exact .nil
  |cons q t'=>exact .cons r ih
theorem Vals.eraseIdx:∀{xs:List V} {us:List Value} (i:Nat),Vals xs us->Vals (xs.eraseIdx i) (us.eraseIdx i)
 |_,_,_,.nil=>.nil
 |_,_,0,.cons _ t=>t
 |_,_,i+1,.cons r t=>.cons r (Vals.eraseIdx i t)
theorem Vals.reverse{xs:List V}{us:List Value}(h:Vals xs us):Vals xs.reverse us.reverse:=by
 induction h with
 |nil=>exact .nil
 |cons r t ih=>rw[List.reverse_cons,List.reverse_cons];exact Vals.append ih (.cons r .nil)
theorem Vals.rep{xs:List V}{us:List Value}(h:Vals xs us):∀k:Nat,Vals (List.replicate k xs).flatten (List.replicate k us).flatten
 |0=>.nil
 |k+1=>by rw[IP,IP,Jq,Jq];exact Vals.append h (Vals.rep h k)
theorem Dh{α:Type}(l:List α):l.eraseIdx (l.length-1)=l.dropLast:=by
 induction l with
 |nil=>rfl
 |cons a r ih =>
  cases r with
  |nil=>rfl
  |cons b r =>
   have e:(a::b::r).length-1=((b::r).length-1)+1:=by have h1:(a::b::r).length=r.length+2:=rfl;have h2:(b::r).length=r.length+1:=rfl;omega
   rw[e,List.eraseIdx_cons_succ,ih]
   all_goals rfl
theorem uu(its:List Value):∀(k:Nat) (acc:List Value),
 List.foldl (λx1 x2=>x1++x2) acc.toArray (List.replicate k its.toArray)=(acc++(List.replicate k its).flatten).toArray
 |0,acc=>by simp
 |k+1,acc=>by
  have e:acc.toArray++its.toArray=(acc++its).toArray:=by simp
  have e2:(acc++its)++(List.replicate k its).flatten=acc++(List.replicate (k+1) its).flatten:=by rw[IP,Jq,List.append_assoc]
  rw[<- e2,<- uu its k (acc++its),<- e,IP,List.foldl_cons]
section
variable {X:Cx}{pins:List (Addr×Obj)}{σ:St}{H:Hp}{s:Shared}{l b:Addr}{xs ys zs:List V}
theorem Inv.lset{its its':List Value}{n:Nat}{f:Array Value->Array Value}{t':Nat}(I:Inv X pins σ H s)(hH:H l=some (.lst xs))
 (e:s.heap.get? l=some { cls:=.type "list",data:=.seq its.toArray n }) (hf:f its.toArray=its'.toArray) (hv:Vals ys its') (hz:ys.length<=sizeLine) :
 Inv X pins σ (upd H l (.lst ys)) { s with heap:=s.heap.update l (Obj.mapSeq f),toks:=t' }:=by
 have q:=PySem.IsL.update e f;rw[hf]at q;refine I.write (x:=l) (e:=l) (by rw[hH];exact trivial) (.inl rfl) (λb' u hb hu=>(Heap.get?_update_other s.heap (Obj.mapSeq f) (Ne.symm hb)).trans hu) ⟨_,q⟩ ?_;exact⟨hz,its',_,hv,q⟩
theorem Inv.lnew{its:List Value}{t':Nat}(I:Inv X pins σ H s)(hv:Vals ys its)(hz:ys.length<=sizeLine) :
 Inv X pins σ (upd H s.heap.objs.size (.lst ys)) { s with heap:=s.heap.push { cls:=.type "list",data:=.seq its.toArray },toks:=t' } :=
 I.laid (λ_ _ q=>Heap.get?_push_of_some _ q) (Ht _) ⟨hz,its,0,hv,Heap.get?_push_size _ rfl⟩
theorem Inv.fresh(I:Inv X pins σ H s):H s.heap.objs.size=none:=I.hok.fresh (Ht _)
theorem Inv.lstM(I:Inv X pins σ H s)(hH:H l=some (.lst xs)):xs.length<=sizeLine/\∃(its:List Value) (n:Nat),Vals xs its/\xs.length=its.length/\s.heap.get? l=some { cls:=.type "list",data:=.seq its.toArray n }:=by obtain⟨z,its,n,r,e⟩:=I.hok l _ hH;exact⟨z,its,n,r,r.length,e⟩
theorem As{n:Nat}(h:n<=sizeLine):Builtin.List.listTooLong n=false:=by unfold Builtin.List.listTooLong;exact decide_eq_false (by omega)
end
section
variable {X:Cx}
noncomputable def yx:V->List V->Hp->VK->Prop:=λx vs H Q=>∃l xs y,x=.ref l/\vs=[y]/\H l=some (.lst xs)/\xs.length<sizeLine/\Q .non (upd H l (.lst (xs++[y])))
theorem cJ:MtM X "list.append" yx:=by intro pins s σ H x vs v us Q I rx rv h;obtain⟨l,xs,y,rfl,rfl,hH,hz,q⟩:=h;cases rx;obtain⟨u,rfl,ru⟩:=rv.one;obtain⟨z,its,n,r,hl,e⟩:=I.lstM hH;refine call_meets F.slot_list_append ⟨_,e,rfl⟩ F.entry_list_append (F.args_list_append_2 _ _) (PySem.list_append l its.toArray n u (by rw[HK];omega)) ⟨e,?_⟩;refine⟨.non,_,I.lset (its':=its++[u]) hH e (by simp) (r.append (.cons ru .nil)) ?_,rfl,q⟩;rw[Hv,List.length_singleton];omega
noncomputable def yt:V->List V->Hp->VK->Prop:=λx vs H Q=>∃l xs y,x=.ref l/\vs=[]/\H l=some (.lst xs)/\xs[xs.length-1]?=some y/\Q y (upd H l (.lst xs.dropLast))
theorem sR:MtM X "list.pop" yt:=by
 intro pins s σ H x vs v us Q I rx rv h;obtain⟨l,xs,y,rfl,rfl,hH,hy,q⟩:=h;cases rx;have hus:=rv.zero;subst hus;obtain⟨z,its,n,r,hl,e⟩:=I.lstM hH;obtain⟨u,hu,ru⟩:=r.get hy
 have hy':its.toArray[its.toArray.size-1]?=some u:=by show its.toArray[its.length-1]?=some u;rw[<- Array.getElem?_toList,<- hl];exact hu
 refine call_meets F.slot_list_pop ⟨_,e,rfl⟩ F.entry_list_pop (F.args_list_pop_1 _) (MeetsSeq.list_pop_last l its.toArray n u hy' (by rw[HK];omega)) ⟨e,?_⟩;refine⟨y,_,I.lset (its':=its.dropLast) hH e ?_ r.dropLast ?_,ru,q⟩
 ·show its.toArray.eraseIdxIfInBounds (its.toArray.size-1)=its.dropLast.toArray;rw[HK,List.eraseIdxIfInBounds_toArray,Dh]
 ·rw[IQ];omega
def yw:R2:=λx y H Q=>∃l b xs zs,x=.ref l/\y=.ref b/\H l=some (.lst xs)/\H b=some (.lst zs)/\xs.length+zs.length<=sizeLine/\∀p,H p=none->Q (.ref p) (upd H p (.lst (xs++zs)))
theorem si:OpR X (binaryOp .Add) yw:=by
 intro pins s σ H x y v u Q I rx ry h;obtain⟨l,b,xs,zs,rfl,rfl,hH,hB,hz,q⟩:=h;cases rx;cases ry;obtain⟨z,its,n,r,hl,e⟩:=I.lstM hH;obtain⟨z2,its2,n2,r2,hl2,e2⟩:=I.lstM hB;refine PySem.P.add_list e e2 ?_ (by rw[HK,HK];omega);have ea:its.toArray++its2.toArray=(its++its2).toArray:=by simp
 rw[ea];exact⟨.ref _,_,I.lnew (t':=s.toks) (r.append r2) (by rw[Hv];omega),rfl,q _ I.fresh⟩
def yr:R2:=λx y H Q=>∃l k xs,x=.ref l/\y=.int k/\H l=some (.lst xs) /\ -(2^63)<=k/\k<2^63/\xs.length*k.toNat<=sizeLine /\
 ∀p,H p=none->Q (.ref p) (upd H p (.lst (List.replicate k.toNat xs).flatten))
theorem Bq{α:Type}(xs:List α)(k:Nat):(List.replicate k xs).flatten.length=k*xs.length:=by
 induction k with
 |zero=>simp
 |succ k ih=>rw[IP,Jq,Hv,ih,Nat.succ_mul,Nat.add_comm]
theorem yX:OpR X (binaryOp .Mult) yr:=by
 intro pins s σ H x y v u Q I rx ry h;obtain⟨l,k,xs,rfl,rfl,hH,h1,h2,hz,q⟩:=h;cases rx;obtain⟨t,rfl⟩:=ry;obtain⟨z,its,n,r,hl,e⟩:=I.lstM hH;have hlen:its.toArray.size*k.toNat<=sizeLine:=by rw[HK,<- hl];exact hz
 have hcap:¬its.toArray.size*k.toNat>(2^63-1)/8:=by
  have:(sizeLine:Nat)<=(2^63-1)/8:=by decide
  omega
 have hfit:¬(!Builtin.List.listFitsIndex k)=true:=by rw[fitsIndex_both h1 h2];exact Ir
 have hlong:¬Builtin.List.listTooLong (its.toArray.size*k.toNat)=true:=by rw[As hlen];exact Ir
 have hnew:List.foldl (λx1 x2=>x1++x2) #[] (List.replicate (if its.toArray.isEmpty=true then 0 else k.toNat) its.toArray)=(List.replicate k.toNat its).flatten.toArray:=by
  have f0:∀m:Nat,List.foldl (λx1 x2=>x1++x2) #[] (List.replicate m its.toArray)=(List.replicate m its).flatten.toArray:=λm=>by have:=uu its m [];rw[List.nil_append]at this;exact this
  rw[f0];cases its with
  |nil=>simp
  |cons a r'=>rw[if_neg (by simp)]
 refine wpAny_binaryOp_repeat_ref (T:="list") (U:="int") (by decide) ⟨_,e,rfl⟩ (λs'=>typeIs_int s' k t) noFill_list_mul F.fills_int_mul F.slot_int_rmul repeat_list F.slot_int_index.lookup
  (call_meets F.slot_int_rmul (typeIs_int s k t) F.entry_int_rmul (F.args_int_rmul_2 _ _) (int___rmul___int_list k t l its.toArray n)
    ⟨e,rfl,⟨_,e,rfl⟩,call_meets F.slot_list_mul ⟨_,e,rfl⟩ F.entry_list_mul (F.args_list_mul_2 _ _) (AutoListH.list___mul___list_int_3 l its.toArray n k t hfit hcap hlong) ⟨e,?_⟩⟩)
 rw[hnew];exact⟨.ref _,_,I.lnew (t':=s.toks) (r.rep k.toNat) (by rw[Bq,Nat.mul_comm];exact hz),rfl,q _ I.fresh⟩
end
section
variable {prog:Program}{w:World}{A:Around}{E:Value->Shared->Prop}{s:Shared}
end
section
variable {X:Cx}
end
end L2
namespace Att
open PySem PySem.W PySem.Calls PyProof.Rows
theorem Ch{P:Params}{h:Heap}:∀(ns:List Int) (vs:List Value),WellAll P h vs (ns.map WData.int)->IntsAre vs ns:=by
 intro ns
 induction ns with
 |nil =>intro vs w;rw[List.map_nil]at w;cases w;exact .nil
 |cons n ns ih =>
  intro vs w;rw[Is]at w;cases w with
  |cons a b =>cases a;exact .cons _ _ (ih _ b)
theorem xA{l:OpenLaw}{n:Nat}(hn:l.most=some n){P:Params}{h:Heap}{args:List WData}{vals:List Value}
 (hpre:l.row.toRowW.claim.pre args=true) (hwl:WellAll P h vals args) :
 ∃a vs ns,vals=[Value.ref a]/\args=[WData.list (ns.map WData.int)]/\h.get? a=some { cls:=.type "list",data:=.seq vs.toArray }/\IntsAre vs ns/\ns.length<=n:=by
 have hsh:WShape.hasAll [] args [.list .int]=true:=(pre_splitW hpre).1;have hc:l.pre.holds [] { args:=args }=true:=(pre_splitW hpre).2;obtain⟨d,r,rfl,h1,h2⟩:=hasAllW_cons hsh;obtain rfl:=hasAllW_nil h2;obtain⟨xs,rfl,h3⟩:=hasW_list h1;obtain⟨ns,rfl⟩:=items_int h3
 have hlen:ns.length<=n:=by
  unfold OpenLaw.pre at hc
  have h4:(WTm.not (.lt (.lit (.int (n:Int))) (.len (.arg 0)))).holds [] { args:=[.list (ns.map .int)] }=true:=by have h4:=(holds_andW hc).1;rw[hn]at h4;exact h4
  have h5:=condW_of h4 (w_not (w_lt w_lit (w_len_list (w_arg rfl))));rw[Hs]at h5;refine Ix λq=>?_
  have q':(n:Int)<((ns.length:Nat):Int):=by omega
  first
   | (rw[decide_eq_true q']at h5;exact absurd h5 (by decide))
   | (simp at h5;omega)
 cases hwl with
 |cons w1 w2 =>
  cases w2;cases w1 with
  |list ho hall=>exact⟨_,_,ns,rfl,rfl,ho,Ch ns _ hall,hlen⟩
theorem yG(l:OpenLaw)(args:List WData):l.row.toRowW.claim.post args (.bool true) args=true :=
 postW_of (r:=l.row.toRowW) (X:=(true == true))
  (show WShape.has [] (.bool true) .bool=true by first |rfl |decide |simp[WShape.has,WShape.arms,WShape.armsAll])
  (show(WTm.eq .res (.lit (.bool true))).value [] { args:=args,res:=some (.bool true),after:=args }=some (.bool (true == true))from w_eq_bool (w_res rfl) w_lit) rfl
theorem attach_call{l:OpenLaw}{n:Nat}{q:Program}{loose:List Str}{XP:(Str->Option Value)->Heap->Prop}{YP:World->Heap->Prop}{d:DefRec}
 (hn:l.most=some n) (hdf:d.params.defaults=[])
 (call:∀(w:World) (s₀ s₁:Shared) (mg mb:Str->Option Value) (fa:Addr) (o:Obj) (pm cd doc:Value) (a:Addr) (vs:List Value) (ns:List Int),
   Ground q loose [] XP w s₀ mg mb s₁.heap->YP w s₁.heap ->
   s₁.heap.get? fa=some o->o.data=.func (docDef d.name d.params d.body d.scope pm cd doc)->s₁.heap.CodeRec cd d.name->mg d.name=some (.ref fa) ->
   s₁.heap.get? a=some { cls:=.type "list",data:=.seq vs.toArray }->IntsAre vs ns->ns.length<=n->s₁.gens=#[] ->
   codeAny (model l.prog w) callerA (.call (.ref fa) ⟨[.ref a],[]⟩) (λr s'=>r=.ok (.ret (.bool true))/\OldK s₁.heap s'.heap/\s'.os=s₁.os/\AllBare s'.gens) s₁) :
 WalkO q loose XP YP l.row.toRowW d [] (λf vs=>PySem.call f vs):=by
 intro w s₀ s₁ mg mb G Y fa o pm cd doc dV kV ho hd hcd hD hmg hg args vals as hpre hlay hrd hwl hlo;obtain rfl:dV=.none:=Dflts.none hD hdf;obtain rfl:kV=.none:=Dflts.noKw hD;obtain⟨a,vs,ns,rfl,rfl,hobj,hints,hlen⟩:=xA hn hpre hwl;refine enter_call (codeAny_mono (call w s₀ s₁ mg mb fa o pm cd doc a vs ns G Y ho (fd_plain hd) hcd hmg hobj hints hlen hg) λr s' hq=>?_);obtain⟨rfl,h2,h3,h4⟩:=hq;exact⟨.inl ⟨.bool true,.bool true,[],rfl,λ_=>rfl,.bool true,yG l _,λ_=>⟨List.Pairwise.nil,λ_ hm=>(nomatch hm)⟩⟩,h2,h3,h4⟩
section
variable {prog:Program}{w:World}{A:Around}{E:Value->Shared->Prop}{s:Shared}{K:Frag}
end
end Att
namespace L2
open PySem PySem.Spec PyProof.Rows
theorem o6:∀{vs:List Value} {ns:List Int},IntsAre vs ns->Vals (ns.map V.int) vs
 |_,_,.nil=>.nil
 |_,_,.cons n t h=>.cons ⟨t,rfl⟩ (o6 h)
def oH(H:Hp):Prop:=∀b,H b=none\/∃o xs,H b=some (.frz o (.lst xs))
noncomputable def uc(s:Stmt)(j:Nat):Stmt:=match s with
 |.ClassDef _ _ _ body _ _ _ _ _ _ _=>body.getD j (.Pass ⟨0,0,0,0⟩)
 |_=>.Pass ⟨0,0,0,0⟩
noncomputable def df(s:Stmt):Arguments:=match s with
 |.FunctionDef _ a _ _ _ _ _ _ _ _=>a
 |_=>{ posonlyargs:=[],args:=[],vararg:=none,kwonlyargs:=[],kw_defaults:=[],kwarg:=none,defaults:=[] }
noncomputable def cQ(s:Stmt):List Stmt:=match s with
 |.FunctionDef _ _ b _ _ _ _ _ _ _=>b
 |_=>[]
noncomputable def aA(s:Stmt):Scope:=match s with
 |.FunctionDef _ _ _ _ _ _ sc _ _ _=>sc
 |_=>{ kind:=.function,names:=[],isGenerator:=false,isCoroutine:=false }
abbrev CX0:CXT:=λ_ _ _ _ _ _=>False
abbrev E0:XK:=λ_ _ _=>False
theorem ar{X:Cx}:ia CX0 X E0:=λ_ _ _ _ _ _ _ h=>h.elim
structure Fun(K:PySem.W.Frag)(x qual:Str)(st:Stmt)(f:Addr)(fd:FuncData):Prop where
 ex:∃(oc:Value) (od:Option Addr) (kV doc pm:Value) (an:Option Addr) (cdv ct:Value) (osl:Array (Option Value)),
  fd=PySem.W.fnOf x qual (df st) (cQ st) (aA st) .none kV doc pm an cdv ct/\K.lookup f=some ⟨oc,od,.func fd,osl⟩/\PySem.W.codeIn K cdv qual=true
 kp:PySem.W.keepIn K (.ref f)=true
section
variable {P:Program}{w:World}{K:PySem.W.Frag}{mg:Str->Option Value}{base:Heap}
theorem Fun.ok{x qual:Str}{st:Stmt}{f:Addr}{fd:FuncData}{N ps:List Str}{k:Nat}{sp:Sp}(F:Fun K x qual st f fd)(S:FnScope N ps (aA st))(len:∀vs H Q E,sp vs H Q E->vs.length=ps.length)
 (hbody:∀(cdv:Value) (A:Around) (outer:List Env) (s:Shared) (H:Hp) (vs:List V) (Q:VK) (E:XK),Room k (A.deeper (envOfC qual (aA st) s.heap.objs.size f cdv))->sp vs H Q E ->
   ∃t,PSs (gc CX0 P w K mg base N qual (aA st) f cdv A outer s H E).nox (cQ st) t/\t { nx:=λ_ H'=>Q .non H',rt:=Q } (eW N vs) H):FnOk P w K mg base CX0 (k+1) f fd ps sp:=by
 obtain⟨oc,od,kV,doc,pm,an,cdv,ct,osl,rfl,lk,hcd⟩:=F.ex;refine uw lk hcd S len λA outer s H vs Q E hr hsp=>?_
 obtain⟨t,h,q⟩:=hbody cdv A outer s H vs Q E hr hsp;exact⟨t,h.nox,q⟩
theorem Fun.binds{x qual:Str}{st:Stmt}{f:Addr}{fd:FuncData}{ps:List Str}(F:Fun K x qual st f fd)
 (h:∀(kV doc pm:Value) (an:Option Addr) (cdv ct:Value) (us:List Value),us.length=ps.length->bindArgs (PySem.W.fnOf x qual (df st) (cQ st) (aA st) .none kV doc pm an cdv ct) ⟨us,[]⟩=pure (ps.zip us)):Binds K fd ps []:=by
 obtain⟨oc,od,kV,doc,pm,an,cdv,ct,osl,rfl,lk,hcd⟩:=F.ex;exact .all (h kV doc pm an cdv ct)
theorem ut{x qual:Str}{st:Stmt}{f:Addr}{oc:Value}{od an:Option Addr}{osl:Array (Option Value)}{kV doc pm cdv ct:Value}(l:K.lookup f=some ⟨oc,od,.func (PySem.W.fnOf x qual (df st) (cQ st) (aA st) .none kV doc pm an cdv ct),osl⟩)
 (c:PySem.W.codeIn K cdv qual=true) (k:PySem.W.keepIn K (.ref f)=true):Fun K x qual st f (PySem.W.fnOf x qual (df st) (cQ st) (aA st) .none kV doc pm an cdv ct):=⟨⟨oc,od,kV,doc,pm,an,cdv,ct,osl,rfl,l,c⟩,k⟩
end
section
variable {X:Cx}
theorem pv(i:Nat){x:Str}{pos:Pos}(hN:X.N[i]?=some x:=by rfl)(hv:Vis X.env.scope x:=by first |exact Or.inl rfl |exact Or.inr (Or.inl rfl) |exact Or.inr (Or.inr rfl))(hd:(x == ("__debug__":Str))=false:=by decide)
 (hcd:(x == ("__classdict__":Str))=false:=by decide):PE X (.Name x pos) (cZ i):=yS hN hv hd hcd
end
def Same(H H':Hp):Prop:=∀b o,H b=some o->H' b=some o
theorem Same.refl(H:Hp):Same H H:=λ_ _ h=>h
theorem Same.trans{H H1 H2:Hp}(a:Same H H1)(b:Same H1 H2):Same H H2:=λc o h=>b c o (a c o h)
theorem Same.free{H H':Hp}(e:Same H H'){l:Addr}(h:H' l=Option.none):H l=Option.none:=by
 cases q:H l with
 |none=>rfl
 |some o =>rw[e l o q]at h;cases h
theorem Same.seq{K:PySem.W.Frag}{H H':Hp}{a:Addr}{xs:List V}(e:Same H H')(h:SqL K H a xs):SqL K H' a xs:=by
 rcases h with(h |⟨o,h⟩) |h
 ·exact .inl (.inl (e _ _ h))
 ·exact .inl (.inr ⟨o,e _ _ h⟩)
 ·exact .inr h
end L2
set_option maxHeartbeats 4000000
namespace L2
open PySem PySem.Spec PyProof.Rows
noncomputable def cC(X:Cx)(N:List Str)(scope:Scope)(cl:List (Str×Addr))(C:Addr)(s₀:Shared)(H₀:Hp)(ex:List Addr):Cx where
 prog:=X.prog
 w:=X.w
 K:=X.K
 mg:=X.mg
 base:=X.base
 A:=X.A
 N:=N
 s₀:=s₀
 H₀:=H₀
 env:=compEnvC scope cl C X.env
 outer:=X.stack
 stack:=X.stack
 ex:=ex
 fn:=λ_=>false
 calm:=X.calm
 pn:=[]
 xe:=λ_ _=>False
structure CompOk(X:Cx)(fr:List Str)(js:List Nat)(scope:Scope)(cl:List (Str×Addr)):Prop where
 clos:closureFor scope X.env=pure cl
 cell:∀y∈scope.names,y.2≠.cell
 kind:scope.kind=.function
 names:∀y∈scope.names,y.2=.local->scope.names.lookup y.1=some .local
 clin:∀p∈cl,X.env.cells.lookup p.1=some p.2
 has:scope.names.all (λp=>p.2 != .free || (cl.lookup p.1).isSome)=true
 fre:Paired (λ(x:Str) (j:Nat)=>X.N[j]?=some x/\(X.env.scope.names.lookup x=some .cell\/X.env.scope.names.lookup x=some .free)/\scope.names.lookup x=some .free) fr js
theorem lT{env:Env}{x:Str}{k':NameKind}:∀{names:List (Str×NameKind)},
 (names.map λ(n,k)=>if(k == NameKind.free&&env.scope.kind == .function&&env.kindOf n == some .cell)then(n,NameKind.cell)else(n,k)).lookup x=some k' ->
 ∃k,names.lookup x=some k/\(k'=k\/(k=.free/\k'=.cell))
 | [],h=>by simp at h
 | (n,k)::r,h=>by
  have ih:=@lT env x k' r;change List.lookup x ((if(k == NameKind.free&&env.scope.kind == .function&&env.kindOf n == some .cell)=true then(n,NameKind.cell)else(n,k))::_)=_ at h
  by_cases hc:(k == NameKind.free&&env.scope.kind == .function&&env.kindOf n == some .cell)=true
  ·rw[if_pos hc]at h;cases hx:x == n with
   |true =>simp only[IR,hx]at h ⊢;cases h;refine⟨k,rfl,.inr ⟨?_,rfl⟩⟩;simp only[Bool.and_eq_true,beq_iff_eq]at hc;exact hc.1.1
   |false =>simp only[IR,hx]at h ⊢;exact ih h
  ·rw[if_neg hc]at h;cases hx:x == n with
   |true =>simp only[IR,hx]at h ⊢;cases h;exact⟨_,rfl,.inl rfl⟩
   |false =>simp only[IR,hx]at h ⊢;exact ih h
theorem rj{env:Env}{x:Str}:∀{names:List (Str×NameKind)},names.lookup x=some .free ->
 (names.map λ(n,k)=>if(k == NameKind.free&&env.scope.kind == .function&&env.kindOf n == some .cell)then(n,NameKind.cell)else(n,k)).lookup x=some .cell \/
 (names.map λ(n,k)=>if(k == NameKind.free&&env.scope.kind == .function&&env.kindOf n == some .cell)then(n,NameKind.cell)else(n,k)).lookup x=some .free
 | [],h=>by simp at h
 | (n,k)::r,h=>by
  have ih:=@rj env x r;show List.lookup x ((if(k == NameKind.free&&env.scope.kind == .function&&env.kindOf n == some .cell)=true then(n,NameKind.cell)else(n,k))::_)=_\/List.lookup x ((if(k == NameKind.free&&env.scope.kind == .function&&env.kindOf n == some .cell)=true then(n,NameKind.cell)else(n,k))::_)=_;by_cases hc:(k == NameKind.free&&env.scope.kind == .function&&env.kindOf n == some .cell)=true
  ·rw[if_pos hc];cases hx:x == n with
   |true=>simp only[IR,hx];exact .inl trivial
   |false=>simp only[IR,hx]at h ⊢;exact ih h
  ·rw[if_neg hc];cases hx:x == n with
   |true =>simp only[IR,hx]at h ⊢;cases h;exact .inr rfl
   |false=>simp only[IR,hx]at h ⊢;exact ih h
noncomputable def dP(n:Nat)(js:List Nat)(σ:St):St:=List.replicate n none++js.map λj=>(σ[j]?).join
def j8(n:Nat)(js:List Nat)(g:TG)(te:TE)(σ:St)(Q:VK)(J:It)(H1:Hp):Prop:=∃W:Nat->Nat->List V->St->Hp->Prop,(∃m,W 0 m [] (dP n js σ) H1) /\
 ∀i m ys σ' H',W i m ys σ' H' ->
  (J.stop i H'/\∀p,H' p=none->Q (.ref p) (upd H' p (.lst ys))) \/
  (J.go i H'/\ys.length<sizeLine/\∃N:V->St->Hp->Prop,(∀y σ'' H'',N y σ'' H''->∃m',m'<m/\W (i+1) m' (ys++[y]) σ'' H'')/\∀x H2,J.yld i H' x H2->g x σ' H2 λσ3 H3=>te σ3 H3 λy H4=>N y σ3 H4)
def pK(n:Nat)(js:List Nat)(wi:TI)(g:TG)(te:TE):TE:=λσ H Q=>wi σ H λJ H1=>j8 n js g te σ Q J H1
noncomputable def wb(X:Cx)(pins:List (Addr×Obj))(σ:St)(Q:VK)(D C:Addr)(s':Shared):Prop :=
 ∃H2,Inv X pins σ H2 s'/\Q (.ref D) H2/\H2 C=none/\C≠X.env.locals/\X.s₀.heap.objs.size<=C/\(∀x c,X.env.cells.lookup x=some c->c≠C)/\(∀p∈X.pn++pins,p.1≠C)/\∃m,s'.heap.Ns C m
section
variable {X:Cx}{own fr:List Str}{js:List Nat}{scope:Scope}{cl:List (Str×Addr)}{elt target iter:Expr}{pos:Pos}{wi:TI}{g:TG}{te:TE}
theorem eQ(O:CompOk X fr js scope cl){x:Str}{c:Addr}(e:cl.lookup x=some c):X.env.cells.lookup x=some c:=O.clin (x,c) (PySem.mem_of_lookup e)
theorem nN{pins:List (Addr×Obj)}{σ:St}{H:Hp}{s:Shared}{fp:List Addr}{C:Addr}(O:CompOk X fr js scope cl)(I:Inv X pins σ H s)(hC:s.heap.objs.size<=C)(hf:∀b∈fp,dI X pins H b)(ho:∀b∈fp,b<s.heap.objs.size) :
 (cC X (own++fr) scope cl C s H fp).Ok:=by
 refine⟨I.ok.mod,O.kind,I.ok.glob,I.ok.blt,hC,λx y c h1 h2=>I.ok.inj x y c (eQ O h1) (eQ O h2),λx hx=>?_,λx c h=>(by cases h),I.ok.hd,I.ok.frames,.inl rfl,λb hb=>?_,I.bs,?_,λb o e hb=>?_,λb hb hb'=>?_,I.stack,I.stkFree⟩
 ·have key:scope.names.lookup x=some .free:=by
   have hx':(scope.names.map λ(n,k)=>if(k == NameKind.free&&X.env.scope.kind == .function&&X.env.kindOf n == some .cell)then(n,NameKind.cell)else(n,k)).lookup x=some .cell \/
    (scope.names.map λ(n,k)=>if(k == NameKind.free&&X.env.scope.kind == .function&&X.env.kindOf n == some .cell)then(n,NameKind.cell)else(n,k)).lookup x=some .free:=hx
   rcases hx' with h |h
   ·obtain⟨k,e,z⟩:=lT h;rcases z with z |⟨z,_⟩
    ·subst z;exact absurd rfl (O.cell _ (PySem.mem_of_lookup e))
    ·subst z;exact e
   ·obtain⟨k,e,z⟩:=lT h;rcases z with z |⟨_,z⟩
    ·subst z;exact e
    ·cases z
  have hm:=IS.mp O.has _ (PySem.mem_of_lookup key);have hs:(cl.lookup x).isSome=true:=by simpa using hm
  exact Option.isSome_iff_exists.mp hs
 ·obtain⟨f0,f1,f2,f3,f4,f5⟩:=hf b hb;exact⟨HR (HQ (ho b hb) hC),λx c e=>f4 x c (eQ O e)⟩
 ·exact HH I.ok.bsz I.sz
 ·obtain⟨f0,f1,f2,f3,f4,f5⟩:=hf b hb;rcases f3 with z |z
  ·exact I.ok.noex b o e z
  ·exact absurd (HQ (Heap.lt_size e) (HH I.ok.bsz z)) (Ik _)
 ·obtain⟨f0,f1,f2,f3,f4,f5⟩:=hf b hb;rcases HI.mp (I.stkSub b hb')with z |z
  ·exact f1 z
  ·exact f2 z
theorem Paired.idx{α β:Type}{F:α->β->Prop}:∀{l₁:List α} {l₂:List β},Paired F l₁ l₂->∀(i:Nat) (a:α) (b:β),l₁[i]?=some a->l₂[i]?=some b->F a b
 |_,_,.nil,_,_,_,h,_=>by simp at h
 |_,_,.cons r _,0,a,b,h1,h2=>by simp at h1 h2;subst h1;subst h2;exact r
 |_,_,.cons _ t,i+1,a,b,h1,h2=>Paired.idx t i a b (by simpa using h1) (by simpa using h2)
theorem uT{pins:List (Addr×Obj)}{σ:St}{H:Hp}{s s':Shared}{fp:List Addr}{C:Addr}{m:Str->Option Value}(O:CompOk X fr js scope cl)(hl:fr.length=js.length)(I:Inv X pins σ H s)(hC:s.heap.objs.size<=C)(hf:∀b∈fp,dI X pins H b)
 (ho:∀b∈fp,b<s.heap.objs.size) (os:s'.os=s.os) (hg:s'.gens=s.gens) (old:∀b o,s.heap.get? b=some o->s'.heap.get? b=some o) (hn:s'.heap.Ns C m) :
 Inv (cC X (own++fr) scope cl C s H fp) [] (dP own.length js σ) H s':=by
 refine⟨nN O I hC hf ho,os,by rw[hg];exact I.bare,Un.kept old,⟨m,hn,λi x v e1 e2 e3=>?_⟩,λx c e=>?_,I.hok.fresh hC,λx c e=>I.freeC x c (eQ O e),λp hp=>absurd (show p∈([]:List (Addr×Obj))from hp) (by simp),I.hok.kept old,?_⟩
 ·unfold dP at e2
  have e1':(own++fr)[i]?=some x:=e1;by_cases hi:i<own.length
  ·rw[List.getElem?_append_left (by simpa using hi),List.getElem?_replicate]at e2;split at e2<;>cases e2
  ·have hi':own.length<=i:=Ix hi;rw[List.getElem?_append_right (by simpa using hi'),IK,List.getElem?_map]at e2;rw[List.getElem?_append_right hi']at e1';cases ej:js[i-own.length]? with
   |none=>rw[ej]at e2;cases e2
   |some j =>
    rw[ej]at e2;have e2':(σ[j]?).join=some v:=Option.some.inj e2
    have eσ:σ[j]?=some (some v):=by
     cases q:σ[j]? with
     |none=>rw[q]at e2';cases e2'
     |some o=>rw[q]at e2';simp at e2';rw[e2']
    obtain⟨hN,hk,hs⟩:=Paired.idx O.fre _ x j e1' ej;obtain⟨mo,hmo,hlo⟩:=I.loc;have vis:Vis X.env.scope x:=hk.elim (λz=>.inr (.inl z)) λz=>.inr (.inr z)
    obtain⟨u,r,l⟩:=hlo j x v hN eσ vis;refine⟨u,r,.inr ⟨rj hs,?_⟩⟩;have hm:=IS.mp O.has _ (PySem.mem_of_lookup hs);have hs':(cl.lookup x).isSome=true:=by simpa using hm
    obtain⟨c,ec⟩:=Option.isSome_iff_exists.mp hs';refine⟨c,ec,?_⟩;rcases l with⟨k,_⟩ |⟨_,c',e',z⟩
    ·have k':X.env.scope.names.lookup x=some .local:=k;rcases hk with q |q<;>(rw[q]at k';cases k')
    ·have:=eQ O ec;rw[e']at this;cases this;obtain⟨oc,hoc,hd⟩:=z;exact⟨oc,old _ _ hoc,hd⟩
 ·obtain⟨v,oc,hoc,hd⟩:=I.cell x c (eQ O e);exact⟨v,oc,old _ _ hoc,hd⟩
 ·unfold dP;show _=(own++fr).length;rw[Hv,Hv,IK,Hs,hl]
theorem Un.adopt{fs ex:List Addr}{H H1:Hp}{h h1:Heap}{a:Addr}{o:HO}(u:Un fs ex H H1 h h1)(ha:h.objs.size<=a)(hn:H a=none):Un fs ex H (upd H1 a o) h h1 where
 keep:=u.keep
 slot:=u.slot
 free:=λb ob q n hx=>by rw[upd_ne (HR (HQ (Heap.lt_size q) ha))];exact u.free b ob q n hx
 there:=u.there
 tups:=λb xs q=>by rw[upd_ne (aE q hn)];exact u.tups b xs q
 frzs:=λb ob xs q=>by rw[upd_ne (aE q hn)];exact u.frzs b ob xs q
 tbls:=λb ps q=>by rw[upd_ne (aE q hn)];exact u.tbls b ps q
theorem HOk.adopt{P:Program}{w:World}{H:Hp}{h:Heap}{a:Addr}{o:HO}(x:HOk P w H h)(hn:H a=none)(new:ObjOk P w (upd H a o) h a o):HOk P w (upd H a o) h:=λb u e=>by
 by_cases hb:b=a
 ·subst hb;rw[aj]at e;cases e;exact new
 ·rw[upd_ne hb]at e;exact(x b u e).stay (λc v _ q=>q) (λc q=>by rw[upd_ne (aE q hn)];exact q) λc xs q=>by rw[upd_ne (aE q hn)];exact q
theorem u6{pins:List (Addr×Obj)}{σ:St}{H:Hp}{s:Shared}{fp:List Addr}{it:Addr}{tn:Nat->Heap->Prop}{J:It}{E:Value->Shared->Prop}{Q:VK}{RR:Value->Addr->Result->Shared->Prop}(O:CompOk X fr js scope cl)(hl:fr.length=js.length)(hcm:X.calm=true)
 (I:Inv X pins σ H s) (T:Turn X.prog X.w X.K target J fp it tn) (st:tn 0 s.heap) (hf:∀b∈fp,dI X pins H b)
 (hg:∀C s₀ H₀ ex,PG (cC X (own++fr) scope cl C s₀ H₀ ex) target g) (he:∀C s₀ H₀ ex,PE (cC X (own++fr) scope cl C s₀ H₀ ex) elt te)
 (W:Nat->Nat->List V->St->Hp->Prop) {m0:Nat} (w0:W 0 m0 [] (dP own.length js σ) H)
 (turn:∀i m ys σ' H',W i m ys σ' H' ->
   (J.stop i H'/\∀p,H' p=none->Q (.ref p) (upd H' p (.lst ys))) \/
   (J.go i H'/\ys.length<sizeLine/\∃N:V->St->Hp->Prop,(∀y σ'' H'',N y σ'' H''->∃m',m'<m/\W (i+1) m' (ys++[y]) σ'' H'')/\∀x H2,J.yld i H' x H2->g x σ' H2 λσ3 H3=>te σ3 H3 λy H4=>N y σ3 H4))
 (hRR:∀D C s',wb X pins σ Q D C s'->RR (.ref D) C (.ok .next) s') :
 wpAny (model X.prog X.w) X.A (newList []) (λacc s₃=>wpAny (model X.prog X.w) X.A (newFunctionEnv scope X.env.globals cl [] X.env.qual none .none (some X.env)) (λcenv s₄ =>
  codeAny (model X.prog X.w) X.A (.compStart (.ListComp elt [⟨target,iter,[],0⟩] scope pos) 0 (.ref it) acc { cenv with scope:=relabel scope X.env }) (RR acc cenv.locals) s₄) E s₃) E s:=by
 refine wpAny_newObj_type (wpAny_newFunctionEnv O.cell (by intro y hy;simp at hy) (λh₁ hns₁ hsb₁=>?_) O.kind);dsimp only at hns₁ hsb₁ ⊢
 generalize hH2:s.heap.push { cls:=.type "list",dict:=none,data:=.seq ([]:List Value).toArray }=H2 at hns₁ hsb₁ ⊢
 have hCs:H2.objs.size=s.heap.objs.size+1:=by rw[<- hH2,Heap.size_push]
 have hDC:s.heap.objs.size≠H2.objs.size:=by rw[hCs];exact HR (IJ _)
 have hCge:s.heap.objs.size<=H2.objs.size:=by rw[hCs];exact Nat.le_succ _
 have below:∀b,b<s.heap.objs.size->b≠H2.objs.size/\b≠s.heap.objs.size:=λb hb=>⟨by rw[hCs];exact HR (Nat.lt_succ_of_lt hb),HR hb⟩
 have old:∀b o,s.heap.get? b=some o->h₁.get? b=some o:=λb o e=>hsb₁.extBut b o (below b (Heap.lt_size e)).1 (Heap.get?_push_of_some _ (hH2 ▸ Heap.get?_push_of_some _ e))
 have hacc:h₁.get? s.heap.objs.size=some { cls:=.type "list",data:=.seq ([]:List Value).toArray 0 }:=hsb₁.extBut _ _ hDC (Heap.get?_push_of_some _ (hH2 ▸ Heap.get?_push_size _ rfl));have ho:∀b∈fp,b<s.heap.objs.size:=λb hb=>by obtain⟨o,e,_⟩:=T.obj 0 _ st b hb;exact Heap.lt_size e
 generalize hDe:s.heap.objs.size=D at *
 generalize hCe:H2.objs.size=C at *
 let X':Cx:=cC X (own++fr) scope cl C s H fp
 have ok':X'.Ok:=nN O I (by rw[hDe];exact hCge) hf (by rw[hDe];exact ho)
 have hDfs:D∉X'.fs:=by
  intro z;rcases HI.mp (I.stkSub D z)with q |q
  ·exact absurd I.lt (by rw[<- q,hDe];exact Ik _)
  ·exact I.nofs (IC hDe) q
 have hDfp:∀b∈fp,D≠b:=λb hb z=>absurd (ho b hb) (by rw[z];exact Ik _)
 have hDcell:∀x c,cl.lookup x=some c->c≠D:=λx c e z=>by obtain⟨v,q⟩:=I.cell x c (eQ O e);exact absurd q.lt (by rw[z,hDe];exact Ik _)
 have fpok:∀{H':Hp} {pins':List (Addr×Obj)},(∀p∈pins',p.1=D)->(∀b∈fp,H' b=none)->∀b∈fp,dI X' pins' H' b:=λ{H' pins'} hp hn b hb=>by
  obtain⟨f0,f1,f2,f3,f4,f5⟩:=hf b hb;refine⟨hn b hb,(below b (ho b hb)).1,λz=>?_,.inl hb,λx c e=>f4 x c (eQ O e),λp hp'=>?_⟩
  ·rcases HI.mp (I.stkSub b z)with q |q
   ·exact f1 q
   ·exact f2 q
  ·have hp'':p∈pins':=by simpa[X',cC]using hp'
   rw[hp p hp''];exact hDfp b hb
 have loop:∀s₃:Shared,s₃={ s with heap:=h₁,toks:=s.toks+([]:List (Str×Value)).length } ->
  codeAny (model X.prog X.w) X.A (.compLoop (.ListComp elt [⟨target,iter,[],0⟩] scope pos) 0 (.ref it) (.ref D) (compEnvC scope cl C X.env)) (RR (.ref D) C) s₃:=by
  rintro s₃ rfl
  refine PySem.W.kcp_loop (λk s'=>∃i σ' H' ys its nn,Inv X' [] σ' H' s'/\tn i s'.heap/\(∀b∈fp,H' b=none)/\H' D=none/\s'.heap.get? D=some { cls:=.type "list",data:=.seq (its:List Value).toArray nn }/\Vals ys its/\ys.length<=sizeLine/\W i k ys σ' H') ?_ m0
   ⟨0,_,H,[],[],0,uT O hl I (by rw[hDe];exact hCge) hf (by rw[hDe];exact ho) rfl rfl (by intro b o e;exact old b o e) hns₁,T.keep _ _ _ st λb _ o e=>old b o e,λb hb=>(hf b hb).1,I.hok.fresh (IC hDe),hacc,.nil,Hy _,w0⟩
  rintro k s' ⟨i,σ',H',ys,its,nn,I',st',hfn,hDn,hDo,rv,hz,w⟩;have hlen:=rv.length;have hpD:∀p∈[(D,({ cls:=.type "list",data:=.seq its.toArray nn }:Obj))],p.1=D:=λp hp=>by rw[Hx.mp hp]
  have Ip:Inv X' [(D,({ cls:=.type "list",data:=.seq its.toArray nn }:Obj))] σ' H' s':=I'.pins_of λp hp=>by rw[Hx.mp hp];exact⟨hDo,hDn,hDC,hDfs,λv z=>by cases z⟩
  rcases turn i k ys σ' H' w with⟨stop,fin⟩ |⟨go,hlt,N,hN,step⟩
  ·refine wpAny_mono (T.done X' rfl rfl rfl hcm i _ s' σ' H' (λ_ _=>False) Ip (fpok hpD hfn) st' stop) (λr s4 ⟨hr,I4⟩=>?_) λ_ _ z=>False.elim z
   subst hr;refine hRR D C s4 ?_;have hD4:s4.heap.get? D=some { cls:=.type "list",data:=.seq its.toArray nn }:=(I4.pin _ (HJ _ (Hx.mpr rfl))).1;have un:Un (frs X.stack) fp H (upd H' D (.lst ys)) s.heap s4.heap:=Un.adopt I4.base (IC hDe) (I.hok.fresh (IC hDe));have hok:HOk X.prog X.w (upd H' D (.lst ys)) s4.heap:=HOk.adopt I4.hok hDn ⟨hz,its,nn,rv,hD4⟩;refine⟨upd H' D (.lst ys),I.call' I4.os un hok I4.bare λb hb=>?_,fin D hDn,?_,?_,?_,λx c e z=>?_,λp hp z=>?_,?_⟩
   ·obtain⟨f0,f1,f2,f3,f4,f5⟩:=hf b hb;exact⟨f3,f1,f4,f5⟩
   ·rw[upd_ne (Ne.symm hDC)];exact I4.free
   ·exact Nat.ne_of_gt (HQ I.lt (by rw[hDe];exact hCge))
   ·exact HH I.sz (by rw[hDe];exact hCge)
   ·obtain⟨v,q⟩:=I.cell x c e;exact absurd (HQ q.lt (by rw[hDe,z];exact hCge)) (Ik _)
   ·exact absurd (HQ (Heap.lt_size (I.pin p hp).1) (by rw[hDe,z];exact hCge)) (Ik _)
   ·obtain⟨m',hn',_⟩:=I4.loc;exact⟨m',hn'⟩
  ·refine wpAny_mono (T.item X' rfl rfl rfl hcm i _ s' σ' H' (λ_ _=>False) Ip (fpok hpD hfn) st' go) (λr s4 ⟨u,hr,h4⟩=>?_) λ_ _ z=>False.elim z
   subst hr;refine wpAny_mono h4 (λ_ s5 ⟨x,H5,I5,r5,y5,st5,fr5⟩=>?_) λ_ _ z=>False.elim z
   have I5':=I5.pinned (fpok hpD fr5) (T.obj _ _ st5);refine wpAny_mono (hg C s H fp _ s5 σ' H5 x u _ I5' r5 (step x H5 y5)) (λ_ s6 ⟨σ6,H6,I6,q6⟩=>?_) λ_ _ z=>False.elim z
   refine wpAny_mono (he C s H fp _ s6 σ6 H6 _ I6 q6) (λv s7 ⟨y,H7,I7,r7,n7⟩=>?_) λ_ _ z=>False.elim z
   obtain⟨m',hm',w7⟩:=hN y σ6 H7 n7;have hD7:=I7.pin (D,{ cls:=.type "list",data:=.seq its.toArray nn }) (HJ _ (IF _ (Hx.mpr rfl)));refine append_at hD7.1 (λh8 sb hD8=>?_) (by rw[HK,<- hlen];exact hz);have I7':Inv X' [] σ6 H7 s7:=I7.pins_of λp hp=>absurd hp (by simp)
   have I8:Inv X' [] σ6 H7 { s7 with heap:=h8 }:=I7'.turned (t':=s7.toks) (it:=D) (λb o hb e=>(sb.2 b hb).trans e) hD7.2.1 hDC (.inr (IC hDe)) hDcell (λp hp=>absurd (show p∈([]:List (Addr×Obj))from hp) (by simp));refine⟨m',hm',i+1,σ6,H7,ys++[y],its++[v],nn+1,I8,T.keep _ _ _ st5 λb hb o e=>?_,λb hb=>?_,hD7.2.1,?_,rv.append (.cons r7 .nil),?_,w7⟩
   ·exact(sb.2 b (λz=>hDfp b hb z.symm)).trans (I7.pin (b,o) (HJ _ (HJ _ (fI hb e)))).1
   ·obtain⟨o,e,d⟩:=T.obj _ _ st5 b hb;exact(I7.pin (b,o) (HJ _ (HJ _ (fI hb e)))).2.1
   ·rw[hD8,List.push_toArray]
   ·rw[Hv,List.length_singleton];exact hlt
 exact codeAny_compStart_list (loop _ rfl) (T.self _ 0 _ _ _ (T.keep _ _ _ st λb _ o e=>old b o e) (loop _ rfl))
theorem cG(O:CompOk X fr js scope cl)(hcm:X.calm=true)(hi:PI X target iter wi)(hg:∀C s₀ H₀ ex,PG (cC X (own++fr) scope cl C s₀ H₀ ex) target g)(he:∀C s₀ H₀ ex,PE (cC X (own++fr) scope cl C s₀ H₀ ex) elt te)
 (hs:∀x,foldedSetIterable iter X.env x=pure x:=by intro _;rfl):PE X (.ListComp elt [⟨target,iter,[],0⟩] scope pos) (pK own.length js wi g te):=by
 intro pins s σ H Q I h;rw[eval_ListComp];refine wpAny_comprehension_free (use:=none) rfl hs O.clos O.kind O.names (thn (hi pins s σ H _ I h) λx s1 h1=>thn h1 λitv s2 h2=>?_);obtain⟨it,fp,tn,J,H2,rfl,I2,T,st,hf,W,⟨m0,w0⟩,turn⟩:=h2;refine u6 (RR:=λacc C=>compPost (model X.prog X.w) X.A X.xe none (EP X pins σ Q) acc C) O (Paired.length O.fre) hcm I2 T st hf hg he W w0 turn ?_;rintro D C s' ⟨H3,I3,q,c1,c2,c3,c4,c5,m,hn⟩;exact⟨m,hn,λh' sb=>⟨.ref D,H3,I3.turned (t':=s'.toks) (it:=C) (λb o hb e=>(sb.2 b hb).trans e) c1 c2 (.inr c3) c4 c5,rfl,q⟩⟩
theorem mj{i:Nat}{y:Str}{py spos:Pos}(hN:X.N.Nodup)(hy:X.N[i]?=some y)(hly:Loc X.env.scope y)(O:CompOk X fr js scope cl)(hcm:X.calm=true)(hi:PI X target iter wi)(hg:∀C s₀ H₀ ex,PG (cC X (own++fr) scope cl C s₀ H₀ ex) target g)
 (he:∀C s₀ H₀ ex,PE (cC X (own++fr) scope cl C s₀ H₀ ex) elt te) (hsw:swapsWith (.ListComp elt [⟨target,iter,[],0⟩] scope pos) (some (.Name y py)) spos.line X.env=pure true)
 (hf:X.fn y=true\/X.env.scope.names.lookup y=some .local:=by first |exact .inl rfl |exact .inr rfl |assumption) (hs:∀x,foldedSetIterable iter X.env x=pure x:=by intro _;rfl) :
 PS X (.Assign [.Name y py] (.ListComp elt [⟨target,iter,[],0⟩] scope pos) spos) (eV (pK own.length js wi g te) (dS i)):=by
 intro pins s σ H D I h;rw[exec_Assign_Name_used _ _ _ _ hsw];refine wpAny_bind (wpAny_standAt (wpAny_bind ?_));show wpAny _ X.A (do let _ <- comprehension (.ListComp elt [⟨target,iter,[],0⟩] scope pos) scope X.env _ (newList []) false (eval iter X.env) (some (assign (.Name y py) X.env))) _ _ s
 refine wpAny_bind (wpAny_mono (wpAny_comprehension_free (use:=some (assign (.Name y py) X.env)) (Q:=λ_ s'=>SP X pins D .next s') rfl hs O.clos O.kind O.names
  (thn (hi pins s σ H _ I h) λx s1 h1=>thn h1 λitv s2 h2=>?_)) (λ_ s' hq=>wpAny_pure (wpAny_pure hq)) λ_ _ e=>e)
 obtain⟨it,fp,tn,J,H2,rfl,I2,T,st,hfp,W,⟨m0,w0⟩,turn⟩:=h2;refine u6 (Q:=λx H1=>dS i x σ H1 D.nx) (RR:=λacc C=>compPost (model X.prog X.w) X.A X.xe (some (assign (.Name y py) X.env)) (λ_ s'=>SP X pins D .next s') acc C) O (Paired.length O.fre) hcm I2 T st hfp hg he W w0 turn ?_;rintro DD C s' ⟨H3,I3,q,c1,c2,c3,c4,c5,m,hn⟩;show wpAny _ _ (assign (.Name y py) X.env (.ref DD)) _ _ s';refine wpAny_assign_Name (km I3 hN hy hly (v:=.ref DD) rfl (λs4 I4 ⟨a,sb,ha⟩=>?_) hf)
 have hCa:C≠a:=by
  rcases ha with rfl |ha
  ·exact c2
  ·exactλz=>c4 y a ha z.symm
 refine⟨m,hn.sameBut sb hCa,λh' sb'=>⟨_,H3,I4.turned (t':=s4.toks) (it:=C) (λb o hb e=>(sb'.2 b hb).trans e) c1 c2 (.inr c3) c4 c5,q⟩⟩
end
theorem dW{n:Nat}{js:List Nat}{K:PySem.W.Frag}{a:Addr}{xs:List V}{g:TG}{te:TE}{σ0:St}{H:Hp}{Q:VK}(Pv:Nat->List V->St->Hp->Prop)(hz:xs.length<=sizeLine)(h0:Pv 0 [] (dP n js σ0) H)(hl:∀i ys σ H,i<=xs.length->Pv i ys σ H->SqL K H a xs/\ys.length<=i)
 (hs:∀i x ys σ H,xs[i]?=some x->Pv i ys σ H->g x σ H λσ2 H2=>te σ2 H2 λy H3=>Pv (i+1) (ys++[y]) σ2 H3) (hd:∀ys σ H p,Pv xs.length ys σ H->H p=none->Q (.ref p) (upd H p (.lst ys))) :
 j8 n js g te σ0 Q (Itl K a) H:=by
 refine⟨λi m ys σ H=>m=xs.length-i/\i<=xs.length/\Pv i ys σ H,⟨xs.length,by simp,Hy _,h0⟩,?_⟩;rintro i m ys σ H ⟨rfl,hi,p⟩;obtain⟨q,hy⟩:=hl i ys σ H hi p;by_cases hlt:i<xs.length
 ·refine .inr ⟨⟨xs,xs[i],q,by simp[hlt]⟩,by omega,λy σ'' H''=>Pv (i+1) (ys++[y]) σ'' H'',λy σ' H' p'=>⟨xs.length-(i+1),by omega,rfl,hlt,p'⟩,λx H' y=>?_⟩;obtain⟨e,y⟩:=y;subst e;exact hs i x ys σ _ (y xs q) p
 ·have e:i=xs.length:=by omega
  subst e;exact .inl ⟨⟨xs,q,Ht _⟩,λr hr=>hd ys σ H r p hr⟩
theorem gY{k:Nat}{js:List Nat}{lo:Int}{n:Nat}{g:TG}{te:TE}{σ0:St}{H:Hp}{Q:VK}(Pv:Nat->List V->St->Hp->Prop)(hz:n<=sizeLine)(h0:Pv 0 [] (dP k js σ0) H)(hl:∀i ys σ H,i<=n->Pv i ys σ H->ys.length<=i)
 (hs:∀i ys σ H,i<n->Pv i ys σ H->g (.int (lo+i)) σ H λσ2 H2=>te σ2 H2 λy H3=>Pv (i+1) (ys++[y]) σ2 H3) (hd:∀ys σ H p,Pv n ys σ H->H p=none->Q (.ref p) (upd H p (.lst ys))) :
 j8 k js g te σ0 Q (Itr lo n) H:=by
 refine⟨λi m ys σ H=>m=n-i/\i<=n/\Pv i ys σ H,⟨n,by simp,Hy _,h0⟩,?_⟩;rintro i m ys σ H ⟨rfl,hi,p⟩;have hy:=hl i ys σ H hi p;by_cases hlt:i<n
 ·refine .inr ⟨hlt,by omega,λy σ'' H''=>Pv (i+1) (ys++[y]) σ'' H'',λy σ' H' p'=>⟨n-(i+1),by omega,rfl,hlt,p'⟩,λx H' y=>?_⟩;obtain⟨e,y⟩:=y;subst e y;exact hs i ys σ _ hlt p
 ·have e:i=n:=by omega
  subst e;exact .inl ⟨Ht _,λr hr=>hd ys σ H r p hr⟩
def Bits(k:Nat)(i:Int):Prop:=i.natAbs<2^k
theorem Bits.mono{j k:Nat}{i:Int}(h:Bits j i)(hk:j<=k:=by decide):Bits k i:=HQ h (Nat.pow_le_pow_right (by decide) hk)
theorem Bits.mul{j k:Nat}{a b:Int}(ha:Bits j a)(hb:Bits k b):Bits (j+k) (a*b):=by
 unfold Bits at *
 rw[Ig,Nat.pow_add];exact Nat.mul_lt_mul_of_lt_of_lt ha hb
theorem Bits.add{k:Nat}{a b:Int}(ha:Bits k a)(hb:Bits k b):Bits (k+1) (a+b):=by
 unfold Bits at *
 have:=Int.natAbs_add_le a b;rw[Nat.pow_succ];omega
theorem Bits.neg{k:Nat}{a:Int}(ha:Bits k a):Bits k (-a):=by unfold Bits at *;rwa [Int.natAbs_neg]
theorem Bits.sub{k:Nat}{a b:Int}(ha:Bits k a)(hb:Bits k b):Bits (k+1) (a-b):=by rw[Int.sub_eq_add_neg];exact ha.add hb.neg
theorem Bits.of_le{k:Nat}{a b:Int}(hb:Bits k b)(h:a.natAbs<=b.natAbs):Bits k a:=JH h hb
theorem Bits.zero{k:Nat}:Bits k 0:=Nat.pow_pos (by decide)
theorem Bits.log{k:Nat}{i:Int}(h:Bits k i)(hk:0<k):i.natAbs.log2<k:=by
 by_cases h0:i.natAbs=0
 ·rw[h0];simpa using hk
 ·exact(Nat.log2_lt h0).mpr h
theorem Bits.int{k:Nat}{i:Int}(h:Bits k i)(hk:k<=1000000):Builtin.Int.intBits i<=2^20:=by
 have e:(2:Nat)^20=1048576:=by decide
 unfold Builtin.Int.intBits;split
 ·exact Hy _
 ·rename_i hn
  have h0:i.natAbs≠0:=by intro z;have:i=0:=Int.natAbs_eq_zero.mp z;exact hn (by simp[this])
  have:=(Nat.log2_lt h0).mpr h;omega
section
variable {X:Cx}{a b:Expr}{ta tb:TE}{pos:Pos}
def FT(i j:Int):Prop:=Bits 1000000 i/\Bits 1000000 j
theorem aH:OpR X (binaryOp .Mult) (rI FT λi j=>.int (i*j)):=opI λ_ _ _ _ _ _ _ hc q=>mul_int q (.of_bits (hc.1.int (Ht _)) (hc.2.int (Ht _)))
theorem aY:OpR X (binaryOp .Mod) (rI (λ_ j=>0<j) λi j=>.int (i%j)):=y8
def FU(_ j:Int):Prop:=0<j/\Bits 9000 j
theorem b7:OpR X (binaryOp .FloorDiv) (rI FU λi j=>.int (i/j)):=opI λi j _ _ _ _ _ hc q=>by refine floordiv_int (I0 hc.1) ?_ (.inl (PyProof.noPylong_of_log2 (hc.2.log (by decide))));rw[Int.fdiv_eq_ediv_of_nonneg _ (HD hc.1)];exact q
def FV(_ j:Int):Prop:=j≠0/\Bits 9000 j
theorem sf:OpR X (binaryOp .FloorDiv) (rI FV λi j=>.int (i.fdiv j)):=opI λ_ _ _ _ _ _ _ hc q=>floordiv_int hc.1 q (.inl (PyProof.noPylong_of_log2 (hc.2.log (by decide))))
theorem bh:OpR X (compareOp .Eq) (rI0 λi j=>.bl (decide (i=j))):=gJ λ_ _ _ _ _ _ _ q=>eq_int (by rw[Bool.beq_eq_decide_eq];exact q)
theorem jI:OpR X (compareOp .NotEq) (rI0 λi j=>.bl (!decide (i=j))):=gJ λ_ _ _ _ _ _ _ q=>ne_int (by rw[bne,Bool.beq_eq_decide_eq];exact q)
def rF(K:PySem.W.Frag):R2:=λx y H Q=>∃(a b:Addr) (ns ms:List Int),x=.ref a/\y=.ref b/\SqL K H a (ns.map V.int)/\SqL K H b (ms.map V.int)/\Q (.bl (decide (ns=ms))) H
def rB(K:PySem.W.Frag):R2:=λx y H Q=>∃(a b:Addr) (ns ms:List Int),x=.ref a/\y=.ref b/\SqL K H a (ns.map V.int)/\SqL K H b (ms.map V.int)/\Q (.bl (!decide (ns=ms))) H
theorem ze(hu:X.A.units+64<cLine):OpR X (compareOp .Eq) (rF X.K):=by intro pins s σ H x y v u Q I rx ry h;obtain⟨a,b,ns,ms,rfl,rfl,ha,hb,q⟩:=h;cases rx;cases ry;obtain⟨i1,r1,p1,_⟩:=I.list ha;obtain⟨i2,r2,p2,_⟩:=I.list hb;exact PySem.W.eq_intsK p1.isList (fK r1) p2.isList (fK r2) hu ⟨.bl _,H,I,rfl,q⟩
theorem y6(hu:X.A.units+64<cLine):OpR X (compareOp .NotEq) (rB X.K):=by intro pins s σ H x y v u Q I rx ry h;obtain⟨a,b,ns,ms,rfl,rfl,ha,hb,q⟩:=h;cases rx;cases ry;obtain⟨i1,r1,p1,_⟩:=I.list ha;obtain⟨i2,r2,p2,_⟩:=I.list hb;exact PySem.W.ne_intsK p1.isList (fK r1) p2.isList (fK r2) hu ⟨.bl _,H,I,rfl,q⟩
noncomputable def iw(K:PySem.W.Frag):List V->Hp->VK->Prop:=λxs H Q=>∃(x:V) (t c:Value) (n:V) (k:Bool),xs=[x,n]/\RelV n c/\(∀u,RelV n u->u=c)/\TyOf K H x t/\PySem.W.kitOne K t c=some k/\Q (.bl k) H
theorem DZ:CallR X (.builtin "isinstance") (iw X.K):=by intro pins s σ H xs us Q I r h;obtain⟨x,t,c,n,k,rfl,rn,hn,ty,e,q⟩:=h;obtain⟨u1,u2,rfl,r1,r2⟩:=r.two;obtain rfl:=hn u2 r2;exact Cd I r1 ty e λtk=>⟨.bl k,H,I.tok tk,rfl,q⟩
theorem Ce{K:PySem.W.Frag}{H:Hp}{Q:VK}{x:V}{n:String}{t:Value}{k:Bool}(ty:TyOf K H x t)(e:PySem.W.kitOne K t (.type n)=some k)(q:Q (.bl k) H):iw K [x,.ty n] H Q :=
 ⟨x,t,.type n,.ty n,k,rfl,rfl,λ_ h=>h,ty,e,q⟩
end
section
variable {D:Ends}{σ:St}{H:Hp}{Q:VK}{t u:TS}{te ta tb:TE}{c:TT}{i:Nat}{v:V}{r:R2}
theorem jw(h:t { D with nx:=u D } σ H):bz t u D σ H:=h
theorem lZ(P:St->Hp->Prop)(h1:∀σ' H',P σ' H'->u D σ' H')(h2:(∀σ' H',P σ' H'->u D σ' H')->t { D with nx:=u D } σ H):bz t u D σ H:=h2 h1
theorem lY(P:St->Hp->Prop)(h:P σ H)(h1:∀σ' H',P σ' H'->u D σ' H'):u D σ H:=h1 σ H h
theorem ax(h:te σ H λx H1=>u D (σ.set i (some x)) H1):bz (eV te (dS i)) u D σ H:=h
theorem d9(h:te σ H λ_ H1=>u D σ H1):bz (ki te) u D σ H:=h
theorem rk{t1 t2:TS}(h:c σ H λb H1=>if b=true then t1 { D with nx:=u D } σ H1 else t2 { D with nx:=u D } σ H1):bz (cS c t1 t2) u D σ H:=h
theorem bU{t1:TS}(h:c σ H λb H1=>if b=true then t1 { D with nx:=u D } σ H1 else u D σ H1):bz (cS c t1 d8) u D σ H:=h
theorem yh{K:PySem.W.Frag}{n:V}(h:ta σ H λx H1=>iw K [x,n] H1 Q):tCB (iw K) (kj ta (kj (tC n) pH)) σ H Q:=h
theorem cL{t1 t2:TS}(P:St->Hp->Prop)(h1:∀σ' H',P σ' H'->u D σ' H')(h2:(∀σ' H',P σ' H'->u D σ' H')->c σ H λb H1=>if b=true then t1 { D with nx:=u D } σ H1 else t2 { D with nx:=u D } σ H1):bz (cS c t1 t2) u D σ H:=h2 h1
theorem dq(h:te σ H λx H1=>D.nx (σ.set i (some x)) H1):eV te (dS i) D σ H:=h
theorem bJ(h:te σ H D.rt):pF te D σ H:=h
theorem dM(h:te σ H λ_ H1=>D.nx σ H1):ki te D σ H:=h
theorem iu(h:c σ H λb H1=>if b=true then t D σ H1 else u D σ H1):cS c t u D σ H:=h
theorem lV{K:Bool->Hp->Prop}{tt:TT}(h:tt σ H λk H1=>K (!k) H1):pG tt σ H K:=h
theorem cg{K:Bool->Hp->Prop}{t1 t2:TT}(h:t1 σ H λk H1=>if k=true then t2 σ H1 K else K false H1):ie t1 t2 σ H K:=h
theorem dL{K:Bool->Hp->Prop}{t1 t2:TT}(h:t1 σ H λk H1=>if k=true then K true H1 else t2 σ H1 K):tOr t1 t2 σ H K:=h
theorem jy(h:ta σ H λx H1=>∃k,x=.bl k/\if k=true then tb σ H1 Q else Q (.bl false) H1):pL ta tb σ H Q:=h
theorem cE{A B:Prop}(h:A):if true=true then A else B:=by rw[if_pos rfl];exact h
theorem bV{A B:Prop}(h:B):if false=true then A else B:=by rw[if_neg Ir];exact h
theorem aC{p A B:Prop}[Decidable p](h1:p->A)(h2:¬p->B):if decide p=true then A else B:=by
 by_cases hp:p
 ·rw[if_pos (decide_eq_true hp)];exact h1 hp
 ·rw[if_neg (by rw[decide_eq_false hp];exact Ir)];exact h2 hp
theorem fY{p A B:Prop}[Decidable p](h1:¬p->A)(h2:p->B):if(!decide p)=true then A else B:=by
 by_cases hp:p
 ·rw[if_neg (by rw[decide_eq_true hp];exact Ir)];exact h2 hp
 ·rw[if_pos (by rw[decide_eq_false hp];rfl)];exact h1 hp
end
structure Cal(P:Program)(w:World)(K:PySem.W.Frag)(mg:Str->Option Value)(base:Heap)(k:Nat)(x:Str)(ps:List Str)(sp:Sp)(f:Addr)(fd:FuncData):Prop where
 ok:FnOk P w K mg base CX0 k f fd ps sp
 mg:mg x=some (.ref f)
 kp:PySem.W.keepIn K (.ref f)=true
 bd:Binds K fd ps []
theorem Same.upd_new{H:Hp}{p:Addr}{o:HO}(h:H p=none):Same H (upd H p o):=λb u e=>by rw[upd_ne (aE e h)];exact e
theorem Same.then_new{H H1:Hp}{p:Addr}{o:HO}(s:Same H H1)(h:H1 p=none):Same H (upd H1 p o):=s.trans (Same.upd_new h)
theorem Same.ne{H H1:Hp}{a p:Addr}{o:HO}(s:Same H H1)(e:H a=some o)(h:H1 p=none):a≠p:=aE (s a o e) h
section
variable {X:Cx}{K:PySem.W.Frag}
theorem aM(h:X.K=K):IxR X (rD K):=by subst h;exact Cc
theorem ay(h:X.K=K):IxR X (rC K):=by subst h;exact Cb
theorem im(h:X.K=K):SlR X (jC K):=by subst h;exact w8
noncomputable def yv(K:PySem.W.Frag):List V->Hp->VK->Prop:=λxs H Q=>∃p ys,xs=[.ref p]/\(SqL K H p ys\/SqT K H p ys)/\Q (.int ys.length) H
theorem aX(h:X.K=K):CallR X (.builtin "len") (yv K):=by subst h;exact DX
noncomputable def yu(K:PySem.W.Frag):List V->Hp->VK->Prop:=λxs H Q=>∃p ys,xs=[.ref p]/\(SqL K H p ys\/SqT K H p ys)/\∀l,H l=none->Q (.ref l) (upd H l (.lst ys))
theorem g6(h:X.K=K):CallR X (.type "list") (yu K):=by subst h;exact DW
theorem mw(h:X.K=K)(hu:X.A.units+64<cLine):OpR X (compareOp .Eq) (rF K):=by subst h;exact ze hu
theorem se(h:X.K=K)(hu:X.A.units+64<cLine):OpR X (compareOp .NotEq) (rB K):=by subst h;exact y6 hu
theorem DY(h:X.K=K):CallR X (.builtin "isinstance") (iw K):=by subst h;exact DZ
theorem ci{tg l:Expr}{tl:TE}(h:X.K=K)(hl:PE X l tl):PI X tg l (ud K tl):=by subst h;exact yR hl
theorem gH{e:Expr}{ta:TE}{f:Str}{pos:Pos}(h:X.K=K)(he:PE X e ta)(hb:attributeBase e f X.env (eval e X.env)=eval e X.env):PE X (.Attribute e f pos) (pJ K ta f):=by subst h;exact yU he hb
end
noncomputable def Ite(K:PySem.W.Frag)(a:Addr):It :=
 ⟨λi H=>∃xs x,SqL K H a xs/\xs[i]?=some x,λi H x H'=>∃v p,x=.ref p/\H p=none/\H'=upd H p (.tup [.int i,v])/\∀xs,SqL K H a xs->xs[i]?=some v,λi H=>∃xs,SqL K H a xs/\xs.length<=i⟩
theorem wt{P:Program}{w:World}{K:PySem.W.Frag}{es:List Expr}{x1:Nat}{tp:Pos}(a e it:Addr)(hne:e≠it):Turn P w K (.Tuple es x1 tp) (Ite K a) [e,it] e (λi h=>(∃old,IsEnum h e it (i:Int) old)/\h.IsListIter it a i) where
 mem:=by simp
 obj:=λi h st b hb=>by
  obtain⟨⟨old,he⟩,hi⟩:=st;rcases HI.mp hb with rfl |hb
  ·exact⟨_,he,λv z=>by cases z⟩
  ·have q:b=it:=by simpa using hb
   subst q;obtain⟨o,e,c,d⟩:=hi;exact⟨o,e,λv z=>by rw[d]at z;cases z⟩
 keep:=λi h h' st k=>by obtain⟨⟨old,he⟩,hi⟩:=st;exact⟨⟨old,k e (by simp) _ he⟩,hi.at λo q=>k it (by simp) o q⟩
 item:=by
  intro X hP hw hK hc i pins s σ H E I hf st hg;subst hP hw hK;obtain⟨⟨old,he⟩,hi⟩:=st;obtain⟨xs,x,hq,hx⟩:=hg;obtain⟨its,rv,p,hz⟩:=I.list hq;obtain⟨u,hu,ru⟩:=rv.get hx;refine wpAny_pyNext_enum_item he hi p.isList (x:=u) (by simpa using hu) hne λh' out hit' htup hsz kk=>?_
  have hfp:H s.heap.objs.size=none:=I.hok.fresh (Ht _);have nfp:∀b o,H b=some o->b≠e/\b≠it:=λb o q=>⟨λz=>(by rw[z,(hf e (by simp)).1]at q;cases q),λz=>(by rw[z,(hf it (by simp)).1]at q;cases q)⟩
  have I1:Inv X pins σ (upd H s.heap.objs.size (.tup [.int i,x])) { s with heap:=h',toks:=s.toks+1 }:=by
   refine I.step (g':=s.gens) (d':=s.drawn) (ch:=[e,it]) (λb hb=>?_) (λb o _ _ hc q _=>kk b o (λz=>hc (by simp[z])) (λz=>hc (by simp[z])) q)
    (λb o _ _ hc q _=>⟨o.slots,kk b o (λz=>hc (by simp[z])) (λz=>hc (by simp[z])) q⟩) (λb o _ q n=>by rw[upd_ne (HR (Heap.lt_size q))];exact n)
    (λb o hc q=>⟨o,kk b o (λz=>hc (by simp[z])) (λz=>hc (by simp[z])) q⟩) (λb ys q=>by rw[upd_ne (aE q hfp)];exact q) (λb o ys q=>by rw[upd_ne (aE q hfp)];exact q)
    (λb ps q=>⟨#[],by rw[upd_ne (aE q hfp),q];simp⟩) (λm hm=>?_) (λb o q=>?_) I.bare
   ·obtain⟨f0,f1,f2,f3,f4,f5⟩:=hf b hb;exact⟨f3,f1,f4,f5⟩
   ·obtain⟨o,es',ep',ho,r⟩:=hm;exact⟨o,es',ep',kk _ o (Ne.symm (hf e (by simp)).2.1) (Ne.symm (hf it (by simp)).2.1) ho,r⟩
   ·by_cases hb:b=s.heap.objs.size
    ·subst hb;rw[aj]at q;cases q;exact⟨by show 2<=sizeLine;decide,[.int i s.toks,u],.cons ⟨_,rfl⟩ (.cons ru .nil),⟨_,htup,rfl,_,rfl⟩⟩
    ·rw[upd_ne hb]at q;refine(I.hok b o q).stay (λc v hc z=>?_) (λc z=>by rw[upd_ne (aE z hfp)];exact z) λc ys z=>by rw[upd_ne (aE z hfp)];exact z
     rcases hc with rfl |hc
     ·exact kk c v (nfp c o q).1 (nfp c o q).2 z
     ·exact kk c v (nfp c _ hc).1 (nfp c _ hc).2 z
  refine⟨_,rfl,wpAny_letOwnedTupleGo_enum out λh'' he'' sb=>?_⟩;obtain⟨f0,f1,f2,f3,f4,f5⟩:=hf e (by simp)
  have hen:upd H s.heap.objs.size (.tup [.int i,x]) e=none:=by rw[upd_ne (HR (Heap.lt_size he))];exact f0
  have I2:=I1.turned (h':=h'') (t':=s.toks+1) (it:=e) (λb o hb q=>(sb.2 b hb).trans q) hen f1 f3 f4 f5;refine⟨.ref s.heap.objs.size,_,I2,rfl,⟨x,_,rfl,hfp,rfl,λys hy=>by rw[I.list_inj hy hq];exact hx⟩,⟨⟨u,?_⟩,hit'.at λo q=>(sb.2 it (Ne.symm hne)).trans q⟩,λb hb=>?_⟩
  ·have:((i+1:Nat):Int)=(i:Int)+1:=by omega
   rw[this];exact he''
  ·have hlt:b<s.heap.objs.size:=by
    rcases HI.mp hb with rfl |hb
    ·exact Heap.lt_size he
    ·have q:b=it:=by simpa using hb
     subst q;obtain⟨o,e1,_⟩:=hi;exact Heap.lt_size e1
   rw[upd_ne (HR hlt)];exact(hf b hb).1
 done:=by intro X hP hw hK hc i pins s σ H E I hf st hg;subst hP hw hK;obtain⟨⟨old,he⟩,hi⟩:=st;obtain⟨xs,hq,hx⟩:=hg;obtain⟨its,rv,p,hz⟩:=I.list hq;obtain⟨f0,f1,f2,f3,f4,f5⟩:=hf it (by simp);have hl:=rv.length;exact wpAny_pyNext_enum_end (I.ok.hd hc) he hi p.isList (by simp;omega) λh' eb=>⟨rfl,I.turned (t':=s.toks) (λb o hb e=>eb b o hb e) f0 f1 f3 f4 f5⟩
 self:=λ_ _ _ _ _ st h=>by obtain⟨⟨old,he⟩,hi⟩:=st;exact wpAny_pyIter_enum he h
section
variable {X:Cx}
def Cm(K:PySem.W.Frag)(ta:TA):TI:=λσ H R=>ta σ H λvs H1=>∃a,vs=[.ref a]/\(∃xs,SqL K H1 a xs)/\R (Ite K a) H1
theorem fb{es:List Expr}{x1:Nat}{tp:Pos}{a:Expr}{ta:TA}{p pos:Pos}(hg:Gl X "enumerate")(hm:X.mg "enumerate"=none)(ha:PA X [a] ta)(hs:starEach [a] X.env=[(false,eval a X.env)]:=by rfl):PI X (.Tuple es x1 tp) (.Call (.Name "enumerate" p) [a] [] pos) (Cm X.K ta):=by
 intro pins s σ H R I h;refine Call_ (fi I hg hm boot_enumerate (PyProof.Rows.callWith_type1 (thn (ha pos pins s σ H _ I h) λus s1 ⟨vs,H1,I1,r1,q1⟩=>?_) hs rfl));obtain⟨a',e,⟨xs,hq⟩,q⟩:=q1;subst e;obtain⟨u,rfl,ru⟩:=r1.one;cases ru;obtain⟨its,rv,pl,hz⟩:=I1.list hq;refine call_enumerate_list pl.isList λh' he hit hsz hk=>?_
 have I2:Inv X pins σ H1 { s1 with heap:=h' }:=I1.kept (t':=s1.toks) hk;refine wpAny_pyIter_enum he ?_;refine⟨s1.heap.objs.size+1,[s1.heap.objs.size+1,s1.heap.objs.size],_,_,H1,rfl,I2,wt a' _ _ (Nat.succ_ne_self _),⟨⟨_,he⟩,hit⟩,λb hb=>?_,q⟩
 have hb':s1.heap.objs.size<=b:=by
  rcases HI.mp hb with rfl |hb
  ·exact Nat.le_succ _
  ·have q:b=s1.heap.objs.size:=by simpa using hb
   subst q;exact Ht _
 exact I1.fpOk hb' (I1.hok.fresh hb')
end
theorem gR{K:PySem.W.Frag}{a:Addr}{xs:List V}{g:TG}{tb:TS}{D:Ends}{σ:St}{H:Hp}(Pv:Nat->St->Hp->Prop)(h0:Pv 0 σ H)(hl:∀i σ H,i<=xs.length->Pv i σ H->SqL K H a xs)
 (hs:∀i x σ H p,xs[i]?=some x->Pv i σ H->H p=none->g (.ref p) σ (upd H p (.tup [.int i,x])) λσ2 H2=>tb { D with nx:=Pv (i+1),ct:=Pv (i+1),bk:=D.nx } σ2 H2) (hd:∀σ H,Pv xs.length σ H->D.nx σ H) :
 ∃W:Nat->Nat->St->Hp->Prop,(∃m,W 0 m σ H)/\∀i m σ H,W i m σ H ->
  ((Ite K a).stop i H/\D.nx σ H)\/((Ite K a).go i H/\∃N:St->Hp->Prop,(∀σ' H',N σ' H'->∃m',m'<m/\W (i+1) m' σ' H')/\∀x H',(Ite K a).yld i H x H'->g x σ H' λσ2 H2=>tb { D with nx:=N,ct:=N,bk:=D.nx } σ2 H2):=by
 refine⟨λi m σ H=>m=xs.length-i/\i<=xs.length/\Pv i σ H,⟨xs.length,by simp,Hy _,h0⟩,?_⟩;rintro i m σ H ⟨rfl,hi,p⟩;have q:=hl i σ H hi p;by_cases hlt:i<xs.length
 ·refine .inr ⟨⟨xs,xs[i],q,by simp[hlt]⟩,Pv (i+1),λσ' H' p'=>⟨xs.length-(i+1),by omega,rfl,hlt,p'⟩,λx H' y=>?_⟩;obtain⟨v,r,rfl,hr,rfl,y⟩:=y;exact hs i v σ _ r (y xs q) p hr
 ·have e:i=xs.length:=by omega
  subst e;exact .inl ⟨⟨xs,q,Ht _⟩,hd σ H p⟩
theorem nX{n:Nat}{js:List Nat}{K:PySem.W.Frag}{a:Addr}{xs:List V}{g:TG}{te:TE}{σ0:St}{H:Hp}{Q:VK}(Pv:Nat->List V->St->Hp->Prop)(hz:xs.length<=sizeLine)(h0:Pv 0 [] (dP n js σ0) H)(hl:∀i ys σ H,i<=xs.length->Pv i ys σ H->SqL K H a xs/\ys.length<=i)
 (hs:∀i x ys σ H p,xs[i]?=some x->Pv i ys σ H->H p=none->g (.ref p) σ (upd H p (.tup [.int i,x])) λσ2 H2=>te σ2 H2 λy H3=>Pv (i+1) (ys++[y]) σ2 H3) (hd:∀ys σ H p,Pv xs.length ys σ H->H p=none->Q (.ref p) (upd H p (.lst ys))) :
 j8 n js g te σ0 Q (Ite K a) H:=by
 refine⟨λi m ys σ H=>m=xs.length-i/\i<=xs.length/\Pv i ys σ H,⟨xs.length,by simp,Hy _,h0⟩,?_⟩;rintro i m ys σ H ⟨rfl,hi,p⟩;obtain⟨q,hy⟩:=hl i ys σ H hi p;by_cases hlt:i<xs.length
 ·refine .inr ⟨⟨xs,xs[i],q,by simp[hlt]⟩,by omega,λy σ'' H''=>Pv (i+1) (ys++[y]) σ'' H'',λy σ' H' p'=>⟨xs.length-(i+1),by omega,rfl,hlt,p'⟩,λx H' y=>?_⟩;obtain⟨v,r,rfl,hr,rfl,y⟩:=y;exact hs i v ys σ _ r (y xs q) p hr
 ·have e:i=xs.length:=by omega
  subst e;exact .inl ⟨⟨xs,q,Ht _⟩,λr hr=>hd ys σ H r p hr⟩
noncomputable def Itv(K:PySem.W.Frag)(a:Addr)(xs:List V):It :=
 ⟨λi H=>SqL K H a xs/\i<xs.length,λi H x H'=>H'=H/\xs[xs.length-1-i]?=some x,λi H=>xs.length<=i⟩
theorem wm{P:Program}{w:World}{K:PySem.W.Frag}{tg:Expr}(a it:Addr)(xs:List V):Turn P w K tg (Itv K a xs) [it] it (λi h=>i<=xs.length/\h.IsRevIter it a ((xs.length:Int)-1-i)) where
 mem:=by simp
 obj:=λi h st b hb=>by
  have e:b=it:=by simpa using hb
  subst e;obtain⟨_,o,e,c,d⟩:=st;exact⟨o,e,λv z=>by rw[d]at z;cases z⟩
 keep:=λi h h' st k=>⟨st.1,st.2.at λo e=>k it (by simp) o e⟩
 item:=by
  intro X hP hw hK hc i pins s σ H E I hf st hg;subst hP hw hK;obtain⟨hq,hlt⟩:=hg;obtain⟨its,rv,p,hz⟩:=I.list hq;have hl:=rv.length;obtain⟨x,hx⟩:∃x,xs[xs.length-1-i]?=some x:=⟨_,List.getElem?_eq_getElem (by omega)⟩;obtain⟨u,hu,ru⟩:=rv.get hx;obtain⟨f0,f1,f2,f3,f4,f5⟩:=hf it (by simp);have e1:(xs.length:Int)-1-i=((xs.length-1-i:Nat):Int):=by omega
  have hit:=st.2;rw[e1]at hit;refine wpAny_pyNext_rev_item hit p.isList (x:=u) (by simpa using hu) λh' st' sb=>?_
  have I1:Inv X pins σ H { s with heap:=h' }:=I.turned (t':=s.toks) (λb o hb e=>(sb.2 b hb).trans e) f0 f1 f3 f4 f5;obtain⟨o,e,c,d⟩:=id st';refine⟨u,rfl,jQ (s:={ s with heap:=h' }) e c d (by decide) ⟨x,H,I1,ru,⟨rfl,hx⟩,⟨hlt,?_⟩,λb hb=>(hf b hb).1⟩⟩;have e2:(xs.length:Int)-1-((i+1:Nat):Int)=((xs.length-1-i:Nat):Int)-1:=by omega
  rw[e2];exact st'
 done:=by
  intro X hP hw hK hc i pins s σ H E I hf st hg;subst hP hw hK;obtain⟨f0,f1,f2,f3,f4,f5⟩:=hf it (by simp);have hle:xs.length<=i:=hg;have e1:(xs.length:Int)-1-i = -1:=by have:=st.1;omega
  have hit:=st.2;rw[e1]at hit;exact wpAny_pyNext_rev_end (I.ok.hd hc) hit λh' eb=>⟨rfl,I.turned (t':=s.toks) (λb o hb e=>eb b o hb e) f0 f1 f3 f4 f5⟩
 self:=λ_ _ _ _ _ st h=>wpAny_pyIter_revIter st.2 h
section
variable {X:Cx}{tg:Expr}
def Cl(K:PySem.W.Frag)(ta:TA):TI:=λσ H R=>ta σ H λvs H1=>∃a xs,vs=[.ref a]/\SqL K H1 a xs/\R (Itv K a xs) H1
theorem yP{a:Expr}{ta:TA}{p pos:Pos}(hg:Gl X "reversed")(hm:X.mg "reversed"=none)(ha:PA X [a] ta)(hs:starEach [a] X.env=[(false,eval a X.env)]:=by rfl):PI X tg (.Call (.Name "reversed" p) [a] [] pos) (Cl X.K ta):=by
 intro pins s σ H R I h;refine Call_ (fi I hg hm boot_reversed (PyProof.Rows.callWith_type1 (thn (ha pos pins s σ H _ I h) λus s1 ⟨vs,H1,I1,r1,q1⟩=>?_) hs rfl));obtain⟨a',xs,e,hq,q⟩:=q1;subst e;obtain⟨u,rfl,ru⟩:=r1.one;cases ru;obtain⟨its,rv,pl,hz⟩:=I1.list hq;have hl:=rv.length;refine call_reversed_list pl.isList ?_
 have hit:(s1.heap.push (revObj a' ((its.toArray.size:Int)-1))).IsRevIter s1.heap.objs.size a' ((xs.length:Int)-1-((0:Nat):Int)):=by
  have e1:(xs.length:Int)-1-((0:Nat):Int)=(its.toArray.size:Int)-1:=by rw[HK];omega
  rw[e1];exact⟨_,Heap.get?_push_size _ rfl,rfl,rfl⟩
 have I2:Inv X pins σ H1 { s1 with heap:=s1.heap.push (revObj a' ((its.toArray.size:Int)-1)) }:=I1.kept (t':=s1.toks) λb o e=>Heap.get?_push_of_some _ e
 refine wpAny_pyIter_revIter (s:={ s1 with heap:=s1.heap.push (revObj a' ((its.toArray.size:Int)-1)) }) hit ?_;refine⟨s1.heap.objs.size,[s1.heap.objs.size],_,_,H1,rfl,I2,wm a' _ xs,⟨Hy _,hit⟩,λb hb=>?_,q⟩;have e:b=s1.heap.objs.size:=by simpa using hb
 subst e;exact I1.fpOk (Ht _) (I1.hok.fresh (Ht _))
end
theorem CL{K:PySem.W.Frag}{a:Addr}{xs:List V}{g:TG}{tb:TS}{D:Ends}{σ:St}{H:Hp}(Pv:Nat->St->Hp->Prop)(h0:Pv 0 σ H)(hl:∀i σ H,i<=xs.length->Pv i σ H->SqL K H a xs)
 (hs:∀i x σ H,i<xs.length->xs[xs.length-1-i]?=some x->Pv i σ H->g x σ H λσ2 H2=>tb { D with nx:=Pv (i+1),ct:=Pv (i+1),bk:=D.nx } σ2 H2) (hd:∀σ H,Pv xs.length σ H->D.nx σ H) :
 ∃W:Nat->Nat->St->Hp->Prop,(∃m,W 0 m σ H)/\∀i m σ H,W i m σ H ->
  ((Itv K a xs).stop i H/\D.nx σ H)\/((Itv K a xs).go i H/\∃N:St->Hp->Prop,(∀σ' H',N σ' H'->∃m',m'<m/\W (i+1) m' σ' H')/\∀x H',(Itv K a xs).yld i H x H'->g x σ H' λσ2 H2=>tb { D with nx:=N,ct:=N,bk:=D.nx } σ2 H2):=by
 refine⟨λi m σ H=>m=xs.length-i/\i<=xs.length/\Pv i σ H,⟨xs.length,by simp,Hy _,h0⟩,?_⟩;rintro i m σ H ⟨rfl,hi,p⟩;by_cases hlt:i<xs.length
 ·refine .inr ⟨⟨hl i σ H hi p,hlt⟩,Pv (i+1),λσ' H' p'=>⟨xs.length-(i+1),by omega,rfl,hlt,p'⟩,λx H' y=>?_⟩;obtain⟨e,y⟩:=y;subst e;exact hs i x σ _ hlt y p
 ·have e:i=xs.length:=by omega
  subst e;exact .inl ⟨Ht _,hd σ H p⟩
structure FunD(K:PySem.W.Frag)(x qual:Str)(st:Stmt)(dV:Value)(f:Addr)(fd:FuncData):Prop where
 ex:∃(oc:Value) (od:Option Addr) (kV doc pm:Value) (an:Option Addr) (cdv ct:Value) (osl:Array (Option Value)),
  fd=PySem.W.fnOf x qual (df st) (cQ st) (aA st) dV kV doc pm an cdv ct/\K.lookup f=some ⟨oc,od,.func fd,osl⟩/\PySem.W.codeIn K cdv qual=true
 kp:PySem.W.keepIn K (.ref f)=true
section
variable {P:Program}{w:World}{K:PySem.W.Frag}{mg:Str->Option Value}{base:Heap}
theorem FunD.ok{x qual:Str}{st:Stmt}{dV:Value}{f:Addr}{fd:FuncData}{N ps:List Str}{k:Nat}{sp:Sp}(F:FunD K x qual st dV f fd)(S:FnScope N ps (aA st))(len:∀vs H Q E,sp vs H Q E->vs.length=ps.length)
 (hbody:∀(cdv:Value) (A:Around) (outer:List Env) (s:Shared) (H:Hp) (vs:List V) (Q:VK) (E:XK),Room k (A.deeper (envOfC qual (aA st) s.heap.objs.size f cdv))->sp vs H Q E ->
   ∃t,PSs (gc CX0 P w K mg base N qual (aA st) f cdv A outer s H E).nox (cQ st) t/\t { nx:=λ_ H'=>Q .non H',rt:=Q } (eW N vs) H):FnOk P w K mg base CX0 (k+1) f fd ps sp:=by
 obtain⟨oc,od,kV,doc,pm,an,cdv,ct,osl,rfl,lk,hcd⟩:=F.ex;refine uw lk hcd S len λA outer s H vs Q E hr hsp=>?_
 obtain⟨t,h,q⟩:=hbody cdv A outer s H vs Q E hr hsp;exact⟨t,h.nox,q⟩
theorem FunD.binds{x qual:Str}{st:Stmt}{dV:Value}{f:Addr}{fd:FuncData}{ps:List Str}(F:FunD K x qual st dV f fd)
 (h:∀(kV doc pm:Value) (an:Option Addr) (cdv ct:Value) (us:List Value),us.length=ps.length->bindArgs (PySem.W.fnOf x qual (df st) (cQ st) (aA st) dV kV doc pm an cdv ct) ⟨us,[]⟩=pure (ps.zip us)):Binds K fd ps []:=by
 obtain⟨oc,od,kV,doc,pm,an,cdv,ct,osl,rfl,lk,hcd⟩:=F.ex;exact .all (h kV doc pm an cdv ct)
theorem FunD.bindsD{x qual:Str}{st:Stmt}{T:Addr}{f:Addr}{fd:FuncData}{ps:List Str}{ds tup:List Value}{o:Obj}{n:Nat}(m:Nat)(F:FunD K x qual st (.ref T) f fd)(lo:K.lookup T=some o)(hs:o.data=.seq tup.toArray n)(hm:m+ds.length=ps.length)
 (h:∀(kV doc pm:Value) (an:Option Addr) (cdv ct:Value) (us:List Value),us.length=m->∃k:Option (Array Value)->Sem (List (Str×Value)),
   bindArgs (PySem.W.fnOf x qual (df st) (cQ st) (aA st) (.ref T) kV doc pm an cdv ct) ⟨us,[]⟩=seqItems? (.ref T) >>= k/\k (some tup.toArray)=pure (ps.zip (us++ds))):Binds K fd ps ds:=by
 obtain⟨oc,od,kV,doc,pm,an,cdv,ct,osl,rfl,lk,hcd⟩:=F.ex;intro s us KX hl;rw[Hv]at hl;obtain⟨k,h1,h2⟩:=h kV doc pm an cdv ct us (by omega);exact PySem.W.binds_K (k:=k) KX rfl lo hs h1 h2
theorem CK{x qual:Str}{st:Stmt}{f:Addr}{oc:Value}{od an:Option Addr}{osl:Array (Option Value)}{dV kV doc pm cdv ct:Value}(l:K.lookup f=some ⟨oc,od,.func (PySem.W.fnOf x qual (df st) (cQ st) (aA st) dV kV doc pm an cdv ct),osl⟩)
 (c:PySem.W.codeIn K cdv qual=true) (k:PySem.W.keepIn K (.ref f)=true):FunD K x qual st dV f (PySem.W.fnOf x qual (df st) (cQ st) (aA st) dV kV doc pm an cdv ct):=⟨⟨oc,od,kV,doc,pm,an,cdv,ct,osl,rfl,l,c⟩,k⟩
end
structure MCal(P:Program)(w:World)(K:PySem.W.Frag)(mg:Str->Option Value)(base:Heap)(k:Nat)(C:Addr)(m:Str)(ps:List Str)(sp:Sp)(f:Addr)(fd:FuncData):Prop where
 ok:FnOk P w K mg base CX0 k f fd ps sp
 mt:Meth K C m f
 bd:Binds K fd ps []
structure KCal(P:Program)(w:World)(K:PySem.W.Frag)(mg:Str->Option Value)(base:Heap)(k:Nat)(C:Addr)(x:Str)(ps:List Str)(sp:Sp)(f:Addr)(fd:FuncData)(ds:List Value)(dvs:List V):Prop where
 ok:FnOk P w K mg base CX0 k f fd ps sp
 mkr:Mk K C f
 mg:mg x=some (.ref C)
 bd:Binds K fd ps []
 bdD:Binds K fd ps ds
 vd:Vals dvs ds
section
variable {prog:Program}{w:World}{A:Around}{E:Value->Shared->Prop}{s:Shared}
end
section
variable {X:Cx}{K:PySem.W.Frag}
theorem mr{pos:Pos}{es:List Expr}{k:Nat}{t:TGs}{n:Nat}(hK:X.K=K)(hc:X.calm=true)(h:PGs X es t)(hn:(assignEach es X.env).length=n)(hst:(assignEach es X.env).findIdx? (·.1)=none):PG X (.Tuple es k pos) (ur K n t):=by subst hK;exact fC hc h hn hst
end
section
variable {P:Program}{w:World}{K:PySem.W.Frag}{mg:Str->Option Value}{base:Heap}{N:List Str}{qual:Str}{scope:Scope}{f:Addr}{cd:Value}{A:Around}{outer:List Env}{s:Shared}{H:Hp}{E:XK}{pins:List (Addr×Obj)}{σ:St}{H1:Hp}{s1:Shared}
end
noncomputable def iU(lo:Int)(n:Nat):It:=⟨λi _=>i<n,λi H x H'=>H'=H/\x=.int (lo+i * -1),λi _=>n<=i⟩
theorem wn{P:Program}{w:World}{K:PySem.W.Frag}{tg:Expr}(it:Addr)(lo:Int)(n:Nat):Turn P w K tg (iU lo n) [it] it (λi h=>IsRangeIter h it (lo+(i:Nat) * -1) ((n:Int)-(i:Nat)) (-1)) where
 mem:=by simp
 obj:=λi h st b hb=>by
  have e:b=it:=by simpa using hb
  subst e
  exact⟨_,st,λv z=>by
   have z':Data.fields _=Data.cell v:=z
   cases z'⟩
 keep:=λi h h' st k=>k it (by simp) _ st
 item:=by
  intro X hP hw hK hc i pins s σ H E I hf st hg;subst hP hw hK;obtain⟨f0,f1,f2,f3,f4,f5⟩:=hf it (by simp);have W:=Walks.range (prog:=X.prog) (w:=X.w) (I.ok.hd hc) it lo (-1) n;refine W.item i s _ _ hg st λv h' tk hv st' kk=>?_
  obtain⟨t,rfl⟩:=hv;have I1:Inv X pins σ H { s with heap:=h',toks:=tk }:=I.turned (λb o hb e=>kk b o (by simpa using hb) e) f0 f1 f3 f4 f5;exact⟨_,rfl,jQ (s:={ s with heap:=h',toks:=tk }) (n:="range_iterator") st' rfl rfl (by decide) ⟨.int (lo+i * -1),H,I1,⟨t,rfl⟩,⟨rfl,rfl⟩,st',λb hb=>(hf b hb).1⟩⟩
 done:=by intro X hP hw hK hc i pins s σ H E I hf st hg;subst hP hw hK;obtain⟨f0,f1,f2,f3,f4,f5⟩:=hf it (by simp);exact wpAny_pyNext_range_end (I.ok.hd hc) st (by have:n<=i:=hg;omega) λh' eb=>⟨rfl,I.turned (t':=s.toks) (λb o hb e=>eb b o hb e) f0 f1 f3 f4 f5⟩
 self:=λ_ _ _ _ _ st h=>wpAny_pyIter_rangeiter st h
section
variable {X:Cx}{tg:Expr}
end
theorem CM{lo:Int}{n:Nat}{g:TG}{tb:TS}{D:Ends}{σ:St}{H:Hp}(Pv:Nat->St->Hp->Prop)(h0:Pv 0 σ H)
 (hs:∀i σ H,i<n->Pv i σ H->g (.int (lo+i * -1)) σ H λσ2 H2=>tb { D with nx:=Pv (i+1),ct:=Pv (i+1),bk:=D.nx } σ2 H2) (hd:∀σ H,Pv n σ H->D.nx σ H) :
 ∃W:Nat->Nat->St->Hp->Prop,(∃m,W 0 m σ H)/\∀i m σ H,W i m σ H ->
  ((iU lo n).stop i H/\D.nx σ H)\/((iU lo n).go i H/\∃N:St->Hp->Prop,(∀σ' H',N σ' H'->∃m',m'<m/\W (i+1) m' σ' H')/\∀x H',(iU lo n).yld i H x H'->g x σ H' λσ2 H2=>tb { D with nx:=N,ct:=N,bk:=D.nx } σ2 H2):=by
 refine⟨λi m σ H=>m=n-i/\i<=n/\Pv i σ H,⟨n,by simp,Hy _,h0⟩,?_⟩;rintro i m σ H ⟨rfl,hi,p⟩;by_cases hlt:i<n
 ·refine .inr ⟨hlt,Pv (i+1),λσ' H' p'=>⟨n-(i+1),by omega,rfl,hlt,p'⟩,λx H' y=>?_⟩;obtain⟨e,y⟩:=y;subst e y;exact hs i σ _ hlt p
 ·have e:i=n:=by omega
  subst e;exact .inl ⟨Ht _,hd σ H p⟩
def Rws(K:PySem.W.Frag)(H:Hp)(ps:List Addr)(xss:List (List Int)):Prop:=ps.length=xss.length/\∀(i:Nat) (p:Addr) (xs:List Int),ps[i]?=some p->xss[i]?=some xs->SqL K H p (xs.map V.int)
def rE(K:PySem.W.Frag):R2:=λx y H Q=>∃(a b:Addr) (ps qs:List Addr) (xss yss:List (List Int)),x=.ref a/\y=.ref b/\SqL K H a (ps.map V.ref)/\SqL K H b (qs.map V.ref)/\Rws K H ps xss/\Rws K H qs yss/\Q (.bl (decide (xss=yss))) H
theorem gB:∀{ps:List Addr} {us:List Value},Vals (ps.map V.ref) us->us=ps.map Value.ref
 | [],_,h=>by cases h;rfl
 |p::ps,_,h=>by
  cases h with
  |cons r rr =>cases r;rw[gB rr];rfl
theorem Ey{xss yss:List (List Int)}(hl:xss.length=yss.length):(List.range xss.length).all (λj=>decide (xss[j]?=yss[j]?))=decide (xss=yss):=by
 rw[II,IS,decide_eq_true_eq];constructor
 ·intro h;refine List.ext_getElem? λj=>?_
  by_cases hj:j<xss.length
  ·exact of_decide_eq_true (h j (IX.mpr hj))
  ·rw[List.getElem?_eq_none_iff.mpr (by omega),List.getElem?_eq_none_iff.mpr (by omega)]
 ·intro h j _;rw[h];exact decide_eq_true rfl
section
variable {X:Cx}{K:PySem.W.Frag}
theorem x4{pins:List (Addr×Obj)}{σ:St}{H:Hp}{s:Shared}{ps qs:List Addr}{xss yss:List (List Int)}(I:Inv X pins σ H s)(hu:X.A.units+66<cLine)(hp:Rws X.K H ps xss)(hq:Rws X.K H qs yss)(j:Nat)(h1:j<(ps.map Value.ref).toArray.size)(h2:j<(qs.map Value.ref).toArray.size) :
 SeqAt.EqAt X.A.in1 s (ps.map Value.ref).toArray[j] (qs.map Value.ref).toArray[j] (decide (xss[j]?=yss[j]?)):=by
 have j1:j<ps.length:=by simpa using h1
 have j2:j<qs.length:=by simpa using h2
 have k1:j<xss.length:=by rw[<- hp.1];exact j1
 have k2:j<yss.length:=by rw[<- hq.1];exact j2
 obtain⟨i1,r1,p1,_⟩:=I.list (hp.2 j ps[j] xss[j] (by simp) (by simp));obtain⟨i2,r2,p2,_⟩:=I.list (hq.2 j qs[j] yss[j] (by simp) (by simp));have e:=PySem.W.keq_ints (A:=X.A) p1.isList (fK r1) p2.isList (fK r2) (by show X.A.units+1+64<cLine;omega)
 have ee:decide (xss[j]?=yss[j]?)=decide (xss[j]=yss[j]):=by rw[List.getElem?_eq_getElem k1,List.getElem?_eq_getElem k2];simp
 rw[ee];simpa using e
theorem zd(hu:X.A.units+66<cLine):OpR X (compareOp .Eq) (rE X.K):=by
 intro pins s σ H x y v u Q I rx ry h;obtain⟨a,b,ps,qs,xss,yss,rfl,rfl,ha,hb,hp,hq,q⟩:=h;cases rx;cases ry;obtain⟨i1,r1,p1,_⟩:=I.list ha;obtain⟨i2,r2,p2,_⟩:=I.list hb;obtain rfl:=gB r1;obtain rfl:=gB r2;by_cases hl:ps.length=qs.length
 ·refine SeqAt.eq_listAt (e:=λj=>decide (xss[j]?=yss[j]?)) p1.isList p2.isList (by simpa using hl) (by omega) (λj h1 h2=>x4 I hu hp hq j h1 h2) ⟨.bl _,H,I,?_,q⟩;show Value.bool _=Value.bool _
  congr 1
  have e:(ps.map Value.ref).toArray.size=xss.length:=by rw[<- hp.1];simp
  rw[e];exact Ey (by rw[<- hp.1,<- hq.1,hl])
 ·refine SeqAt.eq_list_lengthsAt p1.isList p2.isList (by simpa using hl) (by omega) ⟨.bl _,H,I,?_,q⟩;show Value.bool _=Value.bool _
  congr 1
  exact(decide_eq_false λz=>hl (by rw[hp.1,hq.1,z])).symm
theorem zc(h:X.K=K)(hu:X.A.units+66<cLine):OpR X (compareOp .Eq) (rE K):=by subst h;exact zd hu
end
theorem Bt{P:Program}{w:World}{K:PySem.W.Frag}{mg mb:Str->Option Value}{CX:CXT}{k:Nat}{fa a:Addr}{fd:FuncData}{x:Str}{sp:Sp}{s₁:Shared}{vs:List Value}{ns:List Int}
 (KX:K.In s₁.heap) (hns:s₁.heap.Ns mainGlobals mg) (hb:s₁.heap.Ns builtinsNs mb) (hbb:∀x:Str,x≠"__name__"->mb x=bootBuiltins x) (hlim:s₁.heap.NoLimit) (hse:s₁.heap.NoSeer) (hg:s₁.gens=#[])
 (ha:s₁.heap.get? a=some { cls:=.type "list",data:=.seq vs.toArray }) (hi:IntsAre vs ns) (hl:ns.length<=sizeLine) (hr:Room k callerA)
 (F:∀base:Heap,K.In base->base.Ns mainGlobals mg->base.NoSeer->FnOk P w K mg base CX k fa fd [x] sp) (hbind:∀(s:Shared) (u:Value),BindsTo s fd ⟨[u],[]⟩ [(x,u)])
 (hsp:∀H:Hp,oH H->SqL K H a (ns.map V.int)->sp [.ref a] H (λv _=>v=.bl true) λ_ _ _=>False)
 (hCX:∀H e s',CX [] H s₁ (λ_ _ _=>False) e s'->False) :
 codeAny (model P w) callerA (.call (.ref fa) ⟨[.ref a],[]⟩) (λr s'=>r=.ok (.ret (.bool true))/\OldK s₁.heap s'.heap/\s'.os=s₁.os/\AllBare s'.gens) s₁:=by
 have rv:=o6 hi;have lenV:=hi.length
 have core:∀H:Hp,oH H->SqL K H a (ns.map V.int)->HOk P w H s₁.heap->(∀b,H b≠none->b=a)->(H a≠none->K.lookup a=none) ->
  codeAny (model P w) callerA (.call (.ref fa) ⟨[.ref a],[]⟩) (λr s'=>r=.ok (.ret (.bool true))/\OldK s₁.heap s'.heap/\s'.os=s₁.os/\AllBare s'.gens) s₁:=by
  intro H hO hS hok hA hK;have base_of:∀{b:Addr} {o:Obj},s₁.heap.get? b=some o->H b=none->(eI s₁.heap H).get? b=some o:=λe n=>Cr e n
  have noA:∀{b:Addr} {o:Obj} {es:Array DictEntry} {ep:Nat},s₁.heap.get? b=some o->o.data=.dict es ep->H b=none:=λ{b o es ep} e d=>by
   cases q:H b with
   |none=>rfl
   |some u =>have e':b=a:=hA b (by rw[q];simp);subst e';rw[ha]at e;cases e;have d':Data.seq vs.toArray _=Data.dict es ep:=d;cases d'
  have nsK:∀{b:Addr} {m:Str->Option Value},s₁.heap.Ns b m->(eI s₁.heap H).Ns b m:=λ{b m} ⟨o,es,ep,e,d,r⟩=>⟨o,es,ep,base_of e (noA e d),d,r⟩
  have hKb:K.In (eI s₁.heap H):=λb o e=>base_of (KX b o e) (by
   cases q:H b with
   |none=>rfl
   |some u =>
    have e':b=a:=hA b (by rw[q];simp);subst e'
    rw[hK (by rw[q];simp)]at e;cases e)
  have hM:Mod K mg (eI s₁.heap H):=⟨hKb,nsK hns,⟨mb,nsK hb,hbb⟩,let⟨mc,h1,h2⟩:=hlim;⟨mc,nsK h1,h2⟩⟩
  have hSb:(eI s₁.heap H).NoSeer:=by
   obtain⟨⟨mc,c1,c2,c3⟩,⟨mm,m1,m2⟩,⟨mb',b1,b2⟩,⟨mg',bm,ob,g1,g2,g3,g4,g5⟩⟩:=hse;refine⟨⟨mc,nsK c1,c2,c3⟩,⟨mm,nsK m1,m2⟩,⟨mb',nsK b1,b2⟩,⟨mg',bm,ob,nsK g1,g2,base_of g3 ?_,g4,g5⟩⟩;cases q:H bm with
   |none=>rfl
   |some u =>have e':bm=a:=hA bm (by rw[q];simp);rw[e',ha]at g3;cases g3;exact absurd (Value.type.inj g4) (by decide)
  have e0:Env0 P w K mg (eI s₁.heap H) callerA [] s₁ H:=⟨rfl,hM,λb o e=>Ak e,IC (Cq _ _),trivial,λb hb=>absurd (show b∈([]:List Addr)from hb) (by simp),hok,.of_eq hg⟩;refine codeAny_mono ((F _ hKb (nsK hns) hSb).run callerA [] s₁ H ⟨[.ref a],[]⟩ [.ref a] [.ref a] _ _ hr e0 (hbind s₁ (.ref a)) (.cons rfl .nil) (hsp H hO hS)) λr s' h=>?_
  cases r with
  |error e=>exact(hCX H e s' h).elim
  |ok fl =>
   cases fl with
   |next=>exact False.elim h
   |brk=>exact False.elim h
   |cont=>exact False.elim h
   |ret u =>
    obtain⟨v,H',os,bare,un,hok',r',q⟩:=h;have q':v=.bl true:=q;subst q';obtain rfl:u=Value.bool true:=r';refine⟨rfl,OldK.of_keep λb o e=>?_,os,bare⟩;cases q:H b with
    |none=>exact un.keep b o e q (by intro z;exact absurd (show b∈([]:List Addr)from z) (by simp)) (by simp)
    |some u =>
     rcases hO b with z |⟨ob,xs,z⟩
     ·rw[q]at z;cases z
     ·have z2:=un.frzs b ob _ z;obtain⟨e1,_⟩:=hok b _ z;obtain⟨e2,_⟩:=hok' b _ z2;rw[e]at e1;cases e1;exact e2
 cases hk:K.lookup a with
 |some o =>have e:=KX a o hk;rw[ha]at e;cases e;refine core (λ_=>none) (λ_=>.inl rfl) (.inr ⟨_,vs.toArray,_,hk,rfl,rfl,rfl,by rw[HK,lenV];exact hl,by simpa using rv⟩) (λb u z=>by have z':(none:Option HO)=some u:=z;cases z') (λb z=>absurd rfl z) λz=>absurd rfl z
 |none =>
  refine core (λb=>if b=a then some (.frz { cls:=.type "list",data:=.seq vs.toArray } (.lst (ns.map V.int)))else none) (λb=>?_) (.inl (.inr ⟨{ cls:=.type "list",data:=.seq vs.toArray },if_pos rfl⟩)) (λb u z=>?_) (λb z=>?_) λ_=>hk
  ·by_cases hb:b=a
   ·exact .inr ⟨_,_,if_pos hb⟩
   ·exact .inl (if_neg hb)
  ·by_cases hb:b=a
   ·have z':=(if_pos hb).symm.trans z;cases z';subst hb;exact⟨ha,by rw[Hs];exact hl,vs,_,rv,ha⟩
   ·have z':=(if_neg hb).symm.trans z;cases z'
  ·by_cases hb:b=a
   ·exact hb
   ·exact absurd (if_neg hb) z
theorem walk_ofS{l:PySem.W.OpenLaw}{n k:Nat}{q:Program}{loose:List Str}{XP:(Str->Option Value)->Heap->Prop}{YP:World->Heap->Prop}{d:DefRec}{K:Params->PySem.W.Frag}{CX:World->CXT}{sp:World->Sp}{x:Str}
 (hi:PyProof.Rows.importsNone q=true) (hn:l.most=some n) (hn2:n<=sizeLine) (hdf:d.params.defaults=[]) (hr:Room k callerA)
 (hY:∀(w:World) (h:Heap),YP w h->(K w.params).In h)
 (F:∀(w:World) (mg:Str->Option Value) (fa:Addr) (h:Heap),(K w.params).In h->h.Ns mainGlobals mg->mg d.name=some (.ref fa) ->
   ∃fd:FuncData,(∀(s:Shared) (u:Value),BindsTo s fd ⟨[u],[]⟩ [(x,u)]) /\
    ∀base:Heap,(K w.params).In base->base.Ns mainGlobals mg->base.NoSeer->FnOk l.prog w (K w.params) mg base (CX w) k fa fd [x] (sp w))
 (hsp:∀(w:World) (H:Hp) (a:Addr) (ns:List Int),ns.length<=n->oH H->SqL (K w.params) H a (ns.map V.int)->sp w [.ref a] H (λv _=>v=.bl true) λ_ _ _=>False)
 (hCX:∀(w:World) (H:Hp) (s:Shared) (e:Value) (s':Shared),CX w [] H s (λ_ _ _=>False) e s'->False) :
 PySem.W.WalkO q loose XP YP l.row.toRowW d [] (λf vs=>PySem.call f vs):=by
 refine Att.attach_call hn hdf λw s₀ s₁ mg mb fa o pm cd doc a vs ns G Y ho hd hcd hmg hobj hints hlen hg=>?_
 have KX:=hY w _ Y;obtain⟨fd,hb,hF⟩:=F w mg fa _ KX G.T.g hmg;exact Bt KX G.T.g G.T.b G.T.builtins G.T.nolimit (G.T.seer hi) hg hobj hints (HH hlen hn2) hr hF hb (λH hO hS=>hsp w H a ns hlen hO hS) λH e s'=>hCX w H s₁ e s'
section
variable {X:Cx}{e:Env}{l:List Env}
theorem rh{pins:List (Addr×Obj)}{σ:St}{H:Hp}{s:Shared}(hs:X.base.NoSeer)(ht:X.prog.given.tree=none)(hd:X.A.depth+100<recursionLimit)(hst:X.stack=e::l)(h1:e.scope.isGenerator=false)(h2:e.scope.isCoroutine=false)(h3:e.builtins=builtinsNs)(h4:e.globals=mainGlobals)(I:Inv X pins σ H s):PylongRoom (model X.prog X.w) X.A s :=
 PylongRoom.of (I.ok.mod.nolimit.keeps I.bk) hd (SeerAt.of (hs.keeps I.bk) ht (by rw[I.ok.frames,hst]) h1 h2 h3 h4)
theorem jJ(hs:X.base.NoSeer)(ht:X.prog.given.tree=none)(hd:X.A.depth+100<recursionLimit)(hst:X.stack=e::l)(h1:e.scope.isGenerator=false)(h2:e.scope.isCoroutine=false)(h3:e.builtins=builtinsNs)(h4:e.globals=mainGlobals):OpR X (binaryOp .FloorDiv) (rI (λ_ j=>0<j) λi j=>.int (i/j)):=by intro pins s σ H x y v u Q I rx ry h;obtain⟨i,j,rfl,rfl,hj,q⟩:=h;obtain⟨t,rfl⟩:=rx;obtain⟨t',rfl⟩:=ry;have hj':(0:Int)<j:=hj;refine floordiv_int (I0 hj') ?_ (.inr (rh hs ht hd hst h1 h2 h3 h4 I));rw[Int.fdiv_eq_ediv_of_nonneg _ (HD hj')];exact⟨.int (i/j),H,I.tok _,⟨_,rfl⟩,q⟩
theorem zb(hs:X.base.NoSeer)(ht:X.prog.given.tree=none)(hd:X.A.depth+100<recursionLimit)(hst:X.stack=e::l)(h1:e.scope.isGenerator=false)(h2:e.scope.isCoroutine=false)(h3:e.builtins=builtinsNs)(h4:e.globals=mainGlobals):OpR X (binaryOp .FloorDiv) (rI (λ_ j=>j≠0) λi j=>.int (i.fdiv j)):=by intro pins s σ H x y v u Q I rx ry h;obtain⟨i,j,rfl,rfl,hj,q⟩:=h;obtain⟨t,rfl⟩:=rx;obtain⟨t',rfl⟩:=ry;refine floordiv_int hj ?_ (.inr (rh hs ht hd hst h1 h2 h3 h4 I));exact⟨.int (i.fdiv j),H,I.tok _,⟨_,rfl⟩,q⟩
end
def Top(val:Nat->Int)(n:Nat)(M:Int):Prop:=(∃i,i<n/\val i=M)/\∀i,i<n->val i<=M
theorem Top.more{val:Nat->Int}{n:Nat}{M:Int}(h:Top val n M)(hn:val n>M):Top val (n+1) (val n) :=
 ⟨⟨n,by omega,rfl⟩,λi hi=>by
   by_cases e:i=n
   ·subst e;exact I9 _
   ·have:=h.2 i (by omega);omega⟩
theorem Top.less{val:Nat->Int}{n:Nat}{M:Int}(h:Top val n M)(hn:¬val n>M):Top val (n+1) M :=
 ⟨let⟨i,hi,e⟩:=h.1;⟨i,by omega,e⟩,λi hi=>by
  by_cases e:i=n
  ·subst e;omega
  ·exact h.2 i (by omega)⟩
section
variable {prog:Program}{w:World}{A:Around}{R:Result->Shared->Prop}{I S:Addr}{fp wr:List Addr}{n:Nat}{P:Nat->Value->Prop}{St:Nat->Heap->Prop}{val:Nat->Int}{d:Value}
end
section
variable {prog:Program}{w:World}{A:Around}{E:Value->Shared->Prop}{s:Shared}{l:Addr}{xs:Array (Int×Tok)}{d:Value}
end
section
variable {X:Cx}{K:PySem.W.Frag}{e ed:Expr}{ta td:TE}{p pos kp:Pos}
end
theorem vo:∀{bs:List Bool} {us:List Value},Vals (bs.map V.bl) us->us=bs.map Value.bool
 | [],_,h=>by cases h;rfl
 |b::bs,_,h=>by
  cases h with
  |cons r rr =>cases r;rw[vo rr];rfl
section
variable {X:Cx}
end
def rA(K:PySem.W.Frag):R2:=λx y H Q=>∃(a p:Addr) (ps:List Addr) (xss:List (List Int)) (xs:List Int),x=.ref p/\y=.ref a/\H p=some (.lst (xs.map V.int))/\SqL K H a (ps.map V.ref)/\ps.length=xss.length/\(∀(i:Nat) (p:Addr) (xs:List Int),ps[i]?=some p->xss[i]?=some xs->H p=some (.lst (xs.map V.int)))/\Q (.bl (!decide (xs∈xss))) H
theorem ub{xs ys:List Int}(h:xs.map V.int=ys.map V.int):xs=ys:=by
 refine List.ext_getElem? λi=>?_
 have:=congrArg (λl:List V=>l[i]?) h;simp only[List.getElem?_map]at this;cases e1:xs[i]?<;>cases e2:ys[i]?<;>rw[e1,e2]at this<;>simp at this
 rw[this]
open Classical in
noncomputable def gb (H:Hp) (xs:List Int) (w:Value):Bool:=match w with
 |.ref q=>decide (H q=some (.lst (xs.map V.int)))
 |_=>false
theorem eRow_iff{H:Hp}{xs:List Int}{q:Addr}:gb H xs (.ref q)=true↔H q=some (.lst (xs.map V.int)):=by unfold gb;exact @decide_eq_true_iff _ (_)
section
variable {X:Cx}{K:PySem.W.Frag}
theorem yZ(hu:X.A.units+66<cLine):OpR X (compareOp .NotIn) (rA X.K):=by
 intro pins s σ H x y v u Q I rx ry h;obtain⟨a,p,ps,xss,xs,rfl,rfl,hp,ha,hl,hr,q⟩:=h;cases rx;cases ry;obtain⟨i0,r0,p0,_⟩:=I.list (SqL.of (K:=X.K) hp);obtain⟨i1,r1,p1,_⟩:=I.list ha;obtain rfl:=gB r1;refine SeqAt.notIn_listAt (gb H xs) p1.isList (λw hw=>?_) ⟨.bl _,H,I,rfl,?_⟩
 ·obtain⟨q,hq,rfl⟩:=Hz.mp (by simpa using hw);obtain⟨i,hi,rfl⟩:=IT hq;have hx:xss[i]?=some (xss[i]'(by omega)):=List.getElem?_eq_getElem (by omega);have h1:=hr i ps[i] _ (List.getElem?_eq_getElem hi) hx;obtain⟨i2,r2,p2,_⟩:=I.list (SqL.of (K:=X.K) h1);have e:=PySem.W.keq_ints (A:=X.A) p2.isList (fK r2) p0.isList (fK r0) (by show X.A.units+1+64<cLine;omega)
  have ee:gb H xs (.ref ps[i])=decide (xss[i]'(by omega)=xs):=by
   rw[II,eRow_iff,h1,decide_eq_true_eq];constructor
   ·intro z;injection z with z;injection z with z;exact ub z
   ·intro z;rw[z]
  rw[ee];exact e
 ·have e:(ps.map Value.ref).toArray.any (gb H xs)=decide (xs∈xss):=by
   rw[show(ps.map Value.ref).toArray.any (gb H xs)=(ps.map Value.ref).any (gb H xs) by simp,II,List.any_eq_true,decide_eq_true_eq];constructor
   ·rintro⟨w,hw,z⟩;obtain⟨q,hq,rfl⟩:=Hz.mp hw;obtain⟨i,hi,rfl⟩:=IT hq;have hx:xss[i]?=some (xss[i]'(by omega)):=List.getElem?_eq_getElem (by omega);have h1:=hr i ps[i] _ (List.getElem?_eq_getElem hi) hx;have z':H ps[i]=_:=eRow_iff.mp z;rw[h1]at z'
    injection z' with z';injection z' with z'
    rw[<- ub z'];exact Ia _
   ·intro hm;obtain⟨i,hi,rfl⟩:=IT hm;refine⟨.ref (ps[i]'(by omega)),Hz.mpr ⟨_,Ia _,rfl⟩,?_⟩;exact eRow_iff.mpr (hr i _ _ (List.getElem?_eq_getElem (by omega)) (List.getElem?_eq_getElem hi))
  rw[e];exact q
theorem yY(h:X.K=K)(hu:X.A.units+66<cLine):OpR X (compareOp .NotIn) (rA K):=by subst h;exact yZ hu
end
noncomputable def bg:Nat:=67000000
section
variable {X:Cx}{K:PySem.W.Frag}
end
section
variable {X:Cx}{tg:Expr}{K:PySem.W.Frag}
theorem Ez(bs:List Bool):(List.range bs.length).all (λi=>bs.getD i false)=bs.all id:=by
 rw[II,IS,IS];constructor
 ·intro h b hb;obtain⟨i,hi,rfl⟩:=IT hb;have:=h i (IX.mpr hi);simpa[List.getD,List.getElem?_eq_getElem hi]using this
 ·intro h i hi;have hi':=IX.mp hi;have:=h bs[i] (Ia hi');simpa[List.getD,List.getElem?_eq_getElem hi']using this
end
theorem vn{X:Cx}{K:PySem.W.Frag}(hK:X.K=K)(hc:X.calm=true):CallR X (.builtin "all") (λxs H Q=>∃(p:Addr) (bs:List Bool),xs=[.ref p]/\SqL K H p (bs.map V.bl)/\Q (.bl (bs.all id)) H):=by
 subst hK;intro pins s σ H xs us Q I r h;obtain⟨p,bs,rfl,hq,q⟩:=h;obtain⟨u,rfl,rx⟩:=gn r;cases rx;obtain⟨its,r',pl,hz⟩:=I.list hq;have e:=vo r';subst e;have hl:=pl.isList;have hlt:p<s.heap.objs.size:=by obtain⟨_,e,_⟩:=hl;exact Heap.lt_size e
 refine call_all_walk (wpAny_pyIter_list hl ?_);refine⟨_,_,_,_,_,_,λi=>bs.getD i false,rfl,Walks.list (A:=X.A.in1) (I.ok.hd hc) _ p (HR hlt) _,⟨⟨_,Heap.get?_push_size _ rfl,rfl,rfl⟩,hl.push _⟩,λi v s' Q' E' hP hQ=>?_,λh' tk hk=>?_⟩
 ·have e:v=.bool (bs.getD i false):=by have hP':((bs.map Value.bool).toArray)[i]?=some v:=hP;simp only[List.getElem?_toArray,List.getElem?_map,Option.map_eq_some_iff]at hP';obtain⟨b,hb,rfl⟩:=hP';simp[List.getD,hb]
  subst e;exact wpAny_truthy_bool hQ
 ·refine⟨.bl (bs.all id),H,I.kept (old_kept hk),?_,q⟩;show Value.bool _=Value.bool _;rw[<- Ez bs];simp
section
variable {X:Cx}
end
end L2
namespace RM
open PySem
end RM
namespace L2
open PySem PySem.Spec PyProof.Rows
section
variable {X:Cx}{K:PySem.W.Frag}
end
section
variable {X:Cx}{pins:List (Addr×Obj)}{σ:St}{H:Hp}{s:Shared}{h':Heap}
end
section
variable {X:Cx}
end
section
variable {X:Cx}{K:PySem.W.Frag}
end
section
variable {X:Cx}{K:PySem.W.Frag}
end
section
variable {X:Cx}{K:PySem.W.Frag}
def rG(K:PySem.W.Frag):R2:=λx y H Q=>∃(a b:Addr) (ps:List Addr),x=.ref a/\y=.ref b/\SqL K H a (ps.map V.ref)/\SqL K H b (ps.map V.ref)/\Q (.bl true) H
theorem Di(p:Addr):MeetsSeq.EqGives (.ref p) (.ref p) true:=λprog w A E s Q h=>by unfold eqBool;refine wpAny_holding ?_;rw[if_pos (beq_self_eq_true _)];exact wpAny_bind (wpAny_rule (wpAny_pure h))
theorem zg(hu:X.A.units+66<cLine):OpR X (compareOp .Eq) (rG X.K):=by
 intro pins s σ H x y v u Q I rx ry h;obtain⟨a,b,ps,rfl,rfl,ha,hb,q⟩:=h;cases rx;cases ry;obtain⟨i1,r1,p1,_⟩:=I.list ha;obtain⟨i2,r2,p2,_⟩:=I.list hb;obtain rfl:=gB r1;obtain rfl:=gB r2;refine SeqAt.eq_listAt (e:=λ_=>true) p1.isList p2.isList rfl (by omega) (λj h1 h2=>?_) ⟨.bl _,H,I,?_,q⟩
 ·have e:(ps.map Value.ref).toArray[j]=Value.ref (ps[j]'(by simpa using h1)):=by simp
  rw[e];exact(Di _).at X.A.in1 s
 ·show Value.bool _=Value.bool _
  congr 1
  rw[IS]
  exactλ_ _=>rfl
theorem zf(h:X.K=K)(hu:X.A.units+66<cLine):OpR X (compareOp .Eq) (rG K):=by subst h;exact zg hu
end
theorem Bi{prog:Program}{w:World}{A:Around}{s:Shared}{elt target iter cond:Expr}{scope:Scope}{pos:Pos}{it acc:Value}{env:Env}{R:Result->Shared->Prop}(J:Nat->Shared->Prop)
 (turn:∀n s,J n s->wpAny (model prog w) A (pyNext it) (λr a=>match r with
   |none=>R (.ok .next) a
   |some v=>wpAny (model prog w) A (letOwnedTupleGo target it v) (λ_ b=>wpAny (model prog w) A (assign target env v) (λ_ c =>
    wpAny (model prog w) A (isTrue cond env (eval cond env)) (λok d =>
     if ok=true then wpAny (model prog w) A (eval elt env) (λx f =>wpAny (model prog w) A (call (.builtin "list.append") [acc,x]) (λ_ g=>∃m,m<n/\J m g) (notedBy (model prog w) A env λe z=>R (.error e) z) f) (notedBy (model prog w) A env λe z=>R (.error e) z) d
     else ∃m,m<n/\J m d) (notedBy (model prog w) A env λe z=>R (.error e) z) c)
    (notedBy (model prog w) A env λe z=>R (.error e) z) b) (notedBy (model prog w) A env λe z=>R (.error e) z) a) (notedBy (model prog w) A env λe z=>R (.error e) z) s)
 (n:Nat) (h:J n s):codeAny (model prog w) A (.compLoop (.ListComp elt [⟨target,iter,[cond],0⟩] scope pos) 0 it acc env) R s:=by
 refine codeAny_loop rfl J (λn s hJ=>?_) n h;change wpAny _ A ((compTurn (.ListComp elt [⟨target,iter,[cond],0⟩] scope pos) 0 it acc env).onRaise (λx=>do noteFrame x env;theTreesLotGoes x)) _ _ s;refine wpAny_noted ?_;rw[compTurn_list];refine wpAny_bind (wpAny_standAt (wpAny_bind (wpAny_mono (turn n s hJ) (λr a h1=>?_) λ_ _ z=>z)));cases r with
 |none=>exact wpAny_pure h1
 |some v =>
  refine wpAny_bind (wpAny_mono h1 (λ_ b h2=>?_) λ_ _ z=>z);refine wpAny_bind (wpAny_mono h2 (λ_ c h3=>?_) λ_ _ z=>z);refine wpAny_bind (wpAny_tests_one (wpAny_mono h3 (λok d h4=>?_) λ_ _ z=>z));cases ok with
  |false=>exact wpAny_pure ⟨rfl,h4⟩
  |true=>exact wpAny_bind (wpAny_bind (wpAny_mono h4 (λx f h5=>wpAny_bind (wpAny_mono h5 (λ_ g h6=>wpAny_pure (wpAny_pure ⟨rfl,h6⟩)) λ_ _ z=>z)) λ_ _ z=>z))
def wa(n:Nat)(js:List Nat)(g:TG)(tt:TT)(te:TE)(σ:St)(Q:VK)(J:It)(H1:Hp):Prop:=∃W:Nat->Nat->List V->St->Hp->Prop,(∃m,W 0 m [] (dP n js σ) H1) /\
 ∀i m ys σ' H',W i m ys σ' H' ->
  (J.stop i H'/\∀p,H' p=none->Q (.ref p) (upd H' p (.lst ys))) \/
  (J.go i H'/\ys.length<sizeLine/\∃N:Option V->St->Hp->Prop,(∀y σ'' H'',N y σ'' H''->∃m',m'<m/\W (i+1) m' (ys++y.toList) σ'' H'')/\∀x H2,J.yld i H' x H2->g x σ' H2 λσ3 H3=>tt σ3 H3 λkk H4=>if kk=true then te σ3 H4 λy H5=>N (some y) σ3 H5 else N none σ3 H4)
def wM(n:Nat)(js:List Nat)(wi:TI)(g:TG)(tt:TT)(te:TE):TE:=λσ H Q=>wi σ H λJ H1=>wa n js g tt te σ Q J H1
section
variable {X:Cx}{own fr:List Str}{js:List Nat}{scope:Scope}{cl:List (Str×Addr)}{elt target iter:Expr}{pos:Pos}{wi:TI}{g:TG}{te:TE}{cond:Expr}{tt:TT}
theorem DK{pins:List (Addr×Obj)}{σ:St}{H:Hp}{s:Shared}{fp:List Addr}{it:Addr}{tn:Nat->Heap->Prop}{J:It}{E:Value->Shared->Prop}{Q:VK}{RR:Value->Addr->Result->Shared->Prop}(O:CompOk X fr js scope cl)(hl:fr.length=js.length)(hcm:X.calm=true)
 (I:Inv X pins σ H s) (T:Turn X.prog X.w X.K target J fp it tn) (st:tn 0 s.heap) (hf:∀b∈fp,dI X pins H b)
 (hg:∀C s₀ H₀ ex,PG (cC X (own++fr) scope cl C s₀ H₀ ex) target g) (he:∀C s₀ H₀ ex,PE (cC X (own++fr) scope cl C s₀ H₀ ex) elt te) (hc:∀C s₀ H₀ ex,PT (cC X (own++fr) scope cl C s₀ H₀ ex) cond tt)
 (W:Nat->Nat->List V->St->Hp->Prop) {m0:Nat} (w0:W 0 m0 [] (dP own.length js σ) H)
 (turn:∀i m ys σ' H',W i m ys σ' H' ->
   (J.stop i H'/\∀p,H' p=none->Q (.ref p) (upd H' p (.lst ys))) \/
   (J.go i H'/\ys.length<sizeLine/\∃N:Option V->St->Hp->Prop,(∀y σ'' H'',N y σ'' H''->∃m',m'<m/\W (i+1) m' (ys++y.toList) σ'' H'')/\∀x H2,J.yld i H' x H2->g x σ' H2 λσ3 H3=>tt σ3 H3 λkk H4=>if kk=true then te σ3 H4 λy H5=>N (some y) σ3 H5 else N none σ3 H4))
 (hRR:∀D C s',wb X pins σ Q D C s'->RR (.ref D) C (.ok .next) s') :
 wpAny (model X.prog X.w) X.A (newList []) (λacc s₃=>wpAny (model X.prog X.w) X.A (newFunctionEnv scope X.env.globals cl [] X.env.qual none .none (some X.env)) (λcenv s₄ =>
  codeAny (model X.prog X.w) X.A (.compStart (.ListComp elt [⟨target,iter,[cond],0⟩] scope pos) 0 (.ref it) acc { cenv with scope:=relabel scope X.env }) (RR acc cenv.locals) s₄) E s₃) E s:=by
 refine wpAny_newObj_type (wpAny_newFunctionEnv O.cell (by intro y hy;simp at hy) (λh₁ hns₁ hsb₁=>?_) O.kind);dsimp only at hns₁ hsb₁ ⊢
 generalize hH2:s.heap.push { cls:=.type "list",dict:=none,data:=.seq ([]:List Value).toArray }=H2 at hns₁ hsb₁ ⊢
 have hCs:H2.objs.size=s.heap.objs.size+1:=by rw[<- hH2,Heap.size_push]
 have hDC:s.heap.objs.size≠H2.objs.size:=by rw[hCs];exact HR (IJ _)
 have hCge:s.heap.objs.size<=H2.objs.size:=by rw[hCs];exact Nat.le_succ _
 have below:∀b,b<s.heap.objs.size->b≠H2.objs.size/\b≠s.heap.objs.size:=λb hb=>⟨by rw[hCs];exact HR (Nat.lt_succ_of_lt hb),HR hb⟩
 have old:∀b o,s.heap.get? b=some o->h₁.get? b=some o:=λb o e=>hsb₁.extBut b o (below b (Heap.lt_size e)).1 (Heap.get?_push_of_some _ (hH2 ▸ Heap.get?_push_of_some _ e))
 have hacc:h₁.get? s.heap.objs.size=some { cls:=.type "list",data:=.seq ([]:List Value).toArray 0 }:=hsb₁.extBut _ _ hDC (Heap.get?_push_of_some _ (hH2 ▸ Heap.get?_push_size _ rfl));have ho:∀b∈fp,b<s.heap.objs.size:=λb hb=>by obtain⟨o,e,_⟩:=T.obj 0 _ st b hb;exact Heap.lt_size e
 generalize hDe:s.heap.objs.size=D at *
 generalize hCe:H2.objs.size=C at *
 let X':Cx:=cC X (own++fr) scope cl C s H fp
 have ok':X'.Ok:=nN O I (by rw[hDe];exact hCge) hf (by rw[hDe];exact ho)
 have hDfs:D∉X'.fs:=by
  intro z;rcases HI.mp (I.stkSub D z)with q |q
  ·exact absurd I.lt (by rw[<- q,hDe];exact Ik _)
  ·exact I.nofs (IC hDe) q
 have hDfp:∀b∈fp,D≠b:=λb hb z=>absurd (ho b hb) (by rw[z];exact Ik _)
 have hDcell:∀x c,cl.lookup x=some c->c≠D:=λx c e z=>by obtain⟨v,q⟩:=I.cell x c (eQ O e);exact absurd q.lt (by rw[z,hDe];exact Ik _)
 have fpok:∀{H':Hp} {pins':List (Addr×Obj)},(∀p∈pins',p.1=D)->(∀b∈fp,H' b=none)->∀b∈fp,dI X' pins' H' b:=λ{H' pins'} hp hn b hb=>by
  obtain⟨f0,f1,f2,f3,f4,f5⟩:=hf b hb;refine⟨hn b hb,(below b (ho b hb)).1,λz=>?_,.inl hb,λx c e=>f4 x c (eQ O e),λp hp'=>?_⟩
  ·rcases HI.mp (I.stkSub b z)with q |q
   ·exact f1 q
   ·exact f2 q
  ·have hp'':p∈pins':=by simpa[X',cC]using hp'
   rw[hp p hp''];exact hDfp b hb
 have loop:∀s₃:Shared,s₃={ s with heap:=h₁,toks:=s.toks+([]:List (Str×Value)).length } ->
  codeAny (model X.prog X.w) X.A (.compLoop (.ListComp elt [⟨target,iter,[cond],0⟩] scope pos) 0 (.ref it) (.ref D) (compEnvC scope cl C X.env)) (RR (.ref D) C) s₃:=by
  rintro s₃ rfl
  refine Bi (λk s'=>∃i σ' H' ys its nn,Inv X' [] σ' H' s'/\tn i s'.heap/\(∀b∈fp,H' b=none)/\H' D=none/\s'.heap.get? D=some { cls:=.type "list",data:=.seq (its:List Value).toArray nn }/\Vals ys its/\ys.length<=sizeLine/\W i k ys σ' H') ?_ m0
   ⟨0,_,H,[],[],0,uT O hl I (by rw[hDe];exact hCge) hf (by rw[hDe];exact ho) rfl rfl (by intro b o e;exact old b o e) hns₁,T.keep _ _ _ st λb _ o e=>old b o e,λb hb=>(hf b hb).1,I.hok.fresh (IC hDe),hacc,.nil,Hy _,w0⟩
  rintro k s' ⟨i,σ',H',ys,its,nn,I',st',hfn,hDn,hDo,rv,hz,w⟩;have hlen:=rv.length;have hpD:∀p∈[(D,({ cls:=.type "list",data:=.seq its.toArray nn }:Obj))],p.1=D:=λp hp=>by rw[Hx.mp hp]
  have Ip:Inv X' [(D,({ cls:=.type "list",data:=.seq its.toArray nn }:Obj))] σ' H' s':=I'.pins_of λp hp=>by rw[Hx.mp hp];exact⟨hDo,hDn,hDC,hDfs,λv z=>by cases z⟩
  rcases turn i k ys σ' H' w with⟨stop,fin⟩ |⟨go,hlt,N,hN,step⟩
  ·refine wpAny_mono (T.done X' rfl rfl rfl hcm i _ s' σ' H' (λ_ _=>False) Ip (fpok hpD hfn) st' stop) (λr s4 ⟨hr,I4⟩=>?_) λ_ _ z=>False.elim z
   subst hr;refine hRR D C s4 ?_;have hD4:s4.heap.get? D=some { cls:=.type "list",data:=.seq its.toArray nn }:=(I4.pin _ (HJ _ (Hx.mpr rfl))).1;have un:Un (frs X.stack) fp H (upd H' D (.lst ys)) s.heap s4.heap:=Un.adopt I4.base (IC hDe) (I.hok.fresh (IC hDe));have hok:HOk X.prog X.w (upd H' D (.lst ys)) s4.heap:=HOk.adopt I4.hok hDn ⟨hz,its,nn,rv,hD4⟩;refine⟨upd H' D (.lst ys),I.call' I4.os un hok I4.bare λb hb=>?_,fin D hDn,?_,?_,?_,λx c e z=>?_,λp hp z=>?_,?_⟩
   ·obtain⟨f0,f1,f2,f3,f4,f5⟩:=hf b hb;exact⟨f3,f1,f4,f5⟩
   ·rw[upd_ne (Ne.symm hDC)];exact I4.free
   ·exact Nat.ne_of_gt (HQ I.lt (by rw[hDe];exact hCge))
   ·exact HH I.sz (by rw[hDe];exact hCge)
   ·obtain⟨v,q⟩:=I.cell x c e;exact absurd (HQ q.lt (by rw[hDe,z];exact hCge)) (Ik _)
   ·exact absurd (HQ (Heap.lt_size (I.pin p hp).1) (by rw[hDe,z];exact hCge)) (Ik _)
   ·obtain⟨m',hn',_⟩:=I4.loc;exact⟨m',hn'⟩
  ·refine wpAny_mono (T.item X' rfl rfl rfl hcm i _ s' σ' H' (λ_ _=>False) Ip (fpok hpD hfn) st' go) (λr s4 ⟨u,hr,h4⟩=>?_) λ_ _ z=>False.elim z
   subst hr;refine wpAny_mono h4 (λ_ s5 ⟨x,H5,I5,r5,y5,st5,fr5⟩=>?_) λ_ _ z=>False.elim z
   have I5':=I5.pinned (fpok hpD fr5) (T.obj _ _ st5);refine wpAny_mono (hg C s H fp _ s5 σ' H5 x u _ I5' r5 (step x H5 y5)) (λ_ s6 ⟨σ6,H6,I6,q6⟩=>?_) λ_ _ z=>False.elim z
   refine wpAny_mono (hc C s H fp _ s6 σ6 H6 _ I6 q6) (λok s6' hok=>?_) λ_ _ z=>False.elim z
   obtain⟨H6',I6',q6'⟩:=hok;cases ok with
   |false =>
    obtain⟨m',hm',w7⟩:=hN none σ6 H6' q6';have hD7:=I6'.pin (D,{ cls:=.type "list",data:=.seq its.toArray nn }) (HJ _ (IF _ (Hx.mpr rfl)));have I7':Inv X' [] σ6 H6' s6':=I6'.pins_of λp hp=>absurd hp (by simp)
    refine⟨m',hm',i+1,σ6,H6',ys,its,nn,I7',T.keep _ _ _ st5 λb hb o e=>?_,λb hb=>?_,hD7.2.1,hD7.1,rv,hz,by simpa using w7⟩
    ·exact(I6'.pin (b,o) (HJ _ (HJ _ (fI hb e)))).1
    ·obtain⟨o,e,d⟩:=T.obj _ _ st5 b hb;exact(I6'.pin (b,o) (HJ _ (HJ _ (fI hb e)))).2.1
   |true =>
    refine wpAny_mono (he C s H fp _ s6' σ6 H6' _ I6' q6') (λv s7 ⟨y,H7,I7,r7,n7⟩=>?_) λ_ _ z=>False.elim z
    obtain⟨m',hm',w7⟩:=hN (some y) σ6 H7 n7;have hD7:=I7.pin (D,{ cls:=.type "list",data:=.seq its.toArray nn }) (HJ _ (IF _ (Hx.mpr rfl)));refine append_at hD7.1 (λh8 sb hD8=>?_) (by rw[HK,<- hlen];exact hz);have I7':Inv X' [] σ6 H7 s7:=I7.pins_of λp hp=>absurd hp (by simp)
    have I8:Inv X' [] σ6 H7 { s7 with heap:=h8 }:=I7'.turned (t':=s7.toks) (it:=D) (λb o hb e=>(sb.2 b hb).trans e) hD7.2.1 hDC (.inr (IC hDe)) hDcell (λp hp=>absurd (show p∈([]:List (Addr×Obj))from hp) (by simp));refine⟨m',hm',i+1,σ6,H7,ys++[y],its++[v],nn+1,I8,T.keep _ _ _ st5 λb hb o e=>?_,λb hb=>?_,hD7.2.1,?_,rv.append (.cons r7 .nil),?_,w7⟩
    ·exact(sb.2 b (λz=>hDfp b hb z.symm)).trans (I7.pin (b,o) (HJ _ (HJ _ (fI hb e)))).1
    ·obtain⟨o,e,d⟩:=T.obj _ _ st5 b hb;exact(I7.pin (b,o) (HJ _ (HJ _ (fI hb e)))).2.1
    ·rw[hD8,List.push_toArray]
    ·rw[Hv,List.length_singleton];exact hlt
 exact codeAny_compStart_list (loop _ rfl) (T.self _ 0 _ _ _ (T.keep _ _ _ st λb _ o e=>old b o e) (loop _ rfl))
theorem yz{i:Nat}{y:Str}{py spos:Pos}(hN:X.N.Nodup)(hy:X.N[i]?=some y)(hly:Loc X.env.scope y)(O:CompOk X fr js scope cl)(hcm:X.calm=true)(hi:PI X target iter wi)(hg:∀C s₀ H₀ ex,PG (cC X (own++fr) scope cl C s₀ H₀ ex) target g)
 (he:∀C s₀ H₀ ex,PE (cC X (own++fr) scope cl C s₀ H₀ ex) elt te) (hc:∀C s₀ H₀ ex,PT (cC X (own++fr) scope cl C s₀ H₀ ex) cond tt) (hsw:swapsWith (.ListComp elt [⟨target,iter,[cond],0⟩] scope pos) (some (.Name y py)) spos.line X.env=pure true)
 (hf:X.fn y=true\/X.env.scope.names.lookup y=some .local:=by first |exact .inl rfl |exact .inr rfl |assumption) (hs:∀x,foldedSetIterable iter X.env x=pure x:=by intro _;rfl) :
 PS X (.Assign [.Name y py] (.ListComp elt [⟨target,iter,[cond],0⟩] scope pos) spos) (eV (wM own.length js wi g tt te) (dS i)):=by
 intro pins s σ H D I h;rw[exec_Assign_Name_used _ _ _ _ hsw];refine wpAny_bind (wpAny_standAt (wpAny_bind ?_));show wpAny _ X.A (do let _ <- comprehension (.ListComp elt [⟨target,iter,[cond],0⟩] scope pos) scope X.env _ (newList []) false (eval iter X.env) (some (assign (.Name y py) X.env))) _ _ s
 refine wpAny_bind (wpAny_mono (wpAny_comprehension_free (use:=some (assign (.Name y py) X.env)) (Q:=λ_ s'=>SP X pins D .next s') rfl hs O.clos O.kind O.names
  (thn (hi pins s σ H _ I h) λx s1 h1=>thn h1 λitv s2 h2=>?_)) (λ_ s' hq=>wpAny_pure (wpAny_pure hq)) λ_ _ e=>e)
 obtain⟨it,fp,tn,J,H2,rfl,I2,T,st,hfp,W,⟨m0,w0⟩,turn⟩:=h2;refine DK (Q:=λx H1=>dS i x σ H1 D.nx) (RR:=λacc C=>compPost (model X.prog X.w) X.A X.xe (some (assign (.Name y py) X.env)) (λ_ s'=>SP X pins D .next s') acc C) O (Paired.length O.fre) hcm I2 T st hfp hg he hc W w0 turn ?_;rintro DD C s' ⟨H3,I3,q,c1,c2,c3,c4,c5,m,hn⟩;show wpAny _ _ (assign (.Name y py) X.env (.ref DD)) _ _ s';refine wpAny_assign_Name (km I3 hN hy hly (v:=.ref DD) rfl (λs4 I4 ⟨a,sb,ha⟩=>?_) hf)
 have hCa:C≠a:=by
  rcases ha with rfl |ha
  ·exact c2
  ·exactλz=>c4 y a ha z.symm
 refine⟨m,hn.sameBut sb hCa,λh' sb'=>⟨_,H3,I4.turned (t':=s4.toks) (it:=C) (λb o hb e=>(sb'.2 b hb).trans e) c1 c2 (.inr c3) c4 c5,q⟩⟩
end
theorem DJ{n:Nat}{js:List Nat}{K:PySem.W.Frag}{a:Addr}{xs:List V}{g:TG}{tt:TT}{te:TE}{σ0:St}{H:Hp}{Q:VK}(Pv:Nat->List V->St->Hp->Prop)(hz:xs.length<=sizeLine)(h0:Pv 0 [] (dP n js σ0) H)(hl:∀i ys σ H,i<=xs.length->Pv i ys σ H->SqL K H a xs/\ys.length<=i)
 (hs:∀i x ys σ H,xs[i]?=some x->Pv i ys σ H->g x σ H λσ2 H2=>tt σ2 H2 λkk H3=>if kk=true then te σ2 H3 λy H4=>Pv (i+1) (ys++[y]) σ2 H4 else Pv (i+1) ys σ2 H3) (hd:∀ys σ H p,Pv xs.length ys σ H->H p=none->Q (.ref p) (upd H p (.lst ys))) :
 wa n js g tt te σ0 Q (Itl K a) H:=by
 refine⟨λi m ys σ H=>m=xs.length-i/\i<=xs.length/\Pv i ys σ H,⟨xs.length,by simp,Hy _,h0⟩,?_⟩;rintro i m ys σ H ⟨rfl,hi,p⟩;obtain⟨q,hy⟩:=hl i ys σ H hi p;by_cases hlt:i<xs.length
 ·refine .inr ⟨⟨xs,xs[i],q,by simp[hlt]⟩,by omega,λy σ'' H''=>Pv (i+1) (ys++y.toList) σ'' H'',λy σ' H' p'=>⟨xs.length-(i+1),by omega,rfl,hlt,p'⟩,λx H' y=>?_⟩;obtain⟨e,y⟩:=y;subst e;have:=hs i x ys σ _ (y xs q) p;simpa using this
 ·have e:i=xs.length:=by omega
  subst e;exact .inl ⟨⟨xs,q,Ht _⟩,λr hr=>hd ys σ H r p hr⟩
theorem xZ(r:Addr)(a b c:Int)(t u v:Tok)(hs:¬(!(Builtin.Range.rangeFitsLong a&&Builtin.Range.rangeFitsLong b&&Builtin.Range.rangeFitsLong c&&Builtin.Range.rangeFitsLong (-c)&&Builtin.Range.rangeFitsLong (a-c)&&Builtin.Range.rangeFitsLong (Builtin.Range.rangeSize a b c)))=true) :
 Meets (Builtin.«range.__reversed__» ⟨[.ref r],[]⟩) (λ_ R s=>s.heap.get? r=some { cls:=.type "range",dict:=none,data:=.fields #[.int a t,.int b u,.int c v],slots:=#[] } /\
  R (.ok (.ret (Value.ref s.heap.objs.size))) { s with heap:=s.heap.push { cls:=Value.type (if(Builtin.Range.rangeFitsLong a&&Builtin.Range.rangeFitsLong b&&Builtin.Range.rangeFitsLong c&&Builtin.Range.rangeFitsLong (-c)&&Builtin.Range.rangeFitsLong (a-c)&&Builtin.Range.rangeFitsLong (Builtin.Range.rangeSize a b c))=true then "range_iterator" else "longrange_iterator"),data:=Data.fields #[rawInt (a+(Builtin.Range.rangeSize a b c-1)*c),rawInt (Builtin.Range.rangeSize a b c),rawInt (-c)] },toks:=s.toks }) :=
 .of_wp λprog w A R s h=>by obtain⟨hp,g,d,tk,os⟩:=s;obtain⟨hl,h⟩:=h;wp_walk;exact⟨_,rfl,h⟩
section
variable {prog:Program}{w:World}{A:Around}{E:Value->Shared->Prop}{s:Shared}
noncomputable def rIt(x n:Int):Obj:={ cls:=.type "range_iterator",data:=.fields #[rawInt x,rawInt n,rawInt (-1)] }
theorem x9{l:Addr}{n:Int}{t u v:Tok}{Q:Value->Shared->Prop}(hl:IsRange s.heap l 0 n 1 t u v)(h0:0<=n)(hn:n<2^61)(h:Q (.ref s.heap.objs.size) { s with heap:=s.heap.push (rIt (n-1) n) }):wpAny (model prog w) A (call (.builtin "range.__reversed__") [.ref l]) Q E s:=by
 have hT:s.TypeIs (.ref l) "range":=⟨_,hl,rfl⟩;have hz:Builtin.Range.rangeSize 0 n 1=n:=by rw[rangeSize_one];split<;>omega
 have hsm:(Builtin.Range.rangeFitsLong 0&&Builtin.Range.rangeFitsLong n&&Builtin.Range.rangeFitsLong 1&&Builtin.Range.rangeFitsLong (-1)&&Builtin.Range.rangeFitsLong (0-1)&&Builtin.Range.rangeFitsLong (Builtin.Range.rangeSize 0 n 1))=true:=by rw[hz];simp only[Builtin.Range.rangeFitsLong,Bool.and_eq_true,decide_eq_true_eq];omega
 refine call_meets PySem.F.slot_range_reversed hT PySem.F.entry_range_reversed (PySem.F.args_range_reversed_1 _) (xZ l 0 n 1 t u v (by rw[hsm];decide)) ⟨hl,?_⟩;rw[if_pos hsm,hz];have e:(0:Int)+(n-1)*1=n-1:=by omega
 rw[e];exact h
theorem x8{l:Addr}{n:Int}{t u v:Tok}{Q₁:Value->Shared->Prop}(hl:IsRange s.heap l 0 n 1 t u v)(h0:0<=n)(hn:n<2^61)(h:Q₁ (.ref s.heap.objs.size) { s with heap:=s.heap.push (rIt (n-1) n) }) :
 codeAny (model prog w) A (.call (.builtin "reversed.__new__") ⟨[.type "reversed",.ref l],[]⟩) (wants Q₁ E) s:=by
 have hT:s.TypeIs (.ref l) "range":=⟨_,hl,rfl⟩;refine codeAny_of_tree ?_;change wpAny _ A.in1 (do checkBuiltinCall "reversed.__new__" ⟨[.type "reversed",.ref l],[]⟩;again (.builtin "reversed.__new__" ⟨[.type "reversed",.ref l],[]⟩)) _ _ s;refine wpAny_bind (wpAny_of_eq (PySem.F.newCall_reversed_1 _) (wpAny_pure ⟨plainId_quiet PySem.F.plain_reversed_new _,codeAny_builtin PySem.F.entry_reversed_new ?_⟩));rw[Around.under_plainId PySem.F.plain_reversed_new _];unfold Builtin.«reversed.__new__»;refine wpAny_bind (wpAny_of_eq (newClass_reversed _) ?_)
 try dsimp only
 refine wpAny_bind (wpAny_of_eq (a:=()) (by first |rfl |kernel_rfl) ?_);refine wpAny_bind (wpAny_of_eq (a:=()) (by first |rfl |kernel_rfl) ?_)
 try dsimp only
 refine wpAny_bind (wpAny_specialOf hT PySem.F.slot_range_reversed.lookup ?_)
 try dsimp only
 refine wpAny_bind (wpAny_of_eq (PySem.F.slot_range_reversed.bind _) ?_)
 try dsimp only
 have hno:¬((Value.builtin "range.__reversed__" == Value.none)=true):=Ir
 first
 |rw[if_neg hno]
 | (show wpAny _ _ (if(Value.builtin "range.__reversed__" == Value.none)=true then _ else _) _ _ _;rw[if_neg hno])
 refine wpAny_bind (wpAny_rule ?_);refine wpAny_bind (m:=runValue (.call (.builtin "range.__reversed__") ⟨[.ref l],[]⟩)) (show wpAny _ _ (call (.builtin "range.__reversed__") [.ref l]) _ _ _ from x9 hl h0 hn ?_)
 first
 |exact wpAny_pure h
 |exact wpAny_bind (wpAny_pure (wpAny_pure h))
theorem wQ:isSubtype (.type "range_iterator") (.type "reversed")=pure false:=by rw[isSubtype_type];kernel_rfl
theorem yd{l:Addr}{n:Int}{t u v:Tok}{Q:Value->Shared->Prop}(hl:IsRange s.heap l 0 n 1 t u v)(h0:0<=n)(hn:n<2^61)(h:Q (.ref s.heap.objs.size) { s with heap:=s.heap.push (rIt (n-1) n) }):wpAny (model prog w) A (call (.type "reversed") [.ref l]) Q E s:=by refine callType_other (U:="range_iterator") (Q₁:=λobj z=>obj=.ref s.heap.objs.size/\z={ s with heap:=s.heap.push (rIt (n-1) n) }) (by decide +kernel) PySem.F.create_reversed ⟨_,_,PySem.F.mro_reversed⟩ PySem.F.made_reversed wQ (PySem.F.typeCall_reversed_1 _) (x8 hl h0 hn ⟨rfl,rfl⟩) ?_;rintro obj z ⟨rfl,rfl⟩;exact⟨⟨_,Heap.get?_push_size _ rfl,rfl⟩,h⟩
end
section
variable {X:Cx}{tg:Expr}
def Ck(ta:TA):TI:=λσ H R=>ta σ H λvs H1=>∃n:Int,vs=[.int n]/\0<=n/\n<2^61/\R (iU (n-1) n.toNat) H1
theorem yO{a:Expr}{ta:TA}{p p' pos pos':Pos}(hg:Gl X "reversed")(hm:X.mg "reversed"=none)(hg':Gl X "range")(hm':X.mg "range"=none)(ha:PA X [a] ta)(hs:starEach [a] X.env=[(false,eval a X.env)]:=by rfl)
 (hs':starEach [Expr.Call (.Name "range" p') [a] [] pos'] X.env=[(false,eval (.Call (.Name "range" p') [a] [] pos') X.env)]:=by rfl):PI X tg (.Call (.Name "reversed" p) [.Call (.Name "range" p') [a] [] pos'] [] pos) (Ck ta):=by
 intro pins s σ H R I h;refine Call_ (fi I hg hm boot_reversed (PyProof.Rows.callWith_type1 ?_ hs' rfl));rw[hs'];refine Calls.spliced_cons ?_;refine Call_ (fi I hg' hm' boot_range (PyProof.Rows.callWith_type1 (thn (ha pos' pins s σ H _ I h) λus s1 ⟨vs,H1,I1,r1,q1⟩=>?_) hs rfl));obtain⟨n,e,q1,q2,q⟩:=q1;subst e;obtain⟨x,rfl,rx⟩:=r1.one;obtain⟨t,rfl⟩:=rx;refine call_range_1 ?_;refine Calls.spliced_nil ?_;have I2:Inv X pins σ H1 { s1 with heap:=s1.heap.push { cls:=.type "range",data:=.fields #[.int 0 s1.toks,.int n t,.int 1 (s1.toks+1)] },toks:=s1.toks+1+1 }:=I1.kept λb o e=>Heap.get?_push_of_some _ e
 refine yd (IsRange.new ..) q1 q2 ?_;generalize hS:({ s1 with heap:=s1.heap.push { cls:=.type "range",data:=.fields #[.int 0 s1.toks,.int n t,.int 1 (s1.toks+1)] },toks:=s1.toks+1+1 }:Shared)=s2 at I2 ⊢
 have I3:Inv X pins σ H1 { s2 with heap:=s2.heap.push (rIt (n-1) n) }:=I2.kept (t':=s2.toks) λb o e=>Heap.get?_push_of_some _ e
 have hit:IsRangeIter (s2.heap.push (rIt (n-1) n)) s2.heap.objs.size (n-1+((0:Nat):Int) * -1) ((n.toNat:Int)-((0:Nat):Int)) (-1):=by
  have e1:n-1+((0:Nat):Int) * -1=n-1:=by simp
  have e2:(n.toNat:Int)-((0:Nat):Int)=n:=by omega
  rw[e1,e2];exact Heap.get?_push_size _ rfl
 refine wpAny_pyIter_rangeiter (s:={ s2 with heap:=s2.heap.push (rIt (n-1) n) }) hit ?_;refine⟨s2.heap.objs.size,[s2.heap.objs.size],_,_,H1,rfl,I3,wn _ (n-1) n.toNat,hit,λb hb=>?_,q⟩;have e:b=s2.heap.objs.size:=by simpa using hb
 subst e;exact I2.fpOk (Ht _) (I2.hok.fresh (Ht _))
end
end L2
namespace RM
noncomputable def cf(l:List Int)(k:Nat):Int:=l.getD k 0
theorem ca(k:Nat):cf [] k=0:=by simp[cf]
theorem oa(x:Int)(l:List Int):cf (x::l) 0=x:=rfl
theorem og(x:Int)(l:List Int)(k:Nat):cf (x::l) (k+1)=cf l k:=rfl
theorem aR{l:List Int}{k:Nat}(h:l.length<=k):cf l k=0:=by unfold cf;rw[List.getD,List.getElem?_eq_none_iff.mpr h];rfl
theorem ce{l:List Int}{k:Nat}(h:k<l.length):cf l k=l[k]:=by unfold cf;rw[List.getD,List.getElem?_eq_getElem h];rfl
theorem vj{l:List Int}{k:Nat}{x:Int}(h:l[k]?=some x):cf l k=x:=by unfold cf;rw[List.getD,h];rfl
theorem eJ{l:List Int}{k:Nat}(h:k<l.length):l[k]?=some (cf l k):=by rw[ce h,List.getElem?_eq_getElem h]
theorem vk{l r:List Int}{k:Nat}(h:k<l.length):cf (l++r) k=cf l k:=by unfold cf;rw[List.getD,List.getD,List.getElem?_append_left h]
theorem ol{l r:List Int}{k:Nat}(h:l.length<=k):cf (l++r) k=cf r (k-l.length):=by unfold cf;rw[List.getD,List.getD,List.getElem?_append_right h]
theorem ge{l:List Int}{j k:Nat}{x:Int}(h:j<l.length):cf (l.set j x) k=if k=j then x else cf l k:=by
 unfold cf;rw[List.getD,List.getD,List.getElem?_set];by_cases e:j=k
 ·subst e;simp[h]
 ·rw[if_neg e,if_neg (λz=>e z.symm)]
theorem iR(n k:Nat):cf (List.replicate n 0) k=0:=by unfold cf;rw[List.getD,List.getElem?_replicate];split<;>rfl
theorem fO(f:Nat->Int)(n k:Nat):cf ((List.range n).map f) k=if k<n then f k else 0:=by
 unfold cf;rw[List.getD,List.getElem?_map];by_cases h:k<n
 ·rw[if_pos h,List.getElem?_range h];rfl
 ·rw[if_neg h,List.getElem?_eq_none_iff.mpr (by simpa using h)];rfl
theorem dU{a b:List Int}(hl:a.length=b.length)(h:∀k,k<a.length->cf a k=cf b k):a=b:=by apply List.ext_getElem hl;intro k h1 h2;rw[<- ce h1,<- ce h2];exact h k h1
noncomputable def trim(l:List Int):List Int:=(l.reverse.dropWhile (· == 0)).reverse
theorem i8(l:List Int):trim (l++[0])=trim l:=by unfold trim;rw[List.reverse_append];rfl
theorem ib(l:List Int){x:Int}(h:x≠0):trim (l++[x])=l++[x]:=by unfold trim;rw[List.reverse_append];show((x::l.reverse).dropWhile (· == 0)).reverse=_;rw[List.dropWhile_cons_of_neg (by simpa using h)];simp
def Tr(l:List Int):Prop:=∀n,l.length=n+1->cf l n≠0
theorem c0(l:List Int):l=[]\/∃r x,l=r++[x]:=by
 cases h:l.reverse with
 |nil=>left;simpa using h
 |cons x r=>right;exact⟨r.reverse,x,by rw[<- List.reverse_reverse l,h];simp⟩
theorem gZ(r:List Int)(x:Int):cf (r++[x]) r.length=x:=by rw[ol (Ht _),Nat.sub_self];rfl
theorem wx:Tr []:=λn h=>by simp at h
theorem tr_snoc{r:List Int}{x:Int}:Tr (r++[x])↔x≠0:=by
 constructor
 ·intro h;have:=h r.length (by simp)
  rwa [gZ]at this
 ·intro h n hn;have e:n=r.length:=by simp at hn;omega
  subst e
  rwa [gZ]
theorem i7:∀(n:Nat) (l:List Int),l.length=n->Tr (trim l)/\(trim l).length<=l.length/\∀k,cf (trim l) k=cf l k
 |0,l,h=>by have:l=[]:=Iu.mp h;subst this;exact⟨wx,Ht _,λ_=>rfl⟩
 |n+1,l,h=>by
  rcases c0 l with rfl |⟨r,x,rfl⟩
  ·simp at h
  ·by_cases hx:x=0
   ·subst hx;obtain⟨h1,h2,h3⟩:=i7 n r (by simpa using h);rw[i8];refine⟨h1,by rw[Hv];exact HH h2 (Nat.le_add_right _ _),λk=>?_⟩;rw[h3];by_cases hk:k<r.length
    ·rw[vk hk]
    ·rw[ol (Ix hk),aR (Ix hk)];cases e:k-r.length with
     |zero=>rfl
     |succ j=>rw[og,ca]
   ·rw[ib r hx];exact⟨tr_snoc.mpr hx,Ht _,λ_=>rfl⟩
theorem bP(l:List Int):Tr (trim l):=(i7 _ l rfl).1
theorem gP(l:List Int):(trim l).length<=l.length:=(i7 _ l rfl).2.1
theorem dX(l:List Int)(k:Nat):cf (trim l) k=cf l k:=(i7 _ l rfl).2.2 k
theorem pj{l:List Int}(h:Tr l):trim l=l:=by
 rcases c0 l with rfl |⟨r,x,rfl⟩
 ·rfl
 ·exact ib r (tr_snoc.mp h)
theorem fu{a b:List Int}(ha:Tr a)(hb:Tr b)(h:∀k,cf a k=cf b k):a=b:=by
 have le:∀{a b:List Int},Tr a->(∀k,cf a k=cf b k)->a.length<=b.length:=λ{a b} ha h=>by
  cases e:a.length with
  |zero=>exact Hy _
  |succ n =>apply Classical.byContradiction;intro hn;exact ha n e (by rw[h n,aR (by omega)])
 have hl:a.length=b.length:=Nat.le_antisymm (le ha h) (le hb λk=>(h k).symm);exact dU hl λk _=>h k
theorem ph{l:List Int}{n:Nat}(hn:n<l.length)(h:cf l n=0):trim (l.take (n+1))=trim (l.take n):=by rw[Ib,eJ hn,h];exact i8 _
theorem pi{l:List Int}{n:Nat}(hn:n<l.length)(h:cf l n≠0):trim (l.take (n+1))=l.take (n+1):=by rw[Ib,eJ hn];exact ib _ h
noncomputable def dD(f:Int)(a b:List Int):List Int:=(List.range (max a.length b.length)).map λk=>cf a k+f*cf b k
theorem fQ(f:Int)(a b:List Int)(k:Nat):cf (dD f a b) k=cf a k+f*cf b k:=by
 unfold dD;rw[fO];by_cases h:k<max a.length b.length
 ·rw[if_pos h]
 ·have h1:a.length<=k:=by omega
  have h2:b.length<=k:=by omega
  rw[if_neg h,aR h1,aR h2];simp
noncomputable def di(a b:List Int):List Int:=trim (dD 1 a b)
noncomputable def bj(a b:List Int):List Int:=trim (dD (-1) a b)
noncomputable def tm(a b:List Int)(n i:Nat):Int:=if i<=n then cf a i*cf b (n-i)else 0
noncomputable def sm(a b:List Int)(n:Nat):Nat->Int
 |0=>0
 |j+1=>sm a b n j+tm a b n j
noncomputable def aq(a b:List Int)(n:Nat):Int:=sm a b n a.length
noncomputable def ae(a b:List Int):List Int:=if a=[]\/b=[]then[]else(List.range (a.length+b.length-1)).map (aq a b)
theorem wA{a b:List Int}{n i:Nat}(h:a.length<=i):tm a b n i=0:=by
 unfold tm;split
 ·rw[aR h,Iq]
 ·rfl
theorem ja{a b:List Int}{n i:Nat}(h:b.length<=n-i):tm a b n i=0:=by
 unfold tm;split
 ·rw[aR h,HL]
 ·rfl
theorem gv{a b:List Int}{n:Nat}:∀{j:Nat},(∀i,i<j->tm a b n i=0)->sm a b n j=0
 |0,_=>rfl
 |j+1,h=>by rw[sm,gv λi hi=>h i (Nat.lt_succ_of_lt hi),h j (IJ _)];rfl
theorem sL{a b:List Int}{n:Nat}(h:a.length+b.length<=n+1):aq a b n=0:=by apply gv;intro i hi;exact ja (by omega)
theorem mG{a b:List Int}{la lb:Nat}(ha:a.length=la+1)(hb:b.length=lb+1):aq a b (la+lb)=cf a la*cf b lb:=by unfold aq;rw[ha,sm,gv λi hi=>ja (by omega)];unfold tm;rw[if_pos (Nat.le_add_right _ _),Nat.add_sub_cancel_left,IL]
theorem aB(a b:List Int)(n:Nat):cf (ae a b) n=aq a b n:=by
 unfold ae;by_cases h:a=[]\/b=[]
 ·rw[if_pos h,ca]
  symm
  apply gv;intro i hi;rcases h with rfl |rfl
  ·simp at hi
  ·exact ja (Hy _)
 ·rw[if_neg h,fO];by_cases hn:n<a.length+b.length-1
  ·rw[if_pos hn]
  ·rw[if_neg hn,sL (by omega)]
theorem d7{a b:List Int}(ha:Tr a)(hb:Tr b):Tr (ae a b):=by
 intro n hn;rw[aB];by_cases h:a=[]\/b=[]
 ·unfold ae at hn;rw[if_pos h]at hn;simp at hn
 ·have h1:a≠[]:=λz=>h (.inl z)
  have h2:b≠[]:=λz=>h (.inr z)
  obtain⟨la,ea⟩:∃la,a.length=la+1:=⟨a.length-1,by have:=Hw.mpr h1;omega⟩;obtain⟨lb,eb⟩:∃lb,b.length=lb+1:=⟨b.length-1,by have:=Hw.mpr h2;omega⟩;unfold ae at hn
  rw[if_neg h,Hs,Ih]at hn;have e:n=la+lb:=by omega
  subst e;rw[mG ea eb];exact HM (ha la ea) (hb lb eb)
theorem sM{a b acc:List Int}{j k:Nat}(hj:j<a.length)(hk:k<b.length)(hl:j+k<acc.length)
 (h:∀n,n<acc.length->cf acc n=sm a b n j+(if j<=n/\n-j<k then tm a b n j else 0)) :
 ∀n,n<(acc.set (j+k) (cf acc (j+k)+cf a j*cf b k)).length->cf (acc.set (j+k) (cf acc (j+k)+cf a j*cf b k)) n=sm a b n j+(if j<=n/\n-j<k+1 then tm a b n j else 0):=by
 intro n hn;rw[HU]at hn;rw[ge hl];by_cases e:n=j+k
 ·subst e;rw[if_pos rfl,h _ hl,if_neg (by omega),if_pos ⟨by omega,by omega⟩];unfold tm;rw[if_pos (by omega),Nat.add_sub_cancel_left,Iv]
 ·rw[if_neg e,h n hn]
  congr 1
  by_cases h1:j<=n/\n-j<k
  ·rw[if_pos h1,if_pos ⟨h1.1,by omega⟩]
  ·rw[if_neg h1,if_neg (by omega)]
theorem sO{a b acc:List Int}{j:Nat}(h:∀n,n<acc.length->cf acc n=sm a b n j+(if j<=n/\n-j<b.length then tm a b n j else 0)):∀n,n<acc.length->cf acc n=sm a b n (j+1):=by
 intro n hn;rw[h n hn,sm]
 congr 1
 by_cases h1:j<=n/\n-j<b.length
 ·rw[if_pos h1]
 ·rw[if_neg h1];by_cases h2:j<=n
  ·rw[ja (by omega)]
  ·unfold tm;rw[if_neg h2]
theorem sN{a b acc:List Int}{j:Nat}(h:∀n,n<acc.length->cf acc n=sm a b n j):∀n,n<acc.length->cf acc n=sm a b n j+(if j<=n/\n-j<0 then tm a b n j else 0):=by intro n hn;rw[if_neg (by omega),Iv];exact h n hn
theorem sP{a b acc:List Int}(hl:a.length+b.length<=acc.length+1)(h:∀n,n<acc.length->cf acc n=sm a b n a.length)(n:Nat):cf acc n=aq a b n:=by
 by_cases hn:n<acc.length
 ·exact h n hn
 ·rw[aR (Ix hn),sL (by omega)]
theorem EC(a b:List Int):trim ((List.range (max a.length b.length)).map λk=>cf a k+cf b k)=di a b:=by
 unfold di dD
 congr 2;funext k;rw[HV]
theorem pO(a b:List Int):trim ((List.range (max a.length b.length)).map λk=>cf a k-cf b k)=bj a b:=by
 unfold bj dD
 congr 2;funext k;omega
noncomputable def dv(t b:Int):Int:=if b<0 then -((Nat.gcd t.natAbs b.natAbs:Nat):Int)else((Nat.gcd t.natAbs b.natAbs:Nat):Int)
noncomputable def rt(t b:Int):Int:=t.fdiv (dv t b)
noncomputable def rb(t b:Int):Int:=b.fdiv (dv t b)
theorem jR{t b:Int}(hb:b≠0):0<Nat.gcd t.natAbs b.natAbs:=Nat.gcd_pos_of_pos_right _ (IM.mpr hb)
theorem jY{t b:Int}(hb:b≠0):dv t b≠0:=by have:=@jR t b hb;unfold dv;split<;>omega
theorem iM(t b:Int):(dv t b).natAbs=Nat.gcd t.natAbs b.natAbs:=by unfold dv;split<;>omega
theorem Dk(t b:Int):dv t b∣t:=Int.natAbs_dvd_natAbs.mp (by rw[iM];exact Ja _ _)
theorem Dj(t b:Int):dv t b∣b:=Int.natAbs_dvd_natAbs.mp (by rw[iM];exact Ji _ _)
theorem uy{a d:Int}(hd:d≠0)(h:d∣a):d*a.fdiv d=a:=by obtain⟨c,rfl⟩:=h;rw[Int.mul_fdiv_cancel_left c hd]
theorem rd{t b:Int}(hb:b≠0):dv t b*rt t b=t:=uy (jY hb) (Dk t b)
theorem l0{t b:Int}(hb:b≠0):dv t b*rb t b=b:=uy (jY hb) (Dj t b)
theorem jz{t b:Int}(hb:b≠0):0<rb t b:=by
 have h1:=@l0 t b hb;have h2:=@jR t b hb;by_cases hn:b<0
 ·have hd:dv t b<0:=by unfold dv;rw[if_pos hn];omega
  apply Classical.byContradiction;intro h;have:0<=dv t b*rb t b:=JN (HD hd) (by omega);omega
 ·have hd:0<dv t b:=by unfold dv;rw[if_neg hn];omega
  apply Classical.byContradiction;intro h;have:dv t b*rb t b<=0:=Int.mul_nonpos_of_nonneg_of_nonpos (HD hd) (by omega);omega
theorem xV{t b:Int}(hb:b≠0):(rt t b).natAbs<=t.natAbs:=by
 have h1:t.natAbs=Nat.gcd t.natAbs b.natAbs*(rt t b).natAbs:=by rw[<- iM,<- Ig,rd hb]
 rw[h1];exact JI _ (jR hb)
theorem yi{t b:Int}(hb:b≠0):(rb t b).natAbs<=b.natAbs:=by
 have h1:b.natAbs=Nat.gcd t.natAbs b.natAbs*(rb t b).natAbs:=by rw[<- iM,<- Ig,l0 hb]
 rw[h1];exact JI _ (jR hb)
noncomputable def sg(x:Int):Int:=if x<0 then -1 else if 0<x then 1 else 0
theorem kD(x:Int):sg (-x) = -sg x:=by unfold sg;split<;>split<;>(try split)<;>(try split)<;>omega
theorem kF{x p:Int}(hp:0<p):sg (x*p)=sg x:=by
 unfold sg;by_cases h1:x<0
 ·rw[if_pos h1,if_pos (JO h1 hp)]
 ·by_cases h2:0<x
  ·have:=HF h2 hp;rw[if_neg h1,if_pos h2,if_neg (by omega),if_pos this]
  ·obtain rfl:x=0:=by omega
   simp
noncomputable def hv(t b:Int):List Int->Int
 | []=>0
 |v::l=>v*b^(l.length+1)+t*hv t b l
theorem uj(t b:Int):hv t b []=0:=rfl
theorem dQ(t b v:Int)(l:List Int):hv t b (v::l)=v*b^(l.length+1)+t*hv t b l:=rfl
noncomputable def mb(a b:Int):Int->List Int->List Int
 |c,[]=>[c]
 |c,x::l=>(-a*x+c)::mb a b (b*x) l
theorem vi(x y:Int)(k:Nat):cf [x,y] k=if k=0 then x else if k=1 then y else 0:=by
 rcases k with _ |_ |k
 ·rfl
 ·rfl
 ·rw[if_neg (by omega),if_neg (by omega)];exact aR (by simp)
theorem yF{g:Int}(h:0<g)(n:Nat):0<g^n:=by
 induction n with
 |zero=>simp
 |succ n ih=>rw[Iy];exact HF ih h
def At(l:List Int)(t b top bot:Int):Prop:=hv t b l*bot=top*b^l.length
theorem At.sign{l:List Int}{t b top bot:Int}(hb:0<b)(hbot:0<bot)(h:At l t b top bot):sg (hv t b l)=sg top:=by
 unfold At at h
 rw[<- kF (x:=hv t b l) hbot,h,kF (yF hb _)]
theorem ui(t u c:Int):hv t u [c]=c*u:=by show c*u^1+t*0=c*u;grind
theorem Dl(t b:Int){l:List Int}{n:Nat}(h:n<l.length):hv t b (l.drop n)=cf l n*b^(l.length-n)+t*hv t b (l.drop (n+1)):=by
 rw[List.drop_eq_getElem_cons h,dQ,List.length_drop,ce h];have e:l.length-(n+1)+1=l.length-n:=by omega
 rw[e]
noncomputable def chF(z:Int×Int)(s:Int):Int×Int:=(if s*z.2<0 then z.1+1 else z.1,if s=0 then z.2 else s)
noncomputable def chS(l:List Int):Int×Int:=l.foldl chF (0,0)
theorem vf(l:List Int)(s:Int):chS (l++[s])=chF (chS l) s:=by unfold chS;rw[List.foldl_append];rfl
theorem vg:∀(n:Nat) (l:List Int),l.length=n->(∀s∈l,s.natAbs<=1)->(chS l).2.natAbs<=1/\0<=(chS l).1/\(chS l).1<=l.length
 |n,l,hn,h=>by
  rcases c0 l with rfl |⟨r,s,rfl⟩
  ·decide
  ·have hr:r.length+1=n:=by rw[<- hn,Hv];rfl
   obtain⟨i1,i2,i3⟩:=vg (n-1) r (by omega) (λx hx=>h x (IF _ hx));have hs:=h s (by simp);rw[vf];unfold chF;refine⟨?_,?_,?_⟩
   ·dsimp only;split
    ·exact i1
    ·exact hs
   ·dsimp only;split<;>omega
   ·dsimp only;rw[Hv];show _<=((r.length+1:Nat):Int);split<;>omega
termination_by n=>n
theorem DR(l:List Int)(h:∀s∈l,s.natAbs<=1):(chS l).2.natAbs<=1/\0<=(chS l).1/\(chS l).1<=l.length:=vg _ l rfl h
theorem qV(x:Int):(sg x).natAbs<=1:=by unfold sg;split<;>(try split)<;>decide
theorem qK{q q' b:List Int}{c l:Int}{p n:Nat}(h:∀k,cf q' k=c*cf q k+(if k=p then l else 0)) :
 ∀j,sm q' b n j=c*sm q b n j+(if p<j/\p<=n then l*cf b (n-p)else 0)
 |0=>by rw[sm,sm,if_neg (by omega)];simp
 |j+1=>by
  rw[sm,sm,qK h j];unfold tm;by_cases hj:j<=n
  ·rw[if_pos hj,if_pos hj,h j];by_cases e:j=p
   ·subst e;rw[if_pos rfl,if_neg (by omega),if_pos ⟨by omega,hj⟩];grind
   ·rw[if_neg e];by_cases h2:p<j/\p<=n
    ·rw[if_pos h2,if_pos ⟨by omega,h2.2⟩];grind
    ·rw[if_neg h2,if_neg (by omega)];grind
  ·rw[if_neg hj,if_neg hj];by_cases h2:p<j/\p<=n
   ·rw[if_pos h2,if_pos ⟨by omega,h2.2⟩];grind
   ·rw[if_neg h2,if_neg (by omega)];grind
theorem AE{q q' b:List Int}{c l:Int}{p n:Nat}(hl:q'.length=q.length)(hp:p<q.length)(h:∀k,cf q' k=c*cf q k+(if k=p then l else 0)) :
 aq q' b n=c*aq q b n+(if p<=n then l*cf b (n-p)else 0):=by
 unfold aq;rw[hl,qK h];by_cases h2:p<=n
 ·rw[if_pos h2,if_pos ⟨hp,h2⟩]
 ·rw[if_neg h2,if_neg (by omega)]
noncomputable def scL(c:Int)(l:List Int):List Int:=l.map λx=>c*x
theorem cn(c:Int)(l:List Int):(scL c l).length=l.length:=by unfold scL;rw[Hs]
theorem bG(c:Int)(l:List Int)(k:Nat):cf (scL c l) k=c*cf l k:=by
 by_cases h:k<l.length
 ·unfold cf scL;simp[h]
 ·rw[aR (by rw[cn];omega),aR (by omega)];simp
noncomputable def iE(r b:List Int)(p:Nat)(l:Int):List Int:=(List.range (r.length-1)).map λk=>cf r k-(if p<=k then l*cf b (k-p)else 0)
theorem Bp(r b:List Int)(p:Nat)(l:Int):(iE r b p l).length=r.length-1:=by unfold iE;simp
theorem oi(r b:List Int)(p:Nat)(l:Int)(k:Nat):cf (iE r b p l) k=if k<r.length-1 then cf r k-(if p<=k then l*cf b (k-p)else 0)else 0:=by unfold iE;rw[fO]
theorem xt(x:Int):sg x*x=(x.natAbs:Int):=by unfold sg;split<;>(try split)<;>omega
noncomputable def cz(b:List Int)(z:List Int×List Int)(i:Nat):List Int×List Int :=
 let s:Int:=((cf b (b.length-1)).natAbs:Int)
 let l:=sg (cf b (b.length-1))*cf z.2 (z.2.length-1)
 ((scL s z.1).set i l,iE (scL s z.2) b i l)
noncomputable def bI(a b:List Int):Nat->List Int×List Int
 |0=>(List.replicate (a.length+1-b.length) 0,a)
 |i+1=>cz b (bI a b i) (a.length+1-b.length-1-i)
structure DivInv(a b:List Int)(i:Nat):Prop where
 lq:(bI a b i).1.length=a.length+1-b.length
 lr:(bI a b i).2.length=a.length-i
 low:∀k,k+i<a.length+1-b.length->cf (bI a b i).1 k=0
 eqn:∀n,((cf b (b.length-1)).natAbs:Int)^i*cf a n=aq (bI a b i).1 b n+cf (bI a b i).2 n
theorem mF{a b:List Int}{n:Nat}(h:∀k,cf a k=0):aq a b n=0:=by apply gv;intro i _;unfold tm;rw[h i];simp
theorem Dm{A B i:Nat}(hi:i+1<=A+1-B)(hb:0<B):∃p,A+1-B=p+i+1/\p+i+B=A:=⟨A-B-i,by omega,by omega⟩
theorem uQ(p i:Nat):p<p+i+1:=Nat.lt_succ_of_le (Nat.le_add_right _ _)
theorem jZ{P A C M R:Int}(en:P*A=M+R):P*C*A=C*M+C*R:=by rw[Int.mul_right_comm,en,Im,Int.mul_add]
theorem Dn(x y z:Int):x+y=x+z+(y-z):=by omega
theorem gX{a b:List Int}(hb:b≠[]):∀i,i<=a.length+1-b.length->DivInv a b i
 |0,_=>⟨by simp[bI],by simp[bI],λk _=>by show cf (List.replicate _ 0) k=0;rw[iR],λn=>by
  show _=aq (List.replicate _ 0) b n+cf a n
  rw[mF λk=>iR _ _];simp⟩
 |i+1,hi=>by
  obtain⟨lq,lr,low,eqn⟩:=gX (a:=a) hb i (Nat.le_of_succ_le hi);have hbl:=Hw.mpr hb;have e:bI a b (i+1)=cz b (bI a b i) (a.length+1-b.length-1-i):=rfl;generalize bI a b i=z at e lq lr low eqn
  obtain⟨p,ep,ed⟩:=Dm hi hbl;rw[ep,show p+i+1-1-i=p from Nat.add_sub_cancel _ _]at e;rw[ep]at lq low;have lz:z.2.length=p+b.length:=by rw[lr,<- ed,Nat.add_right_comm,Nat.add_sub_cancel]
  have hp:p<(scL ((cf b (b.length-1)).natAbs:Int) z.1).length:=by rw[cn,lq];exact uQ p i
  have hq:∀k,cf (cz b z p).1 k=((cf b (b.length-1)).natAbs:Int)*cf z.1 k+(if k=p then sg (cf b (b.length-1))*cf z.2 (z.2.length-1)else 0):=by
   intro k;unfold cz;dsimp only
   rw[ge hp,bG];by_cases h:k=p
   ·rw[if_pos h,if_pos h,low k (by rw[h];exact IJ _)];simp
   ·rw[if_neg h,if_neg h];simp
  have hlq:(cz b z p).1.length=p+i+1:=by unfold cz;dsimp only;rw[HU,cn,lq]
  refine⟨?_,?_,?_,?_⟩
  ·rw[e,hlq,ep]
  ·rw[e];unfold cz;dsimp only;rw[Bp,cn,lr];rfl
  ·intro k hk;rw[ep]at hk;have hk':k<p:=by clear lq lr low eqn hp hq hlq lz e ep ed;omega
   rw[e,hq,if_neg (HR hk'),low k (Nat.lt_trans (Nat.add_lt_add_right hk' i) (IJ _))];simp
  ·intro n;rw[e,AE (by rw[hlq,lq]) (by rw[lq];exact uQ p i) hq,Iy];have en:=eqn n;unfold cz;dsimp only
   rw[oi,cn,bG,lz];clear lq lr low eqn hp hq hlq e ep ed;by_cases h1:n<p+b.length-1
   ·rw[if_pos h1];by_cases h2:p<=n
    ·rw[if_pos h2,jZ en];exact Dn _ _ _
    ·rw[if_neg h2,jZ en,Iv,Int.sub_zero]
   ·rw[if_neg h1];have h2:p<=n:=by clear en;omega
    by_cases h3:n=p+b.length-1
    ·have h4:n-p=b.length-1:=by clear en;omega
     rw[if_pos h2,h4];have sg:=xt (cf b (b.length-1));rw[<- h3,jZ en,Iv,Int.mul_right_comm,sg]
    ·have hc:cf z.2 n=0:=aR (by rw[lz];clear en;omega);rw[if_pos h2,aR (l:=b) (k:=n-p) (by clear en;omega),jZ en,hc,HL,HL,Iv,Iv]
theorem uO{a b:List Int}(hb:b≠[])(ha:Tr a)(hbt:Tr b):∀i,i+1<=a.length+1-b.length->cf (bI a b (i+1)).1 (a.length+1-b.length-1)≠0
 |0,h=>by
  obtain⟨lq,lr,_,_⟩:=gX (a:=a) hb 0 (by omega);have hbl:=Hw.mpr hb;show cf (cz b (bI a b 0) _).1 _≠0;unfold cz;dsimp only
  rw[ge (by rw[cn,lq];omega),if_pos (by omega)];have hb1:=hbt (b.length-1) (by omega);have ha1:=ha (a.length-1) (by omega);refine HM ?_ ?_
  ·unfold sg;split<;>(try split)<;>omega
  ·rw[lr];exact ha1
 |i+1,h=>by
  have ih:=uO hb ha hbt i (by omega);obtain⟨lq,lr,_,_⟩:=gX (a:=a) hb (i+1) (by omega);have hbl:=Hw.mpr hb;show cf (cz b (bI a b (i+1)) _).1 _≠0;unfold cz;dsimp only
  have hN:∀n,i+1+1<=n->¬n-1=n-1-(i+1):=λn hn e=>by omega
  rw[ge (by rw[cn,lq];omega),if_neg (hN _ h),bG];have hb1:=hbt (b.length-1) (by omega);refine HM ?_ ih;omega
noncomputable def br(a b:List Int):Nat:=a.length+1-b.length
noncomputable def aO(a b:List Int):Int:=((cf b (b.length-1)).natAbs:Int)^br a b
noncomputable def aQ(a b:List Int):List Int:=(bI a b (br a b)).1
noncomputable def ao(a b:List Int):List Int:=trim (bI a b (br a b)).2
theorem fw{a b:List Int}(hb:b≠[])(n:Nat):aO a b*cf a n=aq (aQ a b) b n+cf (ao a b) n:=by unfold ao aQ aO;rw[dX];exact(gX hb (br a b) (Ht _)).eqn n
theorem fv{a b:List Int}(hb:b≠[]):(ao a b).length<b.length:=by
 have h:=(gX (a:=a) hb (br a b) (Ht _)).lr;have h2:=gP (bI a b (br a b)).2;have hbl:=Hw.mpr hb;unfold ao;unfold br at *
 omega
theorem iN{a b:List Int}(hb:b≠[]):(aQ a b).length=br a b:=(gX (a:=a) hb (br a b) (Ht _)).lq
theorem uM{a b:List Int}(hb:b≠[])(ha:Tr a)(hbt:Tr b):Tr (aQ a b):=by
 intro n hn;rw[iN hb]at hn;have h:=uO hb ha hbt n (by unfold br at hn;omega);unfold aQ;rw[hn];have:a.length+1-b.length-1=n:=by unfold br at hn;rw[hn];rfl
 rwa [this]at h
theorem fM(a b:List Int):Tr (ao a b):=bP _
theorem qN{a a' b b':List Int}{n:Nat}(h1:∀k,cf a k=cf a' k)(h2:∀k,cf b k=cf b' k):∀j,sm a b n j=sm a' b' n j
 |0=>rfl
 |j+1=>by rw[sm,sm,qN h1 h2 j];unfold tm;rw[h1 j,h2 (n-j)]
theorem qL{a b:List Int}{n:Nat}:∀d,sm a b n (a.length+d)=aq a b n
 |0=>rfl
 |d+1=>by rw[<- Nat.add_assoc,sm,qL d,wA (by omega)];omega
theorem ik{a b:List Int}{n N:Nat}(h:a.length<=N):sm a b n N=aq a b n:=by obtain⟨d,rfl⟩:=Nat.exists_eq_add_of_le h;exact qL d
theorem jK{a a' b b':List Int}{n:Nat}(h1:∀k,cf a k=cf a' k)(h2:∀k,cf b k=cf b' k):aq a b n=aq a' b' n:=by rw[<- ik (Nat.le_max_left a.length a'.length),<- ik (Nat.le_max_right a.length a'.length)];exact qN h1 h2 _
theorem qJ{a b c q:List Int}{x y:Int}{n:Nat}(h:∀k,cf c k=x*cf a k+y*cf b k):∀j,sm c q n j=x*sm a q n j+y*sm b q n j
 |0=>by simp[sm]
 |j+1=>by
  rw[sm,sm,sm,qJ h j];unfold tm;rw[h j];by_cases hj:j<=n
  ·rw[if_pos hj,if_pos hj,if_pos hj];grind
  ·rw[if_neg hj,if_neg hj,if_neg hj];grind
theorem dB{a b c q:List Int}{x y:Int}{n:Nat}(h:∀k,cf c k=x*cf a k+y*cf b k):aq c q n=x*aq a q n+y*aq b q n:=by
 have h1:a.length<=a.length+b.length+c.length:=by omega
 have h2:b.length<=a.length+b.length+c.length:=by omega
 have h3:c.length<=a.length+b.length+c.length:=by omega
 rw[<- ik h1,<- ik h2,<- ik h3];exact qJ h _
theorem qI{a b b':List Int}{c:Int}{n:Nat}(h:∀k,cf b' k=c*cf b k):∀j,sm a b' n j=c*sm a b n j
 |0=>by simp[sm]
 |j+1=>by
  rw[sm,sm,qI h j];unfold tm;rw[h (n-j)];by_cases hj:j<=n
  ·rw[if_pos hj,if_pos hj];grind
  ·rw[if_neg hj,if_neg hj];grind
theorem iA{a b b':List Int}{c:Int}{n:Nat}(h:∀k,cf b' k=c*cf b k):aq a b' n=c*aq a b n:=qI h _
theorem eH(c:Int)(l:List Int)(n:Nat):aq [c] l n=c*cf l n:=by unfold aq;show sm [c] l n 0+tm [c] l n 0=_;unfold sm tm;rw[if_pos (Hy _),oa,Jb,IL]
theorem mE{l:List Int}(ht:Tr l)(h:∀k,cf l k=0):l=[]:=by
 refine Classical.byContradiction λhne=>?_
 have hl:=Hw.mpr hne;exact ht (l.length-1) (by omega) (h _)
theorem sI{d q:List Int}(hq:q≠[])(hqt:Tr q)(h:∀n,q.length<=n+1->aq d q n=0):∀k,cf d k=0:=by
 have e:trim d=[]:=by
  refine Classical.byContradiction λhne=>?_
  have hl:=Hw.mpr hne;have hql:=Hw.mpr hq;have ht:=bP d ((trim d).length-1) (by omega);have hb:=hqt (q.length-1) (by omega);have h1:=h ((trim d).length-1+(q.length-1)) (by omega);rw[<- jK (a:=trim d) (b:=q) (λk=>dX d k) (λ_=>rfl),mG (la:=(trim d).length-1) (lb:=q.length-1) (by omega) (by omega)]at h1;exact HM ht hb h1
 intro k;rw[<- dX,e,ca]
theorem iO{a b:List Int}(hb:b≠[])(hbt:Tr b):aO a b≠0:=by
 have hbl:=Hw.mpr hb;have h:=hbt (b.length-1) (by omega);have h1:((cf b (b.length-1)).natAbs:Int)≠0:=by omega
 unfold aO;generalize br a b=n
 induction n with
 |zero=>rw[Int.pow_zero];decide
 |succ n ih=>rw[Iy];exact HM ih h1
noncomputable def dF(d:Nat)(l:List Int):Nat:=l.foldl (λd v=>Nat.gcd d v.natAbs) d
noncomputable def al(l:List Int):Nat:=dF 0 l
theorem CF(d:Nat):dF d []=d:=rfl
theorem CG(d:Nat)(v:Int)(l:List Int):dF d (v::l)=dF (Nat.gcd d v.natAbs) l:=rfl
theorem CD(d:Nat)(l:List Int)(v:Int):dF d (l++[v])=Nat.gcd (dF d l) v.natAbs:=by unfold dF;rw[List.foldl_append];rfl
theorem nu(l:List Int)(v:Int):al (l++[v])=Nat.gcd (al l) v.natAbs:=CD 0 l v
theorem uI{m:Nat}:∀{l:List Int} {d:Nat},m∣dF d l↔m∣d/\∀v∈l,m∣v.natAbs
 | [],d=>by simp[CF]
 |v::l,d=>by rw[CG,uI,Nat.dvd_gcd_iff];simp only[HI,forall_eq_or_imp];exact⟨λ⟨⟨a,b⟩,c⟩=>⟨a,b,c⟩,λ⟨a,b,c⟩=>⟨⟨a,b⟩,c⟩⟩
theorem dvd_gcdL{m:Nat}{l:List Int}:m∣al l↔∀v∈l,m∣v.natAbs:=by unfold al;rw[uI];exact⟨λh=>h.2,λh=>⟨Nat.dvd_zero m,h⟩⟩
theorem jT{l:List Int}{v:Int}(h:v∈l):al l∣v.natAbs:=dvd_gcdL.mp (IN _) v h
theorem CB(v:Int):al [v]=v.natAbs:=by show Nat.gcd 0 v.natAbs=_;exact Nat.gcd_zero_left _
theorem um{a b:Int}(ha:0<=a)(hb:0<b):Nat.gcd b.natAbs (a%b).natAbs=Nat.gcd a.natAbs b.natAbs:=by
 have e:(a%b).natAbs=a.natAbs%b.natAbs:=by obtain⟨x,rfl⟩:=JJ ha;obtain⟨y,rfl⟩:=JJ (HD hb);rfl
 rw[e,Nat.gcd_comm,<- Nat.gcd_rec,Nat.gcd_comm]
noncomputable def ah(l:List Int):List Int:=l.map λx=>x/(al l:Int)
noncomputable def cp(l:List Int):Int:=cf l (l.length-1)
theorem fj(r:List Int)(x:Int):cp (r++[x])=x:=by unfold cp;rw[Hv];exact gZ r x
noncomputable def cy(l:List Int):List Int:=if cp l<0 then l.map λx => -x else l
noncomputable def aJ(l:List Int):List Int:=cy (ah l)
theorem px{c:Int->Int}(h0:∀x,c x=0↔x=0):∀(n:Nat) (l:List Int),l.length=n->trim (l.map c)=(trim l).map c
 |0,l,h=>by rw[Iu.mp h];rfl
 |n+1,l,h=>by
  rcases c0 l with rfl |⟨r,x,rfl⟩
  ·rfl
  ·rw[Hu];show trim (r.map c++[c x])=_;by_cases hx:x=0
   ·subst hx;rw[(h0 0).mpr rfl,i8,i8];exact px h0 n r (by simpa using h)
   ·rw[ib r hx,ib _ (λz=>hx ((h0 x).mp z)),Hu];rfl
def hI(l:List Int):Prop:=l=[]\/al l=1
theorem xh{l:List Int}(h:hI l):ah l=l:=by
 rcases h with rfl |h
 ·rfl
 ·unfold ah;rw[h]
  conv=>rhs;rw[<- List.map_id l]
  apply Jc;intro x _;show x/1=x;exact Int.ediv_one x
theorem CC{l:List Int}{s:Int}(hs:s=1\/s = -1):al (l.map λx=>x*s)=al l:=by
 have key:∀m:Nat,m∣al (l.map λx=>x*s)↔m∣al l:=by
  intro m;rw[dvd_gcdL,dvd_gcdL]
  have e:∀x:Int,(x*s).natAbs=x.natAbs:=λx=>by
   rcases hs with rfl |rfl
   ·rw[Il]
   ·rw[Int.mul_neg,Il,Int.natAbs_neg]
  constructor
  ·intro h v hv;have:=h (v*s) (Hz.mpr ⟨v,hv,rfl⟩)
   rwa [e]at this
  ·intro h v hv;obtain⟨u,hu,rfl⟩:=Hz.mp hv;rw[e];exact h u hu
 exact Nat.dvd_antisymm ((key _).mp (IN _)) ((key _).mpr (IN _))
theorem yD{l:List Int}(h:hI l):hI (l.map λx => -x):=by
 rcases h with rfl |h
 ·exact .inl rfl
 ·right
  have e:(l.map λx => -x)=l.map λx=>x*(-1):=by apply Jc;intro x _;omega
  rw[e,CC (.inr rfl),h]
theorem tK(l:List Int):cp (l.map λx => -x) = -cp l:=by
 rcases c0 l with rfl |⟨r,x,rfl⟩
 ·rfl
 ·rw[Hu];show cp (r.map _++[-x])=_;rw[fj,fj]
theorem yC{l:List Int}(h:hI l):hI (cy l):=by
 unfold cy;split
 ·exact yD h
 ·exact h
theorem wy{c:Int->Int}(h0:∀x,c x=0↔x=0){l:List Int}(h:Tr l):Tr (l.map c):=by rw[<- pj h,<- px h0 _ l rfl];exact bP _
theorem ww{l:List Int}(h:Tr l):Tr (cy l):=by
 unfold cy;split
 ·exact wy (λx=>by omega) h
 ·exact h
theorem uq(c:Int):∀(l:List Int) (d:Nat),dF (c.natAbs*d) (scL c l)=c.natAbs*dF d l
 | [],d=>rfl
 |v::l,d=>by show dF (Nat.gcd (c.natAbs*d) (c*v).natAbs) (scL c l)=c.natAbs*dF (Nat.gcd d v.natAbs) l;rw[Ig,Nat.gcd_mul_left,uq c l]
theorem jS(c:Int)(l:List Int):al (scL c l)=c.natAbs*al l:=by have h:=uq c l 0;rw[Nat.mul_zero]at h;exact h
theorem f9{l:List Int}{x:Int}(h:x∈l):(al l:Int)∣x:=Jd.mpr (jT h)
theorem xf{c:Int}(hc:0<c)(l:List Int):ah (scL c l)=ah l:=by
 unfold ah;rw[jS];unfold scL;rw[Iw];refine Jc λx _=>?_
 show c*x/((c.natAbs*al l:Nat):Int)=x/(al l:Int);have e:((c.natAbs*al l:Nat):Int)=c*(al l:Int):=by rw[Jj];congr 1;omega
 rw[e,Int.mul_ediv_mul_of_pos _ _ hc]
theorem xg{c:Int}(hc:c<0)(l:List Int):ah (scL c l)=(ah l).map λx => -x:=by
 unfold ah;rw[jS];unfold scL;rw[Iw,Iw];refine Jc λx hx=>?_
 show c*x/((c.natAbs*al l:Nat):Int) = -(x/(al l:Int));have e:((c.natAbs*al l:Nat):Int)=(-c)*(al l:Int):=by rw[Jj];congr 1;omega
 have e2:c*x=(-c)*(-x):=by rw[Int.neg_mul_neg]
 rw[e,e2,Int.mul_ediv_mul_of_pos _ _ (by omega:0 < -c),Int.neg_ediv_of_dvd (f9 hx)]
theorem yI{m:List Int}(h:Tr m):cy (m.map λx => -x)=cy m:=by
 rcases c0 m with rfl |⟨r,x,rfl⟩
 ·rfl
 have hx:x≠0:=tr_snoc.mp h;have h1:=tK (r++[x]);rw[fj]at h1;unfold cy;rw[h1,fj];by_cases hn:x<0
 ·rw[if_neg (by omega),if_pos hn]
 ·rw[if_pos (by omega),if_neg hn,Iw];rw[show((λx:Int => -x) ∘ λx:Int => -x)=id from by funext y;simp];exact List.map_id _
theorem dZ{l:List Int}(h:Tr l):Tr (ah l):=by
 intro n hn;have hl:l.length=n+1:=by rw[<- hn];unfold ah;rw[Hs]
 have hx:=h n hl;have hm:cf l n∈l:=by rw[ce (by omega)];exact Ia _
 have e:cf (ah l) n=cf l n/(al l:Int):=by
  have h1:n<l.length:=by omega
  unfold ah cf;simp[List.getD,h1]
 rw[e];intro z;have d:=f9 hm;have:=JK d;rw[z,HL]at this;exact hx this.symm
theorem mq{c:Int}(hc:c≠0){l:List Int}(h:Tr l):aJ (scL c l)=aJ l:=by
 unfold aJ;by_cases hp:0<c
 ·rw[xf hp]
 ·rw[xg (by omega),yI (dZ h)]
theorem ic{c:Int}(hc:c≠0){l:List Int}(h:Tr l):Tr (scL c l):=by intro n hn;rw[cn]at hn;rw[bG];exact HM hc (h n hn)
theorem yL{a b:List Int}{x y:Int}(hx:x≠0)(hy:y≠0)(ha:Tr a)(hb:Tr b)(h:∀k,x*cf a k=y*cf b k):aJ a=aJ b:=by
 have e:scL x a=scL y b:=fu (ic hx ha) (ic hy hb) λk=>by rw[bG,bG,h k]
 rw[<- mq hx ha,e,mq hy hb]
noncomputable def slopeL(l:List Int):List Int:=(List.range (l.length-1)).map λ(k:Nat)=>((k:Int)+1)*cf l (k+1)
noncomputable def lc(l:List Int)(m n:Nat):Int:=if n%m=0 then cf l (n/m)else 0
noncomputable def lp(l:List Int)(m i n:Nat):Int:=if n%m=0/\n/m<i then cf l (n/m)else 0
noncomputable def rst(one other:List Int):List Int:=if other=[]then[]else ao one other
noncomputable def nxt(one other:List Int):List Int:=ah (bj [] (rst one other))
noncomputable def aN:Nat->List Int->List Int->List (List Int)
 |0,_,_=>[]
 |n+1,one,other=>if one=[]then[]else one::aN n other (nxt one other)
theorem gA(n:Nat)(o:List Int):aN n [] o=[]:=by cases n with |zero=>rfl |succ n=>show(if([]:List Int)=[]then _ else _)=_;rw[if_pos rfl]
noncomputable def up(f:Nat->Int)(n:Nat):Int:=if n=0 then 0 else f (n-1)
theorem qM(x:Int)(a b:List Int)(n:Nat):∀j,sm (x::a) b n (j+1)=x*cf b n+(if n=0 then 0 else sm a b (n-1) j)
 |0=>by
  show 0+tm (x::a) b n 0=_;unfold tm;rw[if_pos (Hy _)];rw[oa,Jb];by_cases h:n=0
  ·rw[if_pos h];omega
  ·rw[if_neg h];show _=_+0;omega
 |j+1=>by
  show sm (x::a) b n (j+1)+tm (x::a) b n (j+1)=_;rw[qM x a b n j];by_cases h:n=0
  ·rw[if_pos h,if_pos h];unfold tm;rw[if_neg (by omega)];omega
  ·rw[if_neg h,if_neg h];show _=_+(sm a b (n-1) j+tm a b (n-1) j)
   have e:tm (x::a) b n (j+1)=tm a b (n-1) j:=by
    unfold tm;rw[og];by_cases h2:j+1<=n
    ·rw[if_pos h2,if_pos (by omega)]
     congr 2;omega
    ·rw[if_neg h2,if_neg (by omega)]
   rw[e];omega
theorem cW(x:Int)(a b:List Int)(n:Nat):aq (x::a) b n=x*cf b n+up (aq a b) n:=qM x a b n a.length
theorem dA(b:List Int)(n:Nat):aq [] b n=0:=rfl
theorem oj(x:Int)(a:List Int)(n:Nat):cf (x::a) n=(if n=0 then x else 0)+up (cf a) n:=by
 cases n with
 |zero=>show x=x+0;omega
 |succ n=>show cf a n=0+cf a n;omega
theorem mI(y:Int)(b:List Int):∀(a:List Int) (n:Nat),aq a (y::b) n=y*cf a n+up (aq a b) n
 | [],n=>by
  rw[dA,ca];unfold up;split
  ·simp
  ·rw[dA];simp
 |x::a,n=>by
  rw[cW,oj,oj];cases n with
  |zero =>show x*(y+0)+0=y*(x+0)+0;simp only[Iv];exact Im _ _
  |succ n =>show x*(0+cf b n)+aq a (y::b) n=y*(0+cf a n)+aq (x::a) b n;rw[mI y b a n,cW];simp only[IL];omega
theorem mH:∀(a:List Int) (n:Nat),aq a [] n=0
 | [],n=>rfl
 |x::a,n=>by
  rw[cW,ca];unfold up;split
  ·simp
  ·rw[mH a];simp
theorem fe:∀(a b:List Int) (n:Nat),aq a b n=aq b a n
 | [],b,n=>by rw[mH];rfl
 |x::a,b,n=>by
  rw[cW,mI]
  congr 1
  unfold up;split
  ·rfl
  ·exact fe a b _
theorem sK{a b c q:List Int}{x y:Int}{n:Nat}(h:∀k,cf c k=x*cf a k+y*cf b k):aq q c n=x*aq q a n+y*aq q b n:=by rw[fe q c,dB h,fe q a,fe q b]
theorem iQ(a:List Int)(n:Nat):cf (0::a) n=up (cf a) n:=by rw[oj];split<;>omega
theorem sJ(a b:List Int)(n:Nat):aq (0::a) b n=up (aq a b) n:=by rw[cW];omega
theorem gM:∀(a b c:List Int) (n:Nat),aq (ae a b) c n=aq a (ae b c) n
 | [],b,c,n=>by rw[dA,mF λk=>by rw[aB,dA]]
 |x::a,b,c,n=>by
  rw[cW,aB]
  have e:∀k,cf (ae (x::a) b) k=x*cf b k+1*cf (0::ae a b) k:=λk=>by
   rw[aB,cW,iQ,HV]
   congr 1
   unfold up;split
   ·rfl
   ·rw[aB]
  rw[dB e,sJ,HV]
  congr 1
  unfold up;split
  ·rfl
  ·exact gM a b c _
def Dv(d p:List Int):Prop:=∃(c:Int) (q:List Int),c≠0/\∀n,c*cf p n=aq q d n
theorem Dv.refl(d:List Int):Dv d d:=⟨1,[1],by decide,λn=>by rw[eH]⟩
theorem Dv.nil(d:List Int):Dv d []:=⟨1,[],by decide,λn=>by rw[ca,dA];rfl⟩
theorem Dv.trans{d e p:List Int}(h1:Dv d e)(h2:Dv e p):Dv d p:=by obtain⟨c1,q1,hc1,e1⟩:=h1;obtain⟨c2,q2,hc2,e2⟩:=h2;refine⟨c1*c2,ae q2 q1,HM hc1 hc2,λn=>?_⟩;rw[gM,ID,e2,<- iA (b':=ae q1 d) (λk=>by rw[aB,e1])]
theorem Dv.up{d a b r q:List Int}{f:Int}(hf:f≠0)(h:∀n,f*cf a n=aq q b n+cf r n)(hb:Dv d b)(hr:Dv d r):Dv d a:=by obtain⟨c1,q1,hc1,e1⟩:=hb;obtain⟨c2,q2,hc2,e2⟩:=hr;refine⟨c1*c2*f,dD c1 (scL c2 (ae q q1)) q2,HM (HM hc1 hc2) hf,λn=>?_⟩;rw[dB (a:=ae q q1) (b:=q2) (x:=c2) (y:=c1) (λk=>by rw[fQ,bG]),gM,<- e2,iA (b:=b) (b':=ae q1 d) (c:=c1) (λk=>by rw[aB,e1])];have:=h n;grind
theorem Dv.down{d a b r q:List Int}{f:Int}(h:∀n,f*cf a n=aq q b n+cf r n)(ha:Dv d a)(hb:Dv d b):Dv d r:=by obtain⟨c1,q1,hc1,e1⟩:=ha;obtain⟨c2,q2,hc2,e2⟩:=hb;refine⟨c1*c2,dD (-c1) (scL (f*c2) q1) (ae q q2),HM hc1 hc2,λn=>?_⟩;rw[dB (a:=q1) (b:=ae q q2) (x:=f*c2) (y := -c1) (λk=>by rw[fQ,bG]),gM,<- e1,iA (b:=b) (b':=ae q2 d) (c:=c2) (λk=>by rw[aB,e2])];have:=h n;grind
theorem Dv.prop_right{d p p':List Int}{x y:Int}(hx:x≠0)(h:∀n,x*cf p' n=y*cf p n)(hd:Dv d p):Dv d p':=by obtain⟨c,q,hc,e⟩:=hd;refine⟨c*x,scL y q,HM hc hx,λn=>?_⟩;rw[dB (a:=q) (b:=[]) (x:=y) (y:=0) (λk=>by rw[bG];simp),<- e];have:=h n;grind
theorem Dv.prop_left{d d' p:List Int}{x y:Int}(hx:x≠0)(hy:y≠0)(h:∀n,x*cf d' n=y*cf d n)(hd:Dv d p):Dv d' p :=
 Dv.trans (Dv.prop_right hy (λn=>(h n).symm) (Dv.refl d')) hd
theorem f6{l:List Int}(h:Tr l):∃g:Int,g≠0/\∀n,cf l n=g*cf (aJ l) n:=by
 by_cases hl:l=[]
 ·subst hl;exact⟨1,by decide,λn=>by rw[ca];show 0=1*cf [] n;rw[ca];rfl⟩
 have hg:(al l:Int)≠0:=by obtain⟨r,x,rfl⟩:=(c0 l).resolve_left hl;have hx:x≠0:=tr_snoc.mp h;have h1:0<al (r++[x]):=Nat.pos_of_dvd_of_pos (jT (by simp:x∈r++[x])) (IM.mpr hx);omega
 have e1:∀n,cf l n=(al l:Int)*cf (ah l) n:=λn=>by
  unfold ah;by_cases hn:n<l.length
  ·rw[ce hn,ce (by rw[Hs];exact hn),List.getElem_map];exact(JK (f9 (Ia hn))).symm
  ·rw[aR (by omega),aR (by rw[Hs];omega),HL]
 unfold aJ cy;split
 ·refine⟨-(al l:Int),by omega,λn=>?_⟩
  have e2:cf ((ah l).map λx => -x) n = -cf (ah l) n:=by
   by_cases hn:n<(ah l).length
   ·rw[ce hn,ce (by rw[Hs];exact hn),List.getElem_map]
   ·rw[aR (l:=ah l) (by omega),aR (l:=(ah l).map λx => -x) (by rw[Hs];omega)];rfl
  rw[e1,e2];grind
 ·exact⟨_,hg,e1⟩
theorem Dv.plain{d p:List Int}(hp:Tr p):Dv d (aJ p)↔Dv d p:=by obtain⟨g,hg,e⟩:=f6 hp;exact⟨λh=>Dv.prop_right (x:=1) (y:=g) (by decide) (λn=>by rw[e];omega) h,λh=>Dv.prop_right (x:=g) (y:=1) hg (λn=>by rw[<- e];omega) h⟩
theorem plain_len(l:List Int):(aJ l).length=l.length:=by unfold aJ cy ah;split<;>simp
theorem gt{l:List Int}(h:Tr l):Tr (aJ l):=ww (dZ h)
noncomputable def cY:Nat->List Int->List Int->List Int
 |0,one,_=>one
 |n+1,one,other=>if other=[]then one else cY n other (aJ (ao one other))
theorem DO(n:Nat)(one:List Int):cY n one []=one:=by cases n<;>rfl
theorem DN{n:Nat}{one other:List Int}(h:other≠[]):cY (n+1) one other=cY n other (aJ (ao one other)):=by show(if other=[]then one else cY n other (aJ (ao one other)))=_;rw[if_neg h]
theorem u9:∀(n:Nat) (one other:List Int),other.length<=n->Tr one->Tr other->Tr (cY n one other)/\Dv (cY n one other) one/\Dv (cY n one other) other/\(∀d,Dv d one->Dv d other->Dv d (cY n one other))/\(one≠[]\/other≠[]->cY n one other≠[])/\(cY n one other=one\/cY n one other=other\/∃l,Tr l/\cY n one other=aJ l)
 |n,one,[],_,t1,_=>by rw[DO];exact⟨t1,Dv.refl _,Dv.nil _,λd h _=>h,λh=>h.resolve_right λz=>z rfl,.inl rfl⟩
 |0,one,x::o,h,_,_=>absurd h (Nat.not_succ_le_zero _)
 |n+1,one,x::o,h,t1,t2=>by
  have hne:x::o≠[]:=λz=>nomatch z
  rw[DN hne];generalize x::o=other at h t2 hne
  have tr:=fM one other;have hl:=fv (a:=one) hne;obtain⟨c1,c2,c3,c4,c5,c6⟩:=u9 n other (aJ (ao one other)) (by rw[plain_len];omega) t2 (gt tr);have eq:=λk=>fw (a:=one) hne k
  refine⟨c1,Dv.up (iO (a:=one) hne t2) eq c2 ((Dv.plain tr).mp c3),c2,λd h1 h2=>c4 d h2 ((Dv.plain tr).mpr (Dv.down eq h1 h2)),λ_=>c5 (.inl hne),?_⟩;rcases c6 with e |e |e
  ·exact .inr (.inl e)
  ·exact .inr (.inr ⟨_,tr,e⟩)
  ·exact .inr (.inr e)
def Cop(a:List Int)(m:Nat):Prop:=∀k:Nat,k∣m->(∀n,(k:Int)∣cf a n)->k=1
theorem nv:∀(N:Nat) (a b:List Int) (m:Nat),a.length+b.length<=N->Cop a m->Cop b m->(∀n,(m:Int)∣aq a b n)->m=1
 |_,[],b,m,_,h1,_,_=>h1 m (IN _) λn=>by rw[ca];exact Int.dvd_zero _
 |_,_::_,[],m,_,_,h2,_=>h2 m (IN _) λn=>by rw[ca];exact Int.dvd_zero _
 |0,_::_,_::_,_,h,_,_,_=>absurd h (by simp)
 |N+1,x::a,y::b,m,h,h1,h2,h3=>by
  have d1:Nat.gcd m x.natAbs=1:=by
   refine nv N a (y::b) _ (by simp at h ⊢;omega) (λk hk hn=>h1 k (Jk hk (Ja _ _)) λn=>?_) (λk hk=>h2 k (Jk hk (Ja _ _))) λn=>?_
   ·cases n with
    |zero=>exact Jd.mpr (Jk hk (Ji _ _))
    |succ n=>exact hn n
   ·have e:=cW x a (y::b) (n+1);have g1:((Nat.gcd m x.natAbs:Nat):Int)∣aq (x::a) (y::b) (n+1):=Int.dvd_trans (Int.ofNat_dvd.mpr (Ja _ _)) (h3 _);have g2:((Nat.gcd m x.natAbs:Nat):Int)∣x*cf (y::b) (n+1):=Int.dvd_mul_of_dvd_left (Jd.mpr (Ji _ _))
    have e2:aq a (y::b) n=aq (x::a) (y::b) (n+1)-x*cf (y::b) (n+1):=by rw[e];show _=_+aq a (y::b) n-_;omega
    rw[e2];exact Int.dvd_sub g1 g2
  have d2:Nat.gcd m y.natAbs=1:=by
   refine nv N (x::a) b _ (by simp at h ⊢;omega) (λk hk=>h1 k (Jk hk (Ja _ _))) (λk hk hn=>h2 k (Jk hk (Ja _ _)) λn=>?_) λn=>?_
   ·cases n with
    |zero=>exact Jd.mpr (Jk hk (Ji _ _))
    |succ n=>exact hn n
   ·have e:=mI y b (x::a) (n+1);have g1:((Nat.gcd m y.natAbs:Nat):Int)∣aq (x::a) (y::b) (n+1):=Int.dvd_trans (Int.ofNat_dvd.mpr (Ja _ _)) (h3 _);have g2:((Nat.gcd m y.natAbs:Nat):Int)∣y*cf (x::a) (n+1):=Int.dvd_mul_of_dvd_left (Jd.mpr (Ji _ _))
    have e2:aq (x::a) b n=aq (x::a) (y::b) (n+1)-y*cf (x::a) (n+1):=by rw[e];show _=_+aq (x::a) b n-_;omega
    rw[e2];exact Int.dvd_sub g1 g2
  have h0:=h3 0;rw[cW]at h0
  have h0':m∣x.natAbs*y.natAbs:=by
   rw[<- Ig];refine Jd.mp ?_
   have e:x*cf (y::b) 0+up (aq a (y::b)) 0=x*y:=by show x*y+0=x*y;omega
   rwa [e]at h0
  have h4:m∣y.natAbs:=Nat.Coprime.dvd_of_dvd_mul_left d1 h0';rw[Nat.gcd_eq_left h4]at d2;exact d2
theorem AI{l:List Int}{v:Int}(h:v∈l):∃n,n<l.length/\cf l n=v:=by obtain⟨n,hn,e⟩:=IT h;exact⟨n,hn,by rw[ce hn,e]⟩
theorem uZ{a:List Int}{m:Nat}(h:al a=1):Cop a m:=λk _ hn=>by
 have:k∣al a:=dvd_gcdL.mpr λv hv=>by obtain⟨n,_,rfl⟩:=AI hv;exact Jd.mp (hn n)
 rw[h]at this;exact Nat.dvd_one.mp this
theorem yE{a b:List Int}(ha:al a=1)(hb:al b=1):al (ae a b)=1:=by
 refine nv _ a b _ (Ht _) (uZ ha) (uZ hb) λn=>?_
 rw[<- aB];by_cases hn:n<(ae a b).length
 ·rw[ce hn];exact f9 (Ia hn)
 ·rw[aR (by omega)];exact Int.dvd_zero _
structure Pln(l:List Int):Prop where
 tr:Tr l
 ne:l≠[]
 prim:al l=1
 pos:0<cp l
theorem Bv{l:List Int}(h:Tr l)(hne:l≠[]):cp l≠0:=by have:=Hw.mpr hne;exact h (l.length-1) (by omega)
theorem Pln.plain{l:List Int}(h:Pln l):aJ l=l:=by unfold aJ;rw[xh (.inr h.prim)];unfold cy;rw[if_neg (by have:=h.pos;omega)]
theorem io{l:List Int}:scL (al l:Int) (ah l)=l:=by unfold scL ah;rw[Iw];refine(Jc (g:=id) λx hx=>?_).trans (List.map_id _);exact JK (f9 hx)
theorem fZ{l:List Int}(h:Tr l)(hne:l≠[]):Pln (aJ l):=by
 have hg:0<al l:=by obtain⟨r,x,rfl⟩:=(c0 l).resolve_left hne;have hx:x≠0:=tr_snoc.mp h;exact Nat.pos_of_dvd_of_pos (jT (by simp:x∈r++[x])) (IM.mpr hx)
 have h1:al (ah l)=1:=by have e:=jS (al l:Int) (ah l);rw[io,Ii]at e;exact Nat.eq_of_mul_eq_mul_left hg (by rw[<- e,Nat.mul_one])
 have hs:ah l≠[]:=λz=>hne (by have:=congrArg List.length z;unfold ah at this;simpa using this)
 have hl:=Bv (dZ h) hs
 have hp:al (aJ l)=1:=by
  rcases yC (.inr h1:hI (ah l))with z |z
  ·exact absurd (congrArg List.length z) (by
    have:=plain_len l;unfold aJ at this
    rw[this]
    exactλq=>hne (Iu.mp q))
  ·exact z
 refine⟨gt h,λz=>hne (Iu.mp (by rw[<- plain_len,z];rfl)),hp,?_⟩;unfold aJ cy;split
 ·rw[tK];omega
 ·omega
theorem bO{a b:List Int}(ha:a≠[])(hb:b≠[]):(ae a b).length=a.length+b.length-1:=by unfold ae;rw[if_neg (λz=>z.elim ha hb),Hs,Ih]
theorem Bu{a b:List Int}(ha:a≠[])(hb:b≠[]):cp (ae a b)=cp a*cp b:=by
 have h1:=Hw.mpr ha;have h2:=Hw.mpr hb;unfold cp;rw[bO ha hb,aB];have e:a.length+b.length-1-1=(a.length-1)+(b.length-1):=by omega
 rw[e,mG (by omega) (by omega)]
theorem Pln.mul{a b:List Int}(ha:Pln a)(hb:Pln b):Pln (ae a b):=by
 refine⟨d7 ha.tr hb.tr,λz=>?_,yE ha.prim hb.prim,by rw[Bu ha.ne hb.ne];exact HF ha.pos hb.pos⟩;have h1:=Hw.mpr ha.ne;have h2:=Hw.mpr hb.ne;have:=bO ha.ne hb.ne;rw[z]at this;simp at this
 omega
theorem yN{p q d:List Int}{c:Int}(hc:c≠0)(hp:Tr p)(hpn:p≠[])(hq:Tr q)(hd:Pln d)(h:∀n,c*cf p n=aq q d n):ae (aJ q) d=aJ p:=by
 have hqn:q≠[]:=λz=>by have h1:=Hw.mpr hpn;have h2:=h (p.length-1);rw[z,dA]at h2;exact HM hc (hp (p.length-1) (by omega)) h2
 obtain⟨g,hg,e⟩:=f6 hq;have hm:=(fZ hq hqn).mul hd;rw[<- hm.plain];refine yL hg hc hm.tr hp λk=>?_
 rw[h,aB,dB (a:=aJ q) (b:=[]) (x:=g) (y:=0) (c:=q) (λk=>by rw[e];simp),dA];simp
theorem Dv.trim{d p:List Int}(h:Dv d p):∃(c:Int) (q:List Int),c≠0/\Tr q/\∀n,c*cf p n=aq q d n:=by obtain⟨c,q,hc,e⟩:=h;exact⟨c,RM.trim q,hc,bP q,λn=>by rw[e];exact(jK (λk=>dX q k) λ_=>rfl).symm⟩
theorem Dv.fellow{d p:List Int}(hd:Pln d)(hp:Tr p)(hpn:p≠[])(h:Dv d p):∃q,Pln q/\ae q d=aJ p:=by
 obtain⟨c,q,hc,hq,e⟩:=h.trim
 have hqn:q≠[]:=λz=>by have h1:=Hw.mpr hpn;have h2:=e (p.length-1);rw[z,dA]at h2;exact HM hc (hp (p.length-1) (by omega)) h2
 exact⟨aJ q,fZ hq hqn,yN hc hp hpn hq hd e⟩
theorem Pln.const{l:List Int}(h:Pln l)(h1:l.length=1):l=[1]:=by
 obtain⟨x,rfl⟩:∃x,l=[x]:=Jr.mp h1;have h2:=h.prim;rw[CB]at h2;have h3:0<x:=h.pos;have:x=1:=by omega
 rw[this]
theorem one_mul(l:List Int)(h:Tr l):ae [1] l=l:=by
 refine fu (d7 (tr_snoc (r:=[]).mpr (by decide)) h) h λk=>?_
 rw[aB,eH];omega
theorem rX{a b:List Int}(ha:Pln a)(hb:Pln b)(h1:Dv a b)(h2:Dv b a):a=b:=by obtain⟨q,hq,e⟩:=h1.fellow ha hb.tr hb.ne;obtain⟨r,hr,e'⟩:=h2.fellow hb ha.tr ha.ne;rw[hb.plain]at e;rw[ha.plain]at e';have l1:=bO hq.ne ha.ne;have l2:=bO hr.ne hb.ne;rw[e]at l1;rw[e']at l2;have p1:=Hw.mpr hq.ne;have p2:=Hw.mpr hr.ne;have p3:=Hw.mpr ha.ne;have hq1:=hq.const (by omega);rw[hq1,one_mul a ha.tr]at e;exact e
theorem Dv.short{d r:List Int}(hd:d≠[])(hdt:Tr d)(hr:Tr r)(hl:r.length<d.length)(h:Dv d r):r=[]:=by
 obtain⟨c,q,hc,e⟩:=h;have z:=sI hd hdt (d:=q) λn hn=>by rw[<- e,aR (by omega),HL]
 refine mE hr λk=>?_
 have h1:=e k;rw[mF z]at h1;exact(Ic.mp h1).resolve_left hc
theorem Dv.rest{d p:List Int}(hd:d≠[])(hdt:Tr d)(h:Dv d p):ao p d=[] :=
 Dv.short hd hdt (fM _ _) (fv hd) (Dv.down (λn=>fw (a:=p) hd n) h (Dv.refl d))
theorem Dv.mul_right(a b:List Int):Dv b (ae a b):=⟨1,a,by decide,λn=>by rw[aB];omega⟩
theorem Dv.mul_left(a b:List Int):Dv a (ae a b):=⟨1,b,by decide,λn=>by rw[aB,fe];omega⟩
theorem fV{x p:Int}(hp:0<p):sg (p*x)=sg x:=by rw[Im];exact kF hp
theorem nr{t n x y:Int}:∀(a b c:List Int),a.length=c.length->b.length=c.length->(∀k,cf c k=x*cf a k+y*cf b k)->hv t n c=x*hv t n a+y*hv t n b
 | [],[],[],_,_,_=>by simp[uj]
 |u::a,v::b,w::c,ha,hb,h=>by
  have h0:w=x*u+y*v:=h 0;have ih:=nr (t:=t) (n:=n) (x:=x) (y:=y) a b c (by simpa using ha) (by simpa using hb) (λk=>h (k+1));have la:a.length=c.length:=by simpa using ha
  have lb:b.length=c.length:=by simpa using hb
  rw[dQ,dQ,dQ,ih,h0,la,lb];generalize n^(c.length+1)=p;grind
 | [],_::_,[],_,h,_=>by simp at h
 |_::_,_,[],h,_,_=>by simp at h
 | [],_,_::_,h,_,_=>by simp at h
 |_::_,[],_::_,_,h,_=>by simp at h
theorem uf(t n g:Int)(l:List Int):hv t n (scL g l)=g*hv t n l:=by have:=nr (t:=t) (n:=n) (x:=g) (y:=0) l l (scL g l) (by rw[cn]) (by rw[cn]) (λk=>by rw[bG];simp);rw[this];simp
theorem ue(t n:Int):∀(k:Nat) (l:List Int),hv t n (l++List.replicate k 0)=n^k*hv t n l
 |k,[]=>by
  rw[List.nil_append,uj,HL]
  induction k with
  |zero=>rfl
  |succ k ih=>rw[IP,dQ,ih];simp
 |k,v::l=>by
  rw[Js,dQ,ue t n k l,dQ];have:(l++List.replicate k (0:Int)).length+1=l.length+1+k:=by simp;omega
  rw[this,Int.pow_add];generalize n^(l.length+1)=p;generalize n^k=q;grind
theorem DS(l:List Int)(k j:Nat):cf (l++List.replicate k 0) j=cf l j:=by
 by_cases h:j<l.length
 ·rw[vk h]
 ·rw[ol (by omega),iR,aR (by omega)]
theorem jP(t n:Int){b:List Int}(hb:b≠[]):∀{a:List Int},a≠[]->n*hv t n (ae a b)=hv t n a*hv t n b
 | [x],_=>by
  have e:ae [x] b=scL x b:=by
   apply dU
   ·rw[bO (by simp) hb,cn];simp
   ·intro k _;rw[aB,eH,bG]
  rw[e,uf,ui];grind
 |x::y::a,_=>by
  have ih:=jP t n hb (a:=y::a) (by simp);have lm:(ae (x::y::a) b).length=(y::a).length+b.length:=by rw[bO (by simp) hb,Ie];omega
  have lm2:(ae (y::a) b).length+1=(y::a).length+b.length:=by rw[bO (by simp) hb];have:=Hw.mpr hb;rw[Ie];omega
  have e:=nr (t:=t) (n:=n) (x:=x) (y:=1) (b++List.replicate (y::a).length 0) (0::ae (y::a) b) (ae (x::y::a) b) (by rw[lm,Hv,IK];omega) (by rw[lm,Ie,lm2])
   (λk=>by rw[aB,cW,DS,iQ];rw[HV];congr 1;unfold up;split<;>first |rfl |rw[aB])
  rw[e,ue,dQ (v:=0),dQ (v:=x)];have:n*(x*(n^(y::a).length*hv t n b)+1*(0*n^((ae (y::a) b).length+1)+t*hv t n (ae (y::a) b)))=x*(n^(y::a).length*n)*hv t n b+t*(n*hv t n (ae (y::a) b)):=by grind
  rw[this,ih,<- Iy];grind
noncomputable def pr(t n:Int):List (List Int)->Int
 | []=>1
 |s::ss=>hv t n s*pr t n ss
noncomputable def sl:List (List Int)->Nat
 | []=>0
 |s::ss=>s.length+sl ss
theorem sQ{a b:List Int}(ha:a≠[])(hb:b≠[]):ae a b≠[]:=λz=>by have:=bO ha hb;rw[z]at this;have h1:=Hw.mpr ha;have h2:=Hw.mpr hb;rw[List.length_nil]at this;omega
noncomputable def c9(acc:List Int)(ss:List (List Int)):List Int:=ss.foldl ae acc
theorem rP:∀(ss:List (List Int)) (acc:List Int),acc≠[]->Tr acc->(∀s∈ss,s≠[]/\Tr s)->c9 acc ss≠[]/\Tr (c9 acc ss)/\(c9 acc ss).length+ss.length=acc.length+sl ss
 | [],acc,h1,h2,_=>⟨h1,h2,by simp[c9,sl]⟩
 |s::ss,acc,h1,h2,h3=>by have hs:=h3 s (HE ..);obtain⟨a,b,c⟩:=rP ss (ae acc s) (sQ h1 hs.1) (d7 h2 hs.2) (λx hx=>h3 x (HC _ hx));refine⟨a,b,?_⟩;have l:=bO h1 hs.1;have p1:=Hw.mpr h1;have p2:=Hw.mpr hs.1;show(c9 (ae acc s) ss).length+(ss.length+1)=acc.length+(s.length+sl ss);omega
theorem uh(t n:Int):∀(ss:List (List Int)) (acc:List Int),acc≠[]->(∀s∈ss,s≠[])->n^ss.length*hv t n (c9 acc ss)=hv t n acc*pr t n ss
 | [],acc,_,_=>by show n^0*hv t n acc=hv t n acc*1;simp
 |s::ss,acc,h1,h3=>by have hs:=h3 s (HE ..);have ih:=uh t n ss (ae acc s) (sQ h1 hs) (λx hx=>h3 x (HC _ hx));have e:=jP t n hs h1;show n^(ss.length+1)*hv t n (c9 (ae acc s) ss)=hv t n acc*(hv t n s*pr t n ss);rw[Iy,Im _ n,ID,ih,<- ID,e,ID]
theorem jb{r:List Int}(h:Tr r):bj [] r=scL (-1) r:=by
 refine fu (bP _) (ic (by decide) h) λk=>?_
 unfold bj;rw[dX,fQ,bG,ca];omega
theorem uR{a b:List Int}(hb:b≠[])(hbt:Tr b):0<aO a b:=by
 have h:=iO (a:=a) hb hbt
 have h2:0<=aO a b:=by
  unfold aO;generalize br a b=n
  induction n with
  |zero=>rw[Int.pow_zero];decide
  |succ n ih=>rw[Iy];exact IE ih (Jl _)
 omega
structure Chn(r:List (List Int)):Prop where
 step:∀k,k+2<r.length->r.getD (k+2) []=nxt (r.getD k []) (r.getD (k+1) [])
 last:∀k,k+2=r.length->nxt (r.getD k []) (r.getD (k+1) [])=[]
 ne:∀xs∈r,xs≠[]
theorem x6{n:Nat}{one:List Int}(h:one≠[])(hn:0<n):aN n one []=[one]:=by obtain⟨m,rfl⟩:∃m,n=m+1:=⟨n-1,by omega⟩;show(if one=[]then[]else one::aN m [] (nxt one []))=_;rw[if_neg h,gA]
noncomputable def Ends:Nat->List Int->List Int->Prop
 |0,one,_=>one=[]
 |n+1,one,other=>one=[]\/Ends n other (nxt one other)
theorem rg:∀(n:Nat) (one other:List Int),Ends n one other->Chn (aN n one other)/\(one≠[]->(aN n one other).getD 0 []=one/\0<(aN n one other).length/\(other≠[]->(aN n one other).getD 1 []=other/\1<(aN n one other).length)/\(other=[]->(aN n one other).length=1))
 |0,one,other,h=>by have h':one=[]:=h;subst h';exact⟨⟨λk hk=>by simp[aN]at hk,λk hk=>by simp[aN]at hk,λxs hx=>by simp[aN]at hx⟩,λz=>absurd rfl z⟩
 |n+1,one,other,h=>by
  by_cases h0:one=[]
  ·subst h0;rw[gA];exact⟨⟨λk hk=>by simp at hk,λk hk=>by simp at hk,λxs hx=>by simp at hx⟩,λz=>absurd rfl z⟩
  ·have hE:=(show one=[]\/Ends n other (nxt one other)from h).resolve_left h0;obtain⟨⟨c1,c2,c3⟩,c4⟩:=rg n other (nxt one other) hE
   have e:aN (n+1) one other=one::aN n other (nxt one other):=by show(if one=[]then[]else one::aN n other (nxt one other))=_;rw[if_neg h0]
   rw[e];by_cases ho:other=[]
   ·subst ho;rw[gA];exact⟨⟨λk hk=>by simp at hk,λk hk=>by simp at hk,λxs hx=>by rw[Hx.mp hx];exact h0⟩,λ_=>⟨rfl,by simp,λz=>absurd rfl z,λ_=>rfl⟩⟩
   ·obtain⟨d1,d2,d3,d4⟩:=c4 ho;generalize aN n other (nxt one other)=r at c1 c2 c3 d1 d2 d3 d4
    refine⟨⟨λk hk=>?_,λk hk=>?_,λxs hx=>?_⟩,λ_=>⟨rfl,by simp,λ_=>⟨d1,by simpa using d2⟩,λz=>absurd z ho⟩⟩
    ·rw[Ie]at hk;cases k with
     |zero =>
      have hx:nxt one other≠[]:=λz=>by have:=d4 z;omega
      show r.getD 1 []=nxt one (r.getD 0 []);rw[d1,(d3 hx).1]
     |succ j =>show r.getD (j+2) []=nxt (r.getD j []) (r.getD (j+1) []);exact c1 j (by omega)
    ·rw[Ie]at hk;cases k with
     |zero =>
      show nxt one (r.getD 0 [])=[];rw[d1];refine Classical.byContradiction λhx=>?_
      have:=(d3 hx).2;omega
     |succ j =>show nxt (r.getD j []) (r.getD (j+1) [])=[];exact c2 j (by omega)
    ·rcases HI.mp hx with rfl |hx
     ·exact h0
     ·exact c3 xs hx
noncomputable def gr(B:Nat):Nat->Nat
 |0=>B
 |1=>2*B
 |k+2=>2*gr B (k+1)+gr B k
theorem Ct(B:Nat):∀k,gr B k<=gr B (k+1)
 |0=>by show B<=2*B;omega
 |k+1=>by show gr B (k+1)<=2*gr B (k+1)+gr B k;omega
theorem gQ(B:Nat){j k:Nat}(h:j<=k):gr B j<=gr B k:=by
 induction h with
 |refl=>exact Ht _
 |step _ ih=>exact HH ih (Ct B _)
theorem ul(B j:Nat):∀d,gr B j+(d+2)*gr B (j+1)<=gr B (j+2+d)
 |0=>by show gr B j+2*gr B (j+1)<=2*gr B (j+1)+gr B j;omega
 |d+1=>by
  have ih:=ul B j d
  have e:gr B (j+2+(d+1))=2*gr B (j+2+d)+gr B (j+1+d):=by
   have:j+2+(d+1)=(j+1+d)+2:=by omega
   rw[this];show 2*gr B (j+1+d+1)+gr B (j+1+d)=_;have e2:j+1+d+1=j+2+d:=by omega
   rw[e2]
  have hm:gr B (j+1)<=gr B (j+1+d):=gQ B (by omega);rw[e,Nat.add_mul]at *;have e3:(d+1)*gr B (j+1)=d*gr B (j+1)+gr B (j+1):=by rw[Nat.add_mul,Nat.one_mul]
  omega
theorem fF(a:List Int):ae [] a=[]:=by unfold ae;rw[if_pos (.inl rfl)]
theorem fE(a:List Int):ae a []=[]:=by unfold ae;rw[if_pos (.inr rfl)]
theorem fG(a b:List Int):ae a b=ae b a:=by
 by_cases ha:a=[]
 ·rw[ha,fF,fE]
 by_cases hb:b=[]
 ·rw[hb,fF,fE]
 refine dU ?_ λk _=>?_
 ·rw[bO ha hb,bO hb ha];omega
 ·rw[aB,aB,fe]
theorem gN{a b:List Int}(ha:a≠[])(hb:b≠[]):ae a b≠[]:=λz=>by have:=bO ha hb;rw[z,List.length_nil]at this;have:=Hw.mpr ha;have:=Hw.mpr hb;omega
theorem dO(a b c:List Int):ae (ae a b) c=ae a (ae b c):=by
 by_cases ha:a=[]
 ·rw[ha,fF,fF,fF]
 by_cases hb:b=[]
 ·rw[hb,fF,fE,fF]
 by_cases hc:c=[]
 ·rw[hc,fE,fE,fE]
 have h1:=gN ha hb;have h2:=gN hb hc;refine dU ?_ λk _=>?_
 ·have:=Hw.mpr hb;rw[bO h1 hc,bO ha h2,bO ha hb,bO hb hc];obtain⟨y,ey⟩:=Nat.exists_eq_succ_of_ne_zero (Nat.ne_of_gt this);rw[ey,Nat.succ_add,Nat.add_succ,Nat.succ_sub_one,Nat.succ_sub_one,Nat.add_assoc]
 ·rw[aB,aB,gM]
instance:Std.Commutative ae:=⟨fG⟩
instance:Std.Associative ae:=⟨dO⟩
theorem ff(a:List Int):ae [1] a=a:=by
 by_cases ha:a=[]
 ·rw[ha,fE]
 refine dU ?_ λk _=>?_
 ·rw[bO (by simp) ha];simp
 ·rw[aB,eH];omega
theorem fH(a:List Int):ae a [1]=a:=by rw[fG,ff]
theorem pln_one:Pln [1]:=⟨tr_snoc (r:=[]).mpr (by decide),by simp,by decide,by decide⟩
theorem rY{a:List Int}(h:Pln a):1<=a.length:=Hw.mpr h.ne
def Sim(a b:List Int):Prop:=∃x y:Int,x≠0/\y≠0/\∀n,x*cf a n=y*cf b n
theorem Sim.refl(a:List Int):Sim a a:=⟨1,1,by decide,by decide,λ_=>rfl⟩
theorem Sim.dv{a b d:List Int}(h:Sim a b)(hd:Dv d b):Dv d a:=by obtain⟨x,y,hx,hy,e⟩:=h;exact Dv.prop_right hx e hd
theorem Sim.symm{a b:List Int}(h:Sim a b):Sim b a:=by obtain⟨x,y,hx,hy,e⟩:=h;exact⟨y,x,hy,hx,λn=>(e n).symm⟩
theorem Dv.cancel{d a b:List Int}(hd:d≠[])(ht:Tr d)(h:Dv (ae d a) (ae d b)):Dv a b:=by
 obtain⟨c,q,hc,e⟩:=h
 have key:∀k,cf (dD (-1) (scL c b) (ae q a)) k=0:=by
  refine sI hd ht λn _=>?_
  rw[dB (a:=b) (b:=ae q a) (x:=c) (y := -1) (λk=>by rw[fQ,bG])]
  have e1:aq (ae q a) d n=aq q (ae d a) n:=by
   rw[<- aB,<- aB]
   congr 1
   rw[dO,fG a d]
  have e2:=e n;rw[aB,fe]at e2;rw[e1,<- e2];omega
 refine⟨c,q,hc,λn=>?_⟩;have:=key n;rw[fQ,bG,aB]at this;omega
noncomputable def prd(ss:List (List Int)):List Int:=ss.foldr ae [1]
theorem uv:∀(ss:List (List Int)) (acc:List Int),ss.foldl ae acc=ae acc (prd ss)
 | [],acc=>(fH acc).symm
 |s::ss,acc=>by show ss.foldl ae (ae acc s)=ae acc (ae s (prd ss));rw[uv ss,dO]
theorem jE:∀(ss:List (List Int)),(∀s∈ss,Pln s)->Pln (prd ss)
 | [],_=>pln_one
 |s::ss,h=>(h s (HE ..)).mul (jE ss λx hx=>h x (HC _ hx))
structure Pri(s:List Int):Prop where
 pln:Pln s
 two:2<=s.length
 or:∀a b,Dv s (ae a b)->Dv s a\/Dv s b
theorem Pri.not_one{s:List Int}(h:Pri s):¬Dv s [1]:=λz=>by have:=Dv.short h.pln.ne h.pln.tr pln_one.tr (by have:=h.two;show 1<s.length;omega) z;exact absurd this (by simp)
theorem Pri.prd{s:List Int}(h:Pri s):∀ss:List (List Int),Dv s (prd ss)->∃t∈ss,Dv s t
 | [],hd=>absurd hd h.not_one
 |t::ss,hd=>by
  rcases h.or t (RM.prd ss) hd with z |z
  ·exact⟨t,HE ..,z⟩
  ·obtain⟨t',ht,z'⟩:=Pri.prd h ss z;exact⟨t',HC _ ht,z'⟩
theorem Pri.same{s t:List Int}(hs:Pri s)(ht:Pri t)(h:Dv s t):s=t:=by
 obtain⟨q,hq,e⟩:=h.fellow hs.pln ht.pln.tr ht.pln.ne;rw[ht.pln.plain]at e;have l:=bO hq.ne hs.pln.ne;rw[e]at l;have:=hs.two;have:=rY hq;rcases ht.or q s (e ▸ Dv.refl _)with z |z
 ·exact absurd (Dv.short ht.pln.ne ht.pln.tr hq.tr (by omega) z) hq.ne
 ·exact rX hs.pln ht.pln h z
theorem uN:∀(ps:List (List Int)) {E:List Int},(∀p∈ps,Pri p)->Pln E->Dv E (prd ps)->E=[1]\/∃p∈ps,Dv p E
 | [],E,_,hE,h=>by
  refine .inl (hE.const ?_);have:=rY hE;refine Classical.byContradiction λz=>?_
  have:=Dv.short hE.ne hE.tr pln_one.tr (by show 1<E.length;omega) h;exact absurd this (by simp)
 |p::ps,E,hp,hE,h=>by
  obtain⟨c,q,hc,e⟩:=h;have P:=hp p (HE ..)
  have d1:Dv p (ae q E):=Dv.prop_right (x:=1) (y:=c) (by decide) (λn=>by
   show 1*cf (ae q E) n=c*cf (RM.prd (p::ps)) n
   rw[e,aB];omega) (Dv.mul_left p (prd ps))
  rcases P.or q E d1 with z |z
  ·obtain⟨c',q',hc',e'⟩:=z
   have d2:Dv (ae p E) (ae p (prd ps)):=by
    refine⟨c*c',q',HM hc hc',λn=>?_⟩;have e1:=e n;rw[show ae p (prd ps)=RM.prd (p::ps)from rfl]
    have e2:aq (ae q' p) E n=c'*aq q E n:=by have:=dB (a:=q) (b:=[]) (x:=c') (y:=0) (c:=ae q' p) (q:=E) (n:=n) (λk=>by rw[aB,<- e'];simp);rw[this];simp
    rw[<- gM,e2,<- e1,Im c c',ID]
   rcases uN ps (λx hx=>hp x (HC _ hx)) hE (Dv.cancel P.pln.ne P.pln.tr d2)with w |⟨t,ht,w⟩
   ·exact .inl w
   ·exact .inr ⟨t,HC _ ht,w⟩
  ·exact .inr ⟨p,HE ..,z⟩
theorem DL{A B C D L M:List Int}{ps:List (List Int)}(hC:Pln C)(cA:Dv C A)(cB:Dv C B)(call:∀d,Dv d A->Dv d B->Dv d C)(hD:Pln D)(sA:Sim A (ae D L))(sB:Sim B (ae D M))(hps:∀p∈ps,Pri p)(hL:L=prd ps)(hM:∀p∈ps,¬Dv p M):C=D:=by
 have dC:Dv D C:=call D (sA.dv (Dv.mul_left _ _)) (sB.dv (Dv.mul_left _ _));obtain⟨E,hE,e⟩:=dC.fellow hD hC.tr hC.ne;rw[hC.plain,fG]at e;have EL:Dv E L:=Dv.cancel hD.ne hD.tr (by rw[e];exact sA.symm.dv cA);have EM:Dv E M:=Dv.cancel hD.ne hD.tr (by rw[e];exact sB.symm.dv cB);rw[hL]at EL;rcases uN ps hps hE EL with z |⟨p,hp,z⟩
 ·rw[<- e,z,fH]
 ·exact absurd (z.trans EM) (hM p hp)
theorem eO(l:List Int)(n:Nat):cf (slopeL l) n=((n:Int)+1)*cf l (n+1):=by
 unfold slopeL;rw[fO];by_cases h:n<l.length-1
 ·rw[if_pos h]
 ·rw[if_neg h,aR (l:=l) (by omega),HL]
theorem qR(x:Int)(a:List Int)(n:Nat):cf (slopeL (x::a)) n=1*cf a n+1*cf (0::slopeL a) n:=by
 rw[eO,og,iQ];cases n with
 |zero=>show(((0:Nat):Int)+1)*cf a 0=1*cf a 0+1*0;omega
 |succ n =>
  show(((n+1:Nat):Int)+1)*cf a (n+1)=1*cf a (n+1)+1*cf (slopeL a) n;rw[eO];have:((n+1:Nat):Int)=(n:Int)+1:=by omega
  rw[this,Int.add_mul];omega
theorem kz:∀(a b:List Int) (n:Nat),cf (slopeL (ae a b)) n=aq (slopeL a) b n+aq a (slopeL b) n
 | [],b,n=>by rw[fF];show cf (slopeL []) n=aq (slopeL []) b n+aq [] (slopeL b) n;have:slopeL []=[]:=rfl;rw[this,ca,dA,dA];omega
 |x::a,b,n=>by
  rw[eO,aB,cW,dB (q:=b) (qR x a),sJ,cW,eO];show((n:Int)+1)*(x*cf b (n+1)+aq a b n)=_;cases n with
  |zero =>show(((0:Nat):Int)+1)*(x*cf b 1+aq a b 0)=1*aq a b 0+1*0+(x*((((0:Nat):Int)+1)*cf b 1)+0);simp;omega
  |succ n =>
   have ih:=kz a b n;rw[eO,aB]at ih;show(((n+1:Nat):Int)+1)*(x*cf b (n+1+1)+aq a b (n+1))=1*aq a b (n+1)+1*aq (slopeL a) b n+(x*((((n+1:Nat):Int)+1)*cf b (n+1+1))+aq a (slopeL b) n);have:((n+1:Nat):Int)=(n:Int)+1:=by omega
   rw[this];generalize aq a b (n+1)=z at *
   generalize aq (slopeL a) b n=z1 at *
   generalize aq a (slopeL b) n=z2 at *
   generalize cf b (n+1+1)=z3 at *
   generalize (n:Int)=m at *
   grind
noncomputable def pw(s:List Int):Nat->List Int
 |0=>[1]
 |n+1=>ae s (pw s n)
theorem jD(s:List Int):pw s 1=s:=fH s
theorem rJ(s:List Int):∀a b,ae (pw s a) (pw s b)=pw s (a+b)
 |0,b=>by rw[Nat.zero_add];exact ff _
 |a+1,b=>by rw[show a+1+b=a+b+1 by omega];show ae (ae s (pw s a)) (pw s b)=ae s (pw s (a+b));rw[dO,rJ s a b]
theorem rH{s:List Int}(h:Pln s):∀n,Pln (pw s n)
 |0=>pln_one
 |n+1=>h.mul (rH h n)
theorem qP(s:List Int):∀(k n:Nat),cf (slopeL (pw s (k+1))) n=((k:Int)+1)*aq (slopeL s) (pw s k) n
 |0,n=>by rw[jD];show _=(((0:Nat):Int)+1)*aq (slopeL s) [1] n;rw[fe,eH];omega
 |k+1,n=>by
  show cf (slopeL (ae s (pw s (k+1)))) n=_;rw[kz];have e:aq s (slopeL (pw s (k+1))) n=((k:Int)+1)*aq s (ae (slopeL s) (pw s k)) n:=iA λj=>by rw[qP s k j,aB]
  have e2:aq s (ae (slopeL s) (pw s k)) n=aq (slopeL s) (pw s (k+1)) n:=by
   show _=aq (slopeL s) (ae s (pw s k)) n;rw[<- aB,<- aB]
   congr 1
   ac_rfl
  rw[e,e2];have:((k+1:Nat):Int)=(k:Int)+1:=by omega
  rw[this,Int.add_mul ((k:Int)+1) 1];omega
noncomputable def fP(g:Nat->Nat)(us:List (List Int×Nat)):List Int:=us.foldr (λp acc=>ae (pw p.1 (g p.2)) acc) [1]
theorem de(g:Nat->Nat)(p:List Int×Nat)(us:List (List Int×Nat)):fP g (p::us)=ae (pw p.1 (g p.2)) (fP g us):=rfl
theorem nH(g h:Nat->Nat):∀us,ae (fP g us) (fP h us)=fP (λm=>g m+h m) us
 | []=>ff _
 |p::us=>by
  rw[de,de,de,<- nH g h us,<- rJ]
  ac_rfl
theorem gU{g h:Nat->Nat}:∀us:List (List Int×Nat),(∀p∈us,g p.2=h p.2)->fP g us=fP h us
 | [],_=>rfl
 |p::us,H=>by rw[de,de,H p (HE ..),gU us λx hx=>H x (HC _ hx)]
theorem nG{g:Nat->Nat}:∀us:List (List Int×Nat),(∀p∈us,Pri p.1)->Pln (fP g us)
 | [],_=>pln_one
 |p::us,h=>(rH (h p (HE ..)).pln _).mul (nG us λx hx=>h x (HC _ hx))
theorem uC(c:Nat->Bool):∀us:List (List Int×Nat),fP (λm=>if c m then 1 else 0) us=prd ((us.filter λp=>c p.2).map (·.1))
 | []=>rfl
 |p::us=>by
  rw[de,uC c us,List.filter_cons];cases h:c p.2 with
  |true =>simp only[if_true,Is];rw[jD];rfl
  |false =>simp only[Bool.false_eq_true,if_false];exact ff _
theorem nI{g:Nat->Nat}:∀(us:List (List Int×Nat)) {p:List Int×Nat},p∈us->0<g p.2->Dv p.1 (fP g us)
 |q::us,p,hp,h0=>by
  rw[de];rcases HI.mp hp with rfl |hp
  ·obtain⟨k,hk⟩:∃k,g p.2=k+1:=⟨g p.2-1,by omega⟩;rw[hk];show Dv p.1 (ae (ae p.1 (pw p.1 k)) _);rw[dO];exact Dv.mul_left _ _
  ·exact(nI us hp h0).trans (Dv.mul_right _ _)
theorem Pri.pw{s t:List Int}(h:Pri s):∀n,Dv s (pw t n)->0<n/\Dv s t
 |0,hd=>absurd hd h.not_one
 |n+1,hd=>by
  refine⟨by omega,?_⟩;rcases h.or t (RM.pw t n) hd with z |z
  ·exact z
  ·exact(Pri.pw h n z).2
theorem Pri.fP{s:List Int}(h:Pri s){g:Nat->Nat}:∀us:List (List Int×Nat),Dv s (fP g us)->∃p∈us,0<g p.2/\Dv s p.1
 | [],hd=>absurd hd h.not_one
 |p::us,hd=>by
  rcases h.or (RM.pw p.1 (g p.2)) (RM.fP g us) hd with z |z
  ·exact⟨p,HE ..,(h.pw _ z)⟩
  ·obtain⟨q,hq,z'⟩:=Pri.fP h us z;exact⟨q,HC _ hq,z'⟩
structure Use(us:List (List Int×Nat)):Prop where
 pri:∀p∈us,Pri p.1
 pos:∀p∈us,1<=p.2
 nd:(us.map (·.1)).Nodup
theorem Use.tail{p:List Int×Nat}{us:List (List Int×Nat)}(h:Use (p::us)):Use us :=
 ⟨λx hx=>h.pri x (HC _ hx),λx hx=>h.pos x (HC _ hx),(IZ.mp h.nd).2⟩
theorem Use.head{p q:List Int×Nat}{us:List (List Int×Nat)}(h:Use (p::us))(hq:q∈us):p.1≠q.1:=λz =>(IZ.mp h.nd).1 (Hz.mpr ⟨q,hq,z.symm⟩)
theorem fh(l:List Int):(slopeL l).length=l.length-1:=by unfold slopeL;simp
theorem fA{l:List Int}(h:Tr l):Tr (slopeL l):=λn hn=>by rw[fh]at hn;rw[eO];exact HM (by omega) (h (n+1) (by omega))
theorem qQ:∀us:List (List Int×Nat),Use us->∃M,(∀n,cf (slopeL (fP id us)) n=aq (fP (·-1) us) M n)/\∀q∈us,¬Dv q.1 M
 | [],_=>⟨[],λn=>by
  show cf (slopeL [1]) n=aq [1] [] n
  rw[mH];exact ca n,λ_ h=>nomatch h⟩
 |p::us,h=>by
  obtain⟨M',e',h'⟩:=qQ us h.tail;obtain⟨s,m⟩:=p;have P:Pri s:=h.pri _ (HE ..);obtain⟨k,hk⟩:∃k,m=k+1:=⟨m-1,by have:=h.pos _ (HE ..);simp at this;omega⟩;subst hk
  have eF:fP id us=ae (fP (·-1) us) (fP (λ_=>1) us):=by rw[nH];exact gU us λp hp=>by have:=h.tail.pos p hp;show p.2=p.2-1+1;omega
  have hX:∀n,cf (dD 1 (ae (scL ((k:Int)+1) (slopeL s)) (fP (λ_=>1) us)) (ae s M')) n=1*cf (ae (scL ((k:Int)+1) (slopeL s)) (fP (λ_=>1) us)) n+1*cf (ae s M') n:=λn=>by rw[fQ];omega
  refine⟨dD 1 (ae (scL ((k:Int)+1) (slopeL s)) (fP (λ_=>1) us)) (ae s M'),λn=>?_,λq hq hd=>?_⟩
  ·rw[de,de];show cf (slopeL (ae (pw s (k+1)) (fP id us))) n=aq (ae (pw s k) (fP (·-1) us)) _ n;rw[kz,sK hX]
   have a1:aq (slopeL (pw s (k+1))) (fP id us) n=aq (ae (pw s k) (fP (·-1) us)) (ae (scL ((k:Int)+1) (slopeL s)) (fP (λ_=>1) us)) n:=by
    rw[eF]
    have:aq (slopeL (pw s (k+1))) (ae (fP (·-1) us) (fP (λ_=>1) us)) n=aq (ae (scL ((k:Int)+1) (slopeL s)) (pw s k)) (ae (fP (·-1) us) (fP (λ_=>1) us)) n:=by
     refine jK (λj=>?_) λ_=>rfl
     rw[qP,aB];have:=dB (a:=slopeL s) (b:=[]) (x:=(k:Int)+1) (y:=0) (c:=scL ((k:Int)+1) (slopeL s)) (q:=pw s k) (n:=j) (λi=>by rw[bG];simp);rw[this];simp
    rw[this,<- aB,<- aB]
    congr 1
    ac_rfl
   have a2:aq (pw s (k+1)) (slopeL (fP id us)) n=aq (ae (pw s k) (fP (·-1) us)) (ae s M') n:=by
    rw[jK (a':=pw s (k+1)) (b':=ae (fP (·-1) us) M') (λ_=>rfl) (λj=>by rw[e',aB])];show aq (ae s (pw s k)) _ n=_;rw[<- aB,<- aB]
    congr 1
    ac_rfl
   rw[a1,a2];omega
  ·have hX':∀n,1*cf (dD 1 (ae (scL ((k:Int)+1) (slopeL s)) (fP (λ_=>1) us)) (ae s M')) n=aq M' s n+cf (ae (scL ((k:Int)+1) (slopeL s)) (fP (λ_=>1) us)) n:=λn=>by rw[hX,aB s,fe s];omega
   rcases HI.mp hq with rfl |hq
   ·have d1:=Dv.down hX' hd (Dv.refl _);rcases P.or _ _ d1 with z |z
    ·have t:Tr (scL ((k:Int)+1) (slopeL s)):=ic (by omega) (fA P.pln.tr);have l:(scL ((k:Int)+1) (slopeL s)).length=s.length-1:=by rw[cn,fh]
     have:=P.two;have n:=Dv.short P.pln.ne P.pln.tr t (by omega) z;rw[n]at l;simp at l
     omega
    ·obtain⟨q',hq',_,w⟩:=P.fP us z;exact h.head hq' (P.same (h.tail.pri q' hq') w)
   ·have Q:=h.tail.pri q hq;have d0:Dv q.1 (ae (scL ((k:Int)+1) (slopeL s)) (fP (λ_=>1) us)):=(nI us hq (g:=λ_=>1) (by decide)).trans (Dv.mul_right _ _);have d1:Dv q.1 (ae s M'):=Dv.down (f:=1) (q:=[1]) (λn=>by rw[hX,eH];omega) hd d0;rcases Q.or _ _ d1 with z |z
    ·exact h.head hq (Q.same P z).symm
    ·exact h' q hq z
theorem ye{s a b:List Int}(hs:s≠[])(h:Dv s (ae a b)):Dv s (ae (ao a s) (ao b s)):=by
 have e1:=λn=>fw (a:=a) hs n
 have e2:=λn=>fw (a:=b) hs n
 have d1:Dv s (ae (ao a s) b):=by
  refine Dv.down (f:=aO a s) (q:=ae (aQ a s) b) (b:=s) (λn=>?_) h (Dv.refl _);rw[aB,aB];have l:=dB (a:=ae (aQ a s) s) (b:=ao a s) (x:=1) (y:=1) (c:=scL (aO a s) a) (q:=b) (n:=n) (λk=>by rw[bG,e1,aB];omega);have l2:=dB (a:=a) (b:=[]) (x:=aO a s) (y:=0) (c:=scL (aO a s) a) (q:=b) (n:=n) (λk=>by rw[bG];simp)
  have l3:aq (ae (aQ a s) s) b n=aq (ae (aQ a s) b) s n:=by
   rw[<- aB,<- aB]
   congr 1
   ac_rfl
  rw[l2,l3]at l;rw[dA]at l;omega
 refine Dv.down (f:=aO b s) (q:=ae (ao a s) (aQ b s)) (b:=s) (λn=>?_) d1 (Dv.refl _);rw[aB,aB];have l:=sK (a:=ae (aQ b s) s) (b:=ao b s) (x:=1) (y:=1) (c:=scL (aO b s) b) (q:=ao a s) (n:=n) (λk=>by rw[bG,e2,aB];omega);have l2:=iA (a:=ao a s) (b:=b) (b':=scL (aO b s) b) (c:=aO b s) (n:=n) (λk=>by rw[bG])
 have l3:aq (ao a s) (ae (aQ b s) s) n=aq (ae (ao a s) (aQ b s)) s n:=by
  rw[<- aB,<- aB]
  congr 1
  ac_rfl
 rw[l2,l3]at l;omega
theorem uJ{s a:List Int}(hs:s≠[])(ht:Tr s)(h:ao a s=[]):Dv s a :=
 ⟨aO a s,aQ a s,iO hs ht,λn=>by rw[fw hs,h,ca];omega⟩
noncomputable def aF(u e b:Int):List Int:=if e=0 then[-u,b]else[u*u-e,-2*b*u,b*b]
theorem fS{u e b:Int}(hb:1<=b):Tr (aF u e b)/\2<=(aF u e b).length:=by
 unfold aF;split
 ·exact⟨(tr_snoc (r:=[-u])).mpr (by omega),by show 2<=2;decide⟩
 ·exact⟨(tr_snoc (r:=[u*u-e,-2*b*u])).mpr (HM (by omega) (by omega)),by show 2<=3;decide⟩
theorem sC{n e:Int}(hn:0<=n)(h1:n*n<e)(h2:e<(n+1)*(n+1)):∀(k:Nat) (x y:Int),x.toNat<=k->0<x->0<=y->e*(x*x)=y*y->False
 |0,x,y,hk,hx,_,_=>by omega
 |k+1,x,y,hk,hx,hy,h=>by
  have hxx:0<x*x:=HF hx hx
  have a1:n*x<y:=by
   refine Int.not_le.mp λz=>?_
   have:=Je z z hy (Int.le_trans hy z);have:=Jt h1 hxx;have e1:n*x*(n*x)=n*n*(x*x):=by grind
   omega
  have a2:y<(n+1)*x:=by
   refine Int.not_le.mp λz=>?_
   have z0:0<=(n+1)*x:=IE (by omega) (by omega);have:=Je z z z0 hy;have:=Jt h2 hxx;have e1:(n+1)*x*((n+1)*x)=(n+1)*(n+1)*(x*x):=by grind
   omega
  have a3:(n+1)*x=n*x+x:=by rw[Int.add_mul];omega
  refine sC hn h1 h2 k (y-n*x) ((e*x-n*y).natAbs:Int) (by omega) (by omega) (by omega) ?_;rw[Int.natAbs_mul_self' (e*x-n*y)];grind
def NS(e:Int):Prop:=e<=0\/∃n:Int,0<=n/\n*n<e/\e<(n+1)*(n+1)
theorem NS.no{e x y:Int}(h:NS e)(he:e≠0)(hx:x≠0)(eq:x*x*e=y*y):False:=by
 rcases h with h |⟨n,hn,h1,h2⟩
 ·have hxx:0<x*x:=by
   rcases IU hx with z |z
   ·exact Int.mul_pos_of_neg_of_neg z z
   ·exact HF z z
  have:x*x*e<0:=JP hxx (by omega)
  have:0<=y*y:=by
   rcases Int.le_total 0 y with z |z
   ·exact IE z z
   ·exact JN z z
  omega
 ·refine sC hn h1 h2 _ (x.natAbs:Int) (y.natAbs:Int) (Ht _) (by omega) (by omega) ?_;rw[Int.natAbs_mul_self' x,Int.natAbs_mul_self' y,<- eq,Im]
theorem yn{u e b:Int}(hb:1<=b)(he:NS e){p q:List Int}(h:Dv (aF u e b) (ae p q)):Dv (aF u e b) p\/Dv (aF u e b) q:=by
 obtain⟨tr,l2⟩:=fS (u:=u) (e:=e) hb;have hne:aF u e b≠[]:=λz=>by rw[z]at l2;simp at l2
 by_cases hp:ao p (aF u e b)=[]
 ·exact .inl (uJ hne tr hp)
 by_cases hq:ao q (aF u e b)=[]
 ·exact .inr (uJ hne tr hq)
 exfalso;have d:=ye hne h;have t1:=fM p (aF u e b);have t2:=fM q (aF u e b);have n1:=fv (a:=p) hne;have n2:=fv (a:=q) hne;generalize ao p (aF u e b)=r1 at *
 generalize ao q (aF u e b)=r2 at *
 have lm:=bO hp hq;have p1:=Hw.mpr hp;have p2:=Hw.mpr hq;by_cases hs:(ae r1 r2).length<(aF u e b).length
 ·exact gN hp hq (Dv.short hne tr (d7 t1 t2) hs d)
 by_cases h0:e=0
 ·have:(aF u e b).length=2:=by unfold aF;rw[if_pos h0];rfl
  omega
 have er:aF u e b=[u*u-e,-2*b*u,b*b]:=by unfold aF;rw[if_neg h0]
 rw[er]at hs n1 n2 d hne tr;simp only[Ie,List.length_nil]at hs n1 n2
 obtain⟨α,β,rfl⟩:∃α β,r1=[α,β]:=by
  match r1,(show r1.length=2 by omega)with
  | [α,β],_=>exact⟨α,β,rfl⟩
 obtain⟨γ,δ,rfl⟩:∃γ δ,r2=[γ,δ]:=by
  match r2,(show r2.length=2 by omega)with
  | [γ,δ],_=>exact⟨γ,δ,rfl⟩
 have hβ:β≠0:=(tr_snoc (r:=[α])).mp t1;have hδ:δ≠0:=(tr_snoc (r:=[γ])).mp t2
 have em:ae [α,β] [γ,δ]=[α*γ,α*δ+β*γ,β*δ]:=by
  refine dU (by rw[lm];rfl) λk hk=>?_
  rw[lm]at hk;rw[aB];have hk':k<3:=hk;have:k=0\/k=1\/k=2:=by omega
  rcases this with rfl |rfl |rfl
  ·show(0+(α*γ))+0=α*γ;omega
  ·show(0+(α*δ))+(β*γ)=α*δ+β*γ;omega
  ·show(0+α*cf [γ,δ] 2)+(β*δ)=β*δ;have:cf [γ,δ] 2=0:=rfl;rw[this];simp
 rw[em]at d;have hr:=d.rest hne tr;have eqn:=λn=>fw (a:=[α*γ,α*δ+β*γ,β*δ]) hne n
 have hf:=iO (a:=[α*γ,α*δ+β*γ,β*δ]) hne tr;have lq:=iN (a:=[α*γ,α*δ+β*γ,β*δ]) hne;generalize aO [α*γ,α*δ+β*γ,β*δ] [u*u-e,-2*b*u,b*b]=f at *
 generalize aQ [α*γ,α*δ+β*γ,β*δ] [u*u-e,-2*b*u,b*b]=Q at *
 rw[hr]at eqn;have lq':Q.length=1:=lq;obtain⟨κ,rfl⟩:∃κ,Q=[κ]:=Jr.mp lq';have g0:=eqn 0;have g1:=eqn 1;have g2:=eqn 2;rw[eH,ca]at g0 g1 g2
 replace g0:f*(α*γ)=κ*(u*u-e)+0:=g0
 replace g1:f*(α*δ+β*γ)=κ*(-2*b*u)+0:=g1
 replace g2:f*(β*δ)=κ*(b*b)+0:=g2
 have hκ:κ≠0:=λz=>by rw[z,Iq]at g2;exact HM hf (HM hβ hδ) (by omega)
 refine he.no h0 (x:=2*κ*b) (y:=f*(α*δ-β*γ)) (HM (HM (by decide) hκ) (by omega)) ?_;have k1:f*(α*δ-β*γ)*(f*(α*δ-β*γ))=f*(α*δ+β*γ)*(f*(α*δ+β*γ))-4*((f*(α*γ))*(f*(β*δ))):=by grind
 rw[k1,g0,g1,g2];grind
theorem yk{u e b:Int}(hb:1<=b)(he:NS e):Pri (aJ (aF u e b)):=by
 obtain⟨tr,l2⟩:=fS (u:=u) (e:=e) hb;have hne:aF u e b≠[]:=λz=>by rw[z]at l2;simp at l2
 obtain⟨g,hg,eg⟩:=f6 tr;have to:∀p,Dv (aJ (aF u e b)) p->Dv (aF u e b) p:=λp h=>Dv.prop_left (x:=1) (y:=g) (by decide) hg (λn=>by rw[eg];omega) h
 have fr:∀p,Dv (aF u e b) p->Dv (aJ (aF u e b)) p:=λp h=>Dv.prop_left (x:=g) (y:=1) hg (by decide) (λn=>by rw[<- eg];omega) h
 refine⟨fZ tr hne,by rw[plain_len];exact l2,λp q h=>?_⟩;exact(yn hb he (to _ h)).imp (fr _) (fr _)
noncomputable def com(xs ys:List Int):List Int:=cY 20 (aJ xs) (aJ ys)
structure ComOk(xs ys:List Int):Prop where
 pln:xs≠[]\/ys≠[]->Pln (com xs ys)
 left:Dv (com xs ys) xs
 right:Dv (com xs ys) ys
 all:∀d,Dv d xs->Dv d ys->Dv d (com xs ys)
theorem nY{xs ys:List Int}(h2:ys.length<=19)(t1:Tr xs)(t2:Tr ys):ComOk xs ys:=by
 obtain⟨c1,c2,c3,c4,c5,c6⟩:=u9 20 (aJ xs) (aJ ys) (by rw[plain_len];omega) (gt t1) (gt t2);refine⟨λh=>?_,(Dv.plain t1).mp c2,(Dv.plain t2).mp c3,λd a b=>c4 d ((Dv.plain t1).mpr a) ((Dv.plain t2).mpr b)⟩;have hne:com xs ys≠[]:=c5 (h.imp (λz q=>z (Iu.mp (by rw[<- plain_len,q];rfl))) (λz q=>z (Iu.mp (by rw[<- plain_len,q];rfl))))
 obtain⟨l,tl,el⟩:∃l,Tr l/\com xs ys=aJ l:=by
  rcases c6 with e |e |e
  ·exact⟨xs,t1,e⟩
  ·exact⟨ys,t2,e⟩
  ·exact e
 have hl:l≠[]:=λz=>hne (by rw[el,z];rfl)
 rw[el];exact fZ tl hl
theorem DM{A B D L M:List Int}{ps:List (List Int)}(tA:Tr A)(nA:A≠[])(tB:Tr B)(lB:B.length<=19)(hD:Pln D)(sA:Sim A (ae D L))(sB:Sim B (ae D M))(hps:∀p∈ps,Pri p)(hL:L=prd ps)(hM:∀p∈ps,¬Dv p M):com A B=D :=
 have C:=nY lB tA tB
 DL (C.pln (.inl nA)) C.left C.right C.all hD sA sB hps hL hM
noncomputable def eq1(k m:Nat):Nat:=if m=k then 1 else 0
noncomputable def zi(_:Nat):Nat:=1
noncomputable def mor(us:List (List Int×Nat))(k:Nat):List Int:=fP (·-k) us
noncomputable def flt(us:List (List Int×Nat)):List Int:=fP zi us
variable {us:List (List Int×Nat)}
theorem ux:flt us=prd (us.map (·.1)):=by
 have:=uC (λ_=>true) us;have e:us.filter (λp=>(λ_=>true) p.2)=us:=List.filter_eq_self.mpr λ_ _=>rfl
 rw[e]at this;rw[<- this];exact gU us λp _=>rfl
theorem uD(h:Use us)(g:Nat->Nat):Pln (fP g us):=nG us h.pri
noncomputable def whl(c:Int)(us:List (List Int×Nat)):List Int:=ae [c] (fP id us)
theorem ka(c:Int):whl c us=scL c (fP id us):=by
 unfold whl;by_cases h:fP id us=[]
 ·rw[h,fE];rfl
 refine dU ?_ λk _=>?_
 ·rw[bO (by simp) h,cn];simp
 ·rw[aB,eH,bG]
theorem kd(h:Use us){c:Int}(hc:c≠0):Tr (whl c us)/\whl c us≠[]/\aJ (whl c us)=fP id us:=by have pl:=uD h id;rw[ka];refine⟨ic hc pl.tr,λz=>pl.ne (Iu.mp (by rw[<- cn c,z];rfl)),?_⟩;rw[mq hc pl.tr,pl.plain]
theorem wd(h:Use us):ae (mor us 1) (flt us)=fP id us:=by unfold mor flt;rw[nH];exact gU us λp hp=>by have:=h.pos p hp;show p.2-1+1=p.2;omega
theorem o3(h:Use us){c:Int}(hc:c≠0)(hl:(whl c us).length<=20):com (whl c us) (slopeL (whl c us))=mor us 1:=by
 obtain⟨t,n,p⟩:=kd h hc;obtain⟨M,eM,hM⟩:=qQ us h;refine DM (L:=flt us) (M:=M) (ps:=us.map (·.1)) t n (fA t) (by rw[fh];omega) (uD h _) ⟨1,c,by decide,hc,λk=>?_⟩ ⟨1,c,by decide,hc,λk=>?_⟩ (λp hp=>?_) ux (λp hp=>?_)
 ·rw[wd h,ka,bG];omega
 ·rw[aB];have e:=eM k;rw[eO]at e;show 1*cf (slopeL (whl c us)) k=c*aq (fP (·-1) us) M k;rw[<- e,eO,ka,bG];grind
 ·obtain⟨q,hq,rfl⟩:=Hz.mp hp;exact h.pri q hq
 ·obtain⟨q,hq,rfl⟩:=Hz.mp hp;exact hM q hq
noncomputable def dgs(g:Nat->Nat):List (List Int×Nat)->Nat
 | []=>0
 |p::us=>g p.2*(p.1.length-1)+dgs g us
theorem md{s:List Int}(h:s≠[]):∀n,(pw s n).length=1+n*(s.length-1)/\pw s n≠[]
 |0=>⟨by rw[Nat.zero_mul];rfl,by simp[pw]⟩
 |n+1=>by obtain⟨a,b⟩:=md h n;have:=Hw.mpr h;refine⟨?_,gN h b⟩;show(ae s (pw s n)).length=_;rw[bO h b,a,Nat.succ_mul];omega
theorem iL(g:Nat->Nat):∀us:List (List Int×Nat),(∀p∈us,p.1≠[])->(fP g us).length=1+dgs g us/\fP g us≠[]
 | [],_=>⟨rfl,by simp[fP]⟩
 |p::us,H=>by
  obtain⟨a,b⟩:=iL g us λx hx=>H x (HC _ hx)
  obtain⟨c,d⟩:=md (H p (HE ..)) (g p.2);rw[de];refine⟨?_,gN d b⟩;rw[bO d b,a,c];show _=1+(g p.2*_+dgs g us);omega
theorem uE(g:Nat->Nat):∀a b:List (List Int×Nat),fP g (a++b)=ae (fP g a) (fP g b)
 | [],b=>(ff _).symm
 |p::a,b=>by rw[Js,de,de,uE g a b,dO]
theorem jV(g:Nat->Nat)(a:List (List Int×Nat))(p:List Int×Nat):fP g (a++[p])=ae (fP g a) (pw p.1 (g p.2)):=by rw[uE];show ae _ (ae _ [1])=_;rw[fH]
noncomputable def bD(sq due:Int):Int:=if due<0\/due*due<sq then 1 else 0-(if sq<due*due then 1 else 0)
noncomputable def bo(l:List Int)(t n:Int):Int:=if 0<cf l 3 then bD (cf l 1*n*n) (cf l 2*t-cf l 0*n)else 0-bD (cf l 1*n*n) (0-(cf l 2*t-cf l 0*n))
theorem b5(sq d:Int):(bD sq d=1/\(d<0\/d*d<sq))\/(bD sq d=0/\0<=d/\d*d=sq)\/(bD sq d = -1/\0<=d/\sq<d*d):=by
 unfold bD;by_cases h:d<0\/d*d<sq
 ·rw[if_pos h];exact .inl ⟨rfl,h⟩
 ·rw[if_neg h];by_cases h2:sq<d*d
  ·rw[if_pos h2];exact .inr (.inr ⟨rfl,by omega,h2⟩)
  ·rw[if_neg h2];exact .inr (.inl ⟨rfl,by omega,by omega⟩)
structure Spt(l:List Int):Prop where
 is:∃u e b s:Int,l=[u,e,b,s]/\0<=e/\1<=b/\(s=1\/s = -1)
theorem ig{x y:Int}(hx:0<=x)(h:x<=y):x*x<=y*y:=Je h h hx (by omega)
theorem kn{x y:Int}(hx:0<=x)(h:x<y):x*x<y*y:=by have h1:x*x<=x*y:=JQ (HD h) hx;have h2:x*y<y*y:=Jt h (by omega);omega
theorem Bh{x y:Int}(hy:0<=y)(h:x*x<y*y):x<y:=Int.not_le.mp λz=>by have:=ig hy z;omega
theorem Br{x y:Int}(hy:0<=y)(h:x*x<=y*y):x<=y:=Int.not_lt.mp λz=>by have:=kn hy z;omega
theorem pM{g sq d:Int}(hg:0<g):bD (sq*(g*g)) (g*d)=bD sq d:=by
 have hgg:0<g*g:=HF hg hg;have e1:g*d*(g*d)=d*d*(g*g):=by grind
 have e2:(g*d<0)↔d<0:=by
  constructor
  ·intro h;refine Int.not_le.mp λz=>?_
   have:=IE (HD hg) z;omega
  ·intro h;exact JP hg h
 have e3:∀x y:Int,(x*(g*g)<y*(g*g))↔x<y:=λx y=>⟨λh=>Ju h (HD hgg),λh=>Jt h hgg⟩
 unfold bD;rw[e1];simp only[e2,e3]
theorem kA{g t n:Int}(l:List Int)(hg:0<g):bo l (g*t) (g*n)=bo l t n:=by
 have e1:cf l 1*(g*n)*(g*n)=cf l 1*n*n*(g*g):=by grind
 have e2:cf l 2*(g*t)-cf l 0*(g*n)=g*(cf l 2*t-cf l 0*n):=by grind
 have e3:0-g*(cf l 2*t-cf l 0*n)=g*(0-(cf l 2*t-cf l 0*n)):=by grind
 unfold bo;rw[e1,e2,e3,pM hg,pM hg]
theorem xc{t n t' n':Int}(l:List Int)(hn:0<n)(hn':0<n')(e:t*n'=t'*n):bo l t n=bo l t' n':=by
 rw[<- kA (g:=n') l hn',<- kA (g:=n) (t:=t') l hn];have e1:n'*t=n*t':=by rw[Im,e,Im]
 rw[e1,Im n' n]
theorem qT(l:List Int)(t n:Int):bo l t n=1\/bo l t n=0\/bo l t n = -1:=by
 unfold bo;split
 ·rcases b5 (cf l 1*n*n) (cf l 2*t-cf l 0*n)with h |h |h<;>omega
 ·rcases b5 (cf l 1*n*n) (0-(cf l 2*t-cf l 0*n))with h |h |h<;>omega
theorem w9{l:List Int}(hl:Spt l){t n t' n':Int}(hn:0<n)(hn':0<n')(h:t*n'<t'*n)(hs:bo l t n<=0):bo l t' n' = -1:=by
 obtain⟨u,e,b,s,rfl,he,hb,hs1⟩:=hl
 have hlt:(b*t-u*n)*n'<(b*t'-u*n')*n:=by
  have h1:b*(t*n')<b*(t'*n):=Int.mul_lt_mul_of_pos_left h (by omega);have e1:(b*t-u*n)*n'=b*(t*n')-u*n*n':=by grind
  have e2:(b*t'-u*n')*n=b*(t'*n)-u*n*n':=by grind
  omega
 have hnn:0<n*n:=HF hn hn;have hnn':0<n'*n':=HF hn' hn';rcases hs1 with rfl |rfl
 ·have z0:(0:Int)<1:=by decide
  have hs:bD (e*n*n) (b*t-u*n)<=0:=hs;show bD (e*n'*n') (b*t'-u*n') = -1;generalize b*t-u*n=a at *
  generalize b*t'-u*n'=a' at *
  have k1:0<=a/\e*n*n<=a*a:=by rcases b5 (e*n*n) a with h |h |h<;>omega
  have k2:0<=a*n':=IE k1.1 (HD hn');have k3:0<a':=Ju (a:=n) (by omega) (HD hn);have k4:=kn k2 hlt;have k5:e*n*n*(n'*n')<=a*a*(n'*n'):=Iz k1.2 (HD hnn')
  have k6:e*n'*n'*(n*n)<a'*a'*(n*n):=by
   have e1:e*n'*n'*(n*n)=e*n*n*(n'*n'):=by grind
   have e2:a'*a'*(n*n)=a'*n*(a'*n):=by grind
   have e3:a*a*(n'*n')=a*n'*(a*n'):=by grind
   omega
  have k7:=Ju k6 (HD hnn);rcases b5 (e*n'*n') a' with h |h |h<;>omega
 ·have hs:0-bD (e*n*n) (0-(b*t-u*n))<=0:=hs;show 0-bD (e*n'*n') (0-(b*t'-u*n')) = -1;generalize ha:0-(b*t-u*n)=a at *
  generalize ha':0-(b*t'-u*n')=a' at *
  have hlt':a'*n<a*n':=by
   have e1:a'*n = -((b*t'-u*n')*n):=by rw[<- ha'];grind
   have e2:a*n' = -((b*t-u*n)*n'):=by rw[<- ha];grind
   omega
  have k1:a<0\/a*a<=e*n*n:=by rcases b5 (e*n*n) a with h |h |h<;>omega
  have k2:a'<0\/a'*a'<e*n'*n':=by
   by_cases z:a'<0
   ·exact .inl z
   right;have p1:0<=a'*n:=IE (by omega) (HD hn);have p2:0<a:=Ju (a:=n') (by omega) (HD hn');have p3:=kn p1 hlt';have k5:a*a*(n'*n')<=e*n*n*(n'*n'):=Iz (by omega) (HD hnn')
   have k6:a'*a'*(n*n)<e*n'*n'*(n*n):=by
    have e1:e*n'*n'*(n*n)=e*n*n*(n'*n'):=by grind
    have e2:a'*a'*(n*n)=a'*n*(a'*n):=by grind
    have e3:a*a*(n'*n')=a*n'*(a*n'):=by grind
    omega
   exact Ju k6 (HD hnn)
  rcases b5 (e*n'*n') a' with h |h |h<;>omega
noncomputable def spF(f:List Int):List (List Int):=(if 0<=cf f 1 then[[cf f 0,cf f 1,cf f 2,1]]else[])++(if 0<cf f 1 then[[cf f 0,cf f 1,cf f 2,-1]]else[])
noncomputable def spots(fs:List (List Int)):List (List Int):=fs.flatMap spF
noncomputable def spr(t n:Int):List (List Int)->Int
 | []=>1
 |l::ls => -bo l t n*spr t n ls
theorem pU(t n:Int):∀a b,spr t n (a++b)=spr t n a*spr t n b
 | [],b=>by show _=1*_;rw[HV];rfl
 |x::a,b=>by show _*spr t n (a++b)=_*_*_;rw[pU t n a b,ID]
theorem fT{f l:List Int}{u e b:Int}(hf:f=[u,e,b])(hb:1<=b)(h:l∈spF f):Spt l/\∃s,l=[u,e,b,s]/\0<=e/\(s=1\/s = -1/\0<e):=by
 subst hf;have hd:spF [u,e,b]=(if 0<=e then[[u,e,b,1]]else[])++(if 0<e then[[u,e,b,-1]]else[]):=rfl;rw[hd]at h;rcases HP.mp h with h |h
 ·by_cases z:0<=e
  ·rw[if_pos z]at h;obtain rfl:=Hx.mp h;exact⟨⟨u,e,b,1,rfl,z,hb,.inl rfl⟩,1,rfl,z,.inl rfl⟩
  ·rw[if_neg z]at h;cases h
 ·by_cases z:0<e
  ·rw[if_pos z]at h;obtain rfl:=Hx.mp h;exact⟨⟨u,e,b,-1,rfl,by omega,hb,.inr rfl⟩,-1,rfl,by omega,.inr ⟨rfl,z⟩⟩
  ·rw[if_neg z]at h;cases h
theorem yj{u e b t n:Int}(hn:0<n):sg (hv t n (aF u e b))=spr t n (spF [u,e,b]):=by
 have hd:spF [u,e,b]=(if 0<=e then[[u,e,b,1]]else[])++(if 0<e then[[u,e,b,-1]]else[]):=rfl;rw[hd];by_cases h0:e=0
 ·subst h0;have er:aF u 0 b=[-u,b]:=by unfold aF;rw[if_pos rfl]
  have ev:hv t n [-u,b]=n*(b*t-u*n):=by show -u*n^2+t*(b*n^1+t*0)=_;grind
  rw[er,ev,fV hn,if_pos (I9 _),if_neg (by omega)];show _ = -bD (0*n*n) (b*t-u*n)*1;generalize b*t-u*n=a;rw[Iq,Iq];have:a<0\/a=0\/0<a:=by omega
  rcases this with h |h |h
  ·have h1:sg a = -1:=by unfold sg;rw[if_pos h]
   rcases b5 0 a with z |z |z<;>omega
  ·subst h;rfl
  ·have h1:sg a=1:=by unfold sg;rw[if_neg (by omega),if_pos h]
   have h2:=HF h h;rcases b5 0 a with z |z |z<;>omega
 ·have er:aF u e b=[u*u-e,-2*b*u,b*b]:=by unfold aF;rw[if_neg h0]
  have ev:hv t n [u*u-e,-2*b*u,b*b]=n*((b*t-u*n)*(b*t-u*n)-e*n*n):=by show(u*u-e)*n^3+t*((-2*b*u)*n^2+t*((b*b)*n^1+t*0))=_;grind
  rw[er,ev,fV hn];by_cases hp:0<=e
  ·rw[if_pos hp,if_pos (by omega)];show _ = -bD (e*n*n) (b*t-u*n)*(-(0-bD (e*n*n) (0-(b*t-u*n)))*1);generalize b*t-u*n=a;have hE:0<e*n*n:=HF (HF (by omega) hn) hn;generalize e*n*n=E at *
   have e1:(0-a)*(0-a)=a*a:=by grind
   have h1:=b5 E a;have h2:=b5 E (0-a);rw[e1]at h2;have az:a=0->a*a=0:=λz=>by rw[z];rfl
   have s3:(a*a<E/\sg (a*a-E) = -1)\/(a*a=E/\sg (a*a-E)=0)\/(E<a*a/\sg (a*a-E)=1):=by unfold sg;split<;>(try split)<;>omega
   generalize a*a=q at *
   rcases h1 with⟨x1,x2⟩ |⟨x1,x2⟩ |⟨x1,x2⟩<;>rcases h2 with⟨y1,y2⟩ |⟨y1,y2⟩ |⟨y1,y2⟩<;>rw[x1,y1]<;>simp<;>omega
  ·rw[if_neg hp,if_neg (by omega)]
   have h1:0<=(b*t-u*n)*(b*t-u*n):=by
    rcases Int.le_total 0 (b*t-u*n)with z |z
    ·exact IE z z
    ·exact JN z z
   have h2:e*n*n<0:=by rw[ID];exact JO (by omega) (HF hn hn)
   show sg _=1;unfold sg;rw[if_neg (by omega),if_pos (by omega)]
noncomputable def aw(f:List Int):List Int:=aJ (aF (cf f 0) (cf f 1) (cf f 2))
theorem gw(x y:Int):sg (x*y)=sg x*sg y:=by
 rcases Int.lt_trichotomy x 0 with hx |hx |hx
 ·have h1:sg x = -1:=by unfold sg;rw[if_pos hx]
  have e:x*y = -((-x)*y):=by grind
  rw[e,kD,fV (by omega),h1];omega
 ·subst hx;rw[Iq];show(0:Int)=0*_;rw[Iq]
 ·have h1:sg x=1:=by unfold sg;rw[if_neg (by omega),if_pos hx]
  rw[fV hx,h1,HV]
theorem yM{l:List Int}(h:Tr l)(hne:l≠[])(hp:0<cp l):∃g:Int,0<g/\l=scL g (aJ l):=by
 obtain⟨g,hg,e⟩:=f6 h
 have e2:l=scL g (aJ l):=by
  apply dU
  ·rw[cn,plain_len]
  ·intro k _;rw[bG,e k]
 have hP:=fZ h hne;refine⟨g,?_,e2⟩;obtain⟨r,x,er⟩:=(c0 l).resolve_left hne;have hx:cp l=cf l r.length:=by rw[er,fj,gZ]
 obtain⟨r',x',er'⟩:=(c0 (aJ l)).resolve_left hP.ne;have hx':cp (aJ l)=cf (aJ l) r'.length:=by rw[er',fj,gZ]
 have hl:r.length=r'.length:=by have:=plain_len l;have h1:=congrArg List.length er;have h2:=congrArg List.length er';simp at h1 h2;omega
 have h3:=e r.length;rw[<- hx,hl,<- hx']at h3;have h4:=hP.pos;rw[h3]at hp;rcases IU hg with z |z
 ·have:=JO z h4;omega
 ·exact z
theorem xi{u e b t n:Int}(hb:1<=b)(hn:0<n):sg (hv t n (aw [u,e,b]))=spr t n (spF [u,e,b]):=by
 obtain⟨tr,l2⟩:=fS (u:=u) (e:=e) hb;have hne:aF u e b≠[]:=λz=>by rw[z]at l2;simp at l2
 have hlast:0<cp (aF u e b):=by
  unfold aF;split
  ·show 0<cp ([-u]++[b]);rw[fj];omega
  ·show 0<cp ([u*u-e,-2*b*u]++[b*b]);rw[fj];exact HF (by omega) (by omega)
 obtain⟨g,hg,eg⟩:=yM tr hne hlast;rw[<- yj hn];show sg (hv t n (aJ (aF u e b)))=_
 have e3:hv t n (aF u e b)=g*hv t n (aJ (aF u e b)):=by
  calc hv t n (aF u e b)=hv t n (scL g (aJ (aF u e b))):=by rw[<- eg]
   _=_:=uf _ _ _ _
 rw[e3,fV hg]
def gk(f:List Int):Prop:=∃u e b:Int,f=[u,e,b]/\1<=b
theorem rR{t n:Int}(hn:0<n):∀(fs:List (List Int)),(∀f∈fs,gk f)->sg (pr t n (fs.map aw))=spr t n (spots fs)
 | [],_=>rfl
 |f::fs,h=>by
  obtain⟨u,e,b,rfl,hb⟩:=h f (HE ..);have ih:=rR (t:=t) hn fs λx hx=>h x (HC _ hx)
  have e1:spots ([u,e,b]::fs)=spF [u,e,b]++spots fs:=by unfold spots;rw[List.flatMap_cons]
  show sg (hv t n (aw [u,e,b])*pr t n (fs.map aw))=_;rw[gw,xi hb hn,ih,e1,pU]
theorem xk{f:List Int}(h:gk f):aw f≠[]/\Tr (aw f):=by obtain⟨u,e,b,rfl,hb⟩:=h;obtain⟨tr,l2⟩:=fS (u:=u) (e:=e) hb;refine⟨λz=>?_,gt tr⟩;have:=plain_len (aF u e b);have z':aJ (aF u e b)=[]:=z;rw[z']at this;simp at this;omega
theorem rN{t n c:Int}(hn:0<n){fs:List (List Int)}(h:∀f∈fs,gk f):sg (hv t n (ae [c] (c9 [1] (fs.map aw))))=sg c*spr t n (spots fs):=by
 have hs:∀s∈fs.map aw,s≠[]/\Tr s:=λs hs=>by obtain⟨x,hx,rfl⟩:=Hz.mp hs;exact xk (h x hx)
 obtain⟨p1,p2,p3⟩:=rP (fs.map aw) [1] (by simp) ((tr_snoc (r:=[])).mpr (by decide)) hs;have e1:=jP t n (a:=[c]) (b:=c9 [1] (fs.map aw)) p1 (by simp);have e2:=uh t n (fs.map aw) [1] (by simp) λs h=>(hs s h).1
 rw[ui]at e1 e2;rw[<- rR hn fs h]
 have e3:hv t n (ae [c] (c9 [1] (fs.map aw)))=c*hv t n (c9 [1] (fs.map aw)):=by refine Jv (I0 hn) ?_;rw[e1];grind
 rw[e3,gw];have e4:=congrArg sg e2;rw[fV (Int.pow_pos hn),HV,fV hn]at e4;rw[e4]
def inS(l:List Int)(A B D:Int):Prop:=0<bo l A D/\bo l B D<=0
instance (l:List Int) (A B D:Int):Decidable (inS l A B D):=inferInstanceAs (Decidable (_/\_))
structure Fsm(u e b:Int):Prop where
 u1 : -1000000000<=u
 u2:u<=1000000000
 e0:0<=e
 e1:e<=10000000000000000
 b1:1<=b
 b2:b<=1000
theorem Bs{x:Int}{n:Nat}(h1 : -(n:Int)<=x)(h2:x<=n):x.natAbs<=n:=by omega
theorem jN{x D:Int}(hD:0<D)(h1 : -(30000000000000*D)<=x)(h2:x<=30000000000000*D):x.natAbs<=30000000000000*D.natAbs:=by
 have e:((30000000000000*D.natAbs:Nat):Int)=30000000000000*D:=by rw[Jj,Int.natAbs_of_nonneg (HD hD)];rfl
 exact Bs (by rw[e];exact h1) (by rw[e];exact h2)
theorem sF{u e b s A B D:Int}(h:Fsm u e b)(hs:s=1\/s = -1/\0<e)(hD:2^200<=D)(hw:B=A+128)(hi:inS [u,e,b,s] A B D):((b*A-u*D)*(b*A-u*D)-e*D*D).natAbs<=30000000000000*D.natAbs:=by
 obtain⟨u1,u2,e0,e1,b1,b2⟩:=h;have hDD:0<D:=by omega
 have eB:b*B-u*D=b*A-u*D+128*b:=by rw[hw];grind
 have h36:e*D*D<=100000000*D*(100000000*D):=by
  have h1:e*(D*D)<=10000000000000000*(D*D):=Iz (by omega) (HD (HF hDD hDD));have e2:e*D*D=e*(D*D):=by grind
  have e3:100000000*D*(100000000*D)=10000000000000000*(D*D):=by grind
  omega
 have hE0:0<=e*D*D:=IE (IE e0 (by omega)) (by omega)
 have hbig:e=0\/16384000000<e*D*D:=by
  rcases Jm 0 e with z |z
  ·right;have h1:1*(D*D)<=e*(D*D):=Iz (by omega) (HD (HF hDD hDD));have e2:e*D*D=e*(D*D):=by grind
   have h2:1*D<=D*D:=Iz (by omega) (by omega);omega
  ·left;omega
 rcases hs with rfl |⟨rfl,hp⟩
 ·have i1:0<bD (e*D*D) (b*A-u*D):=hi.1;have i2:bD (e*D*D) (b*B-u*D)<=0:=hi.2;rw[eB]at i2;generalize b*A-u*D=a at *
  have k1:a<0\/a*a<e*D*D:=by rcases b5 (e*D*D) a with z |z |z<;>omega
  have k2:0<=a+128*b/\e*D*D<=(a+128*b)*(a+128*b):=by rcases b5 (e*D*D) (a+128*b)with z |z |z<;>omega
  by_cases ha:a<0
  ·have q1:=ig k2.1 (show a+128*b<=128000 by omega);have z0:e=0:=by omega
   subst z0;have q2:(-a)*(-a)<=128000*128000:=ig (by omega) (by omega);have q3:(-a)*(-a)=a*a:=by grind
   have q4:0<=a*a:=by rw[<- q3];exact IE (by omega) (by omega)
   rw[Iq,Iq];exact jN hDD (by omega) (by omega)
  ·have k3:a*a<e*D*D:=by omega
   have k4:a<100000000*D:=Bh (by omega) (by omega);have e3:(a+128*b)*(a+128*b)=a*a+256*(b*a)+16384*(b*b):=by grind
   have k5:b*a<=1000*a:=Iz b2 (by omega);have k6:b*b<=1000000:=Je b2 b2 (by omega) (by omega);exact jN hDD (by omega) (by omega)
 ·have i1:0<0-bD (e*D*D) (0-(b*A-u*D)):=hi.1;have i2:0-bD (e*D*D) (0-(b*B-u*D))<=0:=hi.2;rw[eB]at i2;have eq1:(b*A-u*D)*(b*A-u*D)=(0-(b*A-u*D))*(0-(b*A-u*D)):=by grind
  have eq2:0-(b*A-u*D+128*b)=0-(b*A-u*D)-128*b:=by omega
  rw[eq1];rw[eq2]at i2;generalize 0-(b*A-u*D)=c at *
  have k1:0<=c/\e*D*D<c*c:=by rcases b5 (e*D*D) c with z |z |z<;>omega
  have k2:c-128*b<0\/(c-128*b)*(c-128*b)<=e*D*D:=by rcases b5 (e*D*D) (c-128*b)with z |z |z<;>omega
  by_cases hc:c-128*b<0
  ·have q1:=ig k1.1 (show c<=128000 by omega);exact jN hDD (by omega) (by omega)
  ·have k3:(c-128*b)*(c-128*b)<=e*D*D:=by omega
   have k4:c-128*b<=100000000*D:=Br (by omega) (by omega);have e3:c*c=(c-128*b)*(c-128*b)+256*(b*c)-16384*(b*b):=by grind
   have k5:b*c<=1000*c:=Iz b2 (by omega);have k6:0<=b*b:=IE (by omega) (by omega);exact jN hDD (by omega) (by omega)
theorem wl{u e b A B D:Int}(h:Fsm u e b)(he:0<e)(hD:2^200<=D)(hw:B=A+128)(h1:inS [u,e,b,1] A B D)(h2:inS [u,e,b,-1] A B D):False:=by
 obtain⟨u1,u2,e0,e1,b1,b2⟩:=h;have hDD:0<D:=by omega
 have eB:b*B-u*D=b*A-u*D+128*b:=by rw[hw];grind
 have i1:bD (e*D*D) (b*B-u*D)<=0:=h1.2;have i2:0<0-bD (e*D*D) (0-(b*A-u*D)):=h2.1;rw[eB]at i1;generalize b*A-u*D=a at *
 have k1:0<=a+128*b:=by rcases b5 (e*D*D) (a+128*b)with z |z |z<;>omega
 have k2:0<=0-a/\e*D*D<(0-a)*(0-a):=by rcases b5 (e*D*D) (0-a)with z |z |z<;>omega
 have k3:=ig k2.1 (show 0-a<=128000 by omega);have h3:1*(D*D)<=e*(D*D):=Iz (by omega) (HD (HF hDD hDD));have e2:e*D*D=e*(D*D):=by grind
 have h4:1*D<=D*D:=Iz (by omega) (by omega);omega
theorem cv{x y:Int}{a b:Nat}(hx:x.natAbs<=a)(hy:y.natAbs<=b):(x*y).natAbs<=a*b:=by rw[Ig];exact Jw hx hy
theorem sG(N:Nat):1000*1000*(30000000000000*N)+1000*1000*(30000000000000*N)<=60000000000000000000*N/\1000*1000*(30000000000000*N)<=30000000000000000000*N:=by omega
theorem Aw{n2 n3 n4 x1 x2 x3:Nat}(h:n4<=x1+x2+x3)(t1:x1<=482400000000000000000000000000000000000000000*n3)(t2:x2<=3600000000000000000000000000000000000000*n2)(t3:x3<=480000000000000000000000000000000000000000000*n3)(m1:n2<=n3)(m2:1606938044258990275541962092341162602522202993782792835301376*n3<=n4)(m4:0<n3):False:=by omega
theorem Ax{u e b u' e' b' A D:Int}(h:Fsm u e b)(h':Fsm u' e' b')(hD:2^200<=D)
 (n1:((b*A-u*D)*(b*A-u*D)-e*D*D).natAbs<=30000000000000*D.natAbs) (n2:((b'*A-u'*D)*(b'*A-u'*D)-e'*D*D).natAbs<=30000000000000*D.natAbs) :
 4*((b*u'-u*b')*(b*u'-u*b'))*(b*b*e')=(b'*b'*e-b*b*e'-(b*u'-u*b')*(b*u'-u*b'))*(b'*b'*e-b*b*e'-(b*u'-u*b')*(b*u'-u*b')):=by
 obtain⟨u1,u2,e0,e1,b1,b2⟩:=h;obtain⟨u1',u2',e0',e1',b1',b2'⟩:=h';obtain⟨N,rfl⟩:=JJ (show 0<=D by omega);rw[Ii]at n1 n2;have hN:1606938044258990275541962092341162602522202993782792835301376<=N:=by omega
 have q9:(b'*b').natAbs<=1000*1000:=cv (a:=1000) (b:=1000) (by omega) (by omega);have q9':(b*b).natAbs<=1000*1000:=cv (a:=1000) (b:=1000) (by omega) (by omega);have d1:=cv q9 n1;have d2:=cv q9' n2
 have hU:(b*u'-u*b').natAbs<=2000000000000:=by have a1:(b*u').natAbs<=1000*1000000000:=cv (by omega) (by omega);have a2:(u*b').natAbs<=1000000000*1000:=cv (by omega) (by omega);exact HH (Jn _ _) (Nat.add_le_add a1 a2)
 have hE1:(b'*b'*e).natAbs<=1000*1000*10000000000000000:=cv q9 (by omega);have hE2:(b*b*e').natAbs<=1000*1000*10000000000000000:=cv q9' (by omega);have r1:(b'*(b*A-u*N))*(b'*(b*A-u*N))=b'*b'*e*(N*N)+b'*b'*((b*A-u*N)*(b*A-u*N)-e*N*N):=by grind
 have r2:(b*(b'*A-u'*N))*(b*(b'*A-u'*N))=b*b*e'*(N*N)+b*b*((b'*A-u'*N)*(b'*A-u'*N)-e'*N*N):=by grind
 have r3:b'*(b*A-u*N)=b*(b'*A-u'*N)+(b*u'-u*b')*N:=by grind
 generalize b'*b'*((b*A-u*N)*(b*A-u*N)-e*N*N)=δ1 at *
 generalize b*b*((b'*A-u'*N)*(b'*A-u'*N)-e'*N*N)=δ2 at *
 rw[r3]at r1;generalize b*(b'*A-u'*N)=Y at *
 generalize b*u'-u*b'=U at *
 generalize b'*b'*e=E1 at *
 generalize b*b*e'=E2 at *
 clear n1 n2 q9 q9' r3 u1 u2 e0 e1 b1 b2 u1' u2' e0' e1' b1' b2' hD;have hUU:(U*U).natAbs<=2000000000000*2000000000000:=cv hU hU;have hW:(E1-E2-U*U).natAbs<=4020000000000000000000000:=HH (Jn _ _) (HH (Nat.add_le_add (HH (Jn _ _) (Nat.add_le_add hE1 hE2)) hUU) (by decide));generalize hWd:E1-E2-U*U=W at *
 have r4:2*U*N*Y=W*(N*N)+(δ1-δ2):=by rw[<- hWd];grind
 have r5:(2*U*N*Y)*(2*U*N*Y)=4*(U*U)*(N*N)*(Y*Y):=by grind
 rw[r4,r2]at r5;have hM:(δ1-δ2).natAbs<=60000000000000000000*N:=HH (Jn _ _) (HH (Nat.add_le_add d1 d2) (sG N).1);have hδ2:δ2.natAbs<=30000000000000000000*N:=HH d2 (sG N).2;generalize δ1-δ2=δ at *
 have hNN:(0:Int)<(N:Int)*N:=HF (by omega) (by omega);have r6:(4*(U*U)*E2-W*W)*(N*N)*(N*N)=2*W*δ*(N*N)+δ*δ-4*(U*U)*δ2*(N*N):=by grind
 refine Int.sub_eq_zero.mp (Classical.byContradiction λhne=>?_);generalize hZ:4*(U*U)*E2-W*W=Z at *
 have hZ1:1<=Z.natAbs:=by omega
 have b1:(Z*(N*N)*(N*N)).natAbs=Z.natAbs*(N*N)*(N*N):=by rw[Ig,Ig,Ig,Ii]
 have t1:(2*W*δ*(N*N)).natAbs<=2*4020000000000000000000000*(60000000000000000000*N)*(N*N):=by refine cv (cv (cv (by decide) hW) hM) ?_;rw[Ig,Ii];exact Ht _
 have t2:(δ*δ).natAbs<=60000000000000000000*N*(60000000000000000000*N):=cv hM hM
 have t3:(4*(U*U)*δ2*(N*N)).natAbs<=4*(2000000000000*2000000000000)*(30000000000000000000*N)*(N*N):=by refine cv (cv (cv (by decide) hUU) hδ2) ?_;rw[Ig,Ii];exact Ht _
 have t4:1*(N*N)*(N*N)<=Z.natAbs*(N*N)*(N*N):=IG _ (IG _ hZ1);rw[<- b1,r6]at t4;have e1:2*4020000000000000000000000*(60000000000000000000*N)*(N*N)=482400000000000000000000000000000000000000000*(N*N*N):=by grind
 have e2:60000000000000000000*N*(60000000000000000000*N)=3600000000000000000000000000000000000000*(N*N):=by grind
 have e3:4*(2000000000000*2000000000000)*(30000000000000000000*N)*(N*N)=480000000000000000000000000000000000000000000*(N*N*N):=by grind
 have e4:1*(N*N)*(N*N)=N*(N*N*N):=by grind
 have m1:1*(N*N)<=N*(N*N):=IG _ (by omega);have m2:1606938044258990275541962092341162602522202993782792835301376*(N*N*N)<=N*(N*N*N):=IG _ hN;have m3:N*(N*N)=N*N*N:=by grind
 have m4:0<N*N*N:=Nat.mul_pos (Nat.mul_pos (by omega) (by omega)) (by omega);rw[e4]at t4;rw[e1]at t1;rw[e2]at t2;rw[e3]at t3;rw[Nat.one_mul,m3]at m1;exact Aw (HH t4 (HH (Jn _ _) (Nat.add_le_add_right (Int.natAbs_add_le _ _) _))) t1 t2 t3 m1 m2 m4
theorem xl{u e b u' e' b':Int}(h:Fsm u e b)(h':Fsm u' e' b')(hs:NS e)(hs':NS e')
 (eq:4*((b*u'-u*b')*(b*u'-u*b'))*(b*b*e')=(b'*b'*e-b*b*e'-(b*u'-u*b')*(b*u'-u*b'))*(b'*b'*e-b*b*e'-(b*u'-u*b')*(b*u'-u*b'))):aw [u,e,b]=aw [u',e',b']:=by
 obtain⟨u1,u2,e0,e1,b1,b2⟩:=h;obtain⟨u1',u2',e0',e1',b1',b2'⟩:=h'
 have key:b*u'-u*b'=0/\b'*b'*e=b*b*e':=by
  by_cases hz:e'=0
  ·subst hz
   have e3:(b'*b'*e-(b*u'-u*b')*(b*u'-u*b'))*(b'*b'*e-(b*u'-u*b')*(b*u'-u*b'))=0:=by
    have:b*b*(0:Int)=0:=HL _;rw[this]at eq;rw[HL]at eq;have h9:b'*b'*e-0-(b*u'-u*b')*(b*u'-u*b')=b'*b'*e-(b*u'-u*b')*(b*u'-u*b'):=by omega
    rw[h9]at eq;exact eq.symm
   have e4:b'*b'*e=(b*u'-u*b')*(b*u'-u*b'):=by rcases Ic.mp e3 with z |z<;>omega
   by_cases hz2:e=0
   ·subst hz2;rw[HL]at e4;refine⟨?_,by rw[HL,HL]⟩;rcases Ic.mp e4.symm with z |z<;>exact z
   ·exact(hs.no hz2 (by omega) e4).elim
  ·by_cases hU:b*u'-u*b'=0
   ·rw[hU]at eq
    have e3:(b'*b'*e-b*b*e')*(b'*b'*e-b*b*e')=0:=by
     have h8:4*((0:Int)*0)*(b*b*e')=0:=by rw[HL,HL,Iq]
     rw[h8]at eq;have h9:b'*b'*e-b*b*e'-0*0=b'*b'*e-b*b*e':=by omega
     rw[h9]at eq;exact eq.symm
    refine⟨hU,?_⟩;rcases Ic.mp e3 with z |z<;>omega
   ·refine(hs'.no hz (x:=2*(b*u'-u*b')*b) (HM (HM (by decide) hU) (by omega)) (Eq.trans ?_ eq)).elim;grind
 obtain⟨k1,k2⟩:=key;show aJ (aF u e b)=aJ (aF u' e' b');obtain⟨tr,l2⟩:=fS (u:=u) (e:=e) b1;obtain⟨tr',l2'⟩:=fS (u:=u') (e:=e') b1';have hne:aF u e b≠[]:=λz=>by rw[z]at l2;simp at l2
 have hne':aF u' e' b'≠[]:=λz=>by rw[z]at l2';simp at l2'
 have hz:e=0↔e'=0:=by
  constructor
  ·intro z;rw[z,HL]at k2;rcases Ic.mp k2.symm with y |y
   ·rcases Ic.mp y with y |y<;>omega
   ·exact y
  ·intro z;rw[z,HL]at k2;rcases Ic.mp k2 with y |y
   ·rcases Ic.mp y with y |y<;>omega
   ·exact y
 have prop:∃x y:Int,x≠0/\y≠0/\∀n,x*cf (aF u' e' b') n=y*cf (aF u e b) n:=by
  by_cases h0:e=0
  ·have h0':=hz.mp h0;refine⟨b,b',by omega,by omega,λn=>?_⟩;unfold aF;rw[if_pos h0,if_pos h0',vi,vi];split
   ·have:b*u'=u*b':=by omega
    grind
   ·split
    ·grind
    ·omega
  ·have h0':¬e'=0:=λz=>h0 (hz.mpr z)
   refine⟨b*b,b'*b',HM (by omega) (by omega),HM (by omega) (by omega),λn=>?_⟩;have k3:b*u'=u*b':=by omega
   unfold aF;rw[if_neg h0,if_neg h0']
   match n with
   |0 =>
    show b*b*(u'*u'-e')=b'*b'*(u*u-e);have:(b*u')*(b*u')=(u*b')*(u*b'):=by rw[k3]
    grind
   |1 =>
    show b*b*(-2*b'*u')=b'*b'*(-2*b*u);have:b*b'*(b*u')=b*b'*(u*b'):=by rw[k3]
    grind
   |2 =>show b*b*(b'*b')=b'*b'*(b*b);grind
   |n+3 =>show b*b*0=b'*b'*0;omega
 obtain⟨x,y,hx,hy,hp⟩:=prop;refine rX (fZ tr hne) (fZ tr' hne') ?_ ?_
 ·rw[Dv.plain tr'];refine Dv.prop_right hx hp ?_;obtain⟨g,hg,eg⟩:=f6 tr;exact⟨1,[g],by decide,λn=>by rw[eH,<- eg];omega⟩
 ·rw[Dv.plain tr];refine Dv.prop_right (x:=y) (y:=x) hy (λn=>(hp n).symm) ?_;obtain⟨g,hg,eg⟩:=f6 tr';exact⟨1,[g],by decide,λn=>by rw[eH,<- eg];omega⟩
def FacG(f:List Int):Prop:=∃u e b:Int,f=[u,e,b] /\ -1000000000<=u/\u<=1000000000 /\ -10000000000000000<=e/\e<=10000000000000000/\1<=b/\b<=1000/\NS e
theorem FacG.q{f:List Int}(h:FacG f):gk f:=by obtain⟨u,e,b,rfl,_,_,_,_,h5,_⟩:=h;exact⟨u,e,b,rfl,h5⟩
def wc(l l':List Int):Prop:=∀A B D:Int,2^200<=D->B=A+128->inS l A B D->inS l' A B D->False
theorem pV{fs:List (List Int)}(hF:∀f∈fs,FacG f)(hn:(fs.map aw).Nodup):(spots fs).Pairwise wc:=by
 unfold spots;rw[List.pairwise_flatMap];constructor
 ·intro f hf;obtain⟨u,e,b,rfl,h1,h2,h3,h4,h5,h6,h7⟩:=hF f hf;have hd:spF [u,e,b]=(if 0<=e then[[u,e,b,1]]else[])++(if 0<e then[[u,e,b,-1]]else[]):=rfl;rw[hd];by_cases z:0<e
  ·rw[if_pos (by omega),if_pos z];show List.Pairwise _ [[u,e,b,1],[u,e,b,-1]];refine List.pairwise_pair.mpr λA B D hD hw a1 a2=>?_
   exact wl ⟨h1,h2,by omega,h4,h5,h6⟩ z hD hw a1 a2
  ·rw[if_neg z];split
   ·exact List.pairwise_singleton _ _
   ·exact List.Pairwise.nil
 ·rw[List.nodup_iff_pairwise_ne,Jx]at hn;refine hn.imp_of_mem λ{f g} hf hg hne x hx y hy A B D hD hw a1 a2=>hne ?_
  obtain⟨u,e,b,rfl,h1,h2,h3,h4,h5,h6,h7⟩:=hF f hf;obtain⟨u',e',b',rfl,h1',h2',h3',h4',h5',h6',h7'⟩:=hF g hg;obtain⟨_,s,rfl,he,hs⟩:=fT rfl h5 hx;obtain⟨_,s',rfl,he',hs'⟩:=fT rfl h5' hy;have F1:Fsm u e b:=⟨h1,h2,he,h4,h5,h6⟩;have F2:Fsm u' e' b':=⟨h1',h2',he',h4',h5',h6'⟩;exact xl F1 F2 h7 h7' (Ax F1 F2 hD (sF F1 hs hD hw a1) (sF F2 hs' hD hw a2))
noncomputable def g8(ls:List (List Int))(A B D:Int):List (List Int):=ls.filter λl=>decide (inS l A B D)
theorem gu{fs:List (List Int)}(hF:∀f∈fs,gk f){l:List Int}(hl:l∈spots fs):Spt l:=by obtain⟨f,hf,hm⟩:=List.mem_flatMap.mp hl;obtain⟨u,e,b,rfl,hb⟩:=hF f hf;exact(fT rfl hb hm).1
noncomputable def pv:List Int->Rat->Rat
 | [],_=>0
 |c::l,x=>(c:Rat)+x*pv l x
theorem rL:∀(N:Nat) (a b c:List Int) (u v:Int) (x:Rat),a.length<=N->b.length<=N->c.length<=N->(∀n,cf c n=u*cf a n+v*cf b n)->pv c x=(u:Rat)*pv a x+(v:Rat)*pv b x
 |0,a,b,c,u,v,x,ha,hb,hc,_=>by rw[Jy (Jf.mp ha),Jy (Jf.mp hb),Jy (Jf.mp hc)];show(0:Rat)=u*0+v*0;grind
 |N+1,a,b,c,u,v,x,ha,hb,hc,h=>by
  have key:∀l:List Int,l.length<=N+1->pv l x=(cf l 0:Rat)+x*pv l.tail x/\l.tail.length<=N/\∀n,cf l.tail n=cf l (n+1):=λl hl=>by
   cases l with
   |nil=>exact⟨by show(0:Rat)=((0:Int):Rat)+x*0;grind,Hy _,λn=>by rw[ca];rfl⟩
   |cons y l=>exact⟨rfl,by simpa using hl,λn=>rfl⟩
  obtain⟨a1,a2,a3⟩:=key a ha;obtain⟨b1,b2,b3⟩:=key b hb;obtain⟨c1,c2,c3⟩:=key c hc;have ih:=rL N a.tail b.tail c.tail u v x a2 b2 c2 λn=>by rw[a3,b3,c3,h]
  have h0:(cf c 0:Rat)=(u:Rat)*(cf a 0:Rat)+(v:Rat)*(cf b 0:Rat):=by rw[h 0,IH,HW,HW]
  rw[a1,b1,c1,ih,h0];grind
theorem ix{a b c:List Int}{u v:Int}(x:Rat)(h:∀n,cf c n=u*cf a n+v*cf b n):pv c x=(u:Rat)*pv a x+(v:Rat)*pv b x :=
 rL (a.length+b.length+c.length) a b c u v x (by omega) (by omega) (by omega) h
theorem gD{a c:List Int}{u:Int}(x:Rat)(h:∀n,cf c n=u*cf a n):pv c x=(u:Rat)*pv a x:=by
 have:=ix (a:=a) (b:=[]) (c:=c) (u:=u) (v:=0) x λn=>by rw[h n,Iq,Iv]
 rw[this];show _+((0:Int):Rat)*0=_;grind
theorem mf(x:Rat):∀(a b c:List Int),(∀n,cf c n=aq a b n)->pv c x=pv a x*pv b x
 | [],b,c,h=>by
  have:=gD (a:=[]) (c:=c) (u:=0) x λn=>by rw[h n,dA];simp
  rw[this];show _=(0:Rat)*_;show((0:Int):Rat)*0=0*_;grind
 |y::a,b,c,h=>by
  have ih:=mf x a b (ae a b) (aB a b)
  have:=ix (a:=b) (b:=0::ae a b) (c:=c) (u:=y) (v:=1) x λn=>by
   rw[h n,cW,iQ,HV]
   congr 1
   unfold up;split
   ·rfl
   ·rw[aB]
  rw[this];show(y:Rat)*pv b x+((1:Int):Rat)*(((0:Int):Rat)+x*pv (ae a b) x)=((y:Rat)+x*pv a x)*pv b x;rw[ih];grind
theorem fB{a b:Rat}(ha:0<a)(hb:0<b):0<a/b:=by rw[Rat.div_def];exact Io ha (Rat.inv_pos.mpr hb)
noncomputable def Bd(M v:Rat):Prop := -M<=v/\v<=M
theorem Bd.mul{M N u v:Rat}(h1:Bd M u)(h2:Bd N v):Bd (M*N) (u*v):=by obtain⟨a,b⟩:=h1;obtain⟨c,d⟩:=h2;have p1:0<=(M-u)*(N-v):=HN (by grind) (by grind);have p2:0<=(M+u)*(N+v):=HN (by grind) (by grind);have p3:0<=(M-u)*(N+v):=HN (by grind) (by grind);have p4:0<=(M+u)*(N-v):=HN (by grind) (by grind);constructor<;>grind
theorem Bd.add{M N u v:Rat}(h1:Bd M u)(h2:Bd N v):Bd (M+N) (u+v):=by obtain⟨a,b⟩:=h1;obtain⟨c,d⟩:=h2;constructor<;>grind
theorem Bd.mono{M N u:Rat}(h1:Bd M u)(h:M<=N):Bd N u:=by obtain⟨a,b⟩:=h1;constructor<;>grind
def Nice(f:Rat->Rat):Prop:=∀R:Rat,0<=R->∃M:Rat,0<=M/\(∀x,Bd R x->Bd M (f x))/\∀x y,Bd R x->Bd R y->x<=y->Bd (M*(y-x)) (f y-f x)
theorem gK(c:Rat):Nice λ_=>c:=λR _=>by
 rcases IA (a:=0) (b:=c)with h |h
 ·exact⟨c,h,λx _=>⟨by grind,by grind⟩,λx y _ _ hxy=>by
   have:=HN h (show 0<=y-x by grind)
   exact⟨by grind,by grind⟩⟩
 ·exact⟨-c,by grind,λx _=>⟨by grind,by grind⟩,λx y _ _ hxy=>by
   have:=HN (show 0 <= -c by grind) (show 0<=y-x by grind)
   exact⟨by grind,by grind⟩⟩
theorem nice_id:Nice λx=>x:=λR hR=>by refine⟨R+1,by grind,λx h=>h.mono (by grind),λx y _ _ hxy=>?_⟩;have:=HN hR (show 0<=y-x by grind);exact⟨by grind,by grind⟩
theorem Nice.add{f g:Rat->Rat}(hf:Nice f)(hg:Nice g):Nice λx=>f x+g x:=λR hR=>by
 obtain⟨M,m0,m1,m2⟩:=hf R hR;obtain⟨N,n0,n1,n2⟩:=hg R hR;refine⟨M+N,by grind,λx h=>(m1 x h).add (n1 x h),λx y hx hy hxy=>?_⟩;have:=(m2 x y hx hy hxy).add (n2 x y hx hy hxy);have e1:M*(y-x)+N*(y-x)=(M+N)*(y-x):=by grind
 have e2:f y-f x+(g y-g x)=f y+g y-(f x+g x):=by grind
 rwa [e1,e2]at this
theorem Nice.mul{f g:Rat->Rat}(hf:Nice f)(hg:Nice g):Nice λx=>f x*g x:=λR hR=>by
 obtain⟨M,m0,m1,m2⟩:=hf R hR;obtain⟨N,n0,n1,n2⟩:=hg R hR;have p:=HN m0 n0;refine⟨2*(M*N),by grind,λx h=>((m1 x h).mul (n1 x h)).mono (by grind),λx y hx hy hxy=>?_⟩;have:=((m2 x y hx hy hxy).mul (n1 y hy)).add ((m1 x hx).mul (n2 x y hx hy hxy));have e1:M*(y-x)*N+M*(N*(y-x))=2*(M*N)*(y-x):=by grind
 have e2:(f y-f x)*g y+f x*(g y-g x)=f y*g y-f x*g x:=by grind
 rwa [e1,e2]at this
theorem fc:∀l:List Int,Nice (pv l)
 | []=>gK 0
 |c::l=>(gK (c:Rat)).add (nice_id.mul (fc l))
theorem rK:∀(l:List Int) (R:Rat),0<=R->∃M:Rat,0<=M/\∀x y,Bd R x->Bd R y->x<=y->Bd (M*((y-x)*(y-x))) (pv l y-pv l x-(y-x)*pv (slopeL l) x)
 | [],R,_=>⟨0,by grind,λx y _ _ _=>by
  have e:pv [] y-pv [] x-(y-x)*pv (slopeL []) x=0:=by show(0:Rat)-0-(y-x)*0=0;grind
  rw[e];constructor<;>grind⟩
 |c::l,R,hR=>by
  obtain⟨M,m0,m1⟩:=rK l R hR;obtain⟨N,n0,n1,n2⟩:=fc l R hR;have p:=HN hR m0;refine⟨N+R*M,by grind,λx y hx hy hxy=>?_⟩
  have hd:pv (slopeL (c::l)) x=pv l x+x*pv (slopeL l) x:=by
   have:=ix (a:=l) (b:=0::slopeL l) (c:=slopeL (c::l)) (u:=1) (v:=1) x λn=>qR c l n
   rw[this];show((1:Int):Rat)*pv l x+((1:Int):Rat)*(((0:Int):Rat)+x*pv (slopeL l) x)=_;grind
  have hz:Bd (y-x) (y-x):=⟨by grind,by grind⟩;have:=(hz.mul (n2 x y hx hy hxy)).add (hx.mul (m1 x y hx hy hxy));have e1:(y-x)*(N*(y-x))+R*(M*((y-x)*(y-x)))=(N+R*M)*((y-x)*(y-x)):=by grind
  have e2:(y-x)*(pv l y-pv l x)+x*(pv l y-pv l x-(y-x)*pv (slopeL l) x)=pv (c::l) y-pv (c::l) x-(y-x)*pv (slopeL (c::l)) x:=by rw[hd];show _=((c:Rat)+y*pv l y)-((c:Rat)+x*pv l x)-_;grind
  rwa [e1,e2]at this
noncomputable def sgR(v:Rat):Int:=if v<0 then -1 else if 0<v then 1 else 0
theorem b6(v:Rat):(v<0/\sgR v = -1)\/(v=0/\sgR v=0)\/(0<v/\sgR v=1):=by
 unfold sgR;by_cases h:v<0
 ·exact .inl ⟨h,by rw[if_pos h]⟩
 ·by_cases h2:0<v
  ·exact .inr (.inr ⟨h2,by rw[if_neg h,if_pos h2]⟩)
  ·exact .inr (.inl ⟨by grind,by rw[if_neg h,if_neg h2]⟩)
def Sta(f:Rat->Rat)(x y:Rat):Prop:=sgR (f x)=sgR (f y)/\sgR (f x)≠0
theorem mD{f:Rat->Rat}{x y D:Rat}(h:¬Sta f x y)(hd:Bd D (f y-f x)):Bd D (f x)/\Bd D (f y):=by
 obtain⟨d1,d2⟩:=hd
 have key:(f x<=0/\0<=f y)\/(0<=f x/\f y<=0):=by
  rcases b6 (f x)with⟨a,b⟩ |⟨a,b⟩ |⟨a,b⟩<;>rcases b6 (f y)with⟨c,d⟩ |⟨c,d⟩ |⟨c,d⟩
  ·exact absurd ⟨by rw[b,d],by rw[b];decide⟩ h
  ·exact .inl ⟨by grind,by grind⟩
  ·exact .inl ⟨by grind,by grind⟩
  ·exact .inr ⟨by grind,by grind⟩
  ·exact .inl ⟨by grind,by grind⟩
  ·exact .inl ⟨by grind,by grind⟩
  ·exact .inr ⟨by grind,by grind⟩
  ·exact .inr ⟨by grind,by grind⟩
  ·exact absurd ⟨by rw[b,d],by rw[b];decide⟩ h
 rcases key with⟨a,b⟩ |⟨a,b⟩
 ·exact⟨⟨by grind,by grind⟩,⟨by grind,by grind⟩⟩
 ·exact⟨⟨by grind,by grind⟩,⟨by grind,by grind⟩⟩
inductive SRow:List (List Int)->Prop
 |last {c:Int} (h:c≠0):SRow [[c]]
 |two {a:List Int} {c:Int} (h:c≠0):SRow [a,[c]]
 |cons {a b c:List Int} {r:List (List Int)} {q:List Int} {α β:Rat} (hα:0<α) (hβ:0<β) (e:∀x,α*pv a x=pv q x*pv b x-β*pv c x) (h:SRow (b::c::r)):SRow (a::b::c::r)
theorem me(c:Int)(x:Rat):pv [c] x=(c:Rat):=by show(c:Rat)+x*0=c;grind
theorem bez:∀{row:List (List Int)},SRow row->∀a b r,row=a::b::r->∃(A B:Rat->Rat) (k:Rat),Nice A/\Nice B/\k≠0/\∀x,A x*pv a x+B x*pv b x=k
 |_,.last h,a,b,r,e=>by cases e
 |_,.two (c:=c) h,a,b,r,e=>by cases e;refine⟨λ_=>0,λ_=>1,(c:Rat),gK 0,gK 1,λz=>h (Jz.mp (by rw[z];rfl)),λx=>?_⟩;rw[me];grind
 |_,.cons (a:=a0) (b:=b0) (c:=c) (q:=q) (α:=α) (β:=β) hα hβ eq h,a,b,r,e=>by
  cases e;obtain⟨A,B,k,nA,nB,hk,hAB⟩:=bez h _ _ _ rfl;refine⟨λx=>(-α)*B x,λx=>β*A x+B x*pv q x,β*k,(gK (-α)).mul nB,((gK β).mul nA).add (nB.mul (fc q)),λz=>?_,λx=>?_⟩
  ·rcases Rat.mul_eq_zero.mp z with y |y
   ·grind
   ·exact hk y
  ·have h1:=hAB x;have h2:=eq x;have:(-α)*B x*pv a0 x+(β*A x+B x*pv q x)*pv b0 x=B x*(pv q x*pv b0 x-α*pv a0 x)+β*A x*pv b0 x:=by grind
   rw[this,h2];have:B x*(pv q x*pv b0 x-(pv q x*pv b0 x-β*pv c x))+β*A x*pv b0 x=β*(A x*pv b0 x+B x*pv c x):=by grind
   rw[this,h1]
theorem sd{a b:Rat->Rat}(na:Nice a)(nb:Nice b){A B:Rat->Rat}{k:Rat}(nA:Nice A)(nB:Nice B)(hk:0<k)(hAB:∀x,A x*a x+B x*b x=k\/A x*a x+B x*b x = -k){R:Rat}(hR:0<=R) :
 ∃(δ κ:Rat),0<δ/\0<κ/\∀x y,Bd R x->Bd R y->x<y->y-x<=δ->¬Sta a x y->Sta b x y/\(κ<=b x\/b x <= -κ)/\(κ<=b y\/b y <= -κ):=by
 obtain⟨M1,p1,q1,r1⟩:=na R hR;obtain⟨M2,p2,q2,r2⟩:=nb R hR;obtain⟨M3,p3,q3,_⟩:=nA R hR;obtain⟨M4,p4,q4,_⟩:=nB R hR;have h31:=HN p3 p1;have h42:=HN p4 p2;have hT:0<2*(M3*M1+M4*M2+1):=by grind
 have hT4:0<2*(M4+1):=by grind
 refine⟨k/(2*(M3*M1+M4*M2+1)),k/(2*(M4+1)),fB hk hT,fB hk hT4,λx y hx hy hxy hd hs=>?_⟩
 have hd':(y-x)*(2*(M3*M1+M4*M2+1))<=k:=by
  have:=Ij hd (HG hT)
  rwa [HX (by grind)]at this
 have hyx:0<y-x:=by grind
 obtain⟨a1,a2⟩:=mD hs (r1 x y hx hy (by grind));have hM1:0<=M1*(y-x):=HN p1 (HG hyx)
 have far:∀z,Bd R z->Bd (M1*(y-x)) (a z)->k/(2*(M4+1))<=b z\/b z <= -(k/(2*(M4+1))):=λz hz ha=>by
  have e1:=(q3 z hz).mul ha
  have e2:2*(M3*(M1*(y-x)))<=k:=by have h1:=HN h42 (HG hyx);grind
  have hB:(k<=2*(B z*b z))\/(2*(B z*b z) <= -k):=by
   obtain⟨f1,f2⟩:=e1;rcases hAB z with g |g
   ·left;grind
   ·right;grind
  rcases IA (a:=k/(2*(M4+1))) (b:=b z)with g |g
  ·exact .inl g
  ·rcases IA (a:=b z) (b := -(k/(2*(M4+1))))with g2 |g2
   ·exact .inr g2
   ·exfalso;have hb:Bd (k/(2*(M4+1))) (b z):=⟨g2,g⟩;obtain⟨f1,f2⟩:=(q4 z hz).mul hb
    have e3:2*(M4*(k/(2*(M4+1))))<k:=by
     have e4:k/(2*(M4+1))*(2*(M4+1))=k:=HX (by grind);have e5:=fB hk hT4;generalize k/(2*(M4+1))=w at *
     grind
    rcases hB with g3 |g3<;>grind
 refine⟨Classical.byContradiction λhs2=>?_,far x hx a1,far y hy a2⟩;obtain⟨b1,b2⟩:=mD hs2 (r2 x y hx hy (by grind));obtain⟨e1,e2⟩:=(q3 x hx).mul a1;obtain⟨e3,e4⟩:=(q4 x hx).mul b1;have hM:0<=(M3*M1+M4*M2)*(y-x):=HN (by grind) (HG hyx);have e5:M3*(M1*(y-x))+M4*(M2*(y-x))=(M3*M1+M4*M2)*(y-x):=by grind
 have e6:(y-x)*(2*(M3*M1+M4*M2+1))=2*((M3*M1+M4*M2)*(y-x))+2*(y-x):=by grind
 rcases hAB x with g |g<;>grind
theorem vw{row:List (List Int)}(h:SRow row){a b:List Int}{r:List (List Int)}(e:row=a::b::r):∃(A B:Rat->Rat) (k:Rat),Nice A/\Nice B/\0<k/\∀x,A x*pv a x+B x*pv b x=k\/A x*pv a x+B x*pv b x = -k:=by
 obtain⟨A,B,k,nA,nB,hk,hAB⟩:=bez h a b r e;rcases IA (a:=0) (b:=k)with g |g
 ·exact⟨A,B,k,nA,nB,by grind,λx=>.inl (hAB x)⟩
 ·exact⟨A,B,-k,nA,nB,by grind,λx=>.inr (by rw[hAB x];grind)⟩
noncomputable def vr:Int->List Int->Int
 |_,[]=>0
 |b,s::r=>(if s*b<0 then 1 else 0)+vr (if s=0 then b else s) r
theorem ve:∀(l:List Int) (n b:Int),l.foldl chF (n,b)=(n+vr b l,(l.foldl chF (n,b)).2)
 | [],n,b=>by show(n,b)=(n+0,b);rw[Iv]
 |s::r,n,b=>by
  show r.foldl chF (chF (n,b) s)=(n+((if s*b<0 then 1 else 0)+vr (if s=0 then b else s) r),(r.foldl chF (chF (n,b) s)).2)
  have e:chF (n,b) s=(n+(if s*b<0 then 1 else 0),if s=0 then b else s):=by
   unfold chF;by_cases h:s*b<0
   ·rw[if_pos h,if_pos h]
   ·rw[if_neg h,if_neg h,Iv]
  rw[e];have:=ve r (n+(if s*b<0 then 1 else 0)) (if s=0 then b else s);rw[Int.add_assoc]at this;exact this
theorem vh(l:List Int):(chS l).1=vr 0 l:=by unfold chS;rw[ve l 0 0];show 0+vr 0 l=_;omega
def eU(s:Int):Prop:=s=1\/s=0\/s = -1
inductive Al:Int->List Int->List Int->Prop
 |nil {b:Int}:Al b [] []
 |stab {b s:Int} {r r':List Int} (h:s≠0) (t:Al s r r'):Al b (s::r) (s::r')
 |unst {b s s':Int} {r r':List Int} (h1:eU s) (h2:eU s') (t:Al (-b) r r'):Al b (s :: -b::r) (s' :: -b::r')
theorem o5{b s:Int}(hb:b=1\/b = -1)(hs:eU s)(r:List Int):vr b (s :: -b::r)=1+vr (-b) r:=by
 have hb0:¬(-b=0):=by omega
 rcases hs with rfl |rfl |rfl
 ·rcases hb with rfl |rfl<;>simp[vr]
 ·rcases hb with rfl |rfl<;>simp[vr]
 ·rcases hb with rfl |rfl<;>simp[vr]
theorem Al.vr:∀{b:Int} {r r':List Int},Al b r r'->(b=1\/b = -1)->(∀s∈r,eU s)->RM.vr b r=RM.vr b r'
 |_,_,_,.nil,_,_=>rfl
 |b,_,_,.stab (s:=s) (r:=r) (r':=r') h t,hb,hu=>by
  have hs:eU s:=hu s (HE ..);have hs':s=1\/s = -1:=by rcases hs with z |z |z;exact .inl z;exact absurd z h;exact .inr z
  have ih:=Al.vr t hs' λx hx=>hu x (HC _ hx)
  show _+RM.vr (if s=0 then b else s) r=_+RM.vr (if s=0 then b else s) r';rw[if_neg h,ih]
 |b,_,_,.unst h1 h2 t,hb,hu=>by
  have ih:=Al.vr t (by omega) λx hx=>hu x (HC _ (HC _ hx))
  rw[o5 hb h1,o5 hb h2,ih]
noncomputable def sgX(row:List (List Int))(x:Rat):List Int:=row.map λf=>sgR (pv f x)
theorem jj(v:Rat):eU (sgR v):=by
 rcases b6 v with⟨_,h⟩ |⟨_,h⟩ |⟨_,h⟩<;>rw[h]
 ·exact .inr (.inr rfl)
 ·exact .inr (.inl rfl)
 ·exact .inl rfl
theorem qW(row:List (List Int))(x:Rat):∀s∈sgX row x,eU s:=λs hs=>by obtain⟨f,_,rfl⟩:=Hz.mp hs;exact jj _
def vP(row:List (List Int))(R:Rat):Prop:=∃δ:Rat,0<δ/\∀x y,Bd R x->Bd R y->x<y->y-x<=δ->∀a r,row=a::r->Sta (pv a) x y->Al (sgR (pv a x)) (sgX r x) (sgX r y)
theorem xx{c:Int}(h:c≠0):sgR (c:Rat)≠0:=by
 rcases b6 (c:Rat)with⟨_,e⟩ |⟨z,_⟩ |⟨_,e⟩
 ·rw[e];decide
 ·exact absurd (Jz.mp (by rw[z];rfl)) h
 ·rw[e];decide
theorem tE:∀{row:List (List Int)},SRow row->∀R:Rat,0<=R->vP row R/\vP row.tail R
 |_,.last h,R,_=>⟨⟨1,by grind,λx y _ _ _ _ a r e _=>by cases e;exact .nil⟩,⟨1,by grind,λx y _ _ _ _ a r e _=>by cases e⟩⟩
 |_,.two (c:=c) h,R,_=>by refine⟨⟨1,by grind,λx y _ _ _ _ a r e _=>?_⟩,⟨1,by grind,λx y _ _ _ _ a r e _=>by cases e;exact .nil⟩⟩;cases e;show Al _ [sgR (pv [c] x)] [sgR (pv [c] y)];rw[me,me];exact .stab (xx h) .nil
 |_,.cons (a:=a) (b:=b) (c:=c) (r:=r) (q:=q) (α:=α) (β:=β) hα hβ eq h,R,hR=>by
  obtain⟨⟨δ1,d1,l1⟩,⟨δ2,d2,l2⟩⟩:=tE h R hR;refine⟨?_,⟨δ1,d1,l1⟩⟩;obtain⟨A,B,k,nA,nB,hk,hAB⟩:=vw h rfl;obtain⟨δ3,κ,d3,hκ,l3⟩:=sd (fc b) (fc c) nA nB hk hAB hR;obtain⟨M,m0,m1,m2⟩:=fc b R hR;obtain⟨N,n0,n1,_⟩:=fc q R hR;have hMN:=HN n0 m0;have hT:0<N*M+1:=by grind
  have hβκ:=Io hβ hκ
  obtain⟨δ,hδ,g1,g2,g3,g4⟩:∃δ:Rat,0<δ/\δ<=δ1/\δ<=δ2/\δ<=δ3/\δ*(N*M+1)<=β*κ:=by
   have hw:=fB hβκ hT;have hw2:β*κ/(N*M+1)*(N*M+1)=β*κ:=HX (by grind)
   have two:∀u v:Rat,0<u->0<v->∃w:Rat,0<w/\w<=u/\w<=v:=λu v hu hv=>by
    rcases IA (a:=u) (b:=v)with z |z
    ·exact⟨u,hu,Rat.le_refl,z⟩
    ·exact⟨v,hv,z,Rat.le_refl⟩
   obtain⟨u,hu,u1,u2⟩:=two δ1 δ2 d1 d2;obtain⟨v,hv,v1,v2⟩:=two u δ3 hu d3;obtain⟨w,hw',w1,w2⟩:=two v _ hv hw;refine⟨w,hw',by grind,by grind,by grind,?_⟩;have:=Ij w2 (HG hT)
   rwa [hw2]at this
  refine⟨δ,hδ,λx y hx hy hxy hd a' r' e sa=>?_⟩;cases e;show Al (sgR (pv a x)) (sgR (pv b x)::sgX (c::r) x) (sgR (pv b y)::sgX (c::r) y);by_cases sb:Sta (pv b) x y
  ·have t:=l1 x y hx hy hxy (by grind) b (c::r) rfl sb;rw[<- sb.1];exact .stab sb.2 t
  ·obtain⟨sc,c1,c2⟩:=l3 x y hx hy hxy (by grind) sb;obtain⟨b1,_⟩:=mD sb (m2 x y hx hy (by grind));have hyx:0<y-x:=by grind
   have hop:sgR (pv c x) = -sgR (pv a x):=by
    obtain⟨f1,f2⟩:=(n1 x hx).mul b1;have e1:=eq x
    have e2:N*(M*(y-x))<β*κ:=by have h1:(y-x)*(N*M+1)<=δ*(N*M+1):=Ij hd (HG hT);grind
    rcases c1 with z |z
    ·have h2:β*κ<=β*pv c x:=Jg z (HG hβ);have h3:α*pv a x<0:=by grind
     have h4:pv a x<0:=by
      rcases IA (a:=0) (b:=pv a x)with w |w
      ·have:=HN (HG hα) w;grind
      ·rcases b6 (pv a x)with⟨w2,_⟩ |⟨w2,_⟩ |⟨w2,_⟩
       ·exact w2
       ·rw[w2]at h3;grind
       ·grind
     rcases b6 (pv c x)with⟨w,_⟩ |⟨w,_⟩ |⟨_,w⟩
     ·grind
     ·grind
     ·rcases b6 (pv a x)with⟨_,v⟩ |⟨v,_⟩ |⟨v,_⟩
      ·rw[w,v];decide
      ·grind
      ·grind
    ·have h2:β*pv c x<=β*(-κ):=Jg z (HG hβ);have h3:0<α*pv a x:=by grind
     have h4:0<pv a x:=by
      rcases b6 (pv a x)with⟨w2,_⟩ |⟨w2,_⟩ |⟨w2,_⟩
      ·have:=HN (HG hα) (show 0 <= -pv a x by grind);grind
      ·rw[w2]at h3;grind
      ·exact w2
     rcases b6 (pv c x)with⟨_,w⟩ |⟨w,_⟩ |⟨w,_⟩
     ·rcases b6 (pv a x)with⟨v,_⟩ |⟨v,_⟩ |⟨_,v⟩
      ·grind
      ·grind
      ·rw[w,v]
     ·grind
     ·grind
   have hop':sgR (pv c y) = -sgR (pv a x):=by rw[<- sc.1];exact hop
   have t:Al (sgR (pv c x)) (sgX r x) (sgX r y):=l2 x y hx hy hxy (by grind) c r rfl sc;rw[hop]at t;show Al _ (_::sgR (pv c x)::sgX r x) (_::sgR (pv c y)::sgX r y);rw[hop,hop'];exact .unst (jj _) (jj _) t
noncomputable def chg(f:Rat->Rat)(x y:Rat):Int:=if sgR (f x)≠0/\sgR (f y)≠sgR (f x)then 1 else 0
noncomputable def vrs(row:List (List Int))(x:Rat):Int:=vr 0 (sgX row x)
theorem wf{s:Int}(r:List Int):vr 0 (s::r)=vr s r:=by
 show(if s*0<0 then 1 else 0)+vr (if s=0 then 0 else s) r=_;rw[HL,if_neg (by decide),IL];split
 ·rename_i h;rw[h]
 ·rfl
theorem wR{F0 F1:List Int}{r:List (List Int)}(h:SRow (F0::F1::r)){γ:Rat}(hγ:0<γ)(hd:∀x,pv (slopeL F0) x=γ*pv F1 x){R:Rat}(hR:0<=R) :
 ∃δ:Rat,0<δ/\∀x y,Bd R x->Bd R y->x<y->y-x<=δ->vrs (F0::F1::r) x-vrs (F0::F1::r) y=chg (pv F0) x y:=by
 obtain⟨⟨δ1,d1,l1⟩,⟨δ2,d2,l2⟩⟩:=tE h R hR;obtain⟨A,B,k,nA,nB,hk,hAB⟩:=vw h rfl;obtain⟨δ3,κ,d3,hκ,l3⟩:=sd (fc F0) (fc F1) nA nB hk hAB hR;obtain⟨M,m0,m1⟩:=rK F0 R hR;have hγκ:=Io hγ hκ
 obtain⟨δ,hδ,g1,g2,g3,g4⟩:∃δ:Rat,0<δ/\δ<=δ1/\δ<=δ2/\δ<=δ3/\δ*(M+1)<=γ*κ:=by
  have hT:0<M+1:=by grind
  have hw:=fB hγκ hT;have hw2:γ*κ/(M+1)*(M+1)=γ*κ:=HX (by grind)
  have two:∀u v:Rat,0<u->0<v->∃w:Rat,0<w/\w<=u/\w<=v:=λu v hu hv=>by
   rcases IA (a:=u) (b:=v)with z |z
   ·exact⟨u,hu,Rat.le_refl,z⟩
   ·exact⟨v,hv,z,Rat.le_refl⟩
  obtain⟨u,hu,u1,u2⟩:=two δ1 δ2 d1 d2;obtain⟨v,hv,v1,v2⟩:=two u δ3 hu d3;obtain⟨w,hw',w1,w2⟩:=two v _ hv hw;refine⟨w,hw',by grind,by grind,by grind,?_⟩;have:=Ij w2 (HG hT)
  rwa [hw2]at this
 refine⟨δ,hδ,λx y hx hy hxy hyd=>?_⟩;have e0:∀z,vrs (F0::F1::r) z=vr (sgR (pv F0 z)) (sgX (F1::r) z):=λz=>wf _
 have nz:∀{v:Rat},sgR v≠0->sgR v=1\/sgR v = -1:=λ{v} hv=>by rcases jj v with z |z |z;exact .inl z;exact absurd z hv;exact .inr z
 rw[e0,e0];by_cases s0:Sta (pv F0) x y
 ·have t:=(l1 x y hx hy hxy (by grind) F0 (F1::r) rfl s0).vr (nz s0.2) (qW _ _);rw[<- s0.1,t];unfold chg;rw[if_neg (λz=>z.2 s0.1.symm)];omega
 ·obtain⟨s1,c1,c2⟩:=l3 x y hx hy hxy (by grind) s0;have t:=(l2 x y hx hy hxy (by grind) F1 r rfl s1).vr (nz s1.2) (qW _ _);have hyx:0<y-x:=by grind
  have hyy:0<(y-x)*(y-x):=Io hyx hyx;obtain⟨f1,f2⟩:=m1 x y hx hy (by grind)
  have small:M*((y-x)*(y-x))<(y-x)*(γ*κ):=by
   have h1:(y-x)*(M+1)<=γ*κ:=by have:=Ij hyd (show 0<=M+1 by grind);grind
   have h2:(y-x)*((y-x)*(M+1))<=(y-x)*(γ*κ):=Jg h1 (HG hyx);grind
  rw[hd]at f1 f2;show vr (sgR (pv F0 x)) (sgR (pv F1 x)::sgX r x)-vr (sgR (pv F0 y)) (sgR (pv F1 y)::sgX r y)=_
  have hu:∀(b s:Int) (l:List Int),s≠0->vr b (s::l)=(if s*b<0 then 1 else 0)+vr s l:=λb s l hs=>by show _+vr (if s=0 then b else s) l=_;rw[if_neg hs]
  have s1':sgR (pv F1 y)=sgR (pv F1 x):=s1.1.symm;rw[s1',hu _ _ _ s1.2,hu _ _ _ s1.2,t];unfold chg;rcases c1 with z |z
  ·
   have h1:γ*κ<=γ*pv F1 x:=Jg z (HG hγ);have h2:(y-x)*(γ*κ)<=(y-x)*(γ*pv F1 x):=Jg h1 (HG hyx);have rise:pv F0 x<pv F0 y:=by grind
   have s1p:sgR (pv F1 x)=1:=by
    rcases b6 (pv F1 x)with⟨w,_⟩ |⟨w,_⟩ |⟨_,w⟩
    ·grind
    ·grind
    ·exact w
   rw[s1p];rcases b6 (pv F0 x)with⟨a1,a2⟩ |⟨a1,a2⟩ |⟨a1,a2⟩<;>rcases b6 (pv F0 y)with⟨b1,b2⟩ |⟨b1,b2⟩ |⟨b1,b2⟩
   ·exact absurd ⟨by rw[a2,b2],by rw[a2];decide⟩ s0
   ·rw[a2,b2];simp
   ·rw[a2,b2];simp
   ·grind
   ·grind
   ·rw[a2,b2];simp
   ·grind
   ·grind
   ·exact absurd ⟨by rw[a2,b2],by rw[a2];decide⟩ s0
  ·have h1:γ*pv F1 x<=γ*(-κ):=Jg z (HG hγ);have h2:(y-x)*(γ*pv F1 x)<=(y-x)*(γ*(-κ)):=Jg h1 (HG hyx);have fall:pv F0 y<pv F0 x:=by grind
   have s1p:sgR (pv F1 x) = -1:=by
    rcases b6 (pv F1 x)with⟨_,w⟩ |⟨w,_⟩ |⟨w,_⟩
    ·exact w
    ·grind
    ·grind
   rw[s1p];rcases b6 (pv F0 x)with⟨a1,a2⟩ |⟨a1,a2⟩ |⟨a1,a2⟩<;>rcases b6 (pv F0 y)with⟨b1,b2⟩ |⟨b1,b2⟩ |⟨b1,b2⟩
   ·exact absurd ⟨by rw[a2,b2],by rw[a2];decide⟩ s0
   ·grind
   ·grind
   ·rw[a2,b2];simp
   ·grind
   ·grind
   ·rw[a2,b2];simp
   ·rw[a2,b2];simp
   ·exact absurd ⟨by rw[a2,b2],by rw[a2];decide⟩ s0
structure Cut(s:Rat->Int):Prop where
 u:∀x,eU (s x)
 m:∀x y,x<y->s x<=0->s y = -1
noncomputable def cnt(S:List (Rat->Int))(x y:Rat):Int:=(S.map λs=>if 0<s x/\s y<=0 then(1:Int)else 0).sum
theorem DP(x y:Rat):cnt [] x y=0:=rfl
theorem fN(s:Rat->Int)(S:List (Rat->Int))(x y:Rat):cnt (s::S) x y=(if 0<s x/\s y<=0 then 1 else 0)+cnt S x y:=by unfold cnt;rw[Is,List.sum_cons]
theorem va{x y z:Rat}(hxy:x<y)(hyz:y<z):∀{S:List (Rat->Int)},(∀s∈S,Cut s)->cnt S x z=cnt S x y+cnt S y z
 | [],_=>rfl
 |s::S,h=>by
  have hs:=h s (HE ..);have ih:=va hxy hyz (S:=S) λt ht=>h t (HC _ ht)
  rw[fN,fN,fN,ih]
  have e:(if 0<s x/\s z<=0 then(1:Int)else 0)=(if 0<s x/\s y<=0 then 1 else 0)+(if 0<s y/\s z<=0 then 1 else 0):=by
   by_cases hy:s y<=0
   ·have hz:=hs.m y z hyz hy;rw[if_neg (show ¬(0<s y/\s z<=0) by omega)];by_cases hx:0<s x
    ·rw[if_pos ⟨hx,by omega⟩,if_pos ⟨hx,hy⟩];rfl
    ·rw[if_neg (by omega),if_neg (by omega)];rfl
   ·have hx:0<s x:=by
     rcases Jm 0 (s x)with q |q
     ·exact q
     ·have:=hs.m x y hxy q;omega
    rw[if_neg (show ¬(0<s x/\s y<=0) by omega)];by_cases hz:s z<=0
    ·rw[if_pos ⟨hx,hz⟩,if_pos ⟨by omega,hz⟩];rfl
    ·rw[if_neg (by omega),if_neg (by omega)];rfl
  rw[e];omega
noncomputable def cpr(x:Rat):List (Rat->Int)->Int
 | []=>1
 |s::S => -s x*cpr x S
theorem j4(x:Rat):∀a b,cpr x (a++b)=cpr x a*cpr x b
 | [],b=>by show _=1*_;rw[HV];rfl
 |s::a,b=>by show _*cpr x (a++b)=_*_*_;rw[j4 x a b,ID]
def inC(s:Rat->Int)(x y:Rat):Prop:=0<=s x/\s y<=0
theorem BF{s:Rat->Int}(h:Cut s){x y:Rat}(hxy:x<y)(hn:¬inC s x y):s x=s y/\(s x=1\/s x = -1):=by
 have h1:=h.u x;have h2:=h.u y;unfold inC at hn
 by_cases hx:s x<=0
 ·have:=h.m x y hxy hx;rcases h1 with a |a |a<;>omega
 ·rcases h1 with a |a |a
  ·rcases h2 with b |b |b<;>omega
  ·omega
  ·omega
theorem mW{x y:Rat}(hxy:x<y):∀{S:List (Rat->Int)},(∀s∈S,Cut s)->(∀s∈S,¬inC s x y)->cpr x S=cpr y S/\(cpr x S=1\/cpr x S = -1)/\cnt S x y=0
 | [],_,_=>⟨rfl,.inl rfl,rfl⟩
 |s::S,h,hn=>by
  obtain⟨i1,i2,i3⟩:=mW hxy (S:=S) (λt ht=>h t (HC _ ht)) λt ht=>hn t (HC _ ht)
  obtain⟨a1,a2⟩:=BF (h s (HE ..)) hxy (hn s (HE ..));refine⟨by show -s x*cpr x S = -s y*cpr y S;rw[a1,i1],?_,?_⟩
  ·show -s x*cpr x S=1 \/ -s x*cpr x S = -1;rcases a2 with z |z<;>rcases i2 with w |w<;>rw[z,w]<;>decide
  ·rw[fN,i3,if_neg (by omega)];rfl
theorem nZ(x y:Rat):∀a b,cnt (a++b) x y=cnt a x y+cnt b x y
 | [],b=>by rw[DP];simp
 |s::a,b=>by rw[Js,fN,fN,nZ x y a b];omega
theorem DQ{f:Rat->Rat}{S:List (Rat->Int)}{ε:Int}(hε:ε=1\/ε = -1)(hS:∀s∈S,Cut s){x y:Rat}(hxy:x<y)(hx:sgR (f x)=ε*cpr x S)(hy:sgR (f y)=ε*cpr y S)(hp:S.Pairwise λs t=>¬(inC s x y/\inC t x y)):chg f x y=cnt S x y:=by
 by_cases hall:∀s∈S,¬inC s x y
 ·obtain⟨k1,k2,k3⟩:=mW hxy hS hall;rw[k3];unfold chg;rw[if_neg];rintro⟨_,h2⟩;exact h2 (by rw[hx,hy,k1])
 ·obtain⟨s,hs,hin⟩:∃s,s∈S/\inC s x y:=by refine Classical.byContradiction λz=>hall λs hs hi=>z ⟨s,hs,hi⟩
  obtain⟨pre,post,rfl⟩:=List.append_of_mem hs
  have hno:∀t∈pre++post,¬inC t x y:=λt ht hi=>by
   rw[List.pairwise_append]at hp;rcases HP.mp ht with z |z
   ·exact hp.2.2 t z s (HE ..) ⟨hi,hin⟩
   ·exact(JL.mp hp.2.1).1 t z ⟨hin,hi⟩
  have hS':∀t∈pre++post,Cut t:=λt ht=>hS t (by
   rcases HP.mp ht with z |z
   ·exact IF _ z
   ·exact HJ _ (HC _ z))
  obtain⟨k1,k2,k3⟩:=mW hxy hS' hno;have hc:=hS s hs
  have e1:∀z,cpr z (pre++s::post)=cpr z (pre++post) * -s z:=λz=>by rw[j4,j4];show cpr z pre*(-s z*cpr z post)=_;rw[Im (-s z),ID]
  have e2:cnt (pre++s::post) x y=(if 0<s x/\s y<=0 then 1 else 0):=by rw[nZ,fN];rw[nZ]at k3;omega
  rw[e1]at hx hy;rw[<- k1]at hy;rw[e2];unfold inC at hin
  have h1:=hc.u x;have h2:=hc.u y;unfold chg;rw[hx,hy];generalize cpr x (pre++post)=c at *
  have hs0:s x=0->s y = -1:=λz=>hc.m x y hxy (by omega)
  rcases h1 with a |a |a
  ·rw[a];rcases h2 with b |b |b
   ·omega
   ·rw[b];rcases hε with rfl |rfl<;>rcases k2 with rfl |rfl<;>simp
   ·rw[b];rcases hε with rfl |rfl<;>rcases k2 with rfl |rfl<;>simp
  ·rw[a];simp
  ·omega
theorem vI(q:Rat):∃n:Nat,q<=(n:Rat):=by refine⟨q.ceil.toNat,Rat.le_trans (Rat.le_ceil (x:=q)) ?_⟩;have h:q.ceil<=(q.ceil.toNat:Int):=Int.self_le_toNat _;have h2:=Rat.intCast_le_intCast.mpr h;exact h2
theorem AA(n:Nat):(n:Rat)<=2^n:=by
 induction n with
 |zero=>decide
 |succ n ih =>
  have h1:((1:Nat):Rat)<=2^n:=by
   have:(1:Nat)<=2^n:=Nat.pow_pos (by decide);have h2:((1:Nat):Rat)<=((2^n:Nat):Rat):=Rat.natCast_le_natCast.mpr this
   rwa [Rat.natCast_pow]at h2
  rw[Rat.pow_succ,Rat.natCast_add];grind
theorem ot{V:Rat->Int}{S:List (Rat->Int)}(hS:∀s∈S,Cut s){R δ:Rat}(hδ:0<δ)(h:∀x y,Bd R x->Bd R y->x<y->y-x<=δ->V x-V y=cnt S x y):∀(n:Nat) (x y:Rat),Bd R x->Bd R y->x<y->y-x<=2^n*δ->V x-V y=cnt S x y
 |0,x,y,hx,hy,hxy,hd=>h x y hx hy hxy (by rw[Rat.pow_zero]at hd;grind)
 |n+1,x,y,hx,hy,hxy,hd=>by
  have m1:x<(x+y)/2:=by grind
  have m2:(x+y)/2<y:=by grind
  have hm:Bd R ((x+y)/2):=by obtain⟨a,b⟩:=hx;obtain⟨c,d⟩:=hy;constructor<;>grind
  rw[Rat.pow_succ]at hd;have i1:=ot hS hδ h n x ((x+y)/2) hx hm m1 (by grind);have i2:=ot hS hδ h n ((x+y)/2) y hm hy m2 (by grind);rw[va m1 m2 hS];omega
theorem pP{F0 F1:List Int}{r:List (List Int)}(h:SRow (F0::F1::r)){γ:Rat}(hγ:0<γ)(hd:∀x,pv (slopeL F0) x=γ*pv F1 x){S:List (Rat->Int)}(hS:∀s∈S,Cut s){ε:Int}(hε:ε=1\/ε = -1)(hf:∀x,sgR (pv F0 x)=ε*cpr x S)
 {δ0:Rat} (hδ0:0<δ0) (hp:∀x y,x<y->y-x<=δ0->S.Pairwise λs t=>¬(inC s x y/\inC t x y)) {x y:Rat} (hxy:x<y):vrs (F0::F1::r) x-vrs (F0::F1::r) y=cnt S x y:=by
 obtain⟨R,hR,hx,hy⟩:∃R:Rat,0<=R/\Bd R x/\Bd R y:=by
  have ab:∀v:Rat,∃w:Rat,0<=w/\Bd w v:=λv=>by
   rcases IA (a:=0) (b:=v)with z |z
   ·exact⟨v,z,by grind,by grind⟩
   ·exact⟨-v,by grind,by grind,by grind⟩
  obtain⟨u,u0,u1⟩:=ab x;obtain⟨v,v0,v1⟩:=ab y;exact⟨u+v,by grind,u1.mono (by grind),v1.mono (by grind)⟩
 obtain⟨δ1,d1,l1⟩:=wR h hγ hd hR
 obtain⟨δ,hδ,g1,g2⟩:∃δ:Rat,0<δ/\δ<=δ0/\δ<=δ1:=by
  rcases IA (a:=δ0) (b:=δ1)with z |z
  ·exact⟨δ0,hδ0,Rat.le_refl,z⟩
  ·exact⟨δ1,d1,z,Rat.le_refl⟩
 obtain⟨n,hn⟩:=vI ((y-x)/δ);refine ot hS hδ (R:=R) (λx y hx hy hxy hdd=>?_) n x y hx hy hxy ?_
 ·rw[l1 x y hx hy hxy (by grind)];exact DQ hε hS hxy (hf x) (hf y) (hp x y hxy (by grind))
 ·have h1:(y-x)/δ<=2^n:=Rat.le_trans hn (AA n);have h2:=Ij h1 (HG hδ)
  rwa [HX (by grind)]at h2
theorem ni{n:Int}(hn:n≠0):(n:Rat)≠0:=λz=>hn (Jz.mp (show((n:Int):Rat)=((0:Int):Rat) by rw[z];rfl))
theorem sv(q:Rat):(q.num:Rat)=q*((q.den:Int):Rat):=by
 have hd:((q.den:Int):Rat)≠0:=ni (by have:=q.den_pos;omega)
 have hx:(q.num:Rat)/((q.den:Int):Rat)=q:=by have:=Rat.mkRat_self q;rw[Rat.mkRat_eq_div]at this;exact this
 have:=HX (a:=(q.num:Rat)) hd;rw[hx]at this;exact this.symm
theorem rq{t n:Int}(hn:0<n):((t:Rat)/(n:Rat)).num*n=t*(((t:Rat)/(n:Rat)).den:Int):=by
 have hn':(n:Rat)≠0:=ni (by omega);have hq:(t:Rat)/(n:Rat)*(n:Rat)=(t:Rat):=HX hn';generalize (t:Rat)/(n:Rat)=q at hq ⊢
 apply Jz.mp;rw[HW,HW,sv q,<- hq];grind
theorem cT{t n t' n':Int}(hn:0<n)(hn':0<n'):(t:Rat)/(n:Rat)<(t':Rat)/(n':Rat)↔t*n'<t'*n:=by
 have p1:(0:Rat)<(n:Rat):=HS.mpr hn;have p2:(0:Rat)<(n':Rat):=HS.mpr hn';have e1:(t:Rat)/(n:Rat)*(n:Rat)=(t:Rat):=HX (by grind);have e2:(t':Rat)/(n':Rat)*(n':Rat)=(t':Rat):=HX (by grind);generalize (t:Rat)/(n:Rat)=q at e1 ⊢
 generalize (t':Rat)/(n':Rat)=q' at e2 ⊢
 rw[<- HS,HW,HW,<- e1,<- e2];have p3:=Io p1 p2;have e3:q*(n:Rat)*(n':Rat)=q*((n:Rat)*(n':Rat)):=by grind
 have e4:q'*(n':Rat)*(n:Rat)=q'*((n:Rat)*(n':Rat)):=by grind
 rw[e3,e4];constructor
 ·intro h;exact JA h p3
 ·intro h;refine IV.mp λz=>?_
  have:=Ij z (HG p3);grind
theorem qX{p v:Rat}(hp:0<p):sgR (p*v)=sgR v:=by
 rcases b6 v with⟨a,b⟩ |⟨a,b⟩ |⟨a,b⟩
 ·have:p*v<0:=by have:=Io hp (show 0 < -v by grind);grind
  rcases b6 (p*v)with⟨_,d⟩ |⟨c,d⟩ |⟨c,d⟩
  ·rw[b,d]
  ·grind
  ·grind
 ·rw[a];have:p*0=0:=by grind
  rw[this]
 ·have:=Io hp a;rcases b6 (p*v)with⟨c,d⟩ |⟨c,d⟩ |⟨_,d⟩
  ·grind
  ·grind
  ·rw[b,d]
theorem xw(z:Int):sgR (z:Rat)=sg z:=by
 rcases b6 (z:Rat)with⟨a,b⟩ |⟨a,b⟩ |⟨a,b⟩
 ·have:z<0:=HS.mp a;rw[b];unfold sg;rw[if_pos this]
 ·have:z=0:=Jz.mp a;rw[this];rfl
 ·have:0<z:=HS.mp a;rw[b];unfold sg;rw[if_neg (by omega),if_pos this]
theorem ug{t n:Int}(hn:0<n):∀l:List Int,(hv t n l:Rat)=(n:Rat)^l.length*pv l ((t:Rat)/(n:Rat))
 | []=>by show((0:Int):Rat)=_*0;grind
 |c::l=>by
  have hn':(n:Rat)≠0:=ni (by omega);have hq:(t:Rat)/(n:Rat)*(n:Rat)=(t:Rat):=HX hn';rw[dQ,IH,HW,HW,ug hn l,Rat.intCast_pow];show _=(n:Rat)^(l.length+1)*((c:Rat)+(t:Rat)/(n:Rat)*pv l ((t:Rat)/(n:Rat)));rw[Rat.pow_succ];generalize hqq:(t:Rat)/(n:Rat)=q at *
  rw[<- hq];grind
theorem fW{t n:Int}(hn:0<n)(l:List Int):sg (hv t n l)=sgR (pv l ((t:Rat)/(n:Rat))):=by rw[<- xw,ug hn];exact qX (Rat.pow_pos (HS.mpr hn))
def Cop2(a b:List Int):Prop:=∀d,d≠[]->Tr d->Dv d a->Dv d b->d.length<=1
theorem sr{one other:List Int}(ho:other≠[]):∀n,aO one other*cf one n=aq (aQ one other) other n-(al (bj [] (ao one other)):Int)*cf (nxt one other) n:=λn=>by
 have h1:=fw (a:=one) ho n;have e:nxt one other=ah (bj [] (ao one other)):=by unfold nxt rst;rw[if_neg ho]
 have h2:=congrArg (λl=>cf l n) (io (l:=bj [] (ao one other)));simp only[bG]at h2
 have h3:cf (bj [] (ao one other)) n = -cf (ao one other) n:=by rw[jb (fM _ _),bG];omega
 rw[e,h2,h3,h1];omega
theorem pD(one other:List Int):Tr (nxt one other):=by unfold nxt;exact dZ (by unfold bj;exact bP _)
theorem mx{one other:List Int}(ho:other≠[]):(nxt one other).length<other.length:=by
 have h1:=fv (a:=one) ho;unfold nxt rst;rw[if_neg ho,jb (fM _ _)]
 have h2:(ah (scL (-1) (ao one other))).length<=(scL (-1) (ao one other)).length:=by unfold ah;rw[Hs];exact Ht _
 rw[cn]at h2;omega
theorem mU{l:List Int}(h:l.length<=1)(hne:l≠[]):∃c,l=[c]:=Jr.mp (by have:=Hw.mpr hne;omega)
theorem lP:∀(n:Nat) (one other:List Int),other.length<=n->Tr one->one≠[]->Tr other->Cop2 one other->SRow (aN (n+1) one other)
 |0,one,other,hl,to,no,tt,hc=>by have e0:other=[]:=Jy (Jf.mp hl);subst e0;have h1:=hc one no to (Dv.refl _) (Dv.nil _);obtain⟨c,rfl⟩:=mU h1 no;show SRow (if([c]:List Int)=[]then _ else[c]::aN 0 [] (nxt [c] []));rw[if_neg no];exact .last (tr_snoc (r:=[]) |>.mp to)
 |n+1,one,other,hl,to,no,tt,hc=>by
  have e:aN (n+1+1) one other=one::aN (n+1) other (nxt one other):=by show(if one=[]then _ else _)=_;rw[if_neg no]
  rw[e];by_cases ho:other=[]
  ·subst ho;have h1:=hc one no to (Dv.refl _) (Dv.nil _);obtain⟨c,rfl⟩:=mU h1 no;rw[gA];exact .last (tr_snoc (r:=[]) |>.mp to)
  have hs:=sr (one:=one) ho;have hlen:=mx (one:=one) ho;have tn:=pD one other;have fp:0<aO one other:=uR ho tt;by_cases hn:nxt one other=[]
  ·
   have hdv:Dv other one:=⟨aO one other,aQ one other,by omega,λk=>by rw[hs k,hn,ca];omega⟩;have h1:=hc other ho tt hdv (Dv.refl _);obtain⟨c,rfl⟩:=mU h1 ho;rw[hn,x6 ho (by omega)];exact .two (tr_snoc (r:=[]) |>.mp tt)
  ·have hc2:Cop2 other (nxt one other):=λd dn dt h1 h2=>by
    refine hc d dn dt ?_ h1;refine Dv.up (f:=aO one other) (q:=aQ one other) (r:=scL (-(al (bj [] (ao one other)):Int)) (nxt one other)) (by omega) (λk=>?_) h1 ?_
    ·rw[hs k,bG,Int.neg_mul];omega
    ·exact Dv.prop_right (x:=1) (y := -(al (bj [] (ao one other)):Int)) (by decide) (λk=>by rw[bG];omega) h2
   have ih:=lP n other (nxt one other) (by omega) tt ho tn hc2;have e2:aN (n+1) other (nxt one other)=other::aN n (nxt one other) (nxt other (nxt one other)):=by show(if other=[]then _ else _)=_;rw[if_neg ho]
   have n1:0<n:=by have:=Hw.mpr hn;omega
   obtain⟨m,rfl⟩:∃m,n=m+1:=⟨n-1,by omega⟩;have e3:aN (m+1) (nxt one other) (nxt other (nxt one other))=nxt one other::aN m (nxt other (nxt one other)) (nxt (nxt one other) (nxt other (nxt one other))):=by show(if nxt one other=[]then _ else _)=_;rw[if_neg hn]
   rw[e2,e3]at ih ⊢
   have gp:0<(al (bj [] (ao one other)):Int):=by
    rcases Nat.eq_zero_or_pos (al (bj [] (ao one other)))with z |z
    ·exfalso;apply hn;refine mE tn λk=>?_
     have e:nxt one other=ah (bj [] (ao one other)):=by unfold nxt rst;rw[if_neg ho]
     rw[e];unfold ah;rw[z];unfold cf;simp[List.getD];cases(bj [] (ao one other))[k]? with
     |none=>rfl
     |some v=>simp
    ·omega
   refine .cons (q:=aQ one other) (α:=(aO one other:Rat)) (β:=((al (bj [] (ao one other)):Int):Rat)) (HS.mpr fp) (HS.mpr gp) (λx=>?_) ih;have h1:=gD (a:=one) (c:=scL (aO one other) one) (u:=aO one other) x λk=>bG _ _ _
   have h2:=mf x (aQ one other) other (ae (aQ one other) other) (aB _ _);have h3:=ix (a:=ae (aQ one other) other) (b:=nxt one other) (c:=scL (aO one other) one) (u:=1) (v := -(al (bj [] (ao one other)):Int)) x λk=>by rw[bG,hs k,aB,Int.neg_mul];omega
   rw[<- h1,h3,h2,Rat.intCast_neg];show((1:Int):Rat)*_+_=_;grind
theorem rO{ss:List (List Int)}(h:∀s∈ss,Pri s):c9 [1] ss=prd ss:=by unfold c9;rw[uv,one_mul _ (jE ss λs hs=>(h s hs).pln).tr]
theorem gT{f:List Int}(h:FacG f):Pri (aw f):=by obtain⟨u,e,b,rfl,_,_,_,_,h5,_,h7⟩:=h;exact yk h5 h7
theorem uB:∀us:List (List Int×Nat),fP (λ_=>0) us=[1]
 | []=>rfl
 |p::us=>by rw[de,uB us];rfl
theorem eZ{l:List Int}(h:Tr l)(hne:l≠[]):0<(al l:Int)/\Tr (ah l)/\ah l≠[]/\∀n,cf l n=(al l:Int)*cf (ah l) n:=by
 have e:=io (l:=l)
 have ec:∀n,cf l n=(al l:Int)*cf (ah l) n:=λn=>by have:=congrArg (λz=>cf z n) e;simp only[bG]at this;exact this.symm
 have hl:(ah l).length=l.length:=by unfold ah;rw[Hs]
 refine⟨?_,dZ h,λz=>by rw[z]at hl;exact hne (Jy hl.symm),ec⟩;rcases Nat.eq_zero_or_pos (al l)with z |z
 ·exfalso;refine hne (mE h λk=>?_);rw[ec k,z];simp
 ·omega
theorem Cop2.shr{a b:List Int}(h:Cop2 a b)(ha:Tr a)(hna:a≠[])(hb:Tr b):Cop2 (ah a) (ah b):=λd dn dt h1 h2=>by
 obtain⟨_,_,_,ea⟩:=eZ ha hna;refine h d dn dt (Dv.prop_right (x:=1) (y:=(al a:Int)) (by decide) (λn=>by rw[ea n];omega) h1) ?_;by_cases hnb:b=[]
 ·rw[hnb];exact Dv.nil _
 ·obtain⟨_,_,_,eb⟩:=eZ hb hnb;exact Dv.prop_right (x:=1) (y:=(al b:Int)) (by decide) (λn=>by rw[eb n];omega) h2
noncomputable def sdR(l:List Int)(x:Rat):Int:=bo l x.num x.den
theorem bT(x:Rat):0<(x.den:Int):=by have:=x.den_pos;omega
theorem jk(l:List Int){t n:Int}(hn:0<n):sdR l ((t:Rat)/(n:Rat))=bo l t n:=by unfold sdR;exact xc l (bT _) hn (rq hn)
theorem gy{l:List Int}(h:Spt l):Cut (sdR l):=by
 refine⟨λx=>?_,λx y hxy hs=>?_⟩
 ·rcases qT l x.num x.den with z |z |z
  ·exact .inl z
  ·exact .inr (.inl z)
  ·exact .inr (.inr z)
 ·exact w9 h (bT x) (bT y) ((Rat.lt_iff x y).mp hxy) hs
theorem nW(x:Rat):∀ls:List (List Int),cpr x (ls.map sdR)=spr x.num x.den ls
 | []=>rfl
 |l::ls=>by show -sdR l x*_ = -bo l x.num x.den*_;rw[nW x ls];rfl
theorem gW(x:Rat):(x.num:Rat)/((x.den:Int):Rat)=x:=by have:=Rat.mkRat_self x;rw[Rat.mkRat_eq_div]at this;exact this
theorem vJ{l l':List Int}(hl:Spt l)(hl':Spt l')(h:wc l l'){x y:Rat}(hxy:x<y)(hd:y-x<=1/2^200):¬(inC (sdR l) x y/\inC (sdR l') x y):=by
 rintro⟨h1,h2⟩;have hD:(0:Rat)<2^200:=Rat.pow_pos (by decide);have hDi:((2^200:Int):Rat)=2^200:=Rat.intCast_pow 2 200;have f1:=Rat.floor_le (x*2^200);have f2:=Rat.lt_floor_add_one (x*2^200);rw[IH]at f2
 have hd2:(y-x)*2^200<=1:=by
  have:=Ij hd (HG hD)
  rwa [HX (by grind)]at this
 have key:∀k:List Int,Spt k->inC (sdR k) x y->inS k ((x*2^200).floor-1) ((x*2^200).floor-1+128) (2^200):=λk hk hi=>by
  have hc:=gy hk
  have eA:((((x*2^200).floor-1:Int)):Rat)/((2^200:Int):Rat)*2^200=((x*2^200).floor:Rat)-1:=by rw[hDi,HX (by grind),JB];rfl
  have eB:((((x*2^200).floor-1+128:Int)):Rat)/((2^200:Int):Rat)*2^200=((x*2^200).floor:Rat)-1+128:=by rw[hDi,HX (by grind),IH,JB];rfl
  constructor
  ·rw[<- jk k (by decide)];generalize ((((x*2^200).floor-1:Int)):Rat)/((2^200:Int):Rat)=a at *
   have hax:a<x:=by
    refine IV.mp λz=>?_
    have:=Ij z (HG hD);grind
   rcases Jm 0 (sdR k a)with w |w
   ·exact w
   ·have h3:=hc.m a x hax w;have h4:=hi.1;omega
  ·rw[<- jk k (by decide)];generalize ((((x*2^200).floor-1+128:Int)):Rat)/((2^200:Int):Rat)=b at *
   have hby:y<b:=by
    refine IV.mp λz=>?_
    have:=Ij z (HG hD);have e1:((1:Int):Rat)=1:=rfl;grind
   have h3:=hc.m y b hby hi.2;omega
 exact h _ _ _ (I9 _) rfl (key l hl h1) (key l' hl' h2)
noncomputable def sgv(row:List (List Int))(t n:Int):List Int:=row.map λf=>sg (hv t n f)
theorem jh{t n:Int}(hn:0<n)(row:List (List Int)):sgv row t n=sgX row ((t:Rat)/(n:Rat)):=by unfold sgv sgX;exact Jc λf _=>fW hn f
theorem oF(v:Rat):∃w:Rat,0<=w/\Bd w v:=by
 rcases IA (a:=0) (b:=v)with z |z
 ·exact⟨v,z,by grind,by grind⟩
 ·exact⟨-v,by grind,by grind,by grind⟩
theorem nK(u b:Int)(x:Rat):((b*x.num-u*(x.den:Int):Int):Rat)=((b:Rat)*x-(u:Rat))*((x.den:Int):Rat):=by rw[JB,HW,HW,sv x];grind
theorem Av(u b:Int)(x:Rat):b*x.num-u*(x.den:Int)<0↔(b:Rat)*x-(u:Rat)<0:=by
 have hd:(0:Rat)<((x.den:Int):Rat):=HS.mpr (bT x);rw[<- HS,nK];constructor
 ·intro h;refine IV.mp λz=>?_
  have:=HN z (HG hd);have e:((0:Int):Rat)=0:=rfl;grind
 ·intro h;have:=Io (show 0 < -((b:Rat)*x-(u:Rat)) by grind) hd;have e:((0:Int):Rat)=0:=rfl;grind
theorem pS(u e b:Int)(x:Rat):((b*x.num-u*(x.den:Int))*(b*x.num-u*(x.den:Int))<e*(x.den:Int)*(x.den:Int)↔((b:Rat)*x-(u:Rat))*((b:Rat)*x-(u:Rat))<(e:Rat))/\(e*(x.den:Int)*(x.den:Int)<(b*x.num-u*(x.den:Int))*(b*x.num-u*(x.den:Int))↔(e:Rat)<((b:Rat)*x-(u:Rat))*((b:Rat)*x-(u:Rat))):=by
 have hd:(0:Rat)<((x.den:Int):Rat):=HS.mpr (bT x);have hdd:=Io hd hd;have e1:(((b*x.num-u*(x.den:Int))*(b*x.num-u*(x.den:Int)):Int):Rat)=((b:Rat)*x-(u:Rat))*((b:Rat)*x-(u:Rat))*(((x.den:Int):Rat)*((x.den:Int):Rat)):=by rw[HW,nK];grind
 have e2:((e*(x.den:Int)*(x.den:Int):Int):Rat)=(e:Rat)*(((x.den:Int):Rat)*((x.den:Int):Rat)):=by rw[HW,HW];grind
 have key:∀p q:Rat,(p*(((x.den:Int):Rat)*((x.den:Int):Rat))<q*(((x.den:Int):Rat)*((x.den:Int):Rat)))↔p<q:=λp q=>⟨λh=>IV.mp λz=>by
  have:=Ij z (HG hdd)
  grind,λh=>JA h hdd⟩
 constructor
 ·rw[<- HS,e1,e2,key]
 ·rw[<- HS,e1,e2,key]
theorem o9{u e b:Int}(x:Rat):(0<sdR [u,e,b,1] x↔(b:Rat)*x-(u:Rat)<0\/((b:Rat)*x-(u:Rat))*((b:Rat)*x-(u:Rat))<(e:Rat)):=by have h:sdR [u,e,b,1] x=bD (e*(x.den:Int)*(x.den:Int)) (b*x.num-u*(x.den:Int)):=rfl;rw[h,<- Av,<- (pS u e b x).1];rcases b5 (e*(x.den:Int)*(x.den:Int)) (b*x.num-u*(x.den:Int))with⟨z,w⟩ |⟨z,w⟩ |⟨z,w⟩<;>rw[z]<;>omega
theorem pd{u e b:Int}(x:Rat):(0<sdR [u,e,b,-1] x↔(b:Rat)*x-(u:Rat)<=0/\(e:Rat)<((b:Rat)*x-(u:Rat))*((b:Rat)*x-(u:Rat))):=by
 have h:sdR [u,e,b,-1] x=0-bD (e*(x.den:Int)*(x.den:Int)) (0-(b*x.num-u*(x.den:Int))):=rfl;have e1:(0-(b*x.num-u*(x.den:Int)))*(0-(b*x.num-u*(x.den:Int)))=(b*x.num-u*(x.den:Int))*(b*x.num-u*(x.den:Int)):=by grind
 have hle:(b:Rat)*x-(u:Rat)<=0↔0<=0-(b*x.num-u*(x.den:Int)):=by
  have hd:(0:Rat)<((x.den:Int):Rat):=HS.mpr (bT x);have e3:=nK u b x;constructor
  ·intro h
   have:¬(0<b*x.num-u*(x.den:Int)):=λz=>by have z':=HS.mpr z;rw[e3]at z';have:=HN (show 0 <= -((b:Rat)*x-(u:Rat)) by grind) (HG hd);have e:((0:Int):Rat)=0:=rfl;grind
   omega
  ·intro h;refine IB.mp λz=>?_
   have:=Io z hd;rw[<- e3]at this;have:=HS.mp (show((0:Int):Rat)<_ from this);omega
 rw[h,hle,<- (pS u e b x).2];rcases b5 (e*(x.den:Int)*(x.den:Int)) (0-(b*x.num-u*(x.den:Int)))with⟨z,w⟩ |⟨z,w⟩ |⟨z,w⟩<;>rw[z]<;>rw[e1]at w<;>omega
structure Two(u e b x y x' y':Rat):Prop where
 xp:b*x-u<0\/(b*x-u)*(b*x-u)<e
 yp:0<=b*y-u/\e<=(b*y-u)*(b*y-u)
 xm:b*x'-u<=0/\e<(b*x'-u)*(b*x'-u)
 ym:0<b*y'-u\/(b*y'-u)*(b*y'-u)<=e
theorem xW{a c:Rat}(hc:0<=c)(h:a*a<c*c):a<c:=IV.mp λz=>by have:=HN (show 0<=a-c by grind) (show 0<=a+c by grind);grind
theorem xX{a c:Rat}(hc:0<=c)(h:a*a<=c*c):a<=c:=IB.mp λz=>by have:=Io (show 0<a-c by grind) (show 0<a+c by grind);grind
theorem Two.sum{u e b x y x' y':Rat}(h:Two u e b x y x' y'):2*u<=b*(y+y')/\b*(x+x')<2*u:=by
 obtain⟨xp,yp,xm,ym⟩:=h;constructor
 ·rcases ym with z |z
  ·grind
  ·have : -(b*y'-u)<=b*y-u:=xX yp.1 (by grind);grind
 ·rcases xp with z |z
  ·grind
  ·have:b*x-u < -(b*x'-u):=xW (by grind) (by grind);grind
noncomputable def ev(t:Int):List Int->Int
 | []=>0
 |v::l=>v+t*ev t l
noncomputable def nrm(m a b c:Int):Int:=a*a*a+m*(b*b*b)+m*m*(c*c*c)-3*m*(a*b*c)
theorem mz(m a b c:Int):nrm m (-a) (-b) (-c) = -nrm m a b c:=by unfold nrm;grind
theorem Am(m g a b c:Int):nrm m (g*a) (g*b) (g*c)=g*g*g*nrm m a b c:=by unfold nrm;grind
theorem sw(m a:Int):nrm m a 0 0=a*a*a:=by unfold nrm;grind
theorem Ao(A B C:Rat):(A+B+C)*((A-B)*(A-B)+(B-C)*(B-C)+(C-A)*(C-A))=2*(A*A*A+B*B*B+C*C*C-3*(A*B*C)):=by grind
theorem rsq(x:Rat):0<=x*x:=by
 rcases IA (a:=0) (b:=x)with y |y
 ·exact HN y y
 ·have:0 <= -x:=by grind
  have:=HN this this;grind
theorem yH{x y:Rat}(hy:0<=y)(h:0<x*y):0<x:=IV.mp λz=>by have:=HN (show 0 <= -x by grind) hy;grind
theorem rle{a b:Int}(h:a<=b):(a:Rat)<=(b:Rat):=Rat.intCast_le_intCast.mpr h
theorem mB{m a b c:Int}(h:0<nrm m a b c):∃ε:Rat,0<ε/\∀Z:Rat,Bd ε (Z*Z*Z-(m:Rat))->0<(a:Rat)+b*Z+c*(Z*Z):=by
 obtain⟨p,p0,hp⟩:=oF ((b:Rat)*b*b-3*((a:Rat)*b*c));obtain⟨r,r0,hr⟩:=oF ((c:Rat)*c*c);obtain⟨μ,μ0,hμ⟩:=oF (2*(m:Rat))
 have K0:0<=p+(μ+1)*r:=by have:=HN (show 0<=μ+1 by grind) r0;grind
 have hn:(1:Rat)<=(a:Rat)*a*a+m*((b:Rat)*b*b)+m*m*((c:Rat)*c*c)-3*m*((a:Rat)*b*c):=by
  have h1:(1:Int)<=nrm m a b c:=by omega
  have h2:=rle h1;unfold nrm at h2
  simp only[JB,IH,HW]at h2;exact h2
 obtain⟨K,eK⟩:∃K,p+(μ+1)*r=K:=⟨_,rfl⟩;rw[eK]at K0;have k1:0<2*(K+1):=by grind
 have k2:1/(2*(K+1))*(2*(K+1))=1:=HX (by grind);have e0:0<1/(2*(K+1)):=by rw[Rat.div_def,Rat.one_mul];exact Rat.inv_pos.mpr k1
 generalize 1/(2*(K+1))=ε at k2 e0
 have eK0:0<=ε*K:=HN (HG e0) K0;have e1:ε<=1/2:=by grind
 have e2:ε*K<=1/2:=by grind
 refine⟨ε,e0,λZ hZ=>?_⟩;have d1:Bd (1:Rat) (Z*Z*Z-(m:Rat)):=hZ.mono (by grind);have d2:=hμ.add d1;have d3:=d2.mul hr;have d4:=hp.add d3;rw[eK]at d4;have d5:=hZ.mul d4;have d6:=d5.1;refine yH (y:=((a:Rat)-b*Z)*((a:Rat)-b*Z)+((b:Rat)*Z-c*(Z*Z))*((b:Rat)*Z-c*(Z*Z))+((c:Rat)*(Z*Z)-a)*((c:Rat)*(Z*Z)-a)) ?_ ?_
 ·have:=rsq ((a:Rat)-b*Z);have:=rsq ((b:Rat)*Z-c*(Z*Z));have:=rsq ((c:Rat)*(Z*Z)-a);grind
 ·rw[Ao];have e3:(a:Rat)*a*a+(b:Rat)*Z*((b:Rat)*Z)*((b:Rat)*Z)+(c:Rat)*(Z*Z)*((c:Rat)*(Z*Z))*((c:Rat)*(Z*Z))-3*((a:Rat)*((b:Rat)*Z)*((c:Rat)*(Z*Z)))=((a:Rat)*a*a+m*((b:Rat)*b*b)+m*m*((c:Rat)*c*c)-3*m*((a:Rat)*b*c))+(Z*Z*Z-(m:Rat))*((b:Rat)*b*b-3*((a:Rat)*b*c)+(2*(m:Rat)+(Z*Z*Z-(m:Rat)))*((c:Rat)*c*c)):=by grind
  rw[e3];generalize (Z*Z*Z-(m:Rat))*((b:Rat)*b*b-3*((a:Rat)*b*c)+(2*(m:Rat)+(Z*Z*Z-(m:Rat)))*((c:Rat)*c*c))=D at d6 ⊢
  generalize (a:Rat)*a*a+m*((b:Rat)*b*b)+m*m*((c:Rat)*c*c)-3*m*((a:Rat)*b*c)=N at hn ⊢
  grind
theorem DA(X:Nat):∃k:Nat,k*k*k<=X/\X<(k+1)*(k+1)*(k+1):=by
 induction X with
 |zero=>exact⟨0,by decide,by decide⟩
 |succ X ih =>
  obtain⟨k,h1,h2⟩:=ih;by_cases h:(k+1)*(k+1)*(k+1)<=X+1
  ·refine⟨k+1,h,?_⟩;have e:(k+1+1)*(k+1+1)*(k+1+1)=(k+1)*(k+1)*(k+1)+3*((k+1)*(k+1))+3*(k+1)+1:=by grind
   omega
  ·exact⟨k,by omega,by omega⟩
theorem Dz{m:Nat}(hm:0<m){ε:Rat}(hε:0<ε):∃Z:Rat,0<=Z/\Bd ε (Z*Z*Z-((m:Int):Rat)):=by
 obtain⟨n0,hn0⟩:=vI (6*((m:Rat)*(m:Rat))/ε)
 obtain⟨n,hn,n1⟩:∃n:Nat,6*((m:Rat)*(m:Rat))<=ε*(n:Rat)/\1<=n:=by
  refine⟨n0+1,?_,by omega⟩;have e:6*((m:Rat)*(m:Rat))/ε*ε=6*((m:Rat)*(m:Rat)):=HX (by grind);have h1:=Ij hn0 (HG hε);rw[e]at h1;have h2:((n0+1:Nat):Rat)=(n0:Rat)+1:=by simp
  rw[h2];grind
 obtain⟨k,k1,k2⟩:=DA (m*(n*n*n))
 have kq:k<=m*n:=Nat.not_lt.mp λz=>by
  have h1:(m*n+1)*(m*n+1)*(m*n+1)<=k*k*k:=Jw (Jw z z) z
  have h2:m*(n*n*n)<=m*n*(m*n)*(m*n):=by
   have:m*(n*n*n)*1<=m*(n*n*n)*(m*m):=Jh _ (Nat.mul_pos hm hm);have e:m*n*(m*n)*(m*n)=m*(n*n*n)*(m*m):=by grind
   omega
  have h3:m*n*(m*n)*(m*n)<(m*n+1)*(m*n+1)*(m*n+1):=by
   have e:(m*n+1)*(m*n+1)*(m*n+1)=m*n*(m*n)*(m*n)+3*(m*n*(m*n))+3*(m*n)+1:=by grind
   omega
  omega
 have gap:m*(n*n*n)<=k*k*k+6*(m*n*(m*n)):=by
  have e:(k+1)*(k+1)*(k+1)=k*k*k+3*(k*k)+3*k+1:=by grind
  have h1:k*k<=m*n*(m*n):=Jw kq kq;have h2:m*n*1<=m*n*(m*n):=Jh _ (Nat.mul_pos hm n1);omega
 have np:(0:Rat)<(n:Rat):=by have:=rle (show(1:Int)<=((n:Nat):Int) by omega);have e:(((n:Nat):Int):Rat)=(n:Rat):=rfl;grind
 have c1:(k:Rat)*k*k<=(m:Rat)*((n:Rat)*n*n):=by have:=rle (show((k*k*k:Nat):Int)<=((m*(n*n*n):Nat):Int) by omega);simp only[Jj,HW]at this;exact this
 have c2:(m:Rat)*((n:Rat)*n*n)<=(k:Rat)*k*k+6*((m:Rat)*n*((m:Rat)*n)):=by have:=rle (show((m*(n*n*n):Nat):Int)<=((k*k*k+6*(m*n*(m*n)):Nat):Int) by omega);simp only[Jj,Int.natCast_add,HW,IH]at this;exact this
 have ez:(k:Rat)/(n:Rat)*(n:Rat)=(k:Rat):=HX (by grind)
 have z0:0<=(k:Rat)/(n:Rat):=by rw[Rat.div_def];refine HN ?_ (HG (Rat.inv_pos.mpr np));exact rle (show(0:Int)<=((k:Nat):Int) by omega)
 have em:(((m:Nat):Int):Rat)=(m:Rat):=rfl;rw[em];generalize (k:Rat)/(n:Rat)=Z at ez z0
 refine⟨Z,z0,?_⟩;have n3:0<(n:Rat)*n*n:=Io (Io np np) np;have e3:Z*Z*Z*((n:Rat)*n*n)=(k:Rat)*k*k:=by rw[<- ez];grind
 have h6:6*((m:Rat)*n*((m:Rat)*n))<=ε*((n:Rat)*n*n):=by have:=Ij hn (HG (Io np np));grind
 constructor
 ·refine IB.mp λz=>?_
  have:=JA z n3;grind
 ·refine IB.mp λz=>?_
  have:=JA z n3;have:=Io hε n3;grind
def NCb(m:Int):Prop:=0<m/\∀a b c:Int,nrm m a b c=0->a=0/\b=0/\c=0
theorem Aq{m:Int}(hm:NCb m){a b c a' b' c':Int}(h:0<nrm m a b c)(h':0<nrm m a' b' c'):0<nrm m (a+a') (b+b') (c+c'):=by
 obtain⟨ε1,p1,q1⟩:=mB h;obtain⟨ε2,p2,q2⟩:=mB h'
 have near:∀{x y z:Int},nrm m x y z<0->∃ε:Rat,0<ε/\∀Z:Rat,Bd ε (Z*Z*Z-(m:Rat))->(x:Rat)+y*Z+z*(Z*Z)<0:=λ{x y z} hn=>by obtain⟨ε,p,q⟩:=mB (m:=m) (a := -x) (b := -y) (c := -z) (by rw[mz];omega);refine⟨ε,p,λZ hZ=>?_⟩;have:=q Z hZ;simp only[Rat.intCast_neg]at this;grind
 have two:∀u v:Rat,0<u->0<v->∃w:Rat,0<w/\w<=u/\w<=v:=λu v hu hv=>by
  rcases IA (a:=u) (b:=v)with z |z
  ·exact⟨u,hu,by grind,z⟩
  ·exact⟨v,hv,z,by grind⟩
 rcases Int.lt_trichotomy 0 (nrm m (a+a') (b+b') (c+c'))with z |z |z
 ·exact z
 ·obtain⟨z1,z2,z3⟩:=hm.2 _ _ _ z.symm;have e1:a' = -a:=by omega
  have e2:b' = -b:=by omega
  have e3:c' = -c:=by omega
  rw[e1,e2,e3,mz]at h';omega
 ·obtain⟨ε3,p3,q3⟩:=near z;obtain⟨w1,w0,w2,w3⟩:=two ε1 ε2 p1 p2;obtain⟨w,wp,w4,w5⟩:=two w1 ε3 w0 p3;obtain⟨M,eM⟩:∃M:Nat,m=(M:Int):=⟨m.toNat,by have:=hm.1;omega⟩;subst eM;obtain⟨Z,_,hZ⟩:=Dz (m:=M) (by have:=hm.1;omega) wp;have r1:=q1 Z (hZ.mono (by grind));have r2:=q2 Z (hZ.mono (by grind));have r3:=q3 Z (hZ.mono w5);simp only[IH]at r3;grind
theorem nO{p n:Int}(hp:0<p)(h:∀r:Int,0<=r->r<p->p∣n*(r*r*r)->r=0){x:Int}(hx:p∣n*(x*x*x)):p∣x:=by
 have r0:=JC x (show p≠0 by omega);have r1:=JD x hp;have e:=Int.mul_ediv_add_emod x p;refine Int.dvd_of_emod_eq_zero (h _ r0 r1 ?_);generalize x%p=r at *
 generalize x/p=k at *
 have e2:n*(r*r*r)=n*(x*x*x)-p*(n*k*(x*x+x*r+r*r)):=by rw[<- e];grind
 rw[e2];exact Int.dvd_sub hx (Int.dvd_mul_right _ _)
theorem Ap{p n:Int}(hp:1<p)(h1:∀x:Int,p∣1*(x*x*x)->p∣x)(h2:∀x:Int,p∣n*(x*x*x)->p∣x)(h3:∀x:Int,p∣n*n*(x*x*x)->p∣x):∀(N:Nat) (a b c:Int),a.natAbs+b.natAbs+c.natAbs<=N->nrm (p*n) a b c=0->a=0/\b=0/\c=0:=by
 intro N
 induction N with
 |zero=>intro a b c hl _;omega
 |succ N ih =>
  intro a b c hl h0;unfold nrm at h0
  obtain⟨a1,rfl⟩:=h1 a ⟨-(n*(b*b*b)+p*n*n*(c*c*c)-3*n*(a*b*c)),by grind⟩;have q1:p*(p*p*(a1*a1*a1)+n*(b*b*b)+p*n*n*(c*c*c)-3*p*n*(a1*b*c))=p*0:=by grind
  have q1':=Jv (show p≠0 by omega) q1;obtain⟨b1,rfl⟩:=h2 b ⟨-(p*(a1*a1*a1)+n*n*(c*c*c)-3*n*(a1*b*c)),by grind⟩;have q2:p*(p*(a1*a1*a1)+p*p*n*(b1*b1*b1)+n*n*(c*c*c)-3*p*n*(a1*b1*c))=p*0:=by grind
  have q2':=Jv (show p≠0 by omega) q2;obtain⟨c1,rfl⟩:=h3 c ⟨-(a1*a1*a1+p*n*(b1*b1*b1)-3*n*(a1*b1*c)),by grind⟩;have q3:p*nrm (p*n) a1 b1 c1=p*0:=by unfold nrm;grind
  have q3':=Jv (show p≠0 by omega) q3;by_cases hz:a1=0/\b1=0/\c1=0
  ·obtain⟨rfl,rfl,rfl⟩:=hz;simp
  ·have le:∀x:Int,(p*x).natAbs=p.natAbs*x.natAbs:=λx=>Ig _ _
   rw[le,le,le]at hl;have hp2:2<=p.natAbs:=by omega
   have m1:=IG a1.natAbs hp2;have m2:=IG b1.natAbs hp2;have m3:=IG c1.natAbs hp2;exact absurd (ih a1 b1 c1 (by omega) q3') hz
theorem gL{p n m:Int}(e:m=p*n)(m0:0<m)(hp:1<p)(h1:∀r:Int,0<=r->r<p->p∣1*(r*r*r)->r=0)(h2:∀r:Int,0<=r->r<p->p∣n*(r*r*r)->r=0)(h3:∀r:Int,0<=r->r<p->p∣n*n*(r*r*r)->r=0):NCb m:=by subst e;exact⟨m0,λa b c h=>Ap hp (λx=>nO (by omega) h1) (λx=>nO (by omega) h2) (λx=>nO (by omega) h3) _ a b c (Ht _) h⟩
theorem Az:NCb 4:=by
 refine⟨by decide,λa b c h=>?_⟩;have h2:NCb 2:=gL (p:=2) (n:=1) rfl (by decide) (by decide) (λr h0 h1=>by rcases(show r=0\/r=1 by omega)with rfl |rfl<;>decide) (λr h0 h1=>by rcases(show r=0\/r=1 by omega)with rfl |rfl<;>decide) (λr h0 h1=>by rcases(show r=0\/r=1 by omega)with rfl |rfl<;>decide);have e:nrm 2 a (2*c) b=nrm 4 a b c:=by unfold nrm;grind
 have:=h2.2 a (2*c) b (by rw[e];exact h);omega
theorem Ay{m:Int}(h1:2<=m)(h2:m<=7):NCb m:=by
 rcases(show m=2\/m=3\/m=4\/m=5\/m=6\/m=7 by omega)with rfl |rfl |rfl |rfl |rfl |rfl
 ·exact gL (p:=2) (n:=1) rfl (by decide) (by decide) (λr h0 h1=>by rcases(show r=0\/r=1 by omega)with rfl |rfl<;>decide) (λr h0 h1=>by rcases(show r=0\/r=1 by omega)with rfl |rfl<;>decide) (λr h0 h1=>by rcases(show r=0\/r=1 by omega)with rfl |rfl<;>decide)
 ·exact gL (p:=3) (n:=1) rfl (by decide) (by decide) (λr h0 h1=>by rcases(show r=0\/r=1\/r=2 by omega)with rfl |rfl |rfl<;>decide) (λr h0 h1=>by rcases(show r=0\/r=1\/r=2 by omega)with rfl |rfl |rfl<;>decide) (λr h0 h1=>by rcases(show r=0\/r=1\/r=2 by omega)with rfl |rfl |rfl<;>decide)
 ·exact Az
 ·have k:∀r:Int,0<=r->r<5->(5:Int)∣1*(r*r*r)->r=0:=λr h0 h1=>by rcases(show r=0\/r=1\/r=2\/r=3\/r=4 by omega)with rfl |rfl |rfl |rfl |rfl<;>decide
  exact gL (p:=5) (n:=1) rfl (by decide) (by decide) k k k
 ·exact gL (p:=2) (n:=3) rfl (by decide) (by decide) (λr h0 h1=>by rcases(show r=0\/r=1 by omega)with rfl |rfl<;>decide) (λr h0 h1=>by rcases(show r=0\/r=1 by omega)with rfl |rfl<;>decide) (λr h0 h1=>by rcases(show r=0\/r=1 by omega)with rfl |rfl<;>decide)
 ·have k:∀r:Int,0<=r->r<7->(7:Int)∣1*(r*r*r)->r=0:=λr h0 h1=>by rcases(show r=0\/r=1\/r=2\/r=3\/r=4\/r=5\/r=6 by omega)with rfl |rfl |rfl |rfl |rfl |rfl |rfl<;>decide
  exact gL (p:=7) (n:=1) rfl (by decide) (by decide) k k k
noncomputable def aP(m a b c t n:Int):Int:=nrm m (a*n-t) (b*n) (c*n)
theorem gm{m a b c t n:Int}(hm:NCb m)(hbc:¬(b=0/\c=0))(hn:0<n):aP m a b c t n≠0:=λz=>by
 obtain⟨_,h1,h2⟩:=hm.2 _ _ _ z;rcases Ic.mp h1 with y |y
 ·rcases Ic.mp h2 with y' |y'
  ·exact hbc ⟨y,y'⟩
  ·omega
 ·omega
theorem j3{x:Int}(h:0<x):0<x*x*x:=HF (HF h h) h
theorem sx{m g a b c:Int}(hg:0<g):(0<nrm m (g*a) (g*b) (g*c)↔0<nrm m a b c):=by
 rw[Am];have:=j3 hg;constructor
 ·intro h;exact Int.not_le.mp λz=>by have:=Int.mul_nonpos_of_nonneg_of_nonpos (HD this) z;omega
 ·intro h;exact HF this h
theorem ke{m a b c t n t' n':Int}(hm:NCb m)(hn:0<n)(hn':0<n')(hle:t'*n<=t*n')(h:0<aP m a b c t n):0<aP m a b c t' n':=by
 unfold aP at *
 rw[<- sx (g:=n') hn']at h;rw[<- sx (g:=n) hn];rcases Int.lt_or_eq_of_le hle with z |z
 ·have r:0<nrm m (t*n'-t'*n) 0 0:=by rw[sw];exact j3 (by omega)
  have s:=Aq hm h r;have e1:n'*(a*n-t)+(t*n'-t'*n)=n*(a*n'-t'):=by grind
  have e2:n'*(b*n)+0=n*(b*n'):=by grind
  have e3:n'*(c*n)+0=n*(c*n'):=by grind
  rwa [e1,e2,e3]at s
 ·have e1:n*(a*n'-t')=n'*(a*n-t):=by grind
  have e2:n*(b*n')=n'*(b*n):=by grind
  have e3:n*(c*n')=n'*(c*n):=by grind
  rw[e1,e2,e3];exact h
structure Tri where
 a:Int
 b:Int
 c:Int
noncomputable def Tri.mul(m:Int)(x y:Tri):Tri:=⟨x.a*y.a+m*(x.b*y.c+x.c*y.b),x.a*y.b+x.b*y.a+m*(x.c*y.c),x.a*y.c+x.b*y.b+x.c*y.a⟩
noncomputable def Tri.nrm(m:Int)(x:Tri):Int:=RM.nrm m x.a x.b x.c
theorem An(m:Int)(x y:Tri):(x.mul m y).nrm m=x.nrm m*y.nrm m:=by obtain⟨a,b,c⟩:=x;obtain⟨d,e,f⟩:=y;show RM.nrm m (a*d+m*(b*f+c*e)) (a*e+b*d+m*(c*f)) (a*f+b*e+c*d)=RM.nrm m a b c*RM.nrm m d e f;unfold RM.nrm;grind
noncomputable def Tri.lin(x y:Int)(u v:Tri):Tri:=⟨x*u.a+y*v.a,x*u.b+y*v.b,x*u.c+y*v.c⟩
noncomputable def evC(m:Int)(g:Tri):List Int->Tri
 | []=>⟨0,0,0⟩
 |v::l=>⟨v+(g.mul m (evC m g l)).a,(g.mul m (evC m g l)).b,(g.mul m (evC m g l)).c⟩
theorem Tri.ext'{x y:Tri}(h1:x.a=y.a)(h2:x.b=y.b)(h3:x.c=y.c):x=y:=by cases x;cases y;subst h1 h2 h3;rfl
theorem oe(l:List Int)(k:Nat):cf l.tail k=cf l (k+1):=by
 cases l with
 |nil=>rw[List.tail_nil,ca,ca]
 |cons v l=>rfl
theorem nJ(m:Int)(g:Tri)(l:List Int):evC m g l=⟨cf l 0+(g.mul m (evC m g l.tail)).a,(g.mul m (evC m g l.tail)).b,(g.mul m (evC m g l.tail)).c⟩:=by
 cases l with
 |nil =>show(⟨0,0,0⟩:Tri)=_;rw[ca];refine Tri.ext' ?_ ?_ ?_<;>(show(0:Int)=_;unfold Tri.mul evC;simp)
 |cons v l=>rfl
theorem uF{m x y:Int}{g:Tri}:∀(n:Nat) (a b c:List Int),a.length<=n->b.length<=n->c.length<=n->(∀k,cf c k=x*cf a k+y*cf b k)->evC m g c=Tri.lin x y (evC m g a) (evC m g b)
 |0,a,b,c,ha,hb,hc,_=>by rw[Iu.mp (Jf.mp ha),Iu.mp (Jf.mp hb),Iu.mp (Jf.mp hc)];refine Tri.ext' ?_ ?_ ?_<;>(show(0:Int)=x*0+y*0;simp)
 |n+1,a,b,c,ha,hb,hc,h=>by
  have ih:=uF (m:=m) (g:=g) (x:=x) (y:=y) n a.tail b.tail c.tail (by rw[List.length_tail];omega) (by rw[List.length_tail];omega) (by rw[List.length_tail];omega) λk=>by rw[oe,oe,oe,h]
  rw[nJ m g a,nJ m g b,nJ m g c,ih,h 0];generalize evC m g a.tail=A;generalize evC m g b.tail=B;refine Tri.ext' ?_ ?_ ?_
  ·show x*cf a 0+y*cf b 0+(g.a*(x*A.a+y*B.a)+m*(g.b*(x*A.c+y*B.c)+g.c*(x*A.b+y*B.b)))=x*(cf a 0+(g.a*A.a+m*(g.b*A.c+g.c*A.b)))+y*(cf b 0+(g.a*B.a+m*(g.b*B.c+g.c*B.b)));grind
  ·show g.a*(x*A.b+y*B.b)+g.b*(x*A.a+y*B.a)+m*(g.c*(x*A.c+y*B.c))=x*(g.a*A.b+g.b*A.a+m*(g.c*A.c))+y*(g.a*B.b+g.b*B.a+m*(g.c*B.c));grind
  ·show g.a*(x*A.c+y*B.c)+g.b*(x*A.b+y*B.b)+g.c*(x*A.a+y*B.a)=x*(g.a*A.c+g.b*A.b+g.c*A.a)+y*(g.a*B.c+g.b*B.b+g.c*B.a);grind
theorem jX{m x y:Int}{g:Tri}{a b c:List Int}(h:∀k,cf c k=x*cf a k+y*cf b k):evC m g c=Tri.lin x y (evC m g a) (evC m g b) :=
 uF (max a.length (max b.length c.length)) a b c (by omega) (by omega) (by omega) h
theorem jW(m:Int)(g:Tri):∀a b:List Int,evC m g (ae a b)=(evC m g a).mul m (evC m g b)
 | [],b=>by
  have:ae [] b=[]:=by unfold ae;rw[if_pos (.inl rfl)]
  rw[this];refine Tri.ext' ?_ ?_ ?_<;>(show(0:Int)=_;unfold Tri.mul evC;simp)
 |x::a,b=>by
  have e:∀k,cf (ae (x::a) b) k=x*cf b k+1*cf (0::ae a b) k:=λk=>by
   rw[aB,cW,iQ,HV]
   congr 1
   unfold up;split
   ·rfl
   ·rw[aB]
  rw[jX e];have e2:evC m g (0::ae a b)=⟨0+(g.mul m (evC m g (ae a b))).a,(g.mul m (evC m g (ae a b))).b,(g.mul m (evC m g (ae a b))).c⟩:=rfl;have e3:evC m g (x::a)=⟨x+(g.mul m (evC m g a)).a,(g.mul m (evC m g a)).b,(g.mul m (evC m g a)).c⟩:=rfl;rw[e2,e3,jW m g a b];generalize evC m g a=A;generalize evC m g b=B;refine Tri.ext' ?_ ?_ ?_<;>(simp only[Tri.lin,Tri.mul];grind)
noncomputable def aK(m a b c:Int):List Int:=[-nrm m a b c,3*(a*a)-3*m*(b*c),-3*a,1]
theorem uG(m a b c:Int):evC m ⟨a,b,c⟩ (aK m a b c)=⟨0,0,0⟩:=by refine Tri.ext' ?_ ?_ ?_<;>(simp only[evC,aK,Tri.mul,nrm];grind)
theorem wv{m:Int}(hm:NCb m){x y:Tri}(h:x.mul m y=⟨0,0,0⟩):x=⟨0,0,0⟩\/y=⟨0,0,0⟩:=by
 have e:=An m x y;rw[h]at e;have e0:Tri.nrm m ⟨0,0,0⟩=0:=by show nrm m 0 0 0=0;unfold nrm;simp
 rw[e0]at e;rcases Ic.mp e.symm with z |z
 ·obtain⟨h1,h2,h3⟩:=hm.2 _ _ _ z;exact .inl (Tri.ext' h1 h2 h3)
 ·obtain⟨h1,h2,h3⟩:=hm.2 _ _ _ z;exact .inr (Tri.ext' h1 h2 h3)
theorem BC{m a b c:Int}(hm:NCb m)(hbc:¬(b=0/\c=0)){l:List Int}(hl:l.length<=3)(h:evC m ⟨a,b,c⟩ l=⟨0,0,0⟩):∀k,cf l k=0:=by
 have key:∀r0 r1 r2:Int,evC m ⟨a,b,c⟩ [r0,r1,r2]=⟨0,0,0⟩->r0=0/\r1=0/\r2=0:=λr0 r1 r2 h=>by
  have ha:=congrArg Tri.a h;have hb:=congrArg Tri.b h;have hc:=congrArg Tri.c h;simp only[evC,Tri.mul]at ha hb hc;have e1:r2*(m*(c*c*c)-b*b*b)=0:=by grind
  have e2:r2=0:=by
   rcases Ic.mp e1 with z |z
   ·exact z
   ·have:nrm m b (-c) 0=0:=by unfold nrm;grind
    obtain⟨y1,y2,_⟩:=hm.2 _ _ _ this;exact absurd ⟨y1,by omega⟩ hbc
  subst e2;have e3:r1*b=0:=by grind
  have e4:r1*c=0:=by grind
  have e5:r1=0:=by
   rcases Ic.mp e3 with z |z
   ·exact z
   ·rcases Ic.mp e4 with z' |z'
    ·exact z'
    ·exact absurd ⟨z,z'⟩ hbc
  subst e5;refine⟨by grind,rfl,rfl⟩
 have e:evC m ⟨a,b,c⟩ [cf l 0,cf l 1,cf l 2]=evC m ⟨a,b,c⟩ l:=by
  have:=jX (m:=m) (g:=⟨a,b,c⟩) (x:=1) (y:=0) (a:=l) (b:=[]) (c:=[cf l 0,cf l 1,cf l 2]) (λk=>by
   rw[ca];rcases k with _ |_ |_ |k
   ·show cf l 0=1*cf l 0+0*0;omega
   ·show cf l 1=1*cf l 1+0*0;omega
   ·show cf l 2=1*cf l 2+0*0;omega
   ·rw[aR (by simp),aR (by omega)];simp)
  rw[this];refine Tri.ext' ?_ ?_ ?_<;>(simp only[Tri.lin,evC];omega)
 obtain⟨z0,z1,z2⟩:=key _ _ _ (by rw[e];exact h);intro k;rcases k with _ |_ |_ |k
 ·exact z0
 ·exact z1
 ·exact z2
 ·exact aR (by omega)
theorem nQ(m a b c:Int):Tr (aK m a b c):=(tr_snoc (r:=[-nrm m a b c,3*(a*a)-3*m*(b*c),-3*a])).mpr (by decide)
theorem gd(m a b c:Int):Pln (aK m a b c):=by refine⟨nQ m a b c,by unfold aK;simp,?_,by show(0:Int)<1;decide⟩;show Nat.gcd (Nat.gcd (Nat.gcd (Nat.gcd 0 _) _) _) (1:Int).natAbs=1;exact Nat.gcd_one_right _
theorem nU{m a b c:Int}(hm:NCb m)(hbc:¬(b=0/\c=0)){f:List Int}:Dv (aK m a b c) f↔evC m ⟨a,b,c⟩ f=⟨0,0,0⟩:=by
 have hne:aK m a b c≠[]:=(gd m a b c).ne;constructor
 ·rintro⟨k,q,k0,e⟩;have h1:evC m ⟨a,b,c⟩ (ae q (aK m a b c))=Tri.lin k 0 (evC m ⟨a,b,c⟩ f) (evC m ⟨a,b,c⟩ []):=jX λn=>by rw[aB,<- e,ca];simp
  rw[jW,uG]at h1;generalize evC m ⟨a,b,c⟩ q=X at h1
  generalize evC m ⟨a,b,c⟩ f=Y at h1 ⊢
  have ha:=congrArg Tri.a h1;have hb:=congrArg Tri.b h1;have hc:=congrArg Tri.c h1;simp only[Tri.mul,Tri.lin,evC]at ha hb hc;have z:∀y:Int,k*y=0->y=0:=λy hy=>(Ic.mp hy).resolve_left k0
  exact Tri.ext' (z _ (by grind)) (z _ (by grind)) (z _ (by grind))
 ·intro h;have e:=λn=>fw (a:=f) (b:=aK m a b c) hne n
  have f0:=iO (a:=f) hne (nQ m a b c);have lr:=fv (a:=f) hne;have h1:evC m ⟨a,b,c⟩ (ao f (aK m a b c))=Tri.lin (aO f (aK m a b c)) (-1) (evC m ⟨a,b,c⟩ f) (evC m ⟨a,b,c⟩ (ae (aQ f (aK m a b c)) (aK m a b c))):=jX λn=>by rw[aB,e];omega
  rw[jW,uG,h]at h1
  have h2:evC m ⟨a,b,c⟩ (ao f (aK m a b c))=⟨0,0,0⟩:=by rw[h1];refine Tri.ext' ?_ ?_ ?_<;>(simp only[Tri.lin,Tri.mul];grind)
  have z:=BC hm hbc (by have:(aK m a b c).length=4:=rfl;omega) h2;exact⟨_,aQ f (aK m a b c),f0,λn=>by rw[e,z n];omega⟩
theorem uY{m a b c:Int}(hm:NCb m)(hbc:¬(b=0/\c=0)):Pri (aK m a b c):=by refine⟨gd m a b c,by show 2<=4;decide,λf g h=>?_⟩;rw[nU hm hbc,jW]at h;rw[nU hm hbc,nU hm hbc];exact wv hm h
theorem nS(m a b c t n:Int):hv t n (aK m a b c) = -(n*aP m a b c t n):=by simp only[aK,hv,aP,nrm,Ie,List.length_nil];grind
def OneSg(p:List Int)(l1 l2 h1 h2:Int):Prop:=∃s:Int,(s=1\/s = -1)/\∀t n,0<n->l1*n<=t*l2->t*h2<=h1*n->sg (hv t n p)=s
theorem zh(l1 l2 h1 h2:Int):OneSg [1] l1 l2 h1 h2:=⟨1,.inl rfl,λt n hn _ _=>by
 have:hv t n [1]=n:=by simp[hv,Iy]
 rw[this];unfold sg;rw[if_neg (by omega),if_pos hn]⟩
theorem kE{n:Int}(h:0<n):sg n=1:=by unfold sg;rw[if_neg (by omega),if_pos h]
theorem kG{t n:Int}(hn:0<n){a b:List Int}(ha:a≠[])(hb:b≠[]):sg (hv t n (ae a b))=sg (hv t n a)*sg (hv t n b):=by rw[<- gw,<- jP t n hb ha,gw,kE hn,HV]
theorem OneSg.mul{p q:List Int}{l1 l2 h1 h2:Int}(hp:OneSg p l1 l2 h1 h2)(hq:OneSg q l1 l2 h1 h2)(pn:p≠[])(qn:q≠[]):OneSg (ae p q) l1 l2 h1 h2:=by obtain⟨s,s1,hs⟩:=hp;obtain⟨r,r1,hr⟩:=hq;refine⟨s*r,by rcases s1 with rfl |rfl<;>rcases r1 with rfl |rfl<;>simp,λt n hn a b=>?_⟩;rw[kG hn pn qn,hs t n hn a b,hr t n hn a b]
theorem sn{l1 l2 h1 h2:Int}:∀ps:List (List Int),(∀p∈ps,p≠[]/\OneSg p l1 l2 h1 h2)->OneSg (prd ps) l1 l2 h1 h2/\prd ps≠[]
 | [],_=>⟨zh _ _ _ _,by show([1]:List Int)≠[];simp⟩
 |p::ps,h=>by
  obtain⟨i1,i2⟩:=sn ps λx hx=>h x (HC _ hx)
  obtain⟨j1,j2⟩:=h p (HE ..);exact⟨j2.mul i1 j1 i2,gN j1 i2⟩
structure CbN(m a b c:Int)(rs:List (List Int))(kp:List Int)(l1 l2 h1 h2:Int):Prop where
 nc:NCb m
 bc:¬(b=0/\c=0)
 is:kp=ae (aK m a b c) (prd rs)
 rs:∀p∈rs,Pri p/\p.length<=3/\OneSg p l1 l2 h1 h2
 l2p:0<l2
 h2p:0<h2
theorem CbN.sign{m a b c:Int}{rs:List (List Int)}{kp:List Int}{l1 l2 h1 h2:Int}(N:CbN m a b c rs kp l1 l2 h1 h2):∃s:Int,(s=1\/s = -1)/\∀t n,0<n->l1*n<=t*l2->t*h2<=h1*n->sg (hv t n kp) = -sg (aP m a b c t n)*s:=by
 obtain⟨⟨s,s1,hs⟩,pn⟩:=sn rs λp hp=>⟨(N.rs p hp).1.pln.ne,(N.rs p hp).2.2⟩
 refine⟨s,s1,λt n hn x y=>?_⟩;rw[N.is,kG hn (gd m a b c).ne pn,hs t n hn x y,nS,kD,gw,kE hn,HV]
structure CubOk(a b c m:Int):Prop where
 a9 : -9<=a/\a<=9
 b3 : -3<=b/\b<=3
 c3 : -3<=c/\c<=3
 m2:2<=m
 m7:m<=7
 bc:¬(b=0/\c=0)
theorem CubOk.nc{a b c m:Int}(h:CubOk a b c m):NCb m:=Ay h.m2 h.m7
noncomputable def hfS(m a b c:Int)(s:Int×Int×Int):Int×Int×Int:=if aP m a b c (s.1+s.2.1) (2*s.2.2)<=0 then(2*s.1,s.1+s.2.1,2*s.2.2)else(s.1+s.2.1,2*s.2.1,2*s.2.2)
structure SpI(m a b c:Int)(s:Int×Int×Int)(j:Nat):Prop where
 n:s.2.2=2^j
 w:s.2.1=s.1+128
 l : -64*s.2.2<=s.1
 h:s.2.1<=64*s.2.2
 lp:0<aP m a b c s.1 s.2.2
 hn:aP m a b c s.2.1 s.2.2<0
theorem iZ(m a b c t n:Int):aP m a b c (2*t) (2*n)=8*aP m a b c t n:=by unfold aP nrm;grind
theorem uX{b:Int}(h : -3<=b/\b<=3) : -27<=b*b*b/\b*b*b<=27:=by
 have:b = -3\/b = -2\/b = -1\/b=0\/b=1\/b=2\/b=3:=by omega
 rcases this with rfl |rfl |rfl |rfl |rfl |rfl |rfl<;>decide
theorem ck{x y:Int}{p q:Nat}(hx:x.natAbs<=p)(hy:y.natAbs<=q):(x*y).natAbs<=p*q:=by rw[Ig];exact Jw hx hy
theorem CubOk.small{a b c m:Int}(h:CubOk a b c m):(m*(b*b*b)).natAbs<=7*27/\(m*m*(c*c*c)).natAbs<=7*7*27/\(3*m*(b*c)).natAbs<=3*7*(3*3):=by obtain⟨a9,b3,c3,m2,m7,_⟩:=h;have q1:=uX b3;have q2:=uX c3;exact⟨ck (by omega) (by omega),ck (ck (by omega) (by omega)) (by omega),ck (ck (by decide) (by omega)) (ck (by omega) (by omega))⟩
theorem mC(m x b c:Int):nrm m x b c=x*x*x+m*(b*b*b)+m*m*(c*c*c)-3*m*(b*c)*x:=by unfold nrm;grind
theorem sy{a b c m x:Int}(h:CubOk a b c m)(h1:55<=x)(h2:x<=73):0<nrm m x b c:=by obtain⟨s1,s2,s3⟩:=h.small;have q1:55*55<=x*x:=Je h1 h1 (by decide) (by omega);have q2:55*55*55<=x*x*x:=Je q1 h1 (by decide) (by omega);have q3:(3*m*(b*c)*x).natAbs<=3*7*(3*3)*73:=ck s3 (by omega);rw[mC];omega
theorem CubOk.neg{a b c m:Int}(h:CubOk a b c m):CubOk (-a) (-b) (-c) m:=⟨by have:=h.a9;omega,by have:=h.b3;omega,by have:=h.c3;omega,h.m2,h.m7,λz=>h.bc ⟨by omega,by omega⟩⟩
theorem SpI.first{a b c m:Int}(h:CubOk a b c m):SpI m a b c (-64,64,1) 0:=by
 have ha:=h.a9;refine⟨rfl,rfl,by decide,by decide,?_,?_⟩
 ·show 0<nrm m (a*1 - -64) (b*1) (c*1);rw[Il,Il,Il];exact sy h (by omega) (by omega)
 ·show nrm m (a*1-64) (b*1) (c*1)<0;rw[Il,Il,Il];have:=sy (x:=64-a) h.neg (by omega) (by omega);have e:=mz m (a-64) b c;rw[show -(a-64)=64-a by omega]at e;omega
theorem SpI.half{a b c m:Int}(h:CubOk a b c m){s:Int×Int×Int}{j:Nat}(S:SpI m a b c s j):SpI m a b c (hfS m a b c s) (j+1):=by
 obtain⟨n,w,l,hh,lp,hn⟩:=S;have hn0:0<s.2.2:=by rw[n];exact Int.pow_pos (by decide)
 have ne:=gm (t:=s.1+s.2.1) h.nc h.bc (show 0<2*s.2.2 by omega) (a:=a);have e2:2*s.2.2=2^(j+1):=by rw[n,Iy,Im]
 unfold hfS;split
 ·rename_i z
  exact⟨e2,by show s.1+s.2.1=2*s.1+128;omega,by show -64*(2*s.2.2)<=2*s.1;omega,by show s.1+s.2.1<=64*(2*s.2.2);omega,by show 0<aP m a b c (2*s.1) (2*s.2.2);rw[iZ];omega,by show aP m a b c (s.1+s.2.1) (2*s.2.2)<0;omega⟩
 ·rename_i z
  exact⟨e2,by show 2*s.2.1=s.1+s.2.1+128;omega,by show -64*(2*s.2.2)<=s.1+s.2.1;omega,by show 2*s.2.1<=64*(2*s.2.2);omega,by show 0<aP m a b c (s.1+s.2.1) (2*s.2.2);omega,by show aP m a b c (2*s.2.1) (2*s.2.2)<0;rw[iZ];omega⟩
theorem SpI.pos{a b c m:Int}{s:Int×Int×Int}{j:Nat}(S:SpI m a b c s j):0<s.2.2:=by rw[S.n];exact Int.pow_pos (by decide)
def InS(s t:Int×Int×Int):Prop:=s.1*t.2.2<=t.1*s.2.2/\t.2.1*s.2.2<=s.2.1*t.2.2
theorem InS.refl(s:Int×Int×Int):InS s s:=⟨I9 _,I9 _⟩
theorem tI{x y p q r s:Int}(hq:0<q)(hp:0<=p)(hs:0<=s)(h1:x*q<=y*p)(h2:y*s<=r*q):x*s<=r*p:=by
 refine Int.le_of_mul_le_mul_right (a:=q) ?_ hq;have a1:=Iz h1 hs;have a2:=Iz h2 hp;have e1:x*s*q=x*q*s:=by grind
 have e2:y*p*s=y*s*p:=by grind
 have e3:r*q*p=r*p*q:=by grind
 omega
theorem InS.trans{s t u:Int×Int×Int}(ps:0<s.2.2)(pt:0<t.2.2)(pu:0<u.2.2)(h1:InS s t)(h2:InS t u):InS s u :=
 ⟨tI pt (HD ps) (HD pu) h1.1 h2.1,tI pt (HD pu) (HD ps) h2.2 h1.2⟩
theorem SpI.few{a b c m:Int}(h:CubOk a b c m){s:Int×Int×Int}{j:Nat}(S:SpI m a b c s j){q:Int}(h1:s.1<=q*s.2.2)(h2:q*s.2.2<=s.2.1):j<=21:=by
 have p:=S.pos;obtain⟨en,w,l,hh,lp,hn⟩:=S;obtain⟨s1,s2,s3⟩:=h.small;have ha:=h.a9;generalize s.2.2=n at *
 generalize s.2.1=hi at *
 generalize s.1=lo at *
 have lip:∀t,-64*n<=t->t<=64*n->(t-q*n).natAbs<=128->(aP m a b c t n-aP m a b c (q*n) n).natAbs<=128*(16176*(n.natAbs*n.natAbs)):=λt t1 t2 t3=>by
  have e:aP m a b c t n-aP m a b c (q*n) n=(t-q*n)*(3*m*(b*c)*(n*n)-((a*n-t)*(a*n-t)+(a*n-t)*(a*n-q*n)+(a*n-q*n)*(a*n-q*n))):=by unfold aP nrm;grind
  have an:(a*n).natAbs<=9*n.natAbs:=ck (by omega) (Ht _);have x1:(a*n-t).natAbs<=73*n.natAbs:=by omega
  have x2:(a*n-q*n).natAbs<=73*n.natAbs:=by omega
  have z0:(n*n).natAbs<=n.natAbs*n.natAbs:=ck (Ht _) (Ht _);have y1:=ck x1 x1;have y2:=ck x1 x2;have y3:=ck x2 x2;have y4:=ck s3 z0;have z1:73*n.natAbs*(73*n.natAbs)=5329*(n.natAbs*n.natAbs):=by grind
  rw[z1]at y1 y2 y3;rw[e];refine ck t3 ?_;have u1:=Jn (3*m*(b*c)*(n*n)) ((a*n-t)*(a*n-t)+(a*n-t)*(a*n-q*n)+(a*n-q*n)*(a*n-q*n));have u2:=Int.natAbs_add_le ((a*n-t)*(a*n-t)+(a*n-t)*(a*n-q*n)) ((a*n-q*n)*(a*n-q*n));have u3:=Int.natAbs_add_le ((a*n-t)*(a*n-t)) ((a*n-t)*(a*n-q*n));generalize (3*m*(b*c)*(n*n)-((a*n-t)*(a*n-t)+(a*n-t)*(a*n-q*n)+(a*n-q*n)*(a*n-q*n))).natAbs=v1 at *
  generalize ((a*n-t)*(a*n-t)+(a*n-t)*(a*n-q*n)+(a*n-q*n)*(a*n-q*n)).natAbs=v2 at *
  generalize ((a*n-t)*(a*n-t)+(a*n-t)*(a*n-q*n)).natAbs=v3 at *
  generalize ((a*n-t)*(a*n-t)).natAbs=v4 at *
  generalize ((a*n-t)*(a*n-q*n)).natAbs=v5 at *
  generalize ((a*n-q*n)*(a*n-q*n)).natAbs=v6 at *
  generalize (3*m*(b*c)*(n*n)).natAbs=v7 at *
  generalize n.natAbs*n.natAbs=v8 at *
  clear e an x1 x2 z0 z1 t1 t2 t3 s1 s2 s3 lp hn w l hh h1 h2 p ha en;omega
 have L1:=lip lo l (by omega) (by omega);have L2:=lip hi (by omega) hh (by omega);have eq:aP m a b c (q*n) n=n*n*n*nrm m (a-q) b c:=by unfold aP nrm;grind
 have nz:nrm m (a-q) b c≠0:=λz=>h.bc (let r:=(h.nc).2 _ _ _ z;⟨r.2.1,r.2.2⟩)
 have p3:0<n*n*n:=HF (HF p p) p
 have big:n*n*n<=aP m a b c (q*n) n\/aP m a b c (q*n) n <= -(n*n*n):=by
  rw[eq];rcases IU nz with z |z
  ·right;have:=JQ (show nrm m (a-q) b c <= -1 by omega) (HD p3);omega
  ·left;have:=JQ (show 1<=nrm m (a-q) b c by omega) (HD p3);omega
 have nn:(n.natAbs*n.natAbs:Nat)=((n*n).natAbs):=(Ig n n).symm;have nn2:((n*n).natAbs:Int)=n*n:=Int.natAbs_of_nonneg (HD (HF p p));rw[nn]at L1 L2
 have fin:n*n*n<=2070528*(n*n):=by
  rcases big with z |z
  ·generalize aP m a b c hi n=W at *
   generalize aP m a b c (q*n) n=V at *
   clear L1 lip eq nz nn;generalize n*n*n=N3 at *
   generalize n*n=N2 at *
   omega
  ·generalize aP m a b c lo n=W at *
   generalize aP m a b c (q*n) n=V at *
   clear L2 lip eq nz nn;generalize n*n*n=N3 at *
   generalize n*n=N2 at *
   omega
 have fin2:n<=2070528:=Int.le_of_mul_le_mul_right (a:=n*n) (by rw[Im n (n*n)];exact fin) (HF p p);refine Ix λz=>?_
 have g1:(2:Int)^21<=2^j:=by have:=Nat.pow_le_pow_right (n:=2) (by decide) (IY z);have e:=Int.ofNat_le.mpr this;rw[Int.natCast_pow,Int.natCast_pow]at e;exact e
 have g2:(2:Int)^21=2097152:=by decide
 omega
def FL(l:List Int):Prop:=(∃q:Int,-21<=q/\q<=21/\l=[q,0,1])\/∃k:Int,1<=k/\k<=9/\l=[0,-k,1]
theorem FL.fac{l:List Int}(h:FL l):FacG l:=by
 rcases h with⟨q,h1,h2,rfl⟩ |⟨k,h1,h2,rfl⟩
 ·exact⟨q,0,1,rfl,by omega,by omega,by decide,by decide,by decide,by decide,.inl (I9 _)⟩
 ·exact⟨0,-k,1,rfl,by decide,by decide,by omega,by omega,by decide,by decide,.inl (by omega)⟩
theorem FL.spots{l x:List Int}(h:FL l)(hx:x∈spF l):∃q:Int,-21<=q/\q<=21/\l=[q,0,1]/\x=[q,0,1,1]:=by
 rcases h with⟨q,h1,h2,rfl⟩ |⟨k,h1,h2,rfl⟩
 ·have:spF [q,0,1]=[[q,0,1,1]]:=by show(if(0:Int)<=0 then _ else[])++(if(0:Int)<0 then _ else[])=_;rw[if_pos (by decide),if_neg (by decide)];rfl
  rw[this]at hx;exact⟨q,h1,h2,rfl,Hx.mp hx⟩
 ·have:spF [0,-k,1]=[]:=by show(if 0 <= -k then _ else[])++(if 0 < -k then _ else[])=[];rw[if_neg (by omega),if_neg (by omega)];rfl
  rw[this]at hx;cases hx
noncomputable def cdR(m a b c:Int)(x:Rat):Int:=sg (aP m a b c x.num x.den)
theorem we{m a b c t n t' n':Int}(hm:NCb m)(hn:0<n)(hn':0<n')(e:t*n'=t'*n):0<aP m a b c t n↔0<aP m a b c t' n' :=
 ⟨ke hm hn hn' (Int.le_of_eq e.symm),ke hm hn' hn (Int.le_of_eq e)⟩
theorem xu{x y:Int}(hx:x≠0)(hy:y≠0)(h:0<x↔0<y):sg x=sg y:=by
 rcases IU hx with z |z
 ·have:y<0:=by
   rcases IU hy with w |w
   ·exact w
   ·exact absurd (h.mpr w) (by omega)
  unfold sg;rw[if_pos z,if_pos this]
 ·have:=h.mp z;unfold sg;rw[if_neg (by omega),if_pos z,if_neg (by omega),if_pos this]
theorem om{m a b c t n:Int}(hm:NCb m)(hbc:¬(b=0/\c=0))(hn:0<n):cdR m a b c ((t:Rat)/(n:Rat))=sg (aP m a b c t n):=by unfold cdR;exact xu (gm hm hbc (bT _)) (gm hm hbc hn) (we hm (bT _) hn (rq hn))
theorem xq(x:Int):eU (sg x):=by unfold eU sg;split<;>(try split)<;>omega
theorem oo{m a b c:Int}(hm:NCb m)(hbc:¬(b=0/\c=0)):Cut (cdR m a b c):=by
 refine⟨λx=>xq _,λx y hxy h=>?_⟩;have hx:=gm (a:=a) (t:=x.num) hm hbc (bT x);have hy:=gm (a:=a) (t:=y.num) hm hbc (bT y)
 have x0:aP m a b c x.num x.den<0:=by
  rcases IU hx with z |z
  ·exact z
  ·exfalso;unfold cdR sg at h
   rw[if_neg (by omega),if_pos z]at h;exact absurd h (by decide)
 have hle:x.num*(y.den:Int)<=y.num*(x.den:Int):=by have:=(cT (bT x) (bT y) (t:=x.num) (t':=y.num)).mp (by rw[gW,gW];exact hxy);omega
 have y0:aP m a b c y.num y.den<0:=by
  rcases IU hy with z |z
  ·exact z
  ·exact absurd (ke hm (bT y) (bT x) hle z) (by omega)
 unfold cdR sg;rw[if_pos y0]
theorem nR(m a b c:Int)(x:Rat):sgR (pv (aK m a b c) x) = -cdR m a b c x:=by have h:=fW (t:=x.num) (bT x) (aK m a b c);rw[gW]at h;rw[<- h,nS,kD,gw,kE (bT x),HV];rfl
noncomputable def nA(p0 p1 p2 u e d:Int):Int:=u*u*u+p2*d*(u*u)+p1*(d*d)*u+p0*(d*d*d)+e*(3*u+p2*d)
noncomputable def nB(p1 p2 u e d:Int):Int:=e+3*(u*u)+2*p2*d*u+p1*(d*d)
theorem DF(m a b c t n:Int):n*(t*t*t + -3*a*n*(t*t)+(3*(a*a)-3*m*(b*c))*(n*n)*t + -nrm m a b c*(n*n*n)) = -(n*aP m a b c t n):=by rw[<- nS];simp[hv,aK];grind
theorem DC{m a b c:Int}(hm:NCb m)(hbc:¬(b=0/\c=0)){u e d:Int}(hd:0<d)(he:0<=e)(ns:NS e):nA (-nrm m a b c) (3*(a*a)-3*m*(b*c)) (-3*a) u e d*nA (-nrm m a b c) (3*(a*a)-3*m*(b*c)) (-3*a) u e d-e*(nB (3*(a*a)-3*m*(b*c)) (-3*a) u e d*nB (3*(a*a)-3*m*(b*c)) (-3*a) u e d)≠0:=λz=>by
 have key:∀t:Int,t*t*t + -3*a*d*(t*t)+(3*(a*a)-3*m*(b*c))*(d*d)*t + -nrm m a b c*(d*d*d)≠0:=λt h=>by
  have:=DF m a b c t d;rw[h,HL]at this;have w:=gm (a:=a) (t:=t) hm hbc hd;have:d*aP m a b c t d=0:=by omega
  rcases Ic.mp this with y |y
  ·omega
  ·exact w y
 generalize -nrm m a b c=p0 at z key
 generalize 3*(a*a)-3*m*(b*c)=p1 at z key
 generalize -3*a=p2 at z key
 have AB:nA p0 p1 p2 u e d=0/\(e=0\/nB p1 p2 u e d=0):=by
  by_cases e0:e=0
  ·rw[e0,Iq,Int.sub_zero]at z;rw[e0];exact⟨by rcases Ic.mp z with y |y<;>exact y,.inl rfl⟩
  ·by_cases b0:nB p1 p2 u e d=0
   ·rw[b0,HL,HL,Int.sub_zero]at z;exact⟨by rcases Ic.mp z with y |y<;>exact y,.inr b0⟩
   ·refine(ns.no e0 b0 (y:=nA p0 p1 p2 u e d) ?_).elim;generalize nA p0 p1 p2 u e d=A at *
    generalize nB p1 p2 u e d=B at *
    grind
 obtain⟨hA,h |h⟩:=AB
 ·refine key u ?_;unfold nA at hA
  rw[h,Iq,Iv]at hA;exact hA
 ·refine key (u-(3*u+p2*d)) ?_;unfold nA at hA
  unfold nB at h
  grind
theorem Au{p0 p1 p2 u e d:Int}(b0:Bd 16384 (p0:Rat))(b1:Bd 16384 (p1:Rat))(b2:Bd 16384 (p2:Rat))(bu:Bd 11 (u:Rat))(be:Bd 36 (e:Rat))(bd:Bd 3 (d:Rat)){v κ:Rat}(hv:Bd 70 v)(hp:Bd κ ((p0:Rat)+v*(p1+v*(p2+v))))(hδ:Bd κ (((d:Rat)*v-u)*((d:Rat)*v-u)-e))(hκ:1000000000000000000000000000000*κ<1)
 (hN:nA p0 p1 p2 u e d*nA p0 p1 p2 u e d-e*(nB p1 p2 u e d*nB p1 p2 u e d)≠0):False:=by
 have eA:((nA p0 p1 p2 u e d:Int):Rat)=(u:Rat)*u*u+p2*d*(u*u)+p1*(d*d)*u+p0*(d*d*d)+e*(3*u+p2*d):=by unfold nA;simp only[IH,HW];rfl
 have eB:((nB p1 p2 u e d:Int):Rat)=(e:Rat)+3*(u*u)+2*p2*d*u+p1*(d*d):=by unfold nB;simp only[IH,HW];rfl
 have eN:((nA p0 p1 p2 u e d*nA p0 p1 p2 u e d-e*(nB p1 p2 u e d*nB p1 p2 u e d):Int):Rat)=(nA p0 p1 p2 u e d:Rat)*nA p0 p1 p2 u e d-e*((nB p1 p2 u e d:Rat)*nB p1 p2 u e d):=by simp only[JB,HW]
 have n1:(1:Rat)<=((nA p0 p1 p2 u e d*nA p0 p1 p2 u e d-e*(nB p1 p2 u e d*nB p1 p2 u e d):Int):Rat)\/((nA p0 p1 p2 u e d*nA p0 p1 p2 u e d-e*(nB p1 p2 u e d*nB p1 p2 u e d):Int):Rat) <= -1:=by
  generalize nA p0 p1 p2 u e d*nA p0 p1 p2 u e d-e*(nB p1 p2 u e d*nB p1 p2 u e d)=N at hN
  rcases IU hN with z |z
  ·right;have:=rle (a:=N) (b := -1) (by omega);exact this
  ·left;have:=rle (a:=1) (b:=N) (by omega);exact this
 rw[eN]at n1;generalize (nA p0 p1 p2 u e d:Rat)=A at *
 generalize (nB p1 p2 u e d:Rat)=B at *
 clear eN hN;generalize (p0:Rat)=q0 at *
 generalize (p1:Rat)=q1 at *
 generalize (p2:Rat)=q2 at *
 generalize (u:Rat)=U at *
 generalize (e:Rat)=E at *
 generalize (d:Rat)=D at *
 have k0:0<=κ:=by obtain⟨h1,h2⟩:=hp;grind
 have bY:Bd 300 (D*v-U):=by have h1:=bd.mul hv;obtain⟨h2,h3⟩:=h1;obtain⟨h4,h5⟩:=bu;exact⟨by grind,by grind⟩
 have b33:Bd 33 (3*U):=by obtain⟨h4,h5⟩:=bu;exact⟨by grind,by grind⟩
 have bC:Bd 60000 (3*U+q2*D):=(b33.add (b2.mul bd)).mono (by grind);have bYC:Bd 70000 (D*v-U+(3*U+q2*D)):=(bY.add bC).mono (by grind);have bDDD:Bd 27 (D*D*D):=((bd.mul bd).mul bd).mono (by grind);have bDD:Bd 9 (D*D):=(bd.mul bd).mono (by grind);have bUU:Bd 121 (U*U):=(bu.mul bu).mono (by grind)
 have bA:Bd 20000000 A:=by rw[eA];exact(((((bUU.mul bu).add ((b2.mul bd).mul bUU)).add ((b1.mul bDD).mul bu)).add (b0.mul bDDD)).add (be.mul bC)).mono (by grind)
 have bB:Bd 2000000 B:=by rw[eB];have c3:Bd 3 (3:Rat):=⟨by grind,by grind⟩;have c2:Bd 2 (2:Rat):=⟨by grind,by grind⟩;exact(((be.add (c3.mul bUU)).add (((c2.mul b2).mul bd).mul bu)).add (b1.mul bDD)).mono (by grind)
 have eps:A+B*(D*v-U)=D*D*D*(q0+v*(q1+v*(q2+v)))-((D*v-U)*(D*v-U)-E)*(D*v-U+(3*U+q2*D)):=by rw[eA,eB];grind
 have bneg:Bd (70000*κ) (-(((D*v-U)*(D*v-U)-E)*(D*v-U+(3*U+q2*D)))):=by obtain⟨h1,h2⟩:=hδ.mul bYC;exact⟨by grind,by grind⟩
 have bE:Bd (100000*κ) (A+B*(D*v-U)):=by rw[eps];have h1:=(bDDD.mul hp).add bneg;rw[show ∀a b:Rat,a-b=a + -b fromλa b=>by grind];exact h1.mono (by grind)
 have bM:Bd 1000000000 (A-B*(D*v-U)):=by obtain⟨h1,h2⟩:=bB.mul bY;obtain⟨h3,h4⟩:=bA;exact⟨by grind,by grind⟩
 have e2:A*A-E*(B*B)=(A+B*(D*v-U))*(A-B*(D*v-U))+B*B*((D*v-U)*(D*v-U)-E):=by grind
 have fin:=(bE.mul bM).add ((bB.mul bB).mul hδ);rw[<- e2]at fin;obtain⟨f1,f2⟩:=fin;rcases n1 with z |z<;>grind
theorem DE{m a b c:Int}(h:CubOk a b c m){u e d s:Int}(hu : -11<=u/\u<=11)(he:0<=e)(he':e<36)(hd:1<=d/\d<=3)(ns:NS e)(hs:s=1\/s = -1/\0<e){x y:Rat}(hxy:x<y)(hw:1000000000000000000000000000000000000000000*(y-x)<=1)(bx:Bd 68 x)
 (h1:0<=cdR m a b c x) (h1':cdR m a b c y<=0) (h2:0<sdR [u,e,d,s] x) (h2':sdR [u,e,d,s] y<=0):False:=by
 have cb:∀q∈aK m a b c,q.natAbs<16384:=λq hq=>by
  obtain⟨s1,s2,s3⟩:=h.small;have a9:=h.a9;have q1:(a*a).natAbs<=9*9:=ck (by omega) (by omega);have q2:(a*a*a).natAbs<=9*9*9:=ck q1 (by omega);have q3:(3*m*(b*c)*a).natAbs<=3*7*(3*3)*9:=ck s3 (by omega);have en:=mC m a b c;simp only[aK,HI,JE,or_false]at hq;rcases hq with rfl |rfl |rfl |rfl
  ·rw[en];omega
  ·omega
  ·omega
  ·decide
 have toB:∀{q:Int} {M:Int},-M<=q->q<=M->Bd (M:Rat) (q:Rat):=λ{q M} l r=>⟨by have:=rle l;rw[Rat.intCast_neg]at this;exact this,rle r⟩
 have B0:Bd 16384 ((-nrm m a b c:Int):Rat):=toB (M:=16384) (by have:=cb (-nrm m a b c) (by simp[aK]);omega) (by have:=cb (-nrm m a b c) (by simp[aK]);omega);have B1:Bd 16384 ((3*(a*a)-3*m*(b*c):Int):Rat):=toB (M:=16384) (by have:=cb (3*(a*a)-3*m*(b*c)) (by simp[aK]);omega) (by have:=cb (3*(a*a)-3*m*(b*c)) (by simp[aK]);omega);have B2:Bd 16384 ((-3*a:Int):Rat):=toB (M:=16384) (by have:=cb (-3*a) (by simp[aK]);omega) (by have:=cb (-3*a) (by simp[aK]);omega);have N:=DC (u:=u) (e:=e) (a:=a) h.nc h.bc (show 0<d by omega) he ns
 have pvx:∀v:Rat,pv (aK m a b c) v=((-nrm m a b c:Int):Rat)+v*(((3*(a*a)-3*m*(b*c):Int):Rat)+v*(((-3*a:Int):Rat)+v)):=λv=>by show((-nrm m a b c:Int):Rat)+v*(((3*(a*a)-3*m*(b*c):Int):Rat)+v*(((-3*a:Int):Rat)+v*(((1:Int):Rat)+v*0)))=_;rw[show((1:Int):Rat)+v*0=1 by grind,Rat.mul_one]
 have s1:pv (aK m a b c) x<=0:=by
  have:=nR m a b c x;rcases b6 (pv (aK m a b c) x)with⟨z,_⟩ |⟨z,_⟩ |⟨_,z⟩
  ·grind
  ·grind
  ·omega
 have s2:0<=pv (aK m a b c) y:=by
  have:=nR m a b c y;rcases b6 (pv (aK m a b c) y)with⟨_,z⟩ |⟨z,_⟩ |⟨z,_⟩
  ·omega
  ·grind
  ·grind
 rw[pvx]at s1 s2;have BU:Bd 11 (u:Rat):=toB (M:=11) hu.1 hu.2;have BE:Bd 36 (e:Rat):=toB (M:=36) (by omega) (by omega);have BD:Bd 3 (d:Rat):=toB (M:=3) (by omega) hd.2;have d1:(1:Rat)<=(d:Rat):=rle (a:=1) (b:=d) hd.1;have e0:(0:Rat)<=(e:Rat):=rle (a:=0) (b:=e) he;generalize -nrm m a b c=p0 at *
 generalize 3*(a*a)-3*m*(b*c)=p1 at *
 generalize -3*a=p2 at *
 have by':Bd 70 y:=by obtain⟨l,r⟩:=bx;exact⟨by grind,by grind⟩
 have bx':Bd 70 x:=bx.mono (by grind);have near:∀{v κ:Rat},Bd 70 v->Bd κ ((p0:Rat)+v*(p1+v*(p2+v)))->Bd κ (((d:Rat)*v-u)*((d:Rat)*v-u)-e)->1000000000000000000000000000000*κ<1->False:=λhv hp hδ hκ=>Au B0 B1 B2 BU BE BD hv hp hδ hκ N
 generalize (p0:Rat)=q0 at *
 generalize (p1:Rat)=q1 at *
 generalize (p2:Rat)=q2 at *
 have bK:Bd 10000000 (y*y+x*y+x*x+q2*(x+y)+q1):=((((by'.mul by').add (bx'.mul by')).add (bx'.mul bx')).add (B2.mul (bx'.add by')) |>.add B1).mono (by grind);have ed:(q0+y*(q1+y*(q2+y)))-(q0+x*(q1+x*(q2+x)))=(y-x)*(y*y+x*y+x*x+q2*(x+y)+q1):=by grind
 have bw:Bd (y-x) (y-x):=⟨by grind,by grind⟩;have bdf:=bw.mul bK;rw[<- ed]at bdf;have kap:1000000000000000000000000000000*((y-x)*10000000)<1:=by grind
 have bpx:Bd ((y-x)*10000000) (q0+x*(q1+x*(q2+x))):=by obtain⟨l,r⟩:=bdf;exact⟨by grind,by grind⟩
 have bpy:Bd ((y-x)*10000000) (q0+y*(q1+y*(q2+y))):=by obtain⟨l,r⟩:=bdf;exact⟨by grind,by grind⟩
 clear bdf ed bK s1 s2 B0 B1 B2 N;have eY:(d:Rat)*y-u=((d:Rat)*x-u)+d*(y-x):=by grind
 have bYx:Bd 300 ((d:Rat)*x-u):=by obtain⟨l,r⟩:=BD.mul bx';obtain⟨l2,r2⟩:=BU;exact⟨by grind,by grind⟩
 have bYy:Bd 300 ((d:Rat)*y-u):=by obtain⟨l,r⟩:=BD.mul by';obtain⟨l2,r2⟩:=BU;exact⟨by grind,by grind⟩
 have bη:Bd (3*(y-x)) ((d:Rat)*(y-x)):=BD.mul bw;have η0:0<(d:Rat)*(y-x):=Io (by grind) (by grind);rcases hs with rfl |⟨rfl,ep⟩
 ·have hy:¬((d:Rat)*y-u<0\/((d:Rat)*y-u)*((d:Rat)*y-u)<e):=λz=>by have:=(o9 (u:=u) (e:=e) (b:=d) y).mpr z;omega
  have hx:=(o9 (u:=u) (e:=e) (b:=d) x).mp h2;refine near by' bpy ?_ kap;generalize (d:Rat)*y-u=Y' at *
  generalize (d:Rat)*x-u=Y at *
  generalize (d:Rat)*(y-x)=η at *
  generalize (e:Rat)=E at *
  have y0:0<=Y':=by grind
  have y1:E<=Y'*Y':=by grind
  have b1:=bη.mul bYy;have b2:=bη.mul bYx;refine⟨by grind,?_⟩;rcases hx with z |z
  ·have:Y'*Y'<=η*Y':=Ij (by grind) y0;obtain⟨_,r⟩:=b1;grind
  ·have:Y'*Y'-Y*Y=η*Y'+η*Y:=by rw[eY];grind
   obtain⟨_,r⟩:=b1;obtain⟨_,r2⟩:=b2;grind
 ·have hx:=(pd (u:=u) (e:=e) (b:=d) x).mp h2
  have hy:¬((d:Rat)*y-u<=0/\(e:Rat)<((d:Rat)*y-u)*((d:Rat)*y-u)):=λz=>by have:=(pd (u:=u) (e:=e) (b:=d) y).mpr z;omega
  refine near bx' bpx ?_ kap;generalize (d:Rat)*y-u=Y' at *
  generalize (d:Rat)*x-u=Y at *
  generalize (d:Rat)*(y-x)=η at *
  generalize (e:Rat)=E at *
  obtain⟨x0,x1⟩:=hx;have b1:=bη.mul bYy;have b2:=bη.mul bYx;refine⟨by grind,?_⟩;by_cases z:Y'<=0
  ·have z2:Y'*Y'<=E:=by
    rcases IA (a:=Y'*Y') (b:=E)with w |w
    ·exact w
    ·grind
   have:Y*Y-Y'*Y' = -(η*Y')-η*Y:=by rw[eY];grind
   obtain⟨l,_⟩:=b1;obtain⟨l2,_⟩:=b2;grind
  ·have z':0<Y':=by grind
   have h3:0 <= -Y:=by grind
   have h4 : -Y * -Y<=η * -Y:=Ij (by grind) h3;obtain⟨l2,_⟩:=b2;grind
noncomputable def fR(ps:List (List Int)):List (List Int×Nat):=ps.map λp=>(p,1)
theorem wj{ps:List (List Int)}(hp:∀p∈ps,Pri p)(hn:ps.Nodup):Use (fR ps):=by
 refine⟨λp h=>?_,λp h=>?_,?_⟩
 ·obtain⟨f,hf,rfl⟩:=Hz.mp h;exact hp f hf
 ·obtain⟨f,hf,rfl⟩:=Hz.mp h;exact Ht _
 ·unfold fR;rw[Iw];show(ps.map id).Nodup;rw[List.map_id];exact hn
theorem wg{c:Int}{ps:List (List Int)}:whl c (fR ps)=ae [c] (prd ps):=by
 unfold whl
 congr 1
 have e1:fP id (fR ps)=flt (fR ps):=gU _ λp hp=>by obtain⟨f,hf,rfl⟩:=Hz.mp hp;rfl
 rw[e1,ux]
 congr 1
 unfold fR;rw[Iw];show ps.map id=ps;exact List.map_id _
theorem wk{ps:List (List Int)}:mor (fR ps) 1=[1]:=by unfold mor;rw[gU (h:=λ_=>0) _ λp hp=>by obtain⟨f,hf,rfl⟩:=Hz.mp hp;rfl];exact uB _
theorem rQ{c:Int}{ps:List (List Int)}(hp:∀p∈ps,Pri p)(hn:ps.Nodup)(hc:c≠0)(hl:(ae [c] (prd ps)).length<=20):Cop2 (ae [c] (prd ps)) (slopeL (ae [c] (prd ps))):=λd dn dt h1 h2=>by
 have U:=wj hp hn;have ew:=wg (c:=c) (ps:=ps);obtain⟨tw,nw,_⟩:=kd U hc;have hcom:=o3 U hc (by rw[ew];exact hl);rw[wk]at hcom;rw[<- ew]at h1 h2 hl;have h3:=(nY (by rw[fh];omega) tw (fA tw)).all d h1 h2;rw[hcom]at h3;rcases Nat.lt_or_ge 1 d.length with z |z
 ·have:=Dv.short dn dt ((tr_snoc (r:=[])).mpr (by decide)) (show([1]:List Int).length<d.length from z) h3;cases this
 ·exact z
structure Cts(P:List Int)(S:List (Rat->Int)):Prop where
 tr:Tr P
 ne:P≠[]
 cop:Cop2 P (slopeL P)
 cut:∀s∈S,Cut s
 sg:∃ε:Int,(ε=1\/ε = -1)/\∀x,sgR (pv P x)=ε*cpr x S
 ap:∀x y:Rat,x<y->y-x<=1/2^200->S.Pairwise λs t=>¬(inC s x y/\inC t x y)
theorem Cts.row{P:List Int}{S:List (Rat->Int)}(C:Cts P S)(hs:slopeL P≠[]){N:Nat}(hN:P.length<=N+1){t n t' n':Int}(hn:0<n)(hn':0<n')(hlt:t*n'<t'*n) :
 vr 0 (sgv (aN (N+1) (ah P) (ah (slopeL P))) t n)-vr 0 (sgv (aN (N+1) (ah P) (ah (slopeL P))) t' n')=cnt S ((t:Rat)/(n:Rat)) ((t':Rat)/(n':Rat)):=by
 obtain⟨tP,nP,cop,hS,⟨ε,hε,hf⟩,hp⟩:=C;have tS:=fA tP;obtain⟨g0,t0,n0,e0⟩:=eZ tP nP;have copS:=cop.shr tP nP tS;have lS:(ah (slopeL P)).length=P.length-1:=by unfold ah;rw[Hs,fh]
 have hst:=lP N (ah P) (ah (slopeL P)) (by omega) t0 n0 (dZ tS) copS;obtain⟨g1,t1,n1,e1⟩:=eZ tS hs
 have hN1:1<=N:=by have:=Hw.mpr n1;omega
 obtain⟨M,rfl⟩:∃M,N=M+1:=⟨N-1,by omega⟩
 have er:aN (M+1+1) (ah P) (ah (slopeL P))=ah P::ah (slopeL P)::aN M (nxt (ah P) (ah (slopeL P))) (nxt (ah (slopeL P)) (nxt (ah P) (ah (slopeL P)))):=by show(if ah P=[]then _ else ah P::(if ah (slopeL P)=[]then _ else _))=_;rw[if_neg n0,if_neg n1]
 rw[er]at hst ⊢;have g0':(0:Rat)<((al P:Int):Rat):=HS.mpr g0;have g1':(0:Rat)<((al (slopeL P):Int):Rat):=HS.mpr g1
 have hd:∀x,pv (slopeL (ah P)) x=((al (slopeL P):Int):Rat)/((al P:Int):Rat)*pv (ah (slopeL P)) x:=λx=>by
  have h1:=gD (a:=slopeL (ah P)) (c:=slopeL P) (u:=(al P:Int)) x λk=>by rw[eO,eO,e0 (k+1)];grind
  have h2:=gD (a:=ah (slopeL P)) (c:=slopeL P) (u:=(al (slopeL P):Int)) x e1;have h3:((al (slopeL P):Int):Rat)/((al P:Int):Rat)*((al P:Int):Rat)=((al (slopeL P):Int):Rat):=HX (by grind);rw[h1]at h2
  have h4:((al P:Int):Rat)*pv (slopeL (ah P)) x=((al P:Int):Rat)*(((al (slopeL P):Int):Rat)/((al P:Int):Rat)*pv (ah (slopeL P)) x):=by
   rw[h2];generalize ((al (slopeL P):Int):Rat)/((al P:Int):Rat)=w at *
   rw[<- h3];grind
  generalize pv (slopeL (ah P)) x=u at *
  generalize ((al (slopeL P):Int):Rat)/((al P:Int):Rat)*pv (ah (slopeL P)) x=v at *
  have h5:((al P:Int):Rat)*(u-v)=0:=by grind
  rcases Rat.mul_eq_zero.mp h5 with z |z
  ·grind
  ·grind
 have hf':∀x,sgR (pv (ah P) x)=ε*cpr x S:=λx=>by rw[<- hf,gD (a:=ah P) (c:=P) (u:=(al P:Int)) x e0,qX g0']
 have:=pP hst (fB g1' g0') hd hS hε hf' (fB (by decide) (Rat.pow_pos (by decide))) hp ((cT hn hn').mpr hlt);rw[jh hn,jh hn'];exact this
theorem DG{m a b c:Int}(h:CubOk a b c m){u e d s:Int}(hu : -11<=u/\u<=11)(he:0<=e)(he':e<36)(hd:1<=d/\d<=3)(ns:NS e)(hs:s=1\/s = -1/\0<e){x y:Rat}(hxy:x<y)(hw:y-x<=1/2^200):¬(inC (cdR m a b c) x y/\inC (sdR [u,e,d,s]) x y):=by
 rintro⟨⟨h1,h1'⟩,h2,h2'⟩;have cc:=oo (a:=a) h.nc h.bc
 have cs:Cut (sdR [u,e,d,s]):=by
  refine gy (fT (f:=[u,e,d]) rfl hd.1 ?_).1;unfold spF;rcases hs with rfl |⟨rfl,ep⟩
  ·exact IF _ (by show _∈if 0<=e then _ else _;rw[if_pos he];exact Hx.mpr rfl)
  ·exact HJ _ (by show _∈if 0<e then _ else _;rw[if_pos ep];exact Hx.mpr rfl)
 have F:=SpI.first h
 have l64:cdR m a b c (-64)=1:=by have:=om (a:=a) (t := -64) (n:=1) h.nc h.bc (by decide);rw[show((-64:Int):Rat)/((1:Int):Rat) = -64 by decide +kernel]at this;rw[this];have:0<aP m a b c (-64) 1:=F.lp;unfold sg;rw[if_neg (by omega),if_pos this]
 have r64:cdR m a b c 64 = -1:=by have:=om (a:=a) (t:=64) (n:=1) h.nc h.bc (by decide);rw[show((64:Int):Rat)/((1:Int):Rat)=64 by decide +kernel]at this;rw[this];have:aP m a b c 64 1<0:=F.hn;unfold sg;rw[if_pos this]
 have x64:x<=64:=IB.mp λz=>by have:=cc.m 64 x z (by omega);omega
 have y64 : -64<=y:=IB.mp λz=>by have:=cc.m y (-64) z (by omega);omega
 have hw':1000000000000000000000000000000000000000000000*(y-x)<=1:=by
  have:(1:Rat)/2^200<=1/1000000000000000000000000000000000000000000000:=by decide +kernel
  grind
 have z1:0<sdR [u,e,d,s] (x-(y-x)):=by
  rcases cs.u (x-(y-x))with z |z |z
  ·omega
  ·have:=cs.m (x-(y-x)) x (by grind) (by omega);omega
  ·have:=cs.m (x-(y-x)) x (by grind) (by omega);omega
 have z2:0<=cdR m a b c (x-(y-x)):=by
  rcases cc.u (x-(y-x))with z |z |z
  ·omega
  ·omega
  ·have:=cc.m (x-(y-x)) x (by grind) (by omega);omega
 exact DE h hu he he' hd ns hs (x:=x-(y-x)) (y:=y) (by grind) (by grind) ⟨by grind,by grind⟩ z2 h1' z1 h2'
def Fac11(f:List Int):Prop:=∃u e b:Int,f=[u,e,b] /\ -11<=u/\u<=11 /\ -36<e/\e<36/\1<=b/\b<=3/\NS e
theorem Fac11.g{f:List Int}(h:Fac11 f):FacG f:=by obtain⟨u,e,b,rfl,h1,h2,h3,h4,h5,h6,h7⟩:=h;exact⟨u,e,b,rfl,by omega,by omega,by omega,by omega,h5,by omega,h7⟩
theorem DB{m a b c:Int}(h:CubOk a b c m){f l:List Int}(hf:Fac11 f)(hl:l∈spF f){x y:Rat}(hxy:x<y)(hw:y-x<=1/2^200):¬(inC (cdR m a b c) x y/\inC (sdR l) x y):=by obtain⟨u,e,b',rfl,h1,h2,h3,h4,h5,h6,h7⟩:=hf;obtain⟨_,s,rfl,he,hs⟩:=fT rfl h5 hl;exact DG h ⟨h1,h2⟩ he h4 ⟨h5,h6⟩ h7 hs hxy hw
theorem xj{f:List Int}(h:FacG f):(aw f).length<=3:=by obtain⟨u,e,b,rfl,_⟩:=h;show(aJ (aF u e b)).length<=3;rw[plain_len];unfold aF;split<;>simp
theorem Dt{m a b c:Int}(h:CubOk a b c m){fs:List (List Int)}(hF:∀f∈fs,Fac11 f)(hn:(fs.map aw).Nodup){P:List Int}(hP:P=ae (aK m a b c) (prd (fs.map aw)))(hl:P.length<=20):Cts P (cdR m a b c::(spots fs).map sdR):=by
 have hFG:∀f∈fs,FacG f:=λf hf=>(hF f hf).g
 have hFQ:∀f∈fs,gk f:=λf hf=>(hFG f hf).q
 have pri:∀p∈aK m a b c::fs.map aw,Pri p:=λp hp=>by
  rcases HI.mp hp with rfl |hp
  ·exact uY h.nc h.bc
  ·obtain⟨f,hf,rfl⟩:=Hz.mp hp;exact gT (hFG f hf)
 have nd:(aK m a b c::fs.map aw).Nodup:=IZ.mpr ⟨λz=>by
  obtain⟨f,hf,e⟩:=Hz.mp z;have:=xj (hFG f hf);rw[e]at this
  exact absurd this (by show ¬(4<=3);decide),hn⟩
 have pl:Pln (prd (fs.map aw)):=jE _ λs hs=>by obtain⟨f,hf,rfl⟩:=Hz.mp hs;exact(gT (hFG f hf)).pln
 have tP:Tr P:=by rw[hP];exact d7 (nQ m a b c) pl.tr
 have e1:ae [1] P=P:=one_mul P tP;have eP:P=ae [1] (prd (aK m a b c::fs.map aw)):=by rw[<- e1,hP];rfl
 have nP:P≠[]:=by rw[hP];intro z;have:=congrArg List.length z;rw[bO (gd m a b c).ne pl.ne]at this;have h4:(aK m a b c).length=4:=rfl;rw[h4]at this;have:4+(prd (fs.map aw)).length-1=0:=this;omega
 have cop:=rQ (c:=1) pri nd (by decide) (by rw[<- eP];exact hl);rw[<- eP]at cop;refine⟨tP,nP,cop,λs hs=>?_,⟨1,.inl rfl,λx=>?_⟩,λx y hxy hw=>?_⟩
 ·rcases HI.mp hs with rfl |hs
  ·exact oo h.nc h.bc
  ·obtain⟨l,hl,rfl⟩:=Hz.mp hs;exact gy (gu hFQ hl)
 ·have h1:=kG (t:=x.num) (bT x) (gd m a b c).ne pl.ne;rw[<- hP,fW (bT x),fW (bT x),fW (bT x),gW,nR]at h1;have h2:=rN (t:=x.num) (n:=x.den) (c:=1) (bT x) hFQ;rw[rO λs hs=>by obtain⟨f,hf,rfl⟩:=Hz.mp hs;exact gT (hFG f hf),one_mul _ pl.tr,fW (bT x),gW,<- nW]at h2;rw[h1,h2];simp only[cpr];rw[show sg 1=1 from rfl,HV,HV]
 ·refine JL.mpr ⟨λt ht=>?_,?_⟩
  ·obtain⟨l,hl,rfl⟩:=Hz.mp ht;obtain⟨f,hf,hm⟩:=List.mem_flatMap.mp hl;exact DB h (hF f hf) hm hxy hw
  ·rw[Jx];exact(pV hFG hn).imp_of_mem λ{l l'} hl hl' h=>vJ (gu hFQ hl) (gu hFQ hl') h hxy hw
theorem Ds{fs:List (List Int)}(hF:∀f∈fs,FacG f)(hn:(fs.map aw).Nodup){P:List Int}(hP:P=prd (fs.map aw))(hl:P.length<=20):Cts P ((spots fs).map sdR):=by
 have hFQ:∀f∈fs,gk f:=λf hf=>(hF f hf).q
 have pri:∀p∈fs.map aw,Pri p:=λp hp=>by obtain⟨f,hf,rfl⟩:=Hz.mp hp;exact gT (hF f hf)
 have pl:Pln (prd (fs.map aw)):=jE _ λs hs=>(pri s hs).pln
 have e1:ae [1] P=P:=one_mul P (by rw[hP];exact pl.tr);have eP:P=ae [1] (prd (fs.map aw)):=by rw[<- e1,hP]
 have cop:=rQ (c:=1) pri hn (by decide) (by rw[<- eP];exact hl);rw[<- eP]at cop;refine⟨by rw[hP];exact pl.tr,by rw[hP];exact pl.ne,cop,λs hs=>?_,⟨1,.inl rfl,λx=>?_⟩,λx y hxy hw=>?_⟩
 ·obtain⟨l,hl,rfl⟩:=Hz.mp hs;exact gy (gu hFQ hl)
 ·have h2:=rN (t:=x.num) (n:=x.den) (c:=1) (bT x) hFQ;rw[rO pri,one_mul _ pl.tr,fW (bT x),gW,<- nW,<- hP]at h2;rw[h2];rfl
 ·rw[Jx];exact(pV hF hn).imp_of_mem λ{l l'} hl hl' h=>vJ (gu hFQ hl) (gu hFQ hl') h hxy hw
noncomputable def aU(l:List Int)(t n:Int):Int:=if l.length=5 then aP (cf l 3) (cf l 0) (cf l 1) (cf l 2) t n else bo l t n
noncomputable def cD(l:List Int)(x:Rat):Int:=if l.length=5 then cdR (cf l 3) (cf l 0) (cf l 1) (cf l 2) x else sdR l x
def SpK(l:List Int):Prop:=(∃a b c m:Int,l=[a,b,c,m,0]/\CubOk a b c m)\/(∃a:Int,l=[a,0,0,2,0] /\ -9<=a/\a<=9)\/∃u e b s:Int,l=[u,e,b,s] /\ -11<=u/\u<=11/\0<=e/\e<36/\1<=b/\b<=3/\(s=1\/s = -1/\0<e)
theorem pW{u e b s:Int}(he:0<=e)(hb:1<=b)(hs:s=1\/s = -1/\0<e):Spt [u,e,b,s]:=by
 refine(fT (f:=[u,e,b]) rfl hb ?_).1;unfold spF;rcases hs with rfl |⟨rfl,ep⟩
 ·exact IF _ (by show _∈if 0<=e then _ else _;rw[if_pos he];exact Hx.mpr rfl)
 ·exact HJ _ (by show _∈if 0<e then _ else _;rw[if_pos ep];exact Hx.mpr rfl)
theorem Ar(x:Int):nrm 2 x 0 0=x*x*x:=sw 2 x
theorem iY(a t n:Int):aU [a,0,0,2,0] t n=(a*n-t)*(a*n-t)*(a*n-t):=by show nrm 2 (a*n-t) (0*n) (0*n)=_;rw[Iq,Ar]
theorem kH(x:Int):sg (x*x*x)=sg x:=by
 rcases Int.lt_trichotomy x 0 with h |h |h
 ·have h1:0<x*x:=Int.mul_pos_of_neg_of_neg h h;have h2:x*x*x<0:=JP h1 h;unfold sg;rw[if_pos h2,if_pos h]
 ·rw[h];rfl
 ·have h2:0<x*x*x:=j3 h;unfold sg;rw[if_neg (by omega),if_pos h2,if_neg (by omega),if_pos h]
theorem qS(a t n:Int):bo [a,0,1,1] t n=sg (a*n-t):=by
 have e:bo [a,0,1,1] t n=bD (0*n*n) (1*t-a*n):=rfl;rw[e,Iq,Iq,HV];rcases Int.lt_trichotomy (a*n-t) 0 with h |h |h
 ·have h1:0<(t-a*n)*(t-a*n):=HF (by omega) (by omega);unfold bD sg;rw[if_neg (by omega),if_pos h1,if_pos h];rfl
 ·have h1:t-a*n=0:=by omega
  rw[h1,h];rfl
 ·unfold bD sg;rw[if_pos (.inl (by omega)),if_neg (by omega),if_pos h]
theorem uU(a:Int):cD [a,0,0,2,0]=sdR [a,0,1,1]:=funext λx=>by show sg (aU [a,0,0,2,0] x.num x.den)=bo [a,0,1,1] x.num x.den;rw[iY,kH,qS]
theorem SpK.cut{l:List Int}(h:SpK l):Cut (cD l):=by
 rcases h with⟨a,b,c,m,rfl,hC⟩ |⟨a,rfl,_⟩ |⟨u,e,b,s,rfl,_,_,he,_,hb,_,hs⟩
 ·exact oo hC.nc hC.bc
 ·rw[uU];exact gy (pW (by decide) (by decide) (.inl rfl))
 ·exact gy (pW he hb hs)
theorem xr(l:List Int)(t n:Int):sg (bo l t n)=bo l t n:=by rcases qT l t n with h |h |h<;>rw[h]<;>rfl
theorem SpK.div{l:List Int}(h:SpK l){t n:Int}(hn:0<n):cD l ((t:Rat)/(n:Rat))=sg (aU l t n):=by
 rcases h with⟨a,b,c,m,rfl,hC⟩ |⟨a,rfl,_⟩ |⟨u,e,b,s,rfl,_,_,he,_,hb,_,hs⟩
 ·exact om hC.nc hC.bc hn
 ·rw[uU,jk _ hn,qS,iY,kH]
 ·show sdR [u,e,b,s] _=sg (bo [u,e,b,s] t n);rw[jk _ hn,xr]
theorem SpK.first{l:List Int}(h:SpK l):0<aU l (-64) 1/\aU l 64 1<=0:=by
 rcases h with⟨a,b,c,m,rfl,hC⟩ |⟨a,rfl,h1,h2⟩ |⟨u,e,b,s,rfl,h1,h2,he,he',hb,hb',hs⟩
 ·have F:=SpI.first hC;exact⟨F.lp,HD F.hn⟩
 ·rw[iY,iY];refine⟨j3 (by omega),?_⟩;have h3:=kH (a*1-64);have h4:sg (a*1-64) = -1:=by unfold sg;rw[if_pos (by omega)]
  rw[h4]at h3;unfold sg at h3
  generalize (a*1-64)*(a*1-64)*(a*1-64)=X at h3
  split at h3
  ·omega
  ·split at h3<;>omega
 ·have q:∀x:Int,50<=x->e<x*x:=λx hx=>by have:=Je hx hx (by decide) (by omega);omega
  show 0<bo [u,e,b,s] (-64) 1/\bo [u,e,b,s] 64 1<=0;rcases hs with rfl |⟨rfl,ep⟩
  ·have e1:bo [u,e,b,1] (-64) 1=bD (e*1*1) (b * -64-u*1):=rfl;have e2:bo [u,e,b,1] 64 1=bD (e*1*1) (b*64-u*1):=rfl;rw[e1,e2,Il,Il,Il];rcases b5 e (b * -64-u)with⟨z,_⟩ |⟨z,y,_⟩ |⟨z,y,_⟩<;>rcases b5 e (b*64-u)with⟨w,v⟩ |⟨w,_⟩ |⟨w,_⟩<;>rw[z,w]<;>try omega
   have:=q (b*64-u) (by omega);omega
  ·have e1:bo [u,e,b,-1] (-64) 1=0-bD (e*1*1) (0-(b * -64-u*1)):=rfl;have e2:bo [u,e,b,-1] 64 1=0-bD (e*1*1) (0-(b*64-u*1)):=rfl;rw[e1,e2,Il,Il,Il];have:=q (0-(b * -64-u)) (by omega);rcases b5 e (0-(b * -64-u))with⟨z,y⟩ |⟨z,_,y⟩ |⟨z,_,y⟩<;>rcases b5 e (0-(b*64-u))with⟨w,_⟩ |⟨w,v,_⟩ |⟨w,v,_⟩<;>rw[z,w]<;>omega
theorem o4{l:List Int}(h:SpK l)(t n:Int):(0<aU l (2*t) (2*n)↔0<aU l t n)/\(aU l (2*t) (2*n)<=0↔aU l t n<=0):=by
 rcases h with⟨a,b,c,m,rfl,hC⟩ |⟨a,rfl,_⟩ |⟨u,e,b,s,rfl,_⟩
 rotate_left
 ·show(0<aP 2 a 0 0 (2*t) (2*n)↔0<aP 2 a 0 0 t n)/\(aP 2 a 0 0 (2*t) (2*n)<=0↔aP 2 a 0 0 t n<=0);rw[iZ];omega
 rotate_left
 ·show(0<aP m a b c (2*t) (2*n)↔0<aP m a b c t n)/\(aP m a b c (2*t) (2*n)<=0↔aP m a b c t n<=0);rw[iZ];omega
 ·show(0<bo [u,e,b,s] (2*t) (2*n)↔0<bo [u,e,b,s] t n)/\(bo [u,e,b,s] (2*t) (2*n)<=0↔bo [u,e,b,s] t n<=0);rw[kA _ (by decide)];exact⟨Iff.rfl,Iff.rfl⟩
noncomputable def hfG(l:List Int)(s:Int×Int×Int):Int×Int×Int:=if aU l (s.1+s.2.1) (2*s.2.2)<=0 then(2*s.1,s.1+s.2.1,2*s.2.2)else(s.1+s.2.1,2*s.2.1,2*s.2.2)
noncomputable def itG(l:List Int):Nat->Int×Int×Int
 |0=>(-64,64,1)
 |j+1=>hfG l (itG l j)
structure SpG(l:List Int)(s:Int×Int×Int)(j:Nat):Prop where
 n:s.2.2=2^j
 w:s.2.1=s.1+128
 lo : -64*s.2.2<=s.1
 hi:s.2.1<=64*s.2.2
 lp:0<aU l s.1 s.2.2
 hn:aU l s.2.1 s.2.2<=0
theorem SpG.pos{l:List Int}{s:Int×Int×Int}{j:Nat}(S:SpG l s j):0<s.2.2:=by rw[S.n];exact Int.pow_pos (by decide)
theorem SpG.half{l:List Int}(h:SpK l){s:Int×Int×Int}{j:Nat}(S:SpG l s j):SpG l (hfG l s) (j+1):=by
 have p:=S.pos;obtain⟨n,w,l',hh,lp,hn⟩:=S;have e2:2*s.2.2=2^(j+1):=by rw[n,Iy,Im]
 unfold hfG;split
 ·next z=>exact⟨e2,by show s.1+s.2.1=2*s.1+128;omega,by show -64*(2*s.2.2)<=2*s.1;omega,by show s.1+s.2.1<=64*(2*s.2.2);omega,(o4 h _ _).1.mpr lp,z⟩
 ·next z=>exact⟨e2,by show 2*s.2.1=s.1+s.2.1+128;omega,by show -64*(2*s.2.2)<=s.1+s.2.1;omega,by show 2*s.2.1<=64*(2*s.2.2);omega,by show 0<aU l (s.1+s.2.1) (2*s.2.2);omega,(o4 h _ _).2.mpr hn⟩
theorem tZ{l:List Int}(h:SpK l):∀j,SpG l (itG l j) j
 |0=>⟨rfl,rfl,by show(-64:Int)*1 <= -64;decide,by show(64:Int)<=64*1;decide,h.first.1,h.first.2⟩
 |j+1=>(tZ h j).half h
theorem dl{x:Int}:(0<=sg x↔0<=x)/\(sg x<=0↔x<=0)/\(0<sg x↔0<x):=by
 unfold sg;split
 ·omega
 ·split<;>omega
def RS(x y:Rat)(l l':List Int):Prop:=¬(inC (cD l) x y/\inC (cD l') x y)
theorem xY{x y:Rat}{ls:List (List Int)}(h:(ls.map cD).Pairwise λs t=>¬(inC s x y/\inC t x y)){l l':List Int}(hl:l∈ls)(hl':l'∈ls)(ne:l'≠l):RS x y l l':=by
 rw[Jx]at h
 induction h with
 |nil=>cases hl
 | @cons a t ha _ ih =>
  rcases HI.mp hl with e |h1
  ·rcases HI.mp hl' with e' |h2
   ·exact absurd (e'.trans e.symm) ne
   ·rw[e];exact ha l' h2
  ·rcases HI.mp hl' with e' |h2
   ·rw[e'];exactλz=>ha l h1 ⟨z.2,z.1⟩
   ·exact ih h1 h2
theorem SpG.thin{l:List Int}{s:Int×Int×Int}{j:Nat}(S:SpG l s j)(hj:207<=j):((s.1:Rat)/(s.2.2:Rat))<((s.2.1:Rat)/(s.2.2:Rat))/\((s.2.1:Rat)/(s.2.2:Rat))-((s.1:Rat)/(s.2.2:Rat))<=1/2^200:=by
 have p:=S.pos;have w:=S.w;refine⟨(cT p p).mpr (Jt (by omega) p),?_⟩;have pr:(0:Rat)<(s.2.2:Rat):=HS.mpr p;have hw:(s.2.1:Rat)=(s.1:Rat)+128:=by rw[w,IH];rfl
 have e1:((s.2.1:Rat)/(s.2.2:Rat))-((s.1:Rat)/(s.2.2:Rat))=128/(s.2.2:Rat):=by rw[hw,Rat.div_def,Rat.div_def,Rat.div_def];grind
 rw[e1]
 have n1:(2:Int)^207<=s.2.2:=by
  rw[S.n];have:(2:Nat)^207<=2^j:=Nat.pow_le_pow_right (by decide) hj;have e:∀k:Nat,((2:Int)^k)=((2^k:Nat):Int):=λk=>by rw[Int.natCast_pow];rfl
  rw[e,e];exact Int.ofNat_le.mpr this
 have n2:(128*2^200:Rat)<=(s.2.2:Rat):=by
  have:=rle n1;have e:(((2:Int)^207:Int):Rat)=128*2^200:=by decide +kernel
  rw[e]at this;exact this
 have q:(0:Rat)<2^200:=Rat.pow_pos (by decide);generalize (2:Rat)^200=B at q n2 ⊢
 generalize (s.2.2:Rat)=N at pr n2 ⊢
 have h1:128/N*N=128:=HX (by grind);have h2:1/B*B=1:=HX (by grind);generalize 128/N=x at h1 ⊢
 generalize 1/B=y at h2 ⊢
 refine IB.mp λz=>?_
 have y0:0<y:=IV.mp λw=>by have:=Ij w (HG q);grind
 have h3:y*N<x*N:=JA z pr;have h4:128*B*y<=N*y:=Ij n2 (HG y0);have h5:128*B*y=128:=by rw[show 128*B*y=128*(y*B) by grind,h2];grind
 rw[h5,show N*y=y*N by grind]at h4;grind
theorem nj{l:List Int}(h:SpK l){t n t' n':Int}(hn:0<n)(hn':0<n'):inC (cD l) ((t:Rat)/(n:Rat)) ((t':Rat)/(n':Rat))↔0<=aU l t n/\aU l t' n'<=0:=by unfold inC;rw[h.div hn,h.div hn',dl.1,dl.2.1]
structure Fel(P:List Int)(ls:List (List Int)):Prop where
 ct:Cts P (ls.map cD)
 sp:∀l∈ls,SpK l
def j9(ls:List (List Int))(l:List Int)(s:Int×Int×Int):Prop:=∀x∈ls,x≠l->¬(0<=aU x s.1 s.2.2/\aU x s.2.1 s.2.2<=0)
theorem Fel.far{P:List Int}{ls:List (List Int)}(F:Fel P ls){l:List Int}(hl:l∈ls){s:Int×Int×Int}{j:Nat}(S:SpG l s j)(hj:207<=j):j9 ls l s:=λx hx ne z=>by obtain⟨t1,t2⟩:=S.thin hj;have p:=S.pos;exact xY (F.ct.ap _ _ t1 t2) hl hx ne ⟨(nj (F.sp l hl) p p).mpr ⟨HD S.lp,S.hn⟩,(nj (F.sp x hx) p p).mpr z⟩
theorem pN{α:Type}[DecidableEq α]{f:α->Int}{l:α}:∀{ls:List α},l∈ls->ls.Pairwise (λa b=>¬(a=l/\b=l))->(∀x∈ls,x≠l->f x=0)->f l=1->(ls.map f).sum=1
 | [],h,_,_,_=>by cases h
 |a::t,h,hp,h0,h1=>by
  obtain⟨p1,p2⟩:=JL.mp hp;rw[Is,List.sum_cons];by_cases e:a=l
  ·have:(t.map f).sum=0:=by
    have z:∀x∈t,f x=0:=λx hx=>h0 x (HC _ hx) λy=>p1 x hx ⟨e,y⟩
    clear p1 p2 hp h h0
    induction t with
    |nil=>rfl
    |cons b t ih=>rw[Is,List.sum_cons,z b (HE ..),ih λx hx=>z x (HC _ hx)];rfl
   rw[this,e,h1];rfl
  ·rw[h0 a (HE ..) e,pN ((HI.mp h).resolve_left (Ne.symm e)) p2 (λx hx=>h0 x (HC _ hx)) h1];rfl
theorem Fel.one{P:List Int}{ls:List (List Int)}(F:Fel P ls){l:List Int}(hl:l∈ls){s:Int×Int×Int}{j:Nat}(S:SpG l s j)(hA:j9 ls l s):cnt (ls.map cD) ((s.1:Rat)/(s.2.2:Rat)) ((s.2.1:Rat)/(s.2.2:Rat))=1:=by
 have p:=S.pos;have G:=tZ (F.sp l hl) 207;obtain⟨t1,t2⟩:=G.thin (Ht _);have pw:=F.ct.ap _ _ t1 t2;rw[Jx]at pw;have inl:=(nj (F.sp l hl) (t:=(itG l 207).1) (t':=(itG l 207).2.1) G.pos G.pos).mpr ⟨HD G.lp,G.hn⟩;unfold cnt;rw[Iw];have pw2:ls.Pairwise (λa b=>¬(a=l/\b=l)):=pw.imp λ{a b} h z=>h (by rw[z.1,z.2];exact⟨inl,inl⟩)
 refine pN hl pw2 (λx hx ne=>?_) ?_
 ·show(if 0<cD x _/\cD x _<=0 then(1:Int)else 0)=0;rw[(F.sp x hx).div p,(F.sp x hx).div p];exact if_neg λz=>hA x hx ne ⟨HD (dl.2.2.mp z.1),dl.2.1.mp z.2⟩
 ·show(if 0<cD l _/\cD l _<=0 then(1:Int)else 0)=1;rw[(F.sp l hl).div p,(F.sp l hl).div p];exact if_pos ⟨dl.2.2.mpr S.lp,dl.2.1.mpr S.hn⟩
theorem InG{l:List Int}{s:Int×Int×Int}{j:Nat}(S:SpG l s j):InS s (hfG l s):=by
 have p:=S.pos;have w:=S.w;unfold hfG InS;split
 ·refine⟨by show s.1*(2*s.2.2)<=2*s.1*s.2.2;exact Int.le_of_eq (by grind),?_⟩;show(s.1+s.2.1)*s.2.2<=s.2.1*(2*s.2.2);have:=Iz (show s.1+s.2.1<=s.2.1*2 by omega) (HD p);rw[ID]at this;exact this
 ·refine⟨?_,by show 2*s.2.1*s.2.2<=s.2.1*(2*s.2.2);exact Int.le_of_eq (by grind)⟩;show s.1*(2*s.2.2)<=(s.1+s.2.1)*s.2.2;have:=Iz (show s.1*2<=s.1+s.2.1 by omega) (HD p);rw[ID]at this;exact this
theorem Fel.half{P:List Int}{ls:List (List Int)}(F:Fel P ls){l:List Int}{s:Int×Int×Int}{j:Nat}(hl:l∈ls)(S:SpG l s j)(hA:j9 ls l s):j9 ls l (hfG l s):=λx hx ne z=>by
 have p:=S.pos;have S2:=S.half (F.sp l hl);have p2:=S2.pos;have I:=InG S;have C:=(F.sp x hx).cut;refine hA x hx ne ?_;have q1:=(F.sp x hx).div (t:=s.1) p;have q2:=(F.sp x hx).div (t:=(hfG l s).1) p2;have q3:=(F.sp x hx).div (t:=s.2.1) p;have q4:=(F.sp x hx).div (t:=(hfG l s).2.1) p2;have z1:=dl.1.mpr z.1;have z2:=dl.2.1.mpr z.2;rw[<- q2]at z1;rw[<- q4]at z2;constructor
 ·rw[<- dl.1,<- q1];rcases Jm (s.1*(hfG l s).2.2) ((hfG l s).1*s.2.2)with y |y
  ·have lt:=(cT p p2).mpr y;rcases Jm (cD x ((s.1:Rat)/(s.2.2:Rat))) 0 with w |w
   ·have:=C.m _ _ lt (by omega);omega
   ·exact w
  ·have e:s.1*(hfG l s).2.2=(hfG l s).1*s.2.2:=Int.le_antisymm I.1 y;have:((s.1:Rat)/(s.2.2:Rat))=(((hfG l s).1:Rat)/((hfG l s).2.2:Rat)):=Rat.le_antisymm (IB.mp λw=>absurd ((cT p2 p).mp w) (by omega)) (IB.mp λw=>absurd ((cT p p2).mp w) (by omega));rw[this];exact z1
 ·rw[<- dl.2.1,<- q3];rcases Jm ((hfG l s).2.1*s.2.2) (s.2.1*(hfG l s).2.2)with y |y
  ·have lt:=(cT p2 p).mpr y;have:=C.m _ _ lt z2;omega
  ·have e:(hfG l s).2.1*s.2.2=s.2.1*(hfG l s).2.2:=Int.le_antisymm I.2 y;have:(((hfG l s).2.1:Rat)/((hfG l s).2.2:Rat))=((s.2.1:Rat)/(s.2.2:Rat)):=Rat.le_antisymm (IB.mp λw=>absurd ((cT p p2).mp w) (by omega)) (IB.mp λw=>absurd ((cT p2 p).mp w) (by omega));rw[<- this];exact z2
theorem dvd_cf{m:Nat}{l:List Int}:m∣al l↔∀k,m∣(cf l k).natAbs:=by
 rw[dvd_gcdL];constructor
 ·intro h k;by_cases hk:k<l.length
  ·rw[ce hk];exact h _ (Ia hk)
  ·rw[aR (Ix hk)];exact Nat.dvd_zero _
 ·intro h v hv;obtain⟨k,hk,rfl⟩:=IT hv;have:=h k;rw[ce hk]at this;exact this
theorem CA{l r:List Int}(h:∀k,(cf l k).natAbs=(cf r k).natAbs):al l=al r :=
 Nat.dvd_antisymm (dvd_cf.mpr λk=>by rw[<- h k];exact dvd_cf.mp (IN _) k) (dvd_cf.mpr λk=>by rw[h k];exact dvd_cf.mp (IN _) k)
theorem iP(a b:List Int)(k:Nat):cf (bj a b) k=cf a k-cf b k:=by
 rw[<- pO,dX,fO];split
 ·rfl
 ·next h=>rw[aR (l:=a) (by omega),aR (l:=b) (by omega)];rfl
theorem oh(l:List Int)(k:Nat):cf (bj [] l) k = -cf l k:=by rw[iP,show cf [] k=0 from aR (Hy _)];omega
theorem uo(l:List Int):al (bj [] l)=al l:=CA λk=>by rw[oh];omega
theorem qU{l:List Int}(h:al l=1):ah l=l:=by
 have e:=io (l:=l);rw[h]at e
 have:scL ((1:Nat):Int) (ah l)=ah l:=by unfold scL;rw[show(λx:Int=>((1:Nat):Int)*x)=id from funext λx=>HV x];exact List.map_id _
 rw[this]at e;exact e
theorem yB{l:List Int}(h:Tr l)(hne:l≠[]):al (ah l)=1:=by
 obtain⟨p,_⟩:=eZ h hne;have e:=jS (al l:Int) (ah l);rw[io,Ii]at e;have p':0<al l:=by omega
 exact Nat.eq_of_mul_eq_mul_left p' (by rw[<- e,Nat.mul_one])
structure LnkF(one other:List Int):Prop where
 f:0<aO one other
 g:0<(al (ao one other):Int)
 tq:Tr (aQ one other)
 eq:∀n,aO one other*cf one n=aq (aQ one other) other n-(al (ao one other):Int)*cf (nxt one other) n
 sh:ah (nxt one other)=nxt one other
 tn:Tr (nxt one other)
 ln:(nxt one other).length<other.length
theorem Bl{one other:List Int}(t1:Tr one)(t2:Tr other)(ho:other≠[])(hn:nxt one other≠[]):LnkF one other:=by
 have er:rst one other=ao one other:=by unfold rst;rw[if_neg ho]
 have ex:nxt one other=ah (bj [] (ao one other)):=by unfold nxt;rw[er]
 have ts:Tr (bj [] (ao one other)):=by unfold bj;exact bP _
 have ns:bj [] (ao one other)≠[]:=λz=>hn (by rw[ex,z];rfl)
 have g:=(eZ ts ns).1;have sc:=sr (one:=one) ho;rw[uo]at g sc;exact⟨uR ho t2,g,uM ho t1 t2,sc,by rw[ex];exact qU (yB ts ns),pD one other,mx ho⟩
theorem cI(c:Int)(l:List Int)(n:Nat):cf (ae [c] l) n=c*cf l n:=by rw[aB];unfold aq;show sm [c] l n 0+tm [c] l n 0=_;unfold sm tm;rw[if_pos (Hy _),oa,Jb,IL]
theorem gq{c:Int}(h:c≠0):Tr [c]:=(tr_snoc (r:=[])).mpr h
theorem LnkF.sub{one other:List Int}(L:LnkF one other)(t1:Tr one):ae [aO one other] one=bj (ae (aQ one other) other) (ae [(al (ao one other):Int)] (nxt one other)):=by
 have f:=L.f;refine fu (d7 (gq (by omega)) t1) (by unfold bj;exact bP _) λk=>?_
 rw[cI,iP,cI,aB,L.eq k]
theorem LnkF.add{one other:List Int}(L:LnkF one other)(t1:Tr one):ae [aO one other] one=di (ae (aQ one other) other) (ae [0-(al (ao one other):Int)] (nxt one other)):=by
 have f:=L.f;refine fu (d7 (gq (by omega)) t1) (by unfold di;exact bP _) λk=>?_
 have e:cf (di (ae (aQ one other) other) (ae [0-(al (ao one other):Int)] (nxt one other))) k=cf (ae (aQ one other) other) k+cf (ae [0-(al (ao one other):Int)] (nxt one other)) k:=by unfold di;rw[dX,fQ,HV]
 rw[e,cI,cI,aB,L.eq k,Jo,Int.neg_mul];exact Int.sub_eq_add_neg
theorem rW{l:List Int}(h:Pln l):ah l=l:=qU h.prim
def Lk3(a b c:List Int):Prop:=∃(f g:Int) (q:List Int),0<f/\0<g/\∀n,f*cf a n=aq q b n-g*cf c n
theorem Lk3.pv{a b c:List Int}(h:Lk3 a b c):∃(q:List Int) (α β:Rat),0<α/\0<β/\∀x,α*pv a x=pv q x*pv b x-β*pv c x:=by
 obtain⟨f,g,q,hf,hg,e⟩:=h;refine⟨q,f,g,HS.mpr hf,HS.mpr hg,λx=>?_⟩;have h1:=mf x q b (ae q b) λn=>aB q b n
 have h2:=ix (a:=a) (b:=c) (c:=ae q b) (u:=f) (v:=g) x λn=>by rw[aB,e n];omega
 rw[h1]at h2;grind
theorem Lk3.dv{a b c d:List Int}(h:Lk3 a b c)(ha:Dv d a)(hb:Dv d b):Dv d c:=by obtain⟨f,g,q,hf,hg,e⟩:=h;have h1:Dv d (scL (-g) c):=Dv.down (f:=f) (q:=q) (a:=a) (b:=b) (λn=>by rw[e n,bG,Int.neg_mul];omega) ha hb;refine Dv.prop_right (x:=g) (y := -1) (by omega) (λn=>?_) h1;rw[bG];grind
theorem vb:∀(r:List (List Int)),2<=r.length->(∀xs∈r,Tr xs)->(∀k,k+2<r.length->Lk3 (r.getD k []) (r.getD (k+1) []) (r.getD (k+2) []))->(r.getD (r.length-1) []).length=1->SRow r
 | [],h,_,_,_=>absurd h (by decide)
 | [_],h,_,_,_=>absurd h (by show ¬2<=1;decide)
 | [a,b],_,ht,_,hl=>by have hl':b.length=1:=hl;obtain⟨c,rfl⟩:=Jr.mp hl';exact .two (ht [c] (by simp) 0 rfl)
 |a::b::c::t,_,ht,hk,hl=>by
  have h0:=hk 0 (by simp);obtain⟨q,α,β,h1,h2,e⟩:=h0.pv;refine .cons h1 h2 e (vb (b::c::t) (by simp) (λxs h=>ht xs (HC _ h)) (λk h=>?_) ?_)
  ·have:=hk (k+1) (by simp only[Ie]at h ⊢;omega);exact this
  ·have e1:(a::b::c::t).length-1=(b::c::t).length-1+1:=by simp
   rw[e1,List.getD_cons_succ]at hl;exact hl
theorem vc{d:List Int}(dn:d≠[])(dt:Tr d):∀(r:List (List Int)),2<=r.length->(∀xs∈r,Tr xs)->(∀k,k+2<r.length->Lk3 (r.getD k []) (r.getD (k+1) []) (r.getD (k+2) []))->(r.getD (r.length-1) []).length=1->Dv d (r.getD 0 [])->Dv d (r.getD 1 [])->d.length<=1
 | [],h,_,_,_,_,_=>absurd h (by decide)
 | [_],h,_,_,_,_,_=>absurd h (by show ¬2<=1;decide)
 | [a,b],_,ht,_,hl,_,h1=>by
  have hl':b.length=1:=hl;have h1':Dv d b:=h1;rcases Nat.lt_or_ge 1 d.length with z |z
  ·have:=Dv.short dn dt (ht b (by simp)) (by omega) h1';rw[this]at hl';exact absurd hl' (by decide)
  ·exact z
 |a::b::c::t,_,ht,hk,hl,h0,h1=>by
  have hc:Dv d c:=(hk 0 (by simp)).dv h0 h1;refine vc dn dt (b::c::t) (by simp) (λxs h=>ht xs (HC _ h)) (λk h=>?_) ?_ h1 hc
  ·have:=hk (k+1) (by simp only[Ie]at h ⊢;omega);exact this
  ·have e1:(a::b::c::t).length-1=(b::c::t).length-1+1:=by simp
   rw[e1,List.getD_cons_succ]at hl;exact hl
theorem Cts.any{P:List Int}{S:List (Rat->Int)}(C:Cts P S){r:List (List Int)}(hr:SRow r)(h2:2<=r.length)(e0:r.getD 0 []=P)(e1:r.getD 1 []=ah (slopeL P))(hs:slopeL P≠[]){t n t' n':Int}(hn:0<n)(hn':0<n')(hlt:t*n'<t'*n) :
 vr 0 (sgv r t n)-vr 0 (sgv r t' n')=cnt S ((t:Rat)/(n:Rat)) ((t':Rat)/(n':Rat)):=by
 match r,h2 with
 |F0::F1::rr,_ =>
  have e0':F0=P:=e0;have e1':F1=ah (slopeL P):=e1;subst e0' e1';obtain⟨ε,hε,hf⟩:=C.sg;obtain⟨g1,t1,n1,ec⟩:=eZ (fA C.tr) hs;have g1':(0:Rat)<((al (slopeL F0):Int):Rat):=HS.mpr g1;have hd:∀x,pv (slopeL F0) x=((al (slopeL F0):Int):Rat)*pv (ah (slopeL F0)) x:=λx=>gD x ec
  have:=pP hr g1' hd C.cut hε hf (fB (by decide) (Rat.pow_pos (by decide))) C.ap ((cT hn hn').mpr hlt);rw[jh hn,jh hn'];exact this
theorem pT{us:List (List Int×Nat)}(U:Use us)(hl:(whl 1 us).length<=20){p:List Int×Nat}(hp:p∈us)(h2:2<=p.2){r:List (List Int)}(r2:2<=r.length)(ht:∀xs∈r,Tr xs)(hk:∀k,k+2<r.length->Lk3 (r.getD k []) (r.getD (k+1) []) (r.getD (k+2) []))(hlast:(r.getD (r.length-1) []).length=1)(e0:r.getD 0 []=whl 1 us)(e1:r.getD 1 []=ah (slopeL (whl 1 us))):False:=by
 obtain⟨tw,nw,_⟩:=kd U (c:=1) (by decide);have hcom:=o3 U (c:=1) (by decide) hl;have P:=U.pri p hp;have hm:Dv p.1 (mor us 1):=nI us hp (by show 0<p.2-1;omega);rw[<- hcom]at hm;have C:=nY (show(slopeL (whl 1 us)).length<=19 by rw[fh];omega) tw (fA tw);have d1:=hm.trans C.left;have d2:=hm.trans C.right
 have d2':Dv p.1 (ah (slopeL (whl 1 us))):=by
  by_cases hs:slopeL (whl 1 us)=[]
  ·rw[hs];exact Dv.nil _
  ·obtain⟨g,_,_,e⟩:=eZ (fA tw) hs;exact Dv.prop_right (x:=(al (slopeL (whl 1 us)):Int)) (y:=1) (by omega) (λn=>by rw[e n];omega) d2
 have:=vc P.pln.ne P.pln.tr r r2 ht hk hlast (by rw[e0];exact d1) (by rw[e1];exact d2');have:=P.two;omega
end RM
open PySem.W in
local macro_rules | `(tactic|walk_at "comp_ok")=>`(tactic|exact⟨by with_unfolding_all rfl,by decide +kernel,rfl,by decide +kernel,by repeat' (first |exact List.forall_mem_nil _ |refine List.forall_mem_cons.2 ⟨rfl,?_⟩),by rfl,by repeat' (first |exact .nil |refine .cons ⟨rfl,by first |exact Or.inl rfl |exact Or.inr rfl,rfl⟩ ?_)⟩)
namespace R97
open PySem L2 RM
noncomputable def top(i:Nat):Stmt:=PySem.Challenge.pw_rootspan_k97_whole_no_false_count.main.body.getD i (.Pass ⟨0,0,0,0⟩)
abbrev kP:Stmt:=top 5
abbrev kO:Stmt:=top 6
abbrev kJ:Stmt:=top 7
abbrev gz:Stmt:=uc (top 8) 0
abbrev lO:Stmt:=uc (top 8) 5
abbrev kQ:Stmt:=top 10
abbrev kT:Stmt:=top 11
abbrev kL:Stmt:=top 12
abbrev kW:Stmt:=top 13
abbrev kR:Stmt:=top 14
abbrev kM:Stmt:=top 15
abbrev jl:Stmt:=top 16
abbrev kK:Stmt:=top 17
abbrev kN:Stmt:=top 18
abbrev kX:Stmt:=top 20
abbrev kU:Stmt:=top 21
abbrev kS:Stmt:=top 23
abbrev jo:Stmt:=top 24
abbrev jm:Stmt:=top 25
abbrev lK:Stmt:=top 27
abbrev kY:Stmt:=top 28
abbrev k8:Stmt:=top 29
abbrev lw:Stmt:=top 30
abbrev lN:Stmt:=top 31
abbrev lC:Stmt:=top 32
abbrev lf:Stmt:=top 33
abbrev jq:Stmt:=top 34
abbrev lu:Stmt:=top 35
abbrev lD:Stmt:=top 36
abbrev lg:Stmt:=top 37
abbrev k9:Stmt:=top 38
abbrev ld:Stmt:=top 39
abbrev lj:Stmt:=top 40
abbrev lv:Stmt:=top 41
abbrev lG:Stmt:=top 42
abbrev lH:Stmt:=top 43
abbrev kZ:Stmt:=top 44
abbrev ju:Stmt:=top 45
abbrev jr:Stmt:=top 46
abbrev lE:Stmt:=top 47
abbrev lM:Stmt:=top 48
abbrev jp:Stmt:=top 49
abbrev ly:Stmt:=top 50
abbrev lI:Stmt:=top 51
abbrev jt:Stmt:=top 52
abbrev lh:Stmt:=top 53
abbrev lJ:Stmt:=top 54
abbrev ll:Stmt:=top 55
abbrev lF:Stmt:=top 56
abbrev lL:Stmt:=top 57
abbrev jn:Stmt:=top 58
theorem scM{N P:List Str}{sc:Scope}(a:sc.kind=.function:=by rfl)(b:sc.isCoroutine=false:=by rfl)(c:sc.isGenerator=false:=by rfl)(e:N.Nodup:=by decide +kernel)(f:N.take P.length=P:=by rfl)(g:∀x∈P,sc.names.lookup x=some .local\/sc.names.lookup x=some .cell:=by decide +kernel)(h:∀y∈sc.names,y.2≠.free:=by decide +kernel):FnScope N P sc:=⟨a,b,c,e,f,g,h⟩
theorem sc_shared:FnScope ["row","divisor","value"] ["row"] (aA kP):=scM
theorem sc_shared_by_two:FnScope ["one","other","greater","less","rest"] ["one","other"] (aA kO):=scM
theorem xC:FnScope ["value"] ["value"] (aA kJ):=scM
theorem sc_Ratio___init__:FnScope ["self","top","bottom","divisor"] ["self","top","bottom"] (aA gz):=scM
theorem xO:FnScope ["self","other"] ["self","other"] (aA lO):=scM
theorem sc_poly:FnScope ["row","length"] ["row"] (aA kQ):=scM
theorem xI:FnScope ["row"] ["row"] (aA kT):=scM
theorem sc_taken:FnScope ["first","second","length"] ["first","second"] (aA kL):=scM
theorem xK:FnScope ["row","place"] ["row","place"] (aA kW):=scM
theorem sc_multiplied:FnScope ["first","second","product","j","one","k","other"] ["first","second"] (aA kR):=scM
theorem xD:FnScope ["row"] ["row"] (aA kM):=scM
theorem sc_shrunk:FnScope ["row","divisor"] ["row"] (aA jl):=scM
theorem sc_value_parts:FnScope ["row","top","bottom","above","below","value"] ["row","top","bottom"] (aA kK):=scM
theorem xE:FnScope ["row","ratio"] ["row","ratio"] (aA kN):=scM
theorem sc_changes:FnScope ["row","ratio","many","before","polynomial","sign"] ["row","ratio"] (aA kX):=scM
theorem xJ:FnScope ["row","low","high"] ["row","low","high"] (aA kU):=scM
theorem xG:FnScope ["polynomial","low","high","paper"] ["polynomial","low","high","paper"] (aA kS):=scM
theorem xH:FnScope ["polynomial","row","links"] ["polynomial","row","links"] (aA jo):=scM
theorem xF:FnScope ["row","k","link"] ["row","k","link"] (aA jm):=scM
theorem xN:FnScope ["_law_script","_law_k"] ["_law_script","_law_k"] (aA lK):=scM
theorem xL:FnScope ["_law_cell","_law_most"] ["_law_cell","_law_most"] (aA kY):=scM
theorem sc__law_trim:FnScope ["_law_row","_law_size"] ["_law_row"] (aA k8):=scM
theorem sc__law_mul:FnScope ["_law_kp","_law_kq","_law_made","_law_i","_law_one","_law_j","_law_other"] ["_law_kp","_law_kq"] (aA lw):=scM
theorem sc__law_add:FnScope ["_law_kp","_law_kq","_law_made","_law_k"] ["_law_kp","_law_kq"] (aA lN):=scM
theorem sc__law_gcd:FnScope ["_law_a","_law_b","_law_rest"] ["_law_a","_law_b"] (aA lC):=scM
theorem sc__law_shared:FnScope ["_law_kp","_law_most","_law_one"] ["_law_kp"] (aA lf):=scM
theorem sc__law_shrunk:FnScope ["_law_kp","_law_most","_law_one"] ["_law_kp"] (aA jq):=scM
theorem sc__law_plain:FnScope ["_law_kp","_law_made"] ["_law_kp"] (aA lu):=scM
theorem sc__law_factor_by:FnScope ["_law_cell","_law_most","_law_u","_law_b","_law_n","_law_e"] ["_law_cell","_law_most"] (aA lD):=scM
theorem sc__law_shape:FnScope ["_law_factor","_law_u","_law_b"] ["_law_factor"] (aA lg):=scM
theorem xM:FnScope ["_law_square","_law_due"] ["_law_square","_law_due"] (aA k9):=scM
theorem sc__law_side:FnScope ["_law_spot","_law_top","_law_bottom","_law_due","_law_square"] ["_law_spot","_law_top","_law_bottom"] (aA ld):=scM
theorem sc__law_roots_of:FnScope ["_law_factors","_law_made","_law_one"] ["_law_factors"] (aA lj):=scM
theorem sc__law_norm:FnScope ["_law_a","_law_b","_law_c","_law_m","_law_cubes"] ["_law_a","_law_b","_law_c","_law_m"] (aA lv):=scM
theorem sc__law_cube_shape:FnScope ["_law_cube","_law_a","_law_b","_law_c","_law_m"] ["_law_cube"] (aA lG):=scM
theorem sc__law_cube_by:FnScope ["_law_cell","_law_other","_law_m","_law_a","_law_b","_law_c"] ["_law_cell","_law_other","_law_m"] (aA lH):=scM
theorem sc__law_way:FnScope ["_law_spot","_law_top","_law_bottom","_law_first","_law_second"] ["_law_spot","_law_top","_law_bottom"] (aA kZ):=scM
theorem sc__law_divided:FnScope ["_law_kp","_law_kq","_law_factor","_law_k","_law_rest","_law_quotient","_law_j","_law_one"] ["_law_kp","_law_kq"] (aA ju):=scM
theorem sc__law_paper:FnScope ["_law_kp","_law_row","_law_links","_law_told","_law_divisor"] ["_law_kp"] (aA jr):=scM
theorem sc__law_end:FnScope ["_law_cell","_law_spots","_law_known","_law_one"] ["_law_cell","_law_spots"] (aA lE):=scM
theorem sc__law_amid:FnScope ["_law_spots","_law_low","_law_high","_law_many","_law_spot"] ["_law_spots","_law_low","_law_high"] (aA lM):=scM
theorem sc__law_uses_by:FnScope ["_law_cells_of","_law_room","_law_uses","_law_shapes","_law_cell","_law_one","_law_shape_here","_law_often"] ["_law_cells_of","_law_room"] (aA jp):=scM
theorem sc__law_more:FnScope ["_law_kp","_law_place","_law_many","_law_made"] ["_law_kp","_law_place","_law_many"] (aA ly):=scM
theorem sc__law_change_link:FnScope ["_law_links","_law_way_here","_law_at","_law_many","_law_place","_law_link","_law_less"] ["_law_links","_law_way_here","_law_at","_law_many","_law_place"] (aA lI):=scM
theorem sc__law_lay_behind:FnScope ["_law_row","_law_links","_law_way_here","_law_many","_law_last","_law_lead","_law_quotient"] ["_law_row","_law_links","_law_way_here","_law_many"] (aA jt):=scM
theorem sc__law_scaled:FnScope ["_law_row","_law_links","_law_cell","_law_other","_law_by","_law_told","_law_k","_law_link","_law_many","_law_quotient"] ["_law_row","_law_links","_law_cell","_law_other"] (aA lh):=scM
theorem sc__law_change:FnScope ["_law_row","_law_links","_law_cells_of","_law_way_here","_law_many","_law_at","_law_place","_law_kept"] ["_law_row","_law_links","_law_cells_of"] (aA lJ):=scM
theorem sc__law_product_of:FnScope ["_law_uses","_law_made","_law_use","_law_k"] ["_law_uses"] (aA ll):=scM
theorem sc__law_digits:FnScope ["_law_left","_law_size","_law_wide","_law_made","_law_k"] ["_law_left","_law_size","_law_wide"] (aA lF):=scM
theorem sc__law_any_paper:FnScope ["_law_paper_here","_law_cell","_law_other","_law_row","_law_left","_law_k","_law_links"] ["_law_paper_here","_law_cell","_law_other"] (aA lL):=scM
theorem sc_law:FnScope ["_law_script","_law_cube","_law_uses","_law_kp","_law_flat","_law_spots","_law_paper_here","_law_row","_law_links","_law_times_by","_law_strange","_law_k","_law_low","_law_high","_law_due","_law_handed","_law_found"] ["_law_script"] (aA jn):=scM
structure Txt(K:PySem.W.Frag)(mg:Str->Option Value):Prop where
 abs_:mg "abs"=none
 len_:mg "len"=none
 max_:mg "max"=none
 range_:mg "range"=none
 enumerate_:mg "enumerate"=none
 reversed_:mg "reversed"=none
 all_:mg "all"=none
 int_:mg "int"=none
 list_:mg "list"=none
 min_:mg "min"=none
 isinstance_:mg "isinstance"=none
 bool_:mg "bool"=none
def je(K:PySem.W.Frag):Sp:=λvs H Q _=>∃(a:Addr) (ns:List Int),vs=[.ref a]/\SqL K H a (ns.map V.int)/\ns.length<=63/\∀H',Q (.bl true) H'
section
variable {P:Program}{w:World}{K:PySem.W.Frag}{mg:Str->Option Value}{base:Heap}
theorem yf(n:Nat):(List.replicate n [V.int 0]).flatten=(List.replicate n (0:Int)).map V.int:=by
 induction n with
 |zero=>rfl
 |succ n ih=>rw[IP,Jq,ih,IP];rfl
theorem dE{n j:Nat}{i:Int}(e:i=j)(h:j<n):ixN n i=some j:=by subst e;unfold ixN;rw[if_pos (Jl _),if_pos (by omega)];simp
theorem iB(l:List Int)(j:Nat)(x:Int):(l.map V.int).set j (.int x)=(l.set j x).map V.int:=by rw[List.map_set]
theorem gh{l:List Int}{j:Nat}{i:Int}(e:i=j)(h:j<l.length):atI (l.map V.int) i=some (.int (cf l j)):=by subst e;exact fy (by rw[List.getElem?_map,eJ h];rfl)
def SameB(p:Addr)(H H':Hp):Prop:=∀b o,b≠p->H b=some o->H' b=some o
theorem SameB.refl(p:Addr)(H:Hp):SameB p H H:=λ_ _ _ h=>h
theorem SameB.then_new{p q:Addr}{H H1:Hp}{o:HO}(s:SameB p H H1)(h:H1 q=none):SameB p H (upd H1 q o):=λb u n e=>by rw[upd_ne (aE (s b u n e) h)];exact s b u n e
theorem SameB.then_upd{p:Addr}{H H1:Hp}{o:HO}(s:SameB p H H1):SameB p H (upd H1 p o):=λb u n e=>by rw[upd_ne n];exact s b u n e
def AllB(k:Nat)(l:List Int):Prop:=∀x∈l,Bits k x
theorem AllB.cf{k:Nat}{l:List Int}(h:AllB k l)(n:Nat):Bits k (cf l n):=by
 by_cases hn:n<l.length
 ·rw[ce hn];exact h _ (Ia hn)
 ·rw[aR (Ix hn)];exact Bits.zero
theorem cO{H H2:Hp}{p:Addr}{o:HO}(s:Same H H2)(hp:H p=none):Same H (upd H2 p o):=λb u e=>by rw[upd_ne (aE e hp)];exact s b u e
theorem sT(l:List Int)(x:Int):l.map V.int++[V.int x]=(l++[x]).map V.int:=by rw[Hu];rfl
noncomputable def cK(ms:List Int)(lo hi:Option Int):List Int:=(ms.drop (HT.sIx ms.length 0 lo)).take (HT.sIx ms.length ms.length hi-HT.sIx ms.length 0 lo)
theorem uV(ms:List Int)(lo hi:Option Int):dG (ms.map V.int) lo hi=(cK ms lo hi).map V.int:=by unfold dG cK;rw[Hs,<- List.map_drop,<- List.map_take]
theorem Dx{ms:List Int}{lo hi:Option Int}{x:Int}(h:x∈cK ms lo hi):x∈ms:=List.mem_of_mem_drop (List.mem_of_mem_take h)
theorem Dy(ms:List Int)(lo hi:Option Int):(cK ms lo hi).length<=ms.length:=by unfold cK;rw[HZ,List.length_drop];omega
theorem AllB.cut{k:Nat}{ms:List Int}{lo hi:Option Int}(h:AllB k ms):AllB k (cK ms lo hi):=λx hx=>h x (Dx hx)
theorem AllB.app{k:Nat}{l r:List Int}(h1:AllB k l)(h2:AllB k r):AllB k (l++r):=λx hx=>(HP.mp hx).elim (h1 x) (h2 x)
theorem AllB.zeros{k n:Nat}:AllB k (List.replicate n 0):=λx hx=>by rw[List.eq_of_mem_replicate hx];exact Bits.zero
theorem AllB.mono{j k:Nat}{l:List Int}(h:AllB j l)(hk:j<=k:=by decide):AllB k l:=λx hx=>(h x hx).mono hk
theorem AllB.nil{k:Nat}:AllB k []:=λ_ h=>nomatch h
theorem AllB.snoc{k:Nat}{l:List Int}{x:Int}(h:AllB k l)(hx:Bits k x):AllB k (l++[x]):=h.app λy hy=>by rw[Hx.mp hy];exact hx
theorem AH{l:List Int}{x:Int}(h:x∈trim l):x∈l:=by
 unfold trim at h
 rw[List.mem_reverse]at h;exact List.mem_reverse.mp ((List.dropWhile_sublist _).subset h)
theorem AllB.trim{k:Nat}{l:List Int}(h:AllB k l):AllB k (trim l):=λx hx=>h x (AH hx)
theorem dR{l:List Int}{i:Nat}{x:V}(h:(l.map V.int)[i]?=some x):∃c,l[i]?=some c/\x=.int c/\c∈l/\l.take (i+1)=l.take i++[c]:=by
 rw[List.getElem?_map]at h;cases e:l[i]? with
 |none=>rw[e]at h;cases h
 |some c=>rw[e]at h;exact⟨c,rfl,(Option.some.inj h).symm,List.mem_of_getElem? e,by rw[Ib,e];rfl⟩
def mkL(H:Hp)(Q:VK)(r:List Int):Prop:=∀(p:Addr) (H':Hp),Same H H'->H p=none->H' p=some (.lst (r.map V.int))->Q (.ref p) H'
def eX(K:PySem.W.Frag):Sp:=λvs H Q _=>∃(a:Addr) (ns:List Int),vs=[.ref a]/\SqL K H a (ns.map V.int)/\mkL H Q (trim ns)
def ij(K:PySem.W.Frag):Sp:=λvs H Q _=>∃(a:Addr) (ns:List Int) (k:Nat),vs=[.ref a,.int k]/\SqL K H a (ns.map V.int)/\Q (.int (ns.getD k 0)) H
def qG(K:PySem.W.Frag)(g:List Int->List Int->List Int):Sp:=λvs H Q _=>∃(a b:Addr) (xs ys:List Int),vs=[.ref a,.ref b]/\SqL K H a (xs.map V.int)/\SqL K H b (ys.map V.int)/\xs.length<=1000000/\ys.length<=1000000/\mkL H Q (g xs ys)
theorem sS(i j:Nat):(if((j:Nat):Int)>((i:Nat):Int)then((j:Nat):Int)else((i:Nat):Int))=((max i j:Nat):Int):=by split<;>omega
theorem qH{n:Nat}(h:n<=sizeLine) : -(2^62)<=((n:Nat):Int)/\((n:Nat):Int)<2^62:=by have:=sizeLine_eq;omega
def RwH(H:Hp)(ps:List Addr)(xss:List (List Int)):Prop:=ps.length=xss.length/\∀(i:Nat) (p:Addr) (xs:List Int),ps[i]?=some p->xss[i]?=some xs->H p=some (.lst (xs.map V.int))
theorem RwH.nil{H:Hp}:RwH H [] []:=⟨rfl,λi p xs h=>by simp at h⟩
theorem RwH.same{H H':Hp}{ps:List Addr}{xss:List (List Int)}(h:RwH H ps xss)(s:Same H H'):RwH H' ps xss:=⟨h.1,λi p xs a b=>s _ _ (h.2 i p xs a b)⟩
theorem RwH.rws{H:Hp}{ps:List Addr}{xss:List (List Int)}(h:RwH H ps xss):Rws K H ps xss:=⟨h.1,λi p xs a b=>SqL.of (h.2 i p xs a b)⟩
theorem RwH.snoc{H:Hp}{ps:List Addr}{xss:List (List Int)}{p:Addr}{xs:List Int}(h:RwH H ps xss)(hp:H p=some (.lst (xs.map V.int))):RwH H (ps++[p]) (xss++[xs]):=by
 refine⟨by rw[Hv,Hv,h.1];rfl,λi q ys a b=>?_⟩;by_cases hi:i<ps.length
 ·rw[List.getElem?_append_left hi]at a;rw[List.getElem?_append_left (by rw[<- h.1];exact hi)]at b;exact h.2 i q ys a b
 ·rw[List.getElem?_append_right (by omega)]at a;rw[List.getElem?_append_right (by rw[<- h.1];omega),<- h.1]at b;by_cases h0:i-ps.length=0
  ·rw[h0]at a b;obtain rfl:p=q:=by simpa using a
   obtain rfl:xs=ys:=by simpa using b
   exact hp
  ·rw[List.getElem?_eq_none_iff.mpr (by simp;omega)]at a;cases a
theorem RwH.get{H:Hp}{ps:List Addr}{xss:List (List Int)}{i:Nat}(h:RwH H ps xss)(hi:i<xss.length):∃p,ps[i]?=some p/\H p=some (.lst ((xss.getD i []).map V.int)):=by
 have hi':i<ps.length:=by rw[h.1];exact hi
 refine⟨ps[i],List.getElem?_eq_getElem hi',h.2 i _ _ (List.getElem?_eq_getElem hi') ?_⟩;rw[List.getElem?_eq_getElem hi];simp[List.getD,hi]
theorem RwH.of_get{H:Hp}{ps:List Addr}{xss:List (List Int)}{i:Nat}{x:V}(h:RwH H ps xss)(hx:(ps.map V.ref)[i]?=some x):∃p xs,x=.ref p/\ps[i]?=some p/\xss[i]?=some xs/\H p=some (.lst (xs.map V.int))/\i<xss.length:=by
 rw[List.getElem?_map]at hx;cases e:ps[i]? with
 |none=>rw[e]at hx;cases hx
 |some p =>
  rw[e]at hx;have hi:i<ps.length:=(List.getElem?_eq_some_iff.mp e).1;have hi':i<xss.length:=by rw[<- h.1];exact hi
  exact⟨p,xss[i],(Option.some.inj hx).symm,rfl,List.getElem?_eq_getElem hi',h.2 i p _ e (List.getElem?_eq_getElem hi'),hi'⟩
theorem gO(ps:List Addr)(p:Addr):ps.map V.ref++[V.ref p]=(ps++[p]).map V.ref:=by rw[Hu];rfl
theorem lW{i:Nat}{v:V}{σ:St}{H:Hp}{Q:St->Hp->Prop}(h:Q (σ.set i (some v)) H):dS i v σ H Q:=h
def TuH(H:Hp)(ps:List Addr)(xss:List (List Int)):Prop:=ps.length=xss.length/\∀(i:Nat) (p:Addr) (xs:List Int),ps[i]?=some p->xss[i]?=some xs->H p=some (.tup (xs.map V.int))
theorem TuH.nil{H:Hp}:TuH H [] []:=⟨rfl,λi p xs h=>by simp at h⟩
theorem TuH.same{H H':Hp}{ps:List Addr}{xss:List (List Int)}(h:TuH H ps xss)(s:Same H H'):TuH H' ps xss:=⟨h.1,λi p xs a b=>s _ _ (h.2 i p xs a b)⟩
theorem TuH.snoc{H:Hp}{ps:List Addr}{xss:List (List Int)}{p:Addr}{xs:List Int}(h:TuH H ps xss)(hp:H p=some (.tup (xs.map V.int))):TuH H (ps++[p]) (xss++[xs]):=by
 refine⟨by rw[Hv,Hv,h.1];rfl,λi q ys a b=>?_⟩;by_cases hi:i<ps.length
 ·rw[List.getElem?_append_left hi]at a;rw[List.getElem?_append_left (by rw[<- h.1];exact hi)]at b;exact h.2 i q ys a b
 ·rw[List.getElem?_append_right (by omega)]at a;rw[List.getElem?_append_right (by rw[<- h.1];omega),<- h.1]at b;by_cases h0:i-ps.length=0
  ·rw[h0]at a b;obtain rfl:p=q:=by simpa using a
   obtain rfl:xs=ys:=by simpa using b
   exact hp
  ·rw[List.getElem?_eq_none_iff.mpr (by simp;omega)]at a;cases a
theorem TuH.of_get{H:Hp}{ps:List Addr}{xss:List (List Int)}{i:Nat}{x:V}(h:TuH H ps xss)(hx:(ps.map V.ref)[i]?=some x):∃p xs,x=.ref p/\ps[i]?=some p/\xss[i]?=some xs/\H p=some (.tup (xs.map V.int))/\i<xss.length:=by
 rw[List.getElem?_map]at hx;cases e:ps[i]? with
 |none=>rw[e]at hx;cases hx
 |some p =>
  rw[e]at hx;have hi:i<ps.length:=(List.getElem?_eq_some_iff.mp e).1;have hi':i<xss.length:=by rw[<- h.1];exact hi
  exact⟨p,xss[i],(Option.some.inj hx).symm,rfl,List.getElem?_eq_getElem hi',h.2 i p _ e (List.getElem?_eq_getElem hi'),hi'⟩
theorem TuH.upd_lst{H:Hp}{ps:List Addr}{xss:List (List Int)}{a:Addr}{vs:List V}{o:HO}(h:TuH H ps xss)(ha:H a=some (.lst vs)):TuH (upd H a o) ps xss:=⟨h.1,λi p xs e1 e2=>by
 have e3:=h.2 i p xs e1 e2
 rw[L2.upd_ne (λz=>by rw[z,ha]at e3;cases e3)];exact e3⟩
theorem RwH.upd_no{H:Hp}{ps:List Addr}{xss:List (List Int)}{a:Addr}{o:HO}(h:RwH H ps xss)(hn:∀p∈ps,p≠a):RwH (upd H a o) ps xss:=⟨h.1,λi p xs e1 e2=>by rw[L2.upd_ne (hn p (List.mem_of_getElem? e1))];exact h.2 i p xs e1 e2⟩
def sp2:Sp:=λvs H Q _=>∃a b:Int,vs=[.int a,.int b]/\Q (.int (Nat.gcd a.natAbs b.natAbs:Nat)) H
theorem eT(i:Int):(if i<0 then -i else i)=(i.natAbs:Int):=by split<;>omega
theorem zp(F:Fun K "shared_by_two" "shared_by_two" kO f fd)(T:Txt K mg):FnOk P w K mg base CX0 1 f fd ["one","other"] sp2:=by
 refine F.ok sc_shared_by_two (λvs H Q E h=>?_) (λcdv A outer s H vs Q E hr h=>?_)
 ·obtain⟨a,b,rfl,_⟩:=h;rfl
 ·obtain⟨a,b,rfl,k⟩:=h
  refine⟨_,(ag (am (i:=2) sc_shared_by_two.nd rfl (Or.inl rfl) (aI g7 (by rfl) T.abs_ PyProof.Rows.boot_abs (aa (pv 0) ad)))
   (ag (am (i:=3) sc_shared_by_two.nd rfl (Or.inl rfl) (aI g7 (by rfl) T.abs_ PyProof.Rows.boot_abs (aa (pv 1) ad)))
   (ag (gF PassesOwn.never (aD jI (pv 3) ac (av _))
     (ag (am (i:=4) sc_shared_by_two.nd rfl (Or.inl rfl) (af aY (pv 2) (pv 3)))
       (ag (am (i:=2) sc_shared_by_two.nd rfl (Or.inl rfl) (pv 3))
       (ak (am (i:=3) sc_shared_by_two.nd rfl (Or.inl rfl) (pv 4))))))
   (ak (aG (pv 2)))))),?_⟩
  refine⟨_,rfl,_,rfl,?_⟩;refine⟨_,rfl,_,rfl,?_⟩;refine⟨λm σ' H'=>∃(x y:Int) (z:Option V),σ'=[some (.int a),some (.int b),some (.int x),some (.int y),z]/\H=H'/\0<=x/\0<=y/\y.natAbs=m/\Nat.gcd x.natAbs y.natAbs=Nat.gcd a.natAbs b.natAbs,⟨_,_,_,none,rfl,rfl,?_,?_,rfl,?_⟩,?_⟩
  ·rw[eT];exact Jl _
  ·rw[eT];exact Jl _
  ·rw[eT,eT,Ii,Ii]
  ·rintro m σ' H' ⟨x,y,z,rfl,rfl,hx,hy,rfl,hg⟩;refine⟨_,rfl,_,_,rfl,rfl,_,rfl,?_⟩;refine fY (λhn=>?_) (λh0=>?_)
   ·have hp:0<y:=by have:y≠0:=hn;omega
    refine⟨λσ'' H''=>∃m',m'<y.natAbs/\∃(x' y':Int) (z:Option V),σ''=[some (.int a),some (.int b),some (.int x'),some (.int y'),z]/\H=H''/\0<=x'/\0<=y'/\y'.natAbs=m'/\Nat.gcd x'.natAbs y'.natAbs=Nat.gcd a.natAbs b.natAbs,λ_ _ h=>h,?_⟩;refine⟨_,rfl,_,rfl,_,_,rfl,rfl,hp,?_⟩;refine⟨_,rfl,?_⟩;refine⟨_,rfl,?_⟩;have h1:=JC x (I0 hp);have h2:=JD x hp;exact⟨(x%y).natAbs,by omega,y,x%y,_,rfl,rfl,hy,h1,rfl,by rw[um hx hp];exact hg⟩
   ·refine⟨_,rfl,?_⟩;have e:(y:Int)=0:=h0;subst e
    have e2:(x:Int)=((Nat.gcd a.natAbs b.natAbs:Nat):Int):=by rw[<- hg];show x=((Nat.gcd x.natAbs 0:Nat):Int);rw[Nat.gcd_zero_right];omega
    rw[e2];exact k
def jc(K:PySem.W.Frag):Sp:=λvs H Q _=>∃(a:Addr) (ns:List Int),vs=[.ref a]/\SqL K H a (ns.map V.int)/\Q (.int (al ns:Nat)) H
theorem zq(F:Fun K "shared" "shared" kP f fd)(T:Txt K mg)(oT:Cal P w K mg base 1 "shared_by_two" ["one","other"] sp2 C4 CP):FnOk P w K mg base CX0 2 f fd ["row"] (jc K):=by
 obtain⟨oK,mM,mY,ox⟩:=oT;refine F.ok sc_shared (λvs H Q E h=>?_) (λcdv A outer s H vs Q E hr h=>?_)
 ·obtain⟨a,ns,rfl,_⟩:=h;rfl
 ·obtain⟨a,ns,rfl,hS,k⟩:=h
  refine⟨_,(ag (am (i:=1) sc_shared.nd rfl (Or.inl rfl) ac)
   (ag (bW PassesOwn.never rfl (ci (K:=K) rfl (pv 0)) (aL (i:=2) sc_shared.nd rfl (Or.inl rfl))
     (ak (am (i:=1) sc_shared.nd rfl (Or.inl rfl) (au oK (hr.mono) rfl mM mY ox .nil ar (aa (pv 1) (aa (pv 2) ad))))))
   (ak (aG (pv 1))))),?_⟩
  refine⟨_,rfl,a,rfl,⟨_,hS⟩,fL (K:=K) (a:=a) (xs:=ns.map V.int) (λi σ' H'=>∃z:Option V,σ'=[some (.ref a),some (.int (al (ns.take i):Nat)),z]/\H=H') ⟨none,rfl,rfl⟩ (λi σ' H' _ ⟨z,_,e⟩=>by rw[<- e];exact hS) ?_ ?_⟩
  ·rintro i y σ' H' hi ⟨z,rfl,rfl⟩;rw[List.getElem?_map]at hi;cases e:ns[i]? with
   |none=>rw[e]at hi;cases hi
   |some n =>
    rw[e]at hi;obtain rfl:=Option.some.inj hi;refine⟨_,rfl,_,rfl,_,_,rfl,?_⟩;have e3:ns.take (i+1)=ns.take i++[n]:=by rw[Ib,e];rfl
    refine⟨some (.int n),?_,rfl⟩;rw[e3,nu,Ii];rfl
  ·rintro σ' H' ⟨z,rfl,rfl⟩;refine⟨_,rfl,?_⟩;rw[Hs,HY];exact k
def ii:Sp:=λvs H Q _=>∃(a:Addr) (ns:List Int),vs=[.ref a]/\H a=some (.lst (ns.map V.int))/\Tr ns/\ns.length<=1000000/\mkL H Q (ah ns)
theorem iI{ns:List Int}(ht:Tr ns)(hne:ns≠[]):0<(al ns:Int):=by
 obtain⟨r,x,rfl⟩:=(c0 ns).resolve_left hne;have hx:x≠0:=tr_snoc.mp ht;have hm:x∈r++[x]:=by simp
 have h1:0<al (r++[x]):=Nat.pos_of_dvd_of_pos (jT hm) (IM.mpr hx);omega
theorem zo(F:Fun K "shrunk" "shrunk" jl f fd)(T:Txt K mg)(hNS:base.NoSeer)(hTr:P.given.tree=none)(Fk:Cal P w K mg base 2 "shared" ["row"] (jc K) GQ Gb):FnOk P w K mg base CX0 33 f fd ["row"] ii:=by
 obtain⟨EO,AU,BL,D5⟩:=Fk;refine F.ok sc_shrunk (λvs H Q E h=>?_) (λcdv A outer s H vs Q E hr h=>?_)
 ·obtain⟨a,ns,rfl,_⟩:=h;rfl
 ·obtain⟨a,ns,rfl,hA,ht,hn,k⟩:=h;have big:=sizeLine_eq;have hdp:(A.deeper (PyProof.Rows.envOfC (Str.ofString "shrunk") (aA jl) s.heap.objs.size f cdv)).depth+100<recursionLimit:=by have:=hr.dp;omega
  refine⟨_,(ag (am (i:=1) sc_shrunk.nd rfl (Or.inr rfl) (au EO (hr.mono) rfl AU BL D5 .nil ar (aa (pv 0) ad)))
   (ak (aG (cG (own:=["value"]) (fr:=["divisor"]) (js:=[1]) (by walk_at "comp_ok") rfl (ci (K:=K) rfl (pv 0)) (λ_ _ _ _=>(aL (i:=0) (show List.Nodup (["value","divisor"]:List Str)from by decide +kernel) rfl (Or.inl rfl))) (λ_ _ _ _=>(af (jJ hNS hTr hdp rfl rfl rfl rfl rfl) (pv 0) (pv 1))))))),?_⟩
  refine ax ⟨_,rfl,a,ns,rfl,SqL.of hA,?_⟩;refine bJ ⟨_,rfl,a,rfl,⟨_,SqL.of hA⟩,dW (K:=K) (a:=a) (xs:=ns.map V.int) (λi ys σ' H'=>∃(z0:Option V),σ'=[z0,some (.int (al ns:Nat))]/\ys=((ns.take i).map λx=>x/(al ns:Int)).map V.int/\H=H') (by rw[Hs];omega) ⟨none,rfl,rfl,rfl⟩ ?_ ?_ ?_⟩
  ·rintro i ys σ' H' _ ⟨z0,rfl,rfl,rfl⟩;exact⟨SqL.of hA,by rw[Hs,Hs,HZ];exact JF _ _⟩
  ·rintro i x ys σ' H' hi ⟨z0,rfl,rfl,rfl⟩;rw[List.getElem?_map]at hi;cases e:ns[i]? with
   |none=>rw[e]at hi;cases hi
   |some c =>rw[e]at hi;obtain rfl:=Option.some.inj hi;have g1:=iI ht (λz=>by rw[z]at e;simp at e);refine⟨_,rfl,_,rfl,_,_,rfl,rfl,g1,_,rfl,?_,rfl⟩;rw[Ib,e];simp
  ·rintro ys σ' H' p ⟨z0,rfl,rfl,rfl⟩ hp;refine k p _ (Same.upd_new hp) hp ?_;rw[aj,Hs,HY];rfl
def qj:Sp:=λvs H Q _=>∃(a:Addr) (ns:List Int),vs=[.ref a]/\H a=some (.lst (ns.map V.int))/\Tr ns/\ns.length<=1000000/\mkL H Q (aJ ns)
theorem Ew(r:List Int)(x:Int):atI ((r++[x]).map V.int) (-1)=some (.int x):=by rw[Hu];exact vG _ _
noncomputable def ft(t b:Int):List (Str×V):=cx "bottom" (.int b) (cx "top" (.int t) [])
theorem wD:¬(("top":Str)="bottom"):=by decide +kernel
theorem nC(t b:Int):(ft t b).lookup ("bottom":Str)=some (.int b):=by unfold ft;rw[f8,if_pos rfl]
theorem ny(t b:Int):(ft t b).lookup ("top":Str)=some (.int t):=by unfold ft;rw[f8,if_neg wD,f8,if_pos rfl]
theorem CN(t b:Int){m:Str}(h1:¬m="bottom")(h2:¬m="top"):(ft t b).lookup m=none:=by unfold ft;rw[f8,if_neg h1,f8,if_neg h2];rfl
structure RCI(K:PySem.W.Frag)(mg:Str->Option Value)(C:Addr):Prop where
 cl:Cls K C
 nT:NoAttr K C "top"
 nB:NoAttr K C "bottom"
 mg:mg "Ratio"=some (.ref C)
 ha:PySem.W.findIn K (.ref C) "__class__"=some (some (.builtin "object.__class__"))
 hn:PySem.W.specialIn K (.builtin "object.__class__") "__get__"=some (some (.builtin "getset_descriptor.__get__"))
 ht:PySem.W.takesIn K (.builtin "object.__class__")=some true
 hm:PySem.W.mroIn K C (.type "object")=some true
def RA(C:Addr)(H:Hp)(p:Addr)(t b:Int):Prop:=∃dx,H p=some (.ins C dx (ft t b))
theorem RA.same{C:Addr}{H H':Hp}{p:Addr}{t b:Int}(h:RA C H p t b)(s:Same H H'):RA C H' p t b:=let⟨dx,e⟩:=h;⟨dx,s _ _ e⟩
def jf(C:Addr):Sp:=λvs H Q _=>∃(p dx:Addr) (t b:Int),vs=[.ref p,.int t,.int b]/\H p=some (.ins C dx [])/\b≠0/\Bits 9000 b/\Q .non (upd H p (.ins C dx (ft (rt t b) (rb t b))))
theorem sU{C:Addr}{H1:Hp}{q:Addr->Hp->Prop}{E:XK}{t b:Int}(hb:b≠0)(bb:Bits 9000 b)(h:∀(x:Addr) (H':Hp),Same H1 H'->H1 x=none->RA C H' x (rt t b) (rb t b)->q x H'):∀x dx:Addr,H1 x=none->H1 dx=none->dx≠x->jf C (.ref x::([.int t,.int b]++[])) (upd (upd H1 dx (.own x)) x (.ins C dx [])) (λv H2=>v=.non/\q x H2) E:=λx dx nx ndx ne=>by
 refine⟨x,dx,t,b,rfl,aj,hb,bb,rfl,?_⟩;rw[o8]
 have s0:Same H1 (upd (upd H1 dx (.own x)) x (.ins C dx (ft (rt t b) (rb t b)))):=λc o e=>by rw[upd_ne (aE e nx),upd_ne (aE e ndx)];exact e
 exact h x _ s0 nx ⟨dx,aj⟩
theorem uK{t b:Int}(hb:b≠0)(bb:Bits 9000 b):Bits 9000 (dv t b):=bb.of_le (by rw[iM];exact Nat.le_of_dvd (IM.mpr hb) (Ji _ _))
theorem Ai(F:FunD K "__init__" "Ratio.__init__" gz dV f fd)(T:Txt K mg)(R:RCI K mg C)(oT:Cal P w K mg base 1 "shared_by_two" ["one","other"] sp2 C4 CP):FnOk P w K mg base CX0 2 f fd ["self","top","bottom"] (jf C):=by
 obtain⟨oK,mM,mY,ox⟩:=oT;refine F.ok sc_Ratio___init__ (λvs H Q E h=>?_) (λcdv A outer s H vs Q E hr h=>?_)
 ·obtain⟨p,dx,t,b,rfl,_⟩:=h;rfl
 ·obtain⟨p,dx,t,b,rfl,hp,hb,bb,k⟩:=h
  refine⟨_,(ag (aW (aD bh (pv 2) ac (av _))
   (ak yA)
   aV)
   (ag (am (i:=3) sc_Ratio___init__.nd rfl (Or.inl rfl) (au oK (hr.mono) rfl mM mY ox .nil ar (aa (pv 1) (aa (pv 2) ad))))
   (ag (aW (aD dw (pv 2) ac (av _))
     (ak (am (i:=3) sc_Ratio___init__.nd rfl (Or.inl rfl) (cV cR (pv 3))))
     aV)
   (ag (rM (pv 0) (af sf (pv 1) (pv 3)) rfl)
   (ak (rM (pv 0) (af sf (pv 2) (pv 3)) rfl)))))),?_⟩
  refine bU ⟨_,rfl,_,_,rfl,rfl,_,rfl,aC (λh=>absurd h hb) (λ_=>?_)⟩;refine ax ⟨_,rfl,_,rfl,t,b,rfl,?_⟩;refine cL (λσ' H'=>H=H'/\σ'=[some (.ref p),some (.int t),some (.int b),some (.int (dv t b))]) ?_ ?_
  ·rintro σ' H' ⟨rfl,rfl⟩;refine⟨_,rfl,_,rfl,_,_,rfl,rfl,⟨jY hb,uK hb bb⟩,_,rfl,p,C,dx,_,rfl,hp,R.cl,R.nT,by show 0<1000;decide,?_⟩;refine⟨_,rfl,_,rfl,_,_,rfl,rfl,⟨jY hb,uK hb bb⟩,_,rfl,p,C,dx,_,rfl,aj,R.cl,R.nB,by show 1<1000;decide,?_⟩;show Q .non (upd (upd H p _) p _);rw[o8];exact k
  ·intro rest;refine⟨_,rfl,_,_,rfl,rfl,_,rfl,?_⟩;refine aC (λh=>?_) (λh=>?_)
   ·refine⟨_,rfl,_,rfl,rest _ _ ⟨rfl,?_⟩⟩;have e:dv t b = -((Nat.gcd t.natAbs b.natAbs:Nat):Int):=by unfold dv;rw[if_pos h]
    rw[e];rfl
   ·refine rest _ _ ⟨rfl,?_⟩;have e:dv t b=((Nat.gcd t.natAbs b.natAbs:Nat):Int):=by unfold dv;rw[if_neg h]
    rw[e];rfl
def kv:Sp:=λvs H Q _=>∃x:Int,vs=[.int x]/\Q (.int (sg x)) H
theorem zj(F:Fun K "whole_sign" "whole_sign" kJ f fd)(T:Txt K mg):FnOk P w K mg base CX0 1 f fd ["value"] kv:=by
 refine F.ok xC (λvs H Q E h=>?_) (λcdv A outer s H vs Q E hr h=>?_)
 ·obtain⟨x,rfl,_⟩:=h;rfl
 ·obtain⟨x,rfl,k⟩:=h
  refine⟨_,(ag (aW (aD dw (pv 0) ac (av _))
   (ak (aG (cV cR ac)))
   aV)
   (ag (aW (aD cM (pv 0) ac (av _))
     (ak (aG ac))
     aV)
   (ak (aG ac)))),?_⟩
  refine bU ⟨_,rfl,_,_,rfl,rfl,_,rfl,aC (λh=>?_) (λh=>?_)⟩
  ·have e:sg x = -1:=by unfold sg;rw[if_pos h]
   rw[e]at k;exact⟨_,rfl,k⟩
  refine bU ⟨_,rfl,_,_,rfl,rfl,_,rfl,aC (λh'=>?_) (λh'=>?_)⟩
  ·have e:sg x=1:=by unfold sg;rw[if_neg h,if_pos h']
   rw[e]at k;exact k
  ·have e:sg x=0:=by unfold sg;rw[if_neg h,if_neg h']
   rw[e]at k;exact k
def qE(C:Addr):Sp:=λvs H Q _=>∃(p q:Addr) (t b u d:Int),vs=[.ref p,.ref q]/\RA C H p t b/\RA C H q u d/\Bits 100000 t/\Bits 100000 b/\Bits 100000 u/\Bits 100000 d/\Q (.int (sg (t*d-u*b))) H
theorem Ah(F:Fun K "against" "Ratio.against" lO f fd)(T:Txt K mg)(R:RCI K mg C)(oS:Cal P w K mg base 1 "whole_sign" ["value"] kv C0 CO):FnOk P w K mg base CX0 2 f fd ["self","other"] (qE C):=by
 obtain⟨oJ,mL,mX,ow⟩:=oS;refine F.ok xO (λvs H Q E h=>?_) (λcdv A outer s H vs Q E hr h=>?_)
 ·obtain⟨p,q,t,b,u,d,rfl,_⟩:=h;rfl
 ·obtain⟨p,q,t,b,u,d,rfl,⟨dx,hp⟩,⟨dy,hq⟩,bt,bb,bu,bd,k⟩:=h;refine⟨_,(ak (aG (au oJ (hr.mono) rfl mL mX ow .nil ar (aa (af aZ (af aH (gH (K:=K) rfl (pv 0) rfl) (gH (K:=K) rfl (pv 1) rfl)) (af aH (gH (K:=K) rfl (pv 1) rfl) (gH (K:=K) rfl (pv 0) rfl))) ad)))),?_⟩;refine⟨_,rfl,p,C,dx,_,_,rfl,hp,R.cl,R.nT,ny _ _,_,rfl,q,C,dy,_,_,rfl,hq,R.cl,R.nB,nC _ _,_,_,rfl,rfl,⟨bt.mono,bd.mono⟩,?_⟩;exact⟨_,rfl,q,C,dy,_,_,rfl,hq,R.cl,R.nT,ny _ _,_,rfl,p,C,dx,_,_,rfl,hp,R.cl,R.nB,nC _ _,_,_,rfl,rfl,⟨bu.mono,bb.mono⟩,_,_,rfl,rfl,_,rfl,k⟩
theorem zr(F:Fun K "poly" "poly" kQ f fd)(T:Txt K mg):FnOk P w K mg base CX0 1 f fd ["row"] (eX K):=by
 refine F.ok sc_poly (λvs H Q E h=>?_) (λcdv A outer s H vs Q E hr h=>?_)
 ·obtain⟨a,ns,rfl,_⟩:=h;rfl
 ·obtain⟨a,ns,rfl,hS,k⟩:=h
  refine⟨_,(ag (am (i:=1) sc_poly.nd rfl (Or.inl rfl) (aI (aX (K:=K) rfl) (by rfl) T.len_ PySem.boot_len (aa (pv 0) ad)))
   (ag (gF PassesOwn.never (PW.pt (cF (aD cM (pv 1) ac (av _)) (cU (aD bh (ai (aM (K:=K) rfl) (pv 0) (af aZ (pv 1) ac) (λ_ _=>rfl)) ac (av _)))))
     (ak (am (i:=1) sc_poly.nd rfl (Or.inl rfl) (af aZ (pv 1) ac))))
   (ak (aG (iy (im (K:=K) rfl) (pv 0) jF (gG (pv 1))))))),?_⟩
  refine⟨_,rfl,a,_,rfl,.inl hS,?_⟩;refine⟨λm σ' H'=>∃n:Nat,n<=ns.length/\σ'=[some (.ref a),some (.int n)]/\H=H'/\n=m/\trim (ns.take n)=trim ns,⟨_,ns.length,Ht _,?_,rfl,rfl,?_⟩,?_⟩
  ·rw[Hs];rfl
  ·rw[HY]
  ·rintro m σ' H' ⟨n,hn,rfl,rfl,rfl,ht⟩
   have fin:trim (ns.take n)=ns.take n->∃v,([some (V.ref a),some (V.int n)]:St)[0]?=some (some v)/\∃v_1,([some (V.ref a),some (V.int n)]:St)[1]?=some (some v_1)/\∃i,v_1=V.int i/\jC K v none (some i) H Q:=λh=>by
    refine⟨_,rfl,_,rfl,n,rfl,a,_,rfl,hS,λp hp=>k p _ (Same.upd_new hp) hp ?_⟩;rw[aj,<- ht,h]
    have e:dG (ns.map V.int) none (some (n:Int))=(ns.take n).map V.int:=by unfold dG;rw[HT.sIx_none,HT.sIx_nat,List.drop_zero,Jb,Hs,Nat.min_eq_left hn,List.map_take]
    rw[e]
   refine⟨_,rfl,_,_,rfl,rfl,_,rfl,?_⟩;refine aC (λhp=>?_) (λhp=>?_)
   ·obtain⟨j,rfl⟩:∃j,n=j+1:=⟨n-1,by have:(0:Int)<n:=hp;omega⟩;have hj:j<ns.length:=hn;refine⟨_,rfl,_,rfl,_,_,rfl,rfl,a,_,j,.int (cf ns j),rfl,?_,hS,fy ?_,_,_,rfl,rfl,_,rfl,?_⟩
    ·show V.int (((j+1:Nat):Int)-1)=V.int j
     congr 1;omega
    ·rw[List.getElem?_map,eJ hj];rfl
    refine aC (λh0=>?_) (λh0=>?_)
    ·refine⟨λσ'' H''=>∃m',m'<j+1/\∃n:Nat,n<=ns.length/\σ''=[some (.ref a),some (.int n)]/\H=H''/\n=m'/\trim (ns.take n)=trim ns,λ_ _ h=>h,?_⟩;refine⟨_,rfl,_,_,rfl,rfl,j,IJ _,j,IY hj,?_,rfl,rfl,?_⟩
     ·show[some (V.ref a),some (V.int (((j+1:Nat):Int)-1))]=[some (V.ref a),some (V.int j)]
      congr 4;omega
     ·rw[<- ht,ph hj h0]
    ·exact fin (pi hj h0)
   ·obtain rfl:n=0:=by have:¬(0:Int)<n:=hp;omega
    exact fin (by rw[JG];rfl)
theorem zA(F:Fun K "coefficient" "coefficient" kW f fd)(T:Txt K mg):FnOk P w K mg base CX0 1 f fd ["row","place"] (ij K):=by
 refine F.ok xK (λvs H Q E h=>?_) (λcdv A outer s H vs Q E hr h=>?_)
 ·obtain⟨a,ns,k,rfl,_⟩:=h;rfl
 ·obtain⟨a,ns,n,rfl,hS,k⟩:=h
  refine⟨_,(ag (aW (aD dw (pv 1) (aI (aX (K:=K) rfl) (by rfl) T.len_ PySem.boot_len (aa (pv 0) ad)) (av _))
   (ak (aG (ai (aM (K:=K) rfl) (pv 0) (pv 1) (λ_ _=>rfl))))
   aV)
   (ak (aG ac))),?_⟩
  refine⟨_,rfl,_,rfl,a,_,rfl,.inl hS,_,_,rfl,rfl,_,rfl,?_⟩;refine aC (λh1=>?_) (λh1=>?_)
  ·rw[Hs]at h1;have h2:n<ns.length:=by omega
   refine⟨_,rfl,_,rfl,a,_,_,_,rfl,rfl,hS,fy (v:=.int (ns.getD n 0)) ?_,k⟩;rw[List.getElem?_map,List.getElem?_eq_getElem h2];simp[List.getD,h2]
  ·rw[Hs]at h1;have h2:ns.length<=n:=by omega
   have e:ns.getD n 0=0:=by simp[List.getD,List.getElem?_eq_none_iff.mpr h2]
   rw[e]at k;exact k
theorem zl(F:Fun K "taken" "taken" kL f fd)(T:Txt K mg)(Fl:Cal P w K mg base 1 "poly" ["row"] (eX K) GR Gc)(Ft:Cal P w K mg base 1 "coefficient" ["row","place"] (ij K) GY Gj):FnOk P w K mg base CX0 2 f fd ["first","second"] (qG K bj):=by
 obtain⟨EQ,AV,BM,D6⟩:=Fl;obtain⟨vR,sV,tM,vx⟩:=Ft;refine F.ok sc_taken (λvs H Q E h=>?_) (λcdv A outer s H vs Q E hr h=>?_)
 ·obtain⟨a,b,xs,ys,rfl,_⟩:=h;rfl
 ·obtain⟨a,b,xs,ys,rfl,hA,hB,hx,hy,k⟩:=h
  refine⟨_,(ag (am (i:=2) sc_taken.nd rfl (Or.inl rfl) (aI (oq rfl) (by rfl) T.max_ PyProof.Rows.boot_max (aa (aI (aX (K:=K) rfl) (by rfl) T.len_ PySem.boot_len (aa (pv 0) ad)) (aa (aI (aX (K:=K) rfl) (by rfl) T.len_ PySem.boot_len (aa (pv 1) ad)) ad))))
   (ak (aG (au EQ (hr.mono) rfl AV BM D6 .nil ar (aa (cG (own:=["k"]) (fr:=["first","second"]) (js:=[0,1]) (by walk_at "comp_ok") rfl (dr rfl T.range_ (aa (pv 2) ad)) (λ_ _ _ _=>(aL (i:=0) (show List.Nodup (["k","first","second"]:List Str)from by decide +kernel) rfl (Or.inl rfl))) (λ_ _ _ _=>(af aZ (au vR (hr.mono) rfl sV tM vx .nil ar (aa (pv 1) (aa (pv 0) ad))) (au vR (hr.mono) rfl sV tM vx .nil ar (aa (pv 2) (aa (pv 0) ad)))))) ad))))),?_⟩
  refine⟨_,rfl,a,_,rfl,.inl hA,_,rfl,b,_,rfl,.inl hB,_,_,rfl,?_⟩;rw[sS,Hs,Hs];have hz:max xs.length ys.length<=sizeLine:=by have:=sizeLine_eq;omega
  refine⟨_,rfl,_,rfl,(qH hz).1,(qH hz).2,gY (lo:=0) (n:=max xs.length ys.length) (λi zs σ' H'=>∃z:Option V,σ'=[z,some (.ref a),some (.ref b)]/\zs=((List.range i).map λk=>V.int (cf xs k-cf ys k))/\H=H') hz ⟨none,rfl,rfl,rfl⟩ ?_ ?_ ?_⟩
  ·rintro i zs σ' H' _ ⟨z,rfl,rfl,rfl⟩;simp
  ·rintro i zs σ' H' hi ⟨z,rfl,rfl,rfl⟩;refine⟨_,rfl,_,rfl,a,xs,i,?_,hA,_,rfl,_,rfl,b,ys,i,?_,hB,_,_,rfl,rfl,_,rfl,?_,rfl⟩
   ·show[V.ref a,V.int (0+(i:Int))]=_;rw[IL]
   ·show[V.ref b,V.int (0+(i:Int))]=_;rw[IL]
   ·rw[IW,Hu];rfl
  ·rintro zs σ' H' p ⟨z,rfl,rfl,rfl⟩ hp;refine⟨p,(List.range (max xs.length ys.length)).map λk=>cf xs k-cf ys k,rfl,SqL.of ?_,?_⟩
   ·rw[aj,Iw];rfl
   ·intro p' H' sm hp' e;refine k p' H' ((Same.upd_new hp).trans sm) ((Same.upd_new hp).free hp') ?_;rw[e,pO]
def sp1(g:List Int->List Int):Sp:=λvs H Q _=>∃(a:Addr) (ns:List Int),vs=[.ref a]/\H a=some (.lst (ns.map V.int))/\ns.length<=100000/\AllB 100000 ns/\mkL H Q (g ns)
theorem AC{k:Nat}{n:Nat}(h:n<2^k):Bits k (n:Int):=by show((n:Int)).natAbs<2^k;rw[Ii];exact h
theorem wV{n:Nat}(h:n<=1000000):Bits 1000000 (n:Int):=(AC (k:=20) (JH h (by decide))).mono
theorem yo(f:Nat->V)(i:Nat):(List.range i).map f++[f i]=(List.range (i+1)).map f:=by rw[IW,Hu];rfl
theorem zm(F:Fun K "slope" "slope" kM f fd)(T:Txt K mg):FnOk P w K mg base CX0 1 f fd ["row"] (sp1 slopeL):=by
 refine F.ok xD (λvs H Q E h=>?_) (λcdv A outer s H vs Q E hr h=>?_)
 ·obtain⟨a,ns,rfl,_⟩:=h;rfl
 ·obtain⟨a,ns,rfl,hA,hn,hb,k⟩:=h;have big:=sizeLine_eq;refine⟨_,(ak (aG (cG (own:=["k"]) (fr:=["row"]) (js:=[0]) (by walk_at "comp_ok") rfl (yQ rfl T.range_ (aa ac (aa (aI (aX (K:=K) rfl) (by rfl) T.len_ PySem.boot_len (aa (pv 0) ad)) ad))) (λ_ _ _ _=>(aL (i:=0) (show List.Nodup (["k","row"]:List Str)from by decide +kernel) rfl (Or.inl rfl))) (λ_ _ _ _=>(af aH (pv 0) (ai (aM (K:=K) rfl) (pv 1) (pv 0) (λ_ _=>rfl))))))),?_⟩;have hl:(ns.map V.int).length=ns.length:=Hs _;refine bJ ⟨_,rfl,a,_,rfl,.inl (SqL.of hA),1,_,rfl,⟨by decide,by decide,by rw[hl];omega,by rw[hl];omega⟩,gY (lo:=1) (λi ys σ' H'=>∃z:Option V,σ'=[z,some (.ref a)]/\ys=((List.range i).map λ(j:Nat)=>V.int (((j:Int)+1)*cf ns (j+1)))/\H=H') (by rw[hl];omega) ⟨none,rfl,rfl,rfl⟩ ?_ ?_ ?_⟩
  ·rintro i ys σ' H' _ ⟨z,rfl,rfl,rfl⟩;simp
  ·rintro i ys σ' H' hi ⟨z,rfl,rfl,rfl⟩;rw[hl]at hi;have hi':i+1<ns.length:=by omega
   have e0:(1:Int)+(i:Int)=((i+1:Nat):Int):=by omega
   refine⟨_,rfl,_,rfl,_,rfl,a,_,_,_,rfl,rfl,SqL.of hA,gh e0 hi',_,_,rfl,rfl,⟨by rw[e0];exact wV (by omega),(hb.cf _).mono⟩,_,rfl,?_,rfl⟩;rw[<- yo];show _++[V.int ((1+(i:Int))*cf ns (i+1))]=_;rw[Int.add_comm 1]
  ·rintro ys σ' H' p ⟨z,rfl,rfl,rfl⟩ hp;refine k p _ (Same.upd_new hp) hp ?_;have en:(((ns.map V.int).length:Int)-1).toNat=ns.length-1:=by rw[hl];omega
   rw[aj,en];unfold RM.slopeL;rw[Iw];rfl
def qv:Sp:=λvs H Q _=>∃(a:Addr) (xs:List V),vs=[.ref a]/\H a=some (.lst xs)/\Q (.int ((xs.length:Int)-1)) H
theorem zy(F:Fun K "degree" "degree" kT f fd)(T:Txt K mg):FnOk P w K mg base CX0 1 f fd ["row"] qv:=by
 refine F.ok xI (λvs H Q E h=>?_) (λcdv A outer s H vs Q E hr h=>?_)
 ·obtain⟨a,xs,rfl,_⟩:=h;rfl
 ·obtain⟨a,xs,rfl,hA,k⟩:=h;refine⟨_,(ak (aG (af aZ (aI (aX (K:=K) rfl) (by rfl) T.len_ PySem.boot_len (aa (pv 0) ad)) ac))),?_⟩;exact⟨_,rfl,a,_,rfl,.inl (SqL.of hA),_,_,rfl,rfl,k⟩
theorem AllB.of_cf{k:Nat}{l:List Int}(h:∀n,Bits k (RM.cf l n)):AllB k l:=λx hx=>by
 obtain⟨i,hi,rfl⟩:=List.mem_iff_getElem.mp hx;have:=h i
 rwa [ce hi]at this
theorem g9{k:Nat}{x:Int}(h:Bits k x):Bits k ((x.natAbs:Nat):Int):=h.of_le (by rw[Ii];exact Ht _)
theorem ji{k:Nat}{x y:Int}(h:Bits k y):Bits k (sg x*y):=h.of_le (by
 rw[Ig];have h2:(sg x).natAbs<=1:=by unfold sg;split<;>(try split)<;>decide
 calc (sg x).natAbs*y.natAbs<=1*y.natAbs:=IG _ h2
  _=y.natAbs:=Nat.one_mul _)
theorem nM{xs ys:List Int}{b:Nat}(hx:AllB b xs)(hy:AllB b ys):∀i,AllB (b+i*(b+1)) (bI xs ys i).1/\AllB (b+i*(b+1)) (bI xs ys i).2
 |0=>by rw[Nat.zero_mul];exact⟨AllB.zeros,hx⟩
 |i+1=>by
  obtain⟨h1,h2⟩:=nM hx hy i;have e:b+(i+1)*(b+1)=b+i*(b+1)+b+1:=by rw[Nat.succ_mul];omega
  have hs:Bits b (((RM.cf ys (ys.length-1)).natAbs:Nat):Int):=g9 (hy.cf _);rw[e];show AllB _ (cz ys (bI xs ys i) _).1/\AllB _ (cz ys (bI xs ys i) _).2;unfold cz;dsimp only
  constructor
  ·intro x hx;rcases Jp hx with h |rfl
   ·obtain⟨y,hy',rfl⟩:=Hz.mp h;have:=hs.mul (h1 y hy');exact this.mono (by omega)
   ·exact(ji (h2.cf _)).mono (by omega)
  ·refine AllB.of_cf λn=>?_
   rw[oi];by_cases hn:n<(scL (((RM.cf ys (ys.length-1)).natAbs:Nat):Int) (bI xs ys i).2).length-1
   ·rw[if_pos hn,bG]
    have m1:Bits (b+i*(b+1)+b) ((((RM.cf ys (ys.length-1)).natAbs:Nat):Int)*RM.cf (bI xs ys i).2 n):=by have:=hs.mul (h2.cf n);rwa [Nat.add_comm]at this
    refine m1.sub ?_;by_cases hp:(xs.length+1-ys.length-1-i)<=n
    ·rw[if_pos hp];exact(ji (h2.cf _)).mul (hy.cf _)
    ·rw[if_neg hp];exact Bits.zero
   ·rw[if_neg hn];exact Bits.zero
theorem gf{k:Nat}{b:Int}(h:Bits k b):∀n,Bits (k*n+1) (b^n)
 |0=>by show((b^0:Int)).natAbs<2^(k*0+1);rw[Int.pow_zero,Nat.mul_zero];decide
 |n+1=>by rw[Iy];have:=(gf h n).mul h;exact this.mono (by rw[Nat.mul_succ];omega)
theorem Ev{l:List Int}(h:l≠[]):atI (l.map V.int) (-1)=some (.int (cf l (l.length-1))):=by
 obtain⟨r,x,rfl⟩:=(c0 l).resolve_left h;have e:(r++[x]).length-1=r.length:=by simp
 rw[e,gZ,Hu];exact vG _ _
def Fit(one other:List Int):Prop:=Tr one/\Tr other/\∃n,AllB n one/\AllB n other/\(one.length+2)*(n+1)<=1000000/\other.length<=1000000
noncomputable def Run:Nat->List Int->List Int->Prop
 |0,one,_=>one=[]
 |n+1,one,other=>one=[]\/(Fit one other/\Run n other (nxt one other))
theorem RwH.upd_ne{H:Hp}{ps:List Addr}{xss:List (List Int)}{a:Addr}{o:HO}(h:RwH H ps xss)(hn:∀p∈ps,p≠a):RwH (upd H a o) ps xss:=⟨h.1,λi p xs e1 e2=>by rw[L2.upd_ne (hn p (List.mem_of_getElem? e1))];exact h.2 i p xs e1 e2⟩
theorem kf{xs:List Int}(h:Tr xs):Tr (slopeL xs):=by
 intro n hn;unfold slopeL at *
 rw[Hs,Ih]at hn;rw[fO,if_pos (by omega)];exact HM (by omega) (h (n+1) (by omega))
def fU:Sp:=λvs H Q _=>∃(a b:Addr) (xs ys:List Int),vs=[.ref a,.ref b]/\H a=some (.lst (xs.map V.int))/\H b=some (.lst (ys.map V.int))/\xs.length<=1000000/\ys.length<=1000000/\AllB 1000000 xs/\AllB 1000000 ys/\mkL H Q (ae xs ys)
theorem zt(F:Fun K "multiplied" "multiplied" kR f fd)(T:Txt K mg):FnOk P w K mg base CX0 1 f fd ["first","second"] fU:=by
 refine F.ok sc_multiplied (λvs H Q E h=>?_) (λcdv A outer s H vs Q E hr h=>?_)
 ·obtain⟨a,b,xs,ys,rfl,_⟩:=h;rfl
 ·obtain⟨a,b,xs,ys,rfl,hA,hB,hx,hy,bx,by',k⟩:=h;have hu:=hr.units
  refine⟨_,(ag (aW (PW.pt (dN (aD (mw (K:=K) rfl hu) (pv 0) (bH ad) (av _)) (eh (aD (mw (K:=K) rfl hu) (pv 1) (bH ad) (av _)))))
   (ak (aG (bH ad)))
   aV)
   (ag (am (i:=2) sc_multiplied.nd rfl (Or.inl rfl) (af yX (bH (aa ac ad)) (af aZ (af aT (aI (aX (K:=K) rfl) (by rfl) T.len_ PySem.boot_len (aa (pv 0) ad)) (aI (aX (K:=K) rfl) (by rfl) T.len_ PySem.boot_len (aa (pv 1) ad))) ac)))
   (ag (bW PassesOwn.never rfl (fb rfl T.enumerate_ (aa (pv 0) ad)) (fC rfl (cj (aL (i:=3) sc_multiplied.nd rfl (Or.inl rfl)) (cj (aL (i:=4) sc_multiplied.nd rfl (Or.inl rfl)) eC)))
     (ak (bW PassesOwn.never rfl (fb rfl T.enumerate_ (aa (pv 1) ad)) (fC rfl (cj (aL (i:=5) sc_multiplied.nd rfl (Or.inl rfl)) (cj (aL (i:=6) sc_multiplied.nd rfl (Or.inl rfl)) eC)))
       (ak (c8 (af aT (ai (aM (K:=K) rfl) (pv 2) (af aT (pv 3) (pv 5)) (λ_ _=>rfl)) (af aH (pv 4) (pv 6))) (du (pv 2) (af aT (pv 3) (pv 5)) dm))))))
   (ak (aG (pv 2)))))),?_⟩
  refine⟨_,rfl,Hy _,λp1 hp1=>?_⟩;have s1:Same H (upd H p1 (.lst [])):=Same.upd_new hp1;refine⟨a,p1,xs,[],rfl,rfl,SqL.of (s1 _ _ hA),SqL.of aj,_,rfl,?_⟩;refine aC (λh0=>?_) (λh0=>?_)
  ·refine cE ⟨Hy _,λp2 hp2=>k p2 _ (s1.then_new hp2) (s1.free hp2) ?_⟩;rw[aj];unfold ae;rw[if_pos (.inl h0)];rfl
  refine⟨_,rfl,Hy _,λp2 hp2=>?_⟩;have s2:Same H (upd (upd H p1 (.lst [])) p2 (.lst [])):=s1.then_new hp2;refine⟨b,p2,ys,[],rfl,rfl,SqL.of (s2 _ _ hB),SqL.of aj,_,rfl,?_⟩;refine aC (λh1=>?_) (λh1=>?_)
  ·refine⟨Hy _,λp3 hp3=>k p3 _ (s2.then_new hp3) (s2.free hp3) ?_⟩;rw[aj];unfold ae;rw[if_pos (.inr h1)];rfl
  generalize upd (upd H p1 (.lst [])) p2 (.lst [])=H2 at s2 ⊢
  obtain⟨la,ea⟩:∃la,xs.length=la+1:=⟨xs.length-1,by have:=Hw.mpr h0;omega⟩;obtain⟨lb,eb⟩:∃lb,ys.length=lb+1:=⟨ys.length-1,by have:=Hw.mpr h1;omega⟩;refine⟨(by show 1<=sizeLine;decide),λp3 hp3=>?_⟩;have s3:=s2.then_new (o:=.lst [V.int 0]) hp3;have big:=sizeLine_eq;refine⟨_,rfl,a,_,rfl,.inl (SqL.of (s3 _ _ hA)),_,rfl,b,_,rfl,.inl (SqL.of (s3 _ _ hB)),_,_,rfl,rfl,_,_,rfl,rfl,p3,_,_,rfl,rfl,aj,?_,?_,?_,λp hp=>?_⟩
  ·rw[Hs,Hs];omega
  ·rw[Hs,Hs];omega
  ·rw[Hs,Hs];show 1*_<=_;omega
  have en:(((xs.map V.int).length:Int)+((ys.map V.int).length:Int)-1).toNat=la+lb+1:=by rw[Hs,Hs];omega
  rw[en,yf];have s4:=s3.then_new (o:=.lst ((List.replicate (la+lb+1) (0:Int)).map V.int)) hp;have npa:a≠p:=s3.ne hA hp;have npb:b≠p:=s3.ne hB hp;generalize hH4:upd (upd H2 p3 (.lst [V.int 0])) p (.lst ((List.replicate (la+lb+1) (0:Int)).map V.int))=H4 at s4 ⊢
  have hp4:H4 p=some (.lst ((List.replicate (la+lb+1) (0:Int)).map V.int)):=by rw[<- hH4,aj]
  refine⟨_,rfl,a,rfl,⟨_,SqL.of (s4 _ _ hA)⟩,gR (K:=K) (a:=a) (xs:=xs.map V.int) (λj σ' H'=>∃(acc:List Int) (z3 z4 z5 z6:Option V),σ'=[some (.ref a),some (.ref b),some (.ref p),z3,z4,z5,z6]/\SameB p H4 H'/\H' p=some (.lst (acc.map V.int))/\acc.length=la+lb+1/\∀n,n<acc.length->cf acc n=sm xs ys n j)
   ⟨List.replicate (la+lb+1) 0,none,none,none,none,rfl,SameB.refl _ _,hp4,by simp,λn _=>by rw[iR];rfl⟩ ?_ ?_ ?_⟩
  ·rintro j σ' H' _ ⟨acc,z3,z4,z5,z6,rfl,sb,_⟩;exact SqL.of (sb _ _ npa (s4 _ _ hA))
  ·rintro j x σ' H' q hj ⟨acc,z3,z4,z5,z6,rfl,sb,hpa,hal,hac⟩ hq;rw[List.getElem?_map]at hj
   have hjl:j<xs.length:=by apply Classical.byContradiction;intro hn;rw[List.getElem?_eq_none_iff.mpr (Ix hn)]at hj;cases hj
   rw[eJ hjl]at hj;obtain rfl:=Option.some.inj hj;refine⟨q,_,rfl,SqT.of aj,rfl,_,_,rfl,_,_,rfl,rfl,?_⟩;have nqp:p≠q:=aE hpa hq;have sb1:SameB p H4 (upd H' q (.tup [.int j,.int (cf xs j)])):=sb.then_new hq
   refine⟨_,rfl,b,rfl,⟨_,SqL.of (sb1 _ _ npb (s4 _ _ hB))⟩,gR (K:=K) (a:=b) (xs:=ys.map V.int) (λi σ' H'=>∃(acc:List Int) (z5 z6:Option V),σ'=[some (.ref a),some (.ref b),some (.ref p),some (.int j),some (.int (cf xs j)),z5,z6]/\SameB p H4 H'/\H' p=some (.lst (acc.map V.int))/\acc.length=la+lb+1/\∀n,n<acc.length->cf acc n=sm xs ys n j+(if j<=n/\n-j<i then tm xs ys n j else 0))
    ⟨acc,z5,z6,rfl,sb1,by rw[upd_ne nqp];exact hpa,hal,sN hac⟩ ?_ ?_ ?_⟩
   ·rintro i σ' H' _ ⟨acc,z5,z6,rfl,sb,_⟩;exact SqL.of (sb _ _ npb (s4 _ _ hB))
   ·rintro i x σ' H' q hi ⟨acc,z5,z6,rfl,sb,hpa,hal,hac⟩ hq;rw[List.getElem?_map]at hi
    have hil:i<ys.length:=by apply Classical.byContradiction;intro hn;rw[List.getElem?_eq_none_iff.mpr (Ix hn)]at hi;cases hi
    rw[eJ hil]at hi;obtain rfl:=Option.some.inj hi;refine⟨q,_,rfl,SqT.of aj,rfl,_,_,rfl,_,_,rfl,rfl,?_⟩;have nqp:p≠q:=aE hpa hq;have hpa':upd H' q (.tup [.int i,.int (cf ys i)]) p=some (.lst (acc.map V.int)):=by rw[upd_ne nqp];exact hpa
    have hji:j+i<acc.length:=by omega
    have eji:((j:Nat):Int)+((i:Nat):Int)=((j+i:Nat):Int):=by omega
    refine⟨_,rfl,_,rfl,_,rfl,_,_,rfl,rfl,p,_,_,_,rfl,rfl,SqL.of hpa',gh eji hji,_,rfl,_,rfl,_,_,rfl,rfl,⟨bx.cf j,by'.cf i⟩,_,_,rfl,rfl,_,rfl,_,rfl,_,rfl,_,_,rfl,rfl,p,_,_,j+i,rfl,rfl,hpa',dE eji (by rw[Hs];exact hji),?_⟩;refine⟨acc.set (j+i) (cf acc (j+i)+cf xs j*cf ys i),_,_,rfl,(sb.then_new hq).then_upd,by rw[aj,iB],by rw[HU];exact hal,sM hjl hil hji hac⟩
   ·rintro σ' H' ⟨acc,z5,z6,rfl,sb,hpa,hal,hac⟩;rw[Hs]at hac;exact⟨acc,_,_,_,_,rfl,sb,hpa,hal,sO hac⟩
  ·rintro σ' H' ⟨acc,z3,z4,z5,z6,rfl,sb,hpa,hal,hac⟩;rw[Hs]at hac;refine⟨_,rfl,k p H' (λb' o e=>sb b' o (s3.ne e hp) (s4 b' o e)) (s3.free hp) ?_⟩;rw[hpa]
   have e:acc=ae xs ys:=by
    apply dU
    ·rw[hal];unfold ae;rw[if_neg (by intro z;exact z.elim h0 h1),Hs,Ih];omega
    ·intro n _;rw[aB,sP (by omega) hac]
   rw[e]
def Vp(C:Addr)(H:Hp)(vs:List V)(a r:Addr)(ns:List Int)(t b:Int):Prop:=vs=[.ref a,.ref r]/\H a=some (.lst (ns.map V.int))/\RA C H r t b/\ns.length<=20/\AllB 95000 ns/\Bits 400 t/\Bits 400 b
def VpI(H:Hp)(vs:List V)(a:Addr)(ns:List Int)(t b:Int):Prop:=vs=[.ref a,.int t,.int b]/\H a=some (.lst (ns.map V.int))/\ns.length<=20/\AllB 95000 ns/\Bits 400 t/\Bits 400 b
def p7:Sp:=λvs H Q _=>∃(a:Addr) (ns:List Int) (t b:Int),VpI H vs a ns t b/\∀(p:Addr) (H':Hp),Same H H'->H p=none->H' p=some (.tup [.int (hv t b ns),.int (b^ns.length)])->Q (.ref p) H'
theorem uk{t b:Int}(bt:Bits 400 t)(bb:Bits 400 b):∀{l:List Int},AllB 95000 l->Bits (95000+1+(400+1)*l.length) (hv t b l)
 | [],_=>by refine Bits.mono (j:=1) ?_ (by omega);show(0:Int).natAbs<2^1;decide
 |v::l,h=>by
  rw[dQ];have h1:=h v (HE ..);have h2:=uk bt bb (l:=l) λx hx=>h x (HC _ hx)
  have e1:=(h1.mul (gf bb (l.length+1))).mono (k:=95000+1+(400+1)*l.length+400) (by omega);have e2:=(bt.mul h2).mono (k:=95000+1+(400+1)*l.length+400) (by omega);exact(e1.add e2).mono (by rw[Ie];omega)
theorem zk(F:Fun K "value_parts" "value_parts" kK f fd)(T:Txt K mg):FnOk P w K mg base CX0 1 f fd ["row","top","bottom"] p7:=by
 refine F.ok sc_value_parts (λvs H Q E h=>?_) (λcdv A outer s H vs Q E hr h=>?_)
 ·obtain⟨a,ns,t,b,⟨rfl,_⟩,_⟩:=h;rfl
 ·obtain⟨a,ns,t,b,⟨rfl,hA,hn,hb,bt,bb⟩,k⟩:=h
  refine⟨_,(ag (am (i:=3) sc_value_parts.nd rfl (Or.inl rfl) ac)
   (ag (am (i:=4) sc_value_parts.nd rfl (Or.inl rfl) ac)
   (ag (bW PassesOwn.never rfl (yP rfl T.reversed_ (aa (pv 0) ad)) (aL (i:=5) sc_value_parts.nd rfl (Or.inl rfl))
     (ag (am (i:=4) sc_value_parts.nd rfl (Or.inl rfl) (af aH (pv 4) (pv 2)))
       (ak (am (i:=3) sc_value_parts.nd rfl (Or.inl rfl) (af aT (af aH (pv 3) (pv 1)) (af aH (pv 5) (pv 4)))))))
   (ak (aG (bS (aa (pv 3) (aa (pv 4) ad)))))))),?_⟩
  have hl:(ns.map V.int).length=ns.length:=Hs _;refine ax ?_;refine ax ?_;refine⟨_,rfl,a,_,rfl,SqL.of hA,CL (K:=K) (a:=a) (xs:=ns.map V.int) (λi σ' H'=>∃z:Option V,σ'=[some (.ref a),some (.int t),some (.int b),some (.int (hv t b (ns.drop (ns.length-i)))),some (.int (b^i)),z]/\H=H') ⟨none,?_,rfl⟩ ?_ ?_ ?_⟩
  ·rw[Jb,List.drop_length,Int.pow_zero];rfl
  ·rintro i σ' H' _ ⟨z,rfl,rfl⟩;exact SqL.of hA
  ·rintro i x σ' H' hi hx ⟨z,rfl,rfl⟩;rw[hl]at hi hx;obtain⟨c,ec,rfl,hc,_⟩:=dR hx;have hi':i<ns.length:=hi;have e1:ns.length-(i+1)=ns.length-1-i:=by omega
   have hd:=Dl t b (l:=ns) (n:=ns.length-1-i) (by omega);have e2:ns.length-1-i+1=ns.length-i:=by omega
   have e3:ns.length-(ns.length-1-i)=i+1:=by omega
   rw[e2,e3,vj ec]at hd;have bs:=uk bt bb (l:=ns.drop (ns.length-i)) λx hx=>hb x (List.mem_of_mem_drop hx)
   rw[List.length_drop]at bs;have bp:=gf bb i;have bq:=gf bb (i+1);refine⟨_,rfl,_,rfl,_,_,rfl,rfl,⟨bp.mono (by omega),bb.mono⟩,?_⟩;refine⟨_,rfl,_,rfl,_,_,rfl,rfl,⟨bs.mono (by omega),bt.mono⟩,_,rfl,_,rfl,_,_,rfl,rfl,⟨(hb c hc).mono,?_⟩,_,_,rfl,rfl,?_⟩
   ·show Bits 1000000 (b^i*b);rw[<- Iy];exact bq.mono (by omega)
   refine⟨some (.int c),?_,rfl⟩;rw[e1,hd,Iy b i,Int.add_comm,Im t];rfl
  ·rintro σ' H' ⟨z,rfl,rfl⟩;rw[hl,Nat.sub_self,List.drop_zero];exact⟨_,rfl,_,rfl,by show 2<=sizeLine;decide,λp hp=>k p _ (Same.upd_new hp) hp aj⟩
def qg(C:Addr):Sp:=λvs H Q _=>∃(a r:Addr) (ns:List Int) (t b:Int),Vp C H vs a r ns t b/\∀H',Same H H'->Q (.int (sg (hv t b ns))) H'
theorem zn(F:Fun K "sign_at" "sign_at" kN f fd)(T:Txt K mg)(R:RCI K mg C)(Ff:Cal P w K mg base 1 "value_parts" ["row","top","bottom"] p7 GL FW)(oS:Cal P w K mg base 1 "whole_sign" ["value"] kv C0 CO):FnOk P w K mg base CX0 2 f fd ["row","ratio"] (qg C):=by
 obtain⟨EH,AO,BG,D0⟩:=Ff;obtain⟨oJ,mL,mX,ow⟩:=oS;refine F.ok xE (λvs H Q E h=>?_) (λcdv A outer s H vs Q E hr h=>?_)
 ·obtain⟨a,r,ns,t,b,⟨rfl,_⟩,_⟩:=h;rfl
 ·obtain⟨a,r,ns,t,b,hV,k⟩:=h;obtain⟨rfl,hA,⟨dx,hR⟩,hn,hbs,bt,bb⟩:=hV;refine⟨_,(ak (aG (au oJ (hr.mono) rfl mL mX ow .nil ar (aa (ai (ay (K:=K) rfl) (au EH (hr.mono) rfl AO BG D0 .nil ar (aa (pv 0) (aa (gH (K:=K) rfl (pv 1) rfl) (aa (gH (K:=K) rfl (pv 1) rfl) ad)))) ac (λ_ _=>rfl)) ad)))),?_⟩;refine⟨_,rfl,_,rfl,r,C,dx,_,_,rfl,hR,R.cl,R.nT,ny _ _,_,rfl,r,C,dx,_,_,rfl,hR,R.cl,R.nB,nC _ _,a,ns,t,b,⟨rfl,hA,hn,hbs,bt,bb⟩,λp H1 s1 hp e1=>?_⟩;exact⟨p,_,_,_,rfl,rfl,SqT.of e1,rfl,_,rfl,k H1 s1⟩
noncomputable def sgs(t b:Int)(xss:List (List Int)):List Int:=xss.map λp=>sg (hv t b p)
def qA(C:Addr):Sp:=λvs H Q _=>∃(l r:Addr) (ps:List Addr) (xss:List (List Int)) (t b:Int),vs=[.ref l,.ref r]/\H l=some (.lst (ps.map V.ref))/\RwH H ps xss/\RA C H r t b/\Bits 400 t/\Bits 400 b/\(∀xs∈xss,xs.length<=20/\AllB 95000 xs)/\xss.length<=1000000/\∀H',Same H H'->Q (.int (chS (sgs t b xss)).1) H'
theorem xo(t b:Int)(xss:List (List Int)):∀s∈sgs t b xss,s.natAbs<=1:=λs hs=>by obtain⟨x,_,rfl⟩:=Hz.mp hs;exact qV _
theorem xn{t b:Int}{xss:List (List Int)}{i:Nat}{xs:List Int}(h:xss[i]?=some xs):sgs t b (xss.take (i+1))=sgs t b (xss.take i)++[sg (hv t b xs)]:=by unfold sgs;rw[Ib,h,Hu];rfl
theorem sk{x:Int}(h:x.natAbs<=1):Bits 1000000 x:=Bits.mono (j:=1) (JH h (by decide)) (by decide)
theorem zB(F:Fun K "changes" "changes" kX f fd)(T:Txt K mg)(R:RCI K mg C)(Fi:Cal P w K mg base 2 "sign_at" ["row","ratio"] (qg C) GO FZ):FnOk P w K mg base CX0 3 f fd ["row","ratio"] (qA C):=by
 obtain⟨EK,AS,BJ,D3⟩:=Fi;refine F.ok sc_changes (λvs H Q E h=>?_) (λcdv A outer s H vs Q E hr h=>?_)
 ·obtain⟨l,r,ps,xss,t,b,rfl,_⟩:=h;rfl
 ·obtain⟨l,r,ps,xss,t,b,rfl,hL,hR,hRA,bt,bb,hb,hn,k⟩:=h
  refine⟨_,(ag (am (i:=2) sc_changes.nd rfl (Or.inl rfl) ac)
   (ag (am (i:=3) sc_changes.nd rfl (Or.inl rfl) ac)
   (ag (bW PassesOwn.never rfl (ci (K:=K) rfl (pv 0)) (aL (i:=4) sc_changes.nd rfl (Or.inl rfl))
     (ag (am (i:=5) sc_changes.nd rfl (Or.inl rfl) (au EK (hr.mono) rfl AS BJ D3 .nil ar (aa (pv 4) (aa (pv 1) ad))))
       (ag (aW (aD dw (af aH (pv 5) (pv 3)) ac (av _))
         (ak (am (i:=2) sc_changes.nd rfl (Or.inl rfl) (af aT (pv 2) ac)))
         aV)
       (ak (aW (aD jI (pv 5) ac (av _))
         (ak (am (i:=3) sc_changes.nd rfl (Or.inl rfl) (pv 5)))
         aV)))))
   (ak (aG (pv 2)))))),?_⟩
  have hpl:(ps.map V.ref).length=xss.length:=by rw[Hs,hR.1]
  refine ax ?_;refine ax ?_;refine⟨_,rfl,l,rfl,⟨_,SqL.of hL⟩,fL (K:=K) (a:=l) (xs:=ps.map V.ref) (λi σ' H'=>∃(z4 z5:Option V),σ'=[some (.ref l),some (.ref r),some (.int (chS (sgs t b (xss.take i))).1),some (.int (chS (sgs t b (xss.take i))).2),z4,z5]/\Same H H') ⟨none,none,rfl,λ_ _ e=>e⟩ ?_ ?_ ?_⟩
  ·rintro i σ' H' _ ⟨z4,z5,rfl,sm⟩;exact SqL.of (sm _ _ hL)
  ·rintro i x σ' H1 hi ⟨z4,z5,rfl,s1⟩;obtain⟨p,xs,rfl,ep,ex,hp,hlt⟩:=hR.of_get hi;obtain⟨hx1,hx2⟩:=hb xs (List.mem_of_getElem? ex);show bz (eV _ (dS 5)) _ _ _ _;refine ax ⟨_,rfl,_,rfl,p,r,xs,t,b,⟨rfl,s1 _ _ hp,hRA.same s1,hx1,hx2,bt.mono,bb.mono⟩,λH2 sm2=>?_⟩;have s2:=s1.trans sm2;obtain⟨c1,c2,c3⟩:=DR _ (xo t b (xss.take i));rw[xn ex,vf];have hs:=qV (hv t b xs);generalize sg (hv t b xs)=s at hs ⊢
   generalize chS (sgs t b (xss.take i))=z at c1 ⊢
   obtain⟨m,bf⟩:=z;dsimp only
   refine cL (λσ' H'=>σ'=[some (.ref l),some (.ref r),some (.int (if s*bf<0 then m+1 else m)),some (.int bf),some (.ref p),some (.int s)]/\H2=H') ?_ ?_
   case refine_2 =>
    intro rest;refine⟨_,rfl,_,rfl,_,_,rfl,rfl,⟨sk hs,sk c1⟩,_,_,rfl,rfl,_,rfl,aC (λh1=>?_) (λh1=>?_)⟩
    ·refine dq ⟨_,rfl,_,_,rfl,rfl,rest _ _ ⟨?_,rfl⟩⟩;rw[if_pos h1];rfl
    ·refine rest _ _ ⟨?_,rfl⟩;rw[if_neg h1];rfl
   rintro σ' H' ⟨rfl,rfl⟩;refine⟨_,rfl,_,_,rfl,rfl,_,rfl,fY (λh1=>?_) (λh1=>?_)⟩
   ·refine dq ⟨_,rfl,some (.ref p),some (.int s),?_,s2⟩;unfold chF;have h1':¬s=0:=h1;rw[if_neg h1'];rfl
   ·refine⟨some (.ref p),some (.int s),?_,s2⟩;unfold chF;have h1':s=0:=h1;rw[if_pos h1']
  ·rintro σ' H' ⟨z4,z5,rfl,sm⟩;rw[hpl,HY];exact⟨_,rfl,k H' sm⟩
def qx(C:Addr):Sp:=λvs H Q _=>∃(l r r2:Addr) (ps:List Addr) (xss:List (List Int)) (t b t2 b2:Int),vs=[.ref l,.ref r,.ref r2]/\H l=some (.lst (ps.map V.ref))/\RwH H ps xss/\RA C H r t b/\RA C H r2 t2 b2/\Bits 400 t/\Bits 400 b/\Bits 400 t2/\Bits 400 b2/\(∀xs∈xss,xs.length<=20/\AllB 95000 xs)/\xss.length<=1000000/\∀H',Same H H'->Q (.int ((chS (sgs t b xss)).1-(chS (sgs t2 b2 xss)).1)) H'
theorem zz(F:Fun K "count" "count" kU f fd)(T:Txt K mg)(R:RCI K mg C)(Fu:Cal P w K mg base 3 "changes" ["row","ratio"] (qA C) GZ Gk):FnOk P w K mg base CX0 4 f fd ["row","low","high"] (qx C):=by
 obtain⟨vS,sW,tN,vy⟩:=Fu;refine F.ok xJ (λvs H Q E h=>?_) (λcdv A outer s H vs Q E hr h=>?_)
 ·obtain⟨l,r,r2,ps,xss,t,b,t2,b2,rfl,_⟩:=h;rfl
 ·obtain⟨l,r,r2,ps,xss,t,b,t2,b2,rfl,hL,hR,h1,h2,bt,bb,bt2,bb2,hb,hn,k⟩:=h;refine⟨_,(ak (aG (af aZ (au vS (hr.mono) rfl sW tN vy .nil ar (aa (pv 0) (aa (pv 1) ad))) (au vS (hr.mono) rfl sW tN vy .nil ar (aa (pv 0) (aa (pv 2) ad)))))),?_⟩;refine bJ ⟨_,rfl,_,rfl,l,r,ps,xss,t,b,rfl,hL,hR,h1,bt,bb,hb,hn,λH1 s1=>?_⟩;refine⟨_,rfl,_,rfl,l,r2,ps,xss,t2,b2,rfl,s1 _ _ hL,hR.same s1,h2.same s1,bt2,bb2,hb,hn,λH2 s2=>?_⟩;exact⟨_,_,rfl,rfl,k _ (s1.trans s2)⟩
theorem qO{i j:Nat}{a b:List Int}{n:Nat}(ha:AllB i a)(hb:AllB j b):∀m,Bits (i+j+m) (sm a b n m)
 |0=>Bits.zero
 |m+1=>by
  rw[sm];refine(qO ha hb m).add ?_;unfold tm;split
  ·exact((ha.cf m).mul (hb.cf _)).mono (by omega)
  ·exact Bits.zero
theorem jL{i j k:Nat}{a b:List Int}(ha:AllB i a)(hb:AllB j b)(hk:i+j+a.length<=k):AllB k (ae a b):=AllB.of_cf λn=>by rw[aB];exact(qO ha hb a.length).mono hk
theorem f7(a b:List Int):(ae a b).length<=a.length+b.length:=by
 unfold ae;split
 ·exact Hy _
 ·rw[Hs,Ih];omega
theorem uP{xs ys:List Int}{x y:Nat}(hx:AllB x xs)(hy:AllB y ys):∀i,AllB (x+i*(y+1)) (bI xs ys i).1/\AllB (x+i*(y+1)) (bI xs ys i).2
 |0=>by rw[Nat.zero_mul];exact⟨AllB.zeros,hx⟩
 |i+1=>by
  obtain⟨h1,h2⟩:=uP hx hy i;have e:x+(i+1)*(y+1)=x+i*(y+1)+y+1:=by rw[Nat.succ_mul];omega
  have hs:Bits y (((RM.cf ys (ys.length-1)).natAbs:Nat):Int):=g9 (hy.cf _);rw[e];show AllB _ (cz ys (bI xs ys i) _).1/\AllB _ (cz ys (bI xs ys i) _).2;unfold cz;dsimp only
  constructor
  ·intro v hv;rcases Jp hv with h |rfl
   ·obtain⟨u,hu,rfl⟩:=Hz.mp h;exact(hs.mul (h1 u hu)).mono (by omega)
   ·exact(ji (h2.cf _)).mono (by omega)
  ·refine AllB.of_cf λn=>?_
   rw[oi];by_cases hn:n<(scL (((RM.cf ys (ys.length-1)).natAbs:Nat):Int) (bI xs ys i).2).length-1
   ·rw[if_pos hn,bG]
    have m1:Bits (x+i*(y+1)+y) ((((RM.cf ys (ys.length-1)).natAbs:Nat):Int)*RM.cf (bI xs ys i).2 n):=by have:=hs.mul (h2.cf n);rwa [Nat.add_comm]at this
    refine m1.sub ?_;by_cases hp:(xs.length+1-ys.length-1-i)<=n
    ·rw[if_pos hp];exact(ji (h2.cf _)).mul (hy.cf _)
    ·rw[if_neg hp];exact Bits.zero
   ·rw[if_neg hn];exact Bits.zero
theorem kC{n:Nat}{l:List Int}(h:AllB n l):AllB n (ah l):=by
 intro y hy;obtain⟨x,hx,rfl⟩:=Hz.mp hy;obtain⟨d,hd⟩:=f9 hx;by_cases hg:(al l:Int)=0
 ·rw[hg,Int.ediv_zero];exact Bits.zero
 ·have e:x/(al l:Int)=d:=by rw[hd];exact Int.mul_ediv_cancel_left d hg
  rw[e];refine(h x hx).of_le ?_;rw[hd,Ig];exact JI _ (IM.mpr hg)
theorem kB(l:List Int):(ah l).length=l.length:=Hs _
theorem ra(n:Nat)(o:List Int):Run n [] o:=by cases n with |zero=>rfl |succ n=>exact .inl rfl
theorem uH(n:Nat)(o:List Int):RM.Ends n [] o:=by cases n with |zero=>rfl |succ n=>exact .inl rfl
theorem gr8:gr 540 6=91260:=by decide
def Okr(xs:List Int):Prop:=Tr xs/\AllB 91260 xs/\xs.length<=7
theorem qZ:∀(n:Nat) (one other:List Int) (x y s:Nat),one.length=s+1->s<=6->other.length<=s->s<n->Tr one->Tr other->AllB x one->AllB y other->x+1<=gr 540 (6-s)->y+1<=gr 540 (6-s+1)->Run n one other/\RM.Ends n one other/\∀xs∈aN n one other,Okr xs
 |0,one,other,x,y,s,_,_,_,h,_,_,_,_,_,_=>absurd h (Nat.not_lt_zero _)
 |m+1,one,other,x,y,s,hl,hs8,hol,hsm,t1,t2,b1,b2,g1,g2=>by
  have hne:one≠[]:=λz=>by rw[z]at hl;simp at hl
  have m1:gr 540 (6-s)<=91260:=by rw[<- gr8];exact gQ 540 (by omega)
  have bo1:AllB 91260 one:=b1.mono (by omega)
  have bo2:AllB 91260 other:=by
   by_cases ho:other=[]
   ·rw[ho];exact AllB.nil
   ·have:=Hw.mpr ho;have m2:gr 540 (6-s+1)<=91260:=by rw[<- gr8];exact gQ 540 (by omega)
    exact b2.mono (by omega)
  have fit:Fit one other:=⟨t1,t2,91260,bo1,bo2,by rw[hl];omega,by omega⟩
  have eS:aN (m+1) one other=one::aN m other (nxt one other):=by show(if one=[]then[]else one::aN m other (nxt one other))=_;rw[if_neg hne]
  have ok1:Okr one:=⟨t1,bo1,by omega⟩;by_cases ho:other=[]
  ·subst ho;refine⟨.inr ⟨fit,ra _ _⟩,.inr (uH _ _),λxs hx=>?_⟩;rw[eS,gA]at hx;rw[Hx.mp hx];exact ok1
  ·have hop:=Hw.mpr ho;obtain⟨d,hd⟩:∃d,other.length=d+1:=⟨other.length-1,by omega⟩;have hN:br one other=(s-d-1)+2:=by unfold br;omega
   have e6:6-s+2+(s-d-1)=6-d+1:=by omega
   have rb:AllB (x+br one other*(y+1)) (ao one other):=((uP b1 b2 (br one other)).2).trim
   have nb:AllB (x+br one other*(y+1)) (nxt one other):=by
    unfold nxt rst;rw[if_neg ho,jb (fM _ _)];refine kC λv hv=>?_
    obtain⟨u,hu,rfl⟩:=Hz.mp hv;have:=(rb u hu).neg
    rwa [show -1*u = -u by omega]
   have nl:(nxt one other).length<=d:=by unfold nxt rst;rw[if_neg ho,jb (fM _ _),kB,cn];have:=fv (a:=one) ho;omega
   have nt:Tr (nxt one other):=dZ (bP _);have jump:=ul 540 (6-s) (s-d-1);rw[e6]at jump;have mm:=Jh (s-d-1+2) g2;obtain⟨r1,r2,r3⟩:=qZ m other (nxt one other) y (x+br one other*(y+1)) d hd (by omega) nl (by omega) t2 nt b2 nb (HH g2 (gQ 540 (by omega))) (by rw[hN];omega);refine⟨.inr ⟨fit,r1⟩,.inr r2,λxs hx=>?_⟩;rw[eS]at hx;rcases HI.mp hx with rfl |hx
   ·exact ok1
   ·exact r3 xs hx
theorem gg{H:Hp}{ps:List Addr}{r:List (List Int)}{i:Nat}{j:Int}(h:RwH H ps r)(hi:i<r.length)(e:j=i):∃p,atI (ps.map V.ref) j=some (.ref p)/\H p=some (.lst ((r.getD i []).map V.int)):=by obtain⟨p,ep,hp⟩:=h.get hi;subst e;exact⟨p,fy (by rw[List.getElem?_map,ep];rfl),hp⟩
theorem gi{H:Hp}{ps:List Addr}{r:List (List Int)}{i:Nat}(h:RwH H ps r)(hi:0<i)(hi2:i<=r.length):∃p,atI (ps.map V.ref) (-(i:Int))=some (.ref p)/\H p=some (.lst ((r.getD (r.length-i) []).map V.int)):=by
 obtain⟨p,ep,hp⟩:=h.get (i:=r.length-i) (by omega);refine⟨p,?_,hp⟩;have hl:(ps.map V.ref).length=r.length:=by rw[Hs,h.1]
 have e:ixN (ps.map V.ref).length (-(i:Int))=some (r.length-i):=by
  unfold ixN;rw[hl,if_neg (by omega),if_pos (by omega)]
  congr 1;omega
 unfold atI;rw[e];show(ps.map V.ref)[r.length-i]?=_;rw[List.getElem?_map,ep];rfl
theorem rf:∀(n:Nat) (one other:List Int),(aN n one other).length<=n
 |0,_,_=>Ht _
 |n+1,one,other=>by
  show(if one=[]then[]else one::aN n other (nxt one other)).length<=n+1;split
  ·exact Hy _
  ·have:=rf n other (nxt one other);rw[Ie];omega
theorem wY{n:Nat}{xs:List Int}(h:AllB n xs)(hl:xs.length<=9):AllB (n+4) (slopeL xs):=by intro x hx;obtain⟨k,hk,rfl⟩:=Hz.mp hx;have hk':k<xs.length-1:=IX.mp hk;have b1:Bits 4 ((k:Int)+1):=JH (show((k:Int)+1).natAbs<=8 by omega) (by decide);exact(b1.mul (h.cf (k+1))).mono (by omega)
theorem jg(xs:List Int):(slopeL xs).length=xs.length-1:=by unfold slopeL;rw[Hs,Ih]
theorem x5{kps:List Int}(ktr:Tr kps)(kb:AllB 530 kps)(kl:kps.length<=7):Run 9 (ah kps) (ah (slopeL kps))/\RM.Ends 9 (ah kps) (ah (slopeL kps))/\∀xs∈aN 9 (ah kps) (ah (slopeL kps)),Okr xs:=by
 by_cases h0:kps=[]
 ·subst h0
  exact⟨ra _ _,uH _ _,λxs hx=>by
   have e:ah []=[]:=rfl;rw[e,gA]at hx
   exact nomatch hx⟩
 ·have hl:=Hw.mpr h0;obtain⟨s,hs⟩:∃s,kps.length=s+1:=⟨kps.length-1,by omega⟩;refine qZ 9 (ah kps) (ah (slopeL kps)) 530 534 s (by rw[kB,hs]) (by omega) (by rw[kB,jg,hs];omega) (by omega) (dZ ktr) (dZ (kf ktr)) (kC kb) (kC (wY kb (by omega))) ?_ ?_
  ·exact HH (show 531<=gr 540 0 by decide) (gQ 540 (Hy _))
  ·exact HH (show 535<=gr 540 1 by decide) (gQ 540 (by omega))
theorem lX{Q:Hp->Prop}{H1 H2:Hp}(e:H1=H2)(h:Q H2):Q H1:=by rw[e];exact h
theorem sE:(¬("against":Str)="bottom")/\¬("against":Str)="top":=⟨by decide +kernel,by decide +kernel⟩
theorem xv(c:Int):(sg c<0↔c<0)/\(0<=sg c↔0<=c)/\(sg c<=0↔c<=0):=by unfold sg;split<;>(try split)<;>omega
abbrev Lnk:=Int×List Int×Int
def LkA(H:Hp)(p:Addr)(x:Lnk):Prop:=∃qa,H p=some (.tup [.int x.1,.ref qa,.int x.2.2])/\H qa=some (.lst (x.2.1.map V.int))
theorem LkA.same{H H':Hp}{p:Addr}{x:Lnk}(h:LkA H p x)(s:Same H H'):LkA H' p x:=let⟨qa,a,b⟩:=h;⟨qa,s _ _ a,s _ _ b⟩
def LkH(H:Hp)(ps:List Addr)(xs:List Lnk):Prop:=ps.length=xs.length/\∀(i:Nat) (p:Addr) (x:Lnk),ps[i]?=some p->xs[i]?=some x->LkA H p x
theorem LkH.same{H H':Hp}{ps:List Addr}{xs:List Lnk}(h:LkH H ps xs)(s:Same H H'):LkH H' ps xs:=⟨h.1,λi p x a b=>(h.2 i p x a b).same s⟩
theorem LkH.nil{H:Hp}:LkH H [] []:=⟨rfl,λi p x h=>by simp at h⟩
theorem LkH.snoc{H:Hp}{ps:List Addr}{xs:List Lnk}{p:Addr}{x:Lnk}(h:LkH H ps xs)(hp:LkA H p x):LkH H (ps++[p]) (xs++[x]):=by
 refine⟨by rw[Hv,Hv,h.1];rfl,λi q y a b=>?_⟩;by_cases hi:i<ps.length
 ·rw[List.getElem?_append_left hi]at a;rw[List.getElem?_append_left (by rw[<- h.1];exact hi)]at b;exact h.2 i q y a b
 ·rw[List.getElem?_append_right (by omega)]at a;rw[List.getElem?_append_right (by rw[<- h.1];omega),<- h.1]at b;by_cases h0:i-ps.length=0
  ·rw[h0]at a b;obtain rfl:p=q:=by simpa using a
   obtain rfl:x=y:=by simpa using b
   exact hp
  ·rw[List.getElem?_eq_none_iff.mpr (by simp;omega)]at a;cases a
theorem LkH.of_get{H:Hp}{ps:List Addr}{xs:List Lnk}{i:Nat}{v:V}(h:LkH H ps xs)(hx:(ps.map V.ref)[i]?=some v):∃p x,v=.ref p/\ps[i]?=some p/\xs[i]?=some x/\LkA H p x/\i<xs.length:=by
 rw[List.getElem?_map]at hx;cases e:ps[i]? with
 |none=>rw[e]at hx;cases hx
 |some p =>
  rw[e]at hx;have hi:i<ps.length:=(List.getElem?_eq_some_iff.mp e).1;have hi':i<xs.length:=by rw[<- h.1];exact hi
  exact⟨p,xs[i],(Option.some.inj hx).symm,rfl,List.getElem?_eq_getElem hi',h.2 i p _ e (List.getElem?_eq_getElem hi'),hi'⟩
noncomputable def fJ(a b:List Int):Lnk:=(aO a b,aQ a b,(al (ao a b):Int))
noncomputable def bZ(r:List (List Int)):List Lnk:=(List.range (r.length-2)).map λk=>fJ (r.getD k []) (r.getD (k+1) [])
def LkOk(r:List (List Int))(k:Nat)(x:Lnk):Prop:=0<x.1/\0<x.2.2/\ae [x.1] (r.getD k [])=bj (ae x.2.1 (r.getD (k+1) [])) (ae [x.2.2] (r.getD (k+2) []))
def LkB(x:Lnk):Prop:=Bits 900000 x.1/\Bits 900000 x.2.2/\AllB 900000 x.2.1/\x.2.1.length<=1000
def RwB(r:List (List Int)):Prop:=∀xs∈r,xs.length<=20/\AllB 95000 xs
theorem RwB.at{r:List (List Int)}(h:RwB r)(k:Nat):(r.getD k []).length<=20/\AllB 95000 (r.getD k []):=by
 by_cases hk:k<r.length
 ·refine h _ ?_;rw[List.getD_eq_getElem?_getD,List.getElem?_eq_getElem hk];exact Ia _
 ·rw[List.getD_eq_getElem?_getD,List.getElem?_eq_none (by omega)];exact⟨Hy _,AllB.nil⟩
def qm:Sp:=λvs H Q _=>∃(l p:Addr) (ps:List Addr) (r:List (List Int)) (k:Nat) (x:Lnk),vs=[.ref l,.int (k:Int),.ref p]/\H l=some (.lst (ps.map V.ref))/\RwH H ps r/\RwB r/\k+2<r.length/\LkA H p x/\LkB x/\∀(b:Bool) (H':Hp),Same H H'->(b=true↔LkOk r k x)->Q (.bl b) H'
theorem zu(F:Fun K "link_holds" "link_holds" jm f fd)(T:Txt K mg)(Fm:Cal P w K mg base 1 "multiplied" ["first","second"] fU GS Gd)(Fg:Cal P w K mg base 2 "taken" ["first","second"] (qG K bj) GM FX):FnOk P w K mg base CX0 3 f fd ["row","k","link"] qm:=by
 obtain⟨oM,mN,mZ,oy⟩:=Fm;obtain⟨EI,AQ,BH,D1⟩:=Fg;refine F.ok xF (λvs H Q E h=>?_) (λcdv A outer s H vs Q E hr h=>?_)
 ·obtain⟨l,p,ps,r,k,x,rfl,_⟩:=h;rfl
 ·obtain⟨l,p,ps,r,k,⟨f0,q0,g0⟩,rfl,hl,hR,hB,hk,⟨qa,hp,hq⟩,⟨bf,bg,bq,lq⟩,kk⟩:=h;have hu:(A.deeper (PyProof.Rows.envOfC (Str.ofString "link_holds") (aA jm) s.heap.objs.size f cdv)).units+64<cLine:=by have:=hr.un;omega
  have big:=sizeLine_eq
  replace bf:Bits 900000 f0:=bf
  replace bg:Bits 900000 g0:=bg
  replace bq:AllB 900000 q0:=bq
  replace lq:q0.length<=1000:=lq
  refine⟨_,(ag (aW (PW.pt (dN (aD gI (ai (ay (K:=K) rfl) (pv 2) ac (λ_ _=>rfl)) ac (av _)) (eh (aD gI (ai (ay (K:=K) rfl) (pv 2) ac (λ_ _=>rfl)) ac (av _)))))
   (ak (aG iz))
   aV)
   (ak (aG (da (mw (K:=K) rfl hu) (au oM (hr.mono) rfl mN mZ oy .nil ar (aa (bH (aa (ai (ay (K:=K) rfl) (pv 2) ac (λ_ _=>rfl)) ad)) (aa (ai (aM (K:=K) rfl) (pv 0) (pv 1) (λ_ _=>rfl)) ad))) (au EI (hr.mono) rfl AQ BH D1 .nil ar (aa (au oM (hr.mono) rfl mN mZ oy .nil ar (aa (ai (ay (K:=K) rfl) (pv 2) ac (λ_ _=>rfl)) (aa (ai (aM (K:=K) rfl) (pv 0) (af aT (pv 1) ac) (λ_ _=>rfl)) ad))) (aa (au oM (hr.mono) rfl mN mZ oy .nil ar (aa (bH (aa (ai (ay (K:=K) rfl) (pv 2) ac (λ_ _=>rfl)) ad)) (aa (ai (aM (K:=K) rfl) (pv 0) (af aT (pv 1) ac) (λ_ _=>rfl)) ad))) ad))) (av _))))),?_⟩
  refine bU (dL ⟨_,rfl,p,_,_,_,rfl,rfl,SqT.of hp,rfl,_,_,rfl,rfl,_,rfl,aC (λz=>?_) (λz=>?_)⟩)
  ·have z':f0<=0:=z;exact cE (bJ (kk false H (Same.refl _) ⟨λy=>Bool.noConfusion y,λy=>absurd y.1 (by show ¬0<f0;omega)⟩))
  refine⟨_,rfl,p,_,_,_,rfl,rfl,SqT.of hp,rfl,_,_,rfl,rfl,_,rfl,aC (λz2=>?_) (λz2=>?_)⟩
  ·have z':g0<=0:=z2;exact bJ (kk false H (Same.refl _) ⟨λy=>Bool.noConfusion y,λy=>absurd y.2.1 (by show ¬0<g0;omega)⟩)
  have f1:¬f0<=0:=z;have g1:¬g0<=0:=z2;obtain⟨la,ba⟩:=hB.at k;obtain⟨lb,bb⟩:=hB.at (k+1);obtain⟨lc,bc⟩:=hB.at (k+2);have one:∀{c:Int},Bits 900000 c->AllB 1000000 [c]:=λh x hx=>by rw[Hx.mp hx];exact h.mono
  refine bJ ⟨_,rfl,p,_,_,_,rfl,rfl,SqT.of hp,rfl,by show 1<=sizeLine;decide,λv1 hv1=>?_⟩;have s1:=Same.upd_new (o:=.lst [.int f0]) hv1;have e1:upd H v1 (.lst [.int f0]) v1=some (.lst ([f0].map V.int)):=aj;generalize upd H v1 (.lst [.int f0])=H1 at s1 e1 ⊢
  obtain⟨pa,ea,ha⟩:=gg (hR.same s1) (show k<r.length by omega) (rfl:((k:Nat):Int)=k);refine⟨_,rfl,_,rfl,l,_,_,_,rfl,rfl,SqL.of (s1 _ _ hl),ea,v1,pa,[f0],_,rfl,e1,ha,by show 1<=1000000;decide,by omega,one bf,ba.mono,λm1 H2 s2 hm1 em1=>?_⟩;have t2:=s1.trans s2;obtain⟨pb,eb,hb⟩:=gg (hR.same t2) (show k+1<r.length by omega) (show((k:Nat):Int)+1=((k+1:Nat):Int) by omega);refine⟨_,rfl,p,_,_,_,rfl,rfl,SqT.of (t2 _ _ hp),rfl,_,rfl,_,rfl,_,_,rfl,rfl,l,_,_,_,rfl,rfl,SqL.of (t2 _ _ hl),eb,qa,pb,q0,_,rfl,t2 _ _ hq,hb,by omega,by omega,bq.mono,bb.mono,λm2 H3 s3 hm2 em2=>?_⟩;have t3:=t2.trans s3;refine⟨_,rfl,p,_,_,_,rfl,rfl,SqT.of (t3 _ _ hp),rfl,by show 1<=sizeLine;decide,λv2 hv2=>?_⟩;have s4:=Same.upd_new (o:=.lst [.int g0]) hv2;have e4:upd H3 v2 (.lst [.int g0]) v2=some (.lst ([g0].map V.int)):=aj;refine lX (H2:=upd H3 v2 (.lst [.int g0])) rfl ?_;generalize upd H3 v2 (.lst [.int g0])=H4 at s4 e4 ⊢
  have t4:=t3.trans s4;obtain⟨pc,ec,hc⟩:=gg (hR.same t4) (show k+2<r.length by omega) (show((k:Nat):Int)+2=((k+2:Nat):Int) by omega);refine⟨_,rfl,_,rfl,_,_,rfl,rfl,l,_,_,_,rfl,rfl,SqL.of (t4 _ _ hl),ec,v2,pc,[g0],_,rfl,e4,hc,by show 1<=1000000;decide,by omega,one bg,bc.mono,λm3 H5 s5 hm3 em3=>?_⟩;have l2:=f7 q0 (r.getD (k+1) []);have l3:=f7 [g0] (r.getD (k+2) []);have l1:([g0]:List Int).length=1:=rfl;refine⟨m2,m3,_,_,rfl,SqL.of ((s4.trans s5) _ _ em2),SqL.of em3,by omega,by omega,λm4 H6 s6 hm4 em4=>?_⟩;refine⟨m1,m4,_,_,rfl,rfl,SqL.of ((s3.trans (s4.trans (s5.trans s6))) _ _ em1),SqL.of em4,kk _ H6 (t4.trans (s5.trans s6)) ?_⟩;rw[decide_eq_true_iff];exact⟨λy=>⟨by show 0<f0;omega,by show 0<g0;omega,y⟩,λy=>y.2.2⟩
structure HotP(ns:List Int)(r:List (List Int))(xs:List Lnk):Prop where
 two:2<=r.length
 len:xs.length+2=r.length
 fst:r.getD 0 []=ns
 snd:r.getD 1 []=ah (slopeL ns)
 lst:(r.getD (r.length-1) []).length=1
 lks:∀(k:Nat) (x:Lnk),xs[k]?=some x->LkOk r k x
def qp:Sp:=λvs H Q _=>∃(pn l lk:Addr) (ps ls:List Addr) (ns:List Int) (r:List (List Int)) (xs:List Lnk),vs=[.ref pn,.ref l,.ref lk]/\H pn=some (.lst (ns.map V.int))/\H l=some (.lst (ps.map V.ref))/\RwH H ps r/\RwB r/\H lk=some (.lst (ls.map V.ref))/\LkH H ls xs/\(∀x∈xs,LkB x)/\Tr ns/\ns.length<=20/\AllB 95000 ns/\r.length<=1000/\xs.length<=1000/\∀(b:Bool) (H':Hp),Same H H'->(b=true↔HotP ns r xs)->Q (.bl b) H'
theorem EA{bs:List Bool}{p:Nat->Prop}(h:∀i b,bs[i]?=some b->(b=true↔p i)):bs.all id=true↔∀i,i<bs.length->p i:=by
 rw[IS];constructor
 ·intro z i hi;exact(h i bs[i] (List.getElem?_eq_getElem hi)).mp (z _ (Ia hi))
 ·intro z b hb;obtain⟨i,hi,rfl⟩:=IT hb;exact(h i bs[i] (List.getElem?_eq_getElem hi)).mpr (z i hi)
theorem zx(F:Fun K "holds_together" "holds_together" jo f fd)(T:Txt K mg)(Fj:Cal P w K mg base 33 "shrunk" ["row"] ii GP Ga)(Fh:Cal P w K mg base 1 "slope" ["row"] (sp1 slopeL) GN FY)(Fq:Cal P w K mg base 1 "degree" ["row"] qv GW Gh)(Fn:Cal P w K mg base 3 "link_holds" ["row","k","link"] qm GT Ge):FnOk P w K mg base CX0 34 f fd ["polynomial","row","links"] qp:=by
 obtain⟨EN,AT,BK,D4⟩:=Fj;obtain⟨EJ,AR,BI,D2⟩:=Fh;obtain⟨EU,AZ,BQ,Ea⟩:=Fq;obtain⟨ER,AW,BN,D7⟩:=Fn;refine F.ok xH (λvs H Q E h=>?_) (λcdv A outer s H vs Q E hr h=>?_)
 ·obtain⟨pn,l,lk,ps,ls,ns,r,xs,rfl,_⟩:=h;rfl
 ·obtain⟨pn,l,lk,ps,ls,ns,r,xs,rfl,hn,hl,hR,hB,hlk,hL,hX,tn,ln,bn,r1000,x1000,k⟩:=h;have hu:(A.deeper (PyProof.Rows.envOfC (Str.ofString "holds_together") (aA jo) s.heap.objs.size f cdv)).units+64<cLine:=by have:=hr.un;omega
  have big:=sizeLine_eq;have pl:(ps.map V.ref).length=r.length:=by rw[Hs,hR.1]
  have ql:(ls.map V.ref).length=xs.length:=by rw[Hs,hL.1]
  have no:∀{H':Hp},Same H H'->¬HotP ns r xs->Q (.bl false) H':=λsm h=>k false _ sm ⟨λz=>Bool.noConfusion z,λz=>absurd z h⟩
  refine⟨_,(ag (aW (PW.pt (dN (aD dw (aI (aX (K:=K) rfl) (by rfl) T.len_ PySem.boot_len (aa (pv 1) ad)) ac (av _)) (eh (aD jI (aI (aX (K:=K) rfl) (by rfl) T.len_ PySem.boot_len (aa (pv 2) ad)) (af aZ (aI (aX (K:=K) rfl) (by rfl) T.len_ PySem.boot_len (aa (pv 1) ad)) ac) (av _)))))
   (ak (aG iz))
   aV)
   (ag (aW (PW.pt (dN (aD (se (K:=K) rfl hu) (ai (aM (K:=K) rfl) (pv 1) ac (λ_ _=>rfl)) (pv 0) (av _)) (dN (aD (se (K:=K) rfl hu) (ai (aM (K:=K) rfl) (pv 1) ac (λ_ _=>rfl)) (au EN (hr.mono) rfl AT BK D4 .nil ar (aa (au EJ (hr.mono) rfl AR BI D2 .nil ar (aa (pv 0) ad)) ad)) (av _)) (eh (aD jI (au EU (hr.mono) rfl AZ BQ Ea .nil ar (aa (ai (aM (K:=K) rfl) (pv 1) (cV cR ac) (λ_ _=>rfl)) ad)) ac (av _))))))
     (ak (aG iz))
     aV)
   (ak (aG (aI (vn (K:=K) rfl rfl) (by rfl) T.all_ PyProof.Rows.boot_all (aa (cG (own:=["k","link"]) (fr:=["row"]) (js:=[1]) (by walk_at "comp_ok") rfl (fb rfl T.enumerate_ (aa (pv 2) ad)) (λ_ _ _ _=>(mr (K:=K) (n:=2) rfl rfl (cj (aL (i:=0) (show List.Nodup (["k","link","row"]:List Str)from by decide +kernel) rfl (Or.inl rfl) (Or.inr rfl)) (cj (aL (i:=1) (show List.Nodup (["k","link","row"]:List Str)from by decide +kernel) rfl (Or.inl rfl) (Or.inr rfl)) eC rfl) rfl) rfl rfl)) (λ_ _ _ _=>(au ER (hr.mono) rfl AW BN D7 .nil ar (aa (pv 2) (aa (pv 0) (aa (pv 1) ad)))))) ad)))))),?_⟩
  refine bU (dL ⟨_,rfl,l,_,rfl,.inl (SqL.of hl),_,_,rfl,rfl,_,rfl,aC (λz=>?_) (λz=>?_)⟩)
  ·have z':((ps.map V.ref).length:Int)<2:=z;exact cE (bJ (no (Same.refl _) λy=>by have:=y.two;omega))
  have z0:¬((ps.map V.ref).length:Int)<2:=z;refine⟨_,rfl,lk,_,rfl,.inl (SqL.of hlk),_,rfl,l,_,rfl,.inl (SqL.of hl),_,_,rfl,rfl,_,_,rfl,rfl,_,rfl,fY (λz1=>?_) (λz1=>?_)⟩
  ·have z':¬((ls.map V.ref).length:Int)=((ps.map V.ref).length:Int)-2:=z1;exact bJ (no (Same.refl _) λy=>by have:=y.len;omega)
  have z2:((ls.map V.ref).length:Int)=((ps.map V.ref).length:Int)-2:=z1;have r2:2<=r.length:=by omega
  have lx:xs.length+2=r.length:=by omega
  obtain⟨p0,ea,h0⟩:=gg hR (show 0<r.length by omega) (rfl:(0:Int)=((0:Nat):Int));refine bU (dL ⟨_,rfl,l,_,_,_,rfl,rfl,SqL.of hl,ea,_,rfl,p0,pn,_,_,rfl,rfl,SqL.of h0,SqL.of hn,_,rfl,fY (λz3=>?_) (λz3=>?_)⟩)
  ·exact cE (bJ (no (Same.refl _) λy=>z3 y.fst))
  obtain⟨p1,eb,h1⟩:=gg hR (show 1<r.length by omega) (rfl:(1:Int)=((1:Nat):Int));refine dL ⟨_,rfl,l,_,_,_,rfl,rfl,SqL.of hl,eb,_,rfl,pn,ns,rfl,hn,by omega,bn.mono,λs1 H1 t1 hs1 es1=>?_⟩;refine⟨s1,_,rfl,es1,kf tn,by rw[jg];omega,λs2 H2 t2 hs2 es2=>?_⟩;have u2:=t1.trans t2;refine⟨p1,s2,_,_,rfl,rfl,SqL.of (u2 _ _ h1),SqL.of es2,_,rfl,fY (λz4=>?_) (λz4=>?_)⟩
  ·exact cE (bJ (no u2 λy=>z4 y.snd))
  obtain⟨p9,ec,h9⟩:=gi (hR.same u2) (show 0<1 by decide) (show 1<=r.length by omega);refine⟨_,rfl,_,rfl,l,_,_,_,rfl,rfl,SqL.of (u2 _ _ hl),ec,p9,_,rfl,h9,_,_,rfl,rfl,_,rfl,fY (λz5=>?_) (λz5=>?_)⟩
  ·have z':¬(((r.getD (r.length-1) []).map V.int).length:Int)-1=0:=z5;rw[Hs]at z';exact bJ (no u2 λy=>by have:=y.lst;omega)
  have z6:(((r.getD (r.length-1) []).map V.int).length:Int)-1=0:=z5;rw[Hs]at z6;refine bJ ⟨_,rfl,lk,rfl,⟨_,SqL.of (u2 _ _ hlk)⟩,nX (K:=K) (a:=lk) (xs:=ls.map V.ref) (λi ys σ' H'=>∃(z0 z1:Option V) (bs:List Bool),σ'=[z0,z1,some (.ref l)]/\ys=bs.map V.bl/\bs.length=i/\Same H H'/\∀j b,bs[j]?=some b->(b=true↔∀x,xs[j]?=some x->LkOk r j x)) (by omega) ⟨none,none,[],rfl,rfl,rfl,u2,λj b h=>(nomatch h)⟩ ?_ ?_ ?_⟩
  ·rintro i ys σ' H' hi ⟨z0,z1,bs,rfl,rfl,rfl,sm,_⟩;exact⟨SqL.of (sm _ _ hlk),by rw[Hs];exact Ht _⟩
  ·rintro i v ys σ' H' q hi ⟨z0,z1,bs,rfl,rfl,rfl,sm,hb⟩ hq;obtain⟨p,x,rfl,ep,ex,hk,hlt⟩:=(hL.same sm).of_get hi;have s3:=Same.upd_new (o:=.tup [.int (bs.length:Int),.ref p]) hq;refine⟨q,_,rfl,SqT.of aj,rfl,_,_,rfl,_,_,rfl,rfl,?_⟩;have u3:=sm.trans s3;refine⟨_,rfl,_,rfl,_,rfl,l,p,ps,r,bs.length,x,rfl,u3 _ _ hl,hR.same u3,hB,by omega,hk.same s3,hX x (List.mem_of_getElem? ex),λb H4 s4 hb4=>?_⟩;refine⟨_,_,bs++[b],rfl,by rw[Hu];rfl,Hv,u3.trans s4,λj b' hj=>?_⟩;by_cases hjl:j<bs.length
   ·rw[List.getElem?_append_left hjl]at hj;exact hb j b' hj
   ·rw[List.getElem?_append_right (by omega)]at hj;by_cases h0:j-bs.length=0
    ·rw[h0]at hj;obtain rfl:b=b':=by simpa using hj
     obtain rfl:j=bs.length:=by omega
     rw[hb4,ex];exact⟨λy x' e=>by cases e;exact y,λy=>y x rfl⟩
    ·rw[List.getElem?_eq_none_iff.mpr (by simp;omega)]at hj;cases hj
  ·rintro ys σ' H3 pl' ⟨z0,z1,bs,rfl,rfl,hbl,sm,hb⟩ hpl;refine⟨pl',bs,rfl,SqL.of aj,k _ _ (sm.then_new hpl) ?_⟩;rw[EA hb];refine⟨λy=>⟨r2,lx,z3,z4,by omega,λj x ex=>y j ?_ x ex⟩,λy j _ x ex=>y.lks j x ex⟩;rw[hbl,ql];exact(List.getElem?_eq_some_iff.mp ex).1
def oI(ns:List Int)(r:List (List Int))(xs:List Lnk)(l1 l2 h1 h2:Int):Prop:=HotP ns r xs/\l1*h2<h1*l2/\(chS (sgs l1 l2 r)).1-(chS (sgs h1 h2 r)).1=1
def qo(C:Addr):Sp:=λvs H Q _=>∃(pn lo hi pp l lk:Addr) (ps ls:List Addr) (ns:List Int) (r:List (List Int)) (xs:List Lnk) (l1 l2 h1 h2:Int),vs=[.ref pn,.ref lo,.ref hi,.ref pp]/\H pp=some (.tup [.ref l,.ref lk])/\RA C H lo l1 l2/\RA C H hi h1 h2/\Bits 400 l1/\Bits 400 l2/\Bits 400 h1/\Bits 400 h2/\H pn=some (.lst (ns.map V.int))/\H l=some (.lst (ps.map V.ref))/\RwH H ps r/\RwB r/\H lk=some (.lst (ls.map V.ref))/\LkH H ls xs/\(∀x∈xs,LkB x)/\Tr ns/\ns.length<=20/\AllB 95000 ns/\r.length<=1000/\xs.length<=1000/\∀(b:Bool) (H':Hp),Same H H'->(b=true↔oI ns r xs l1 l2 h1 h2)->Q (.bl b) H'
theorem zw(F:Fun K "just_one" "just_one" kS f fd)(T:Txt K mg)(R:RCI K mg C)(Fp:Cal P w K mg base 34 "holds_together" ["polynomial","row","links"] qp GV Gg)(FR:MCal P w K mg base 2 C "against" ["self","other"] (qE C) Hm GJ)(Fs:Cal P w K mg base 4 "count" ["row","low","high"] (qx C) GX Gi):FnOk P w K mg base CX0 35 f fd ["polynomial","low","high","paper"] (qo C):=by
 obtain⟨ET,AY,BP,D9⟩:=Fp;obtain⟨Fe,AF,Es⟩:=FR;obtain⟨EV,A0,BR,Eb⟩:=Fs;refine F.ok xG (λvs H Q E h=>?_) (λcdv A outer s H vs Q E hr h=>?_)
 ·obtain⟨pn,lo,hi,pp,l,lk,ps,ls,ns,r,xs,l1,l2,h1,h2,rfl,_⟩:=h;rfl
 ·obtain⟨pn,lo,hi,pp,l,lk,ps,ls,ns,r,xs,l1,l2,h1,h2,rfl,hpp,hlo,hhi,b1,b2,b3,b4,hn,hl,hR,hB,hlk,hL,hX,tn,ln,bn,r1000,x1000,k⟩:=h;refine⟨_,(ak (aG (jH (au ET (hr.mono) rfl AY BP D9 .nil ar (aa (pv 0) (aa (ai (ay (K:=K) rfl) (pv 3) ac (λ_ _=>rfl)) (aa (ai (ay (K:=K) rfl) (pv 3) ac (λ_ _=>rfl)) ad)))) (jH (da dw (yT (pv 1) R.cl AF Fe (hr.mono) Es .nil ar (aa (pv 2) ad)) ac (av _)) (mv (da bh (au EV (hr.mono) rfl A0 BR Eb .nil ar (aa (ai (ay (K:=K) rfl) (pv 3) ac (λ_ _=>rfl)) (aa (pv 1) (aa (pv 2) ad)))) ac (av _))))))),?_⟩;refine bJ (jy ⟨_,rfl,_,rfl,pp,_,_,_,rfl,rfl,SqT.of hpp,rfl,_,rfl,pp,_,_,_,rfl,rfl,SqT.of hpp,rfl,pn,l,lk,ps,ls,ns,r,xs,rfl,hn,hl,hR,hB,hlk,hL,hX,tn,ln,bn,r1000,x1000,λb H1 s1 hb=>⟨_,rfl,?_⟩⟩);cases b with
  |false=>exact bV (k false H1 s1 ⟨λz=>Bool.noConfusion z,λz=>hb.mpr z.1⟩)
  |true =>
   refine cE ?_;have hot:=hb.mp rfl;obtain⟨dx,hx'⟩:=id (hlo.same s1);have s_lt:sg (l1*h2-h1*l2)<0↔l1*h2<h1*l2:=by rw[(xv _).1];omega
   refine jy ⟨_,rfl,lo,dx,_,rfl,hx',CN _ _ sE.1 sE.2,_,rfl,lo,hi,l1,l2,h1,h2,rfl,hlo.same s1,hhi.same s1,b1.mono,b2.mono,b3.mono,b4.mono,_,_,rfl,rfl,_,rfl,aC (λz=>?_) (λz=>?_)⟩
   ·refine⟨_,rfl,pp,_,_,_,rfl,rfl,SqT.of (s1 _ _ hpp),rfl,_,rfl,_,rfl,l,lo,hi,ps,r,l1,l2,h1,h2,rfl,s1 _ _ hl,hR.same s1,hlo.same s1,hhi.same s1,b1,b2,b3,b4,hB,by omega,λH2 s2=>?_⟩;refine⟨_,_,rfl,rfl,k _ H2 (s1.trans s2) ?_⟩;rw[decide_eq_true_iff];exact⟨λy=>⟨hot,s_lt.mp z,y⟩,λy=>y.2.2⟩
   ·exact k false H1 s1 ⟨λy=>Bool.noConfusion y,λy=>absurd (s_lt.mpr y.2.1) z⟩
theorem Ad(F:Fun K "_law_cell_at" "_law_cell_at" lK f fd)(T:Txt K mg):FnOk P w K mg base CX0 1 f fd ["_law_script","_law_k"] (ij K):=by
 refine F.ok xN (λvs H Q E h=>?_) (λcdv A outer s H vs Q E hr h=>?_)
 ·obtain⟨a,ns,k,rfl,_⟩:=h;rfl
 ·obtain⟨a,ns,n,rfl,hS,k⟩:=h
  refine⟨_,(ag (aW (aD dw (pv 1) (aI (aX (K:=K) rfl) (by rfl) T.len_ PySem.boot_len (aa (pv 0) ad)) (av _))
   (ak (aG (ai (aM (K:=K) rfl) (pv 0) (pv 1) (λ_ _=>rfl))))
   aV)
   (ak (aG ac))),?_⟩
  refine⟨_,rfl,_,rfl,a,_,rfl,.inl hS,_,_,rfl,rfl,_,rfl,?_⟩;refine aC (λh1=>?_) (λh1=>?_)
  ·rw[Hs]at h1;have h2:n<ns.length:=by omega
   refine⟨_,rfl,_,rfl,a,_,_,_,rfl,rfl,hS,fy (v:=.int (ns.getD n 0)) ?_,k⟩;rw[List.getElem?_map,List.getElem?_eq_getElem h2];simp[List.getD,h2]
  ·rw[Hs]at h1;have h2:ns.length<=n:=by omega
   have e:ns.getD n 0=0:=by simp[List.getD,List.getElem?_eq_none_iff.mpr h2]
   rw[e]at k;exact k
def kr:Sp:=λvs H Q _=>∃c z:Int,vs=[.int c,.int z]/\0<=z/\Bits 1000 z/\Q (.int (c%(2*z+1)-z)) H
theorem zC(F:Fun K "_law_within" "_law_within" kY f fd)(T:Txt K mg):FnOk P w K mg base CX0 1 f fd ["_law_cell","_law_most"] kr:=by
 refine F.ok xL (λvs H Q E h=>?_) (λcdv A outer s H vs Q E hr h=>?_)
 ·obtain⟨c,z,rfl,_⟩:=h;rfl
 ·obtain⟨c,z,rfl,hz,hb,k⟩:=h;refine⟨_,(ak (aG (af aZ (af aY (pv 0) (af aT (af aH ac (pv 1)) ac)) (pv 1)))),?_⟩;refine⟨_,rfl,_,rfl,_,_,rfl,rfl,⟨Bits.mono (j:=2) (by show(2:Int).natAbs<2^2;decide) (by decide),hb.mono⟩,_,_,rfl,rfl,_,_,rfl,rfl,(by show(0:Int)<2*z+1;omega),_,rfl,_,_,rfl,rfl,k⟩
theorem zF(F:Fun K "_law_trim" "_law_trim" k8 f fd)(T:Txt K mg):FnOk P w K mg base CX0 1 f fd ["_law_row"] (eX K):=by
 refine F.ok sc__law_trim (λvs H Q E h=>?_) (λcdv A outer s H vs Q E hr h=>?_)
 ·obtain⟨a,ns,rfl,_⟩:=h;rfl
 ·obtain⟨a,ns,rfl,hS,k⟩:=h
  refine⟨_,(ag (am (i:=1) sc__law_trim.nd rfl (Or.inl rfl) (aI (aX (K:=K) rfl) (by rfl) T.len_ PySem.boot_len (aa (pv 0) ad)))
   (ag (gF PassesOwn.never (PW.pt (cF (aD cM (pv 1) ac (av _)) (cU (aD bh (ai (aM (K:=K) rfl) (pv 0) (af aZ (pv 1) ac) (λ_ _=>rfl)) ac (av _)))))
     (ak (am (i:=1) sc__law_trim.nd rfl (Or.inl rfl) (af aZ (pv 1) ac))))
   (ak (aG (iy (im (K:=K) rfl) (pv 0) jF (gG (pv 1))))))),?_⟩
  refine⟨_,rfl,a,_,rfl,.inl hS,?_⟩;refine⟨λm σ' H'=>∃n:Nat,n<=ns.length/\σ'=[some (.ref a),some (.int n)]/\H=H'/\n=m/\trim (ns.take n)=trim ns,⟨_,ns.length,Ht _,?_,rfl,rfl,?_⟩,?_⟩
  ·rw[Hs];rfl
  ·rw[HY]
  ·rintro m σ' H' ⟨n,hn,rfl,rfl,rfl,ht⟩
   have fin:trim (ns.take n)=ns.take n->∃v,([some (V.ref a),some (V.int n)]:St)[0]?=some (some v)/\∃v_1,([some (V.ref a),some (V.int n)]:St)[1]?=some (some v_1)/\∃i,v_1=V.int i/\jC K v none (some i) H Q:=λh=>by
    refine⟨_,rfl,_,rfl,n,rfl,a,_,rfl,hS,λp hp=>k p _ (Same.upd_new hp) hp ?_⟩;rw[aj,<- ht,h]
    have e:dG (ns.map V.int) none (some (n:Int))=(ns.take n).map V.int:=by unfold dG;rw[HT.sIx_none,HT.sIx_nat,List.drop_zero,Jb,Hs,Nat.min_eq_left hn,List.map_take]
    rw[e]
   refine⟨_,rfl,_,_,rfl,rfl,_,rfl,?_⟩;refine aC (λhp=>?_) (λhp=>?_)
   ·obtain⟨j,rfl⟩:∃j,n=j+1:=⟨n-1,by have:(0:Int)<n:=hp;omega⟩;have hj:j<ns.length:=hn;refine⟨_,rfl,_,rfl,_,_,rfl,rfl,a,_,j,.int (cf ns j),rfl,?_,hS,fy ?_,_,_,rfl,rfl,_,rfl,?_⟩
    ·show V.int (((j+1:Nat):Int)-1)=V.int j
     congr 1;omega
    ·rw[List.getElem?_map,eJ hj];rfl
    refine aC (λh0=>?_) (λh0=>?_)
    ·refine⟨λσ'' H''=>∃m',m'<j+1/\∃n:Nat,n<=ns.length/\σ''=[some (.ref a),some (.int n)]/\H=H''/\n=m'/\trim (ns.take n)=trim ns,λ_ _ h=>h,?_⟩;refine⟨_,rfl,_,_,rfl,rfl,j,IJ _,j,IY hj,?_,rfl,rfl,?_⟩
     ·show[some (V.ref a),some (V.int (((j+1:Nat):Int)-1))]=[some (V.ref a),some (V.int j)]
      congr 4;omega
     ·rw[<- ht,ph hj h0]
    ·exact fin (pi hj h0)
   ·obtain rfl:n=0:=by have:¬(0:Int)<n:=hp;omega
    exact fin (by rw[JG];rfl)
theorem zR(F:Fun K "_law_mul" "_law_mul" lw f fd)(T:Txt K mg):FnOk P w K mg base CX0 1 f fd ["_law_kp","_law_kq"] fU:=by
 refine F.ok sc__law_mul (λvs H Q E h=>?_) (λcdv A outer s H vs Q E hr h=>?_)
 ·obtain⟨a,b,xs,ys,rfl,_⟩:=h;rfl
 ·obtain⟨a,b,xs,ys,rfl,hA,hB,hx,hy,bx,by',k⟩:=h
  refine⟨_,(ag (aW (PW.pt (dN (aD bh (aI (aX (K:=K) rfl) (by rfl) T.len_ PySem.boot_len (aa (pv 0) ad)) ac (av _)) (eh (aD bh (aI (aX (K:=K) rfl) (by rfl) T.len_ PySem.boot_len (aa (pv 1) ad)) ac (av _)))))
   (ak (aG (bH ad)))
   aV)
   (ag (mj (i:=2) sc__law_mul.nd rfl (Or.inl rfl) (own:=["_law_k"]) (fr:=[]) (js:=[]) (by walk_at "comp_ok") rfl (dr rfl T.range_ (aa (af aZ (af aT (aI (aX (K:=K) rfl) (by rfl) T.len_ PySem.boot_len (aa (pv 0) ad)) (aI (aX (K:=K) rfl) (by rfl) T.len_ PySem.boot_len (aa (pv 1) ad))) ac) ad)) (λ_ _ _ _=>(aL (i:=0) (show List.Nodup (["_law_k"]:List Str)from by decide +kernel) rfl (Or.inl rfl))) (λ_ _ _ _=>ac) (by rfl))
   (ag (bW PassesOwn.never rfl (fb rfl T.enumerate_ (aa (pv 0) ad)) (fC rfl (cj (aL (i:=3) sc__law_mul.nd rfl (Or.inl rfl)) (cj (aL (i:=4) sc__law_mul.nd rfl (Or.inl rfl)) eC)))
     (ak (bW PassesOwn.never rfl (fb rfl T.enumerate_ (aa (pv 1) ad)) (fC rfl (cj (aL (i:=5) sc__law_mul.nd rfl (Or.inl rfl)) (cj (aL (i:=6) sc__law_mul.nd rfl (Or.inl rfl)) eC)))
       (ak (c8 (af aT (ai (aM (K:=K) rfl) (pv 2) (af aT (pv 3) (pv 5)) (λ_ _=>rfl)) (af aH (pv 4) (pv 6))) (du (pv 2) (af aT (pv 3) (pv 5)) dm))))))
   (ak (aG (pv 2)))))),?_⟩
  have none':(xs=[]\/ys=[])->∀p,H p=none->Q (.ref p) (upd H p (.lst [])):=λh p hp=>k p _ (Same.upd_new hp) hp (by rw[aj];unfold ae;rw[if_pos h];rfl)
  have hlx:(xs.map V.int).length=xs.length:=Hs _;have hly:(ys.map V.int).length=ys.length:=Hs _;refine bU (dL ⟨_,rfl,a,_,rfl,.inl (SqL.of hA),_,_,rfl,rfl,_,rfl,aC (λh0=>?_) (λh0=>?_)⟩)
  ·exact cE ⟨Hy _,λp hp=>none' (.inl (Iu.mp (by rw[hlx]at h0;omega))) p hp⟩
  refine⟨_,rfl,b,_,rfl,.inl (SqL.of hB),_,_,rfl,rfl,_,rfl,aC (λh1=>?_) (λh1=>?_)⟩
  ·exact⟨Hy _,λp hp=>none' (.inr (Iu.mp (by rw[hly]at h1;omega))) p hp⟩
  rw[hlx]at h0;rw[hly]at h1;have hx0:xs≠[]:=λz=>h0 (by rw[z];rfl)
  have hy0:ys≠[]:=λz=>h1 (by rw[z];rfl)
  obtain⟨la,ea⟩:∃la,xs.length=la+1:=⟨xs.length-1,by have:=Hw.mpr hx0;omega⟩;obtain⟨lb,eb⟩:∃lb,ys.length=lb+1:=⟨ys.length-1,by have:=Hw.mpr hy0;omega⟩;have big:=sizeLine_eq;have en:((xs.map V.int).length:Int)+((ys.map V.int).length:Int)-1=((la+lb+1:Nat):Int):=by rw[hlx,hly];omega
  refine⟨_,rfl,a,_,rfl,.inl (SqL.of hA),_,rfl,b,_,rfl,.inl (SqL.of hB),_,_,rfl,rfl,_,_,rfl,rfl,?_⟩;dsimp only
  rw[en];refine⟨_,rfl,by omega,by omega,gY (lo:=0) (n:=la+lb+1) (λi zs σ' H'=>∃z:Option V,σ'=[z]/\zs=(List.replicate i (0:Int)).map V.int/\H=H') (by omega) ⟨none,rfl,rfl,rfl⟩ ?_ ?_ ?_⟩
  ·rintro i zs σ' H' _ ⟨z,rfl,rfl,rfl⟩;simp
  ·rintro i zs σ' H' hi ⟨z,rfl,rfl,rfl⟩;refine⟨_,rfl,?_,rfl⟩;rw[List.replicate_succ',Hu];rfl
  rintro zs σ' H' p ⟨z,rfl,rfl,rfl⟩ hp;have s4:=Same.upd_new (o:=.lst ((List.replicate (la+lb+1) (0:Int)).map V.int)) hp;have npa:a≠p:=aE hA hp;have npb:b≠p:=aE hB hp;have hp4:upd H p (.lst ((List.replicate (la+lb+1) (0:Int)).map V.int)) p=some (.lst ((List.replicate (la+lb+1) (0:Int)).map V.int)):=aj;generalize upd H p (.lst ((List.replicate (la+lb+1) (0:Int)).map V.int))=H4 at s4 hp4 ⊢
  refine⟨_,rfl,a,rfl,⟨_,SqL.of (s4 _ _ hA)⟩,gR (K:=K) (a:=a) (xs:=xs.map V.int) (λj σ' H'=>∃(acc:List Int) (z3 z4 z5 z6:Option V),σ'=[some (.ref a),some (.ref b),some (.ref p),z3,z4,z5,z6]/\SameB p H4 H'/\H' p=some (.lst (acc.map V.int))/\acc.length=la+lb+1/\∀n,n<acc.length->cf acc n=sm xs ys n j)
   ⟨List.replicate (la+lb+1) 0,none,none,none,none,rfl,SameB.refl _ _,hp4,by simp,λn _=>by rw[iR];rfl⟩ ?_ ?_ ?_⟩
  ·rintro j σ' H' _ ⟨acc,z3,z4,z5,z6,rfl,sb,_⟩;exact SqL.of (sb _ _ npa (s4 _ _ hA))
  ·rintro j x σ' H' q hj ⟨acc,z3,z4,z5,z6,rfl,sb,hpa,hal,hac⟩ hq;rw[List.getElem?_map]at hj
   have hjl:j<xs.length:=by apply Classical.byContradiction;intro hn;rw[List.getElem?_eq_none_iff.mpr (Ix hn)]at hj;cases hj
   rw[eJ hjl]at hj;obtain rfl:=Option.some.inj hj;refine⟨q,_,rfl,SqT.of aj,rfl,_,_,rfl,_,_,rfl,rfl,?_⟩;have nqp:p≠q:=aE hpa hq;have sb1:SameB p H4 (upd H' q (.tup [.int j,.int (cf xs j)])):=sb.then_new hq
   refine⟨_,rfl,b,rfl,⟨_,SqL.of (sb1 _ _ npb (s4 _ _ hB))⟩,gR (K:=K) (a:=b) (xs:=ys.map V.int) (λi σ' H'=>∃(acc:List Int) (z5 z6:Option V),σ'=[some (.ref a),some (.ref b),some (.ref p),some (.int j),some (.int (cf xs j)),z5,z6]/\SameB p H4 H'/\H' p=some (.lst (acc.map V.int))/\acc.length=la+lb+1/\∀n,n<acc.length->cf acc n=sm xs ys n j+(if j<=n/\n-j<i then tm xs ys n j else 0))
    ⟨acc,z5,z6,rfl,sb1,by rw[upd_ne nqp];exact hpa,hal,sN hac⟩ ?_ ?_ ?_⟩
   ·rintro i σ' H' _ ⟨acc,z5,z6,rfl,sb,_⟩;exact SqL.of (sb _ _ npb (s4 _ _ hB))
   ·rintro i x σ' H' q hi ⟨acc,z5,z6,rfl,sb,hpa,hal,hac⟩ hq;rw[List.getElem?_map]at hi
    have hil:i<ys.length:=by apply Classical.byContradiction;intro hn;rw[List.getElem?_eq_none_iff.mpr (Ix hn)]at hi;cases hi
    rw[eJ hil]at hi;obtain rfl:=Option.some.inj hi;refine⟨q,_,rfl,SqT.of aj,rfl,_,_,rfl,_,_,rfl,rfl,?_⟩;have nqp:p≠q:=aE hpa hq;have hpa':upd H' q (.tup [.int i,.int (cf ys i)]) p=some (.lst (acc.map V.int)):=by rw[upd_ne nqp];exact hpa
    have hji:j+i<acc.length:=by omega
    have eji:((j:Nat):Int)+((i:Nat):Int)=((j+i:Nat):Int):=by omega
    refine⟨_,rfl,_,rfl,_,rfl,_,_,rfl,rfl,p,_,_,_,rfl,rfl,SqL.of hpa',gh eji hji,_,rfl,_,rfl,_,_,rfl,rfl,⟨bx.cf j,by'.cf i⟩,_,_,rfl,rfl,_,rfl,_,rfl,_,rfl,_,_,rfl,rfl,p,_,_,j+i,rfl,rfl,hpa',dE eji (by rw[Hs];exact hji),?_⟩;refine⟨acc.set (j+i) (cf acc (j+i)+cf xs j*cf ys i),_,_,rfl,(sb.then_new hq).then_upd,by rw[aj,iB],by rw[HU];exact hal,sM hjl hil hji hac⟩
   ·rintro σ' H' ⟨acc,z5,z6,rfl,sb,hpa,hal,hac⟩;rw[Hs]at hac;exact⟨acc,_,_,_,_,rfl,sb,hpa,hal,sO hac⟩
  ·rintro σ' H' ⟨acc,z3,z4,z5,z6,rfl,sb,hpa,hal,hac⟩;rw[Hs]at hac;refine⟨_,rfl,k p H' (λb' o e=>sb b' o (aE e hp) (s4 b' o e)) hp ?_⟩;rw[hpa]
   have e:acc=ae xs ys:=by
    apply dU
    ·rw[hal];unfold ae;rw[if_neg (by intro z;exact z.elim hx0 hy0),Hs,Ih];omega
    ·intro n _;rw[aB,sP (by omega) hac]
   rw[e]
theorem zU(F:Fun K "_law_gcd" "_law_gcd" lC f fd)(T:Txt K mg):FnOk P w K mg base CX0 1 f fd ["_law_a","_law_b"] sp2:=by
 refine F.ok sc__law_gcd (λvs H Q E h=>?_) (λcdv A outer s H vs Q E hr h=>?_)
 ·obtain⟨a,b,rfl,_⟩:=h;rfl
 ·obtain⟨a,b,rfl,k⟩:=h
  refine⟨_,(ag (am (i:=0) sc__law_gcd.nd rfl (Or.inl rfl) (aI g7 (by rfl) T.abs_ PyProof.Rows.boot_abs (aa (pv 0) ad)))
   (ag (am (i:=1) sc__law_gcd.nd rfl (Or.inl rfl) (aI g7 (by rfl) T.abs_ PyProof.Rows.boot_abs (aa (pv 1) ad)))
   (ag (gF PassesOwn.never (aD cM (pv 1) ac (av _))
     (ag (am (i:=2) sc__law_gcd.nd rfl (Or.inl rfl) (af aY (pv 0) (pv 1)))
       (ag (am (i:=0) sc__law_gcd.nd rfl (Or.inl rfl) (pv 1))
       (ak (am (i:=1) sc__law_gcd.nd rfl (Or.inl rfl) (pv 2))))))
   (ak (aG (pv 0)))))),?_⟩
  refine⟨_,rfl,_,rfl,?_⟩;refine⟨_,rfl,_,rfl,?_⟩;refine⟨λm σ' H'=>∃(x y:Int) (z:Option V),σ'=[some (.int x),some (.int y),z]/\H=H'/\0<=x/\0<=y/\y.natAbs=m/\Nat.gcd x.natAbs y.natAbs=Nat.gcd a.natAbs b.natAbs,⟨_,_,_,none,rfl,rfl,?_,?_,rfl,?_⟩,?_⟩
  ·rw[eT];exact Jl _
  ·rw[eT];exact Jl _
  ·rw[eT,eT,Ii,Ii]
  ·rintro m σ' H' ⟨x,y,z,rfl,rfl,hx,hy,rfl,hg⟩;refine⟨_,rfl,_,_,rfl,rfl,_,rfl,?_⟩;refine aC (λhn=>?_) (λh0=>?_)
   ·have hp:0<y:=hn;refine⟨λσ'' H''=>∃m',m'<y.natAbs/\∃(x' y':Int) (z:Option V),σ''=[some (.int x'),some (.int y'),z]/\H=H''/\0<=x'/\0<=y'/\y'.natAbs=m'/\Nat.gcd x'.natAbs y'.natAbs=Nat.gcd a.natAbs b.natAbs,λ_ _ h=>h,?_⟩;refine⟨_,rfl,_,rfl,_,_,rfl,rfl,hp,?_⟩;refine⟨_,rfl,?_⟩;refine⟨_,rfl,?_⟩;have h1:=JC x (I0 hp);have h2:=JD x hp;exact⟨(x%y).natAbs,by omega,y,x%y,_,rfl,rfl,hy,h1,rfl,by rw[um hx hp];exact hg⟩
   ·refine⟨_,rfl,?_⟩;have e:(y:Int)=0:=by have:¬(0:Int)<y:=h0;omega
    subst e
    have e2:(x:Int)=((Nat.gcd a.natAbs b.natAbs:Nat):Int):=by rw[<- hg];show x=((Nat.gcd x.natAbs 0:Nat):Int);rw[Nat.gcd_zero_right];omega
    rw[e2];exact k
theorem zI(F:Fun K "_law_shrunk" "_law_shrunk" jq f fd)(T:Txt K mg)(hNS:base.NoSeer)(hTr:P.given.tree=none)(oZ:Cal P w K mg base 1 "_law_gcd" ["_law_a","_law_b"] sp2 Df CY):FnOk P w K mg base CX0 33 f fd ["_law_kp"] ii:=by
 obtain⟨oR,mS,nh,oE⟩:=oZ;refine F.ok sc__law_shrunk (λvs H Q E h=>?_) (λcdv A outer s H vs Q E hr h=>?_)
 ·obtain⟨a,ns,rfl,_⟩:=h;rfl
 ·obtain⟨a,ns,rfl,hA,ht,hn,k⟩:=h;have big:=sizeLine_eq;have hdp:(A.deeper (PyProof.Rows.envOfC (Str.ofString "_law_shrunk") (aA jq) s.heap.objs.size f cdv)).depth+100<recursionLimit:=by have:=hr.dp;omega
  refine⟨_,(ag (am (i:=1) sc__law_shrunk.nd rfl (Or.inr rfl) ac)
   (ag (bW PassesOwn.never rfl (ci (K:=K) rfl (pv 0)) (aL (i:=2) sc__law_shrunk.nd rfl (Or.inl rfl))
     (ak (am (i:=1) sc__law_shrunk.nd rfl (Or.inr rfl) (au oR (hr.mono) rfl mS nh oE .nil ar (aa (pv 1) (aa (pv 2) ad))))))
   (ag (aW (aD bh (pv 1) ac (av _))
     (ak (aG (bH ad)))
     aV)
   (ak (aG (cG (own:=["_law_one"]) (fr:=["_law_most"]) (js:=[1]) (by walk_at "comp_ok") rfl (ci (K:=K) rfl (pv 0)) (λ_ _ _ _=>(aL (i:=0) (show List.Nodup (["_law_one","_law_most"]:List Str)from by decide +kernel) rfl (Or.inl rfl))) (λ_ _ _ _=>(af (jJ hNS hTr hdp rfl rfl rfl rfl rfl) (pv 0) (pv 1))))))))),?_⟩
  refine ax ?_;refine⟨_,rfl,a,rfl,⟨_,SqL.of hA⟩,fL (K:=K) (a:=a) (xs:=ns.map V.int) (λi σ' H'=>∃z:Option V,σ'=[some (.ref a),some (.int (al (ns.take i):Nat)),z]/\H=H') ⟨none,rfl,rfl⟩ (λi σ' H' _ ⟨z,_,e⟩=>by rw[<- e];exact SqL.of hA) ?_ ?_⟩
  ·rintro i y σ' H' hi ⟨z,rfl,rfl⟩;obtain⟨n,e,rfl,_,et⟩:=dR hi;refine⟨_,rfl,_,rfl,_,_,rfl,?_⟩;refine⟨some (.int n),?_,rfl⟩;rw[et,nu,Ii];rfl
  ·rintro σ' H' ⟨z,rfl,rfl⟩;rw[Hs,HY];dsimp only
   refine bU ⟨_,rfl,_,_,rfl,rfl,_,rfl,aC (λh0=>?_) (λh0=>?_)⟩
   ·have hnil:ns=[]:=Classical.byContradiction λhne=>by have g1:=iI ht hne;have:((al ns:Nat):Int)=0:=h0;omega
    subst hnil;exact⟨Hy _,λp hp=>k p _ (Same.upd_new hp) hp (by rw[aj];rfl)⟩
   ·have hne:ns≠[]:=λz=>h0 (by rw[z];rfl)
    have g1:=iI ht hne;refine bJ ⟨_,rfl,a,rfl,⟨_,SqL.of hA⟩,dW (K:=K) (a:=a) (xs:=ns.map V.int) (λi ys σ' H'=>∃(z0:Option V),σ'=[z0,some (.int (al ns:Nat))]/\ys=((ns.take i).map λx=>x/(al ns:Int)).map V.int/\H=H') (by rw[Hs];omega) ⟨none,rfl,rfl,rfl⟩ ?_ ?_ ?_⟩
    ·rintro i ys σ' H' _ ⟨z0,rfl,rfl,rfl⟩;exact⟨SqL.of hA,by rw[Hs,Hs,HZ];exact JF _ _⟩
    ·rintro i x ys σ' H' hi ⟨z0,rfl,rfl,rfl⟩;obtain⟨c,e,rfl,_,et⟩:=dR hi;refine⟨_,rfl,_,rfl,_,_,rfl,rfl,g1,_,rfl,?_,rfl⟩;rw[et];simp
    ·rintro ys σ' H' p ⟨z0,rfl,rfl,rfl⟩ hp;refine k p _ (Same.upd_new hp) hp ?_;rw[aj,Hs,HY];rfl
theorem zO(F:Fun K "_law_plain" "_law_plain" lu f fd)(T:Txt K mg)(oV:Cal P w K mg base 33 "_law_shrunk" ["_law_kp"] ii Db CS):FnOk P w K mg base CX0 34 f fd ["_law_kp"] qj:=by
 obtain⟨oN,mO,m5,oz⟩:=oV;refine F.ok sc__law_plain (λvs H Q E h=>?_) (λcdv A outer s H vs Q E hr h=>?_)
 ·obtain⟨a,ns,rfl,_⟩:=h;rfl
 ·obtain⟨a,ns,rfl,hA,ht,hn,k⟩:=h;have big:=sizeLine_eq
  refine⟨_,(ag (am (i:=1) sc__law_plain.nd rfl (Or.inl rfl) (au oN (hr.mono) rfl mO m5 oz .nil ar (aa (pv 0) ad)))
   (ag (aW (PW.pt (cF (aD cM (aI (aX (K:=K) rfl) (by rfl) T.len_ PySem.boot_len (aa (pv 1) ad)) ac (av _)) (cU (aD dw (ai (aM (K:=K) rfl) (pv 1) (cV cR ac) (λ_ _=>rfl)) ac (av _)))))
     (ak (aG (cG (own:=["_law_one"]) (fr:=[]) (js:=[]) (by walk_at "comp_ok") rfl (ci (K:=K) rfl (pv 1)) (λ_ _ _ _=>(aL (i:=0) (show List.Nodup (["_law_one"]:List Str)from by decide +kernel) rfl (Or.inl rfl))) (λ_ _ _ _=>(af aZ ac (pv 0))))))
     aV)
   (ak (aG (pv 1))))),?_⟩
  refine ax ⟨_,rfl,a,ns,rfl,hA,ht,hn,λp H1 s1 hp e1=>?_⟩;have hsl:(ah ns).length=ns.length:=Hs _;refine cL (λσ' H'=>σ'=[some (.ref a),some (.ref p)]/\H1=H'/\cy (ah ns)=ah ns) ?_ ?_
  ·rintro σ' H' ⟨rfl,rfl,e3⟩;exact⟨_,rfl,k p H1 s1 hp (by rw[e1];show _=some (HO.lst ((cy (ah ns)).map V.int));rw[e3])⟩
  intro rest;refine cg ⟨_,rfl,p,_,rfl,.inl (SqL.of e1),_,_,rfl,rfl,_,rfl,aC (λh0=>?_) (λh0=>?_)⟩
  ·rw[Hs]at h0;have hne:ah ns≠[]:=λz=>by rw[z]at h0;exact absurd h0 (by decide)
   obtain⟨r,x,er⟩:=(c0 (ah ns)).resolve_left hne;refine⟨_,rfl,_,rfl,p,_,_,.int x,rfl,rfl,SqL.of e1,(by rw[er];exact Ew r x),_,_,rfl,rfl,_,rfl,?_⟩;have elast:cp (ah ns)=x:=by rw[er,fj]
   refine aC (λhx=>?_) (λhx=>?_)
   ·have hx':x<0:=hx;have epos:cy (ah ns)=(ah ns).map λx => -x:=by unfold cy;rw[elast,if_pos hx']
    refine bJ ⟨_,rfl,p,rfl,⟨_,SqL.of e1⟩,dW (K:=K) (a:=p) (xs:=(ah ns).map V.int) (λi ys σ' H'=>∃(z0:Option V),σ'=[z0]/\ys=(((ah ns).take i).map λx => -x).map V.int/\H1=H') (by rw[Hs,hsl];omega) ⟨none,rfl,rfl,rfl⟩ ?_ ?_ ?_⟩
    ·rintro i ys σ' H' _ ⟨z0,rfl,rfl,rfl⟩;exact⟨SqL.of e1,by rw[Hs,Hs,HZ];exact JF _ _⟩
    ·rintro i x ys σ' H' hi ⟨z0,rfl,rfl,rfl⟩;obtain⟨c,e,rfl,_,et⟩:=dR hi;refine⟨_,rfl,_,_,rfl,rfl,_,rfl,?_,rfl⟩;rw[et];simp
    ·rintro ys σ' H' p' ⟨z0,rfl,rfl,rfl⟩ hp';refine k p' _ (s1.then_new hp') (s1.free hp') ?_;rw[aj,Hs,HY];show _=some (HO.lst ((cy (ah ns)).map V.int));rw[epos]
   ·exact rest _ _ ⟨rfl,rfl,by unfold cy;rw[elast,if_neg hx]⟩
  ·rw[Hs]at h0;have he':ah ns=[]:=Iu.mp (by omega);exact rest _ _ ⟨rfl,rfl,by rw[he'];rfl⟩
theorem Ex{xs:List V}{n:Int}(hn:n=xs.length)(h:0<n)(c:Int):∃v,v∈xs/\atI xs (c%n)=some v:=by
 have h1:=JC c (I0 h);have h2:=JD c h;obtain⟨j,hj⟩:=JJ h1;have hl:j<xs.length:=by omega
 refine⟨xs[j],Ia hl,?_⟩;rw[hj];exact fy (by simp[hl])
theorem DU(a b:List Int)(n:Nat):cf (di a b) n=cf a n+cf b n:=by unfold di;rw[dX,fQ,HV]
theorem wz(a b:List Int):Tr (di a b):=bP _
def Fac(m:Int)(l:List Int):Prop:=∃u e b:Int,l=[u,e,b] /\ -m<=u/\u<=m /\ -36<e/\e<36/\1<=b/\b<=3/\NS e
def qq:Sp:=λvs H Q _=>∃c m:Int,vs=[.int c,.int m]/\0<=m/\∀(p:Addr) (l:List Int),H p=none->Fac m l->Q (.ref p) (upd H p (.tup (l.map V.int)))
theorem bN{x m:Int}(h:0<m):0<=x%m/\x%m<m:=⟨JC _ (I0 h),JD _ h⟩
theorem zV(F:Fun K "_law_factor_by" "_law_factor_by" lD f fd)(T:Txt K mg):FnOk P w K mg base CX0 1 f fd ["_law_cell","_law_most"] qq:=by
 refine F.ok sc__law_factor_by (λvs H Q E h=>?_) (λcdv A outer s H vs Q E hr h=>?_)
 ·obtain⟨c,m,rfl,_⟩:=h;rfl
 ·obtain⟨c,m,rfl,hm,k⟩:=h
  refine⟨_,(ag (am (i:=2) sc__law_factor_by.nd rfl (Or.inl rfl) (af aZ (af aY (af b7 (pv 0) ac) (af aT (af eE ac (pv 1)) ac)) (pv 1)))
   (ag (am (i:=3) sc__law_factor_by.nd rfl (Or.inl rfl) (af aT ac (af aY (af aY (af eE (pv 0) ac) ac) ac)))
   (ag (am (i:=4) sc__law_factor_by.nd rfl (Or.inl rfl) (af aT ac (af aY (af aY (af eE (pv 0) ac) ac) ac)))
   (ag (am (i:=5) sc__law_factor_by.nd rfl (Or.inl rfl) (af aT (af aT (af eE (pv 4) (pv 4)) ac) (af aY (af aY (af eE (pv 0) ac) ac) (af eE ac (pv 4)))))
   (ag (aW (aD bh (af aY (pv 0) ac) ac (av _))
     (ak (aG (bS (aa (pv 2) (aa (pv 5) (aa (pv 3) ad))))))
     aV)
   (ag (aW (aD bh (af aY (pv 0) ac) ac (av _))
     (ak (aG (bS (aa (pv 2) (aa (af aZ ac (pv 5)) (aa (pv 3) ad))))))
     aV)
   (ak (aG (bS (aa (pv 2) (aa ac (aa (pv 3) ad)))))))))))),?_⟩
  refine ax ⟨_,rfl,_,_,rfl,rfl,⟨by decide,Bits.mono (j:=3) (by show(4:Int).natAbs<2^3;decide) (by decide)⟩,_,rfl,_,_,rfl,rfl,.inl ⟨by decide,by decide⟩,_,_,rfl,rfl,_,_,rfl,rfl,(by show(0:Int)<2*m+1;omega),_,rfl,_,_,rfl,rfl,?_⟩;obtain⟨u1,u2⟩:=bN (x:=c/4) (m:=2*m+1) (by omega);dsimp only
  generalize hu:c/4%(2*m+1)-m=u;have hu1 : -m<=u:=by omega
  have hu2:u<=m:=by omega
  refine ax ⟨_,rfl,_,_,rfl,rfl,.inr ⟨by decide,by decide⟩,_,_,rfl,rfl,(by show(0:Int)<10007;decide),_,_,rfl,rfl,(by show(0:Int)<3;decide),_,_,rfl,rfl,?_⟩;obtain⟨b1,b2⟩:=bN (x:=c*48271%10007) (m:=3) (by omega);dsimp only
  generalize hb:1+c*48271%10007%3=b;have hb1:1<=b:=by omega
  have hb2:b<=3:=by omega
  refine ax ⟨_,rfl,_,_,rfl,rfl,.inr ⟨by decide,by decide⟩,_,_,rfl,rfl,(by show(0:Int)<10009;decide),_,_,rfl,rfl,(by show(0:Int)<5;decide),_,_,rfl,rfl,?_⟩;obtain⟨n1,n2⟩:=bN (x:=c*69621%10009) (m:=5) (by omega);dsimp only
  generalize hn:1+c*69621%10009%5=n;have hn1:1<=n:=by omega
  have hn2:n<=5:=by omega
  refine ax ⟨_,rfl,_,rfl,_,_,rfl,rfl,.inl ⟨by show -(2^64)<n;omega,by show n<2^64;omega⟩,_,_,rfl,rfl,_,rfl,_,_,rfl,rfl,.inr ⟨by decide,by decide⟩,_,_,rfl,rfl,(by show(0:Int)<10037;decide),_,rfl,_,_,rfl,rfl,.inl ⟨by decide,by decide⟩,_,_,rfl,rfl,(by show(0:Int)<2*n;omega),_,_,rfl,rfl,?_⟩;obtain⟨e1,e2⟩:=bN (x:=c*16807%10037) (m:=2*n) (by omega);dsimp only
  generalize he:n*n+1+c*16807%10037%(2*n)=e;have hnn:0<=n*n:=IE (by omega) (by omega);have he0:0<e:=by omega
  have hns:n*n<e/\e<(n+1)*(n+1):=by
   have:(n+1)*(n+1)=n*n+2*n+1:=by rw[Int.add_mul,Int.mul_add];omega
   omega
  have he2:e<36:=by
   have h1:n=1\/n=2\/n=3\/n=4\/n=5:=by omega
   rcases h1 with rfl |rfl |rfl |rfl |rfl<;>omega
  refine bU ⟨_,rfl,_,_,rfl,rfl,(by show(0:Int)<4;decide),_,_,rfl,rfl,_,rfl,aC (λ_=>?_) (λ_=>?_)⟩
  ·exact⟨_,rfl,_,rfl,_,rfl,by show 3<=sizeLine;decide,λp hp=>k p [u,e,b] hp ⟨u,e,b,rfl,hu1,hu2,by omega,he2,hb1,hb2,.inr ⟨n,by omega,hns.1,hns.2⟩⟩⟩
  refine bU ⟨_,rfl,_,_,rfl,rfl,(by show(0:Int)<4;decide),_,_,rfl,rfl,_,rfl,aC (λ_=>?_) (λ_=>?_)⟩
  ·exact⟨_,rfl,_,rfl,_,_,rfl,rfl,_,rfl,by show 3<=sizeLine;decide,λp hp=>k p [u,0-e,b] hp ⟨u,0-e,b,rfl,hu1,hu2,by omega,by omega,hb1,hb2,.inl (by omega)⟩⟩
  exact⟨_,rfl,_,rfl,by show 3<=sizeLine;decide,λp hp=>k p [u,0,b] hp ⟨u,0,b,rfl,hu1,hu2,by omega,by omega,hb1,hb2,.inl (I9 _)⟩⟩
def ku:Sp:=λvs H Q _=>∃(p:Addr) (l:List Int),vs=[.ref p]/\H p=some (.tup (l.map V.int))/\Fac 100000000 l/\mkL H Q (aw l)
theorem pC{u e b:Int}(hb:0<b):Tr (aF u e b)/\aF u e b≠[]:=by obtain⟨tr,l2⟩:=fS (u:=u) (e:=e) (b:=b) (by omega);exact⟨tr,λz=>by rw[z]at l2;simp at l2⟩
theorem rp{u e b:Int}(h1 : -100000000<=u)(h2:u<=100000000)(h3 : -36<e)(h4:e<36)(h5:1<=b)(h6:b<=3):AllB 56 (aF u e b):=by
 have q1:(u*u).natAbs<=100000000*100000000:=cv (by omega) (by omega);have q2:(b*u).natAbs<=3*100000000:=cv (by omega) (by omega);have q3:(b*b).natAbs<=3*3:=cv (by omega) (by omega);have q4 : -2*b*u = -2*(b*u):=by grind
 unfold aF;split
 ·intro x hx;simp only[HI,JE,or_false]at hx;rcases hx with rfl |rfl
  ·show(-u).natAbs<72057594037927936;omega
  ·show x.natAbs<72057594037927936;omega
 ·intro x hx;simp only[HI,JE,or_false]at hx;rcases hx with rfl |rfl |rfl
  ·show(u*u-e).natAbs<72057594037927936;omega
  ·rw[q4];show(-2*(b*u)).natAbs<72057594037927936;omega
  ·show(b*b).natAbs<72057594037927936;omega
theorem zK(F:Fun K "_law_shape" "_law_shape" lg f fd)(T:Txt K mg)(FD:Cal P w K mg base 34 "_law_plain" ["_law_kp"] qj G9 Gv):FnOk P w K mg base CX0 35 f fd ["_law_factor"] ku:=by
 obtain⟨vV,sZ,tT,vB⟩:=FD;refine F.ok sc__law_shape (λvs H Q E h=>?_) (λcdv A outer s H vs Q E hr h=>?_)
 ·obtain⟨p,l,rfl,_⟩:=h;rfl
 ·obtain⟨p,l,rfl,hP,⟨u,e,b,rfl,h1,h2,h3,h4,h5,h6,h7⟩,k⟩:=h;have hb:=rp h1 h2 h3 h4 h5 h6;obtain⟨tr,hne⟩:=pC (u:=u) (e:=e) (b:=b) (by omega)
  replace k:mkL H Q (aJ (aF u e b)):=k
  have bu:Bits 31 u:=by show u.natAbs<2147483648;omega
  have bb:Bits 2 b:=by show b.natAbs<4;omega
  refine⟨_,(ag (am (i:=1) sc__law_shape.nd rfl (Or.inl rfl) (ai (ay (K:=K) rfl) (pv 0) ac (λ_ _=>rfl)))
   (ag (am (i:=2) sc__law_shape.nd rfl (Or.inl rfl) (ai (ay (K:=K) rfl) (pv 0) ac (λ_ _=>rfl)))
   (ag (aW (aD bh (ai (ay (K:=K) rfl) (pv 0) ac (λ_ _=>rfl)) ac (av _))
     (ak (aG (au vV (hr.mono) rfl sZ tT vB .nil ar (aa (bH (aa (af aZ ac (pv 1)) (aa (pv 2) ad))) ad))))
     aV)
   (ak (aG (au vV (hr.mono) rfl sZ tT vB .nil ar (aa (bH (aa (af aZ (af aH (pv 1) (pv 1)) (ai (ay (K:=K) rfl) (pv 0) ac (λ_ _=>rfl))) (aa (af aH (af aH (cV cR ac) (pv 2)) (pv 1)) (aa (af aH (pv 2) (pv 2)) ad)))) ad))))))),?_⟩
  refine ax ⟨_,rfl,p,_,_,_,rfl,rfl,SqT.of hP,rfl,?_⟩;refine ax ⟨_,rfl,p,_,_,_,rfl,rfl,SqT.of hP,rfl,?_⟩;refine bU ⟨_,rfl,p,_,_,_,rfl,rfl,SqT.of hP,rfl,_,_,rfl,rfl,_,rfl,aC (λh0=>?_) (λh0=>?_)⟩
  ·have h0':e=0:=h0;subst h0';have er:aF u 0 b=[0-u,b]:=by unfold aF;rw[if_pos rfl,Jo]
   rw[er]at hb tr k;refine⟨_,rfl,_,_,rfl,rfl,_,rfl,by show 2<=sizeLine;decide,λq hq=>?_⟩;refine⟨q,[0-u,b],rfl,aj,tr,by show 2<=1000000;decide,λp' H' sm hp' e'=>k p' H' ((Same.upd_new hq).trans sm) ((Same.upd_new hq).free hp') e'⟩
  ·have h0':¬e=0:=h0;have er:aF u e b=[u*u-e,-2*b*u,b*b]:=by unfold aF;rw[if_neg h0']
   rw[er]at hb tr k;refine bJ ⟨_,rfl,_,rfl,_,_,rfl,rfl,⟨bu.mono,bu.mono⟩,_,rfl,p,_,_,_,rfl,rfl,SqT.of hP,rfl,_,_,rfl,rfl,?_⟩;refine⟨_,rfl,_,rfl,_,_,rfl,rfl,⟨Bits.mono (j:=2) (by show(-2:Int).natAbs<2^2;decide) (by decide),bb.mono⟩,_,rfl,_,_,rfl,rfl,⟨Bits.mono (j:=4) (Bits.mul (j:=2) (k:=2) (by show(-2:Int).natAbs<2^2;decide) bb) (by decide),bu.mono⟩,?_⟩;refine⟨_,rfl,_,rfl,_,_,rfl,rfl,⟨bb.mono,bb.mono⟩,by show 3<=sizeLine;decide,λq hq=>?_⟩;refine⟨q,[u*u-e,-2*b*u,b*b],rfl,aj,tr,by show 3<=1000000;decide,λp' H' sm hp' e'=>k p' H' ((Same.upd_new hq).trans sm) ((Same.upd_new hq).free hp') e'⟩
theorem ip{l:List Int}(h:Fac 100000000 l):Tr (aw l)/\aw l≠[]/\AllB 56 (aw l)/\2<=(aw l).length/\(aw l).length<=3:=by
 obtain⟨u,e,b,rfl,h1,h2,h3,h4,h5,h6,h7⟩:=h;have hb:=rp h1 h2 h3 h4 h5 h6;obtain⟨tr,hne⟩:=pC (u:=u) (e:=e) (b:=b) (by omega);have hl:(aF u e b).length=2\/(aF u e b).length=3:=by unfold aF;split;exact .inl rfl;exact .inr rfl
 show Tr (aJ (aF u e b))/\aJ (aF u e b)≠[]/\AllB 56 (aJ (aF u e b))/\2<=(aJ (aF u e b)).length/\(aJ (aF u e b)).length<=3;have pl:=RM.plain_len (aF u e b);refine⟨gt tr,λz=>by rw[z]at pl;simp at pl;omega,AllB.of_cf λn=>?_,by omega,by omega⟩;obtain⟨g,hg,eg⟩:=f6 tr;have h7:=hb.cf n;rw[eg n]at h7;refine h7.of_le ?_;rw[Ig];exact JI _ (IM.mpr hg)
def SpB(l:List Int):Prop:=∃u e b s:Int,l=[u,e,b,s] /\ -100000000<=u/\u<=100000000/\0<=e/\e<36/\1<=b/\b<=3
def qd:Sp:=λvs H Q _=>∃sq due:Int,vs=[.int sq,.int due]/\Bits 400000 due/\Q (.int (bD sq due)) H
theorem zG(F:Fun K "_law_sure" "_law_sure" k9 f fd)(T:Txt K mg):FnOk P w K mg base CX0 1 f fd ["_law_square","_law_due"] qd:=by
 refine F.ok xM (λvs H Q E h=>?_) (λcdv A outer s H vs Q E hr h=>?_)
 ·obtain⟨sq,due,rfl,_⟩:=h;rfl
 ·obtain⟨sq,due,rfl,hb,k⟩:=h
  refine⟨_,(ag (aW (PW.pt (dN (aD dw (pv 1) ac (av _)) (eh (aD cM (pv 0) (af aH (pv 1) (pv 1)) (av _)))))
   (ak (aG ac))
   aV)
   (ak (aG (af aZ ac (eD j5 (by rfl) T.int_ PyProof.Rows.boot_int (aa (da dw (pv 0) (af aH (pv 1) (pv 1)) (av _)) ad)))))),?_⟩
  refine cL (λσ' H'=>σ'=[some (.int sq),some (.int due)]/\H=H'/\¬(due<0\/due*due<sq)) ?_ ?_
  case refine_2 =>
   intro rest;refine dL ⟨_,rfl,_,_,rfl,rfl,_,rfl,aC (λh1=>?_) (λh1=>?_)⟩
   ·refine cE ?_;unfold bD at k
    rw[if_pos (.inl h1)]at k;exact k
   ·refine⟨_,rfl,_,rfl,_,rfl,_,_,rfl,rfl,⟨hb.mono,hb.mono⟩,_,_,rfl,rfl,_,rfl,aC (λh2=>?_) (λh2=>?_)⟩
    ·unfold bD at k
     rw[if_pos (.inr h2)]at k;exact k
    ·exact rest _ _ ⟨rfl,rfl,λz=>z.elim h1 h2⟩
  rintro σ' H' ⟨rfl,rfl,hn⟩;refine bJ ⟨_,rfl,_,rfl,_,rfl,_,_,rfl,rfl,⟨hb.mono,hb.mono⟩,_,_,rfl,rfl,.inr ⟨_,rfl,_,_,rfl,rfl,?_⟩⟩;unfold bD at k
  rw[if_neg hn]at k;by_cases h3:sq<due*due
  ·rw[if_pos h3]at k;rw[decide_eq_true h3];exact k
  ·rw[if_neg h3]at k;rw[decide_eq_false h3];exact k
def qe:Sp:=λvs H Q _=>∃(p:Addr) (l:List Int) (t n:Int),vs=[.ref p,.int t,.int n]/\H p=some (.tup (l.map V.int))/\SpB l/\Bits 100000 t/\Bits 100000 n/\Q (.int (bo l t n)) H
theorem zH(F:Fun K "_law_side" "_law_side" ld f fd)(T:Txt K mg)(Fx:Cal P w K mg base 1 "_law_sure" ["_law_square","_law_due"] qd G3 Go):FnOk P w K mg base CX0 2 f fd ["_law_spot","_law_top","_law_bottom"] qe:=by
 obtain⟨vU,sY,tQ,vA⟩:=Fx;refine F.ok sc__law_side (λvs H Q E h=>?_) (λcdv A outer s H vs Q E hr h=>?_)
 ·obtain⟨p,l,t,n,rfl,_⟩:=h;rfl
 ·obtain⟨p,l,t,n,rfl,hP,⟨u,e,b,s,rfl,h1,h2,h3,h4,h5,h6⟩,bt,bn,k⟩:=h;have bu:Bits 28 u:=by show u.natAbs<268435456;omega
  have bb:Bits 6 b:=by show b.natAbs<64;omega
  have be:Bits 6 e:=by show e.natAbs<64;omega
  have bd:Bits 100030 (b*t-u*n):=Bits.sub (k:=100029) ((bb.mul bt).mono) ((bu.mul bn).mono)
  refine⟨_,(ag (am (i:=3) sc__law_side.nd rfl (Or.inl rfl) (af aZ (af aH (ai (ay (K:=K) rfl) (pv 0) ac (λ_ _=>rfl)) (pv 1)) (af aH (ai (ay (K:=K) rfl) (pv 0) ac (λ_ _=>rfl)) (pv 2))))
   (ag (am (i:=4) sc__law_side.nd rfl (Or.inl rfl) (af aH (af aH (ai (ay (K:=K) rfl) (pv 0) ac (λ_ _=>rfl)) (pv 2)) (pv 2)))
   (ag (aW (aD cM (ai (ay (K:=K) rfl) (pv 0) ac (λ_ _=>rfl)) ac (av _))
     (ak (aG (au vU (hr.mono) rfl sY tQ vA .nil ar (aa (pv 4) (aa (pv 3) ad)))))
     aV)
   (ak (aG (af aZ ac (au vU (hr.mono) rfl sY tQ vA .nil ar (aa (pv 4) (aa (af aZ ac (pv 3)) ad))))))))),?_⟩
  refine ax ⟨_,rfl,p,_,_,_,rfl,rfl,SqT.of hP,rfl,_,rfl,_,_,rfl,rfl,⟨bb.mono,bt.mono⟩,_,rfl,p,_,_,_,rfl,rfl,SqT.of hP,rfl,_,rfl,_,_,rfl,rfl,⟨bu.mono,bn.mono⟩,_,_,rfl,rfl,?_⟩;refine ax ⟨_,rfl,p,_,_,_,rfl,rfl,SqT.of hP,rfl,_,rfl,_,_,rfl,rfl,⟨be.mono,bn.mono⟩,_,rfl,_,_,rfl,rfl,⟨(be.mul bn).mono,bn.mono⟩,?_⟩;refine bU ⟨_,rfl,p,_,_,_,rfl,rfl,SqT.of hP,rfl,_,_,rfl,rfl,_,rfl,aC (λhs=>?_) (λhs=>?_)⟩
  ·refine⟨_,rfl,_,rfl,_,_,rfl,bd.mono,?_⟩;have hs':0<cf [u,e,b,s] 3:=hs;unfold bo at k
   rw[if_pos hs']at k;exact k
  ·have hs':¬0<cf [u,e,b,s] 3:=hs;refine bJ ⟨_,rfl,_,rfl,_,_,rfl,rfl,_,_,rfl,?_,_,_,rfl,rfl,?_⟩
   ·have:=bd.neg;rw[<- Jo]at this;exact this.mono
   unfold bo at k
   rw[if_neg hs']at k;exact k
theorem wU(f:List Int):(spF f).length<=2:=by unfold spF;split<;>split<;>simp
theorem ko:∀fs:List (List Int),(spots fs).length<=2*fs.length
 | []=>Ht _
 |f::fs=>by
  have e1:spots (f::fs)=spF f++spots fs:=by unfold spots;rw[List.flatMap_cons]
  have h1:=wU f;have h2:=ko fs;rw[e1,Hv,Ie];omega
theorem wS{fs:List (List Int)}{i:Nat}{f:List Int}(h:fs[i]?=some f):spots (fs.take (i+1))=spots (fs.take i)++spF f:=by unfold spots;rw[Ib,h,List.flatMap_append];show _++List.flatMap spF [f]=_;rw[List.flatMap_singleton]
def qh:Sp:=λvs H Q _=>∃(a:Addr) (qs:List Addr) (fs:List (List Int)),vs=[.ref a]/\H a=some (.lst (qs.map V.ref))/\TuH H qs fs/\(∀l∈fs,Fac 100000000 l)/\fs.length<=100/\∀(p:Addr) (H':Hp) (ws:List Addr),Same H H'->H p=none->H' p=some (.lst (ws.map V.ref))->TuH H' ws (spots fs)->Q (.ref p) H'
theorem zM(F:Fun K "_law_roots_of" "_law_roots_of" lj f fd)(T:Txt K mg):FnOk P w K mg base CX0 1 f fd ["_law_factors"] qh:=by
 refine F.ok sc__law_roots_of (λvs H Q E h=>?_) (λcdv A outer s H vs Q E hr h=>?_)
 ·obtain⟨a,qs,fs,rfl,_⟩:=h;rfl
 ·obtain⟨a,qs,fs,rfl,hA,hT,hF,hn,k⟩:=h;have big:=sizeLine_eq
  refine⟨_,(ag (am (i:=1) sc__law_roots_of.nd rfl (Or.inl rfl) (bH ad))
   (ag (bW PassesOwn.never rfl (ci (K:=K) rfl (pv 0)) (aL (i:=2) sc__law_roots_of.nd rfl (Or.inl rfl))
     (ag (aW (aD za (ai (ay (K:=K) rfl) (pv 2) ac (λ_ _=>rfl)) ac (av _))
       (ak (bX (cH PySem.F.plainAttrs_list PySem.F.slot_list_append PySem.F.type_list_append cJ (pv 1) (aa (bS (aa (ai (ay (K:=K) rfl) (pv 2) ac (λ_ _=>rfl)) (aa (ai (ay (K:=K) rfl) (pv 2) ac (λ_ _=>rfl)) (aa (ai (ay (K:=K) rfl) (pv 2) ac (λ_ _=>rfl)) (aa ac ad))))) ad))))
       aV)
       (ak (aW (aD cM (ai (ay (K:=K) rfl) (pv 2) ac (λ_ _=>rfl)) ac (av _))
         (ak (bX (cH PySem.F.plainAttrs_list PySem.F.slot_list_append PySem.F.type_list_append cJ (pv 1) (aa (bS (aa (ai (ay (K:=K) rfl) (pv 2) ac (λ_ _=>rfl)) (aa (ai (ay (K:=K) rfl) (pv 2) ac (λ_ _=>rfl)) (aa (ai (ay (K:=K) rfl) (pv 2) ac (λ_ _=>rfl)) (aa (cV cR ac) ad))))) ad))))
         aV))))
   (ak (aG (pv 1))))),?_⟩
  refine ax ⟨Hy _,λpm hpm=>?_⟩;have s1:Same H (upd H pm (.lst [])):=Same.upd_new hpm;have q1:upd H pm (.lst []) pm=some (.lst []):=aj;generalize upd H pm (.lst [])=H1 at s1 q1 ⊢
  have hpl:(qs.map V.ref).length=fs.length:=by rw[Hs,hT.1]
  refine⟨_,rfl,a,rfl,⟨_,SqL.of (s1 _ _ hA)⟩,fL (K:=K) (a:=a) (xs:=qs.map V.ref) (λi σ' H'=>∃(z2:Option V) (ws:List Addr),σ'=[some (.ref a),some (.ref pm),z2]/\Same H H'/\H' pm=some (.lst (ws.map V.ref))/\TuH H' ws (spots (fs.take i))) ⟨none,[],rfl,s1,q1,TuH.nil⟩ ?_ ?_ ?_⟩
  ·rintro i σ' H' _ ⟨z2,ws,rfl,sm,_⟩;exact SqL.of (sm _ _ hA)
  ·rintro i x σ' H' hi ⟨z2,ws,rfl,sm,em,hW⟩;obtain⟨q,l,rfl,eq,el,hq,hlt⟩:=(hT.same sm).of_get hi;have hmem:=List.mem_of_getElem? el;obtain⟨u,e,b,rfl,h1,h2,h3,h4,h5,h6,h7⟩:=hF l hmem;have hd:spF [u,e,b]=(if 0<=e then[[u,e,b,1]]else[])++(if 0<e then[[u,e,b,-1]]else[]):=rfl
   have hwl:ws.length<=200:=by rw[hW.1];have:=ko (fs.take i);rw[HZ]at this;omega
   rw[wS el,hd];dsimp only
   refine cL (λσ' H'=>∃(ws:List Addr),σ'=[some (.ref a),some (.ref pm),some (.ref q)]/\Same H H'/\H' pm=some (.lst (ws.map V.ref))/\TuH H' ws (spots (fs.take i)++(if 0<=e then[[u,e,b,1]]else[]))/\ws.length<=201) ?_ ?_
   case refine_2 =>
    intro rest;refine⟨_,rfl,q,_,_,_,rfl,rfl,SqT.of hq,rfl,_,_,rfl,rfl,_,rfl,aC (λh0=>?_) (λh0=>?_)⟩
    ·have h0':0<=e:=h0;refine dM ⟨_,rfl,.inl ⟨rfl,_,SqL.of em⟩,_,rfl,q,_,_,_,rfl,rfl,SqT.of hq,rfl,_,rfl,q,_,_,_,rfl,rfl,SqT.of hq,rfl,_,rfl,q,_,_,_,rfl,rfl,SqT.of hq,rfl,by show 4<=sizeLine;decide,λp hp=>?_⟩;have s3:Same H' (upd H' p (.tup ([u,e,b,1].map V.int))):=Same.upd_new hp;have e3:upd H' p (.tup ([u,e,b,1].map V.int)) p=some (.tup ([u,e,b,1].map V.int)):=aj;have em3:=s3 _ _ em;refine⟨pm,_,_,rfl,rfl,em3,by rw[Hs];omega,?_⟩;refine rest _ _ ⟨ws++[p],rfl,cO (sm.trans s3) hpm,by rw[aj,gO],?_,by rw[Hv];show ws.length+1<=_;omega⟩;rw[if_pos h0'];exact((hW.same s3).snoc e3).upd_lst em3
    ·have h0':¬0<=e:=h0;refine rest _ _ ⟨ws,rfl,sm,em,?_,by omega⟩;rw[if_neg h0',List.append_nil];exact hW
   clear em hW hwl ws sm hq;rintro σ' H3 ⟨ws,rfl,sm,em,hW,hwl⟩;obtain⟨q',l',ee,eq',el',hq,_⟩:=(hT.same sm).of_get hi;rw[eq]at eq';rw[el]at el';obtain rfl:=Option.some.inj eq';obtain rfl:=Option.some.inj el';refine iu ⟨_,rfl,q,_,_,_,rfl,rfl,SqT.of hq,rfl,_,_,rfl,rfl,_,rfl,aC (λh0=>?_) (λh0=>?_)⟩
   ·have h0':0<e:=h0;refine dM ⟨_,rfl,.inl ⟨rfl,_,SqL.of em⟩,_,rfl,q,_,_,_,rfl,rfl,SqT.of hq,rfl,_,rfl,q,_,_,_,rfl,rfl,SqT.of hq,rfl,_,rfl,q,_,_,_,rfl,rfl,SqT.of hq,rfl,_,rfl,by show 4<=sizeLine;decide,λp hp=>?_⟩;have s3:Same H3 (upd H3 p (.tup ([u,e,b,-1].map V.int))):=Same.upd_new hp;have e3:upd H3 p (.tup ([u,e,b,-1].map V.int)) p=some (.tup ([u,e,b,-1].map V.int)):=aj;have em3:=s3 _ _ em;refine⟨pm,_,_,rfl,rfl,em3,by rw[Hs];omega,?_⟩;refine⟨_,ws++[p],rfl,cO (sm.trans s3) hpm,by rw[aj,gO],?_⟩;rw[if_pos h0',<- List.append_assoc];exact((hW.same s3).snoc e3).upd_lst em3
   ·have h0':¬0<e:=h0;refine⟨_,ws,rfl,sm,em,?_⟩;rw[if_neg h0',List.append_nil];exact hW
  ·rintro σ' H' ⟨z2,ws,rfl,sm,em,hW⟩;rw[hpl,HY]at hW;exact⟨_,rfl,k pm H' ws sm hpm em hW⟩
def kx:Sp:=λvs H Q _=>∃a b c m:Int,vs=[.int a,.int b,.int c,.int m]/\Bits 2000 a/\Bits 2000 b/\Bits 2000 c/\Bits 10 m/\Q (.int (nrm m a b c)) H
theorem zQ(F:Fun K "_law_norm" "_law_norm" lv f fd)(T:Txt K mg):FnOk P w K mg base CX0 1 f fd ["_law_a","_law_b","_law_c","_law_m"] kx:=by
 refine F.ok sc__law_norm (λvs H Q E h=>?_) (λcdv A outer s H vs Q E hr h=>?_)
 ·obtain⟨a,b,c,m,rfl,_⟩:=h;rfl
 ·obtain⟨a,b,c,m,rfl,ba,bb,bc,bm,k⟩:=h;have e:a*a*a+m*b*b*b+m*m*c*c*c-3*m*a*b*c=nrm m a b c:=by unfold nrm;grind
  rw[<- e]at k;have b3:Bits 2 (3:Int):=by show(3:Int).natAbs<2^2;decide
  have M:∀{i:Nat} {x:Int},Bits i x->i<=100000->Bits 1000000 x:=λh hi=>h.mono (by omega)
  have q1:=ba.mul ba;have q2:=bm.mul bb;have q3:=q2.mul bb;have q4:=bm.mul bm;have q5:=q4.mul bc;have q6:=q5.mul bc;have q7:=b3.mul bm;have q8:=q7.mul ba;have q9:=q8.mul bb
  refine⟨_,(ag (am (i:=4) sc__law_norm.nd rfl (Or.inl rfl) (af aT (af aH (af aH (pv 0) (pv 0)) (pv 0)) (af aH (af aH (af aH (pv 3) (pv 1)) (pv 1)) (pv 1))))
   (ag (am (i:=4) sc__law_norm.nd rfl (Or.inl rfl) (af aT (pv 4) (af aH (af aH (af aH (af aH (pv 3) (pv 3)) (pv 2)) (pv 2)) (pv 2))))
   (ak (aG (af aZ (pv 4) (af aH (af aH (af aH (af aH ac (pv 3)) (pv 0)) (pv 1)) (pv 2))))))),?_⟩
  refine ax ⟨_,rfl,_,rfl,_,_,rfl,rfl,⟨M ba (by decide),M ba (by decide)⟩,_,rfl,_,_,rfl,rfl,⟨M q1 (by decide),M ba (by decide)⟩,_,rfl,_,rfl,_,_,rfl,rfl,⟨M bm (by decide),M bb (by decide)⟩,_,rfl,_,_,rfl,rfl,⟨M q2 (by decide),M bb (by decide)⟩,_,rfl,_,_,rfl,rfl,⟨M q3 (by decide),M bb (by decide)⟩,_,_,rfl,rfl,?_⟩;refine ax ⟨_,rfl,_,rfl,_,rfl,_,_,rfl,rfl,⟨M bm (by decide),M bm (by decide)⟩,_,rfl,_,_,rfl,rfl,⟨M q4 (by decide),M bc (by decide)⟩,_,rfl,_,_,rfl,rfl,⟨M q5 (by decide),M bc (by decide)⟩,_,rfl,_,_,rfl,rfl,⟨M q6 (by decide),M bc (by decide)⟩,_,_,rfl,rfl,?_⟩;exact bJ ⟨_,rfl,_,rfl,_,_,rfl,rfl,⟨M b3 (by decide),M bm (by decide)⟩,_,rfl,_,_,rfl,rfl,⟨M q7 (by decide),M ba (by decide)⟩,_,rfl,_,_,rfl,rfl,⟨M q8 (by decide),M bb (by decide)⟩,_,rfl,_,_,rfl,rfl,⟨M q9 (by decide),M bc (by decide)⟩,_,_,rfl,rfl,k⟩
theorem aS{x:Int}(h:x.natAbs<1024){k:Nat}(hk:10<=k):Bits k x:=Bits.mono (j:=10) h hk
def CT(H:Hp)(p:Addr)(a b c m:Int):Prop:=H p=some (.tup [.int a,.int b,.int c,.int m,.int 0])
def qw:Sp:=λvs H Q _=>∃(p:Addr) (a b c m:Int),vs=[.ref p]/\CT H p a b c m/\((CubOk a b c m/\mkL H Q (aK m a b c))\/(b=0/\c=0/\mkL H Q [-a,1]))
theorem zZ(F:Fun K "_law_cube_shape" "_law_cube_shape" lG f fd)(T:Txt K mg)(oX:Cal P w K mg base 1 "_law_norm" ["_law_a","_law_b","_law_c","_law_m"] kx Dd CV):FnOk P w K mg base CX0 2 f fd ["_law_cube"] qw:=by
 obtain⟨oP,mQ,m8,oB⟩:=oX;refine F.ok sc__law_cube_shape (λvs H Q E h=>?_) (λcdv A outer s H vs Q E hr h=>?_)
 ·obtain⟨p,a,b,c,m,rfl,_⟩:=h;rfl
 ·obtain⟨p,a,b,c,m,rfl,hp,hk⟩:=h
  refine⟨_,(ag (am (i:=1) sc__law_cube_shape.nd rfl (Or.inl rfl) (ai (ay (K:=K) rfl) (pv 0) ac (λ_ _=>rfl)))
   (ag (am (i:=2) sc__law_cube_shape.nd rfl (Or.inl rfl) (ai (ay (K:=K) rfl) (pv 0) ac (λ_ _=>rfl)))
   (ag (am (i:=3) sc__law_cube_shape.nd rfl (Or.inl rfl) (ai (ay (K:=K) rfl) (pv 0) ac (λ_ _=>rfl)))
   (ag (am (i:=4) sc__law_cube_shape.nd rfl (Or.inl rfl) (ai (ay (K:=K) rfl) (pv 0) ac (λ_ _=>rfl)))
   (ag (aW (PW.pt (cF (aD bh (pv 2) ac (av _)) (cU (aD bh (pv 3) ac (av _)))))
     (ak (aG (bH (aa (af aZ ac (pv 1)) (aa ac ad)))))
     aV)
   (ak (aG (bH (aa (af aZ ac (au oP (hr.mono) rfl mQ m8 oB .nil ar (aa (pv 1) (aa (pv 2) (aa (pv 3) (aa (pv 4) ad)))))) (aa (af aZ (af aH (af aH ac (pv 1)) (pv 1)) (af aH (af aH (af aH ac (pv 4)) (pv 2)) (pv 3))) (aa (af aH (cV cR ac) (pv 1)) (aa ac ad)))))))))))),?_⟩
  refine ax ⟨_,rfl,p,_,_,_,rfl,rfl,SqT.of hp,rfl,?_⟩;refine ax ⟨_,rfl,p,_,_,_,rfl,rfl,SqT.of hp,rfl,?_⟩;refine ax ⟨_,rfl,p,_,_,_,rfl,rfl,SqT.of hp,rfl,?_⟩;refine ax ⟨_,rfl,p,_,_,_,rfl,rfl,SqT.of hp,rfl,?_⟩;show bz _ _ _ _ _;refine lY (λσ' H'=>σ'=[some (.ref p),some (.int a),some (.int b),some (.int c),some (.int m)]/\H=H') ⟨rfl,rfl⟩ ?_;rintro σ' H' ⟨rfl,rfl⟩;rcases hk with⟨hC,k⟩ |⟨rfl,rfl,k⟩
  rotate_left
  ·refine bU (cg ⟨_,rfl,_,_,rfl,rfl,_,rfl,aC (λ_=>?_) (λz=>absurd rfl z)⟩);refine⟨_,rfl,_,_,rfl,rfl,_,rfl,aC (λ_=>?_) (λz=>absurd rfl z)⟩;refine bJ ⟨_,rfl,_,_,rfl,rfl,by show 2<=sizeLine;decide,λq hq=>?_⟩;refine k q _ (Same.upd_new hq) hq ?_;rw[aj,<- Jo];rfl
  have ba:∀{k:Nat},10<=k->Bits k a:=λh=>aS (by have:=hC.a9;omega) h
  have bb:∀{k:Nat},10<=k->Bits k b:=λh=>aS (by have:=hC.b3;omega) h
  have bc:∀{k:Nat},10<=k->Bits k c:=λh=>aS (by have:=hC.c3;omega) h
  have bm:∀{k:Nat},10<=k->Bits k m:=λh=>aS (by have:=hC.m2;have:=hC.m7;omega) h
  refine cL (λσ' H'=>σ'=[some (.ref p),some (.int a),some (.int b),some (.int c),some (.int m)]/\H=H') ?_ ?_
  case refine_2 =>intro rest;refine cg ⟨_,rfl,_,_,rfl,rfl,_,rfl,aC (λh1=>?_) (λ_=>bV (rest _ _ ⟨rfl,rfl⟩))⟩;exact⟨_,rfl,_,_,rfl,rfl,_,rfl,aC (λh2=>absurd ⟨h1,h2⟩ hC.bc) (λ_=>rest _ _ ⟨rfl,rfl⟩)⟩
  rintro σ' H' ⟨rfl,rfl⟩;have b3:∀{k:Nat},10<=k->Bits k (3:Int):=λh=>aS (by decide) h
  refine bJ ⟨_,rfl,_,rfl,_,rfl,_,rfl,a,b,c,m,rfl,ba (by decide),bb (by decide),bc (by decide),bm (by decide),_,_,rfl,rfl,?_⟩;refine⟨_,rfl,_,_,rfl,rfl,⟨b3 (by decide),ba (by decide)⟩,_,rfl,_,_,rfl,rfl,⟨Bits.mono (Bits.mul (b3 (k:=10) (by decide)) (ba (k:=10) (by decide))) (by decide),ba (by decide)⟩,_,rfl,_,_,rfl,rfl,⟨b3 (by decide),bm (by decide)⟩,_,rfl,_,_,rfl,rfl,⟨Bits.mono (Bits.mul (b3 (k:=10) (by decide)) (bm (k:=10) (by decide))) (by decide),bb (by decide)⟩,_,rfl,_,_,rfl,rfl,⟨Bits.mono (Bits.mul (Bits.mul (b3 (k:=10) (by decide)) (bm (k:=10) (by decide))) (bb (k:=10) (by decide))) (by decide),bc (by decide)⟩,_,_,rfl,rfl,?_⟩;refine⟨_,rfl,_,rfl,_,_,rfl,rfl,⟨aS (by decide) (by decide),ba (by decide)⟩,by show 4<=sizeLine;decide,λq hq=>?_⟩;refine k q _ (Same.upd_new hq) hq ?_;rw[aj];have e1:0-nrm m a b c = -nrm m a b c:=Jo _;have e2:3*a*a-3*m*b*c=3*(a*a)-3*m*(b*c):=by grind
  show some (HO.lst [V.int (0-nrm m a b c),V.int (3*a*a-3*m*b*c),V.int (-3*a),V.int 1])=_;rw[e1,e2];rfl
def qB:Sp:=λvs H Q _=>∃x y mm:Int,vs=[.int x,.int y,.int mm]/\∀(p:Addr) (a b c:Int) (H':Hp),Same H H'->H p=none->CT H' p a b c (2+mm%6)->CubOk a b c (2+mm%6)->Q (.ref p) H'
theorem Aa(F:Fun K "_law_cube_by" "_law_cube_by" lH f fd)(T:Txt K mg)(oU:Cal P w K mg base 1 "_law_within" ["_law_cell","_law_most"] kr Da CQ):FnOk P w K mg base CX0 2 f fd ["_law_cell","_law_other","_law_m"] qB:=by
 obtain⟨iV,iC,iG,iS⟩:=oU;refine F.ok sc__law_cube_by (λvs H Q E h=>?_) (λcdv A outer s H vs Q E hr h=>?_)
 ·obtain⟨x,y,mm,rfl,_⟩:=h;rfl
 ·obtain⟨x,y,mm,rfl,k⟩:=h;obtain⟨x1,x2⟩:=bN (x:=x) (m:=19) (by decide);obtain⟨y1,y2⟩:=bN (x:=y) (m:=7) (by decide);obtain⟨z1,z2⟩:=bN (x:=y/7) (m:=7) (by decide);obtain⟨m1,m2⟩:=bN (x:=mm) (m:=6) (by decide)
  refine⟨_,(ag (am (i:=3) sc__law_cube_by.nd rfl (Or.inl rfl) (au iV (hr.mono) rfl iC iG iS .nil ar (aa (pv 0) (aa ac ad))))
   (ag (am (i:=4) sc__law_cube_by.nd rfl (Or.inl rfl) (au iV (hr.mono) rfl iC iG iS .nil ar (aa (pv 1) (aa ac ad))))
   (ag (am (i:=5) sc__law_cube_by.nd rfl (Or.inl rfl) (au iV (hr.mono) rfl iC iG iS .nil ar (aa (af b7 (pv 1) ac) (aa ac ad))))
   (ag (aW (PW.pt (cF (aD bh (pv 4) ac (av _)) (cU (aD bh (pv 5) ac (av _)))))
     (ak (am (i:=4) sc__law_cube_by.nd rfl (Or.inl rfl) ac))
     aV)
   (ak (aG (bS (aa (pv 3) (aa (pv 4) (aa (pv 5) (aa (ai (aM (K:=K) rfl) (bH (aa ac (aa ac (aa ac (aa ac (aa ac (aa ac ad))))))) (af aY (pv 2) ac) (λ_ _=>rfl)) (aa ac ad)))))))))))),?_⟩
  refine ax ⟨_,rfl,x,9,rfl,by decide,aS (by decide) (by decide),?_⟩;refine ax ⟨_,rfl,y,3,rfl,by decide,aS (by decide) (by decide),?_⟩;refine ax ⟨_,rfl,_,_,rfl,rfl,⟨by show(0:Int)<7;decide,aS (by decide) (by decide)⟩,y/7,3,rfl,by decide,aS (by decide) (by decide),?_⟩;show bz _ _ _ _ _;refine lY (λσ' H'=>σ'=[some (.int x),some (.int y),some (.int mm),some (.int (x%19-9)),some (.int (y%7-3)),some (.int (y/7%7-3))]/\H=H') ⟨rfl,rfl⟩ ?_;rintro σ' H' ⟨rfl,rfl⟩;refine cL (λσ' H'=>∃b:Int,σ'=[some (.int x),some (.int y),some (.int mm),some (.int (x%19-9)),some (.int b),some (.int (y/7%7-3))]/\H=H' /\ -3<=b/\b<=3/\¬(b=0/\y/7%7-3=0)) ?_ ?_
  case refine_2 =>intro rest;refine cg ⟨_,rfl,_,_,rfl,rfl,_,rfl,aC (λh1=>?_) (λh1=>bV (rest _ _ ⟨_,rfl,rfl,by omega,by omega,λz=>h1 z.1⟩))⟩;refine⟨_,rfl,_,_,rfl,rfl,_,rfl,aC (λh2=>?_) (λh2=>rest _ _ ⟨_,rfl,rfl,by omega,by omega,λz=>h2 z.2⟩)⟩;exact rest _ _ ⟨1,rfl,rfl,by decide,by decide,λz=>absurd z.1 (by decide)⟩
  rintro σ' H' ⟨b,rfl,rfl,b1,b2,hbc⟩
  have hat:atI [V.int 2,V.int 3,V.int 4,V.int 5,V.int 6,V.int 7] (mm%6)=some (V.int (2+mm%6)):=by
   have:mm%6=0\/mm%6=1\/mm%6=2\/mm%6=3\/mm%6=4\/mm%6=5:=by omega
   rcases this with e |e |e |e |e |e<;>rw[e]<;>rfl
  refine bJ ⟨_,rfl,_,rfl,_,rfl,by show 6<=sizeLine;decide,λq hq=>?_⟩;refine⟨_,rfl,_,_,rfl,rfl,(by show(0:Int)<6;decide),q,_,_,_,rfl,rfl,SqL.of aj,hat,by show 5<=sizeLine;decide,λp hp=>?_⟩;have s1:Same H (upd H q (.lst [V.int 2,V.int 3,V.int 4,V.int 5,V.int 6,V.int 7])):=Same.upd_new hq;exact k p _ b _ _ (s1.then_new hp) (s1.free hp) aj ⟨by omega,⟨b1,b2⟩,by omega,by omega,by omega,hbc⟩
structure CubB(a b c m:Int):Prop where
 a9 : -9<=a/\a<=9
 b3 : -3<=b/\b<=3
 c3 : -3<=c/\c<=3
 m2:2<=m
 m7:m<=7
theorem wT{l:List Int}(h:SpK l):(∃a b c m:Int,l=[a,b,c,m,0]/\CubB a b c m)\/SpB l:=by
 rcases h with⟨a,b,c,m,rfl,hC⟩ |⟨a,rfl,h1,h2⟩ |⟨u,e,b,s,rfl,h1,h2,he,he',hb,hb',_⟩
 ·exact .inl ⟨a,b,c,m,rfl,hC.a9,hC.b3,hC.c3,hC.m2,hC.m7⟩
 ·exact .inl ⟨a,0,0,2,rfl,⟨h1,h2⟩,by decide,by decide,by decide,by decide⟩
 ·exact .inr ⟨u,e,b,s,rfl,by omega,by omega,he,he',hb,hb'⟩
def pZ:Sp:=λvs H Q _=>∃(p:Addr) (l:List Int) (t n:Int),vs=[.ref p,.int t,.int n]/\H p=some (.tup (l.map V.int))/\SpK l/\Bits 900 t/\Bits 900 n/\Q (.int (aU l t n)) H
theorem zD(F:Fun K "_law_way" "_law_way" kZ f fd)(T:Txt K mg)(oX:Cal P w K mg base 1 "_law_norm" ["_law_a","_law_b","_law_c","_law_m"] kx Dd CV)(Fy:Cal P w K mg base 2 "_law_side" ["_law_spot","_law_top","_law_bottom"] qe G4 Gp):FnOk P w K mg base CX0 3 f fd ["_law_spot","_law_top","_law_bottom"] pZ:=by
 obtain⟨oP,mQ,m8,oB⟩:=oX;obtain⟨EX,A2,BT,Ed⟩:=Fy;refine F.ok sc__law_way (λvs H Q E h=>?_) (λcdv A outer s H vs Q E hr h=>?_)
 ·obtain⟨p,l,t,n,rfl,_⟩:=h;rfl
 ·obtain⟨p,l,t,n,rfl,hp,hl,bt,bn,k⟩:=h
  refine⟨_,(ag (aW (aD bh (aI (aX (K:=K) rfl) (by rfl) T.len_ PySem.boot_len (aa (pv 0) ad)) ac (av _))
   (ag (am (i:=3) sc__law_way.nd rfl (Or.inl rfl) (af aZ (af aH (ai (ay (K:=K) rfl) (pv 0) ac (λ_ _=>rfl)) (pv 2)) (pv 1)))
     (ag (am (i:=4) sc__law_way.nd rfl (Or.inl rfl) (af aH (ai (ay (K:=K) rfl) (pv 0) ac (λ_ _=>rfl)) (pv 2)))
     (ak (aG (au oP (hr.mono) rfl mQ m8 oB .nil ar (aa (pv 3) (aa (pv 4) (aa (af aH (ai (ay (K:=K) rfl) (pv 0) ac (λ_ _=>rfl)) (pv 2)) (aa (ai (ay (K:=K) rfl) (pv 0) ac (λ_ _=>rfl)) ad)))))))))
   aV)
   (ak (aG (au EX (hr.mono) rfl A2 BT Ed .nil ar (aa (pv 0) (aa (pv 1) (aa (pv 2) ad))))))),?_⟩
  rcases wT hl with⟨a,b,c,m,rfl,hC⟩ |hB
  ·have ba:Bits 10 a:=aS (by have:=hC.a9;omega) (by decide);have bb:Bits 10 b:=aS (by have:=hC.b3;omega) (by decide);have bc:Bits 10 c:=aS (by have:=hC.c3;omega) (by decide);have bm:Bits 10 m:=aS (by have:=hC.m2;have:=hC.m7;omega) (by decide);refine bU ⟨_,rfl,p,_,rfl,.inr (SqT.of hp),_,_,rfl,rfl,_,rfl,aC (λ_=>?_) (λz=>absurd rfl z)⟩;refine ax ⟨_,rfl,p,_,_,_,rfl,rfl,SqT.of hp,rfl,_,rfl,_,_,rfl,rfl,⟨ba.mono,bn.mono⟩,_,rfl,_,_,rfl,rfl,?_⟩;refine ax ⟨_,rfl,p,_,_,_,rfl,rfl,SqT.of hp,rfl,_,rfl,_,_,rfl,rfl,⟨bb.mono,bn.mono⟩,?_⟩;refine bJ ⟨_,rfl,_,rfl,_,rfl,p,_,_,_,rfl,rfl,SqT.of hp,rfl,_,rfl,_,_,rfl,rfl,⟨bc.mono,bn.mono⟩,_,rfl,p,_,_,_,rfl,rfl,SqT.of hp,rfl,_,_,_,_,rfl,?_,?_,?_,bm,k⟩
   ·exact(((ba.mul bn).mono (k:=910) (by decide)).sub (bt.mono)).mono
   ·exact(bb.mul bn).mono
   ·exact(bc.mul bn).mono
  ·obtain⟨u,e,b,s,rfl,_⟩:=id hB;refine bU ⟨_,rfl,p,_,rfl,.inr (SqT.of hp),_,_,rfl,rfl,_,rfl,aC (λz=>absurd z (by show ¬((4:Nat):Int)=5;decide)) (λ_=>?_)⟩;exact bJ ⟨_,rfl,_,rfl,_,rfl,p,_,t,n,rfl,hp,hB,bt.mono,bn.mono,k⟩
structure RwS(xs:List Int):Prop where
 tr:Tr xs
 ne:xs≠[]
 b:AllB 91260 xs
 l:xs.length<=7
theorem wW{Qd ys:List Int}{k:Nat}:sm Qd ys (k+(ys.length-1)) k=0:=gv λi hi=>by unfold tm;rw[if_pos (by omega),aR (l:=ys) (by omega),HL]
theorem nL{xs ys:List Int}(hx:RwS xs)(hy:RwS ys):br xs ys<=7/\AllB 730087 (aQ xs ys)/\AllB 730087 (ao xs ys)/\Bits 638821 (aO xs ys):=by
 have n7:br xs ys<=7:=by unfold br;have:=hx.l;have:=Hw.mpr hy.ne;omega
 obtain⟨d1,d2⟩:=nM hx.b hy.b (br xs ys);have mm:91260+br xs ys*(91260+1)<=730087:=by have:=IG (91260+1) n7;omega
 refine⟨n7,AllB.mono d1 mm,(AllB.trim d2).mono mm,?_⟩;have:=gf (g9 (hy.b.cf (ys.length-1))) (br xs ys);refine Bits.mono this ?_;have:=Jh 91260 n7;omega
def AG(H:Hp)(Q:VK)(xs ys:List Int):Prop:=∀(t q r:Addr) (H':Hp),Same H H'->H t=none->H q=none->H r=none->H' t=some (.tup [.int (aO xs ys),.ref q,.ref r])->H' q=some (.lst ((aQ xs ys).map V.int))->H' r=some (.lst ((ao xs ys).map V.int))->Q (.ref t) H'
def qt:Sp:=λvs H Q _=>∃(a b:Addr) (xs ys:List Int),vs=[.ref a,.ref b]/\H a=some (.lst (xs.map V.int))/\H b=some (.lst (ys.map V.int))/\RwS xs/\RwS ys/\ys.length<=xs.length/\AG H Q xs ys
theorem zX(F:Fun K "_law_divided" "_law_divided" ju f fd)(T:Txt K mg)(hNS:base.NoSeer)(hTr:P.given.tree=none)(dY:Cal P w K mg base 1 "_law_trim" ["_law_row"] (eX K) iK iJ):FnOk P w K mg base CX0 33 f fd ["_law_kp","_law_kq"] qt:=by
 obtain⟨dj,db,dd,dh⟩:=dY;refine F.ok sc__law_divided (λvs H Q E h=>?_) (λcdv A outer s H vs Q E hr h=>?_)
 ·obtain⟨a,b,xs,ys,rfl,_⟩:=h;rfl
 ·obtain⟨a,b,xs,ys,rfl,hA,hB,rx,ry,hle,k⟩:=h;have hdp:(A.deeper (PyProof.Rows.envOfC (Str.ofString "_law_divided") (aA ju) s.heap.objs.size f cdv)).depth+100<recursionLimit:=by have:=hr.dp;omega
  have big:=sizeLine_eq;have hy:=ry.ne;have hyl:=Hw.mpr hy;have hxl:=rx.l;obtain⟨n7,bQ,bR,bF⟩:=nL rx ry;have hlast:=Ev hy;have l1:(xs.map V.int).length=xs.length:=Hs _;have l2:(ys.map V.int).length=ys.length:=Hs _;have hdn:((xs.map V.int).length:Int)-((ys.map V.int).length:Int)+1=(br xs ys:Int):=by unfold br;omega
  have eM:br xs ys=xs.length-ys.length+1:=by unfold br;omega
  have lQ:=iN (a:=xs) hy;have lR:(ao xs ys).length<ys.length:=fv hy;have eqn:=λn=>fw (a:=xs) hy n
  have ef:((cf ys (ys.length-1)).natAbs:Int)^br xs ys=aO xs ys:=rfl;have hlc:cf ys (ys.length-1)≠0:=ry.tr (ys.length-1) (by omega);generalize hM:br xs ys=M at n7 hdn eM lQ ef
  refine⟨_,(ag (am (i:=2) sc__law_divided.nd rfl (Or.inr rfl) ac)
   (ag (bW PassesOwn.never rfl (dr rfl T.range_ (aa (af aT (af aZ (aI (aX (K:=K) rfl) (by rfl) T.len_ PySem.boot_len (aa (pv 0) ad)) (aI (aX (K:=K) rfl) (by rfl) T.len_ PySem.boot_len (aa (pv 1) ad))) ac) ad)) (aL (i:=3) sc__law_divided.nd rfl (Or.inl rfl))
     (ak (am (i:=2) sc__law_divided.nd rfl (Or.inr rfl) (af aH (pv 2) (aI g7 (by rfl) T.abs_ PyProof.Rows.boot_abs (aa (ai (aM (K:=K) rfl) (pv 1) (cV cR ac) (λ_ _=>rfl)) ad))))))
   (ag (mj (i:=4) sc__law_divided.nd rfl (Or.inl rfl) (own:=["_law_one"]) (fr:=["_law_factor"]) (js:=[2]) (by walk_at "comp_ok") rfl (ci (K:=K) rfl (pv 0)) (λ_ _ _ _=>(aL (i:=0) (show List.Nodup (["_law_one","_law_factor"]:List Str)from by decide +kernel) rfl (Or.inl rfl))) (λ_ _ _ _=>(af aH (pv 1) (pv 0))) (by rfl))
   (ag (mj (i:=5) sc__law_divided.nd rfl (Or.inl rfl) (own:=["_law_k"]) (fr:=[]) (js:=[]) (by walk_at "comp_ok") rfl (dr rfl T.range_ (aa (af aT (af aZ (aI (aX (K:=K) rfl) (by rfl) T.len_ PySem.boot_len (aa (pv 0) ad)) (aI (aX (K:=K) rfl) (by rfl) T.len_ PySem.boot_len (aa (pv 1) ad))) ac) ad)) (λ_ _ _ _=>(aL (i:=0) (show List.Nodup (["_law_k"]:List Str)from by decide +kernel) rfl (Or.inl rfl))) (λ_ _ _ _=>ac) (by rfl))
   (ag (bW PassesOwn.never rfl (yO rfl T.reversed_ rfl T.range_ (aa (aI (aX (K:=K) rfl) (by rfl) T.len_ PySem.boot_len (aa (pv 5) ad)) ad)) (aL (i:=3) sc__law_divided.nd rfl (Or.inl rfl))
     (ag (c8 (af (zb hNS hTr hdp rfl rfl rfl rfl rfl) (ai (aM (K:=K) rfl) (pv 4) (af aZ (af aT (pv 3) (aI (aX (K:=K) rfl) (by rfl) T.len_ PySem.boot_len (aa (pv 1) ad))) ac) (λ_ _=>rfl)) (ai (aM (K:=K) rfl) (pv 1) (cV cR ac) (λ_ _=>rfl))) (du (pv 5) (pv 3) dm))
       (ak (bW PassesOwn.never rfl (fb rfl T.enumerate_ (aa (pv 1) ad)) (fC rfl (cj (aL (i:=6) sc__law_divided.nd rfl (Or.inl rfl)) (cj (aL (i:=7) sc__law_divided.nd rfl (Or.inl rfl)) eC)))
         (ak (c8 (af aZ (ai (aM (K:=K) rfl) (pv 4) (af aT (pv 3) (pv 6)) (λ_ _=>rfl)) (af aH (ai (aM (K:=K) rfl) (pv 5) (pv 3) (λ_ _=>rfl)) (pv 7))) (du (pv 4) (af aT (pv 3) (pv 6)) dm)))))))
   (ak (aG (bS (aa (pv 2) (aa (au dj (hr.mono) rfl db dd dh .nil ar (aa (pv 5) ad)) (aa (au dj (hr.mono) rfl db dd dh .nil ar (aa (pv 4) ad)) ad))))))))))),?_⟩
  refine ax ?_;refine⟨_,rfl,a,_,rfl,.inl (SqL.of hA),_,rfl,b,_,rfl,.inl (SqL.of hB),_,_,rfl,rfl,_,_,rfl,rfl,(M:Int),congrArg (λz:Int=>[V.int z]) hdn,by omega,by omega,ga (lo:=0) (n:=M) (λi σ' H'=>∃z3:Option V,σ'=[some (.ref a),some (.ref b),some (.int (((cf ys (ys.length-1)).natAbs:Int)^i)),z3,none,none,none,none]/\H=H') ⟨none,rfl,rfl⟩ ?_ ?_⟩
  ·rintro i σ' H' hi ⟨z3,rfl,rfl⟩;have bp:=gf (g9 (ry.b.cf (ys.length-1))) i;have mi:91260*i+1<=1000000:=by have:=Jh 91260 (show i<=7 by omega);omega
   refine dq ⟨_,rfl,_,rfl,_,rfl,b,_,_,_,rfl,rfl,SqL.of hB,hlast,_,rfl,_,_,rfl,rfl,⟨bp.mono mi,?_⟩,?_⟩
   ·rw[eT];exact(g9 (ry.b.cf (ys.length-1))).mono
   ·refine⟨some (.int (0+(i:Int))),?_,rfl⟩;rw[Iy,<- eT];rfl
  rintro σ' H' ⟨z3,rfl,rfl⟩;rw[ef];refine⟨_,rfl,a,rfl,⟨_,SqL.of hA⟩,dW (K:=K) (a:=a) (xs:=xs.map V.int) (λj ms σ' H'=>∃z0:Option V,σ'=[z0,some (.int (aO xs ys))]/\ms=(scL (aO xs ys) (xs.take j)).map V.int/\H=H') (by rw[Hs];omega) ⟨none,rfl,rfl,rfl⟩ ?_ ?_ ?_⟩
  ·rintro j ms σ' H' _ ⟨z0,rfl,rfl,rfl⟩;exact⟨SqL.of hA,by rw[Hs,cn,HZ];exact JF _ _⟩
  ·rintro j v ms σ' H' hj ⟨z0,rfl,rfl,rfl⟩;obtain⟨c,_,rfl,hmc,et⟩:=dR hj;refine⟨_,rfl,_,rfl,_,_,rfl,rfl,⟨bF.mono,(rx.b c hmc).mono⟩,_,rfl,?_,rfl⟩;rw[et];unfold scL;rw[Hu,Hu];rfl
  rintro ms σ' H' pr ⟨z0,rfl,rfl,rfl⟩ hpr;rw[Hs,HY];have s1:=Same.upd_new (o:=.lst ((scL (aO xs ys) xs).map V.int)) hpr;have e1:upd H pr (.lst ((scL (aO xs ys) xs).map V.int)) pr=some (.lst ((scL (aO xs ys) xs).map V.int)):=aj;generalize upd H pr (.lst ((scL (aO xs ys) xs).map V.int))=H1 at s1 e1 ⊢
  refine lW ?_;refine⟨_,rfl,a,_,rfl,.inl (SqL.of (s1 _ _ hA)),_,rfl,b,_,rfl,.inl (SqL.of (s1 _ _ hB)),_,_,rfl,rfl,_,_,rfl,rfl,(M:Int),congrArg (λz:Int=>[V.int z]) hdn,by omega,by omega,gY (lo:=0) (n:=M) (λi ys' σ' H'=>∃z0:Option V,σ'=[z0]/\ys'=(List.replicate i (0:Int)).map V.int/\H1=H') (by omega) ⟨none,rfl,rfl,rfl⟩ ?_ ?_ ?_⟩
  ·rintro i ys' σ' H' hi ⟨z0,rfl,rfl,rfl⟩;simp
  ·rintro i ys' σ' H' hi ⟨z0,rfl,rfl,rfl⟩;refine⟨_,rfl,?_,rfl⟩;rw[List.replicate_succ',Hu];rfl
  rintro ys' σ' H' pq ⟨z0,rfl,rfl,rfl⟩ hpq;have s2:=Same.upd_new (o:=.lst ((List.replicate M (0:Int)).map V.int)) hpq;have e2:upd H1 pq (.lst ((List.replicate M (0:Int)).map V.int)) pq=some (.lst ((List.replicate M (0:Int)).map V.int)):=aj;have nrq:pr≠pq:=aE e1 hpq;have fq:H pq=none:=s1.free hpq;have e12:=s2 _ _ e1;generalize upd H1 pq (.lst ((List.replicate M (0:Int)).map V.int))=H2 at s2 e2 e12 ⊢
  refine lW ?_;have nbr:b≠pr:=λz=>by rw[z]at hB;rw[hB]at hpr;cases hpr
  have nbq:b≠pq:=λz=>by rw[z]at hB;rw[hB]at fq;cases fq
  refine⟨_,rfl,pq,_,rfl,.inl (SqL.of e2),_,rfl,by rw[Hs,IK];omega,by rw[Hs,IK];omega,?_⟩;rw[Hs,IK,Int.toNat_natCast]
  refine CM (λi σ' H'=>∃(L G:List Int) (z3 z6 z7:Option V),σ'=[some (.ref a),some (.ref b),some (.int (aO xs ys)),z3,some (.ref pr),some (.ref pq),z6,z7]/\Same H H'/\H' pr=some (.lst (L.map V.int))/\H' pq=some (.lst (G.map V.int))/\L.length=xs.length/\G.length=M/\(∀n,cf L n=sm (aQ xs ys) ys n (M-i)+cf (ao xs ys) n)/\(∀n,M<=n+i->cf G n=cf (aQ xs ys) n))
   ⟨scL (aO xs ys) xs,List.replicate M 0,_,_,_,rfl,s1.trans s2,e12,e2,cn _ _,IK,λn=>by rw[bG,eqn n,Jb,<- lQ];rfl,λn hn=>by rw[aR (l:=aQ xs ys) (by omega),aR (by rw[IK];omega)]⟩ ?_ ?_
  ·rintro i σ' H3 hi ⟨L,G,z3,z6,z7,rfl,s3,hl,hg,hLl,hGl,hLc,hGc⟩;have hB3:=s3 _ _ hB;have ek:((M:Int)-1)+(i:Int) * -1=((M-1-i:Nat):Int):=by omega
   dsimp only
   rw[ek];obtain⟨kk,hk⟩:∃kk,M-1-i=kk:=⟨_,rfl⟩;rw[hk];have hkG:kk<G.length:=by omega
   have hkL:kk+ys.length-1<L.length:=by omega
   have ekl:(kk:Int)+((ys.map V.int).length:Int)-1=((kk+ys.length-1:Nat):Int):=by rw[Hs];omega
   have eMi:M-i=kk+1:=by omega
   obtain⟨tp,etp⟩:∃tp,cf (aQ xs ys) kk=tp:=⟨_,rfl⟩;have btp:Bits 730087 tp:=by rw[<- etp];exact bQ.cf kk
   have etop:Int.fdiv (cf L (kk+ys.length-1)) (cf ys (ys.length-1))=tp:=by
    have en:kk+ys.length-1=kk+(ys.length-1):=by omega
    have e5:cf (ao xs ys) (kk+(ys.length-1))=0:=aR (by omega);have e6:sm (aQ xs ys) ys (kk+(ys.length-1)) (kk+1)=sm (aQ xs ys) ys (kk+(ys.length-1)) kk+tm (aQ xs ys) ys (kk+(ys.length-1)) kk:=rfl;rw[hLc,eMi,en,e5,e6,wW,IL,Iv];unfold tm;rw[if_pos (by omega),show kk+(ys.length-1)-kk=ys.length-1 by omega,etp];exact Int.mul_fdiv_cancel _ hlc
   refine jw ⟨_,rfl,_,rfl,_,rfl,b,_,rfl,.inl (SqL.of hB3),_,_,rfl,rfl,_,_,rfl,rfl,pr,_,_,_,rfl,rfl,SqL.of hl,gh ekl hkL,_,rfl,_,rfl,b,_,_,_,rfl,rfl,SqL.of hB3,hlast,_,_,rfl,rfl,hlc,_,rfl,_,rfl,pq,_,_,kk,rfl,rfl,hg,dE rfl (by rw[Hs];exact hkG),?_⟩;refine lX (H2:=upd H3 pq (.lst ((G.set kk tp).map V.int))) ?_ ?_
   ·show upd H3 pq (.lst ((G.map V.int).set kk (.int (Int.fdiv (cf L (kk+ys.length-1)) (cf ys (ys.length-1))))))=_;rw[etop,iB]
   have e4:upd H3 pq (.lst ((G.set kk tp).map V.int)) pq=some (.lst ((G.set kk tp).map V.int)):=aj;have hl4:upd H3 pq (.lst ((G.set kk tp).map V.int)) pr=some (.lst (L.map V.int)):=by rw[upd_ne nrq];exact hl
   have hB4:upd H3 pq (.lst ((G.set kk tp).map V.int)) b=some (.lst (ys.map V.int)):=by rw[upd_ne nbq];exact hB3
   have s4:Same H (upd H3 pq (.lst ((G.set kk tp).map V.int))):=cO s3 fq;have hcG:∀n,cf (G.set kk tp) n=if n=kk then tp else cf G n:=λn=>ge hkG
   have hG2l:(G.set kk tp).length=M:=by rw[HU];exact hGl
   generalize G.set kk tp=G2 at e4 hl4 hB4 s4 hcG hG2l ⊢
   generalize upd H3 pq (.lst (G2.map V.int))=H4 at e4 hl4 hB4 s4 ⊢
   refine⟨_,rfl,b,rfl,⟨_,SqL.of hB4⟩,gR (K:=K) (a:=b) (xs:=ys.map V.int) (λj σ' H'=>∃(acc:List Int) (z6 z7:Option V),σ'=[some (.ref a),some (.ref b),some (.int (aO xs ys)),some (.int (kk:Int)),some (.ref pr),some (.ref pq),z6,z7]/\SameB pr H4 H'/\H' pr=some (.lst (acc.map V.int))/\acc.length=L.length/\∀n,n<acc.length->cf acc n=cf L n-(if kk<=n/\n-kk<j then tp*cf ys (n-kk)else 0))
    ⟨L,z6,z7,rfl,SameB.refl _ _,hl4,rfl,λn _=>by rw[if_neg (by omega)];omega⟩ ?_ ?_ ?_⟩
   ·rintro j σ' H' _ ⟨acc,z6,z7,rfl,sb,_⟩;exact SqL.of (sb _ _ nbr hB4)
   ·rintro j v σ' H' q' hj ⟨acc,z6,z7,rfl,sb,hpa,hal,hac⟩ hq
    have hjl:j<ys.length:=by apply Classical.byContradiction;intro hn;rw[List.getElem?_eq_none_iff.mpr (by rw[Hs];omega)]at hj;cases hj
    rw[List.getElem?_map,eJ hjl]at hj;obtain rfl:=Option.some.inj hj;refine⟨q',_,rfl,SqT.of aj,rfl,_,_,rfl,_,_,rfl,rfl,?_⟩;have nqp:pr≠q':=aE hpa hq;have hpa':upd H' q' (.tup [.int j,.int (cf ys j)]) pr=some (.lst (acc.map V.int)):=by rw[upd_ne nqp];exact hpa
    have hG5:H' pq=some (.lst (G2.map V.int)):=sb _ _ (Ne.symm nrq) e4;have nq3:pq≠q':=aE hG5 hq;have hG6:upd H' q' (.tup [.int j,.int (cf ys j)]) pq=some (.lst (G2.map V.int)):=by rw[upd_ne nq3];exact hG5
    have ekj:(kk:Int)+(j:Int)=((kk+j:Nat):Int):=by omega
    have hkj:kk+j<acc.length:=by omega
    have etp2:cf G2 kk=tp:=by rw[hcG,if_pos rfl]
    refine⟨_,rfl,_,rfl,_,rfl,_,_,rfl,rfl,pr,_,_,_,rfl,rfl,SqL.of hpa',gh ekj hkj,_,rfl,_,rfl,pq,_,_,_,rfl,rfl,SqL.of hG6,gh (l:=G2) (j:=kk) rfl (by omega),_,rfl,_,_,rfl,rfl,?_⟩;rw[etp2];refine⟨⟨btp.mono,(ry.b.cf j).mono⟩,_,_,rfl,rfl,_,rfl,_,rfl,_,rfl,_,_,rfl,rfl,pr,_,_,kk+j,rfl,rfl,hpa',dE ekj (by rw[Hs];exact hkj),?_⟩;refine⟨acc.set (kk+j) (cf acc (kk+j)-tp*cf ys j),_,_,rfl,(sb.then_new hq).then_upd,by rw[aj,iB],by rw[HU];exact hal,λn hn=>?_⟩;rw[HU]at hn;rw[ge hkj];by_cases z:n=kk+j
    ·rw[if_pos z,z,hac (kk+j) hkj,if_neg (by omega),if_pos (by omega)];have:kk+j-kk=j:=by omega
     rw[this];omega
    ·rw[if_neg z,hac n hn];by_cases z2:kk<=n/\n-kk<j
     ·rw[if_pos z2,if_pos (by omega)]
     ·rw[if_neg z2,if_neg (by omega)]
   ·rintro σ' H6 ⟨acc,z6,z7,rfl,sb,hpa,hal,hac⟩;rw[Hs]at hac;have s6:Same H H6:=λc o e=>sb c o (λz=>by rw[z]at e;rw[e]at hpr;cases hpr) (s4 _ _ e)
    have hG7:H6 pq=some (.lst (G2.map V.int)):=sb _ _ (Ne.symm nrq) e4
    have hcA:∀n,cf acc n=cf L n-(if kk<=n then tp*cf ys (n-kk)else 0):=λn=>by
     by_cases hn:n<acc.length
     ·rw[hac n hn];by_cases z:kk<=n
      ·rw[if_pos z];by_cases z2:n-kk<ys.length
       ·rw[if_pos ⟨z,z2⟩]
       ·rw[if_neg (by omega),aR (l:=ys) (by omega),HL]
      ·rw[if_neg z,if_neg (by omega)]
     ·rw[aR (l:=acc) (by omega),aR (l:=L) (by omega)];split
      ·rw[aR (l:=ys) (by omega),HL];rfl
      ·rfl
    refine⟨acc,G2,_,_,_,rfl,s6,hpa,hG7,by omega,hG2l,λn=>?_,λn hn=>?_⟩
    ·have e6:sm (aQ xs ys) ys n (kk+1)=sm (aQ xs ys) ys n kk+tm (aQ xs ys) ys n kk:=rfl;rw[hcA,hLc,eMi,e6,show M-(i+1)=kk by omega];unfold tm;rw[etp];omega
    ·rw[hcG];by_cases z:n=kk
     ·rw[if_pos z,z,etp]
     ·rw[if_neg z];exact hGc n (by omega)
  ·rintro σ' H3 ⟨L,G,z3,z6,z7,rfl,s3,hl,hg,hLl,hGl,hLc,hGc⟩
   have eG:trim G=aQ xs ys:=by
    refine fu (bP _) (uM hy rx.tr ry.tr) λn=>?_
    rw[dX];exact hGc n (by omega)
   have eL:trim L=ao xs ys:=by
    refine fu (bP _) (bP _) λn=>?_
    rw[dX,hLc,Nat.sub_self];show(0:Int)+_=_;rw[IL]
   refine⟨_,rfl,_,rfl,pq,G,rfl,SqL.of hg,λq H4 s4 hq e4=>?_⟩;rw[eG]at e4;refine⟨_,rfl,pr,L,rfl,SqL.of (s4 _ _ hl),λr H5 s5 hr5 e5=>?_⟩;rw[eL]at e5;refine⟨by show 3<=sizeLine;decide,λt ht=>?_⟩;have s6:=Same.upd_new (o:=.tup [.int (aO xs ys),.ref q,.ref r]) ht;exact k t q r _ (s3.trans (s4.trans (s5.trans s6))) ((s3.trans (s4.trans s5)).free ht) (s3.free hq) ((s3.trans s4).free hr5) aj ((s5.trans s6) _ _ e4) (s6 _ _ e5)
theorem Bn{a b:List Int}(ha:RwS a)(hb:RwS b):LkB (fJ a b):=by
 have n7:br a b<=7:=by unfold br;have:=ha.l;have:=Hw.mpr hb.ne;omega
 obtain⟨d1,d2⟩:=nM ha.b hb.b (br a b);have mm:91260+br a b*(91260+1)<=91260+7*91261:=by have:=IG (91260+1) n7;omega
 refine⟨?_,?_,?_,?_⟩
 ·have:=gf (g9 (hb.b.cf (b.length-1))) (br a b);refine Bits.mono this ?_;have:=Jh 91260 n7;omega
 ·show Bits 900000 ((al (ao a b):Nat):Int);have hr:AllB (91260+br a b*(91260+1)) (ao a b):=AllB.trim d2;by_cases z:ao a b=[]
  ·rw[z];exact Bits.zero
  ·have t:Tr (ao a b):=bP _;have h1:=Hw.mpr z;have h2:cf (ao a b) ((ao a b).length-1)≠0:=t _ (by omega);refine((hr.cf ((ao a b).length-1)).of_le (?_:(((al (ao a b):Nat):Int)).natAbs<=_)).mono (by omega);rw[Ii];exact Nat.le_of_dvd (IM.mpr h2) (dvd_cf.mp (IN _) _)
 ·exact AllB.mono d1 (by omega)
 ·show(aQ a b).length<=1000;rw[iN hb.ne];omega
theorem DT(l:List Int)(n k:Nat):cf (l.take n) k=if k<n then cf l k else 0:=by unfold cf;rw[List.getD_eq_getElem?_getD,List.getD_eq_getElem?_getD,List.getElem?_take];split<;>rfl
theorem wX(kps:List Int):cK ((List.range kps.length).map λ(j:Nat)=>(j:Int)*cf kps j) (some 1) none=slopeL kps:=by
 refine dU ?_ λn hn=>?_
 ·unfold cK slopeL;rw[HT.sIx_none,show(some (1:Int))=some ((1:Nat):Int)from rfl,HT.sIx_nat];simp;omega
 ·unfold cK slopeL;rw[HT.sIx_none,show(some (1:Int))=some ((1:Nat):Int)from rfl,HT.sIx_nat]
  have hn':n<kps.length-1:=by
   unfold cK at hn
   rw[HT.sIx_none,show(some (1:Int))=some ((1:Nat):Int)from rfl,HT.sIx_nat]at hn;simp at hn
   omega
  rw[fO,if_pos hn',DT,Hs,Ih];have hm:min 1 kps.length=1:=by omega
  rw[hm,if_pos (by omega)]
  have e3:cf (List.drop 1 ((List.range kps.length).map λ(j:Nat)=>(j:Int)*cf kps j)) n=cf ((List.range kps.length).map λ(j:Nat)=>(j:Int)*cf kps j) (n+1):=by unfold cf;simp[List.getD,List.getElem?_drop,Nat.add_comm]
  rw[e3,fO,if_pos (by omega)];show((n+1:Nat):Int)*_=_;rw[Int.natCast_add];rfl
structure PapQ(kp:List Int)(r:List (List Int)):Prop where
 two:2<=r.length
 few:r.length<=100
 fst:r.getD 0 []=kp
 snd:r.getD 1 []=ah (slopeL kp)
 stop:nxt (r.getD (r.length-2) []) (r.getD (r.length-1) [])=[]
 step:∀k,k+2<r.length->r.getD (k+2) []=nxt (r.getD k []) (r.getD (k+1) [])
 rws:∀xs∈r,RwS xs
 tr:Tr kp
 b:AllB 1000 kp
 l:kp.length<=7
theorem PapQ.at{kp:List Int}{r:List (List Int)}(R:PapQ kp r){k:Nat}(h:k<r.length):RwS (r.getD k []):=by refine R.rws _ ?_;rw[List.getD_eq_getElem?_getD,List.getElem?_eq_getElem h];exact Ia _
theorem PapQ.rwb{kp:List Int}{r:List (List Int)}(R:PapQ kp r):RwB r:=λxs h=>⟨by have:=(R.rws xs h).l;omega,(R.rws xs h).b.mono⟩
theorem PapQ.dec{kp:List Int}{r:List (List Int)}(R:PapQ kp r):∀k,k+1<r.length->(r.getD (k+1) []).length<=(r.getD k []).length
 |0,_=>by rw[R.fst,R.snd];unfold ah;rw[Hs,jg];omega
 |k+1,h=>by rw[R.step k h];exact IY (mx (R.at (by omega)).ne)
theorem PapQ.lnk{kp:List Int}{r:List (List Int)}(R:PapQ kp r){k:Nat}(h:k+2<r.length):LnkF (r.getD k []) (r.getD (k+1) []) :=
 Bl (R.at (by omega)).tr (R.at (by omega)).tr (R.at (by omega)).ne (by rw[<- R.step k h];exact(R.at h).ne)
theorem mT{r:List (List Int)}{k:Nat}{x:Lnk}(h:(bZ r)[k]?=some x):k+2<r.length/\x=fJ (r.getD k []) (r.getD (k+1) []):=by
 unfold bZ at h
 have hk:k<r.length-2:=by have:=(List.getElem?_eq_some_iff.mp h).1;rw[Hs,Ih]at this;exact this
 rw[List.getElem?_map,List.getElem?_range hk]at h;exact⟨by omega,(Option.some.inj h).symm⟩
theorem PapQ.lkb{kp:List Int}{r:List (List Int)}(R:PapQ kp r):∀x∈bZ r,LkB x:=λx hx=>by obtain⟨k,hk,rfl⟩:=IT hx;obtain⟨h,e⟩:=mT (List.getElem?_eq_getElem hk);rw[e];exact Bn (R.at (by omega)) (R.at (by omega))
theorem r9{kp:List Int}(hp:Pln kp)(hl:kp.length<=7)(h2:2<=kp.length)(hb:AllB 500 kp):PapQ kp (aN 9 kp (ah (slopeL kp))):=by
 have e:=rW hp;obtain⟨R1,R2,R3⟩:=x5 hp.tr (hb.mono) hl;have lS:(ah (slopeL kp)).length=kp.length-1:=by unfold ah;rw[Hs,fh]
 have hs:ah (slopeL kp)≠[]:=λz=>by rw[z]at lS;simp at lS;omega
 rw[e]at R2 R3;obtain⟨ch,f⟩:=rg 9 kp (ah (slopeL kp)) R2;obtain⟨f0,f1,f2,_⟩:=f hp.ne;obtain⟨f3,f4⟩:=f2 hs;refine⟨f4,by have:=rf 9 kp (ah (slopeL kp));omega,f0,f3,?_,ch.step,λxs hx=>?_,hp.tr,hb.mono,hl⟩
 ·have:=ch.last ((aN 9 kp (ah (slopeL kp))).length-2) (by omega);rw[show(aN 9 kp (ah (slopeL kp))).length-2+1=(aN 9 kp (ah (slopeL kp))).length-1 by omega]at this;exact this
 ·obtain⟨g1,g2,g3⟩:=R3 xs hx;exact⟨g1,ch.ne xs hx,g2,g3⟩
theorem zJ(F:Fun K "_law_shared" "_law_shared" lf f fd)(T:Txt K mg)(oZ:Cal P w K mg base 1 "_law_gcd" ["_law_a","_law_b"] sp2 Df CY):FnOk P w K mg base CX0 2 f fd ["_law_kp"] (jc K):=by
 obtain⟨oR,mS,nh,oE⟩:=oZ;refine F.ok sc__law_shared (λvs H Q E h=>?_) (λcdv A outer s H vs Q E hr h=>?_)
 ·obtain⟨a,ns,rfl,_⟩:=h;rfl
 ·obtain⟨a,ns,rfl,hS,k⟩:=h
  refine⟨_,(ag (am (i:=1) sc__law_shared.nd rfl (Or.inl rfl) ac)
   (ag (bW PassesOwn.never rfl (ci (K:=K) rfl (pv 0)) (aL (i:=2) sc__law_shared.nd rfl (Or.inl rfl))
     (ak (am (i:=1) sc__law_shared.nd rfl (Or.inl rfl) (au oR (hr.mono) rfl mS nh oE .nil ar (aa (pv 1) (aa (pv 2) ad))))))
   (ak (aG (pv 1))))),?_⟩
  refine ax ?_;refine⟨_,rfl,a,rfl,⟨_,hS⟩,fL (K:=K) (a:=a) (xs:=ns.map V.int) (λi σ' H'=>∃z:Option V,σ'=[some (.ref a),some (.int (al (ns.take i):Nat)),z]/\H=H') ⟨none,rfl,rfl⟩ (λi σ' H' _ ⟨z,_,e⟩=>by rw[<- e];exact hS) ?_ ?_⟩
  ·rintro i y σ' H' hi ⟨z,rfl,rfl⟩;obtain⟨n,e,rfl,_,et⟩:=dR hi;refine⟨_,rfl,_,rfl,_,_,rfl,?_⟩;refine⟨some (.int n),?_,rfl⟩;rw[et,nu,Ii];rfl
  ·rintro σ' H' ⟨z,rfl,rfl⟩;refine⟨_,rfl,?_⟩;rw[Hs,HY];exact k
theorem su{one other:List Int}(ho:other≠[])(hR:ao one other≠[]):(ao one other).map (λv=>0-v/(al (ao one other):Int))=nxt one other:=by
 have tR:Tr (ao one other):=bP _;have g:=iI tR hR;have er:rst one other=ao one other:=by unfold rst;rw[if_neg ho]
 have ex:nxt one other=ah (bj [] (ao one other)):=by unfold nxt;rw[er]
 have ts:Tr (bj [] (ao one other)):=by unfold bj;exact bP _
 have ns:bj [] (ao one other)≠[]:=λz=>by have h1:=Hw.mpr hR;have h2:=tR ((ao one other).length-1) (by omega);have h3:=oh (ao one other) ((ao one other).length-1);rw[z,show cf [] ((ao one other).length-1)=0 from aR (Hy _)]at h3;omega
 obtain⟨_,t2,_,e2⟩:=eZ ts ns;rw[uo]at e2;rw[ex]
 have key:∀k,(al (ao one other):Int)*cf ((ao one other).map (λv=>0-v/(al (ao one other):Int))) k = -cf (ao one other) k:=λk=>by
  by_cases hk:k<(ao one other).length
  ·rw[ce (by rw[Hs];exact hk),List.getElem_map,ce hk];have d:(al (ao one other):Int)∣(ao one other)[k]:=f9 (Ia hk);have:=JK d;rw[Jo,Int.mul_neg,this]
  ·rw[aR (by rw[Hs];omega),aR (l:=ao one other) (by omega),HL];rfl
 have eq:∀k,cf ((ao one other).map (λv=>0-v/(al (ao one other):Int))) k=cf (ah (bj [] (ao one other))) k:=λk=>by have h1:=key k;have h2:=e2 k;rw[oh]at h2;rw[h2]at h1;exact Jv (by omega) h1
 refine fu (λn hn=>?_) t2 eq;rw[Hs]at hn;have h2:=tR n hn;have h3:=key n;intro z;rw[z,HL]at h3;omega
def LkX(H:Hp)(l lk:Addr)(ps:List Addr)(xs:List Lnk):Prop:=ps.length=xs.length/\∀(i:Nat) (p:Addr) (x:Lnk),ps[i]?=some p->xs[i]?=some x->∃qa,H p=some (.tup [.int x.1,.ref qa,.int x.2.2])/\H qa=some (.lst (x.2.1.map V.int))/\qa≠l/\qa≠lk
theorem LkX.toH{H:Hp}{l lk:Addr}{ps:List Addr}{xs:List Lnk}(h:LkX H l lk ps xs):LkH H ps xs:=⟨h.1,λi p x a b=>let⟨qa,h1,h2,_⟩:=h.2 i p x a b;⟨qa,h1,h2⟩⟩
theorem LkX.same{H H':Hp}{l lk:Addr}{ps:List Addr}{xs:List Lnk}(h:LkX H l lk ps xs)(s:Same H H'):LkX H' l lk ps xs:=⟨h.1,λi p x a b=>let⟨qa,h1,h2,h3⟩:=h.2 i p x a b;⟨qa,s _ _ h1,s _ _ h2,h3⟩⟩
theorem LkX.upd_l{H:Hp}{l lk:Addr}{ps:List Addr}{xs:List Lnk}{vs:List V}{o:HO}(h:LkX H l lk ps xs)(hl:H l=some (.lst vs)):LkX (upd H l o) l lk ps xs:=⟨h.1,λi p x a b=>let⟨qa,h1,h2,h3,h4⟩:=h.2 i p x a b;⟨qa,by rw[upd_ne (λz=>by rw[z,hl]at h1;cases h1)];exact h1,by rw[upd_ne h3];exact h2,h3,h4⟩⟩
theorem LkX.upd_k{H:Hp}{l lk:Addr}{ps:List Addr}{xs:List Lnk}{vs:List V}{o:HO}(h:LkX H l lk ps xs)(hl:H lk=some (.lst vs)):LkX (upd H lk o) l lk ps xs:=⟨h.1,λi p x a b=>let⟨qa,h1,h2,h3,h4⟩:=h.2 i p x a b;⟨qa,by rw[upd_ne (λz=>by rw[z,hl]at h1;cases h1)];exact h1,by rw[upd_ne h4];exact h2,h3,h4⟩⟩
theorem LkX.snoc{H:Hp}{l lk:Addr}{ps:List Addr}{xs:List Lnk}{p qa:Addr}{x:Lnk}(h:LkX H l lk ps xs)(h1:H p=some (.tup [.int x.1,.ref qa,.int x.2.2]))(h2:H qa=some (.lst (x.2.1.map V.int)))(h3:qa≠l)(h4:qa≠lk):LkX H l lk (ps++[p]) (xs++[x]):=by
 refine⟨by rw[Hv,Hv,h.1];rfl,λi q y a b=>?_⟩;by_cases hi:i<ps.length
 ·rw[List.getElem?_append_left hi]at a;rw[List.getElem?_append_left (by rw[<- h.1];exact hi)]at b;exact h.2 i q y a b
 ·rw[List.getElem?_append_right (by omega)]at a;rw[List.getElem?_append_right (by rw[<- h.1];omega),<- h.1]at b;by_cases h0:i-ps.length=0
  ·rw[h0]at a b;obtain rfl:p=q:=by simpa using a
   obtain rfl:x=y:=by simpa using b
   exact⟨qa,h1,h2,h3,h4⟩
  ·rw[List.getElem?_eq_none_iff.mpr (by simp;omega)]at a;cases a
theorem Bk{r:List (List Int)}{k:Nat}(h:k+2<r.length):(bZ r)[k]?=some (fJ (r.getD k []) (r.getD (k+1) [])):=by unfold bZ;rw[List.getElem?_map,List.getElem?_range (by omega)];rfl
theorem kh{r:List (List Int)}{k:Nat}(h:k<r.length):r.take (k+1)=r.take k++[r.getD k []]:=by rw[Ib,List.getD_eq_getElem?_getD,List.getElem?_eq_getElem h];rfl
theorem Cz{r:List (List Int)}{k n:Nat}(h:k<n):(r.take n).getD k []=r.getD k []:=by rw[List.getD_eq_getElem?_getD,List.getD_eq_getElem?_getD,List.getElem?_take,if_pos h]
def qk:Sp:=λvs H Q _=>∃(a:Addr) (kp:List Int) (r:List (List Int)),vs=[.ref a]/\H a=some (.lst (kp.map V.int))/\PapQ kp r/\∀(t l lk:Addr) (ps ls:List Addr) (H':Hp),Same H H'->H' t=some (.tup [.ref l,.ref lk])->H' l=some (.lst (ps.map V.ref))->RwH H' ps r->H' lk=some (.lst (ls.map V.ref))->LkH H' ls (bZ r)->Q (.ref t) H'
theorem zP(F:Fun K "_law_paper" "_law_paper" jr f fd)(T:Txt K mg)(hNS:base.NoSeer)(hTr:P.given.tree=none)(oV:Cal P w K mg base 33 "_law_shrunk" ["_law_kp"] ii Db CS)(FH:Cal P w K mg base 33 "_law_divided" ["_law_kp","_law_kq"] qt Hd Gz)(Fz:Cal P w K mg base 2 "_law_shared" ["_law_kp"] (jc K) G5 Gq):FnOk P w K mg base CX0 34 f fd ["_law_kp"] qk:=by
 obtain⟨oN,mO,m5,oz⟩:=oV;obtain⟨vX,tu,tV,vD⟩:=FH;obtain⟨EY,A3,BV,Ee⟩:=Fz;refine F.ok sc__law_paper (λvs H Q E h=>?_) (λcdv A outer s H vs Q E hr h=>?_)
 ·obtain⟨a,kp,r,rfl,_⟩:=h;rfl
 ·obtain⟨a,kp,r,rfl,hA,PR,k⟩:=h;have hdp:(A.deeper (PyProof.Rows.envOfC (Str.ofString "_law_paper") (aA jr) s.heap.objs.size f cdv)).depth+100<recursionLimit:=by have:=hr.dp;omega
  have big:=sizeLine_eq;have r2:=PR.two;have r100:=PR.few;have kl:=PR.l;have hkl:(kp.map V.int).length=kp.length:=Hs _
  refine⟨_,(ag (am (i:=1) sc__law_paper.nd rfl (Or.inl rfl) (bH (aa (eD (g6 (K:=K) rfl) (by rfl) T.list_ PyProof.Rows.boot_list (aa (pv 0) ad)) (aa (au oN (hr.mono) rfl mO m5 oz .nil ar (aa (iy (im (K:=K) rfl) (cG (own:=["_law_k","_law_one"]) (fr:=[]) (js:=[]) (by walk_at "comp_ok") rfl (fb rfl T.enumerate_ (aa (pv 0) ad)) (λ_ _ _ _=>(mr (K:=K) (n:=2) rfl rfl (cj (aL (i:=0) (show List.Nodup (["_law_k","_law_one"]:List Str)from by decide +kernel) rfl (Or.inl rfl) (Or.inr rfl)) (cj (aL (i:=1) (show List.Nodup (["_law_k","_law_one"]:List Str)from by decide +kernel) rfl (Or.inl rfl) (Or.inr rfl)) eC rfl) rfl) rfl rfl)) (λ_ _ _ _=>(af aH (pv 0) (pv 1)))) (gG ac) jF) ad)) ad))))
   (ag (am (i:=2) sc__law_paper.nd rfl (Or.inl rfl) (bH ad))
   (ag (am (i:=3) sc__law_paper.nd rfl (Or.inl rfl) (au vX (hr.mono) rfl tu tV vD .nil ar (aa (ai (aM (K:=K) rfl) (pv 1) ac (λ_ _=>rfl)) (aa (ai (aM (K:=K) rfl) (pv 1) ac (λ_ _=>rfl)) ad))))
   (ag (gF PassesOwn.never (aD cM (aI (aX (K:=K) rfl) (by rfl) T.len_ PySem.boot_len (aa (ai (ay (K:=K) rfl) (pv 3) ac (λ_ _=>rfl)) ad)) ac (av _))
     (ag (am (i:=4) sc__law_paper.nd rfl (Or.inr rfl) (au EY (hr.mono) rfl A3 BV Ee .nil ar (aa (ai (ay (K:=K) rfl) (pv 3) ac (λ_ _=>rfl)) ad)))
       (ag (bX (cH PySem.F.plainAttrs_list PySem.F.slot_list_append PySem.F.type_list_append cJ (pv 2) (aa (bS (aa (ai (ay (K:=K) rfl) (pv 3) ac (λ_ _=>rfl)) (aa (ai (ay (K:=K) rfl) (pv 3) ac (λ_ _=>rfl)) (aa (pv 4) ad)))) ad)))
       (ag (bX (cH PySem.F.plainAttrs_list PySem.F.slot_list_append PySem.F.type_list_append cJ (pv 1) (aa (cG (own:=["_law_one"]) (fr:=["_law_divisor"]) (js:=[4]) (by walk_at "comp_ok") rfl (ci (K:=K) rfl (ai (ay (K:=K) rfl) (pv 3) ac (λ_ _=>rfl))) (λ_ _ _ _=>(aL (i:=0) (show List.Nodup (["_law_one","_law_divisor"]:List Str)from by decide +kernel) rfl (Or.inl rfl))) (λ_ _ _ _=>(af aZ ac (af (jJ hNS hTr hdp rfl rfl rfl rfl rfl) (pv 0) (pv 1))))) ad)))
       (ak (am (i:=3) sc__law_paper.nd rfl (Or.inl rfl) (au vX (hr.mono) rfl tu tV vD .nil ar (aa (ai (aM (K:=K) rfl) (pv 1) (cV cR ac) (λ_ _=>rfl)) (aa (ai (aM (K:=K) rfl) (pv 1) (cV cR ac) (λ_ _=>rfl)) ad)))))))))
   (ak (aG (bS (aa (pv 1) (aa (pv 2) ad))))))))),?_⟩
  refine ax ⟨_,rfl,a,_,rfl,.inl (SqL.of hA),λp0 hp0=>?_⟩;have s0:=Same.upd_new (o:=.lst (kp.map V.int)) hp0;have e0:upd H p0 (.lst (kp.map V.int)) p0=some (.lst (kp.map V.int)):=aj;generalize upd H p0 (.lst (kp.map V.int))=H0 at s0 e0 ⊢
  have hA0:=s0 _ _ hA;refine⟨_,rfl,a,rfl,⟨_,SqL.of hA0⟩,nX (K:=K) (a:=a) (xs:=kp.map V.int) (λi ys σ' H'=>∃z y:Option V,σ'=[z,y]/\ys=((List.range i).map λ(j:Nat)=>(j:Int)*cf kp j).map V.int/\Same H0 H') (by rw[hkl];omega) ⟨none,none,rfl,rfl,λ_ _ e=>e⟩ ?_ ?_ ?_⟩
  ·rintro i ys σ' H' _ ⟨z,y,rfl,rfl,sm⟩;exact⟨SqL.of (sm _ _ hA0),by simp⟩
  ·rintro i v ys σ' H' q hi ⟨z,y,rfl,rfl,sm⟩ hq;obtain⟨c,ec,rfl,hcm,_⟩:=dR hi;have hc:cf kp i=c:=vj ec;have hil:i<kp.length:=(List.getElem?_eq_some_iff.mp ec).1;refine⟨q,_,rfl,SqT.of aj,rfl,_,_,rfl,_,_,rfl,rfl,?_⟩;refine⟨_,rfl,_,rfl,_,_,rfl,rfl,⟨aS (by omega) (by decide),(PR.b c hcm).mono⟩,_,_,rfl,?_,sm.then_new hq⟩;rw[IW,Hu,Hu,<- hc];rfl
  rintro ys σ' H1 q1 ⟨z,y,rfl,rfl,s1⟩ hq1;have t1:=s1.then_new (o:=.lst (((List.range (kp.map V.int).length).map λ(j:Nat)=>(j:Int)*cf kp j).map V.int)) hq1;refine⟨1,rfl,q1,_,rfl,SqL.of aj,λq2 hq2=>?_⟩;rw[uV,hkl,wX];rw[hkl]at t1 hq2;have t2:=t1.then_new (o:=.lst ((slopeL kp).map V.int)) hq2;have e2:upd (upd H1 q1 (.lst (((List.range kp.length).map λ(j:Nat)=>(j:Int)*cf kp j).map V.int))) q2 (.lst ((slopeL kp).map V.int)) q2=some (.lst ((slopeL kp).map V.int)):=aj;generalize upd (upd H1 q1 (.lst (((List.range kp.length).map λ(j:Nat)=>(j:Int)*cf kp j).map V.int))) q2 (.lst ((slopeL kp).map V.int))=H2 at t2 e2 ⊢
  refine⟨q2,_,rfl,e2,kf PR.tr,by rw[jg];omega,λq3 H3 s3 hq3 e3=>?_⟩;have t3:=t2.trans s3;have e03:=t3 _ _ e0;refine⟨by show 2<=sizeLine;decide,λl hl=>?_⟩;have t4:=t3.then_new (o:=.lst [.ref p0,.ref q3]) hl;have u4:=Same.upd_new (o:=.lst [.ref p0,.ref q3]) hl;have el:upd H3 l (.lst [.ref p0,.ref q3]) l=some (.lst ([p0,q3].map V.ref)):=aj;have e04:=u4 _ _ e03;have e34:=u4 _ _ e3;have n0l:p0≠l:=aE e03 hl;have n3l:q3≠l:=aE e3 hl;have fl:H l=none:=(s0.trans t3).free hl;show bz _ _ _ _ (upd H3 l (.lst [.ref p0,.ref q3]));generalize upd H3 l (.lst [.ref p0,.ref q3])=H4 at t4 u4 el e04 e34 ⊢
  refine ax ⟨Hy _,λlk hlk=>?_⟩;have u5:=Same.upd_new (o:=.lst []) hlk;have ek:upd H4 lk (.lst []) lk=some (.lst (([]:List Addr).map V.ref)):=aj;have el5:=u5 _ _ el;have e05:=u5 _ _ e04;have e35:=u5 _ _ e34;have n0k:p0≠lk:=aE e04 hlk;have n3k:q3≠lk:=aE e34 hlk;have nlk:l≠lk:=aE el hlk;have t5:=s0.trans (t4.trans u5);have fk:H lk=none:=(s0.trans t4).free hlk;show bz _ _ _ _ (upd H4 lk (.lst []));generalize upd H4 lk (.lst [])=H5 at u5 ek el5 e05 e35 t5 ⊢
  have RS0:=PR.at (show 0<r.length by omega);have RS1:=PR.at (show 1<r.length by omega);have e05':H5 p0=some (.lst ((r.getD 0 []).map V.int)):=by rw[PR.fst];exact e05
  have e35':H5 q3=some (.lst ((r.getD 1 []).map V.int)):=by rw[PR.snd];exact e35
  refine ax ⟨_,rfl,l,_,_,_,rfl,rfl,SqL.of el5,rfl,_,rfl,l,_,_,_,rfl,rfl,SqL.of el5,rfl,p0,q3,_,_,rfl,e05',e35',RS0,RS1,PR.dec 0 (by omega),λt q rr H6 s6 ht hq hrr et eq err=>?_⟩;refine⟨λm σ' H'=>∃(i:Nat) (t q rr:Addr) (ps ls:List Addr) (z4:Option V),σ'=[some (.ref a),some (.ref l),some (.ref lk),some (.ref t),z4]/\i+2<=r.length/\r.length-(i+2)=m/\Same H H'/\H' l=some (.lst (ps.map V.ref))/\RwH H' ps (r.take (i+2))/\(∀p∈ps,p≠l/\p≠lk)/\H' lk=some (.lst (ls.map V.ref))/\LkX H' l lk ls ((bZ r).take i)/\H' t=some (.tup [.int (aO (r.getD i []) (r.getD (i+1) [])),.ref q,.ref rr])/\H' q=some (.lst ((aQ (r.getD i []) (r.getD (i+1) [])).map V.int))/\H' rr=some (.lst ((ao (r.getD i []) (r.getD (i+1) [])).map V.int))/\q≠l/\q≠lk/\rr≠l/\rr≠lk,⟨_,0,t,q,rr,[p0,q3],[],none,rfl,r2,rfl,t5.trans s6,s6 _ _ el5,?_,?_,s6 _ _ ek,?_,et,eq,err,?_,?_,?_,?_⟩,?_⟩
  ·have e:r.take (0+2)=[]++[r.getD 0 []]++[r.getD 1 []]:=by rw[kh (show 1<r.length by omega),kh (show 0<r.length by omega),JG]
   rw[e];exact(RwH.nil.snoc (s6 _ _ e05')).snoc (s6 _ _ e35')
  ·intro p hp;simp only[HI,JE,or_false]at hp;rcases hp with rfl |rfl
   ·exact⟨n0l,n0k⟩
   ·exact⟨n3l,n3k⟩
  ·rw[JG];exact⟨rfl,λi p x h=>by simp at h⟩
  ·exact Ne.symm (aE el5 hq)
  ·exact Ne.symm (aE ek hq)
  ·exact Ne.symm (aE el5 hrr)
  ·exact Ne.symm (aE ek hrr)
  clear et eq err ht hq hrr s6 H6 t q rr;rintro m σ' H6 ⟨i,t,q,rr,ps,ls,z4,rfl,hi,rfl,s6,el6,hR,hav,ek6,hL,et,eq,err,nql,nqk,nrl,nrk⟩;have RSi:=PR.at (show i<r.length by omega);have RSj:=PR.at (show i+1<r.length by omega);have lR:((ao (r.getD i []) (r.getD (i+1) [])).map V.int).length=(ao (r.getD i []) (r.getD (i+1) [])).length:=Hs _;refine⟨_,rfl,t,_,_,_,rfl,rfl,SqT.of et,rfl,rr,_,rfl,.inl (SqL.of err),_,_,rfl,rfl,_,rfl,aC (λhgt=>?_) (λhle=>?_)⟩
  rotate_left
  ·have hle':¬(0:Int)<(((ao (r.getD i []) (r.getD (i+1) [])).map V.int).length:Int):=hle;have dz:ao (r.getD i []) (r.getD (i+1) [])=[]:=Iu.mp (by omega)
   have ei:i+2=r.length:=by
    rcases Nat.lt_or_ge (i+2) r.length with z |z
    ·exfalso;have h1:=(PR.at z).ne;rw[PR.step i z]at h1;apply h1;unfold nxt rst;rw[if_neg RSj.ne,dz];rfl
    ·omega
   have et2:r.take (i+2)=r:=List.take_of_length_le (by omega);have lt2:(bZ r).take i=bZ r:=List.take_of_length_le (by unfold bZ;rw[Hs,Ih];omega);rw[et2]at hR;rw[lt2]at hL;refine⟨_,rfl,_,rfl,by show 2<=sizeLine;decide,λtt htt=>?_⟩;have s7:=Same.upd_new (o:=.tup [.ref l,.ref lk]) htt;exact k tt l lk ps ls _ (s6.trans s7) aj (s7 _ _ el6) (hR.same s7) (s7 _ _ ek6) (hL.toH.same s7)
  ·have hgt':(0:Int)<(((ao (r.getD i []) (r.getD (i+1) [])).map V.int).length:Int):=hgt;have dn:ao (r.getD i []) (r.getD (i+1) [])≠[]:=λz=>by rw[z]at hgt';exact absurd hgt' (by decide)
   have i3:i+2<r.length:=by
    rcases Nat.lt_or_ge (i+2) r.length with z |z
    ·exact z
    ·exfalso;have h1:=PR.stop;rw[show r.length-2=i by omega,show r.length-1=i+1 by omega,<- su RSj.ne dn]at h1;exact dn (List.map_eq_nil_iff.mp h1)
   have RSk:=PR.at i3;obtain⟨n7,bQ,bR,bF⟩:=nL RSi RSj;have gp:=iI (bP _:Tr (ao (r.getD i []) (r.getD (i+1) []))) dn;refine⟨λσ'' H''=>∃m',m'<r.length-(i+2)/\∃(i:Nat) (t q rr:Addr) (ps ls:List Addr) (z4:Option V),σ''=[some (.ref a),some (.ref l),some (.ref lk),some (.ref t),z4]/\i+2<=r.length/\r.length-(i+2)=m'/\Same H H''/\H'' l=some (.lst (ps.map V.ref))/\RwH H'' ps (r.take (i+2))/\(∀p∈ps,p≠l/\p≠lk)/\H'' lk=some (.lst (ls.map V.ref))/\LkX H'' l lk ls ((bZ r).take i)/\H'' t=some (.tup [.int (aO (r.getD i []) (r.getD (i+1) [])),.ref q,.ref rr])/\H'' q=some (.lst ((aQ (r.getD i []) (r.getD (i+1) [])).map V.int))/\H'' rr=some (.lst ((ao (r.getD i []) (r.getD (i+1) [])).map V.int))/\q≠l/\q≠lk/\rr≠l/\rr≠lk,λ_ _ h=>h,?_⟩;refine ax ⟨_,rfl,t,_,_,_,rfl,rfl,SqT.of et,rfl,rr,_,rfl,SqL.of err,?_⟩;have psl:ps.length=i+2:=by rw[hR.1,HZ];omega
   have lsl:ls.length=i:=by rw[hL.1,HZ];unfold bZ;rw[Hs,Ih];omega
   refine d9 ⟨_,rfl,.inl ⟨rfl,_,SqL.of ek6⟩,_,rfl,t,_,_,_,rfl,rfl,SqT.of et,rfl,_,rfl,t,_,_,_,rfl,rfl,SqT.of et,rfl,_,rfl,by show 3<=sizeLine;decide,λtl htl=>?_⟩;have s7:=Same.upd_new (o:=.tup [.int (aO (r.getD i []) (r.getD (i+1) [])),.ref q,.int (al (ao (r.getD i []) (r.getD (i+1) [])):Nat)]) htl;have e7:upd H6 tl (.tup [.int (aO (r.getD i []) (r.getD (i+1) [])),.ref q,.int (al (ao (r.getD i []) (r.getD (i+1) [])):Nat)]) tl=some (.tup [.int (fJ (r.getD i []) (r.getD (i+1) [])).1,.ref q,.int (fJ (r.getD i []) (r.getD (i+1) [])).2.2]):=aj;generalize upd H6 tl (.tup [.int (aO (r.getD i []) (r.getD (i+1) [])),.ref q,.int (al (ao (r.getD i []) (r.getD (i+1) [])):Nat)])=H7 at s7 e7 ⊢
   have ek7:=s7 _ _ ek6;have hL7:=(hL.same s7).snoc e7 (s7 _ _ eq) nql nqk;refine⟨lk,_,_,rfl,rfl,ek7,by rw[Hs];omega,?_⟩;have s8:=cO (o:=.lst (ls.map V.ref++[.ref tl])) (s6.trans s7) fk;have ek8:upd H7 lk (.lst (ls.map V.ref++[.ref tl])) lk=some (.lst ((ls++[tl]).map V.ref)):=by rw[aj,gO]
   have el8:upd H7 lk (.lst (ls.map V.ref++[.ref tl])) l=some (.lst (ps.map V.ref)):=by rw[upd_ne nlk];exact s7 _ _ el6
   have hL8:=hL7.upd_k (o:=.lst (ls.map V.ref++[.ref tl])) ek7;have hR8:=(hR.same s7).upd_no (o:=.lst (ls.map V.ref++[.ref tl])) λp hp=>(hav p hp).2
   have et8:upd H7 lk (.lst (ls.map V.ref++[.ref tl])) t=some (.tup [.int (aO (r.getD i []) (r.getD (i+1) [])),.ref q,.ref rr]):=by have:=s7 _ _ et;rw[upd_ne (λz=>by rw[z,ek7]at this;cases this)];exact this
   have er8:upd H7 lk (.lst (ls.map V.ref++[.ref tl])) rr=some (.lst ((ao (r.getD i []) (r.getD (i+1) [])).map V.int)):=by rw[upd_ne nrk];exact s7 _ _ err
   show bz _ _ _ _ (upd H7 lk (.lst (ls.map V.ref++[.ref tl])));generalize upd H7 lk (.lst (ls.map V.ref++[.ref tl]))=H8 at s8 ek8 el8 hL8 hR8 et8 er8 ⊢
   refine d9 ⟨_,rfl,.inl ⟨rfl,_,SqL.of el8⟩,?_⟩;refine⟨_,rfl,t,_,_,_,rfl,rfl,SqT.of et8,rfl,rr,rfl,⟨_,SqL.of er8⟩,dW (K:=K) (a:=rr) (xs:=(ao (r.getD i []) (r.getD (i+1) [])).map V.int) (λj ms σ' H'=>∃z0:Option V,σ'=[z0,some (.int (al (ao (r.getD i []) (r.getD (i+1) [])):Nat))]/\ms=(((ao (r.getD i []) (r.getD (i+1) [])).take j).map (λv=>0-v/(al (ao (r.getD i []) (r.getD (i+1) [])):Int))).map V.int/\H8=H') (by rw[lR];have:=fv (a:=r.getD i []) RSj.ne;have:=RSj.l;omega) ⟨none,rfl,rfl,rfl⟩ ?_ ?_ ?_⟩
   ·rintro j ms σ' H' _ ⟨z0,rfl,rfl,rfl⟩;exact⟨SqL.of er8,by rw[Hs,Hs,HZ];exact JF _ _⟩
   ·rintro j v ms σ' H' hj ⟨z0,rfl,rfl,rfl⟩;obtain⟨c,_,rfl,hmc,et'⟩:=dR hj;refine⟨_,rfl,_,rfl,_,_,rfl,rfl,gp,_,_,rfl,rfl,_,rfl,?_,rfl⟩;rw[et'];simp
   rintro ms σ' H' pn ⟨z0,rfl,rfl,rfl⟩ hpn;rw[lR,HY,su RSj.ne dn,<- PR.step i i3];have s9:=Same.upd_new (o:=.lst ((r.getD (i+2) []).map V.int)) hpn;have e9:upd H8 pn (.lst ((r.getD (i+2) []).map V.int)) pn=some (.lst ((r.getD (i+2) []).map V.int)):=aj;have npl:pn≠l:=Ne.symm (aE el8 hpn);have npk:pn≠lk:=Ne.symm (aE ek8 hpn);generalize upd H8 pn (.lst ((r.getD (i+2) []).map V.int))=H9 at s9 e9 ⊢
   have el9:=s9 _ _ el8;refine⟨l,_,_,rfl,rfl,el9,by rw[Hs];omega,?_⟩;have sA:=cO (o:=.lst (ps.map V.ref++[.ref pn])) (s8.trans s9) fl;have elA:upd H9 l (.lst (ps.map V.ref++[.ref pn])) l=some (.lst ((ps++[pn]).map V.ref)):=by rw[aj,gO]
   have ekA:upd H9 l (.lst (ps.map V.ref++[.ref pn])) lk=some (.lst ((ls++[tl]).map V.ref)):=by rw[upd_ne (Ne.symm nlk)];exact s9 _ _ ek8
   have hLA:=(hL8.same s9).upd_l (o:=.lst (ps.map V.ref++[.ref pn])) el9
   have havA:∀p∈ps++[pn],p≠l/\p≠lk:=λp hp=>by
    rcases HP.mp hp with h |h
    ·exact hav p h
    ·rw[Hx.mp h];exact⟨npl,npk⟩
   have hRA:=((hR8.same s9).snoc e9).upd_no (o:=.lst (ps.map V.ref++[.ref pn])) λp hp=>(havA p hp).1
   rw[<- kh i3]at hRA;have lA:(bZ r).take i++[fJ (r.getD i []) (r.getD (i+1) [])]=(bZ r).take (i+1):=by rw[Ib,Bk i3];rfl
   rw[lA]at hLA;dsimp only
   generalize upd H9 l (.lst (ps.map V.ref++[.ref pn]))=HA at sA elA ekA hLA hRA ⊢
   have rl:(r.take (i+2+1)).length=i+3:=by rw[HZ];omega
   obtain⟨pa,ea,ha⟩:=gi hRA (show 0<2 by decide) (by omega);obtain⟨pb,eb,hb⟩:=gi hRA (show 0<1 by decide) (by omega);rw[rl,Cz (by omega)]at ha hb;have ha':HA pa=some (.lst ((r.getD (i+1) []).map V.int)):=ha;have hb':HA pb=some (.lst ((r.getD (i+2) []).map V.int)):=hb;refine dq ⟨_,rfl,_,rfl,l,_,_,_,rfl,rfl,SqL.of elA,ea,_,rfl,_,rfl,l,_,_,_,rfl,rfl,SqL.of elA,eb,pa,pb,_,_,rfl,ha',hb',RSj,RSk,PR.dec (i+1) (by omega),λt' q' rr' HB sB ht' hq' hrr' et' eq' err'=>?_⟩;exact⟨r.length-(i+1+2),by omega,i+1,t',q',rr',ps++[pn],ls++[tl],_,rfl,by omega,rfl,sA.trans sB,sB _ _ elA,hRA.same sB,havA,sB _ _ ekA,hLA.same sB,et',eq',err',Ne.symm (aE elA hq'),Ne.symm (aE ekA hq'),Ne.symm (aE elA hrr'),Ne.symm (aE ekA hrr')⟩
def jd:Sp:=λvs H Q _=>∃(a:Addr) (xs:List Int) (pl:Nat) (my:Int),vs=[.ref a,.int (pl:Int),.int my]/\H a=some (.lst (xs.map V.int))/\pl<=1000/\xs.length<=1000/\∀(p:Addr) (ys:List Int) (H':Hp),Same H H'->H p=none->H' p=some (.lst (ys.map V.int))->Tr ys->(∀n,cf ys n=cf xs n+if n=pl then my else 0)->ys.length<=pl+1000->Q (.ref p) H'
theorem zS(F:Fun K "_law_more" "_law_more" ly f fd)(T:Txt K mg)(dY:Cal P w K mg base 1 "_law_trim" ["_law_row"] (eX K) iK iJ):FnOk P w K mg base CX0 2 f fd ["_law_kp","_law_place","_law_many"] jd:=by
 obtain⟨dj,db,dd,dh⟩:=dY;refine F.ok sc__law_more (λvs H Q E h=>?_) (λcdv A outer s H vs Q E hr h=>?_)
 ·obtain⟨a,xs,pl,my,rfl,_⟩:=h;rfl
 ·obtain⟨a,xs,pl,my,rfl,hA,hpl,hxl,k⟩:=h;have big:=sizeLine_eq
  refine⟨_,(ag (am (i:=3) sc__law_more.nd rfl (Or.inl rfl) (eD (g6 (K:=K) rfl) (by rfl) T.list_ PyProof.Rows.boot_list (aa (pv 0) ad)))
   (ag (gF PassesOwn.never (aD gI (aI (aX (K:=K) rfl) (by rfl) T.len_ PySem.boot_len (aa (pv 3) ad)) (pv 1) (av _))
     (ak (bX (cH PySem.F.plainAttrs_list PySem.F.slot_list_append PySem.F.type_list_append cJ (pv 3) (aa ac ad)))))
   (ag (c8 (af aT (ai (aM (K:=K) rfl) (pv 3) (pv 1) (λ_ _=>rfl)) (pv 2)) (du (pv 3) (pv 1) dm))
   (ak (aG (au dj (hr.mono) rfl db dd dh .nil ar (aa (pv 3) ad))))))),?_⟩
  refine ax ⟨_,rfl,a,_,rfl,.inl (SqL.of hA),λp hp=>?_⟩;have s1:=Same.upd_new (o:=.lst (xs.map V.int)) hp;have e1:upd H p (.lst (xs.map V.int)) p=some (.lst (xs.map V.int)):=aj;show bz _ _ _ _ (upd H p (.lst (xs.map V.int)));generalize upd H p (.lst (xs.map V.int))=H1 at s1 e1 ⊢
  refine⟨λm σ' H'=>∃ys:List Int,σ'=[some (.ref a),some (.int (pl:Int)),some (.int my),some (.ref p)]/\Same H H'/\H' p=some (.lst (ys.map V.int))/\(∀k,cf ys k=cf xs k)/\ys.length<=pl+1000/\pl+1-ys.length=m,⟨_,xs,rfl,s1,e1,λ_=>rfl,by omega,rfl⟩,?_⟩;rintro m σ' H2 ⟨ys,rfl,s2,e2,hc,hl,rfl⟩;have hyl:(ys.map V.int).length=ys.length:=Hs _;refine⟨_,rfl,p,_,rfl,.inl (SqL.of e2),_,rfl,_,_,rfl,rfl,_,rfl,aC (λh1=>?_) (λh1=>?_)⟩
  ·have h1':((ys.map V.int).length:Int)<=(pl:Int):=h1;refine⟨λσ'' H''=>∃m',m'<pl+1-ys.length/\∃ys:List Int,σ''=[some (.ref a),some (.int (pl:Int)),some (.int my),some (.ref p)]/\Same H H''/\H'' p=some (.lst (ys.map V.int))/\(∀k,cf ys k=cf xs k)/\ys.length<=pl+1000/\pl+1-ys.length=m',λ_ _ h=>h,?_⟩;refine dM ⟨_,rfl,.inl ⟨rfl,_,SqL.of e2⟩,p,_,_,rfl,rfl,e2,by omega,?_⟩;refine⟨pl+1-(ys.length+1),by omega,ys++[0],rfl,cO s2 hp,by rw[aj,<- sT],λk=>?_,by rw[Hv];show ys.length+1<=_;omega,by rw[Hv];rfl⟩;rw[<- hc k];by_cases hk:k<ys.length
   ·rw[ce (by rw[Hv];show k<ys.length+1;omega),ce hk,List.getElem_append_left hk]
   ·rw[aR (l:=ys) (by omega)];by_cases hk2:k=ys.length
    ·rw[ce (by rw[Hv];show k<ys.length+1;omega),List.getElem_append_right (by omega)];simp
    ·rw[aR (by rw[Hv];show ys.length+1<=k;omega)]
  ·have h1':¬((ys.map V.int).length:Int)<=(pl:Int):=h1;have hlt:pl<ys.length:=by omega
   dsimp only
   refine jw ⟨_,rfl,_,rfl,p,_,_,_,rfl,rfl,SqL.of e2,gh rfl hlt,_,rfl,_,_,rfl,rfl,_,rfl,_,rfl,p,_,_,pl,rfl,rfl,e2,dE rfl (by rw[hyl];exact hlt),?_⟩;have s3:=cO (o:=.lst ((ys.set pl (cf ys pl+my)).map V.int)) s2 hp;have e3:upd H2 p (.lst ((ys.set pl (cf ys pl+my)).map V.int)) p=some (.lst ((ys.set pl (cf ys pl+my)).map V.int)):=aj;refine lX (H2:=upd H2 p (.lst ((ys.set pl (cf ys pl+my)).map V.int))) (by rw[<- iB]) ?_;generalize upd H2 p (.lst ((ys.set pl (cf ys pl+my)).map V.int))=H3 at s3 e3 ⊢
   refine⟨_,rfl,p,_,rfl,SqL.of e3,λp' H4 s4 hp' e4=>k p' _ H4 (s3.trans s4) (s3.free hp') e4 (bP _) (λn=>?_) ?_⟩
   ·rw[dX,ge hlt];by_cases z:n=pl
    ·rw[if_pos z,if_pos z,z,hc]
    ·rw[if_neg z,if_neg z,hc,Iv]
   ·have h9:=gP (ys.set pl (cf ys pl+my));rw[HU]at h9;omega
abbrev bv:=List Int×Nat
def UsA(H:Hp)(u:Addr)(x:bv):Prop:=∃p,H u=some (.tup [.ref p,.int (x.2:Int)])/\H p=some (.tup (x.1.map V.int))
theorem UsA.same{H H':Hp}{u:Addr}{x:bv}(h:UsA H u x)(s:Same H H'):UsA H' u x:=let⟨p,a,b⟩:=h;⟨p,s _ _ a,s _ _ b⟩
theorem UsA.upd_lst{H:Hp}{u a:Addr}{x:bv}{vs:List V}{o:HO}(h:UsA H u x)(ha:H a=some (.lst vs)):UsA (upd H a o) u x:=let⟨p,h1,h2⟩:=h;⟨p,by rw[upd_ne (λz=>by rw[z,ha]at h1;cases h1)];exact h1,by rw[upd_ne (λz=>by rw[z,ha]at h2;cases h2)];exact h2⟩
def UsH(H:Hp)(us:List Addr)(xs:List bv):Prop:=us.length=xs.length/\∀(i:Nat) (u:Addr) (x:bv),us[i]?=some u->xs[i]?=some x->UsA H u x
theorem UsH.nil{H:Hp}:UsH H [] []:=⟨rfl,λi p x h=>by simp at h⟩
theorem UsH.same{H H':Hp}{us:List Addr}{xs:List bv}(h:UsH H us xs)(s:Same H H'):UsH H' us xs:=⟨h.1,λi p x a b=>(h.2 i p x a b).same s⟩
theorem UsH.upd_lst{H:Hp}{us:List Addr}{xs:List bv}{a:Addr}{vs:List V}{o:HO}(h:UsH H us xs)(ha:H a=some (.lst vs)):UsH (upd H a o) us xs:=⟨h.1,λi p x e1 e2=>(h.2 i p x e1 e2).upd_lst ha⟩
theorem UsH.snoc{H:Hp}{us:List Addr}{xs:List bv}{u:Addr}{x:bv}(h:UsH H us xs)(hp:UsA H u x):UsH H (us++[u]) (xs++[x]):=by
 refine⟨by rw[Hv,Hv,h.1];rfl,λi q y a b=>?_⟩;by_cases hi:i<us.length
 ·rw[List.getElem?_append_left hi]at a;rw[List.getElem?_append_left (by rw[<- h.1];exact hi)]at b;exact h.2 i q y a b
 ·rw[List.getElem?_append_right (by omega)]at a;rw[List.getElem?_append_right (by rw[<- h.1];omega),<- h.1]at b;by_cases h0:i-us.length=0
  ·rw[h0]at a b;obtain rfl:u=q:=by simpa using a
   obtain rfl:x=y:=by simpa using b
   exact hp
  ·rw[List.getElem?_eq_none_iff.mpr (by simp;omega)]at a;cases a
theorem UsH.of_get{H:Hp}{us:List Addr}{xs:List bv}{i:Nat}{v:V}(h:UsH H us xs)(hx:(us.map V.ref)[i]?=some v):∃u x,v=.ref u/\us[i]?=some u/\xs[i]?=some x/\UsA H u x/\i<xs.length:=by
 rw[List.getElem?_map]at hx;cases e:us[i]? with
 |none=>rw[e]at hx;cases hx
 |some p =>
  rw[e]at hx;have hi:i<us.length:=(List.getElem?_eq_some_iff.mp e).1;have hi':i<xs.length:=by rw[<- h.1];exact hi
  exact⟨p,xs[i],(Option.some.inj hx).symm,rfl,List.getElem?_eq_getElem hi',h.2 i p _ e (List.getElem?_eq_getElem hi'),hi'⟩
theorem gS{f:List Int}(h:Fac 11 f):Fac 100000000 f:=by obtain⟨u,e,b,rfl,h1,h2,h3,h4,h5,h6,h7⟩:=h;exact⟨u,e,b,rfl,by omega,by omega,h3,h4,h5,h6,h7⟩
noncomputable def dgU:List bv->Nat
 | []=>0
 |x::xs=>x.2*((aw x.1).length-1)+dgU xs
theorem uS(x:bv):∀xs,dgU (xs++[x])=dgU xs+x.2*((aw x.1).length-1)
 | []=>by simp[dgU]
 |y::xs=>by rw[Js,dgU,dgU,uS x xs];omega
structure UsO(xs:List bv)(room:Nat):Prop where
 fac:∀x∈xs,Fac 11 x.1
 two:∀x∈xs,x.2=1\/x.2=2
 nd:(xs.map λx=>aw x.1).Nodup
 dg:dgU xs<=room
def qc(K:PySem.W.Frag):Sp:=λvs H Q _=>∃(a:Addr) (ns:List Int) (room:Nat),vs=[.ref a,.int room]/\SqL K H a (ns.map V.int)/\ns.length<=100/\∀(p:Addr) (H':Hp) (us:List Addr) (xs:List bv),Same H H'->H p=none->H' p=some (.lst (us.map V.ref))->UsH H' us xs->UsO xs room->Q (.ref p) H'
theorem zE(F:Fun K "_law_uses_by" "_law_uses_by" jp f fd)(T:Txt K mg)(FF:Cal P w K mg base 1 "_law_factor_by" ["_law_cell","_law_most"] qq Hb Gx)(oW:Cal P w K mg base 35 "_law_shape" ["_law_factor"] ku Dc CU):FnOk P w K mg base CX0 36 f fd ["_law_cells_of","_law_room"] (qc K):=by
 obtain⟨E6,A8,B3,Ej⟩:=FF;obtain⟨oO,mP,m6,oA⟩:=oW;refine F.ok sc__law_uses_by (λvs H Q E h=>?_) (λcdv A outer s H vs Q E hr h=>?_)
 ·obtain⟨a,ns,room,rfl,_⟩:=h;rfl
 ·obtain⟨a,ns,room,rfl,hA,hn,k⟩:=h;have big:=sizeLine_eq;have hu2:(A.deeper (PyProof.Rows.envOfC (Str.ofString "_law_uses_by") (aA jp) s.heap.objs.size f cdv)).units+66<cLine:=by have:=hr.un;omega
  refine⟨_,(ag (am (i:=2) sc__law_uses_by.nd rfl (Or.inl rfl) (bH ad))
   (ag (am (i:=3) sc__law_uses_by.nd rfl (Or.inl rfl) (bH ad))
   (ag (bW PassesOwn.never rfl (ci (K:=K) rfl (pv 0)) (aL (i:=4) sc__law_uses_by.nd rfl (Or.inl rfl))
     (ag (am (i:=5) sc__law_uses_by.nd rfl (Or.inl rfl) (au E6 (hr.mono) rfl A8 B3 Ej .nil ar (aa (pv 4) (aa ac ad))))
       (ag (am (i:=6) sc__law_uses_by.nd rfl (Or.inl rfl) (au oO (hr.mono) rfl mP m6 oA .nil ar (aa (pv 5) ad)))
       (ag (am (i:=7) sc__law_uses_by.nd rfl (Or.inl rfl) (af aT ac (eD j5 (by rfl) T.int_ PyProof.Rows.boot_int (aa (da bh (af aY (af aY (af eE (pv 4) ac) ac) ac) ac (av _)) ad))))
       (ak (aW (PW.pt (cF (aD (yY (K:=K) rfl hu2) (pv 6) (pv 3) (by rfl)) (cU (aD gI (af eE (pv 7) (af aZ (aI (aX (K:=K) rfl) (by rfl) T.len_ PySem.boot_len (aa (pv 6) ad)) ac)) (pv 1) (av _)))))
         (ag (bX (cH PySem.F.plainAttrs_list PySem.F.slot_list_append PySem.F.type_list_append cJ (pv 3) (aa (pv 6) ad)))
           (ag (bX (cH PySem.F.plainAttrs_list PySem.F.slot_list_append PySem.F.type_list_append cJ (pv 2) (aa (bS (aa (pv 5) (aa (pv 7) ad))) ad)))
           (ak (am (i:=1) sc__law_uses_by.nd rfl (Or.inl rfl) (af aZ (pv 1) (af eE (pv 7) (af aZ (aI (aX (K:=K) rfl) (by rfl) T.len_ PySem.boot_len (aa (pv 6) ad)) ac)))))))
         aV))))))
   (ak (aG (pv 2)))))),?_⟩
  refine ax ⟨Hy _,λpm hpm=>?_⟩;have s1:Same H (upd H pm (.lst [])):=Same.upd_new hpm;have q1:upd H pm (.lst []) pm=some (.lst []):=aj;generalize upd H pm (.lst [])=H1 at s1 q1 ⊢
  refine ax ⟨Hy _,λpz hpz=>?_⟩;have npz:pm≠pz:=aE q1 hpz;have s2:Same H (upd H1 pz (.lst [])):=s1.then_new hpz;have q2:upd H1 pz (.lst []) pz=some (.lst []):=aj;have q3:upd H1 pz (.lst []) pm=some (.lst []):=by rw[upd_ne npz];exact q1
  have hz0:H pz=none:=s1.free hpz;generalize upd H1 pz (.lst [])=H2 at s2 q2 q3 ⊢
  refine⟨_,rfl,a,rfl,⟨_,s2.seq hA⟩,fL (K:=K) (a:=a) (xs:=ns.map V.int) (λi σ' H'=>∃(z4 z5 z6 z7:Option V) (us rs:List Addr) (xs:List bv) (left:Nat),σ'=[some (.ref a),some (.int left),some (.ref pm),some (.ref pz),z4,z5,z6,z7]/\Same H H'/\H' pm=some (.lst (us.map V.ref))/\H' pz=some (.lst (rs.map V.ref))/\UsH H' us xs/\RwH H' rs (xs.map λx=>aw x.1)/\(∀p∈rs,p≠pm/\p≠pz)/\(∀x∈xs,Fac 11 x.1)/\(∀x∈xs,x.2=1\/x.2=2)/\(xs.map λx=>aw x.1).Nodup/\dgU xs+left=room/\xs.length<=i) ⟨none,none,none,none,[],[],[],room,rfl,s2,q3,q2,UsH.nil,RwH.nil,(λ_ h=>nomatch h),(λ_ h=>nomatch h),(λ_ h=>nomatch h),List.nodup_nil,Nat.zero_add _,Ht _⟩ ?_ ?_ ?_⟩
  ·rintro i σ' H' _ ⟨z4,z5,z6,z7,us,rs,xs,left,rfl,sm,_⟩;exact sm.seq hA
  ·rintro i x σ' H' hi ⟨z4,z5,z6,z7,us,rs,xs,left,rfl,sm,eqm,eqz,hT,hR,hno,hF,hF2,hnd,hdg,hle⟩
   have hin:i<100:=by have:=(List.getElem?_eq_some_iff.mp hi).1;rw[Hs]at this;omega
   obtain⟨c,_,rfl,_,_⟩:=dR hi;show bz (eV _ (dS 5)) _ _ _ _;refine ax ⟨_,rfl,c,11,rfl,by decide,λp l hp hl0=>?_⟩;have hl:=gS hl0;have s3:Same H' (upd H' p (.tup (l.map V.int))):=Same.upd_new hp;have e3:upd H' p (.tup (l.map V.int)) p=some (.tup (l.map V.int)):=aj;generalize upd H' p (.tup (l.map V.int))=H3 at s3 e3 ⊢
   refine ax ⟨_,rfl,p,l,rfl,e3,hl,λq H4 s4 hq e4=>?_⟩;have t4:=s3.trans s4;have eqm4:=t4 _ _ eqm;have eqz4:=t4 _ _ eqz;have hT4:=hT.same t4;have hR4:=hR.same t4;have nqm:q≠pm:=λz=>by rw[z,s3 _ _ eqm]at hq;cases hq
   have nqz:q≠pz:=λz=>by rw[z,s3 _ _ eqz]at hq;cases hq
   obtain⟨g1,g2,g3,g4,g5⟩:=ip hl;refine ax ⟨_,rfl,_,_,rfl,rfl,.inr ⟨by decide,by decide⟩,_,_,rfl,rfl,(by show(0:Int)<10039;decide),_,_,rfl,rfl,(by show(0:Int)<5;decide),_,_,rfl,rfl,.inr ⟨_,rfl,_,_,rfl,rfl,?_⟩⟩;dsimp only
   obtain⟨o,ho,eo⟩:∃o:Nat,(o=1\/o=2)/\1+(if decide (c*39373%10039%5=0)=true then(1:Int)else 0)=(o:Int):=by
    by_cases z:c*39373%10039%5=0
    ·exact⟨2,.inr rfl,by rw[decide_eq_true z];rfl⟩
    ·exact⟨1,.inl rfl,by rw[decide_eq_false z];rfl⟩
   refine lY (λσ' H'=>σ'=[some (.ref a),some (.int left),some (.ref pm),some (.ref pz),some (.int c),some (.ref p),some (.ref q),some (.int (o:Int))]/\H4=H') ⟨by rw[<- eo];rfl,rfl⟩ ?_;rintro σ' H'' ⟨rfl,rfl⟩;clear eo;have lq:((aw l).map V.int).length=(aw l).length:=Hs _
   have emul:(o:Int)*(((aw l).map V.int).length-1)=((o*((aw l).length-1):Nat):Int):=by rw[lq,Jj,Int.natCast_sub (by omega)];rfl
   obtain⟨sh,esh⟩:∃sh:List (List Int),(xs.map λx=>aw x.1)=sh:=⟨_,rfl⟩;have hR4':RwH H4 rs sh:=by rw[<- esh];exact hR4
   have hsl:aw l=aw l:=rfl;generalize hsq:aw l=sq at e4 g1 g2 g3 g4 g5 lq emul
   refine iu (cg ⟨_,rfl,_,rfl,pz,q,rs,sh,sq,rfl,rfl,e4,SqL.of eqz4,hR4'.1,hR4'.2,_,rfl,fY (λhni=>?_) (λ_=>bV ?_)⟩)
   ·refine⟨_,rfl,_,rfl,q,_,rfl,.inl (SqL.of e4),_,_,rfl,rfl,_,_,rfl,rfl,.inl ⟨by omega,by omega⟩,_,rfl,_,_,rfl,rfl,_,rfl,aC (λhlen=>?_) (λ_=>?_)⟩
    ·have hlen':(o:Int)*((sq.map V.int).length-1)<=(left:Int):=hlen;rw[emul]at hlen';have hlq:us.length=xs.length:=hT.1;have hlr:rs.length=xs.length:=by have:=hR.1;rwa [Hs]at this
     refine d9 ⟨_,rfl,.inl ⟨rfl,_,SqL.of eqz4⟩,_,rfl,pz,_,_,rfl,rfl,eqz4,by rw[Hs];omega,?_⟩;have eqm5:upd H4 pz (.lst (rs.map V.ref++[V.ref q])) pm=some (.lst (us.map V.ref)):=by rw[upd_ne npz];exact eqm4
     have eqz5:upd H4 pz (.lst (rs.map V.ref++[V.ref q])) pz=some (.lst ((rs++[q]).map V.ref)):=by rw[aj,gO]
     have e45:upd H4 pz (.lst (rs.map V.ref++[V.ref q])) q=some (.lst (sq.map V.int)):=by rw[upd_ne nqz];exact e4
     have hT5:=hT4.upd_lst (o:=.lst (rs.map V.ref++[V.ref q])) eqz4
     have ep5:upd H4 pz (.lst (rs.map V.ref++[V.ref q])) p=some (.tup (l.map V.int)):=by have:=s4 _ _ e3;rw[upd_ne (λz=>by rw[z,eqz4]at this;cases this)];exact this
     have hno5:∀x∈rs++[q],x≠pm/\x≠pz:=λx hx=>by
      rcases HP.mp hx with h |h
      ·exact hno x h
      ·rw[Hx.mp h];exact⟨nqm,nqz⟩
     have hR5:=(hR4'.snoc e4).upd_no (o:=.lst (rs.map V.ref++[V.ref q])) λx hx=>(hno5 x hx).2
     have s5:=cO (o:=.lst (rs.map V.ref++[V.ref q])) (sm.trans t4) hz0;dsimp only
     generalize upd H4 pz (.lst (rs.map V.ref++[V.ref q]))=H5 at eqm5 eqz5 e45 hT5 ep5 hR5 s5 ⊢
     refine d9 ⟨_,rfl,.inl ⟨rfl,_,SqL.of eqm5⟩,_,rfl,_,rfl,by show 2<=sizeLine;decide,λu hu=>?_⟩;have s6:=Same.upd_new (o:=.tup [.ref p,.int (o:Int)]) hu;have e6:upd H5 u (.tup [.ref p,.int (o:Int)]) u=some (.tup [.ref p,.int (o:Int)]):=aj;have eqm6:=s6 _ _ eqm5;have hT6:=(hT5.same s6).snoc (x:=(l,o)) ⟨p,e6,s6 _ _ ep5⟩;refine⟨pm,_,_,rfl,rfl,eqm6,by rw[Hs];omega,?_⟩;have hT7:=hT6.upd_lst (o:=.lst (us.map V.ref++[V.ref u])) eqm6;have e47:upd (upd H5 u (.tup [.ref p,.int (o:Int)])) pm (.lst (us.map V.ref++[V.ref u])) q=some (.lst (sq.map V.int)):=by rw[upd_ne nqm];exact s6 _ _ e45
     have eqz7:upd (upd H5 u (.tup [.ref p,.int (o:Int)])) pm (.lst (us.map V.ref++[V.ref u])) pz=some (.lst ((rs++[q]).map V.ref)):=by rw[upd_ne (Ne.symm npz)];exact s6 _ _ eqz5
     have eqm7:upd (upd H5 u (.tup [.ref p,.int (o:Int)])) pm (.lst (us.map V.ref++[V.ref u])) pm=some (.lst ((us++[u]).map V.ref)):=by rw[aj,gO]
     have hR7:=(hR5.same s6).upd_no (o:=.lst (us.map V.ref++[V.ref u])) λx hx=>(hno5 x hx).1
     have s7:=cO (o:=.lst (us.map V.ref++[V.ref u])) (s5.trans s6) hpm;dsimp only
     generalize upd (upd H5 u (.tup [.ref p,.int (o:Int)])) pm (.lst (us.map V.ref++[V.ref u]))=H7 at hT7 e47 eqz7 eqm7 hR7 s7 ⊢
     refine dq ⟨_,rfl,_,rfl,_,rfl,q,_,rfl,.inl (SqL.of e47),_,_,rfl,rfl,_,_,rfl,rfl,.inl ⟨by omega,by omega⟩,_,_,rfl,rfl,?_⟩;have hfl:(left:Int)-(o:Int)*((sq.map V.int).length-1)=((left-o*(sq.length-1):Nat):Int):=by rw[emul];omega
     dsimp only
     rw[hfl];refine⟨_,_,_,_,us++[u],rs++[q],xs++[(l,o)],left-o*(sq.length-1),rfl,s7,eqm7,eqz7,hT7,?_,hno5,?_,?_,?_,?_,?_⟩
     ·rw[Hu];show RwH H7 (rs++[q]) ((xs.map λx=>aw x.1)++[aw l]);rw[esh,hsq];exact hR7
     ·intro x hx;rcases HP.mp hx with h |h
      ·exact hF x h
      ·rw[Hx.mp h];exact hl0
     ·intro x hx;rcases HP.mp hx with h |h
      ·exact hF2 x h
      ·rw[Hx.mp h];exact ho
     ·rw[Hu,Is,List.map_nil];refine List.nodup_append.mpr ⟨hnd,by simp,λx hx y hy=>?_⟩;rw[Hx.mp hy];intro z;apply hni;rw[<- esh,<- hsq];exact z ▸ hx
     ·rw[uS];show dgU xs+o*((aw l).length-1)+_=room;rw[hsq];omega
     ·rw[Hv];show xs.length+1<=i+1;omega
    ·exact⟨_,_,_,_,us,rs,xs,left,rfl,sm.trans t4,eqm4,eqz4,hT4,hR4,hno,hF,hF2,hnd,hdg,by omega⟩
   ·exact⟨_,_,_,_,us,rs,xs,left,rfl,sm.trans t4,eqm4,eqz4,hT4,hR4,hno,hF,hF2,hnd,hdg,by omega⟩
  ·rintro σ' H' ⟨z4,z5,z6,z7,us,rs,xs,left,rfl,sm,eqm,eqz,hT,hR,hno,hF,hF2,hnd,hdg,hle⟩;exact⟨_,rfl,k pm H' us xs sm hpm eqm hT ⟨hF,hF2,hnd,by omega⟩⟩
noncomputable def usP(xs:List bv):List (List Int×Nat):=xs.map λx=>(aw x.1,x.2)
theorem jV(g:Nat->Nat)(x:List Int×Nat):∀us,fP g (us++[x])=ae (fP g us) (pw x.1 (g x.2))
 | []=>by show ae (pw x.1 (g x.2)) [1]=ae [1] _;rw[fH,ff]
 |p::us=>by show ae (pw p.1 (g p.2)) (fP g (us++[x]))=ae (ae (pw p.1 (g p.2)) (fP g us)) _;rw[jV g x us,dO]
noncomputable def tmU:List bv->Nat
 | []=>0
 |x::xs=>x.2+tmU xs
theorem pE(x:bv):∀xs,tmU (xs++[x])=tmU xs+x.2
 | []=>by simp[tmU]
 |y::xs=>by rw[Js,tmU,tmU,pE x xs];omega
theorem kg{room:Nat}:∀{xs:List bv},(∀x∈xs,Fac 11 x.1)->tmU xs<=dgU xs
 | [],_=>Ht _
 |x::xs,h=>by
  have h1:=kg (room:=room) λy hy=>h y (HC _ hy)
  have h2:=(ip (gS (h x (HE ..)))).2.2.2.1;show x.2+tmU xs<=x.2*((aw x.1).length-1)+dgU xs;have:=Jh x.2 (show 1<=(aw x.1).length-1 by omega);omega
theorem wB{xs:List bv}{i:Nat}{x:bv}(h:xs[i]?=some x):tmU (xs.take (i+1))=tmU (xs.take i)+x.2:=by rw[Ib,h];exact pE x _
theorem wC(xs:List bv)(i:Nat):tmU (xs.take i)<=tmU xs:=by
 induction xs generalizing i with
 |nil=>simp[tmU]
 |cons x xs ih =>
  cases i with
  |zero=>exact Hy _
  |succ i=>show x.2+tmU (xs.take i)<=x.2+tmU xs;have:=ih i;omega
def qi:Sp:=λvs H Q _=>∃(a:Addr) (us:List Addr) (xs:List bv),vs=[.ref a]/\H a=some (.lst (us.map V.ref))/\UsH H us xs/\UsO xs 5/\∀(p:Addr) (H':Hp),Same H H'->H p=none->H' p=some (.lst ((fP id (usP xs)).map V.int))->AllB 400 (fP id (usP xs))->(fP id (usP xs)).length<=20->Q (.ref p) H'
theorem zN(F:Fun K "_law_product_of" "_law_product_of" ll f fd)(T:Txt K mg)(gl:Cal P w K mg base 1 "_law_mul" ["_law_kp","_law_kq"] fU nF nE)(oW:Cal P w K mg base 35 "_law_shape" ["_law_factor"] ku Dc CU):FnOk P w K mg base CX0 36 f fd ["_law_uses"] qi:=by
 obtain⟨fz,fg,fo,fx⟩:=gl;obtain⟨oO,mP,m6,oA⟩:=oW;refine F.ok sc__law_product_of (λvs H Q E h=>?_) (λcdv A outer s H vs Q E hr h=>?_)
 ·obtain⟨a,us,xs,rfl,_⟩:=h;rfl
 ·obtain⟨a,us,xs,rfl,hA,hU,hO,k⟩:=h;have big:=sizeLine_eq;have t5:tmU xs<=5:=HH (kg (room:=5) hO.fac) hO.dg
  refine⟨_,(ag (am (i:=1) sc__law_product_of.nd rfl (Or.inl rfl) (bH (aa ac ad)))
   (ag (bW PassesOwn.never rfl (ci (K:=K) rfl (pv 0)) (aL (i:=2) sc__law_product_of.nd rfl (Or.inl rfl))
     (ak (bW PassesOwn.never rfl (dr rfl T.range_ (aa (ai (ay (K:=K) rfl) (pv 2) ac (λ_ _=>rfl)) ad)) (aL (i:=3) sc__law_product_of.nd rfl (Or.inl rfl))
       (ak (am (i:=1) sc__law_product_of.nd rfl (Or.inl rfl) (au fz (hr.mono) rfl fg fo fx .nil ar (aa (pv 1) (aa (au oO (hr.mono) rfl mP m6 oA .nil ar (aa (ai (ay (K:=K) rfl) (pv 2) ac (λ_ _=>rfl)) ad)) ad))))))))
   (ak (aG (pv 1))))),?_⟩
  refine ax ⟨by show 1<=sizeLine;decide,λp0 hp0=>?_⟩;have s1:Same H (upd H p0 (.lst [V.int 1])):=Same.upd_new hp0;have q1:upd H p0 (.lst [V.int 1]) p0=some (.lst (([1]:List Int).map V.int)):=aj;generalize upd H p0 (.lst [V.int 1])=H1 at s1 q1 ⊢
  have hpl:(us.map V.ref).length=xs.length:=by rw[Hs,hU.1]
  have one2:AllB 2 ([1]:List Int):=λx hx=>by rw[Hx.mp hx];show(1:Int).natAbs<2^2;decide
  refine⟨_,rfl,a,rfl,⟨_,SqL.of (s1 _ _ hA)⟩,fL (K:=K) (a:=a) (xs:=us.map V.ref) (λi σ' H'=>∃(z2 z3:Option V) (p:Addr),σ'=[some (.ref a),some (.ref p),z2,z3]/\Same H H'/\H p=none/\H' p=some (.lst ((fP id (usP (xs.take i))).map V.int))/\AllB (2+75*tmU (xs.take i)) (fP id (usP (xs.take i)))/\(fP id (usP (xs.take i))).length<=1+3*tmU (xs.take i)) ⟨none,none,p0,rfl,s1,hp0,q1,one2,by show 1<=_;omega⟩ ?_ ?_ ?_⟩
  ·rintro i σ' H' _ ⟨z2,z3,p,rfl,sm,_⟩;exact SqL.of (sm _ _ hA)
  ·rintro i v σ' H' hi ⟨z2,z3,p,rfl,sm,hp,ep,pb,pl⟩;obtain⟨u,x,rfl,eu,ex,⟨pf,hu1,hu2⟩,hlt⟩:=(hU.same sm).of_get hi;obtain⟨l,o⟩:=x;have hx:=List.mem_of_getElem? ex;have hl0:Fac 11 l:=hO.fac _ hx;have hl:=gS hl0;have ho:o=1\/o=2:=hO.two _ hx;obtain⟨g1,g2,g3,g4,g5⟩:=ip hl;have te:=wB ex;have tm:=wC xs (i+1);have te':tmU (xs.take (i+1))=tmU (xs.take i)+o:=te
   have eP:fP id (usP (xs.take (i+1)))=ae (fP id (usP (xs.take i))) (pw (aw l) o):=by rw[Ib,ex];show fP id (usP (xs.take i++[(l,o)]))=_;unfold usP;rw[Hu];exact jV id (aw l,o) _
   show pI _ _ _ _ _ _;generalize hq0:fP id (usP (xs.take i))=P0 at ep pb pl eP
   generalize ht0:tmU (xs.take i)=t0 at pb pl te'
   refine⟨_,rfl,u,_,_,_,rfl,rfl,SqT.of hu1,rfl,(o:Int),rfl,by omega,by omega,ga (lo:=0) (n:=o) (λj σ' H'=>∃(z3:Option V) (p:Addr),σ'=[some (.ref a),some (.ref p),some (.ref u),z3]/\Same H H'/\H p=none/\H' p=some (.lst ((ae P0 (pw (aw l) j)).map V.int) )/\AllB (2+75*(t0+j)) (ae P0 (pw (aw l) j))/\(ae P0 (pw (aw l) j)).length<=1+3*(t0+j)/\H' u=some (.tup [.ref pf,.int (o:Int)])/\H' pf=some (.tup (l.map V.int))) ⟨z3,p,rfl,sm,hp,by show _=some (HO.lst ((ae P0 [1]).map V.int));rw[fH];exact ep,by show AllB _ (ae P0 [1]);rw[fH];exact pb,by show(ae P0 [1]).length<=_;rw[fH];exact pl,hu1,hu2⟩ ?_ ?_⟩
   ·rintro j σ' H2 hj ⟨z3,p,rfl,s2,hp,ep,pb,pl,hu1,hu2⟩;have hj':j<o:=by omega
    have tj:t0+j+1<=5:=by omega
    have pl9:(ae P0 (pw (aw l) j)).length<=16:=by omega
    refine dq ⟨_,rfl,_,rfl,u,_,_,_,rfl,rfl,SqT.of hu1,rfl,pf,l,rfl,hu2,hl,λr H3 s3 hr3 e3=>?_⟩;refine⟨p,r,ae P0 (pw (aw l) j),aw l,rfl,s3 _ _ ep,e3,by omega,by omega,pb.mono (by omega),g3.mono,λr2 H4 s4 hr4 e4=>?_⟩;have t4:=s3.trans s4
    have em:ae (ae P0 (pw (aw l) j)) (aw l)=ae P0 (pw (aw l) (j+1)):=by show _=ae P0 (ae (aw l) (pw (aw l) j));rw[dO,fG (pw (aw l) j) (aw l)]
    rw[em]at e4;refine⟨_,r2,rfl,s2.trans t4,(s2.trans s3).free hr4,e4,?_,?_,t4 _ _ hu1,t4 _ _ hu2⟩
    ·rw[<- em];exact jL pb g3 (by omega)
    ·rw[<- em];have:=f7 (ae P0 (pw (aw l) j)) (aw l);omega
   ·rintro σ' H2 ⟨z3,p,rfl,s2,hp,ep,pb,pl,_,_⟩;refine⟨_,_,p,rfl,s2,hp,?_,?_,?_⟩
    ·rw[eP];exact ep
    ·rw[eP,te'];exact pb
    ·rw[eP,te'];exact pl
  ·rintro σ' H' ⟨z2,z3,p,rfl,sm,hp,ep,pb,pl⟩;rw[hpl,HY]at ep pb pl;exact⟨_,rfl,k p H' sm hp ep (pb.mono (by omega)) (by omega)⟩
def qD:Sp:=λvs H Q _=>∃(a lo hi:Addr) (ws:List Addr) (ls:List (List Int)) (t n t' n':Int),vs=[.ref a,.ref lo,.ref hi]/\H a=some (.lst (ws.map V.ref))/\TuH H ws ls/\(∀x∈ls,SpK x)/\H lo=some (.tup ([t,n].map V.int))/\H hi=some (.tup ([t',n'].map V.int))/\Bits 900 t/\Bits 900 n/\Bits 900 t'/\Bits 900 n'/\Q (.int ((ls.map λl=>if 0<aU l t n/\aU l t' n'<=0 then(1:Int)else 0).sum)) H
theorem wP(l:List Int)(x:Int):(l++[x]).sum=l.sum+x:=by rw[List.sum_append];simp
theorem Af(F:Fun K "_law_amid" "_law_amid" lM f fd)(T:Txt K mg)(Fv:Cal P w K mg base 3 "_law_way" ["_law_spot","_law_top","_law_bottom"] pZ G0 Gm):FnOk P w K mg base CX0 4 f fd ["_law_spots","_law_low","_law_high"] qD:=by
 obtain⟨vT,sX,tO,vz⟩:=Fv;refine F.ok sc__law_amid (λvs H Q E h=>?_) (λcdv A outer s H vs Q E hr h=>?_)
 ·obtain⟨a,lo,hi,ws,ls,t,n,t',n',rfl,_⟩:=h;rfl
 ·obtain⟨a,lo,hi,ws,ls,t,n,t',n',rfl,hA,hT,hK,hlo,hhi,b1,b2,b3,b4,k⟩:=h
  refine⟨_,(ag (am (i:=3) sc__law_amid.nd rfl (Or.inl rfl) ac)
   (ag (bW PassesOwn.never rfl (ci (K:=K) rfl (pv 0)) (aL (i:=4) sc__law_amid.nd rfl (Or.inl rfl))
     (ak (aW (PW.pt (cF (aD cM (au vT (hr.mono) rfl sX tO vz .nil ar (aa (pv 4) (aa (ai (ay (K:=K) rfl) (pv 1) ac (λ_ _=>rfl)) (aa (ai (ay (K:=K) rfl) (pv 1) ac (λ_ _=>rfl)) ad)))) ac (av _)) (cU (aD gI (au vT (hr.mono) rfl sX tO vz .nil ar (aa (pv 4) (aa (ai (ay (K:=K) rfl) (pv 2) ac (λ_ _=>rfl)) (aa (ai (ay (K:=K) rfl) (pv 2) ac (λ_ _=>rfl)) ad)))) ac (av _)))))
       (ak (am (i:=3) sc__law_amid.nd rfl (Or.inl rfl) (af aT (pv 3) ac)))
       aV)))
   (ak (aG (pv 3))))),?_⟩
  refine ax ?_;refine⟨_,rfl,a,rfl,⟨_,SqL.of hA⟩,fL (K:=K) (a:=a) (xs:=ws.map V.ref) (λi σ' H'=>∃z4:Option V,σ'=[some (.ref a),some (.ref lo),some (.ref hi),some (.int (((ls.take i).map λl=>if 0<aU l t n/\aU l t' n'<=0 then(1:Int)else 0).sum)),z4]/\H=H') ⟨none,rfl,rfl⟩ ?_ ?_ ?_⟩
  ·rintro i σ' H' _ ⟨z4,rfl,rfl⟩;exact SqL.of hA
  ·rintro i v σ' H' hi' ⟨z4,rfl,rfl⟩;obtain⟨q,y,rfl,eq,ey,hq,hlt⟩:=hT.of_get hi';have hy:=hK y (List.mem_of_getElem? ey);rw[Ib,ey];show cS _ _ _ _ _ _
   have eS:(((ls.take i++(some y).toList).map λl=>if 0<aU l t n/\aU l t' n'<=0 then(1:Int)else 0).sum)=((ls.take i).map λl=>if 0<aU l t n/\aU l t' n'<=0 then(1:Int)else 0).sum+(if 0<aU y t n/\aU y t' n'<=0 then(1:Int)else 0):=by rw[Hu];exact wP _ _
   have no:¬(0<aU y t n/\aU y t' n'<=0)->∃z4:Option V,[some (V.ref a),some (.ref lo),some (.ref hi),some (.int (((ls.take i).map λl=>if 0<aU l t n/\aU l t' n'<=0 then(1:Int)else 0).sum)),some (.ref q)]=[some (.ref a),some (.ref lo),some (.ref hi),some (.int (((ls.take i++(some y).toList).map λl=>if 0<aU l t n/\aU l t' n'<=0 then(1:Int)else 0).sum)),z4]/\H=H:=λhn=>⟨_,by rw[eS,if_neg hn,Iv],rfl⟩
   refine iu (cg ⟨_,rfl,_,rfl,lo,_,_,_,rfl,rfl,SqT.of hlo,rfl,_,rfl,lo,_,_,_,rfl,rfl,SqT.of hlo,rfl,q,y,t,n,rfl,hq,hy,b1,b2,_,_,rfl,rfl,_,rfl,aC (λh1=>?_) (λh1=>bV (no λz=>h1 z.1))⟩);refine⟨_,rfl,_,rfl,hi,_,_,_,rfl,rfl,SqT.of hhi,rfl,_,rfl,hi,_,_,_,rfl,rfl,SqT.of hhi,rfl,q,y,t',n',rfl,hq,hy,b3,b4,_,_,rfl,rfl,_,rfl,aC (λh2=>?_) (λh2=>no λz=>h2 z.2)⟩;refine dq ⟨_,rfl,_,_,rfl,rfl,some (.ref q),?_,rfl⟩;rw[eS,if_pos ⟨h1,h2⟩];rfl
  ·rintro σ' H' ⟨z4,rfl,rfl⟩;rw[Hs,hT.1,HY];exact⟨_,rfl,k⟩
def qr:Sp:=λvs H Q _=>∃(c:Int) (a:Addr) (qs:List Addr) (fs:List (List Int)),vs=[.int c,.ref a]/\H a=some (.lst (qs.map V.ref))/\TuH H qs fs/\(∀l∈fs,SpK l)/\fs.length<=100 /\
 ∀(p:Addr) (H':Hp) (x y:Int),Same H H'->H p=none->H' p=some (.tup ([x,y].map V.int)) -> -30<=x->x<=30->1<=y->y<=9->Q (.ref p) H'
theorem zW(F:Fun K "_law_end" "_law_end" lE f fd)(T:Txt K mg)(oU:Cal P w K mg base 1 "_law_within" ["_law_cell","_law_most"] kr Da CQ):FnOk P w K mg base CX0 2 f fd ["_law_cell","_law_spots"] qr:=by
 obtain⟨iV,iC,iG,iS⟩:=oU;refine F.ok sc__law_end (λvs H Q E h=>?_) (λcdv A outer s H vs Q E hr h=>?_)
 ·obtain⟨c,a,qs,fs,rfl,_⟩:=h;rfl
 ·obtain⟨c,a,qs,fs,rfl,hA,hT,hF,hn,k⟩:=h;have big:=sizeLine_eq
  refine⟨_,(ag (yz (i:=2) sc__law_end.nd rfl (Or.inl rfl) (own:=["_law_one"]) (fr:=[]) (js:=[]) (by walk_at "comp_ok") rfl (ci (K:=K) rfl (pv 1)) (λ_ _ _ _=>(aL (i:=0) (show List.Nodup (["_law_one"]:List Str)from by decide +kernel) rfl (Or.inl rfl))) (λ_ _ _ _=>(pv 0)) (λ_ _ _ _=>(PW.pt (cF (aD bh (aI (aX (K:=K) rfl) (by rfl) T.len_ PySem.boot_len (aa (pv 0) ad)) ac (av _)) (cU (aD bh (ai (ay (K:=K) rfl) (pv 0) ac (λ_ _=>rfl)) ac (av _)))))) (by rfl))
   (ag (aW (PW.pt (cF (aD bh (af aY (pv 0) ac) ac (av _)) (cU (aD cM (aI (aX (K:=K) rfl) (by rfl) T.len_ PySem.boot_len (aa (pv 2) ad)) ac (av _)))))
     (ag (am (i:=3) sc__law_end.nd rfl (Or.inl rfl) (ai (aM (K:=K) rfl) (pv 2) (af aY (af b7 (pv 0) ac) (aI (aX (K:=K) rfl) (by rfl) T.len_ PySem.boot_len (aa (pv 2) ad))) (λ_ _=>rfl)))
       (ak (aG (bS (aa (ai (ay (K:=K) rfl) (pv 3) ac (λ_ _=>rfl)) (aa (ai (ay (K:=K) rfl) (pv 3) ac (λ_ _=>rfl)) ad))))))
     aV)
   (ak (aG (bS (aa (au iV (hr.mono) rfl iC iG iS .nil ar (aa (af b7 (pv 0) ac) (aa ac ad))) (aa (af aT ac (af aY (af aY (af eE (pv 0) ac) ac) ac)) ad))))))),?_⟩
  have hpl:(qs.map V.ref).length=fs.length:=by rw[Hs,hT.1]
  refine jw ⟨_,rfl,a,rfl,⟨_,SqL.of hA⟩,DJ (K:=K) (a:=a) (xs:=qs.map V.ref) (λi ys σ' H'=>∃(z0:Option V) (rs:List Addr) (gs:List (List Int)),σ'=[z0]/\ys=rs.map V.ref/\rs.length<=i/\TuH H rs gs/\(∀l∈gs,∃u e b s:Int,l=[u,e,b,s] /\ -11<=u/\u<=11/\1<=b/\b<=3)/\H=H') (by omega) ⟨none,[],[],rfl,rfl,Ht _,TuH.nil,λl hl=>by simp at hl,rfl⟩ ?_ ?_ ?_⟩
  ·rintro i ys σ' H' _ ⟨z0,rs,gs,rfl,rfl,hl,_,_,rfl⟩;exact⟨SqL.of hA,by rw[Hs];exact hl⟩
  ·rintro i x ys σ' H' hi ⟨z0,rs,gs,rfl,rfl,hl,hT',hG,rfl⟩;obtain⟨q,l,rfl,eq,el,hq,hlt⟩:=hT.of_get hi;have hno:∃(z0:Option V) (rs':List Addr) (gs:List (List Int)),[some (V.ref q)]=[z0]/\rs.map V.ref=rs'.map V.ref/\rs'.length<=i+1/\TuH H rs' gs/\(∀l∈gs,∃u e b s:Int,l=[u,e,b,s] /\ -11<=u/\u<=11/\1<=b/\b<=3)/\H=H:=⟨_,rs,gs,rfl,rfl,by omega,hT',hG,rfl⟩;have k5:∀a b c m:Int,l=[a,b,c,m,0]->¬(((l.map V.int).length:Int)=4):=λa b c m e=>by rw[e];show ¬((5:Nat):Int)=4;decide
   refine cg ⟨_,rfl,q,_,rfl,.inr (SqT.of hq),_,_,rfl,rfl,_,rfl,aC (λh4=>?_) (λ_=>bV hno)⟩;rcases hF l (List.mem_of_getElem? el)with⟨a',b',c',m',rfl,_⟩ |⟨a',rfl,_⟩ |⟨u,e,b,s,rfl,h1,h2,_,_,h5,h6,_⟩
   ·exact absurd h4 (by show ¬((5:Nat):Int)=4;decide)
   ·exact absurd h4 (by show ¬((5:Nat):Int)=4;decide)
   refine⟨_,rfl,q,_,_,_,rfl,rfl,SqT.of hq,rfl,_,_,rfl,rfl,_,rfl,aC (λh0=>?_) (λ_=>hno)⟩;refine⟨_,rfl,_,rs++[q],gs++[[u,e,b,s]],rfl,by rw[Hu];rfl,by rw[Hv];show rs.length+1<=i+1;omega,hT'.snoc hq,λl hl=>?_,rfl⟩;rcases HP.mp hl with z |z
   ·exact hG l z
   ·rw[Hx.mp z];exact⟨u,e,b,s,rfl,h1,h2,h5,h6⟩
  rintro ys σ' H' pk ⟨z0,rs,gs,rfl,rfl,hl,hT',hG,rfl⟩ hpk;have s1:Same H (upd H pk (.lst (rs.map V.ref))):=Same.upd_new hpk;have ek:upd H pk (.lst (rs.map V.ref)) pk=some (.lst (rs.map V.ref)):=aj;generalize upd H pk (.lst (rs.map V.ref))=H1 at s1 ek ⊢
  refine lW ?_;dsimp only
  have hrl:(rs.map V.ref).length=rs.length:=Hs _;have b2:Bits 9000 (2:Int):=aS (by decide) (by decide);refine cL (λσ' H'=>σ'=[some (.int c),some (.ref a),some (.ref pk),none]/\H1=H') ?_ ?_
  case refine_2 =>
   intro rest;refine cg ⟨_,rfl,_,_,rfl,rfl,(by show(0:Int)<2;decide),_,_,rfl,rfl,_,rfl,aC (λ_=>?_) (λ_=>bV (rest _ _ ⟨rfl,rfl⟩))⟩;refine⟨_,rfl,pk,_,rfl,.inl (SqL.of ek),_,_,rfl,rfl,_,rfl,aC (λh0=>?_) (λ_=>rest _ _ ⟨rfl,rfl⟩)⟩;have h0':0<((rs.map V.ref).length:Int):=h0;have hk0:0<rs.length:=by rw[hrl]at h0';omega
   obtain⟨v,hv',ev⟩:=Ex (xs:=rs.map V.ref) (n:=((rs.map V.ref).length:Int)) rfl (by rw[hrl];omega) (c/2);obtain⟨q,hq,rfl⟩:=Hz.mp hv';obtain⟨i,hi,ei⟩:=List.mem_iff_getElem.mp hq;have hi2:i<gs.length:=by rw[<- hT'.1];exact hi
   have hqH:=hT'.2 i q _ (by rw[List.getElem?_eq_getElem hi,ei]) (List.getElem?_eq_getElem hi2);obtain⟨u,e,b,s,hl4,h1,h2,h5,h6⟩:=hG _ (Ia hi2);rw[hl4]at hqH;have hq1:=s1 _ _ hqH;refine ax ⟨_,rfl,_,rfl,_,_,rfl,rfl,⟨by show(0:Int)<2;decide,b2⟩,_,rfl,pk,_,rfl,.inl (SqL.of ek),_,_,rfl,rfl,(by show(0:Int)<_;rw[hrl];omega),pk,_,_,_,rfl,rfl,SqL.of ek,ev,?_⟩;refine bJ ⟨_,rfl,q,_,_,_,rfl,rfl,SqT.of hq1,rfl,_,rfl,q,_,_,_,rfl,rfl,SqT.of hq1,rfl,by show 2<=sizeLine;decide,λp hp=>?_⟩;exact k p _ u b (s1.then_new hp) (s1.free hp) aj (by omega) (by omega) h5 (by omega)
  rintro σ' H' ⟨rfl,rfl⟩;refine bJ ⟨_,rfl,_,_,rfl,rfl,⟨by show(0:Int)<2;decide,b2⟩,_,30,rfl,by decide,aS (by decide) (by decide),_,rfl,_,_,rfl,rfl,.inr ⟨by decide,by decide⟩,_,_,rfl,rfl,(by show(0:Int)<10007;decide),_,_,rfl,rfl,(by show(0:Int)<9;decide),_,_,rfl,rfl,by show 2<=sizeLine;decide,λp hp=>?_⟩;obtain⟨q1,q2⟩:=bN (x:=c/2) (m:=2*30+1) (by decide);obtain⟨q3,q4⟩:=bN (x:=c*48271%10007) (m:=9) (by decide);refine k p _ (c/2%(2*30+1)-30) (1+c*48271%10007%9) (s1.then_new hp) (s1.free hp) aj ?_ ?_ ?_ ?_
  all_goals omega
def qu:Sp:=λvs H Q _=>∃(c:Int) (n:Nat),vs=[.int c,.int (n:Int),.int 19]/\n<=100/\∀(p:Addr) (ys:List Int) (H':Hp),Same H H'->H p=none->H' p=some (.lst (ys.map V.int))->Tr ys->ys.length<=n->AllB 10 ys->Q (.ref p) H'
theorem zY(F:Fun K "_law_digits" "_law_digits" lF f fd)(T:Txt K mg)(dY:Cal P w K mg base 1 "_law_trim" ["_law_row"] (eX K) iK iJ):FnOk P w K mg base CX0 2 f fd ["_law_left","_law_size","_law_wide"] qu:=by
 obtain⟨dj,db,dd,dh⟩:=dY;refine F.ok sc__law_digits (λvs H Q E h=>?_) (λcdv A outer s H vs Q E hr h=>?_)
 ·obtain⟨c,n,rfl,_⟩:=h;rfl
 ·obtain⟨c,n,rfl,hn,k⟩:=h;have big:=sizeLine_eq;have b19:Bits 9000 (19:Int):=aS (by decide) (by decide)
  refine⟨_,(ag (am (i:=3) sc__law_digits.nd rfl (Or.inl rfl) (bH ad))
   (ag (bW PassesOwn.never rfl (dr rfl T.range_ (aa (pv 1) ad)) (aL (i:=4) sc__law_digits.nd rfl (Or.inl rfl))
     (ag (bX (cH PySem.F.plainAttrs_list PySem.F.slot_list_append PySem.F.type_list_append cJ (pv 3) (aa (af aZ (af aY (pv 0) (pv 2)) (af b7 (pv 2) ac)) ad)))
       (ak (am (i:=0) sc__law_digits.nd rfl (Or.inl rfl) (af b7 (pv 0) (pv 2))))))
   (ak (aG (au dj (hr.mono) rfl db dd dh .nil ar (aa (pv 3) ad)))))),?_⟩
  refine ax ⟨by show 0<=sizeLine;decide,λp hp=>?_⟩;have s1:Same H (upd H p (.lst [])):=Same.upd_new hp;have q1:upd H p (.lst []) p=some (.lst (([]:List Int).map V.int)):=aj;generalize upd H p (.lst [])=H1 at s1 q1 ⊢
  refine⟨_,rfl,(n:Int),rfl,by omega,by omega,ga (lo:=0) (n:=n) (λj σ' H'=>∃(z4:Option V) (d:Int) (ys:List Int),σ'=[some (.int d),some (.int (n:Int)),some (.int 19),some (.ref p),z4]/\Same H H'/\H' p=some (.lst (ys.map V.int))/\ys.length=j/\AllB 10 ys) ⟨none,c,[],rfl,s1,q1,rfl,λx hx=>by simp at hx⟩ ?_ ?_⟩
  ·rintro j σ' H2 hj ⟨z4,d,ys,rfl,s2,e2,hl,hb⟩;obtain⟨g1,g2⟩:=bN (x:=d) (m:=19) (by decide);have e9:(19:Int)/2=9:=rfl;refine d9 ⟨_,rfl,.inl ⟨rfl,_,SqL.of e2⟩,_,rfl,_,rfl,_,_,rfl,rfl,(by show(0:Int)<19;decide),_,rfl,_,_,rfl,rfl,⟨by show(0:Int)<2;decide,aS (by decide) (by decide)⟩,_,_,rfl,rfl,p,_,_,rfl,rfl,e2,by rw[Hs];omega,?_⟩;refine dq ⟨_,rfl,_,rfl,_,_,rfl,rfl,⟨by show(0:Int)<19;decide,b19⟩,_,_,ys++[d%19-19/2],rfl,cO s2 hp,by rw[aj,<- sT],by rw[Hv,hl];rfl,λx hx=>?_⟩;rcases HP.mp hx with z |z
   ·exact hb x z
   ·rw[Hx.mp z];exact aS (by omega) (by decide)
  ·rintro σ' H2 ⟨z4,d,ys,rfl,s2,e2,hl,hb⟩;refine⟨_,rfl,p,ys,rfl,SqL.of e2,λp' H4 s4 hp' e4=>k p' _ H4 (s2.trans s4) (s2.free hp') e4 (bP _) ?_ ?_⟩
   ·have:=gP ys;omega
   ·exact hb.trim
def RwX(H:Hp)(l lk:Addr)(ps:List Addr)(r:List (List Int)):Prop:=RwH H ps r/\∀p∈ps,p≠l/\p≠lk
structure Pap(H:Hp)(l lk:Addr)(ps ls:List Addr)(r:List (List Int))(xs:List Lnk):Prop where
 ne:l≠lk
 hl:H l=some (.lst (ps.map V.ref))
 hk:H lk=some (.lst (ls.map V.ref))
 rw:RwX H l lk ps r
 lx:LkX H l lk ls xs
noncomputable def bK(o:Int):Nat->Int
 |0=>1
 |1=>1
 |k+2=>1+o/((k:Int)+1)%7
noncomputable def mK(c:Int)(k:Nat):Int:=1+c/((k:Int)+1)%7
theorem jM(c:Int)(k:Nat):1<=mK c k/\mK c k<=7:=by obtain⟨h1,h2⟩:=bN (x:=c/((k:Int)+1)) (m:=7) (by decide);unfold mK;omega
theorem dH(o:Int):∀k,1<=bK o k/\bK o k<=7
 |0=>by show(1:Int)<=1/\(1:Int)<=7;decide
 |1=>by show(1:Int)<=1/\(1:Int)<=7;decide
 |k+2=>jM o k
noncomputable def bL(o:Int)(n:Nat):List Int:=(List.range (n+2)).map (bK o)
theorem Et(o:Int)(n:Nat):([1,1]:List Int)++((List.range n).map λk=>mK o k)=bL o n:=by unfold bL;rw[List.range_succ_eq_map,List.range_succ_eq_map];simp only[Is,Iw];rfl
theorem j6{o:Int}{n k:Nat}(h:k<n+2){i:Int}(hi:i=(k:Int)):atI ((bL o n).map V.int) i=some (.int (bK o k)):=by rw[hi];refine fy ?_;unfold bL;rw[Iw,List.getElem?_map,List.getElem?_range h];rfl
noncomputable def scK(o c:Int)(k:Nat)(x:Lnk):Lnk:=(mK c k*bK o (k+1)*bK o (k+2)*x.1,ae [mK c k*bK o k*bK o (k+2)] x.2.1,mK c k*bK o k*bK o (k+1)*x.2.2)
noncomputable def scX(o c:Int)(xs:List Lnk)(i:Nat):List Lnk:=(List.range i).map λk=>scK o c k (xs.getD k (0,[],0))
theorem xP(o c:Int){xs:List Lnk}{i:Nat}{x:Lnk}(h:xs[i]?=some x):scX o c xs (i+1)=scX o c xs i++[scK o c i x]:=by unfold scX;rw[IW,Hu,Is,List.map_nil,List.getD_eq_getElem?_getD,h];rfl
noncomputable def scR(o:Int)(r:List (List Int))(i:Nat):List (List Int):=(List.range i).map λk=>ae [bK o k] (r.getD k [])
theorem xQ(o:Int){r:List (List Int)}{i:Nat}{x:List Int}(h:r[i]?=some x):scR o r (i+1)=scR o r i++[ae [bK o i] x]:=by unfold scR;rw[IW,Hu,Is,List.map_nil,List.getD_eq_getElem?_getD,h];rfl
def j7(x:Lnk):Prop:=Bits 740000 x.1/\Bits 740000 x.2.2/\AllB 740000 x.2.1/\x.2.1.length<=10
theorem eR{x:Int}(h:1<=x/\x<=7):Bits 3 x:=by show x.natAbs<2^3;have:(2:Nat)^3=8:=rfl;omega
theorem fD{k:Nat}{x:Int}(h:Bits k x):AllB k [x]:=λy hy=>by rw[Hx.mp hy];exact h
def qf:Sp:=λvs H Q _=>∃(l lk:Addr) (ps ls:List Addr) (r:List (List Int)) (xs:List Lnk) (c o:Int),vs=[.ref l,.ref lk,.int c,.int o]/\H l=some (.lst (ps.map V.ref))/\RwH H ps r/\H lk=some (.lst (ls.map V.ref))/\LkH H ls xs/\(∀x∈xs,j7 x)/\(∀x∈r,RwS x)/\r.length<=100/\xs.length+2=r.length /\
 ∀(t l lk:Addr) (ps ls:List Addr) (H':Hp),Same H H'->H l=none->H lk=none->H' t=some (.tup [.ref l,.ref lk])->Pap H' l lk ps ls (scR o r r.length) (scX o c xs xs.length)->Q (.ref t) H'
theorem zL(F:Fun K "_law_scaled" "_law_scaled" lh f fd)(T:Txt K mg)(gl:Cal P w K mg base 1 "_law_mul" ["_law_kp","_law_kq"] fU nF nE):FnOk P w K mg base CX0 2 f fd ["_law_row","_law_links","_law_cell","_law_other"] qf:=by
 obtain⟨fz,fg,fo,fx⟩:=gl;refine F.ok sc__law_scaled (λvs H Q E h=>?_) (λcdv A outer s H vs Q E hr h=>?_)
 ·obtain⟨l,lk,ps,ls,r,xs,c,o,rfl,_⟩:=h;rfl
 ·obtain⟨l,lk,ps,ls,r,xs,c,o,rfl,hl,hR,hk,hL,hX,hW,hrl,hxr,kk⟩:=h;have big:=sizeLine_eq;have hll:(ls.map V.ref).length=xs.length:=by rw[Hs,hL.1]
  have hpl:(ps.map V.ref).length=r.length:=by rw[Hs,hR.1]
  refine⟨_,(ag (am (i:=4) sc__law_scaled.nd rfl (Or.inr rfl) (af si (bH (aa ac (aa ac ad))) (cG (own:=["_law_k"]) (fr:=["_law_other"]) (js:=[3]) (by walk_at "comp_ok") rfl (dr rfl T.range_ (aa (aI (aX (K:=K) rfl) (by rfl) T.len_ PySem.boot_len (aa (pv 1) ad)) ad)) (λ_ _ _ _=>(aL (i:=0) (show List.Nodup (["_law_k","_law_other"]:List Str)from by decide +kernel) rfl (Or.inl rfl))) (λ_ _ _ _=>(af aT ac (af aY (af b7 (pv 1) (af aT (pv 0) ac)) ac))))))
   (ag (am (i:=5) sc__law_scaled.nd rfl (Or.inl rfl) (bH ad))
   (ag (bW PassesOwn.never rfl (fb rfl T.enumerate_ (aa (pv 1) ad)) (fC rfl (cj (aL (i:=6) sc__law_scaled.nd rfl (Or.inl rfl)) (cj (aL (i:=7) sc__law_scaled.nd rfl (Or.inl rfl)) eC)))
     (ag (am (i:=8) sc__law_scaled.nd rfl (Or.inl rfl) (af aT ac (af aY (af b7 (pv 2) (af aT (pv 6) ac)) ac)))
       (ag (am (i:=9) sc__law_scaled.nd rfl (Or.inl rfl) (au fz (hr.mono) rfl fg fo fx .nil ar (aa (bH (aa (af aH (af aH (pv 8) (ai (aM (K:=K) rfl) (pv 4) (pv 6) (λ_ _=>rfl))) (ai (aM (K:=K) rfl) (pv 4) (af aT (pv 6) ac) (λ_ _=>rfl))) ad)) (aa (ai (ay (K:=K) rfl) (pv 7) ac (λ_ _=>rfl)) ad))))
       (ak (bX (cH PySem.F.plainAttrs_list PySem.F.slot_list_append PySem.F.type_list_append cJ (pv 5) (aa (bS (aa (af aH (af aH (af aH (pv 8) (ai (aM (K:=K) rfl) (pv 4) (af aT (pv 6) ac) (λ_ _=>rfl))) (ai (aM (K:=K) rfl) (pv 4) (af aT (pv 6) ac) (λ_ _=>rfl))) (ai (ay (K:=K) rfl) (pv 7) ac (λ_ _=>rfl))) (aa (pv 9) (aa (af aH (af aH (af aH (pv 8) (ai (aM (K:=K) rfl) (pv 4) (pv 6) (λ_ _=>rfl))) (ai (aM (K:=K) rfl) (pv 4) (af aT (pv 6) ac) (λ_ _=>rfl))) (ai (ay (K:=K) rfl) (pv 7) ac (λ_ _=>rfl))) ad)))) ad)))))))
   (ak (aG (bS (aa (cG (own:=["_law_k","_law_one"]) (fr:=["_law_by"]) (js:=[4]) (by walk_at "comp_ok") rfl (fb rfl T.enumerate_ (aa (pv 0) ad)) (λ_ _ _ _=>(mr (K:=K) (n:=2) rfl rfl (cj (aL (i:=0) (show List.Nodup (["_law_k","_law_one","_law_by"]:List Str)from by decide +kernel) rfl (Or.inl rfl) (Or.inr rfl)) (cj (aL (i:=1) (show List.Nodup (["_law_k","_law_one","_law_by"]:List Str)from by decide +kernel) rfl (Or.inl rfl) (Or.inr rfl)) eC rfl) rfl) rfl rfl)) (λ_ _ _ _=>(au fz (hr.mono) rfl fg fo fx .nil ar (aa (bH (aa (ai (aM (K:=K) rfl) (pv 2) (pv 0) (λ_ _=>rfl)) ad)) (aa (pv 1) ad))))) (aa (pv 5) ad)))))))),?_⟩
  refine ax ⟨by show 2<=sizeLine;decide,λpA hpA=>?_⟩;have s1:Same H (upd H pA (.lst [V.int 1,V.int 1])):=Same.upd_new hpA;have q1:upd H pA (.lst [V.int 1,V.int 1]) pA=some (.lst [V.int 1,V.int 1]):=aj;generalize upd H pA (.lst [V.int 1,V.int 1])=H1 at s1 q1 ⊢
  refine⟨_,rfl,lk,_,rfl,.inl (SqL.of (s1 _ _ hk)),((ls.map V.ref).length:Int),rfl,by omega,by omega,gY (lo:=0) (n:=(ls.map V.ref).length) (λi ys σ' H'=>∃z:Option V,σ'=[z,some (.int o)]/\ys=((List.range i).map λk=>mK o k).map V.int/\H1=H') (by omega) ⟨none,rfl,rfl,rfl⟩ ?_ ?_ ?_⟩
  ·rintro i ys σ' H' _ ⟨z,rfl,rfl,rfl⟩;simp
  ·rintro i ys σ' H' hi ⟨z,rfl,rfl,rfl⟩;have e0:(0:Int)+(i:Int)+1=(i:Int)+1:=by omega
   refine⟨_,rfl,_,rfl,_,_,rfl,rfl,_,_,rfl,rfl,⟨by omega,Bits.mono (j:=10) (by show Int.natAbs _<1024;omega) (by decide)⟩,_,_,rfl,rfl,(by show(0:Int)<7;decide),_,_,rfl,rfl,_,rfl,?_,rfl⟩;rw[IW,Hu,Hu,e0];rfl
  rintro ys σ' H' pB ⟨z,rfl,rfl,rfl⟩ hpB;refine⟨pA,pB,[V.int 1,V.int 1],_,rfl,rfl,(Same.upd_new hpB) _ _ q1,aj,by rw[Hs,Hs,Ih];show 2+_<=_;omega,λpb hpb=>?_⟩;have s2:=(s1.then_new (o:=.lst (((List.range (ls.map V.ref).length).map λk=>mK o k).map V.int)) hpB);have s3:=s2.then_new (o:=.lst ((bL o xs.length).map V.int)) hpb;have q3:upd (upd H1 pB (.lst (((List.range (ls.map V.ref).length).map λk=>mK o k).map V.int))) pb (.lst ((bL o xs.length).map V.int)) pb=some (.lst ((bL o xs.length).map V.int)):=aj
  have eb:([V.int 1,V.int 1]:List V)++(((List.range (ls.map V.ref).length).map λk=>mK o k).map V.int)=(bL o xs.length).map V.int:=by rw[hll,<- Et,Hu];rfl
  rw[eb];show bz _ _ _ _ (upd (upd H1 pB (.lst (((List.range (ls.map V.ref).length).map λk=>mK o k).map V.int))) pb (.lst ((bL o xs.length).map V.int)));generalize upd (upd H1 pB (.lst (((List.range (ls.map V.ref).length).map λk=>mK o k).map V.int))) pb (.lst ((bL o xs.length).map V.int))=H3 at s3 q3 ⊢
  clear s1 q1 s2;refine ax ⟨Hy _,λkt hkt=>?_⟩;have s4:=s3.then_new (o:=.lst []) hkt;have q4:=(Same.upd_new (o:=.lst []) hkt) _ _ q3;have e4:upd H3 kt (.lst []) kt=some (.lst (([]:List Addr).map V.ref)):=aj;have fk:=s3.free hkt;have nb:pb≠kt:=aE q3 hkt;generalize upd H3 kt (.lst [])=H4 at s4 q4 e4 ⊢
  refine⟨_,rfl,lk,rfl,⟨_,SqL.of (s4 _ _ hk)⟩,gR (K:=K) (a:=lk) (xs:=ls.map V.ref) (λi σ' H'=>∃(z6 z7 z8 z9:Option V) (ls':List Addr),σ'=[some (.ref l),some (.ref lk),some (.int c),some (.int o),some (.ref pb),some (.ref kt),z6,z7,z8,z9]/\Same H H'/\H' pb=some (.lst ((bL o xs.length).map V.int))/\H' kt=some (.lst (ls'.map V.ref))/\LkX H' kt kt ls' (scX o c xs i)/\ls'.length=i) ⟨none,none,none,none,[],rfl,s4,q4,e4,⟨rfl,λi p x h=>by simp at h⟩,rfl⟩ ?_ ?_ ?_⟩
  ·rintro i σ' H' _ ⟨z6,z7,z8,z9,ls',rfl,sm,_⟩;exact SqL.of (sm _ _ hk)
  ·rintro i v σ' H5 q hi ⟨z6,z7,z8,z9,ls',rfl,s5,q5,e5,hL5,hlen⟩ hq;obtain⟨p,x,rfl,ep,ex,⟨qa,hp1,hp2⟩,hlt⟩:=(hL.same s5).of_get hi;have n6:=Same.upd_new (o:=.tup [.int (i:Int),.ref p]) hq;refine⟨q,_,rfl,SqT.of aj,rfl,?_⟩;refine⟨_,_,rfl,_,_,rfl,rfl,?_⟩;have s6:=s5.trans n6;have q6:=n6 _ _ q5;have e6:=n6 _ _ e5;have hL6:=hL5.same n6;have hp1':=n6 _ _ hp1;have hp2':=n6 _ _ hp2;generalize upd H5 q (.tup [.int (i:Int),.ref p])=H6 at s6 q6 e6 hL6 hp1' hp2' ⊢
   refine ax ⟨_,rfl,_,rfl,_,_,rfl,rfl,_,_,rfl,rfl,⟨by omega,Bits.mono (j:=10) (by show Int.natAbs _<1024;omega) (by decide)⟩,_,_,rfl,rfl,(by show(0:Int)<7;decide),_,_,rfl,rfl,?_⟩;have hB:=hX x (List.mem_of_getElem? ex);have m3:=eR (jM c i);have b0:=eR (dH o i);have b1:=eR (dH o (i+1));have b2:=eR (dH o (i+2));have a0:atI ((bL o xs.length).map V.int) (i:Int)=_:=j6 (o:=o) (n:=xs.length) (k:=i) (by omega) rfl;have a1:atI ((bL o xs.length).map V.int) ((i:Int)+1)=_:=j6 (o:=o) (n:=xs.length) (k:=i+1) (by omega) (by omega);have a2:atI ((bL o xs.length).map V.int) ((i:Int)+2)=_:=j6 (o:=o) (n:=xs.length) (k:=i+2) (by omega) (by omega);refine ax ⟨_,rfl,_,rfl,_,rfl,pb,_,_,_,rfl,rfl,SqL.of q6,a0,_,_,rfl,rfl,⟨m3.mono,b0.mono⟩,_,rfl,_,rfl,_,_,rfl,rfl,pb,_,_,_,rfl,rfl,SqL.of q6,a2,_,_,rfl,rfl,⟨(m3.mul b0).mono,b2.mono⟩,by show 1<=sizeLine;decide,λpm hpm=>?_⟩;have n7:=Same.upd_new (o:=.lst [.int (mK c i*bK o i*bK o (i+2))]) hpm;have e7:upd H6 pm (.lst [.int (mK c i*bK o i*bK o (i+2))]) pm=some (.lst (([mK c i*bK o i*bK o (i+2)]:List Int).map V.int)):=aj;refine⟨_,rfl,p,_,_,_,rfl,rfl,SqT.of (n7 _ _ hp1'),rfl,?_⟩;refine⟨pm,qa,[mK c i*bK o i*bK o (i+2)],x.2.1,rfl,e7,n7 _ _ hp2',by show 1<=_;decide,by have:=hB.2.2.2;omega,fD (((m3.mul b0).mul b2).mono),hB.2.2.1.mono,λpq H8 s8 hpq e8=>?_⟩;have n8:=n7.trans s8;have q8:=n8 _ _ q6;have e8k:=n8 _ _ e6;have hL8:=hL6.same n8;have hp18:=n8 _ _ hp1';have nk:pq≠kt:=λz=>by have e:=n7 _ _ e6;rw[<- z]at e;exact absurd (e.symm.trans hpq) (by simp)
   have sH8:=s6.trans n8;clear n7 e7 s8 n8 hpq hpm q6 e6 hL6 hp1' hp2' s6;refine dM ⟨_,rfl,.inl ⟨rfl,_,SqL.of e8k⟩,_,rfl,_,rfl,_,rfl,_,_,rfl,rfl,pb,_,_,_,rfl,rfl,SqL.of q8,a1,_,_,rfl,rfl,⟨m3.mono,b1.mono⟩,_,rfl,_,rfl,_,_,rfl,rfl,pb,_,_,_,rfl,rfl,SqL.of q8,a2,_,_,rfl,rfl,⟨(m3.mul b1).mono,b2.mono⟩,_,rfl,p,_,_,_,rfl,rfl,SqT.of hp18,rfl,_,_,rfl,rfl,⟨((m3.mul b1).mul b2).mono,hB.1.mono⟩,?_⟩;refine⟨_,rfl,_,rfl,_,rfl,_,rfl,pb,_,_,_,rfl,rfl,SqL.of q8,a0,_,_,rfl,rfl,⟨m3.mono,b0.mono⟩,_,rfl,_,rfl,_,_,rfl,rfl,pb,_,_,_,rfl,rfl,SqL.of q8,a1,_,_,rfl,rfl,⟨(m3.mul b0).mono,b1.mono⟩,_,rfl,p,_,_,_,rfl,rfl,SqT.of hp18,rfl,_,_,rfl,rfl,⟨((m3.mul b0).mul b1).mono,hB.2.1.mono⟩,by show 3<=sizeLine;decide,λpt hpt=>?_⟩;have n9:=Same.upd_new (o:=.tup [.int (mK c i*bK o (i+1)*bK o (i+2)*x.1),.ref pq,.int (mK c i*bK o i*bK o (i+1)*x.2.2)]) hpt;have e9:upd H8 pt (.tup [.int (mK c i*bK o (i+1)*bK o (i+2)*x.1),.ref pq,.int (mK c i*bK o i*bK o (i+1)*x.2.2)]) pt=_:=aj;have e9k:=n9 _ _ e8k;have s9:=sH8.trans n9;have q9:=n9 _ _ q8;have hL9:=hL8.same n9;have e9q:=n9 _ _ e8;refine⟨kt,_,_,rfl,rfl,e9k,by rw[Hs];omega,?_⟩;refine⟨_,_,_,_,ls'++[pt],rfl,cO s9 fk,by rw[upd_ne nb];exact q9,by rw[aj,Hu];rfl,?_,by rw[Hv,hlen];rfl⟩;rw[xP o c ex];exact(hL9.snoc (x:=scK o c i x) e9 e9q nk nk).upd_k e9k
  rintro σ' H5 ⟨z6,z7,z8,z9,ls',rfl,s5,q5,e5,hL5,hlen⟩;rw[hll]at hL5;refine⟨_,rfl,l,rfl,⟨_,SqL.of (s5 _ _ hl)⟩,nX (K:=K) (a:=l) (xs:=ps.map V.ref) (λi ys σ' H'=>∃(z y:Option V) (ps':List Addr),σ'=[z,y,some (.ref pb)]/\ys=ps'.map V.ref/\ps'.length=i/\Same H5 H'/\RwH H' ps' (scR o r i)/\∀p∈ps',H5 p=none) (by omega) ⟨none,none,[],rfl,rfl,rfl,λ_ _ e=>e,RwH.nil,λp hp=>by simp at hp⟩ ?_ ?_ ?_⟩
  ·rintro i ys σ' H' _ ⟨z,y,ps',rfl,rfl,hle,sm,_⟩;exact⟨SqL.of (sm _ _ (s5 _ _ hl)),by rw[Hs];omega⟩
  ·rintro i v ys σ' H6 q hi ⟨z,y,ps',rfl,rfl,hle,s6,hR6,hfr⟩ hq;obtain⟨p,x,rfl,ep,ex,hp,hlt⟩:=(hR.same (s5.trans s6)).of_get hi;have n7:=Same.upd_new (o:=.tup [.int (i:Int),.ref p]) hq;refine⟨q,_,rfl,SqT.of aj,rfl,_,_,rfl,_,_,rfl,rfl,?_⟩;have s7:=s6.trans n7;have hp7:=n7 _ _ hp;have hR7:=hR6.same n7;generalize upd H6 q (.tup [.int (i:Int),.ref p])=H7 at s7 hp7 hR7 ⊢
   have hS:=hW x (List.mem_of_getElem? ex);have b0:=eR (dH o i);refine⟨_,rfl,_,rfl,pb,_,_,_,rfl,rfl,SqL.of (s7 _ _ q5),j6 (o:=o) (n:=xs.length) (k:=i) (by omega) rfl,by show 1<=sizeLine;decide,λpm hpm=>?_⟩;have n8:=Same.upd_new (o:=.lst [.int (bK o i)]) hpm;have e8:upd H7 pm (.lst [.int (bK o i)]) pm=some (.lst (([bK o i]:List Int).map V.int)):=aj;refine⟨_,rfl,pm,p,[bK o i],x,rfl,e8,n8 _ _ hp7,by show 1<=_;decide,by have:=hS.l;omega,fD (b0.mono),hS.b.mono,λpq H9 s9 hpq e9=>?_⟩;refine⟨_,_,ps'++[pq],rfl,by rw[Hu];rfl,by rw[Hv,hle];rfl,s7.trans (n8.trans s9),?_,λp' hp'=>?_⟩
   ·rw[xQ o ex];exact(hR7.same (n8.trans s9)).snoc e9
   ·rcases HP.mp hp' with z |z
    ·exact hfr p' z
    ·rw[Hx.mp z];exact(s7.trans n8).free hpq
  rintro ys σ' H6 pl ⟨z,y,ps',rfl,rfl,hle,s6,hR6,hfr⟩ hplF;rw[hpl]at hR6;have n7:=Same.upd_new (o:=.lst (ps'.map V.ref)) hplF;refine⟨_,rfl,by show 2<=sizeLine;decide,λt ht=>?_⟩;have n8:=Same.upd_new (o:=.tup [.ref pl,.ref kt]) ht;have e7:upd H6 pl (.lst (ps'.map V.ref)) pl=some (.lst (ps'.map V.ref)):=aj;have hk6:=s6 _ _ e5;have nlk:pl≠kt:=λz=>by rw[z,hk6]at hplF;cases hplF
  have L6:=hL5.same s6;have n78:=n7.trans n8;refine kk t pl kt ps' ls' _ (s5.trans (s6.trans n78)) ((s5.trans s6).free hplF) fk aj ⟨nlk,n8 _ _ e7,n78 _ _ hk6,⟨hR6.same n78,λp hp=>⟨λz=>?_,λz=>?_⟩⟩,⟨L6.1,λi p x a b=>?_⟩⟩
  ·obtain⟨j,hj,ej⟩:=List.mem_iff_getElem.mp hp;have hj2:j<(scR o r r.length).length:=by rw[<- hR6.1];exact hj
   have:=hR6.2 j p _ (by rw[List.getElem?_eq_getElem hj,ej]) (List.getElem?_eq_getElem hj2);rw[z,hplF]at this;cases this
  ·have:=hfr p hp;rw[z,e5]at this;cases this
  ·obtain⟨qa,h1,h2,h3,_⟩:=L6.2 i p x a b;exact⟨qa,n78 _ _ h1,n78 _ _ h2,λz=>(by rw[z,hplF]at h2;cases h2),h3⟩
theorem c7{t1 u:TS}{D:Ends}{σ:St}{H:Hp}{i:Nat}{w j:Int}(e:σ[i]?=some (some (.int w)))(h:¬w=j)(k:u D σ H):bz (cS (dk (tOp (rI0 λi j=>V.bl (decide (i=j))) (cZ i) (tC (V.int j)))) t1 d8) u D σ H :=
 rk ⟨_,e,_,_,rfl,rfl,_,rfl,aC (λz=>absurd z h) (λ_=>k)⟩
theorem jv{t1 u:TS}{D:Ends}{σ:St}{H:Hp}{i:Nat}{w j:Int}(e:σ[i]?=some (some (.int w)))(h:w=j)(k:t1 { D with nx:=u D } σ H):bz (cS (dk (tOp (rI0 λi j=>V.bl (decide (i=j))) (cZ i) (tC (V.int j)))) t1 d8) u D σ H :=
 rk ⟨_,e,_,_,rfl,rfl,_,rfl,aC (λ_=>k) (λz=>absurd h z)⟩
theorem dJ{t1:TS}{D:Ends}{σ:St}{H:Hp}{i:Nat}{w j:Int}(e:σ[i]?=some (some (.int w)))(h:¬w=j)(k:D.nx σ H):cS (dk (tOp (rI0 λi j=>V.bl (decide (i=j))) (cZ i) (tC (V.int j)))) t1 d8 D σ H :=
 iu ⟨_,e,_,_,rfl,rfl,_,rfl,aC (λz=>absurd z h) (λ_=>k)⟩
theorem lU{t1:TS}{D:Ends}{σ:St}{H:Hp}{i:Nat}{w j:Int}(e:σ[i]?=some (some (.int w)))(h:w=j)(k:t1 D σ H):cS (dk (tOp (rI0 λi j=>V.bl (decide (i=j))) (cZ i) (tC (V.int j)))) t1 d8 D σ H :=
 iu ⟨_,e,_,_,rfl,rfl,_,rfl,aC (λ_=>k) (λz=>absurd h z)⟩
theorem i9{l:List Int}(h:Tr l){n:Nat}(hz:∀k,n<=k->cf l k=0):l.length<=n:=Ix λz=>by have:=h (l.length-1) (by omega);exact this (hz _ (by omega))
def SmB(l lk:Addr)(H H':Hp):Prop:=∀(p:Addr) (o:HO),H p=some o->p≠l->p≠lk->H' p=some o
theorem SmB.refl{l lk:Addr}{H:Hp}:SmB l lk H H:=λ_ _ e _ _=>e
theorem SmB.trans{l lk:Addr}{H H1 H2:Hp}(a:SmB l lk H H1)(b:SmB l lk H1 H2):SmB l lk H H2:=λp o e h1 h2=>b p o (a p o e h1 h2) h1 h2
theorem SmB.of{l lk:Addr}{H H':Hp}(s:Same H H'):SmB l lk H H':=λp o e _ _=>s p o e
theorem SmB.updL{l lk:Addr}{H:Hp}{o:HO}:SmB l lk H (upd H l o):=λp u e h _=>by rw[upd_ne h];exact e
theorem SmB.updK{l lk:Addr}{H:Hp}{o:HO}:SmB l lk H (upd H lk o):=λp u e _ h=>by rw[upd_ne h];exact e
theorem Pap.same{H H':Hp}{l lk:Addr}{ps ls:List Addr}{r:List (List Int)}{xs:List Lnk}(h:Pap H l lk ps ls r xs)(s:Same H H'):Pap H' l lk ps ls r xs:=⟨h.ne,s _ _ h.hl,s _ _ h.hk,⟨h.rw.1.same s,h.rw.2⟩,h.lx.same s⟩
theorem Pap.putK{H:Hp}{l lk:Addr}{ps ls ls':List Addr}{r:List (List Int)}{xs xs':List Lnk}(h:Pap H l lk ps ls r xs)(hx:LkX H l lk ls' xs'):Pap (upd H lk (.lst (ls'.map V.ref))) l lk ps ls' r xs':=by refine⟨h.ne,by rw[upd_ne h.ne];exact h.hl,aj,⟨⟨h.rw.1.1,λi p x a b=>?_⟩,h.rw.2⟩,hx.upd_k h.hk⟩;rw[upd_ne (h.rw.2 p (List.mem_of_getElem? a)).2];exact h.rw.1.2 i p x a b
theorem Pap.putL{H:Hp}{l lk:Addr}{ps ls ps':List Addr}{r r':List (List Int)}{xs:List Lnk}(h:Pap H l lk ps ls r xs)(hx:RwX H l lk ps' r'):Pap (upd H l (.lst (ps'.map V.ref))) l lk ps' ls r' xs:=by refine⟨h.ne,aj,by rw[upd_ne (Ne.symm h.ne)];exact h.hk,⟨⟨hx.1.1,λi p x a b=>?_⟩,hx.2⟩,h.lx.upd_l h.hl⟩;rw[upd_ne (hx.2 p (List.mem_of_getElem? a)).1];exact hx.1.2 i p x a b
theorem LkX.set{H:Hp}{l lk:Addr}{ls:List Addr}{xs:List Lnk}{p qa:Addr}{x:Lnk}(h:LkX H l lk ls xs)(i:Nat)(h1:H p=some (.tup [.int x.1,.ref qa,.int x.2.2]))(h2:H qa=some (.lst (x.2.1.map V.int)))(h3:qa≠l)(h4:qa≠lk):LkX H l lk (ls.set i p) (xs.set i x):=by
 refine⟨by rw[HU,HU,h.1],λj q y a b=>?_⟩;have hjl:j<ls.length:=by have:=(List.getElem?_eq_some_iff.mp a).1;rw[HU]at this;exact this
 rw[List.getElem?_set]at a b;by_cases z:i=j
 ·rw[if_pos z,if_pos (by omega)]at a;rw[if_pos z,if_pos (by rw[<- h.1];omega)]at b;cases a;cases b;exact⟨qa,h1,h2,h3,h4⟩
 ·rw[if_neg z]at a b;exact h.2 j q y a b
theorem RwX.set{H:Hp}{l lk:Addr}{ps:List Addr}{r:List (List Int)}{p:Addr}{x:List Int}(h:RwX H l lk ps r)(i:Nat)(h1:H p=some (.lst (x.map V.int)))(h3:p≠l)(h4:p≠lk):RwX H l lk (ps.set i p) (r.set i x):=by
 refine⟨⟨by rw[HU,HU,h.1.1],λj q y a b=>?_⟩,λq hq=>?_⟩
 ·have hjl:j<ps.length:=by have:=(List.getElem?_eq_some_iff.mp a).1;rw[HU]at this;exact this
  rw[List.getElem?_set]at a b;by_cases z:i=j
  ·rw[if_pos z,if_pos (by omega)]at a;rw[if_pos z,if_pos (by rw[<- h.1.1];omega)]at b;cases a;cases b;exact h1
  ·rw[if_neg z]at a b;exact h.1.2 j q y a b
 ·rcases Jp hq with z |z
  ·exact h.2 q z
  ·rw[z];exact⟨h3,h4⟩
theorem RwX.snoc{H:Hp}{l lk:Addr}{ps:List Addr}{r:List (List Int)}{p:Addr}{x:List Int}(h:RwX H l lk ps r)(h1:H p=some (.lst (x.map V.int)))(h3:p≠l)(h4:p≠lk):RwX H l lk (ps++[p]) (r++[x]) :=
 ⟨h.1.snoc h1,λq hq=>(HP.mp hq).elim (h.2 q) λz=>by rw[Hx.mp z];exact⟨h3,h4⟩⟩
theorem RwX.same{H H':Hp}{l lk:Addr}{ps:List Addr}{r:List (List Int)}(h:RwX H l lk ps r)(s:Same H H'):RwX H' l lk ps r:=⟨h.1.same s,h.2⟩
theorem RwX.pop{H:Hp}{l lk:Addr}{ps:List Addr}{r:List (List Int)}(h:RwX H l lk ps r):RwX H l lk ps.dropLast r.dropLast:=by
 refine⟨⟨by rw[IQ,IQ,h.1.1],λi p x a b=>?_⟩,λq hq=>h.2 q (List.dropLast_subset _ hq)⟩;rw[List.getElem?_dropLast]at a b;split at a
 ·split at b
  ·exact h.1.2 i p x a b
  ·cases b
 ·cases a
theorem LkX.pop{H:Hp}{l lk:Addr}{ls:List Addr}{xs:List Lnk}(h:LkX H l lk ls xs):LkX H l lk ls.dropLast xs.dropLast:=by
 refine⟨by rw[IQ,IQ,h.1],λi p x a b=>?_⟩;rw[List.getElem?_dropLast]at a b;split at a
 ·split at b
  ·exact h.2 i p x a b
  ·cases b
 ·cases a
def RwN(N:Nat)(x:List Int):Prop:=Tr x/\x.length<=9/\AllB (91300+8*N) x
def LkN(N:Nat)(x:Lnk):Prop:=Bits (740100+8*N) x.1/\Bits (740100+8*N) x.2.2/\AllB (740100+8*N) x.2.1/\x.2.1.length<=12
theorem RwN.mono{N M:Nat}{x:List Int}(h:RwN N x)(hk:N<=M:=by decide):RwN M x:=⟨h.1,h.2.1,h.2.2.mono (by omega)⟩
theorem LkN.mono{N M:Nat}{x:Lnk}(h:LkN N x)(hk:N<=M:=by decide):LkN M x:=⟨h.1.mono (by omega),h.2.1.mono (by omega),h.2.2.1.mono (by omega),h.2.2.2⟩
structure PB(N:Nat)(r:List (List Int))(xs:List Lnk):Prop where
 rb:∀x∈r,RwN N x
 xb:∀x∈xs,LkN N x
 two:xs.length+2=r.length
 few:r.length<=110+N
 n50:N<=50
theorem PB.setK{N:Nat}{r:List (List Int)}{xs:List Lnk}(h:PB N r xs)(hN:N<50){i:Nat}{x:Lnk}(hx:LkN (N+1) x):PB (N+1) r (xs.set i x) :=
 ⟨λy hy=>(h.rb y hy).mono (by omega),λy hy=>(Jp hy).elim (λz=>(h.xb y z).mono (by omega)) λz=>by rw[z];exact hx,by rw[HU];exact h.two,by have:=h.few;omega,by omega⟩
def qz:Sp:=λvs H Q _=>∃(l lk:Addr) (ps ls:List Addr) (r:List (List Int)) (xs:List Lnk) (way my:Int) (i pl N:Nat),vs=[.ref lk,.int way,.int (i:Int),.int my,.int (pl:Int)]/\Pap H l lk ps ls r xs/\PB N r xs/\N<50/\i<xs.length/\1<=way/\way<=4/\Bits 6 my/\pl<=5 /\
 ∀(ls':List Addr) (xs':List Lnk) (H':Hp),SmB l lk H H'->Pap H' l lk ps ls' r xs'->PB (N+1) r xs'->Q .non H'
theorem Ab(F:Fun K "_law_change_link" "_law_change_link" lI f fd)(T:Txt K mg)(iX:Cal P w K mg base 2 "_law_more" ["_law_kp","_law_place","_law_many"] jd uA uz)(dY:Cal P w K mg base 1 "_law_trim" ["_law_row"] (eX K) iK iJ):FnOk P w K mg base CX0 3 f fd ["_law_links","_law_way_here","_law_at","_law_many","_law_place"] qz:=by
 obtain⟨iW,iD,iH,iT⟩:=iX;obtain⟨dj,db,dd,dh⟩:=dY;refine F.ok sc__law_change_link (λvs H Q E h=>?_) (λcdv A outer s H vs Q E hr h=>?_)
 ·obtain⟨l,lk,ps,ls,r,xs,way,my,i,pl,N,rfl,_⟩:=h;rfl
 ·obtain⟨l,lk,ps,ls,r,xs,way,my,i,pl,N,rfl,hP,hB,hN,hi,w1,w4,bm,hpl,k⟩:=h;have big:=sizeLine_eq;have n50:=hB.n50
  refine⟨_,(ag (am (i:=5) sc__law_change_link.nd rfl (Or.inl rfl) (ai (aM (K:=K) rfl) (pv 0) (pv 2) (λ_ _=>rfl)))
   (ag (aW (aD bh (pv 1) ac (av _))
     (ak (c8 (bS (aa (af aT (ai (ay (K:=K) rfl) (pv 5) ac (λ_ _=>rfl)) (pv 3)) (aa (ai (ay (K:=K) rfl) (pv 5) ac (λ_ _=>rfl)) (aa (ai (ay (K:=K) rfl) (pv 5) ac (λ_ _=>rfl)) ad)))) (du (pv 0) (pv 2) dm)))
     aV)
   (ag (aW (aD bh (pv 1) ac (av _))
     (ak (c8 (bS (aa (ai (ay (K:=K) rfl) (pv 5) ac (λ_ _=>rfl)) (aa (au iW (hr.mono) rfl iD iH iT .nil ar (aa (ai (ay (K:=K) rfl) (pv 5) ac (λ_ _=>rfl)) (aa (pv 4) (aa (pv 3) ad)))) (aa (ai (ay (K:=K) rfl) (pv 5) ac (λ_ _=>rfl)) ad)))) (du (pv 0) (pv 2) dm)))
     aV)
   (ag (aW (aD bh (pv 1) ac (av _))
     (ak (c8 (bS (aa (ai (ay (K:=K) rfl) (pv 5) ac (λ_ _=>rfl)) (aa (ai (ay (K:=K) rfl) (pv 5) ac (λ_ _=>rfl)) (aa (af aT (ai (ay (K:=K) rfl) (pv 5) ac (λ_ _=>rfl)) (pv 3)) ad)))) (du (pv 0) (pv 2) dm)))
     aV)
   (ak (aW (aD bh (pv 1) ac (av _))
     (ag (am (i:=6) sc__law_change_link.nd rfl (Or.inr rfl) (af aZ (af aY (pv 3) ac) ac))
       (ak (c8 (bS (aa (af aH (pv 6) (ai (ay (K:=K) rfl) (pv 5) ac (λ_ _=>rfl))) (aa (au dj (hr.mono) rfl db dd dh .nil ar (aa (cG (own:=["_law_one"]) (fr:=["_law_less"]) (js:=[6]) (by walk_at "comp_ok") rfl (ci (K:=K) rfl (ai (ay (K:=K) rfl) (pv 5) ac (λ_ _=>rfl))) (λ_ _ _ _=>(aL (i:=0) (show List.Nodup (["_law_one","_law_less"]:List Str)from by decide +kernel) rfl (Or.inl rfl))) (λ_ _ _ _=>(af aH (pv 1) (pv 0)))) ad)) (aa (af aH (pv 6) (ai (ay (K:=K) rfl) (pv 5) ac (λ_ _=>rfl))) ad)))) (du (pv 0) (pv 2) dm))))
     aV)))))),?_⟩
  have il:i<ls.length:=by rw[hP.lx.1];exact hi
  obtain⟨p,ep⟩:∃p,ls[i]=p:=⟨_,rfl⟩;obtain⟨⟨f0,q0,g0⟩,ex⟩:∃x,xs[i]=x:=⟨_,rfl⟩;have gp:ls[i]?=some p:=by rw[List.getElem?_eq_getElem il,ep]
  have gx:xs[i]?=some (f0,q0,g0):=by rw[List.getElem?_eq_getElem hi,ex]
  obtain⟨qa,hp,hq,nql,nqk⟩:=hP.lx.2 i p _ gp gx
  replace hp:H p=some (.tup [.int f0,.ref qa,.int g0]):=hp
  replace hq:H qa=some (.lst (q0.map V.int)):=hq
  obtain⟨bf,bg,bq,lq⟩:Bits (740100+8*N) f0/\Bits (740100+8*N) g0/\AllB (740100+8*N) q0/\q0.length<=12:=hB.xb _ (List.mem_of_getElem? gx);have hat:atI (ls.map V.ref) (i:Int)=some (.ref p):=fy (by rw[List.getElem?_map,gp];rfl);have nlen:i<(ls.map V.ref).length:=by rw[Hs];exact il
  refine ax ⟨_,rfl,_,rfl,lk,_,_,_,rfl,rfl,SqL.of hP.hk,hat,?_⟩;show bz _ _ _ [some (.ref lk),some (.int way),some (.int (i:Int)),some (.int my),some (.int (pl:Int)),some (.ref p),none] H
  have put:∀{t qb:Addr} {x:Lnk} {H3:Hp},Same H H3->H3 t=some (.tup [.int x.1,.ref qb,.int x.2.2])->H3 qb=some (.lst (x.2.1.map V.int))->qb≠l->qb≠lk->LkN (N+1) x->Q .non (upd H3 lk (.lst ((ls.map V.ref).set i (.ref t)))):=λ{t qb x H3} s3 et eb nb nb' hx=>by
   have es:(ls.map V.ref).set i (.ref t)=(ls.set i t).map V.ref:=by rw[List.map_set]
   rw[es];exact k (ls.set i t) (xs.set i x) _ ((SmB.of s3).trans SmB.updK) ((hP.same s3).putK ((hP.lx.same s3).set i et eb nb nb')) (hB.setK hN hx)
  have rng:way=1\/way=2\/way=3\/way=4:=by omega
  rcases rng with rfl |rfl |rfl |rfl
  ·refine jv rfl rfl ?_;refine⟨_,rfl,p,_,_,_,rfl,rfl,SqT.of hp,rfl,_,rfl,_,_,rfl,rfl,_,rfl,p,_,_,_,rfl,rfl,SqT.of hp,rfl,_,rfl,p,_,_,_,rfl,rfl,SqT.of hp,rfl,by show 3<=sizeLine;decide,λt ht=>?_⟩;have s3:=Same.upd_new (o:=.tup [.int (f0+my),.ref qa,.int g0]) ht;refine⟨_,rfl,_,rfl,lk,_,_,i,rfl,rfl,s3 _ _ hP.hk,dE rfl nlen,?_⟩;dsimp only
   refine c7 rfl (by decide) (c7 rfl (by decide) (dJ rfl (by decide) (put (x:=(f0+my,q0,g0)) s3 aj (s3 _ _ hq) nql nqk ⟨(bf.add (bm.mono (by omega))).mono (by omega),bg.mono (by omega),bq.mono (by omega),lq⟩)))
  ·refine c7 rfl (by decide) (jv rfl rfl ?_);refine⟨_,rfl,p,_,_,_,rfl,rfl,SqT.of hp,rfl,_,rfl,p,_,_,_,rfl,rfl,SqT.of hp,rfl,_,rfl,_,rfl,qa,q0,pl,my,rfl,hq,by omega,by omega,λqb ys H2 s2 hqb e2 ty hc _=>?_⟩;have hp2:=s2 _ _ hp;refine⟨_,rfl,p,_,_,_,rfl,rfl,SqT.of hp2,rfl,by show 3<=sizeLine;decide,λt ht=>?_⟩;have s3:=Same.upd_new (o:=.tup [.int f0,.ref qb,.int g0]) ht;have t3:=s2.trans s3;refine⟨_,rfl,_,rfl,lk,_,_,i,rfl,rfl,t3 _ _ hP.hk,dE rfl nlen,?_⟩;dsimp only
   have yl:ys.length<=12:=i9 ty λn hn=>by rw[hc n,aR (by omega),if_neg (by omega)];rfl
   have yb:AllB (740100+8*N+1) ys:=AllB.of_cf λn=>by
    rw[hc n];refine Bits.add (bq.cf n) ?_;split
    ·exact bm.mono (by omega)
    ·exact Bits.zero
   refine c7 rfl (by decide) (dJ rfl (by decide) (put (x:=(f0,ys,g0)) t3 aj (s3 _ _ e2) (Ne.symm (aE hP.hl hqb)) (Ne.symm (aE hP.hk hqb)) ⟨bf.mono (by omega),bg.mono (by omega),yb.mono (by omega),yl⟩))
  ·refine c7 rfl (by decide) (c7 rfl (by decide) (jv rfl rfl ?_));refine⟨_,rfl,p,_,_,_,rfl,rfl,SqT.of hp,rfl,_,rfl,p,_,_,_,rfl,rfl,SqT.of hp,rfl,_,rfl,p,_,_,_,rfl,rfl,SqT.of hp,rfl,_,rfl,_,_,rfl,rfl,by show 3<=sizeLine;decide,λt ht=>?_⟩;have s3:=Same.upd_new (o:=.tup [.int f0,.ref qa,.int (g0+my)]) ht;refine⟨_,rfl,_,rfl,lk,_,_,i,rfl,rfl,s3 _ _ hP.hk,dE rfl nlen,?_⟩;dsimp only
   exact dJ rfl (by decide) (put (x:=(f0,q0,g0+my)) s3 aj (s3 _ _ hq) nql nqk ⟨bf.mono (by omega),(bg.add (bm.mono (by omega))).mono (by omega),bq.mono (by omega),lq⟩)
  ·refine c7 rfl (by decide) (c7 rfl (by decide) (c7 rfl (by decide) (lU rfl rfl ?_)));obtain⟨m1,m2⟩:=bN (x:=my) (m:=7) (by decide);refine ax ⟨_,rfl,_,_,rfl,rfl,(by show(0:Int)<7;decide),_,_,rfl,rfl,?_⟩;obtain⟨d,ed⟩:∃d,my%7-3=d:=⟨_,rfl⟩;have b2:Bits 2 d:=by show d.natAbs<2^2;have:(2:Nat)^2=4:=rfl;omega
   have ed':V.int (my%7-3)=V.int d:=by rw[ed]
   show eV _ _ _ [some (.ref lk),some (.int 4),some (.int (i:Int)),some (.int my),some (.int (pl:Int)),some (.ref p),some (.int (my%7-3))] H;rw[ed'];refine⟨_,rfl,_,rfl,p,_,_,_,rfl,rfl,SqT.of hp,rfl,_,_,rfl,rfl,⟨b2.mono,bf.mono (by omega)⟩,?_⟩;refine⟨_,rfl,p,_,_,_,rfl,rfl,SqT.of hp,rfl,qa,rfl,⟨_,SqL.of hq⟩,dW (K:=K) (a:=qa) (xs:=q0.map V.int) (λj ys σ' H'=>∃z:Option V,σ'=[z,some (.int d)]/\ys=((q0.take j).map λy=>d*y).map V.int/\H=H') (by rw[Hs];omega) ⟨none,rfl,rfl,rfl⟩ ?_ ?_ ?_⟩
   ·rintro j ys σ' H' _ ⟨z,rfl,rfl,rfl⟩;exact⟨SqL.of hq,by simp;omega⟩
   ·rintro j v ys σ' H' hj ⟨z,rfl,rfl,rfl⟩;obtain⟨c,ec,rfl,hcm,_⟩:=dR hj;refine⟨_,rfl,_,rfl,_,_,rfl,rfl,⟨b2.mono,(bq c hcm).mono (by omega)⟩,_,rfl,?_,rfl⟩;rw[Ib,ec,Hu,Hu];rfl
   rintro ys σ' H' pc ⟨z,rfl,rfl,rfl⟩ hpc;have n1:=Same.upd_new (o:=.lst ((((q0.take (q0.map V.int).length).map λy=>d*y)).map V.int)) hpc;have e1:upd H pc (.lst ((((q0.take (q0.map V.int).length).map λy=>d*y)).map V.int)) pc=some (.lst ((q0.map λy=>d*y).map V.int)):=by rw[aj,Hs,HY]
   refine⟨pc,q0.map λy=>d*y,rfl,SqL.of e1,λqb H2 s2 hqb e2=>?_⟩;have t2:=n1.trans s2;refine⟨_,rfl,_,rfl,p,_,_,_,rfl,rfl,SqT.of (t2 _ _ hp),rfl,_,_,rfl,rfl,⟨b2.mono,bg.mono (by omega)⟩,by show 3<=sizeLine;decide,λt ht=>?_⟩;have s3:=Same.upd_new (o:=.tup [.int (d*f0),.ref qb,.int (d*g0)]) ht;have t3:=t2.trans s3;refine⟨_,rfl,_,rfl,lk,_,_,i,rfl,rfl,t3 _ _ hP.hk,dE rfl nlen,?_⟩
   have yb:AllB (2+(740100+8*N)) (trim (q0.map λy=>d*y)):=AllB.trim λy hy=>by obtain⟨c,hc,rfl⟩:=Hz.mp hy;exact b2.mul (bq c hc)
   have yl:(trim (q0.map λy=>d*y)).length<=12:=by have:=gP (q0.map λy=>d*y);rw[Hs]at this;omega
   exact put (x:=(d*f0,trim (q0.map λy=>d*y),d*g0)) t3 aj (s3 _ _ e2) (Ne.symm (aE (n1 _ _ hP.hl) hqb)) (Ne.symm (aE (n1 _ _ hP.hk) hqb)) ⟨(b2.mul bf).mono (by omega),(b2.mul bg).mono (by omega),yb.mono (by omega),yl⟩
def qF:Sp:=λvs H Q _=>∃(a b:Addr) (xs ys:List Int),vs=[.ref a,.ref b]/\H a=some (.lst (xs.map V.int))/\H b=some (.lst (ys.map V.int))/\xs.length<=1000000/\ys.length<=1000000/\mkL H Q (di xs ys)
theorem Ag(F:Fun K "_law_add" "_law_add" lN f fd)(T:Txt K mg)(o0:Cal P w K mg base 1 "_law_cell_at" ["_law_script","_law_k"] (ij K) Dg CZ)(dY:Cal P w K mg base 1 "_law_trim" ["_law_row"] (eX K) iK iJ):FnOk P w K mg base CX0 2 f fd ["_law_kp","_law_kq"] qF:=by
 obtain⟨cw,cm,cq,cr⟩:=o0;obtain⟨dj,db,dd,dh⟩:=dY;refine F.ok sc__law_add (λvs H Q E h=>?_) (λcdv A outer s H vs Q E hr h=>?_)
 ·obtain⟨a,b,xs,ys,rfl,_⟩:=h;rfl
 ·obtain⟨a,b,xs,ys,rfl,hA,hB,hx,hy,k⟩:=h
  refine⟨_,(ag (am (i:=2) sc__law_add.nd rfl (Or.inl rfl) (bH ad))
   (ag (bW PassesOwn.never rfl (dr rfl T.range_ (aa (aI (oq rfl) (by rfl) T.max_ PyProof.Rows.boot_max (aa (aI (aX (K:=K) rfl) (by rfl) T.len_ PySem.boot_len (aa (pv 0) ad)) (aa (aI (aX (K:=K) rfl) (by rfl) T.len_ PySem.boot_len (aa (pv 1) ad)) ad))) ad)) (aL (i:=3) sc__law_add.nd rfl (Or.inl rfl))
     (ak (bX (cH PySem.F.plainAttrs_list PySem.F.slot_list_append PySem.F.type_list_append cJ (pv 2) (aa (af aT (au cw (hr.mono) rfl cm cq cr .nil ar (aa (pv 0) (aa (pv 3) ad))) (au cw (hr.mono) rfl cm cq cr .nil ar (aa (pv 1) (aa (pv 3) ad)))) ad)))))
   (ak (aG (au dj (hr.mono) rfl db dd dh .nil ar (aa (pv 2) ad)))))),?_⟩
  have big:=sizeLine_eq;refine ax ⟨Hy _,λp hp=>?_⟩;have npa:a≠p:=aE hA hp;have npb:b≠p:=aE hB hp;have s1:=Same.upd_new (o:=.lst []) hp;have hp1:upd H p (.lst []) p=some (.lst []):=aj;generalize upd H p (.lst [])=H1 at s1 hp1 ⊢
  refine⟨_,rfl,a,_,rfl,.inl (SqL.of (s1 _ _ hA)),_,rfl,b,_,rfl,.inl (SqL.of (s1 _ _ hB)),_,_,rfl,?_⟩;rw[sS,Hs,Hs];refine⟨_,rfl,by omega,by omega,?_⟩;rw[Int.toNat_natCast];refine ga (lo:=0) (n:=max xs.length ys.length) (λi σ' H'=>∃(z:Option V),σ'=[some (.ref a),some (.ref b),some (.ref p),z]/\SameB p H1 H'/\H' p=some (.lst (((List.range i).map λk=>cf xs k+cf ys k).map V.int))) ⟨none,rfl,SameB.refl _ _,hp1⟩ ?_ ?_
  ·rintro i σ' H' hi ⟨z,rfl,sb,hpa⟩;have hi':i<max xs.length ys.length:=hi;have e0:(0:Int)+(i:Int)=(i:Nat):=by omega
   refine⟨_,rfl,.inl ⟨rfl,_,SqL.of hpa⟩,_,rfl,_,rfl,a,xs,i,(by show[V.ref a,V.int (0+(i:Int))]=_;rw[e0]),SqL.of (sb _ _ npa (s1 _ _ hA)),_,rfl,_,rfl,b,ys,i,(by show[V.ref b,V.int (0+(i:Int))]=_;rw[e0]),SqL.of (sb _ _ npb (s1 _ _ hB)),_,_,rfl,rfl,p,_,_,rfl,rfl,hpa,by rw[Hs,Hs,Ih];omega,?_⟩;refine⟨_,rfl,sb.then_upd,?_⟩;rw[aj,IW,Hu,Hu];rfl
  ·rintro σ' H' ⟨z,rfl,sb,hpa⟩;have sH:Same H H':=λb' o e=>sb b' o (aE e hp) (s1 b' o e)
   refine⟨_,rfl,p,_,rfl,SqL.of hpa,λq H2 sm hq e2=>k q H2 (sH.trans sm) (sH.free hq) ?_⟩;rw[e2,EC]
theorem PB.app{N:Nat}{r:List (List Int)}{xs:List Lnk}(h:PB N r xs)(hN:N<50){x:List Int}{y:Lnk}(hx:RwN (N+1) x)(hy:LkN (N+1) y):PB (N+1) (r++[x]) (xs++[y]) :=
 ⟨λz hz=>(HP.mp hz).elim (λz'=>(h.rb z z').mono (by omega)) λz'=>by rw[Hx.mp z'];exact hx,λz hz=>(HP.mp hz).elim (λz'=>(h.xb z z').mono (by omega)) λz'=>by rw[Hx.mp z'];exact hy,by rw[Hv,Hv];show xs.length+1+2=r.length+1;have:=h.two;omega,by rw[Hv];show r.length+1<=_;have:=h.few;omega,by omega⟩
theorem PB.mono{N:Nat}{r:List (List Int)}{xs:List Lnk}(h:PB N r xs)(hN:N<50):PB (N+1) r xs:=⟨λz hz=>(h.rb z hz).mono (by omega),λz hz=>(h.xb z hz).mono (by omega),h.two,by have:=h.few;omega,by omega⟩
theorem PB.at{N:Nat}{r:List (List Int)}{xs:List Lnk}(h:PB N r xs){k:Nat}(hk:k<r.length):RwN N (r.getD k []):=h.rb _ (by rw[List.getD_eq_getElem?_getD,List.getElem?_eq_getElem hk];exact Ia _)
noncomputable def vQ(my:Int)(r:List (List Int))(xs:List Lnk)(r':List (List Int))(xs':List Lnk):Prop :=
 (∃(a ab:Int) (q:List Int),r.getD (r.length-1) []=[a]/\a≠0/\ab=(if a<0 then -a else a)/\r'=r++[trim [my*a]]/\xs'=xs++[(ab,q,1)]/\∀n,cf q n=a/ab*cf (r.getD (r.length-2) []) n+if n=0 then my else 0)\/((r.getD (r.length-1) []).length≠1/\r'=r/\xs'=xs)
theorem vL{a ab:Int}(h0:a≠0)(e:(if a<0 then -a else a)=ab):0<ab/\(a/ab=1\/a/ab = -1):=by
 by_cases z:a<0
 ·rw[if_pos z]at e;refine⟨by omega,.inr ?_⟩;rw[<- e,Int.ediv_neg,Int.ediv_self (by omega)]
 ·rw[if_neg z]at e;refine⟨by omega,.inl ?_⟩;rw[<- e,Int.ediv_self h0]
def ky:Sp:=λvs H Q _=>∃(l lk:Addr) (ps ls:List Addr) (r:List (List Int)) (xs:List Lnk) (way my:Int) (N:Nat),vs=[.ref l,.ref lk,.int way,.int my]/\Pap H l lk ps ls r xs/\PB N r xs/\N<50/\(way=6\/way=7)/\Bits 6 my /\
 ∀(ps' ls':List Addr) (r':List (List Int)) (xs':List Lnk) (H':Hp),SmB l lk H H'->Pap H' l lk ps' ls' r' xs'->PB (N+1) r' xs'->(way=6->vQ my r xs r' xs')->Q .non H'
theorem zT(F:Fun K "_law_lay_behind" "_law_lay_behind" jt f fd)(T:Txt K mg)(hNS:base.NoSeer)(hTr:P.given.tree=none)(iX:Cal P w K mg base 2 "_law_more" ["_law_kp","_law_place","_law_many"] jd uA uz)(dY:Cal P w K mg base 1 "_law_trim" ["_law_row"] (eX K) iK iJ)(gl:Cal P w K mg base 1 "_law_mul" ["_law_kp","_law_kq"] fU nF nE)(FQ:Cal P w K mg base 2 "_law_add" ["_law_kp","_law_kq"] qF Hl GI):FnOk P w K mg base CX0 33 f fd ["_law_row","_law_links","_law_way_here","_law_many"] ky:=by
 obtain⟨iW,iD,iH,iT⟩:=iX;obtain⟨dj,db,dd,dh⟩:=dY;obtain⟨fz,fg,fo,fx⟩:=gl;obtain⟨Fd,Bg,Ca,Er⟩:=FQ;refine F.ok sc__law_lay_behind (λvs H Q E h=>?_) (λcdv A outer s H vs Q E hr h=>?_)
 ·obtain⟨l,lk,ps,ls,r,xs,way,my,N,rfl,_⟩:=h;rfl
 ·obtain⟨l,lk,ps,ls,r,xs,way,my,N,rfl,hP,hB,hN,hw,bm,k⟩:=h;have big:=sizeLine_eq;have n50:=hB.n50;have r2:=hB.two;have r150:=hB.few;have hdp:(A.deeper (PyProof.Rows.envOfC (Str.ofString "_law_lay_behind") (aA jt) s.heap.objs.size f cdv)).depth+100<recursionLimit:=by have:=hr.dp;omega
  refine⟨_,(ag (am (i:=4) sc__law_lay_behind.nd rfl (Or.inl rfl) (ai (aM (K:=K) rfl) (pv 0) (cV cR ac) (λ_ _=>rfl)))
   (ag (aW (PW.pt (cF (aD bh (pv 2) ac (av _)) (cU (aD bh (aI (aX (K:=K) rfl) (by rfl) T.len_ PySem.boot_len (aa (pv 4) ad)) ac (av _)))))
     (ag (am (i:=5) sc__law_lay_behind.nd rfl (Or.inl rfl) (aI g7 (by rfl) T.abs_ PyProof.Rows.boot_abs (aa (ai (aM (K:=K) rfl) (pv 4) ac (λ_ _=>rfl)) ad)))
       (ag (am (i:=6) sc__law_lay_behind.nd rfl (Or.inl rfl) (au fz (hr.mono) rfl fg fo fx .nil ar (aa (bH (aa (af (jJ hNS hTr hdp rfl rfl rfl rfl rfl) (ai (aM (K:=K) rfl) (pv 4) ac (λ_ _=>rfl)) (pv 5)) ad)) (aa (ai (aM (K:=K) rfl) (pv 0) (cV cR ac) (λ_ _=>rfl)) ad))))
       (ag (bX (cH PySem.F.plainAttrs_list PySem.F.slot_list_append PySem.F.type_list_append cJ (pv 1) (aa (bS (aa (pv 5) (aa (au iW (hr.mono) rfl iD iH iT .nil ar (aa (pv 6) (aa ac (aa (pv 3) ad)))) (aa ac ad)))) ad)))
       (ak (bX (cH PySem.F.plainAttrs_list PySem.F.slot_list_append PySem.F.type_list_append cJ (pv 0) (aa (au dj (hr.mono) rfl db dd dh .nil ar (aa (bH (aa (af aH (pv 3) (ai (aM (K:=K) rfl) (pv 4) ac (λ_ _=>rfl))) ad)) ad)) ad)))))))
     aV)
   (ak (aW (aD bh (pv 2) ac (av _))
     (ag (bX (cH PySem.F.plainAttrs_list PySem.F.slot_list_append PySem.F.type_list_append cJ (pv 1) (aa (bS (aa ac (aa (au dj (hr.mono) rfl db dd dh .nil ar (aa (bH (aa (pv 3) ad)) ad)) (aa ac ad)))) ad)))
       (ak (bX (cH PySem.F.plainAttrs_list PySem.F.slot_list_append PySem.F.type_list_append cJ (pv 0) (aa (au Fd (hr.mono) rfl Bg Ca Er .nil ar (aa (au fz (hr.mono) rfl fg fo fx .nil ar (aa (bH (aa (pv 3) ad)) (aa (pv 4) ad))) (aa (cG (own:=["_law_one"]) (fr:=[]) (js:=[]) (by walk_at "comp_ok") rfl (ci (K:=K) rfl (ai (aM (K:=K) rfl) (pv 0) (cV cR ac) (λ_ _=>rfl))) (λ_ _ _ _=>(aL (i:=0) (show List.Nodup (["_law_one"]:List Str)from by decide +kernel) rfl (Or.inl rfl))) (λ_ _ _ _=>(af aZ ac (pv 0)))) ad))) ad)))))
     aV)))),?_⟩
  obtain⟨p9,e9,h9⟩:=gi hP.rw.1 (show 0<1 by decide) (show 1<=r.length by omega);obtain⟨p8,e8,h8⟩:=gi hP.rw.1 (show 0<2 by decide) (show 2<=r.length by omega);obtain⟨t9,l9,b9⟩:=hB.at (show r.length-1<r.length by omega);obtain⟨t8,l8,b8⟩:=hB.at (show r.length-2<r.length by omega);obtain⟨la,ela⟩:∃la,r.getD (r.length-1) []=la:=⟨_,rfl⟩;obtain⟨lb,elb⟩:∃lb,r.getD (r.length-2) []=lb:=⟨_,rfl⟩;have hpl:(ps.map V.ref).length=r.length:=by rw[Hs,hP.rw.1.1]
  have hll:(ls.map V.ref).length=xs.length:=by rw[Hs,hP.lx.1]
  have again:∀{H':Hp} {ls':List Addr} {xs':List Lnk},Pap H' l lk ps ls' r xs'->H' p9=some (.lst (la.map V.int))/\H' p8=some (.lst (lb.map V.int)):=λ{H' ls' xs'} hQ=>by obtain⟨q9,e9',h9'⟩:=gi hQ.rw.1 (show 0<1 by decide) (show 1<=r.length by omega);obtain⟨q8,e8',h8'⟩:=gi hQ.rw.1 (show 0<2 by decide) (show 2<=r.length by omega);rw[e9]at e9';rw[e8]at e8';cases e9';cases e8';rw[ela]at h9';rw[elb]at h8';exact⟨h9',h8'⟩
  rw[ela]at h9 t9 l9 b9;rw[elb]at h8 t8 l8 b8;refine ax ⟨_,rfl,_,rfl,l,_,_,_,rfl,rfl,SqL.of hP.hl,e9,?_⟩;rcases hw with rfl |rfl
  ·refine bU (cg ⟨_,rfl,_,_,rfl,rfl,_,rfl,aC (λ_=>?_) (λz=>absurd rfl z)⟩);refine⟨_,rfl,p9,_,rfl,.inl (SqL.of h9),_,_,rfl,rfl,_,rfl,aC (λh1=>?_) (λh1=>?_)⟩
   ·have h1':((la.map V.int).length:Int)=1:=h1;have h1n:la.length=1:=by rw[Hs]at h1';omega
    obtain⟨a,rfl⟩:=Jr.mp h1n;have a0:a≠0:=t9 0 rfl;have ba:Bits (91300+8*N) a:=b9 a (Hx.mpr rfl);refine ax ⟨_,rfl,p9,_,_,_,rfl,rfl,SqL.of h9,rfl,_,rfl,?_⟩;obtain⟨ab,eab⟩:∃ab,(if a<0 then -a else a)=ab:=⟨_,rfl⟩;obtain⟨abp,a1⟩:=vL a0 eab;have bab:Bits (91300+8*N) ab:=ba.of_le (by rw[<- eab];split<;>omega)
    have b1:Bits 1 (a/ab):=by rcases a1 with z |z<;>rw[z]<;>(show Int.natAbs _<2^1;decide)
    show bz _ _ _ [some (.ref l),some (.ref lk),some (.int 6),some (.int my),some (.ref p9),some (.int (if a<0 then -a else a)),none] H;rw[eab];refine ax ⟨_,rfl,p9,_,_,_,rfl,rfl,SqL.of h9,rfl,_,rfl,_,_,rfl,rfl,abp,by show 1<=sizeLine;decide,λpm hpm=>?_⟩;have n1:=Same.upd_new (o:=.lst [.int (a/ab)]) hpm;have em:upd H pm (.lst [.int (a/ab)]) pm=some (.lst (([a/ab]:List Int).map V.int)):=aj;refine⟨_,rfl,_,rfl,l,_,_,_,rfl,rfl,SqL.of (n1 _ _ hP.hl),e8,?_⟩;refine⟨pm,p8,[a/ab],lb,rfl,em,n1 _ _ h8,by show 1<=_;decide,by omega,fD (b1.mono),b8.mono (by omega),λpq H2 s2 hpq e2=>?_⟩;have t2:=n1.trans s2;have ml:=f7 [a/ab] lb;have ml':(ae [a/ab] lb).length<=1+lb.length:=ml;refine d9 ⟨_,rfl,.inl ⟨rfl,_,SqL.of (t2 _ _ hP.hk)⟩,_,rfl,_,rfl,_,rfl,pq,ae [a/ab] lb,0,my,rfl,e2,by omega,by omega,λqb ys H3 s3 hqb e3 ty hc _=>?_⟩;refine⟨by show 3<=sizeLine;decide,λt ht=>?_⟩;have n4:=Same.upd_new (o:=.tup [.int ab,.ref qb,.int 1]) ht;have t4:=t2.trans (s3.trans n4);refine⟨lk,_,_,rfl,rfl,t4 _ _ hP.hk,by omega,?_⟩;have yl:ys.length<=12:=i9 ty λn hn=>by rw[hc n,aR (by omega),if_neg (by omega)];rfl
    have yc:∀n,cf ys n=a/ab*cf lb n+if n=0 then my else 0:=λn=>by rw[hc n,cI]
    have yb:AllB (91300+8*N+2) ys:=AllB.of_cf λn=>by
     rw[yc n];refine(Bits.add (k:=91300+8*N+1) ((b1.mul (b8.cf n)).mono (by omega)) ?_);split
     ·exact bm.mono (by omega)
     ·exact Bits.zero
    have hP4:Pap (upd (upd H3 t (.tup [.int ab,.ref qb,.int 1])) lk (.lst ((ls++[t]).map V.ref))) l lk ps (ls++[t]) r (xs++[(ab,ys,1)]):=(hP.same t4).putK ((hP.lx.same t4).snoc (x:=(ab,ys,1)) aj (n4 _ _ e3) (Ne.symm (aE (t2 _ _ hP.hl) hqb)) (Ne.symm (aE (t2 _ _ hP.hk) hqb)));have m4:SmB l lk H (upd (upd H3 t (.tup [.int ab,.ref qb,.int 1])) lk (.lst ((ls++[t]).map V.ref))):=(SmB.of t4).trans SmB.updK;have em4:ls.map V.ref++[V.ref t]=(ls++[t]).map V.ref:=by rw[Hu];rfl
    rw[em4];generalize upd (upd H3 t (.tup [.int ab,.ref qb,.int 1])) lk (.lst ((ls++[t]).map V.ref))=H4 at hP4 m4 ⊢
    obtain⟨h94,_⟩:=again hP4;refine dM ⟨_,rfl,.inl ⟨rfl,_,SqL.of hP4.hl⟩,_,rfl,_,rfl,p9,_,_,_,rfl,rfl,SqL.of h94,rfl,_,_,rfl,rfl,⟨bm.mono,ba.mono (by omega)⟩,by show 1<=sizeLine;decide,λpn hpn=>?_⟩;have n5:=Same.upd_new (o:=.lst [.int (my*a)]) hpn;have e5:upd H4 pn (.lst [.int (my*a)]) pn=some (.lst (([my*a]:List Int).map V.int)):=aj;refine⟨pn,[my*a],rfl,SqL.of e5,λpz H6 s6 hpz e6=>?_⟩;have t6:=n5.trans s6;have hP6:=hP4.same t6;refine⟨l,_,_,rfl,rfl,hP6.hl,by omega,?_⟩;have em6:ps.map V.ref++[V.ref pz]=(ps++[pz]).map V.ref:=by rw[Hu];rfl
    rw[em6];refine dJ rfl (by decide) (k (ps++[pz]) (ls++[t]) (r++[trim [my*a]]) (xs++[(ab,ys,1)]) _ (m4.trans ((SmB.of t6).trans SmB.updL)) (hP6.putL (hP6.rw.snoc e6 (Ne.symm (aE (n5 _ _ hP4.hl) hpz)) (Ne.symm (aE (n5 _ _ hP4.hk) hpz)))) (hB.app hN ⟨bP _,?_,?_⟩ ⟨bab.mono (by omega),aS (by show(1:Int).natAbs<1024;decide) (by omega),yb.mono (by omega),yl⟩) λ_=>.inl ⟨a,ab,ys,ela,a0,eab.symm,rfl,rfl,λn=>by rw[elb];exact yc n⟩)
    ·have:=gP [my*a];have z:([my*a]:List Int).length=1:=rfl;omega
    ·exact(fD ((bm.mul ba).mono (by omega))).trim
   ·have h1':¬((la.map V.int).length:Int)=1:=h1;have h1n:la.length≠1:=by rw[Hs]at h1';omega
    refine dJ rfl (by decide) (k ps ls r xs H SmB.refl hP (hB.mono hN) λ_=>.inr ⟨by rw[ela];exact h1n,rfl,rfl⟩)
  ·refine bU (cg ⟨_,rfl,_,_,rfl,rfl,_,rfl,aC (λz=>absurd z (by decide)) (λ_=>bV ?_)⟩);refine lU rfl rfl ?_;refine d9 ⟨_,rfl,.inl ⟨rfl,_,SqL.of hP.hk⟩,_,rfl,by show 1<=sizeLine;decide,λpn hpn=>?_⟩;have n1:=Same.upd_new (o:=.lst [.int my]) hpn;have e1:upd H pn (.lst [.int my]) pn=some (.lst (([my]:List Int).map V.int)):=aj;refine⟨pn,[my],rfl,SqL.of e1,λqb H2 s2 hqb e2=>?_⟩;refine⟨by show 3<=sizeLine;decide,λt ht=>?_⟩;have n4:=Same.upd_new (o:=.tup [.int 1,.ref qb,.int 1]) ht;have t4:=n1.trans (s2.trans n4);refine⟨lk,_,_,rfl,rfl,t4 _ _ hP.hk,by omega,?_⟩;have hP4:Pap (upd (upd H2 t (.tup [.int 1,.ref qb,.int 1])) lk (.lst ((ls++[t]).map V.ref))) l lk ps (ls++[t]) r (xs++[(1,trim [my],1)]):=(hP.same t4).putK ((hP.lx.same t4).snoc (x:=(1,trim [my],1)) aj (n4 _ _ e2) (Ne.symm (aE (n1 _ _ hP.hl) hqb)) (Ne.symm (aE (n1 _ _ hP.hk) hqb)));have m4:SmB l lk H (upd (upd H2 t (.tup [.int 1,.ref qb,.int 1])) lk (.lst ((ls++[t]).map V.ref))):=(SmB.of t4).trans SmB.updK;have em4:ls.map V.ref++[V.ref t]=(ls++[t]).map V.ref:=by rw[Hu];rfl
   rw[em4];generalize upd (upd H2 t (.tup [.int 1,.ref qb,.int 1])) lk (.lst ((ls++[t]).map V.ref))=H4 at hP4 m4 ⊢
   obtain⟨h94,h84⟩:=again hP4;refine dM ⟨_,rfl,.inl ⟨rfl,_,SqL.of hP4.hl⟩,_,rfl,by show 1<=sizeLine;decide,λpm hpm=>?_⟩;have n5:=Same.upd_new (o:=.lst [.int my]) hpm;have e5:upd H4 pm (.lst [.int my]) pm=some (.lst (([my]:List Int).map V.int)):=aj;refine⟨_,rfl,pm,p9,[my],la,rfl,e5,n5 _ _ h94,by show 1<=_;decide,by omega,fD (bm.mono),b9.mono (by omega),λpq H6 s6 hpq e6=>?_⟩;have t6:=n5.trans s6;have hP6:=hP4.same t6;have h86:=t6 _ _ h84;refine⟨_,rfl,_,rfl,l,_,_,_,rfl,rfl,SqL.of hP6.hl,e8,p8,rfl,⟨_,SqL.of h86⟩,dW (K:=K) (a:=p8) (xs:=lb.map V.int) (λj ys σ' H'=>∃z:Option V,σ'=[z]/\ys=((lb.take j).map λy=>0-y).map V.int/\H6=H') (by rw[Hs];omega) ⟨none,rfl,rfl,rfl⟩ ?_ ?_ ?_⟩
   ·rintro j ys σ' H' _ ⟨z,rfl,rfl,rfl⟩;exact⟨SqL.of h86,by simp;omega⟩
   ·rintro j v ys σ' H' hj ⟨z,rfl,rfl,rfl⟩;obtain⟨c,ec,rfl,hcm,_⟩:=dR hj;refine⟨_,rfl,_,_,rfl,rfl,_,rfl,?_,rfl⟩;rw[Ib,ec,Hu,Hu];rfl
   rintro ys σ' H' pc ⟨z,rfl,rfl,rfl⟩ hpc;have n7:=Same.upd_new (o:=.lst ((((lb.take (lb.map V.int).length).map λy=>0-y)).map V.int)) hpc;have e7:upd H6 pc (.lst ((((lb.take (lb.map V.int).length).map λy=>0-y)).map V.int)) pc=some (.lst ((lb.map λy=>0-y).map V.int)):=by rw[aj,Hs,HY]
   have ml:(ae [my] la).length<=1+la.length:=f7 [my] la;refine⟨pq,pc,ae [my] la,lb.map λy=>0-y,rfl,n7 _ _ e6,e7,by omega,by rw[Hs];omega,λpz H8 s8 hpz e8'=>?_⟩;have t8':=n7.trans s8;have hP8:=hP6.same t8';refine⟨l,_,_,rfl,rfl,hP8.hl,by omega,?_⟩;have em6:ps.map V.ref++[V.ref pz]=(ps++[pz]).map V.ref:=by rw[Hu];rfl
   rw[em6]
   have cN:∀n,cf (lb.map λy=>0-y) n = -cf lb n:=λn=>by
    by_cases z:n<lb.length
    ·rw[ce (by rw[Hs];exact z),ce z,List.getElem_map];omega
    ·rw[aR (by rw[Hs];omega),aR (by omega)];rfl
   have cX:∀n,cf (di (ae [my] la) (lb.map λy=>0-y)) n=my*cf la n + -cf lb n:=λn=>by rw[DU,cI,cN]
   have tX:Tr (di (ae [my] la) (lb.map λy=>0-y)):=wz _ _;refine k (ps++[pz]) (ls++[t]) (r++[di (ae [my] la) (lb.map λy=>0-y)]) (xs++[(1,trim [my],1)]) _ (m4.trans ((SmB.of (t6.trans t8')).trans SmB.updL)) (hP8.putL (hP8.rw.snoc e8' (Ne.symm (aE (n7 _ _ hP6.hl) hpz)) (Ne.symm (aE (n7 _ _ hP6.hk) hpz)))) (hB.app hN ⟨tX,?_,AllB.of_cf λn=>?_⟩ ⟨aS (by show(1:Int).natAbs<1024;decide) (by omega),aS (by show(1:Int).natAbs<1024;decide) (by omega),(fD (bm.mono (by omega))).trim,?_⟩) λz=>absurd z (by decide)
   ·exact i9 tX λn hn=>by rw[cX,aR (l:=la) (by omega),aR (l:=lb) (by omega)];simp
   ·rw[cX];exact(Bits.add (k:=6+(91300+8*N)) (bm.mul (b9.cf n)) ((b8.cf n).neg.mono (by omega))).mono (by omega)
   ·have:=gP [my];have z:([my]:List Int).length=1:=rfl;show(trim [my]).length<=12;omega
theorem jx{t1 u:TS}{t3:TT}{D:Ends}{σ:St}{H:Hp}{w:Int}(e:σ[3]?=some (some (.int w)))(h:¬(0<w/\w<5))(k:u D σ H):bz (cS (ie (dk (tOp (rI0 λi j=>V.bl (decide (j<i))) (cZ 3) (tC (V.int 0)))) (ie (dk (tOp (rI0 λi j=>V.bl (decide (i<j))) (cZ 3) (tC (V.int 5)))) t3)) t1 d8) u D σ H :=
 bU (cg ⟨_,e,_,_,rfl,rfl,_,rfl,aC (λz1=>cg ⟨_,e,_,_,rfl,rfl,_,rfl,aC (λz2=>absurd ⟨z1,z2⟩ h) (λ_=>bV k)⟩) (λ_=>bV k)⟩)
theorem ir{t1 u:TS}{t3:TT}{D:Ends}{σ:St}{H:Hp}{w:Int}(e:σ[3]?=some (some (.int w)))(h:¬w=5)(k:u D σ H):bz (cS (ie (dk (tOp (rI0 λi j=>V.bl (decide (i=j))) (cZ 3) (tC (V.int 5)))) t3) t1 d8) u D σ H :=
 bU (cg ⟨_,e,_,_,rfl,rfl,_,rfl,aC (λz=>absurd z h) (λ_=>bV k)⟩)
theorem gC{t1 u:TS}{D:Ends}{σ:St}{H:Hp}{w:Int}(e:σ[3]?=some (some (.int w)))(h:¬w=6)(h':¬w=7)(k:u D σ H):bz (cS (tOr (dk (tOp (rI0 λi j=>V.bl (decide (i=j))) (cZ 3) (tC (V.int 6)))) (dk (tOp (rI0 λi j=>V.bl (decide (i=j))) (cZ 3) (tC (V.int 7))))) t1 d8) u D σ H :=
 bU (dL ⟨_,e,_,_,rfl,rfl,_,rfl,aC (λz=>absurd z h) (λ_=>⟨_,e,_,_,rfl,rfl,_,rfl,aC (λz=>absurd z h') (λ_=>k)⟩)⟩)
theorem yg{t1 u:TS}{D:Ends}{σ:St}{H:Hp}{w:Int}(e:σ[3]?=some (some (.int w)))(h:w=6\/w=7)(k:t1 { D with nx:=u D } σ H):bz (cS (tOr (dk (tOp (rI0 λi j=>V.bl (decide (i=j))) (cZ 3) (tC (V.int 6)))) (dk (tOp (rI0 λi j=>V.bl (decide (i=j))) (cZ 3) (tC (V.int 7))))) t1 d8) u D σ H :=
 bU (dL ⟨_,e,_,_,rfl,rfl,_,rfl,aC (λ_=>cE k) (λz=>⟨_,e,_,_,rfl,rfl,_,rfl,aC (λ_=>k) (λz'=>absurd h λy=>y.elim z z')⟩)⟩)
theorem PB.setL{N:Nat}{r:List (List Int)}{xs:List Lnk}(h:PB N r xs)(hN:N<50){i:Nat}{x:List Int}(hx:RwN (N+1) x):PB (N+1) (r.set i x) xs :=
 ⟨λy hy=>(Jp hy).elim (λz=>(h.rb y z).mono (by omega)) λz=>by rw[z];exact hx,λy hy=>(h.xb y hy).mono (by omega),by rw[HU];exact h.two,by rw[HU];have:=h.few;omega,by omega⟩
theorem PB.pop{N:Nat}{r:List (List Int)}{xs:List Lnk}(h:PB N r xs)(hN:N<50)(h2:2<r.length):PB (N+1) r.dropLast xs.dropLast :=
 ⟨λy hy=>(h.rb y (List.dropLast_subset _ hy)).mono (by omega),λy hy=>(h.xb y (List.dropLast_subset _ hy)).mono (by omega),by rw[IQ,IQ];have:=h.two;omega,by rw[IQ];have:=h.few;omega,by omega⟩
theorem uL{α β:Type}(f:α->β)(l:List α):(l.map f).dropLast=l.dropLast.map f:=by rw[List.map_dropLast]
def qy:Sp:=λvs H Q _=>∃(l lk c:Addr) (ps ls:List Addr) (r:List (List Int)) (xs:List Lnk) (x y z:Int) (N:Nat),vs=[.ref l,.ref lk,.ref c]/\H c=some (.lst ([x,y,z].map V.int))/\Pap H l lk ps ls r xs/\PB N r xs/\N<50 /\
 ∀(ps' ls':List Addr) (r':List (List Int)) (xs':List Lnk) (H':Hp),SmB l lk H H'->Pap H' l lk ps' ls' r' xs'->PB (N+1) r' xs'->Q .non H'
theorem Ac(F:Fun K "_law_change" "_law_change" lJ f fd)(T:Txt K mg)(iX:Cal P w K mg base 2 "_law_more" ["_law_kp","_law_place","_law_many"] jd uA uz)(FM:Cal P w K mg base 3 "_law_change_link" ["_law_links","_law_way_here","_law_at","_law_many","_law_place"] qz Hh GE)(oY:Cal P w K mg base 33 "_law_lay_behind" ["_law_row","_law_links","_law_way_here","_law_many"] ky De CW):FnOk P w K mg base CX0 34 f fd ["_law_row","_law_links","_law_cells_of"] qy:=by
 obtain⟨iW,iD,iH,iT⟩:=iX;obtain⟨E9,Bb,B6,Em⟩:=FM;obtain⟨oQ,mR,ng,oC⟩:=oY;refine F.ok sc__law_change (λvs H Q E h=>?_) (λcdv A outer s H vs Q E hr h=>?_)
 ·obtain⟨l,lk,c,ps,ls,r,xs,x,y,z,N,rfl,_⟩:=h;rfl
 ·obtain⟨l,lk,c,ps,ls,r,xs,x,y,z,N,rfl,hc,hP,hB,hN,k⟩:=h;have big:=sizeLine_eq;have n50:=hB.n50;have r2:=hB.two;have r150:=hB.few;have hpl:(ps.map V.ref).length=r.length:=by rw[Hs,hP.rw.1.1]
  have hll:(ls.map V.ref).length=xs.length:=by rw[Hs,hP.lx.1]
  have p2:(0:Int)<2:=by decide
  have B2:Bits 9000 (2:Int):=aS (by decide) (by decide)
  refine⟨_,(ag (am (i:=3) sc__law_change.nd rfl (Or.inl rfl) (af aY (ai (aM (K:=K) rfl) (pv 2) ac (λ_ _=>rfl)) ac))
   (ag (am (i:=4) sc__law_change.nd rfl (Or.inl rfl) (af aH (af aT ac (af aY (af b7 (ai (aM (K:=K) rfl) (pv 2) ac (λ_ _=>rfl)) ac) ac)) (af aZ ac (af aH ac (af aY (ai (aM (K:=K) rfl) (pv 2) ac (λ_ _=>rfl)) ac)))))
   (ag (am (i:=5) sc__law_change.nd rfl (Or.inl rfl) (af aY (ai (aM (K:=K) rfl) (pv 2) ac (λ_ _=>rfl)) (aI (aX (K:=K) rfl) (by rfl) T.len_ PySem.boot_len (aa (pv 0) ad))))
   (ag (am (i:=6) sc__law_change.nd rfl (Or.inl rfl) (af aY (af b7 (ai (aM (K:=K) rfl) (pv 2) ac (λ_ _=>rfl)) ac) ac))
   (ag (aW (aD bh (pv 3) ac (av _))
     (ak (c8 (au iW (hr.mono) rfl iD iH iT .nil ar (aa (ai (aM (K:=K) rfl) (pv 0) (pv 5) (λ_ _=>rfl)) (aa (pv 6) (aa (pv 4) ad)))) (du (pv 0) (pv 5) dm)))
     aV)
   (ag (aW (PW.pt (cF (aD cM (pv 3) ac (av _)) (cF (aD dw (pv 3) ac (av _)) (cU (aD cM (aI (aX (K:=K) rfl) (by rfl) T.len_ PySem.boot_len (aa (pv 1) ad)) ac (av _))))))
     (ak (bX (au E9 (hr.mono) rfl Bb B6 Em .nil ar (aa (pv 1) (aa (pv 3) (aa (af aY (ai (aM (K:=K) rfl) (pv 2) ac (λ_ _=>rfl)) (aI (aX (K:=K) rfl) (by rfl) T.len_ PySem.boot_len (aa (pv 1) ad))) (aa (pv 4) (aa (pv 6) ad))))))))
     aV)
   (ag (aW (PW.pt (cF (aD bh (pv 3) ac (av _)) (cU (aD cM (aI (aX (K:=K) rfl) (by rfl) T.len_ PySem.boot_len (aa (pv 0) ad)) ac (av _)))))
     (ag (bX (r8 PySem.F.plainAttrs_list PySem.F.slot_list_pop PySem.F.type_list_pop sR (pv 0)))
       (ak (bX (r8 PySem.F.plainAttrs_list PySem.F.slot_list_pop PySem.F.type_list_pop sR (pv 1)))))
     aV)
   (ag (aW (PW.pt (dN (aD bh (pv 3) ac (av _)) (eh (aD bh (pv 3) ac (av _)))))
     (ak (bX (au oQ (hr.mono) rfl mR ng oC .nil ar (aa (pv 0) (aa (pv 1) (aa (pv 3) (aa (af aT (af aH (pv 4) (eD j5 (by rfl) T.int_ PyProof.Rows.boot_int (aa (da cM (af aY (ai (aM (K:=K) rfl) (pv 2) ac (λ_ _=>rfl)) ac) ac (av _)) ad))) (eD j5 (by rfl) T.int_ PyProof.Rows.boot_int (aa (da bh (pv 3) ac (av _)) ad))) ad)))))))
     aV)
   (ak (aW (aD bh (pv 3) ac (av _))
     (ag (am (i:=7) sc__law_change.nd rfl (Or.inl rfl) (ai (aM (K:=K) rfl) (pv 0) (pv 5) (λ_ _=>rfl)))
       (ag (c8 (ai (aM (K:=K) rfl) (pv 0) (af aY (pv 6) (aI (aX (K:=K) rfl) (by rfl) T.len_ PySem.boot_len (aa (pv 0) ad))) (λ_ _=>rfl)) (du (pv 0) (pv 5) dm))
       (ak (c8 (pv 7) (du (pv 0) (af aY (pv 6) (aI (aX (K:=K) rfl) (by rfl) T.len_ PySem.boot_len (aa (pv 0) ad))) dm)))))
     aV)))))))))),?_⟩
  obtain⟨y1,y2⟩:=bN (x:=y/2) (m:=20) (by decide);obtain⟨y3,y4⟩:=bN (x:=y) (m:=2) (by decide);refine ax ⟨_,rfl,c,_,_,_,rfl,rfl,SqL.of hc,rfl,_,_,rfl,rfl,(by show(0:Int)<9;decide),?_⟩;refine ax ⟨_,rfl,c,_,_,_,rfl,rfl,SqL.of hc,rfl,_,_,rfl,rfl,⟨p2,B2⟩,_,_,rfl,rfl,(by show(0:Int)<20;decide),_,_,rfl,rfl,_,rfl,c,_,_,_,rfl,rfl,SqL.of hc,rfl,_,_,rfl,rfl,p2,_,_,rfl,rfl,⟨aS (by decide) (by decide),aS (by omega) (by decide)⟩,_,_,rfl,rfl,_,_,rfl,rfl,⟨aS (by omega) (by decide),aS (by omega) (by decide)⟩,?_⟩;refine ax ⟨_,rfl,c,_,_,_,rfl,rfl,SqL.of hc,rfl,_,rfl,l,_,rfl,.inl (SqL.of hP.hl),_,_,rfl,rfl,(by show(0:Int)<((ps.map V.ref).length:Int);omega),?_⟩;refine ax ⟨_,rfl,c,_,_,_,rfl,rfl,SqL.of hc,rfl,_,_,rfl,rfl,⟨by show(0:Int)<7;decide,aS (by decide) (by decide)⟩,_,_,rfl,rfl,(by show(0:Int)<6;decide),?_⟩;obtain⟨w1,w2⟩:=bN (x:=x) (m:=9) (by decide);obtain⟨w,ew⟩:∃w,x%9=w:=⟨_,rfl⟩;rw[ew]at w1 w2;obtain⟨my,emy⟩:∃my,(1+y/2%20)*(1-2*(y%2))=my:=⟨_,rfl⟩
  have my20 : -20<=my/\my<=20:=by rcases(show y%2=0\/y%2=1 by omega)with e |e<;>rw[e]at emy<;>omega
  have bm:Bits 6 my:=by show my.natAbs<2^6;have:(2:Nat)^6=64:=rfl;omega
  obtain⟨i,hi,ei⟩:∃i:Nat,i<r.length/\z%((ps.map V.ref).length:Int)=(i:Int):=by rw[hpl];obtain⟨c1,c2⟩:=bN (x:=z) (m:=(r.length:Int)) (by omega);exact⟨(z%(r.length:Int)).toNat,by omega,by rw[JM c1]⟩
  obtain⟨pl,hpl5,epl⟩:∃pl:Nat,pl<=5/\z/7%6=(pl:Int):=by obtain⟨c1,c2⟩:=bN (x:=z/7) (m:=6) (by decide);exact⟨(z/7%6).toNat,by omega,by rw[JM c1]⟩
  show bz _ _ _ [some (.ref l),some (.ref lk),some (.ref c),some (.int (x%9)),some (.int ((1+y/2%20)*(1-2*(y%2)))),some (.int (z%((ps.map V.ref).length:Int))),some (.int (z/7%6)),none] H;rw[ew,emy,ei,epl];obtain⟨p,ea,hp⟩:=gg hP.rw.1 hi (rfl:((i:Nat):Int)=i);have ilen:i<(ps.map V.ref).length:=by omega
  rcases(show w=0\/(0<w/\w<5)\/w=5\/(w=6\/w=7)\/w=8 by omega)with rfl |hw |rfl |hw |rfl
  ·refine jv rfl rfl ?_;obtain⟨ti,li,bi⟩:=hB.at hi;refine⟨_,rfl,_,rfl,l,_,_,_,rfl,rfl,SqL.of hP.hl,ea,_,rfl,_,rfl,p,r.getD i [],pl,my,rfl,hp,by omega,by omega,λp' ys H2 s2 hp' e2 ty hcy _=>?_⟩;have hP2:=hP.same s2;refine⟨_,rfl,_,rfl,l,_,_,i,rfl,rfl,hP2.hl,dE rfl ilen,?_⟩;dsimp only
   have es:(ps.map V.ref).set i (.ref p')=(ps.set i p').map V.ref:=by rw[List.map_set]
   rw[es];refine jx rfl (by decide) (ir rfl (by decide) (gC rfl (by decide) (by decide) (dJ rfl (by decide) (k (ps.set i p') ls (r.set i ys) xs _ ((SmB.of s2).trans SmB.updL) (hP2.putL (hP2.rw.set i e2 (Ne.symm (aE hP.hl hp')) (Ne.symm (aE hP.hk hp')))) (hB.setL hN ⟨ty,?_,AllB.of_cf λn=>?_⟩)))))
   ·exact i9 ty λn hn=>by rw[hcy n,aR (by omega),if_neg (by omega)];rfl
   ·rw[hcy n];refine(Bits.add (k:=91300+8*N) (bi.cf n) ?_).mono (by omega);split
    ·exact bm.mono (by omega)
    ·exact Bits.zero
  ·refine c7 rfl (by omega) ?_;refine bU (cg ⟨_,rfl,_,_,rfl,rfl,_,rfl,aC (λ_=>?_) (λz=>absurd hw.1 z)⟩);refine cg ⟨_,rfl,_,_,rfl,rfl,_,rfl,aC (λ_=>?_) (λz=>absurd hw.2 z)⟩;refine⟨_,rfl,lk,_,rfl,.inl (SqL.of hP.hk),_,_,rfl,rfl,_,rfl,aC (λh0=>?_) (λ_=>ir rfl (by omega) (gC rfl (by omega) (by omega) (dJ rfl (by omega) (k ps ls r xs H SmB.refl hP (hB.mono hN)))))⟩;have h0':(0:Int)<((ls.map V.ref).length:Int):=h0
   obtain⟨j,hj,ej⟩:∃j:Nat,j<xs.length/\z%((ls.map V.ref).length:Int)=(j:Int):=by rw[hll];obtain⟨c1,c2⟩:=bN (x:=z) (m:=(xs.length:Int)) (by omega);exact⟨(z%(xs.length:Int)).toNat,by omega,by rw[JM c1]⟩
   refine⟨_,rfl,_,rfl,_,rfl,c,_,_,_,rfl,rfl,SqL.of hc,rfl,_,rfl,lk,_,rfl,.inl (SqL.of hP.hk),_,_,rfl,rfl,h0',_,rfl,_,rfl,l,lk,ps,ls,r,xs,w,my,j,pl,N,by rw[<- ej];rfl,hP,hB,hN,hj,by omega,by omega,bm,hpl5,λls' xs' H' m' hP' hB'=>?_⟩;exact ir rfl (by omega) (gC rfl (by omega) (by omega) (dJ rfl (by omega) (k ps ls' r xs' H' m' hP' hB')))
  ·refine c7 rfl (by decide) (jx rfl (by decide) ?_);refine bU (cg ⟨_,rfl,_,_,rfl,rfl,_,rfl,aC (λ_=>?_) (λz=>absurd rfl z)⟩);refine⟨_,rfl,l,_,rfl,.inl (SqL.of hP.hl),_,_,rfl,rfl,_,rfl,aC (λh0=>?_) (λ_=>gC rfl (by decide) (by decide) (dJ rfl (by decide) (k ps ls r xs H SmB.refl hP (hB.mono hN))))⟩;have h0':(2:Int)<((ps.map V.ref).length:Int):=h0;have g1:(ps.map V.ref)[(ps.map V.ref).length-1]?=some ((ps.map V.ref)[(ps.map V.ref).length-1]'(by omega)):=List.getElem?_eq_getElem _;have g2:(ls.map V.ref)[(ls.map V.ref).length-1]?=some ((ls.map V.ref)[(ls.map V.ref).length-1]'(by omega)):=List.getElem?_eq_getElem _;have hP2:=hP.putL hP.rw.pop;have hP3:=hP2.putK hP2.lx.pop;refine d9 ⟨_,rfl,.inl ⟨rfl,_,SqL.of hP.hl⟩,l,_,_,rfl,rfl,hP.hl,g1,?_⟩;rw[uL];refine dM ⟨_,rfl,.inl ⟨rfl,_,SqL.of hP2.hk⟩,lk,_,_,rfl,rfl,hP2.hk,g2,?_⟩;rw[uL];exact gC rfl (by decide) (by decide) (dJ rfl (by decide) (k _ _ _ _ _ (SmB.updL.trans SmB.updK) hP3 (hB.pop hN (by omega))))
  ·refine c7 rfl (by omega) (jx rfl (by omega) (ir rfl (by omega) (yg rfl hw ?_)));refine⟨_,rfl,_,rfl,_,rfl,_,rfl,_,rfl,c,_,_,_,rfl,rfl,SqL.of hc,rfl,_,_,rfl,rfl,(by show(0:Int)<5;decide),_,_,rfl,rfl,.inr ⟨_,rfl,?_⟩⟩;refine⟨_,_,rfl,rfl,⟨bm.mono,aS (by split<;>decide) (by decide)⟩,_,rfl,_,_,rfl,rfl,.inr ⟨_,rfl,?_⟩⟩;refine⟨_,_,rfl,rfl,l,lk,ps,ls,r,xs,w,_,N,rfl,hP,hB,hN,hw,?_,λps' ls' r' xs' H' m' hP' hB' _=>dJ rfl (by omega) (k ps' ls' r' xs' H' m' hP' hB')⟩
   have g:∀b1 b2:Bool,Bits 6 (my*(if b1 then 1 else 0)+if b2 then 1 else 0):=λb1 b2=>by show Int.natAbs _<2^6;have:(2:Nat)^6=64:=rfl;cases b1<;>cases b2<;>simp<;>omega
   exact g _ _
  ·refine c7 rfl (by decide) (jx rfl (by decide) (ir rfl (by decide) (gC rfl (by decide) (by decide) (lU rfl rfl ?_))));refine ax ⟨_,rfl,_,rfl,l,_,_,_,rfl,rfl,SqL.of hP.hl,ea,?_⟩
   obtain⟨j,hj,ej⟩:∃j:Nat,j<r.length/\(pl:Int)%((ps.map V.ref).length:Int)=(j:Int):=by rw[hpl];obtain⟨c1,c2⟩:=bN (x:=(pl:Int)) (m:=(r.length:Int)) (by omega);exact⟨((pl:Int)%(r.length:Int)).toNat,by omega,by rw[JM c1]⟩
   obtain⟨p',ea',hp'⟩:=gg hP.rw.1 hj ej
   have mem:∀{q:Addr} {v:Int},atI (ps.map V.ref) v=some (.ref q)->q∈ps:=λ{q v} h=>by
    unfold atI at h
    cases e:ixN (ps.map V.ref).length v with
    |none=>rw[e]at h;cases h
    |some n =>rw[e]at h;have h':(ps.map V.ref)[n]?=some (.ref q):=h;obtain⟨q',hq',e'⟩:=Hz.mp (List.mem_of_getElem? h');cases e';exact hq'
   have np:=hP.rw.2 p (mem ea);have np':=hP.rw.2 p' (mem ea');have hlp:(0:Int)<((ps.map V.ref).length:Int):=by omega
   refine jw ⟨_,rfl,_,rfl,_,rfl,l,_,rfl,.inl (SqL.of hP.hl),_,_,rfl,rfl,hlp,l,_,_,_,rfl,rfl,SqL.of hP.hl,ea',?_⟩;refine⟨_,rfl,_,rfl,l,_,_,i,rfl,rfl,hP.hl,dE rfl ilen,?_⟩;have es:(ps.map V.ref).set i (.ref p')=(ps.set i p').map V.ref:=by rw[List.map_set]
   have hP2:=hP.putL (hP.rw.set i hp' np'.1 np'.2);have hB2:PB (N+1) (r.set i (r.getD j [])) xs:=hB.setL hN ((hB.at hj).mono (by omega));rw[es];have hp2:upd H l (.lst ((ps.set i p').map V.ref)) p=some (.lst ((r.getD i []).map V.int)):=by rw[upd_ne np.1];exact hp
   have m2:SmB l lk H (upd H l (.lst ((ps.set i p').map V.ref))):=SmB.updL;generalize upd H l (.lst ((ps.set i p').map V.ref))=H2 at hP2 hp2 m2 ⊢
   have sl:((ps.set i p').map V.ref).length=(ps.map V.ref).length:=by rw[Hs,HU,Hs]
   have hlp2:(0:Int)<(((ps.set i p').map V.ref).length:Int):=by omega
   refine⟨_,rfl,_,rfl,_,rfl,_,rfl,l,_,rfl,.inl (SqL.of hP2.hl),_,_,rfl,rfl,hlp2,l,_,_,j,rfl,rfl,hP2.hl,dE (by rw[sl];exact ej) (by omega),?_⟩;have es2:((ps.set i p').map V.ref).set j (.ref p)=((ps.set i p').set j p).map V.ref:=by rw[List.map_set (l:=ps.set i p')]
   rw[es2];refine k _ ls _ xs _ (m2.trans SmB.updL) (hP2.putL (hP2.rw.set j hp2 np.1 np.2)) ?_;refine⟨λx hx=>?_,hB2.xb,by rw[HU];exact hB2.two,by rw[HU];exact hB2.few,hB2.n50⟩;rcases Jp hx with h |h
   ·exact hB2.rb x h
   ·rw[h];exact(hB.at hi).mono (by omega)
theorem Du{xs:List V}(h:2<=xs.length):dG xs none (some 2)=xs.take 2:=by
 unfold dG HT.sIx;simp
 try (congr 1;try omega)
structure Any(H:Hp)(N:Nat)(l lk:Addr)(ps ls:List Addr)(r:List (List Int))(xs:List Lnk):Prop where
 hl:H l=some (.lst (ps.map V.ref))
 hk:H lk=some (.lst (ls.map V.ref))
 rw:RwH H ps r
 lx:LkH H ls xs
 rb:∀x∈r,RwN N x
 xb:∀x∈xs,LkN N x
 r20:r.length<=20
 x20:xs.length<=20
theorem RwH.take{H:Hp}{ps:List Addr}{r:List (List Int)}(h:RwH H ps r)(n:Nat):RwH H (ps.take n) (r.take n):=by
 refine⟨by rw[HZ,HZ,h.1],λi p x a b=>?_⟩;rw[List.getElem?_take]at a b;split at a
 ·rename_i hi
  rw[if_pos hi]at b;exact h.2 i p x a b
 ·cases a
theorem RwH.app{H:Hp}{ps qs:List Addr}{r t:List (List Int)}(h:RwH H ps r)(g:RwH H qs t):RwH H (ps++qs) (r++t):=by
 refine⟨by rw[Hv,Hv,h.1,g.1],λi p x a b=>?_⟩;by_cases z:i<ps.length
 ·rw[List.getElem?_append_left z]at a;rw[List.getElem?_append_left (by rw[<- h.1];exact z)]at b;exact h.2 i p x a b
 ·rw[List.getElem?_append_right (by omega)]at a;rw[List.getElem?_append_right (by rw[<- h.1];omega),<- h.1]at b;exact g.2 _ p x a b
theorem xT{H:Hp}{ps:List Addr}{r:List (List Int)}{a:Addr}{o:HO}(h:RwH H ps r)(ha:∀p∈ps,p≠a):RwH (upd H a o) ps r :=
 ⟨h.1,λi p x e1 e2=>(upd_ne (ha p (List.mem_of_getElem? e1))).trans (h.2 i p x e1 e2)⟩
def qC:Sp:=λvs H Q _=>∃(t l lk:Addr) (ps ls:List Addr) (r:List (List Int)) (xs:List Lnk) (c o:Int) (N:Nat),vs=[.ref t,.int c,.int o]/\H t=some (.tup [.ref l,.ref lk])/\Pap H l lk ps ls r xs/\PB N r xs /\
 ∀(t l lk:Addr) (ps ls:List Addr) (r:List (List Int)) (xs:List Lnk) (H':Hp),Same H H'->H' t=some (.tup [.ref l,.ref lk])->Any H' N l lk ps ls r xs->Q (.ref t) H'
theorem Ae(F:Fun K "_law_any_paper" "_law_any_paper" lL f fd)(T:Txt K mg)(FI:Cal P w K mg base 2 "_law_digits" ["_law_left","_law_size","_law_wide"] qu He GA):FnOk P w K mg base CX0 3 f fd ["_law_paper_here","_law_cell","_law_other"] qC:=by
 obtain⟨vY,tx,tW,vE⟩:=FI;refine F.ok sc__law_any_paper (λvs H Q E h=>?_) (λcdv A outer s H vs Q E hr h=>?_)
 ·obtain⟨t,l,lk,ps,ls,r,xs,c,o,N,rfl,_⟩:=h;rfl
 ·obtain⟨t,l,lk,ps,ls,r,xs,c,o,N,rfl,ht,hP,hB,k⟩:=h;have big:=sizeLine_eq;have r2:=hB.two;have hpl:(ps.map V.ref).length=r.length:=by rw[Hs,hP.rw.1.1]
  refine⟨_,(ag (am (i:=3) sc__law_any_paper.nd rfl (Or.inl rfl) (bH ad))
   (ag (am (i:=4) sc__law_any_paper.nd rfl (Or.inl rfl) (af b7 (pv 1) ac))
   (ag (bW PassesOwn.never rfl (dr rfl T.range_ (aa (af aT ac (af aY (pv 1) ac)) ad)) (aL (i:=5) sc__law_any_paper.nd rfl (Or.inl rfl))
     (ag (bX (cH PySem.F.plainAttrs_list PySem.F.slot_list_append PySem.F.type_list_append cJ (pv 3) (aa (au vY (hr.mono) rfl tx tW vE .nil ar (aa (af b7 (pv 4) ac) (aa (af aY (pv 4) ac) (aa ac ad)))) ad)))
       (ak (am (i:=4) sc__law_any_paper.nd rfl (Or.inl rfl) (af b7 (pv 4) ac)))))
   (ag (aW (aD bh (af aY (pv 2) ac) ac (av _))
     (ak (am (i:=3) sc__law_any_paper.nd rfl (Or.inl rfl) (af si (cG (own:=["_law_one"]) (fr:=[]) (js:=[]) (by walk_at "comp_ok") rfl (ci (K:=K) rfl (iy (im (K:=K) rfl) (ai (ay (K:=K) rfl) (pv 0) ac (λ_ _=>rfl)) jF (gG ac))) (λ_ _ _ _=>(aL (i:=0) (show List.Nodup (["_law_one"]:List Str)from by decide +kernel) rfl (Or.inl rfl))) (λ_ _ _ _=>(eD (g6 (K:=K) rfl) (by rfl) T.list_ PyProof.Rows.boot_list (aa (pv 0) ad)))) (pv 3))))
     aV)
   (ag (am (i:=6) sc__law_any_paper.nd rfl (Or.inl rfl) (bH ad))
   (ag (am (i:=4) sc__law_any_paper.nd rfl (Or.inl rfl) (af b7 (pv 2) ac))
   (ag (bW PassesOwn.never rfl (dr rfl T.range_ (aa (aI (oq rfl) (by rfl) T.max_ PyProof.Rows.boot_max (aa ac (aa (af aT (af aZ (aI (aX (K:=K) rfl) (by rfl) T.len_ PySem.boot_len (aa (pv 3) ad)) ac) (af aY (af b7 (pv 2) ac) ac)) ad))) ad)) (aL (i:=5) sc__law_any_paper.nd rfl (Or.inl rfl))
     (ag (bX (cH PySem.F.plainAttrs_list PySem.F.slot_list_append PySem.F.type_list_append cJ (pv 6) (aa (bS (aa (af aZ (af aY (pv 4) ac) ac) (aa (au vY (hr.mono) rfl tx tW vE .nil ar (aa (af b7 (pv 4) ac) (aa ac (aa ac ad)))) (aa (af aZ (af aY (af b7 (pv 4) ac) ac) ac) ad)))) ad)))
       (ak (am (i:=4) sc__law_any_paper.nd rfl (Or.inl rfl) (af b7 (pv 4) ac)))))
   (ak (aG (bS (aa (pv 3) (aa (pv 6) ad)))))))))))),?_⟩
  obtain⟨c1,c2⟩:=bN (x:=c) (m:=5) (by decide);obtain⟨n5,e5⟩:∃n5:Nat,1+c%5=(n5:Int):=⟨(1+c%5).toNat,by omega⟩;refine ax ⟨Hy _,λpr hpr=>?_⟩;have s1:=Same.upd_new (o:=.lst []) hpr;have q1:upd H pr (.lst []) pr=some (.lst (([]:List Addr).map V.ref)):=aj;generalize upd H pr (.lst [])=H1 at s1 q1 ⊢
  refine ax ⟨_,rfl,_,_,rfl,rfl,⟨by show(0:Int)<5;decide,aS (by decide) (by decide)⟩,?_⟩;refine lZ (λσ' H'=>∃(z5:Option V) (d:Int) (pr:Addr) (ps':List Addr) (r':List (List Int)),σ'=[some (.ref t),some (.int c),some (.int o),some (.ref pr),some (.int d),z5,none]/\Same H H'/\H' pr=some (.lst (ps'.map V.ref))/\RwH H' ps' r'/\(∀x∈r',RwN N x)/\r'.length<=5) ?_ λrest=>?_
  case refine_2 =>
   refine⟨_,rfl,_,_,rfl,rfl,(by show(0:Int)<5;decide),_,_,rfl,rfl,(n5:Int),by rw[<- e5],by omega,by omega,ga (lo:=0) (n:=n5) (λj σ' H'=>∃(z5:Option V) (d:Int) (ps':List Addr) (r':List (List Int)),σ'=[some (.ref t),some (.int c),some (.int o),some (.ref pr),some (.int d),z5,none]/\Same H H'/\H' pr=some (.lst (ps'.map V.ref))/\RwH H' ps' r'/\(∀x∈r',RwN N x)/\r'.length=j/\∀p∈ps',p≠pr) ⟨none,_,[],[],rfl,s1,q1,RwH.nil,λx hx=>by simp at hx,rfl,λx hx=>by simp at hx⟩ ?_ ?_⟩
   ·rintro j σ' H2 hj ⟨z5,d,ps',r',rfl,s2,e2,hR2,hb2,hl2,hn2⟩;obtain⟨d1,d2⟩:=bN (x:=d) (m:=5) (by decide);obtain⟨m,em⟩:∃m:Nat,d%5=(m:Int):=⟨(d%5).toNat,by omega⟩;have hpl2:(ps'.map V.ref).length=j:=by rw[Hs,hR2.1,hl2]
    refine d9 ⟨_,rfl,.inl ⟨rfl,_,SqL.of e2⟩,_,rfl,_,_,rfl,rfl,⟨by show(0:Int)<5;decide,aS (by decide) (by decide)⟩,_,rfl,_,_,rfl,rfl,(by show(0:Int)<5;decide),d/5,m,by rw[<- em];rfl,by omega,λp ys H3 s3 hp e3 ty yl yb=>?_⟩;refine⟨pr,_,_,rfl,rfl,s3 _ _ e2,by omega,?_⟩;have npr:p≠pr:=Ne.symm (aE e2 hp);have hn3:∀q∈ps'++[p],q≠pr:=λq hq=>(HP.mp hq).elim (hn2 q) λz=>by rw[Hx.mp z];exact npr
    refine dq ⟨_,rfl,_,_,rfl,rfl,⟨by show(0:Int)<12380495;decide,Bits.mono (j:=24) (by show Int.natAbs 12380495<2^24;decide) (by decide)⟩,_,_,ps'++[p],r'++[ys],rfl,cO (s2.trans s3) hpr,by rw[aj,Hu];rfl,xT ((hR2.same s3).snoc e3) hn3,λx hx=>?_,by rw[Hv,hl2];rfl,hn3⟩;rcases HP.mp hx with z |z
    ·exact hb2 x z
    ·rw[Hx.mp z];exact⟨ty,by omega,yb.mono (by omega)⟩
   ·rintro σ' H2 ⟨z5,d,ps',r',rfl,s2,e2,hR2,hb2,hl2,_⟩;exact rest _ _ ⟨z5,d,pr,ps',r',rfl,s2,e2,hR2,hb2,by omega⟩
  rintro σ' H2 ⟨z5,d,pr,ps',r',rfl,s2,e2,hR2,hb2,hl2⟩;refine cL (λσ' H'=>∃(z5:Option V) (d:Int) (pr:Addr) (ps':List Addr) (r':List (List Int)),σ'=[some (.ref t),some (.int c),some (.int o),some (.ref pr),some (.int d),z5,none]/\Same H H'/\H' pr=some (.lst (ps'.map V.ref))/\RwH H' ps' r'/\(∀x∈r',RwN N x)/\r'.length<=7) ?_ ?_
  case refine_2 =>
   intro rest;refine⟨_,rfl,_,_,rfl,rfl,(by show(0:Int)<2;decide),_,_,rfl,rfl,_,rfl,aC (λ_=>?_) (λ_=>rest _ _ ⟨z5,d,pr,ps',r',rfl,s2,e2,hR2,hb2,by omega⟩)⟩;refine dq ⟨_,rfl,t,_,_,_,rfl,rfl,SqT.of (s2 _ _ ht),rfl,2,rfl,l,_,rfl,SqL.of (s2 _ _ hP.hl),λpc hpc=>?_⟩;rw[Du (by omega),<- List.map_take];have n3:=Same.upd_new (o:=.lst ((ps.take 2).map V.ref)) hpc;have e3:upd H2 pc (.lst ((ps.take 2).map V.ref)) pc=some (.lst ((ps.take 2).map V.ref)):=aj;generalize upd H2 pc (.lst ((ps.take 2).map V.ref))=H3 at n3 e3 ⊢
   have hR3:=((hP.rw.1.same s2).same n3).take 2;have l2:(ps.take 2).length<=2:=by rw[HZ];omega
   refine⟨pc,rfl,⟨_,SqL.of e3⟩,dW (K:=K) (a:=pc) (xs:=(ps.take 2).map V.ref) (λi ys σ' H'=>∃(z:Option V) (qs:List Addr),σ'=[z]/\ys=qs.map V.ref/\Same H3 H'/\qs.length=i/\RwH H' qs ((r.take 2).take i)) (by rw[Hs];omega) ⟨none,[],rfl,rfl,λ_ _ e=>e,rfl,RwH.nil⟩ ?_ ?_ ?_⟩
   ·rintro i ys σ' H' _ ⟨z,qs,rfl,rfl,sm,hle,_⟩;exact⟨SqL.of (sm _ _ e3),by rw[Hs];omega⟩
   ·rintro i v ys σ' H4 hi ⟨z,qs,rfl,rfl,s4,hle,hR4⟩;obtain⟨p,x,rfl,ep,ex,hp,hlt⟩:=(hR3.same s4).of_get hi;refine⟨_,rfl,p,_,rfl,.inl (SqL.of hp),λq hq=>?_⟩;have n5:=Same.upd_new (o:=.lst (x.map V.int)) hq;refine⟨_,qs++[q],rfl,by rw[Hu];rfl,s4.trans n5,by rw[Hv,hle];rfl,?_⟩;rw[Ib,ex];exact(hR4.same n5).snoc aj
   rintro ys σ' H4 pk ⟨z,qs,rfl,rfl,s4,hle,hR4⟩ hpk;have n5:=Same.upd_new (o:=.lst (qs.map V.ref)) hpk;have hl4:qs.length<=2:=by rw[hle,Hs];exact l2
   have t5:=n3.trans (s4.trans n5);have hpl2:(ps'.map V.ref).length=r'.length:=by rw[Hs,hR2.1]
   refine⟨_,rfl,pk,pr,_,_,rfl,rfl,aj,t5 _ _ e2,by rw[Hs];omega,λpn hpn=>?_⟩;have n6:=Same.upd_new (o:=.lst (qs.map V.ref++ps'.map V.ref)) hpn;have hR6:=(hR4.same n5).app (hR2.same t5);refine rest _ _ ⟨z5,d,pn,qs++ps',_,rfl,s2.trans (t5.trans n6),by rw[aj,Hu],hR6.same n6,λx hx=>?_,by rw[Hv,HZ,HZ];omega⟩;rcases HP.mp hx with z |z
   ·exact hB.rb x (List.mem_of_mem_take (List.mem_of_mem_take z))
   ·exact hb2 x z
  clear s2 e2 hR2 hb2 hl2 ps' r' pr hpr q1 s1 H1;rintro σ' H3 ⟨z5,d,pr,ps',r',rfl,s3,e3,hR3,hb3,hl3⟩;refine ax ⟨Hy _,λkt hkt=>?_⟩;have n4:=Same.upd_new (o:=.lst []) hkt;have q4:upd H3 kt (.lst []) kt=some (.lst (([]:List Addr).map V.ref)):=aj;have fk:=s3.free hkt;generalize upd H3 kt (.lst [])=H4 at n4 q4 ⊢
  refine ax ⟨_,rfl,_,_,rfl,rfl,⟨by show(0:Int)<6;decide,aS (by decide) (by decide)⟩,?_⟩;have hpl3:(ps'.map V.ref).length=r'.length:=by rw[Hs,hR3.1]
  obtain⟨o1,o2⟩:=bN (x:=o/2) (m:=3) (by decide);refine⟨_,rfl,pr,_,rfl,.inl (SqL.of (n4 _ _ e3)),_,_,rfl,rfl,_,rfl,_,_,rfl,rfl,⟨by show(0:Int)<2;decide,aS (by decide) (by decide)⟩,_,_,rfl,rfl,(by show(0:Int)<3;decide),_,_,rfl,rfl,_,_,rfl,?_⟩
  obtain⟨m,em,m9⟩:∃m:Nat,(if((ps'.map V.ref).length:Int)-3+o/2%3>0 then((ps'.map V.ref).length:Int)-3+o/2%3 else 0)=(m:Int)/\m<=9:=by
   split
   ·exact⟨(((ps'.map V.ref).length:Int)-3+o/2%3).toNat,by omega,by omega⟩
   ·exact⟨0,rfl,by omega⟩
  refine⟨(m:Int),by rw[<- em],by omega,by omega,ga (lo:=0) (n:=m) (λj σ' H'=>∃(z5:Option V) (d:Int) (ls':List Addr) (xs':List Lnk),σ'=[some (.ref t),some (.int c),some (.int o),some (.ref pr),some (.int d),z5,some (.ref kt)]/\Same H3 H'/\H' kt=some (.lst (ls'.map V.ref))/\LkX H' kt kt ls' xs'/\(∀x∈xs',LkN N x)/\xs'.length=j) ⟨_,_,[],[],rfl,n4,q4,⟨rfl,λi p x h=>by simp at h⟩,λx hx=>by simp at hx,rfl⟩ ?_ ?_⟩
  ·rintro j σ' H5 hj ⟨z5,d,ls',xs',rfl,s5,e5',hL5,hb5,hl5⟩;have hll:(ls'.map V.ref).length=j:=by rw[Hs,hL5.1,hl5]
   obtain⟨a1,a2⟩:=bN (x:=d) (m:=15) (by decide);obtain⟨b1,b2⟩:=bN (x:=d/5415) (m:=9) (by decide);refine d9 ⟨_,rfl,.inl ⟨rfl,_,SqL.of e5'⟩,_,rfl,_,_,rfl,rfl,(by show(0:Int)<15;decide),_,_,rfl,rfl,?_⟩;refine⟨_,rfl,_,_,rfl,rfl,⟨by show(0:Int)<15;decide,aS (by decide) (by decide)⟩,d/15,2,rfl,by omega,λq ys H6 s6 hq e6 ty yl yb=>?_⟩;refine⟨_,rfl,_,_,rfl,rfl,⟨by show(0:Int)<5415;decide,Bits.mono (j:=13) (by show Int.natAbs 5415<2^13;decide) (by decide)⟩,_,_,rfl,rfl,(by show(0:Int)<9;decide),_,_,rfl,rfl,by show 3<=sizeLine;decide,λpt hpt=>?_⟩;have n7:=Same.upd_new (o:=.tup [.int (d%15-2),.ref q,.int (d/5415%9-1)]) hpt;have t7:=s6.trans n7;have nq:q≠kt:=Ne.symm (aE e5' hq);refine⟨kt,_,_,rfl,rfl,t7 _ _ e5',by omega,?_⟩;refine dq ⟨_,rfl,_,_,rfl,rfl,⟨by show(0:Int)<48735;decide,Bits.mono (j:=16) (by show Int.natAbs 48735<2^16;decide) (by decide)⟩,_,_,ls'++[pt],xs'++[(d%15-2,ys,d/5415%9-1)],rfl,cO (s5.trans t7) hkt,by rw[aj,Hu];rfl,((hL5.same t7).snoc (x:=(d%15-2,ys,d/5415%9-1)) aj (n7 _ _ e6) nq nq).upd_k (t7 _ _ e5'),λx hx=>?_,by rw[Hv,hl5];rfl⟩;rcases HP.mp hx with z |z
   ·exact hb5 x z
   ·rw[Hx.mp z];exact⟨aS (by show(d%15-2).natAbs<1024;omega) (by omega),aS (by show(d/5415%9-1).natAbs<1024;omega) (by omega),yb.mono (by omega),by show ys.length<=12;omega⟩
  ·rintro σ' H5 ⟨z5,d,ls',xs',rfl,s5,e5',hL5,hb5,hl5⟩;refine⟨_,rfl,_,rfl,by show 2<=sizeLine;decide,λtt htt=>?_⟩;have n6:=Same.upd_new (o:=.tup [.ref pr,.ref kt]) htt;have t6:=s5.trans n6;exact k tt pr kt ps' ls' r' xs' _ (s3.trans t6) aj ⟨t6 _ _ e3,n6 _ _ e5',hR3.same t6,hL5.toH.same n6,hb3,hb5,by omega,by omega⟩
theorem jU{f:List Int}(h:Fac 11 f):Fac11 f:=h
theorem pX{f l:List Int}(h:Fac 11 f)(hl:l∈spF f):SpK l/\cD l=sdR l:=by obtain⟨u,e,b,rfl,h1,h2,h3,h4,h5,h6,h7⟩:=h;obtain⟨_,s,rfl,he,hs⟩:=fT rfl h5 hl;exact⟨.inr (.inr ⟨u,e,b,s,rfl,h1,h2,he,h4,h5,h6,hs⟩),rfl⟩
theorem pY{fs:List (List Int)}(hF:∀f∈fs,Fac 11 f):(∀l∈spots fs,SpK l)/\(spots fs).map cD=(spots fs).map sdR:=by
 refine⟨λl hl=>?_,Jc λl hl=>?_⟩
 ·obtain⟨f,hf,hm⟩:=List.mem_flatMap.mp hl;exact(pX (hF f hf) hm).1
 ·obtain⟨f,hf,hm⟩:=List.mem_flatMap.mp hl;exact(pX (hF f hf) hm).2
theorem DI(x:Rat)(s:Rat->Int)(S:List (Rat->Int)):cpr x (S++[s])=cpr x (s::S):=by rw[j4];simp only[cpr];rw[Il,Im]
theorem DH{P:List Int}{s:Rat->Int}{S:List (Rat->Int)}(C:Cts P (s::S)):Cts P (S++[s]):=by
 obtain⟨t,n,c,cu,⟨ε,hε,hs⟩,ap⟩:=C;refine⟨t,n,c,λu hu=>?_,⟨ε,hε,λx=>by rw[DI];exact hs x⟩,λx y hxy hw=>?_⟩
 ·rcases HP.mp hu with h |h
  ·exact cu u (HC _ h)
  ·rw[Hx.mp h];exact cu s (HE ..)
 ·obtain⟨h1,h2⟩:=JL.mp (ap x y hxy hw);refine List.pairwise_append.mpr ⟨h2,by simp,λa ha b hb=>?_⟩;rw[Hx.mp hb]
  exactλz=>h1 a ha ⟨z.2,z.1⟩
theorem HotP.chain{ns:List Int}{r:List (List Int)}{xs:List Lnk}(h:HotP ns r xs):∀k,k+2<r.length->Lk3 (r.getD k []) (r.getD (k+1) []) (r.getD (k+2) []):=λk hk=>by
 have hk':k<xs.length:=by have:=h.len;omega
 obtain⟨f0,g0,e⟩:=h.lks k xs[k] (List.getElem?_eq_getElem hk');refine⟨xs[k].1,xs[k].2.2,xs[k].2.1,f0,g0,λn=>?_⟩;have h1:cf (ae [xs[k].1] (r.getD k [])) n=cf (bj (ae xs[k].2.1 (r.getD (k+1) [])) (ae [xs[k].2.2] (r.getD (k+2) []))) n:=congrArg (λz=>cf z n) e;rw[cI,iP,cI,aB]at h1;exact h1
theorem HotP.srow{ns:List Int}{r:List (List Int)}{xs:List Lnk}(h:HotP ns r xs)(ht:∀x∈r,Tr x):SRow r:=vb r h.two ht h.chain h.lst
def gj(xs:List bv)(kp:List Int)(ls:List (List Int)):Prop:=(kp=fP id (usP xs)/\ls=spots (xs.map (·.1)))\/∃a b c m:Int,CubOk a b c m/\kp=ae (fP id (usP xs)) (aK m a b c)/\ls=spots (xs.map (·.1))++[[a,b,c,m,0]]
theorem nD:∀{xs:List bv},(∀x∈xs,x.2=1)->fP id (usP xs)=prd ((xs.map (·.1)).map aw)
 | [],_=>rfl
 |x::xs,h=>by show ae (pw (aw x.1) (id x.2)) (fP id (usP xs))=ae (aw x.1) (prd ((xs.map (·.1)).map aw));rw[nD λy hy=>h y (HC _ hy),h x (HE ..)];show ae (pw (aw x.1) 1) _=_;rw[jD]
theorem i6{xs:List bv}{n:Nat}(O:UsO xs n):∀f∈xs.map (·.1),Fac 11 f:=λf hf=>by obtain⟨x,hx,rfl⟩:=Hz.mp hf;exact O.fac x hx
theorem rS{xs:List bv}{n:Nat}{kp:List Int}{ls:List (List Int)}(U:gj xs kp ls)(O:UsO xs n):∀l∈ls,SpK l:=λl hl=>by
 obtain⟨sp,_⟩:=pY (i6 O);rcases U with⟨_,rfl⟩ |⟨a,b,c,m,hC,_,rfl⟩
 ·exact sp l hl
 ·rcases HP.mp hl with h |h
  ·exact sp l h
  ·rw[Hx.mp h];exact .inl ⟨a,b,c,m,rfl,hC⟩
theorem rV{xs:List bv}{n:Nat}{kp:List Int}{ls:List (List Int)}(U:gj xs kp ls)(O:UsO xs n)(fl:∀x∈xs,x.2=1)(hl:kp.length<=20):Cts kp (ls.map cD):=by
 have hF:=i6 O;obtain⟨sp,em⟩:=pY hF;have nd:((xs.map (·.1)).map aw).Nodup:=by rw[Iw];exact O.nd
 rcases U with⟨rfl,rfl⟩ |⟨a,b,c,m,hC,rfl,rfl⟩
 ·rw[em];exact Ds (λf h=>(jU (hF f h)).g) nd (nD fl) hl
 ·rw[Hu,em];refine DH (Dt hC (λf h=>jU (hF f h)) nd ?_ hl);rw[nD fl,fG]
theorem yJ{xs:List bv}{n:Nat}{kp:List Int}{ls:List (List Int)}(U:gj xs kp ls)(O:UsO xs n){x:bv}(hx:x∈xs)(h2:x.2=2)(hl:kp.length<=20){r:List (List Int)}{ys:List Lnk}(hot:HotP kp r ys)(ht:∀x∈r,Tr x):False:=by
 have hF:=i6 O;have e1:(usP xs).map (·.1)=xs.map λx=>aw x.1:=by unfold usP;rw[Iw];rfl
 have U0:Use (usP xs):=by
  refine⟨λp hp=>?_,λp hp=>?_,by rw[e1];exact O.nd⟩
  ·obtain⟨y,hy,rfl⟩:=Hz.mp hp;exact gT (jU (O.fac y hy)).g
  ·obtain⟨y,hy,rfl⟩:=Hz.mp hp;rcases O.two y hy with e |e<;>(show 1<=y.2;omega)
 have hp:(aw x.1,x.2)∈usP xs:=Hz.mpr ⟨x,hx,rfl⟩;have w1:∀us,whl 1 us=fP id us:=λus=>ff _
 rcases U with⟨rfl,rfl⟩ |⟨a,b,c,m,hC,rfl,rfl⟩
 ·rw[<- w1]at hot hl;exact pT U0 hl hp (by show 2<=x.2;omega) hot.two ht hot.chain hot.lst hot.fst hot.snd
 ·have e2:ae (fP id (usP xs)) (aK m a b c)=whl 1 (usP xs++[(aK m a b c,1)]):=by rw[w1,jV];show _=ae _ (pw (aK m a b c) 1);rw[jD]
  have U1:Use (usP xs++[(aK m a b c,1)]):=by
   refine⟨λp hp=>?_,λp hp=>?_,?_⟩
   ·rcases HP.mp hp with h |h
    ·exact U0.pri p h
    ·rw[Hx.mp h];exact uY hC.nc hC.bc
   ·rcases HP.mp hp with h |h
    ·exact U0.pos p h
    ·rw[Hx.mp h];exact Ht 1
   ·rw[Hu];refine List.nodup_append.mpr ⟨U0.nd,by simp,λy hy z hz=>?_⟩;have hz':z=aK m a b c:=by simpa using hz
    intro e;rw[e1]at hy;obtain⟨w',hw',e3⟩:=Hz.mp hy;have l3:=(ip (gS (O.fac w' hw'))).2.2.2.2;have l4:(aK m a b c).length=4:=rfl;rw[e3,e,hz']at l3;omega
  rw[e2]at hot hl;exact pT U1 hl (IF _ hp) (by show 2<=x.2;omega) hot.two ht hot.chain hot.lst hot.fst hot.snd
noncomputable def g8(ls:List (List Int))(t n t' n':Int):Int:=(ls.map λl=>if 0<aU l t n/\aU l t' n'<=0 then(1:Int)else 0).sum
theorem vK{t n t' n':Int}(hn:0<n)(hn':0<n'):∀{ls:List (List Int)},(∀l∈ls,SpK l)->cnt (ls.map cD) ((t:Rat)/(n:Rat)) ((t':Rat)/(n':Rat))=g8 ls t n t' n'
 | [],_=>rfl
 |l::ls,h=>by
  have hl:=h l (HE ..);have ih:=vK (t:=t) (t':=t') hn hn' (ls:=ls) λx hx=>h x (HC _ hx)
  rw[Is,fN,ih,hl.div hn,hl.div hn'];show _=((l::ls).map λl=>if 0<aU l t n/\aU l t' n'<=0 then(1:Int)else 0).sum;rw[Is,List.sum_cons]
  have e:(if 0<sg (aU l t n)/\sg (aU l t' n')<=0 then(1:Int)else 0)=if 0<aU l t n/\aU l t' n'<=0 then(1:Int)else 0:=by
   have h1:=dl (x:=aU l t n);have h2:=dl (x:=aU l t' n');by_cases z:0<aU l t n/\aU l t' n'<=0
   ·rw[if_pos z,if_pos ⟨h1.2.2.mpr z.1,h2.2.1.mpr z.2⟩]
   ·rw[if_neg z,if_neg λy=>z ⟨h1.2.2.mp y.1,h2.2.1.mp y.2⟩]
  rw[e];rfl
theorem jA{t n t' n':Int}(hn:0<n)(hn':0<n')(e:t*n'=t'*n):((t:Rat)/(n:Rat))=((t':Rat)/(n':Rat)):=Rat.le_antisymm (IB.mp λw=>absurd ((cT hn' hn).mp w) (by omega)) (IB.mp λw=>absurd ((cT hn hn').mp w) (by omega))
theorem jB{t b:Int}(hb:b≠0):rt t b*b=t*rb t b:=by
 have h1:=rd (t:=t) hb;have h2:=l0 (t:=t) hb;generalize dv t b=d at h1 h2
 generalize rt t b=x at h1 ⊢
 generalize rb t b=y at h2 ⊢
 rw[<- h1,<- h2];grind
theorem tD{t b t' b':Int}(hb:0<b)(hb':0<b'):rt t b*rb t' b'<rt t' b'*rb t b↔t*b'<t'*b:=by have q1:=jz (t:=t) (by omega:b≠0);have q2:=jz (t:=t') (by omega:b'≠0);have e1:=jA q1 hb (jB (t:=t) (by omega:b≠0));have e2:=jA q2 hb' (jB (t:=t') (by omega:b'≠0));rw[<- cT q1 q2,<- cT hb hb',e1,e2]
theorem rT{xs:List bv}{k:Nat}{kp:List Int}{ls:List (List Int)}(U:gj xs kp ls)(O:UsO xs k)(fl:∀x∈xs,x.2=1)(hl:kp.length<=20)(h2:2<=kp.length){r:List (List Int)}{ys:List Lnk}(hot:HotP kp r ys)(ht:∀x∈r,Tr x){t n t' n':Int}(hn:0<n)(hn':0<n'):oI kp r ys (rt t n) (rb t n) (rt t' n') (rb t' n')↔(t*n'<t'*n/\g8 ls t n t' n'=1):=by
 have q1:=jz (t:=t) (by omega:n≠0);have q2:=jz (t:=t') (by omega:n'≠0);have e1:=jA q1 hn (jB (t:=t) (by omega:n≠0));have e2:=jA q2 hn' (jB (t:=t') (by omega:n'≠0));have hs:slopeL kp≠[]:=λz=>by have:=fh kp;rw[z]at this;have:0=kp.length-1:=this;omega
 have C:=rV U O fl hl
 have cc:rt t n*rb t' n'<rt t' n'*rb t n->(chS (sgs (rt t n) (rb t n) r)).1-(chS (sgs (rt t' n') (rb t' n') r)).1=g8 ls t n t' n':=λhlt=>by have c:=C.any (hot.srow ht) hot.two hot.fst hot.snd hs q1 q2 hlt;rw[e1,e2,vK hn hn' (rS U O)]at c;rw[vh,vh];exact c
 constructor
 ·rintro⟨_,hlt,h1⟩;rw[cc hlt]at h1;exact⟨(tD hn hn').mp hlt,h1⟩
 ·rintro⟨hlt,h1⟩;have hlt':=(tD hn hn').mpr hlt;exact⟨hot,hlt',by rw[cc hlt'];exact h1⟩
theorem yK{xs:List bv}{k:Nat}{kp:List Int}{ls:List (List Int)}(U:gj xs kp ls)(O:UsO xs k)(hl:kp.length<=20)(h2:2<=kp.length){r:List (List Int)}{ys:List Lnk}(ht:∀x∈r,Tr x){t n t' n':Int}(hn:0<n)(hn':0<n')(J:oI kp r ys (rt t n) (rb t n) (rt t' n') (rb t' n')):t*n'<t'*n/\g8 ls t n t' n'=1:=by
 by_cases fl:∀x∈xs,x.2=1
 ·exact(rT U O fl hl h2 J.1 ht hn hn').mp J
 ·exfalso;apply fl;intro x hx;rcases O.two x hx with e |e
  ·exact e
  ·exact(yJ U O hx e hl J.1 ht).elim
theorem pR:∀{r:List (List Int)},SRow r->(r.getD (r.length-1) []).length=1
 |_,.last _=>rfl
 |_,.two _=>rfl
 |_,.cons (a:=a) (b:=b) (c:=c) (r:=r) _ _ _ h=>by
  have:=pR h;have e:(a::b::c::r).length-1=(b::c::r).length-1+1:=by simp
  rw[e,List.getD_cons_succ];exact this
theorem Co{kp:List Int}{S:List (Rat->Int)}(hp:Pln kp)(C:Cts kp S)(hl:kp.length<=7)(h2:2<=kp.length)(hb:AllB 500 kp):HotP kp (aN 9 kp (ah (slopeL kp))) (bZ (aN 9 kp (ah (slopeL kp)))):=by
 have R:=r9 hp hl h2 hb;have e:=rW hp;have tS:=fA hp.tr;have copS:=C.cop.shr hp.tr hp.ne tS;rw[e]at copS;have lS:(ah (slopeL kp)).length=kp.length-1:=by unfold ah;rw[Hs,fh]
 have st:=lP 8 kp (ah (slopeL kp)) (by omega) hp.tr hp.ne (dZ tS) copS;refine⟨R.two,?_,R.fst,R.snd,pR st,λk x hx=>?_⟩
 ·unfold bZ;rw[Hs,Ih];have:=R.two;omega
 ·obtain⟨hk,rfl⟩:=mT hx;have L:=R.lnk hk;refine⟨L.f,L.g,?_⟩;rw[R.step k hk];exact L.sub (R.at (by omega)).tr
theorem LkOk.of{r:List (List Int)}{k:Nat}{x:Lnk}(h1:0<x.1)(h2:0<x.2.2)(tr:Tr (r.getD k []))(e:∀n,x.1*cf (r.getD k []) n=aq x.2.1 (r.getD (k+1) []) n-x.2.2*cf (r.getD (k+2) []) n):LkOk r k x :=
 ⟨h1,h2,fu (d7 (gq (by omega)) tr) (by unfold bj;exact bP _) λn=>by rw[cI,iP,cI,aB];exact e n⟩
theorem LkOk.eqn{r:List (List Int)}{k:Nat}{x:Lnk}(h:LkOk r k x)(n:Nat):x.1*cf (r.getD k []) n=aq x.2.1 (r.getD (k+1) []) n-x.2.2*cf (r.getD (k+2) []) n:=by have h1:cf (ae [x.1] (r.getD k [])) n=cf (bj (ae x.2.1 (r.getD (k+1) [])) (ae [x.2.2] (r.getD (k+2) []))) n:=congrArg (λz=>cf z n) h.2.2;rw[cI,iP,cI,aB]at h1;exact h1
theorem fX{o:Int}{r:List (List Int)}{k:Nat}(h:k<r.length):(scR o r r.length).getD k []=ae [bK o k] (r.getD k []):=by unfold scR;rw[List.getD_eq_getElem?_getD,List.getElem?_map,List.getElem?_range h];rfl
theorem iq(o:Int)(r:List (List Int)):(scR o r r.length).length=r.length:=by unfold scR;rw[Hs,Ih]
theorem kI(o c:Int)(xs:List Lnk):(scX o c xs xs.length).length=xs.length:=by unfold scX;rw[Hs,Ih]
theorem qY{o c:Int}{xs:List Lnk}{k:Nat}{y:Lnk}(h:(scX o c xs xs.length)[k]?=some y):∃x,xs[k]?=some x/\y=scK o c k x:=by
 have hk:k<xs.length:=by have:=(List.getElem?_eq_some_iff.mp h).1;rw[kI]at this;exact this
 refine⟨xs[k],List.getElem?_eq_getElem hk,?_⟩;unfold scX at h
 rw[List.getElem?_map,List.getElem?_range hk]at h;have h':scK o c k (xs.getD k (0,[],0))=y:=Option.some.inj h;rw[<- h',List.getD_eq_getElem?_getD,List.getElem?_eq_getElem hk];rfl
theorem AD(s b:Int)(q B:List Int)(n:Nat):aq (ae [s] q) (ae [b] B) n=s*(b*aq q B n):=by
 have e:ae (ae [s] q) (ae [b] B)=ae [s] (ae [b] (ae q B)):=by rw[dO,<- dO q [b] B,fG q [b],dO]
 rw[<- aB,e,cI,cI,aB]
theorem Cn{kp:List Int}{r:List (List Int)}{xs:List Lnk}(o c:Int)(h:HotP kp r xs)(ht:∀x∈r,Tr x):HotP kp (scR o r r.length) (scX o c xs xs.length)/\∀x∈scR o r r.length,Tr x:=by
 have r2:=h.two;have rl:=h.len;have tk:∀k,k<r.length->Tr (r.getD k []):=λk hk=>ht _ (by rw[List.getD_eq_getElem?_getD,List.getElem?_eq_getElem hk];exact Ia _)
 have tb:∀k,k<r.length->Tr (ae [bK o k] (r.getD k [])):=λk hk=>d7 (gq (by have:=dH o k;omega)) (tk k hk)
 refine⟨⟨by rw[iq];exact r2,by rw[iq,kI];exact rl,?_,?_,?_,λk y hy=>?_⟩,λx hx=>?_⟩
 ·rw[fX (by omega)];show ae [1] _=_;rw[ff,h.fst]
 ·rw[fX (by omega)];show ae [1] _=_;rw[ff,h.snd]
 ·rw[iq,fX (by omega)];have l1:=h.lst;have ne:r.getD (r.length-1) []≠[]:=λz=>by rw[z]at l1;cases l1
  rw[bO (by simp) ne,l1];rfl
 ·obtain⟨x,hx,rfl⟩:=qY hy;have hk:k<xs.length:=(List.getElem?_eq_some_iff.mp hx).1;have L:=h.lks k x hx;have p0:=dH o k;have p1:=dH o (k+1);have p2:=dH o (k+2);have pm:=jM c k;refine LkOk.of ?_ ?_ ?_ λn=>?_
  ·show 0<mK c k*bK o (k+1)*bK o (k+2)*x.1;exact HF (HF (HF (by omega) (by omega)) (by omega)) L.1
  ·show 0<mK c k*bK o k*bK o (k+1)*x.2.2;exact HF (HF (HF (by omega) (by omega)) (by omega)) L.2.1
  ·rw[fX (by omega)];exact tb k (by omega)
  ·rw[fX (by omega),fX (by omega),fX (by omega),cI,cI];show mK c k*bK o (k+1)*bK o (k+2)*x.1*(bK o k*_)=aq (ae [mK c k*bK o k*bK o (k+2)] x.2.1) _ n-mK c k*bK o k*bK o (k+1)*x.2.2*(bK o (k+2)*_);rw[AD];have E:=L.eqn n;generalize cf (r.getD k []) n=A at E ⊢
   generalize cf (r.getD (k+2) []) n=B at E ⊢
   generalize aq x.2.1 (r.getD (k+1) []) n=M at E ⊢
   generalize bK o k=b0;generalize bK o (k+1)=b1;generalize bK o (k+2)=b2;generalize mK c k=m;have:M=x.1*A+x.2.2*B:=by omega
   rw[this];grind
 ·unfold scR at hx
  obtain⟨k,hk,rfl⟩:=Hz.mp hx;exact tb k (IX.mp hk)
theorem Cp{kp:List Int}{r r':List (List Int)}{xs xs':List Lnk}{my:Int}(h:HotP kp r xs)(ht:∀x∈r,Tr x)(hm:my≠0)(L:vQ my r xs r' xs'):HotP kp r' xs'/\∀x∈r',Tr x:=by
 have r2:=h.two;have rl:=h.len;rcases L with⟨a,ab,q,el,a0,eab,rfl,rfl,hq⟩ |⟨z,_⟩
 ·obtain⟨abp,a1⟩:=vL a0 eab.symm;have ma:my*a≠0:=HM hm a0;have et:trim [my*a]=[my*a]:=pj (gq ma)
  have g1:∀k,k<r.length->(r++[trim [my*a]]).getD k []=r.getD k []:=λk hk=>by rw[List.getD_eq_getElem?_getD,List.getElem?_append_left hk,<- List.getD_eq_getElem?_getD]
  have g2:(r++[trim [my*a]]).getD r.length []=[my*a]:=by rw[List.getD_eq_getElem?_getD,List.getElem?_append_right (Ht _),et];simp
  have l1:(r++[trim [my*a]]).length=r.length+1:=by rw[Hv];rfl
  have l2:(xs++[(ab,q,(1:Int))]).length=xs.length+1:=by rw[Hv];rfl
  refine⟨⟨by omega,by omega,by rw[g1 0 (by omega)];exact h.fst,by rw[g1 1 (by omega)];exact h.snd,?_,λk y hy=>?_⟩,λx hx=>?_⟩
  ·rw[l1,Nat.add_sub_cancel,g2];rfl
  ·have hk:k<xs.length+1:=by have:=(List.getElem?_eq_some_iff.mp hy).1;omega
   by_cases z:k<xs.length
   ·rw[List.getElem?_append_left z]at hy;have Lk:=h.lks k y hy;unfold LkOk;rw[g1 k (by omega),g1 (k+1) (by omega),g1 (k+2) (by omega)];exact Lk
   ·have ek:k=xs.length:=by omega
    subst ek;rw[List.getElem?_append_right (Ht _),Nat.sub_self]at hy;have ey:y=(ab,q,1):=(Option.some.inj hy).symm;subst ey;refine LkOk.of abp (by show(0:Int)<1;decide) ?_ λn=>?_
    ·rw[g1 _ (by omega)];exact ht _ (by rw[List.getD_eq_getElem?_getD,List.getElem?_eq_getElem (by omega)];exact Ia _)
    ·rw[g1 xs.length (by omega),g1 (xs.length+1) (by omega),show xs.length+2=r.length from rl,g2];rw[show r.length-1=xs.length+1 by omega]at el;rw[show r.length-2=xs.length by omega]at hq;rw[el];show ab*_=aq q [a] n-1*_;rw[<- aB,fG,cI,hq n]
     have e1:a*(a/ab)=ab:=by
      by_cases z:a<0
      ·rw[if_pos z]at eab;rcases a1 with w |w
       ·exfalso;rw[eab,Int.ediv_neg,Int.ediv_self a0]at w;omega
       ·rw[w];omega
      ·rw[if_neg z]at eab;rcases a1 with w |w
       ·rw[w];omega
       ·exfalso;rw[eab,Int.ediv_self a0]at w;omega
     have e2:cf [my*a] n=if n=0 then my*a else 0:=by
      cases n with
      |zero=>rfl
      |succ n=>rw[if_neg (by omega)];rfl
     rw[e2];generalize cf (r.getD xs.length []) n=A;have e3:a*(a/ab*A+if n=0 then my else 0)=a*(a/ab)*A+a*(if n=0 then my else 0):=by rw[Int.mul_add,ID]
     rw[e3,e1];by_cases z:n=0
     ·rw[if_pos z,if_pos z,Im a my];omega
     ·rw[if_neg z,if_neg z];omega
  ·rcases HP.mp hx with z |z
   ·exact ht x z
   ·rw[Hx.mp z];exact bP _
 ·exact absurd h.lst z
theorem nV{a b c m:Int}(h:CubOk a b c m):AllB 14 (aK m a b c):=by
 obtain⟨s1,s2,s3⟩:=h.small;have a9:=h.a9;have q1:(a*a).natAbs<=9*9:=ck (by omega) (by omega);have q2:(a*a*a).natAbs<=9*9*9:=ck q1 (by omega);have q3:(3*m*(b*c)*a).natAbs<=3*7*(3*3)*9:=ck s3 (by omega);have en:=mC m a b c;intro x hx;simp only[aK,HI,JE,or_false]at hx;rcases hx with rfl |rfl |rfl |rfl
 ·rw[en];show(-(a*a*a+m*(b*b*b)+m*m*(c*c*c)-3*m*(b*c)*a)).natAbs<16384;omega
 ·show(3*(a*a)-3*m*(b*c)).natAbs<16384;omega
 ·show(-3*a).natAbs<16384;omega
 ·show(1:Int).natAbs<16384;decide
theorem iL:∀{xs:List bv},(∀x∈xs,Fac 11 x.1)->(fP id (usP xs)).length=dgU xs+1/\fP id (usP xs)≠[]
 | [],_=>⟨rfl,by show([1]:List Int)≠[];decide⟩
 |x::xs,h=>by
  obtain⟨i1,i2⟩:=iL (xs:=xs) λy hy=>h y (HC _ hy)
  have hs:=(ip (gS (h x (HE ..)))).2.1;obtain⟨p1,p2⟩:=md hs x.2;have e:(ae (pw (aw x.1) x.2) (fP id (usP xs))).length=(pw (aw x.1) x.2).length+(fP id (usP xs)).length-1:=bO p2 i2;have e2:(ae (pw (aw x.1) x.2) (fP id (usP xs))).length=x.2*((aw x.1).length-1)+dgU xs+1:=by rw[e,p1,i1];omega
  refine⟨e2,λz=>?_⟩;have z':ae (pw (aw x.1) x.2) (fP id (usP xs))=[]:=z;rw[z']at e2;simp at e2
theorem mn{xs:List bv}{n:Nat}{kp:List Int}{ls:List (List Int)}(U:gj xs kp ls)(O:UsO xs n):Pln kp:=by
 have h0:Pln (fP id (usP xs)):=nG _ λp hp=>by obtain⟨y,hy,rfl⟩:=Hz.mp hp;exact gT (jU (O.fac y hy)).g
 rcases U with⟨rfl,_⟩ |⟨a,b,c,m,hC,rfl,_⟩
 ·exact h0
 ·exact h0.mul (gd m a b c)
theorem j0{xs:List bv}{a b c m:Int}(h:∀x∈xs,Fac 11 x.1):(ae (fP id (usP xs)) (aK m a b c)).length=dgU xs+4:=by obtain⟨h1,h2⟩:=iL h;have c4:(aK m a b c).length=4:=rfl;rw[bO h2 (gd m a b c).ne,h1,c4];omega
theorem uW{a b c m:Int}(hC:CubOk a b c m){X:List Int}(hb:AllB 400 X)(hl:X.length<=20):AllB 500 (ae X (aK m a b c)):=jL hb (nV hC) (by omega)
theorem Bm{a b:List Int}(ha:RwS a)(hb:RwS b):j7 (fJ a b):=by
 obtain⟨n7,bQ,bR,bF⟩:=nL ha hb;refine⟨bF.mono,?_,AllB.mono bQ (by decide),?_⟩
 ·show Bits 740000 ((al (ao a b):Nat):Int);by_cases z:ao a b=[]
  ·rw[z];exact Bits.zero
  ·have t:Tr (ao a b):=bP _;have h1:=Hw.mpr z;have h2:cf (ao a b) ((ao a b).length-1)≠0:=t _ (by omega);refine((bR.cf ((ao a b).length-1)).of_le (?_:(((al (ao a b):Nat):Int)).natAbs<=_)).mono;rw[Ii];exact Nat.le_of_dvd (IM.mpr h2) (dvd_cf.mp (IN _) _)
 ·show(aQ a b).length<=10;rw[iN hb.ne];omega
theorem tG{kp:List Int}{r:List (List Int)}(R:PapQ kp r):∀x∈bZ r,j7 x:=λx hx=>by obtain⟨k,hk⟩:=List.mem_iff_getElem?.mp hx;obtain⟨h1,rfl⟩:=mT hk;exact Bm (R.at (by omega)) (R.at (by omega))
theorem tF{r:List (List Int)}(h:2<=r.length):(bZ r).length+2=r.length:=by unfold bZ;rw[Hs,Ih];omega
theorem yW{r:List (List Int)}{xs:List Lnk}(o c:Int)(hx:∀x∈xs,j7 x)(hr:∀x∈r,RwS x)(h2:xs.length+2=r.length)(few:r.length<=100):PB 0 (scR o r r.length) (scX o c xs xs.length):=by
 refine⟨λx h=>?_,λx h=>?_,by rw[iq,kI];exact h2,by rw[iq];omega,by omega⟩
 ·unfold scR at h
  obtain⟨k,hk,rfl⟩:=Hz.mp h;have hk':=IX.mp hk;have S:=hr (r.getD k []) (by rw[List.getD_eq_getElem?_getD,List.getElem?_eq_getElem hk'];exact Ia _);have b0:=dH o k;refine⟨d7 (gq (by omega)) S.tr,?_,?_⟩
  ·have h1:(ae [bK o k] (r.getD k [])).length<=1+(r.getD k []).length:=f7 _ _;have:=S.l;omega
  ·exact jL (fD (eR b0)) S.b (by show 3+91260+1<=_;omega)
 ·obtain⟨k,hk⟩:=List.mem_iff_getElem?.mp h;obtain⟨y,hy,rfl⟩:=qY hk;obtain⟨b1,b2,b3,b4⟩:=hx y (List.mem_of_getElem? hy);have p0:=eR (dH o k);have p1:=eR (dH o (k+1));have p2:=eR (dH o (k+2));have pm:=eR (jM c k);refine⟨(((pm.mul p1).mul p2).mul b1).mono,(((pm.mul p0).mul p1).mul b2).mono,?_,?_⟩
  ·exact jL (fD ((pm.mul p0).mul p2)) b3 (by show 3+3+3+740000+1<=_;omega)
  ·have h1:(ae [mK c k*bK o k*bK o (k+2)] y.2.1).length<=1+y.2.1.length:=f7 _ _;show(ae [mK c k*bK o k*bK o (k+2)] y.2.1).length<=12;omega
theorem xS{N:Nat}(hN:N<=50){r:List (List Int)}(h:∀x∈r,RwN N x):RwB r:=λx hx=>⟨by have:=(h x hx).2.1;omega,(h x hx).2.2.mono (by omega)⟩
theorem Bo{N:Nat}(hN:N<=50){x:Lnk}(h:LkN N x):LkB x:=⟨h.1.mono (by omega),h.2.1.mono (by omega),h.2.2.1.mono (by omega),by have:=h.2.2.2;omega⟩
theorem SmB.same{l lk:Addr}{H H1 H2:Hp}(s:Same H H1)(m:SmB l lk H1 H2)(hl:H l=none)(hk:H lk=none):Same H H2:=λp o e=>m p o (s p o e) (λz=>by rw[z,hl]at e;cases e) (λz=>by rw[z,hk]at e;cases e)
theorem re{k:Nat}{t b:Int}(hb:b≠0)(h:Bits k t):Bits k (rt t b):=h.of_le (xV hb)
theorem rm{k:Nat}{t b:Int}(hb:b≠0)(h:Bits k b):Bits k (rb t b):=h.of_le (yi hb)
theorem zv(F:Fun K "law" "law" jn f fd)(T:Txt K mg)(R:RCI K mg C)(FK:Cal P w K mg base 2 "_law_cube_by" ["_law_cell","_law_other","_law_m"] qB Hg GD)(o0:Cal P w K mg base 1 "_law_cell_at" ["_law_script","_law_k"] (ij K) Dg CZ)(Fw:Cal P w K mg base 36 "_law_uses_by" ["_law_cells_of","_law_room"] (qc K) G1 Gn)(FC:Cal P w K mg base 36 "_law_product_of" ["_law_uses"] qi G8 Gu)(FB:Cal P w K mg base 1 "_law_roots_of" ["_law_factors"] qh G7 Gs)(gl:Cal P w K mg base 1 "_law_mul" ["_law_kp","_law_kq"] fU nF nE)(FJ:Cal P w K mg base 2 "_law_cube_shape" ["_law_cube"] qw Hf GC)(FE:Cal P w K mg base 34 "_law_paper" ["_law_kp"] qk Ha Gw)(FA:Cal P w K mg base 2 "_law_scaled" ["_law_row","_law_links","_law_cell","_law_other"] qf G6 Gr)(oY:Cal P w K mg base 33 "_law_lay_behind" ["_law_row","_law_links","_law_way_here","_law_many"] ky De CW)(FN:Cal P w K mg base 34 "_law_change" ["_law_row","_law_links","_law_cells_of"] qy Hi GF)(FO:Cal P w K mg base 3 "_law_any_paper" ["_law_paper_here","_law_cell","_law_other"] qC Hj GG)(FG:Cal P w K mg base 2 "_law_end" ["_law_cell","_law_spots"] qr Hc Gy)(FP:Cal P w K mg base 4 "_law_amid" ["_law_spots","_law_low","_law_high"] qD Hk GH)(Fo:Cal P w K mg base 35 "just_one" ["polynomial","low","high","paper"] (qo C) GU Gf)(FS:KCal P w K mg base 2 C "Ratio" ["self","top","bottom"] (jf C) Hn GK Ho [.int 1]):FnOk P w K mg base CX0 40 f fd ["_law_script"] (je K):=by
 obtain⟨E8,Ba,B5,El⟩:=FK;obtain⟨cw,cm,cq,cr⟩:=o0;obtain⟨EW,A1,BS,Ec⟩:=Fw;obtain⟨E4,A6,BY,Eh⟩:=FC;obtain⟨E3,A5,BX,Eg⟩:=FB;obtain⟨fz,fg,fo,fx⟩:=gl;obtain⟨E7,A9,B4,Ek⟩:=FJ;obtain⟨E5,A7,BZ,Ei⟩:=FE;obtain⟨EZ,A4,BW,Ef⟩:=FA;obtain⟨oQ,mR,ng,oC⟩:=oY;obtain⟨Fa,Bc,B7,En⟩:=FN;obtain⟨Fb,Be,B8,Eo⟩:=FO;obtain⟨vW,tf,tU,vC⟩:=FG;obtain⟨Fc,Bf,B9,Ep⟩:=FP;obtain⟨ES,AX,BO,D8⟩:=Fo;obtain⟨vZ,vO,tz,vF,Hr,Hq⟩:=FS;refine F.ok sc_law (λvs H Q E h=>?_) (λcdv A outer s H vs Q E hr h=>?_)
 ·obtain⟨a,ns,rfl,_⟩:=h;rfl
 ·obtain⟨sa,ns,rfl,hS,hlen,fin⟩:=h;have hu2:(A.deeper (PyProof.Rows.envOfC (Str.ofString "law") (aA jn) s.heap.objs.size f cdv)).units+66<cLine:=by have:=hr.un;omega
  have big:=sizeLine_eq
  refine⟨_,(ag (am (i:=1) sc_law.nd rfl (Or.inl rfl) (au E8 (hr.mono) rfl Ba B5 El .nil ar (aa (au cw (hr.mono) rfl cm cq cr .nil ar (aa (pv 0) (aa ac ad))) (aa (au cw (hr.mono) rfl cm cq cr .nil ar (aa (pv 0) (aa ac ad))) (aa (au cw (hr.mono) rfl cm cq cr .nil ar (aa (pv 0) (aa ac ad))) ad)))))
   (ag (am (i:=2) sc_law.nd rfl (Or.inl rfl) (au EW (hr.mono) rfl A1 BS Ec .nil ar (aa (iy (im (K:=K) rfl) (pv 0) (gG ac) (gG ac)) (aa (ai (aM (K:=K) rfl) (bH (aa ac (aa ac ad))) (af aY (au cw (hr.mono) rfl cm cq cr .nil ar (aa (pv 0) (aa ac ad))) ac) (λ_ _=>rfl)) ad))))
   (ag (am (i:=3) sc_law.nd rfl (Or.inl rfl) (au E4 (hr.mono) rfl A6 BY Eh .nil ar (aa (pv 2) ad)))
   (ag (am (i:=4) sc_law.nd rfl (Or.inl rfl) (aI (vn (K:=K) rfl rfl) (by rfl) T.all_ PyProof.Rows.boot_all (aa (cG (own:=["_law_use"]) (fr:=[]) (js:=[]) (by walk_at "comp_ok") rfl (ci (K:=K) rfl (pv 2)) (λ_ _ _ _=>(aL (i:=0) (show List.Nodup (["_law_use"]:List Str)from by decide +kernel) rfl (Or.inl rfl))) (λ_ _ _ _=>(da bh (ai (ay (K:=K) rfl) (pv 0) ac (λ_ _=>rfl)) ac (av _)))) ad)))
   (ag (am (i:=5) sc_law.nd rfl (Or.inl rfl) (au E3 (hr.mono) rfl A5 BX Eg .nil ar (aa (cG (own:=["_law_use"]) (fr:=[]) (js:=[]) (by walk_at "comp_ok") rfl (ci (K:=K) rfl (pv 2)) (λ_ _ _ _=>(aL (i:=0) (show List.Nodup (["_law_use"]:List Str)from by decide +kernel) rfl (Or.inl rfl))) (λ_ _ _ _=>(ai (ay (K:=K) rfl) (pv 0) ac (λ_ _=>rfl)))) ad)))
   (ag (aW (PW.pt (dN (aD bh (af aY (au cw (hr.mono) rfl cm cq cr .nil ar (aa (pv 0) (aa ac ad))) ac) ac (av _)) (eh (aD bh (aI (aX (K:=K) rfl) (by rfl) T.len_ PySem.boot_len (aa (pv 3) ad)) ac (av _)))))
     (ag (am (i:=3) sc_law.nd rfl (Or.inl rfl) (au fz (hr.mono) rfl fg fo fx .nil ar (aa (pv 3) (aa (au E7 (hr.mono) rfl A9 B4 Ek .nil ar (aa (pv 1) ad)) ad))))
       (ak (bX (cH PySem.F.plainAttrs_list PySem.F.slot_list_append PySem.F.type_list_append cJ (pv 5) (aa (pv 1) ad)))))
     aV)
   (ag (am (i:=6) sc_law.nd rfl (Or.inl rfl) (au E5 (hr.mono) rfl A7 BZ Ei .nil ar (aa (pv 3) ad)))
   (ag (am (i:=6) sc_law.nd rfl (Or.inl rfl) (au EZ (hr.mono) rfl A4 BW Ef .nil ar (aa (ai (ay (K:=K) rfl) (pv 6) ac (λ_ _=>rfl)) (aa (ai (ay (K:=K) rfl) (pv 6) ac (λ_ _=>rfl)) (aa (au cw (hr.mono) rfl cm cq cr .nil ar (aa (pv 0) (aa ac ad))) (aa (au cw (hr.mono) rfl cm cq cr .nil ar (aa (pv 0) (aa ac ad))) ad))))))
   (ag (am (i:=7) sc_law.nd rfl (Or.inl rfl) (ai (ay (K:=K) rfl) (pv 6) ac (λ_ _=>rfl)))
   (ag (am (i:=8) sc_law.nd rfl (Or.inl rfl) (ai (ay (K:=K) rfl) (pv 6) ac (λ_ _=>rfl)))
   (ag (aW (aD bh (af aY (au cw (hr.mono) rfl cm cq cr .nil ar (aa (pv 0) (aa ac ad))) ac) ac (av _))
     (ak (bX (au oQ (hr.mono) rfl mR ng oC .nil ar (aa (pv 7) (aa (pv 8) (aa ac (aa (af aT ac (af aY (af b7 (au cw (hr.mono) rfl cm cq cr .nil ar (aa (pv 0) (aa ac ad))) ac) ac)) ad)))))))
     aV)
   (ag (am (i:=9) sc_law.nd rfl (Or.inl rfl) (aI (DV rfl) (by rfl) T.min_ PyProof.Rows.boot_min (aa ac (aa (af b7 (af aZ (aI (aX (K:=K) rfl) (by rfl) T.len_ PySem.boot_len (aa (pv 0) ad)) ac) ac) ad))))
   (ag (am (i:=10) sc_law.nd rfl (Or.inl rfl) (da bh (af aY (af b7 (au cw (hr.mono) rfl cm cq cr .nil ar (aa (pv 0) (aa ac ad))) ac) ac) ac (av _)))
   (ag (aW (PW.pt (dN (gE (pv 10)) (eh (aD bh (af aY (af b7 (au cw (hr.mono) rfl cm cq cr .nil ar (aa (pv 0) (aa ac ad))) ac) ac) ac (av _)))))
     (ak (am (i:=9) sc_law.nd rfl (Or.inl rfl) ac))
     aV)
   (ag (bW PassesOwn.never rfl (dr rfl T.range_ (aa (pv 9) ad)) (aL (i:=11) sc_law.nd rfl (Or.inr rfl))
     (ak (bX (au Fa (hr.mono) rfl Bc B7 En .nil ar (aa (pv 7) (aa (pv 8) (aa (cG (own:=["_law_j"]) (fr:=["_law_script","_law_k"]) (js:=[0,11]) (by walk_at "comp_ok") rfl (dr rfl T.range_ (aa ac ad)) (λ_ _ _ _=>(aL (i:=0) (show List.Nodup (["_law_j","_law_script","_law_k"]:List Str)from by decide +kernel) rfl (Or.inl rfl))) (λ_ _ _ _=>(au cw (hr.mono) rfl cm cq cr .nil ar (aa (pv 1) (aa (af aT (af aT ac (af aH ac (pv 2))) (pv 0)) ad))))) ad)))))))
   (ag (aW (gE (pv 10))
     (ak (c8 (au Fb (hr.mono) rfl Be B8 Eo .nil ar (aa (pv 6) (aa (au cw (hr.mono) rfl cm cq cr .nil ar (aa (pv 0) (aa ac ad))) (aa (au cw (hr.mono) rfl cm cq cr .nil ar (aa (pv 0) (aa ac ad))) ad)))) (fC rfl (cj (aL (i:=7) sc_law.nd rfl (Or.inl rfl)) (cj (aL (i:=8) sc_law.nd rfl (Or.inl rfl)) eC)))))
     aV)
   (ag (am (i:=12) sc_law.nd rfl (Or.inl rfl) (au vW (hr.mono) rfl tf tU vC .nil ar (aa (au cw (hr.mono) rfl cm cq cr .nil ar (aa (pv 0) (aa ac ad))) (aa (pv 5) ad))))
   (ag (am (i:=13) sc_law.nd rfl (Or.inl rfl) (au vW (hr.mono) rfl tf tU vC .nil ar (aa (au cw (hr.mono) rfl cm cq cr .nil ar (aa (pv 0) (aa ac ad))) (aa (pv 5) ad))))
   (ag (am (i:=14) sc_law.nd rfl (Or.inl rfl) (jH (da dw (af aH (ai (ay (K:=K) rfl) (pv 12) ac (λ_ _=>rfl)) (ai (ay (K:=K) rfl) (pv 13) ac (λ_ _=>rfl))) (af aH (ai (ay (K:=K) rfl) (pv 13) ac (λ_ _=>rfl)) (ai (ay (K:=K) rfl) (pv 12) ac (λ_ _=>rfl))) (av _)) (mv (da bh (au Fc (hr.mono) rfl Bf B9 Ep .nil ar (aa (pv 5) (aa (pv 12) (aa (pv 13) ad)))) ac (av _)))))
   (ag (am (i:=15) sc_law.nd rfl (Or.inl rfl) (bS (aa (cG (own:=["_law_one"]) (fr:=[]) (js:=[]) (by walk_at "comp_ok") rfl (ci (K:=K) rfl (pv 7)) (λ_ _ _ _=>(aL (i:=0) (show List.Nodup (["_law_one"]:List Str)from by decide +kernel) rfl (Or.inl rfl))) (λ_ _ _ _=>(eD (g6 (K:=K) rfl) (by rfl) T.list_ PyProof.Rows.boot_list (aa (pv 0) ad)))) (aa (eD (g6 (K:=K) rfl) (by rfl) T.list_ PyProof.Rows.boot_list (aa (pv 8) ad)) ad))))
   (ag (am (i:=16) sc_law.nd rfl (Or.inl rfl) (au ES (hr.mono) rfl AX BO D8 .nil ar (aa (eD (g6 (K:=K) rfl) (by rfl) T.list_ PyProof.Rows.boot_list (aa (pv 3) ad)) (aa (rZ vO vZ (hr.mono) rfl tz vF .nil ar (aa (ai (ay (K:=K) rfl) (pv 12) ac (λ_ _=>rfl)) (aa (ai (ay (K:=K) rfl) (pv 12) ac (λ_ _=>rfl)) ad))) (aa (rZ vO vZ (hr.mono) rfl tz vF .nil ar (aa (ai (ay (K:=K) rfl) (pv 13) ac (λ_ _=>rfl)) (aa (ai (ay (K:=K) rfl) (pv 13) ac (λ_ _=>rfl)) ad))) (aa (pv 15) ad))))))
   (ag (aW (PW.pt (dN (mh (gE (aI (DY (K:=K) rfl) (by rfl) T.isinstance_ PyProof.Rows.boot_isinstance (aa (pv 16) (aa (yV (v:=.ty "bool") (by rfl) T.bool_ PyProof.Rows.boot_bool (by rfl)) ad))))) (eh (PW.pt (cF (gE (pv 16)) (cU (mh (gE (pv 14)))))))))
     (ak (aG iz))
     aV)
   (ag (aW (PW.pt (cF (aD gI (pv 9) ac (av _)) (cF (yy (pv 4) (by intro _;rfl)) (cF (mh (gE (pv 10))) (cU (aD y7 (pv 16) (pv 14) (av _)))))))
     (ak (aG iz))
     aV)
   (ak (aG (jH (da (zc (K:=K) rfl hu2) (ai (ay (K:=K) rfl) (pv 15) ac (λ_ _=>rfl)) (pv 7) (av _)) (mv (da (zf (K:=K) rfl hu2) (ai (ay (K:=K) rfl) (pv 15) ac (λ_ _=>rfl)) (pv 8) (av _))))))))))))))))))))))))))))),?_⟩
  refine ax ⟨_,rfl,sa,ns,0,rfl,hS,_,rfl,sa,ns,1,rfl,hS,_,rfl,sa,ns,2,rfl,hS,_,_,_,rfl,λp a b c H1 s1 hp hCT hC=>?_⟩;generalize 2+ns.getD 2 0%6=m at hCT hC
  refine ax ⟨_,rfl,8,rfl,14,rfl,sa,_,rfl,s1.seq hS,λp5 hp5=>?_⟩;rw[uV];have v5:=Same.upd_new (o:=.lst ((cK ns (some 8) (some 14)).map V.int)) hp5;have h55:upd H1 p5 (.lst ((cK ns (some 8) (some 14)).map V.int)) p5=some (.lst ((cK ns (some 8) (some 14)).map V.int)):=aj;have hcs:(cK ns (some 8) (some 14)).length<=ns.length:=Dy ns _ _;generalize upd H1 p5 (.lst ((cK ns (some 8) (some 14)).map V.int))=H5 at v5 h55 ⊢
  generalize cK ns (some 8) (some 14)=cs at h55 hcs ⊢
  refine⟨by show 2<=sizeLine;decide,λp6 hp6=>?_⟩;have v6:=Same.upd_new (o:=.lst [.int 5,.int 2]) hp6;have h66:upd H5 p6 (.lst [.int 5,.int 2]) p6=some (.lst [V.int 5,V.int 2]):=aj;have t6:=s1.trans (v5.trans v6);have h56:=v6 _ _ h55;have hCT6:=(v5.trans v6) _ _ hCT;generalize upd H5 p6 (.lst [.int 5,.int 2])=H6 at v6 h66 t6 h56 hCT6 ⊢
  clear v5 v6 h55 hp5 hp6 s1 hCT;obtain⟨w1,w2⟩:=bN (x:=ns.getD 3 0) (m:=2) (by decide)
  obtain⟨room,hroom,r5,r2⟩:∃room:Nat,atI [V.int 5,V.int 2] (ns.getD 3 0%2)=some (.int (room:Int))/\room<=5/\(ns.getD 3 0%2=1->room=2):=by
   rcases(show ns.getD 3 0%2=0\/ns.getD 3 0%2=1 by omega)with e |e<;>rw[e]
   ·exact⟨5,rfl,Ht _,λz=>absurd z (by decide)⟩
   ·exact⟨2,rfl,by decide,λ_=>rfl⟩
  refine⟨_,rfl,sa,ns,3,rfl,t6.seq hS,_,_,rfl,rfl,(by show(0:Int)<2;decide),p6,_,_,_,rfl,rfl,SqL.of h66,hroom,p5,cs,room,rfl,SqL.of h56,by omega,λpu H7 us xs s7 hpu eu hU hO=>?_⟩;have t7:=t6.trans s7;have hCT7:=s7 _ _ hCT6;clear h66 h56 hroom t6 hCT6 hpu hcs;show bz _ _ _ [some (.ref sa),some (.ref p),some (.ref pu),none,none,none,none,none,none,none,none,none,none,none,none,none,none] H7;refine ax ⟨_,rfl,pu,us,xs,rfl,eu,hU,⟨hO.fac,hO.two,hO.nd,HH hO.dg r5⟩,λpk H8 s8 hpk ek kb kl=>?_⟩;have t8:=t7.trans s8;have eu8:=s8 _ _ eu;have hU8:=hU.same s8;have hCT8:=s8 _ _ hCT7;have hul:(us.map V.ref).length=xs.length:=by rw[Hs,hU.1]
  have xl5:xs.length<=5:=by
   have h1:=kg (room:=5) hO.fac
   have h2:∀l:List bv,(∀x∈l,x.2=1\/x.2=2)->l.length<=tmU l:=λl=>by
    induction l with
    |nil=>intro _;exact Ht _
    |cons x l ih =>
     intro h;have:=ih λy hy=>h y (HC _ hy)
     have:=h x (HE ..);show l.length+1<=x.2+tmU l;omega
   have h3:=h2 xs hO.two;have:=hO.dg;omega
  clear hpk eu hU hCT7 s8;refine ax ⟨_,rfl,pu,rfl,⟨_,SqL.of eu8⟩,dW (K:=K) (a:=pu) (xs:=us.map V.ref) (λi ys σ' H'=>∃z:Option V,σ'=[z]/\ys=((xs.take i).map λx=>decide ((x.2:Int)=1)).map V.bl/\H8=H') (by omega) ⟨none,rfl,rfl,rfl⟩ ?_ ?_ ?_⟩
  ·rintro i ys σ' H' _ ⟨z,rfl,rfl,rfl⟩;exact⟨SqL.of eu8,by simp;omega⟩
  ·rintro i v ys σ' H' hi ⟨z,rfl,rfl,rfl⟩;obtain⟨u,x,rfl,e1,ex,⟨pf,hu1,_⟩,hlt⟩:=hU8.of_get hi;refine⟨_,rfl,u,_,_,_,rfl,rfl,SqT.of hu1,rfl,_,_,rfl,rfl,_,rfl,?_,rfl⟩;rw[Ib,ex,Hu,Hu];rfl
  rintro ys σ' H' pc ⟨z,rfl,rfl,rfl⟩ hpc;have v9:=Same.upd_new (o:=.lst (((xs.take (us.map V.ref).length).map λx=>decide ((x.2:Int)=1)).map V.bl)) hpc;have t9:=t8.trans v9;refine⟨pc,_,rfl,SqL.of aj,?_⟩;obtain⟨flat,efl⟩:∃flat,(((xs.take (us.map V.ref).length).map λx=>decide ((x.2:Int)=1)).all id)=flat:=⟨_,rfl⟩
  have hfl:flat=true->∀x∈xs,x.2=1:=λz x hx=>by rw[z,hul,HY,IS]at efl;have:=efl _ (Hz.mpr ⟨x,hx,rfl⟩);have h1:((x.2:Nat):Int)=1:=of_decide_eq_true this;omega
  have eu9:=v9 _ _ eu8;have hU9:=hU8.same v9;have hCT9:=v9 _ _ hCT8;have ek9:=v9 _ _ ek;rw[efl];generalize upd H8 pc (.lst (((xs.take (us.map V.ref).length).map λx=>decide ((x.2:Int)=1)).map V.bl))=H9 at v9 t9 eu9 hU9 hCT9 ek9 ⊢
  clear eu8 hU8 hCT8 ek hpc v9 efl;refine ax ⟨_,rfl,pu,rfl,⟨_,SqL.of eu9⟩,dW (K:=K) (a:=pu) (xs:=us.map V.ref) (λi ys σ' H'=>∃(z:Option V) (qs:List Addr),σ'=[z]/\ys=qs.map V.ref/\TuH H9 qs ((xs.map (·.1)).take i)/\qs.length=i/\H9=H') (by omega) ⟨none,[],rfl,rfl,TuH.nil,rfl,rfl⟩ ?_ ?_ ?_⟩
  ·rintro i ys σ' H' _ ⟨z,qs,rfl,rfl,_,hq,rfl⟩;exact⟨SqL.of eu9,by rw[Hs];omega⟩
  ·rintro i v ys σ' H' hi ⟨z,qs,rfl,rfl,hT,hq,rfl⟩;obtain⟨u,x,rfl,e1,ex,⟨pf,hu1,hu3⟩,hlt⟩:=hU9.of_get hi;refine⟨_,rfl,u,_,_,_,rfl,rfl,SqT.of hu1,rfl,_,qs++[pf],rfl,by rw[Hu];rfl,?_,by rw[Hv,hq];rfl,rfl⟩;rw[Ib,List.getElem?_map,ex];exact hT.snoc hu3
  rintro ys σ' H' pq ⟨z,qs,rfl,rfl,hT,hq,rfl⟩ hpq;rw[hul,show xs.length=(xs.map (·.1)).length from(Hs _).symm,HY]at hT;have v10:=Same.upd_new (o:=.lst (qs.map V.ref)) hpq;refine⟨pq,qs,xs.map (·.1),rfl,aj,hT.same v10,λl hl=>gS (i6 hO l hl),by rw[Hs];omega,λpsp H10 ws s10 hps esp hW=>?_⟩;have u10:=v10.trans s10;have t10:=t9.trans u10;have fsp:=(t9.trans v10).free hps;have ek10:=u10 _ _ ek9;have hCT10:=u10 _ _ hCT9;clear v10 s10 hT hq hpq u10 ek9 hCT9 eu9 hU9 t9 hps;obtain⟨fl1,fne⟩:=iL hO.fac;have sl:=ko (xs.map (·.1));rw[Hs]at sl;show bz _ _ _ [some (.ref sa),some (.ref p),some (.ref pu),some (.ref pk),some (.bl flat),some (.ref psp),none,none,none,none,none,none,none,none,none,none,none] H10;refine cL (λσ' H'=>∃(pk:Addr) (ws:List Addr) (KP:List Int) (LS:List (List Int)),σ'=[some (.ref sa),some (.ref p),some (.ref pu),some (.ref pk),some (.bl flat),some (.ref psp),none,none,none,none,none,none,none,none,none,none,none]/\Same H H'/\H' pk=some (.lst (KP.map V.int))/\H' psp=some (.lst (ws.map V.ref))/\TuH H' ws LS/\gj xs KP LS/\2<=KP.length/\KP.length<=7/\AllB 500 KP) ?_ ?_
  case refine_2 =>
   intro rest;have hdg:=hO.dg;have lm:((fP id (usP xs)).map V.int).length=(fP id (usP xs)).length:=Hs _;refine dL ⟨_,rfl,sa,ns,3,rfl,t10.seq hS,_,_,rfl,rfl,(by show(0:Int)<2;decide),_,_,rfl,rfl,_,rfl,aC (λh1=>cE ?_) (λh1=>⟨_,rfl,pk,_,rfl,.inl (SqL.of ek10),_,_,rfl,rfl,_,rfl,aC (λh2=>?_) (λh2=>?_)⟩)⟩
   ·have hd:dgU xs<=2:=by have:=r2 h1;omega
    refine ax ⟨_,rfl,_,rfl,p,a,b,c,m,rfl,hCT10,.inl ⟨hC,λr1 H11 s11 hr1 e11=>?_⟩⟩;refine⟨pk,r1,_,aK m a b c,rfl,s11 _ _ ek10,e11,by omega,by show 4<=1000000;decide,kb.mono,(nV hC).mono,λpk2 H12 s12 hpk2 e12=>?_⟩;have u12:=s11.trans s12;have esp12:=u12 _ _ esp;refine dM ⟨_,rfl,.inl ⟨rfl,_,SqL.of esp12⟩,_,rfl,psp,_,_,rfl,rfl,esp12,by rw[Hs,hW.1];omega,?_⟩;exact rest _ _ ⟨pk2,ws++[p],_,_,rfl,cO (t10.trans u12) fsp,by rw[upd_ne (Ne.symm (aE (s11 _ _ esp) hpk2))];exact e12,by rw[aj,Hu];rfl,((hW.same u12).snoc (u12 _ _ hCT10)).upd_lst esp12,.inr ⟨a,b,c,m,hC,rfl,rfl⟩,by rw[j0 hO.fac];omega,by rw[j0 hO.fac];omega,uW hC kb kl⟩
   ·have h2':(((fP id (usP xs)).map V.int).length:Int)=1:=h2;have hd:dgU xs<=2:=by omega
    refine ax ⟨_,rfl,_,rfl,p,a,b,c,m,rfl,hCT10,.inl ⟨hC,λr1 H11 s11 hr1 e11=>?_⟩⟩;refine⟨pk,r1,_,aK m a b c,rfl,s11 _ _ ek10,e11,by omega,by show 4<=1000000;decide,kb.mono,(nV hC).mono,λpk2 H12 s12 hpk2 e12=>?_⟩;have u12:=s11.trans s12;have esp12:=u12 _ _ esp;refine dM ⟨_,rfl,.inl ⟨rfl,_,SqL.of esp12⟩,_,rfl,psp,_,_,rfl,rfl,esp12,by rw[Hs,hW.1];omega,?_⟩;exact rest _ _ ⟨pk2,ws++[p],_,_,rfl,cO (t10.trans u12) fsp,by rw[upd_ne (Ne.symm (aE (s11 _ _ esp) hpk2))];exact e12,by rw[aj,Hu];rfl,((hW.same u12).snoc (u12 _ _ hCT10)).upd_lst esp12,.inr ⟨a,b,c,m,hC,rfl,rfl⟩,by rw[j0 hO.fac];omega,by rw[j0 hO.fac];omega,uW hC kb kl⟩
   ·have h2':¬(((fP id (usP xs)).map V.int).length:Int)=1:=h2;exact rest _ _ ⟨pk,ws,_,_,rfl,t10,ek10,esp,hW,.inl ⟨rfl,rfl⟩,by omega,by omega,kb.mono⟩
  clear hC hCT10 ek10 esp hW kb kl t10;rintro σ' H11 ⟨pk,ws,KP,LS,rfl,t11,ek,esp,hW,U,k2,k7,kb⟩;have R:=r9 (mn U hO) k7 k2 kb;refine ax ⟨_,rfl,pk,KP,_,rfl,ek,R,λt l lk ps ls H12 s12 et el hR elk hL=>?_⟩;have t12:=t11.trans s12;refine ax ⟨_,rfl,t,_,_,_,rfl,rfl,SqT.of et,rfl,_,rfl,t,_,_,_,rfl,rfl,SqT.of et,rfl,_,rfl,sa,ns,6,rfl,t12.seq hS,_,rfl,sa,ns,7,rfl,t12.seq hS,l,lk,ps,ls,_,_,_,_,rfl,el,hR,elk,hL,tG R,R.rws,R.few,tF R.two,?_⟩;clear et el hR elk hL;rintro t l lk ps ls H13 s13 fl fk et hP;have hB:=yW (ns.getD 7 0) (ns.getD 6 0) (tG R) R.rws (tF R.two) R.few;have ek12:=s12 _ _ ek;have esp12:=s12 _ _ esp;have hW12:=hW.same s12;show bz _ _ _ [some (.ref sa),some (.ref p),some (.ref pu),some (.ref pk),some (.bl flat),some (.ref psp),some (.ref t),none,none,none,none,none,none,none,none,none,none] H13;refine ax ⟨_,rfl,t,_,_,_,rfl,rfl,SqT.of et,rfl,?_⟩;refine ax ⟨_,rfl,t,_,_,_,rfl,rfl,SqT.of et,rfl,?_⟩;show bz _ _ _ [some (.ref sa),some (.ref p),some (.ref pu),some (.ref pk),some (.bl flat),some (.ref psp),some (.ref t),some (.ref l),some (.ref lk),none,none,none,none,none,none,none,none] H13
  have hot:flat=true->HotP KP (scR (ns.getD 7 0) (aN 9 KP (ah (slopeL KP))) (aN 9 KP (ah (slopeL KP))).length) (scX (ns.getD 7 0) (ns.getD 6 0) (bZ (aN 9 KP (ah (slopeL KP)))) (bZ (aN 9 KP (ah (slopeL KP)))).length):=λz =>(Cn _ _ (Co (mn U hO) (rV U hO (hfl z) (by omega)) k7 k2 kb) λx hx=>(R.rws x hx).tr).1
  have t13:=t12.trans s13;generalize scR (ns.getD 7 0) (aN 9 KP (ah (slopeL KP))) (aN 9 KP (ah (slopeL KP))).length=r0 at hP hB hot
  generalize scX (ns.getD 7 0) (ns.getD 6 0) (bZ (aN 9 KP (ah (slopeL KP)))) (bZ (aN 9 KP (ah (slopeL KP)))).length=x0 at hP hB hot
  have ek13:=s13 _ _ ek12;have esp13:=s13 _ _ esp12;have hW13:=hW12.same s13;have nlt:t≠l:=λz=>by rw[z,hP.hl]at et;cases et
  have nkt:t≠lk:=λz=>by rw[z,hP.hk]at et;cases et
  have hl0:H l=none:=t12.free fl;have hk0:H lk=none:=t12.free fk
  have base:∀{H':Hp},SmB l lk H13 H'->Same H H'/\H' pk=some (.lst (KP.map V.int))/\H' psp=some (.lst (ws.map V.ref))/\TuH H' ws LS/\H' t=some (.tup [.ref l,.ref lk]):=λ{H'} m =>⟨SmB.same t13 m hl0 hk0,(SmB.same s13 m fl fk) _ _ ek12,(SmB.same s13 m fl fk) _ _ esp12,hW12.same (SmB.same s13 m fl fk),m _ _ et nlt nkt⟩
  clear ek esp hW ek12 esp12 hW12 ek13 esp13 hW13 R t11 s12 fsp;refine cL (λσ' H'=>∃(ps ls:List Addr) (r1:List (List Int)) (x1:List Lnk),σ'=[some (.ref sa),some (.ref p),some (.ref pu),some (.ref pk),some (.bl flat),some (.ref psp),some (.ref t),some (.ref l),some (.ref lk),none,none,none,none,none,none,none,none]/\SmB l lk H13 H'/\Pap H' l lk ps ls r1 x1/\PB 1 r1 x1/\(flat=true->HotP KP r1 x1)) ?_ ?_
  case refine_2 =>
   intro rest;refine⟨_,rfl,sa,ns,14,rfl,t13.seq hS,_,_,rfl,rfl,(by show(0:Int)<3;decide),_,_,rfl,rfl,_,rfl,aC (λ_=>?_) (λ_=>rest _ _ ⟨ps,ls,r0,x0,rfl,SmB.refl,hP,hB.mono (by omega),hot⟩)⟩;obtain⟨g1,g2⟩:=bN (x:=ns.getD 14 0/3) (m:=20) (by decide);refine dM ⟨_,rfl,_,rfl,_,rfl,sa,ns,14,rfl,t13.seq hS,_,_,rfl,rfl,⟨by show(0:Int)<3;decide,aS (by decide) (by decide)⟩,_,_,rfl,rfl,(by show(0:Int)<20;decide),_,_,rfl,rfl,l,lk,ps,ls,r0,x0,_,_,0,rfl,hP,hB,by decide,.inl rfl,?_,λps' ls' r' xs' H' m hP' hB' hL=>?_⟩
   ·show(1+ns.getD 14 0/3%20).natAbs<64;omega
   ·exact rest _ _ ⟨ps',ls',r',xs',rfl,m,hP',hB',λz=>(Cp (hot z) (λx hx=>(hB.rb x hx).1) (by omega) (hL rfl)).1⟩
  clear hP hB hot ps ls;rintro σ' H14 ⟨ps,ls,r1,x1,rfl,m14,hP,hB,hot⟩;obtain⟨t14,_⟩:=base m14
  have lsl:LS.length<=100:=by
   have e0:(xs.map (·.1)).length=xs.length:=Hs _;rcases U with⟨_,rfl⟩ |⟨_,_,_,_,_,_,rfl⟩
   ·omega
   ·rw[Hv];show _+1<=_;omega
  have spk:=rS U hO;refine ax ⟨_,rfl,sa,_,rfl,.inl (t14.seq hS),_,_,rfl,rfl,_,_,rfl,rfl,⟨by show(0:Int)<3;decide,aS (by decide) (by decide)⟩,_,_,rfl,?_⟩;obtain⟨tb,etb,tb16⟩:∃tb:Int,(if((ns.map V.int).length-13:Int)/3<16 then((ns.map V.int).length-13:Int)/3 else 16)=tb/\tb<=16:=⟨_,rfl,by split<;>omega⟩;have tbl : -(2^62)<=tb:=by rw[<- etb];split<;>omega
  show bz _ _ _ [some (.ref sa),some (.ref p),some (.ref pu),some (.ref pk),some (.bl flat),some (.ref psp),some (.ref t),some (.ref l),some (.ref lk),some (.int (if((ns.map V.int).length-13:Int)/3<16 then((ns.map V.int).length-13:Int)/3 else 16)),none,none,none,none,none,none,none] H14;rw[etb];clear etb;refine ax ⟨_,rfl,sa,ns,3,rfl,t14.seq hS,_,_,rfl,rfl,⟨by show(0:Int)<6;decide,aS (by decide) (by decide)⟩,_,_,rfl,rfl,(by show(0:Int)<4;decide),_,_,rfl,rfl,?_⟩;obtain⟨st,est⟩:∃st:Bool,decide (ns.getD 3 0/6%4=1)=st:=⟨_,rfl⟩;show bz _ _ _ [some (.ref sa),some (.ref p),some (.ref pu),some (.ref pk),some (.bl flat),some (.ref psp),some (.ref t),some (.ref l),some (.ref lk),some (.int tb),some (.bl (decide (ns.getD 3 0/6%4=1))),none,none,none,none,none,none] H14;rw[est];clear est;refine cL (λσ' H'=>∃tb:Int,σ'=[some (.ref sa),some (.ref p),some (.ref pu),some (.ref pk),some (.bl flat),some (.ref psp),some (.ref t),some (.ref l),some (.ref lk),some (.int tb),some (.bl st),none,none,none,none,none,none]/\H14=H'/\tb<=16 /\ -(2^62)<=tb/\(st=true->tb=0)) ?_ ?_
  case refine_2 =>
   intro rest;refine dL ⟨_,rfl,_,rfl,?_⟩;cases st with
   |true=>exact cE (cE (rest _ _ ⟨0,rfl,rfl,by decide,by decide,λ_=>rfl⟩))
   |false =>refine bV ⟨_,rfl,sa,ns,3,rfl,t14.seq hS,_,_,rfl,rfl,⟨by show(0:Int)<2;decide,aS (by decide) (by decide)⟩,_,_,rfl,rfl,(by show(0:Int)<3;decide),_,_,rfl,rfl,_,rfl,aC (λ_=>rest _ _ ⟨0,rfl,rfl,by decide,by decide,λ_=>rfl⟩) (λ_=>rest _ _ ⟨tb,rfl,rfl,tb16,tbl,λz=>by cases z⟩)⟩
  clear tb16 tbl tb;rintro σ' H14' ⟨tb,rfl,rfl,tb16,tbl,tb0⟩;refine lZ (λσ' H'=>∃(z11:Option V) (ps ls:List Addr) (r2:List (List Int)) (x2:List Lnk),σ'=[some (.ref sa),some (.ref p),some (.ref pu),some (.ref pk),some (.bl flat),some (.ref psp),some (.ref t),some (.ref l),some (.ref lk),some (.int tb),some (.bl st),z11,none,none,none,none,none]/\SmB l lk H13 H'/\Pap H' l lk ps ls r2 x2/\PB (1+tb.toNat) r2 x2/\(tb<=0->flat=true->HotP KP r2 x2)) ?_ λrest=>?_
  case refine_2 =>
   refine⟨_,rfl,tb,rfl,tbl,by omega,ga (lo:=0) (n:=tb.toNat) (λi σ' H'=>∃(z11:Option V) (ps ls:List Addr) (r2:List (List Int)) (x2:List Lnk),σ'=[some (.ref sa),some (.ref p),some (.ref pu),some (.ref pk),some (.bl flat),some (.ref psp),some (.ref t),some (.ref l),some (.ref lk),some (.int tb),some (.bl st),z11,none,none,none,none,none]/\SmB l lk H13 H'/\Pap H' l lk ps ls r2 x2/\PB (1+i) r2 x2/\(tb<=0->flat=true->HotP KP r2 x2)) ⟨none,ps,ls,r1,x1,rfl,m14,hP,hB,λ_=>hot⟩ ?_ ?_⟩
   ·rintro i σ' H2 hi ⟨z11,ps,ls,r2,x2,rfl,m2,hP2,hB2,_⟩;obtain⟨t2,_⟩:=base m2;refine dM ⟨_,rfl,_,rfl,3,rfl,by decide,by decide,gY (lo:=0) (n:=3) (λj ys σ' H'=>∃z:Option V,σ'=[z,some (.ref sa),some (.int (0+(i:Int)))]/\ys=((List.range j).map λj=>ns.getD (15+3*i+j) 0).map V.int/\H2=H') (by omega) ⟨none,rfl,rfl,rfl⟩ ?_ ?_ ?_⟩
    ·rintro j ys σ' H' _ ⟨z,rfl,rfl,rfl⟩;simp
    ·rintro j ys σ' H' hj ⟨z,rfl,rfl,rfl⟩;refine⟨_,rfl,_,rfl,_,_,rfl,rfl,⟨aS (by decide) (by decide),aS (by omega) (by decide)⟩,_,_,rfl,rfl,_,rfl,_,_,rfl,rfl,sa,ns,15+3*i+j,?_,t2.seq hS,_,rfl,?_,rfl⟩
     ·have e:(15+3*(0+(i:Int))+(0+(j:Int)))=((15+3*i+j:Nat):Int):=by omega
      show[V.ref sa,V.int (15+3*(0+(i:Int))+(0+(j:Int)))]=_;rw[e]
     ·rw[IW,Hu,Hu];rfl
    rintro ys σ' H' pc ⟨z,rfl,rfl,rfl⟩ hpc;have v1:=Same.upd_new (o:=.lst (((List.range 3).map λj=>ns.getD (15+3*i+j) 0).map V.int)) hpc;refine⟨l,lk,pc,ps,ls,r2,x2,_,_,_,1+i,rfl,aj,hP2.same v1,hB2,by omega,λps' ls' r' xs' H3 m3 hP3 hB3=>?_⟩;exact⟨_,ps',ls',r',xs',rfl,m2.trans ((SmB.of v1).trans m3),hP3,hB3,λz=>by omega⟩
   ·rintro σ' H2 ⟨z11,ps,ls,r2,x2,rfl,m2,hP2,hB2,h2⟩;exact rest _ _ ⟨z11,ps,ls,r2,x2,rfl,m2,hP2,hB2,h2⟩
  clear hP hB hot ps ls m14 t14 r1 x1;rintro σ' H15 ⟨z11,ps,ls,r1,x1,rfl,m15,hP,hB,hot⟩;obtain⟨t15,ek15,esp15,hW15,et15⟩:=base m15;refine cL (λσ' H'=>∃(l lk:Addr) (ps ls:List Addr) (r2:List (List Int)) (x2:List Lnk),σ'=[some (.ref sa),some (.ref p),some (.ref pu),some (.ref pk),some (.bl flat),some (.ref psp),some (.ref t),some (.ref l),some (.ref lk),some (.int tb),some (.bl st),z11,none,none,none,none,none]/\Same H15 H'/\H' l=some (.lst (ps.map V.ref))/\H' lk=some (.lst (ls.map V.ref))/\RwH H' ps r2/\LkH H' ls x2/\(∀x∈r2,RwN 50 x)/\(∀x∈x2,LkN 50 x)/\r2.length<=200/\x2.length<=200/\(tb<=0->flat=true->st=false->HotP KP r2 x2)) ?_ ?_
  case refine_2 =>
   intro rest;have n50:=hB.n50;refine⟨_,rfl,_,rfl,?_⟩;cases st with
   |true =>refine cE ⟨_,rfl,_,rfl,sa,ns,6,rfl,t15.seq hS,_,rfl,sa,ns,7,rfl,t15.seq hS,t,l,lk,ps,ls,r1,x1,_,_,_,rfl,et15,hP,hB,λt2 l2 lk2 ps2 ls2 r2 x2 H16 s16 et2 hA=>?_⟩;exact⟨t2,_,rfl,SqT.of et2,rfl,_,_,rfl,_,_,rfl,rfl,rest _ _ ⟨l2,lk2,ps2,ls2,r2,x2,rfl,s16,hA.hl,hA.hk,hA.rw,hA.lx,λx hx=>(hA.rb x hx).mono n50,λx hx=>(hA.xb x hx).mono n50,by have:=hA.r20;omega,by have:=hA.x20;omega,λ_ _ z=>by cases z⟩⟩
   |false =>have h2:=hB.two;have h3:=hB.few;exact bV (rest _ _ ⟨l,lk,ps,ls,r1,x1,rfl,Same.refl _,hP.hl,hP.hk,hP.rw.1,hP.lx.toH,λx hx=>(hB.rb x hx).mono n50,λx hx=>(hB.xb x hx).mono n50,by omega,by omega,λa b _=>hot a b⟩)
  clear hP hB hot ps ls r1 x1 m15 base et15 et hl0 hk0 nlt nkt fl fk;rintro σ' H16 ⟨l,lk,ps,ls,r,ys,rfl,s16,el,elk,hR,hL,hrb,hxb,r200,y200,hot⟩;have t16:=t15.trans s16;have ek16:=s16 _ _ ek15;have esp16:=s16 _ _ esp15;have hW16:=hW15.same s16;refine ax ⟨_,rfl,sa,ns,4,rfl,t16.seq hS,_,rfl,_,psp,ws,LS,rfl,esp16,hW16,spk,lsl,λplo H17 x y s17 hlo elo x1 x2 y1 y9=>?_⟩;have t17:=t16.trans s17;refine ax ⟨_,rfl,sa,ns,5,rfl,t17.seq hS,_,rfl,_,psp,ws,LS,rfl,s17 _ _ esp16,hW16.same s17,spk,lsl,λphi H18 x' y' s18 hhi ehi x1' x2' y1' y9'=>?_⟩;have u18:=s17.trans s18;have t18:=t16.trans u18;have elo18:=s18 _ _ elo;have bx:Bits 10 x:=aS (by omega) (by decide);have by_:Bits 10 y:=aS (by omega) (by decide);have bx':Bits 10 x':=aS (by omega) (by decide);have by':Bits 10 y':=aS (by omega) (by decide);show bz _ _ _ [some (.ref sa),some (.ref p),some (.ref pu),some (.ref pk),some (.bl flat),some (.ref psp),some (.ref t),some (.ref l),some (.ref lk),some (.int tb),some (.bl st),z11,some (.ref plo),some (.ref phi),none,none,none] H18;refine lZ (λσ' H'=>∃due:Bool,σ'=[some (.ref sa),some (.ref p),some (.ref pu),some (.ref pk),some (.bl flat),some (.ref psp),some (.ref t),some (.ref l),some (.ref lk),some (.int tb),some (.bl st),z11,some (.ref plo),some (.ref phi),some (.bl due),none,none]/\H18=H'/\(due=true↔(x*y'<x'*y/\g8 LS x y x' y'=1))) ?_ λrest=>?_
  case refine_2 =>
   refine dq (jy ⟨_,rfl,plo,_,_,_,rfl,rfl,SqT.of elo18,rfl,_,rfl,phi,_,_,_,rfl,rfl,SqT.of ehi,rfl,_,_,rfl,rfl,⟨bx.mono,by'.mono⟩,_,rfl,phi,_,_,_,rfl,rfl,SqT.of ehi,rfl,_,rfl,plo,_,_,_,rfl,rfl,SqT.of elo18,rfl,_,_,rfl,rfl,⟨bx'.mono,by_.mono⟩,_,_,rfl,rfl,_,rfl,aC (λh1=>?_) (λh1=>?_)⟩)
   ·refine⟨_,rfl,_,rfl,_,rfl,psp,plo,phi,ws,LS,x,y,x',y',rfl,u18 _ _ esp16,hW16.same u18,spk,elo18,ehi,bx.mono,by_.mono,bx'.mono,by'.mono,_,_,rfl,rfl,rest _ _ ⟨_,rfl,rfl,?_⟩⟩;rw[decide_eq_true_iff];exact⟨λz=>⟨h1,z⟩,λz=>z.2⟩
   ·exact rest _ _ ⟨false,rfl,rfl,⟨λz=>(nomatch z),λz=>absurd z.1 h1⟩⟩
  rintro σ' H18' ⟨due,rfl,rfl,hdue⟩;have hR18:=hR.same u18;have hL18:=hL.same u18;have el18:=u18 _ _ el;have elk18:=u18 _ _ elk;have ek18:=u18 _ _ ek16;have pl:(ps.map V.ref).length=r.length:=by rw[Hs,hR.1]
  have rwb:RwB r:=xS (by decide) hrb;have lkb:∀z∈ys,LkB z:=λz hz=>Bo (by decide) (hxb z hz)
  have rtr:∀z∈r,Tr z:=λz hz=>(hrb z hz).1
  clear hR hL el elk ek16 ek15 esp15 esp16 hW15 hW16 hrb hxb s16 s17 s18 u18 t15 t16 t17 hlo hhi elo lsl spk;refine ax ⟨_,rfl,l,rfl,⟨_,SqL.of el18⟩,dW (K:=K) (a:=l) (xs:=ps.map V.ref) (λi zs σ' H'=>∃(z0:Option V) (qs:List Addr),σ'=[z0]/\zs=qs.map V.ref/\Same H18 H'/\RwH H' qs (r.take i)) (by omega) ⟨none,[],rfl,rfl,Same.refl _,by rw[JG];exact RwH.nil⟩ ?_ ?_ ?_⟩
  ·rintro i zs σ' H' hi ⟨z0,qs,rfl,rfl,sm,hq⟩;refine⟨SqL.of (sm _ _ el18),?_⟩;have:=hq.1;rw[HZ]at this;rw[Hs];omega
  ·rintro i v zs σ' H' hi ⟨z0,qs,rfl,rfl,sm,hq⟩;obtain⟨p,zs,rfl,ep,ex,hp,hlt⟩:=(hR18.same sm).of_get hi;refine⟨_,rfl,p,_,rfl,.inl (SqL.of hp),λp' hp'=>?_⟩;have s1:=Same.upd_new (o:=.lst (zs.map V.int)) hp';refine⟨_,qs++[p'],rfl,by rw[Hu];rfl,sm.trans s1,?_⟩;rw[Ib,ex];exact(hq.same s1).snoc aj
  rintro zs σ' H1 l' ⟨z0,qs,rfl,rfl,s1,hq⟩ hl';rw[pl,HY]at hq;have s2:=Same.upd_new (o:=.lst (qs.map V.ref)) hl';have e2:upd H1 l' (.lst (qs.map V.ref)) l'=some (.lst (qs.map V.ref)):=aj;generalize upd H1 l' (.lst (qs.map V.ref))=H2 at s2 e2 ⊢
  have t2:=s1.trans s2;refine⟨_,rfl,lk,_,rfl,.inl (SqL.of (t2 _ _ elk18)),λlk' hlk'=>?_⟩;have s3:=Same.upd_new (o:=.lst (ls.map V.ref)) hlk';have e3:upd H2 lk' (.lst (ls.map V.ref)) lk'=some (.lst (ls.map V.ref)):=aj;generalize upd H2 lk' (.lst (ls.map V.ref))=H3 at s3 e3 ⊢
  refine⟨by show 2<=sizeLine;decide,λpp hpp=>?_⟩;have s4:=Same.upd_new (o:=.tup [.ref l',.ref lk']) hpp;have e4:upd H3 pp (.tup [.ref l',.ref lk']) pp=some (.tup [.ref l',.ref lk']):=aj;have t4:=t2.trans (s3.trans s4);dsimp only
  generalize upd H3 pp (.tup [.ref l',.ref lk'])=H4 at s4 e4 t4 ⊢
  have hq4:=hq.same (s2.trans (s3.trans s4));have e24:=(s3.trans s4) _ _ e2;have e34:=s4 _ _ e3;clear e2 e3 s1 s2 s3 s4 t2 hq;show bz _ _ _ [some (.ref sa),some (.ref p),some (.ref pu),some (.ref pk),some (.bl flat),some (.ref psp),some (.ref t),some (.ref l),some (.ref lk),some (.int tb),some (.bl st),z11,some (.ref plo),some (.ref phi),some (.bl due),some (.ref pp),none] H4;have hy:y≠0:=by omega
  have hy':y'≠0:=by omega
  have elo4:=t4 _ _ elo18;have ehi4:=t4 _ _ ehi;refine ax ⟨_,rfl,pk,_,rfl,.inl (SqL.of (t4 _ _ ek18)),λpk' hpk'=>?_⟩;have s5:=Same.upd_new (o:=.lst (KP.map V.int)) hpk';have e5:upd H4 pk' (.lst (KP.map V.int)) pk'=some (.lst (KP.map V.int)):=aj;generalize upd H4 pk' (.lst (KP.map V.int))=H5 at s5 e5 ⊢
  refine⟨_,rfl,plo,_,_,_,rfl,rfl,SqT.of (s5 _ _ elo4),rfl,_,rfl,plo,_,_,_,rfl,rfl,SqT.of (s5 _ _ elo4),rfl,sU hy (by_.mono) λxa H6 s6 hx rx=>?_⟩;have s56:=s5.trans s6;refine⟨_,rfl,phi,_,_,_,rfl,rfl,SqT.of (s56 _ _ ehi4),rfl,_,rfl,phi,_,_,_,rfl,rfl,SqT.of (s56 _ _ ehi4),rfl,sU hy' (by'.mono) λya H7 s7 hyA ry=>?_⟩;have u7:=s56.trans s7;have t7:=t4.trans u7;refine⟨_,rfl,pk',xa,ya,pp,l',lk',qs,ls,KP,r,ys,_,_,_,_,rfl,u7 _ _ e4,rx.same s7,ry,re hy (bx.mono),rm hy (by_.mono),re hy' (bx'.mono),rm hy' (by'.mono),(s6.trans s7) _ _ e5,u7 _ _ e24,hq4.same u7,rwb,u7 _ _ e34,hL18.same t7,lkb,(mn U hO).tr,by omega,kb.mono,by omega,by omega,λbb H8 s8 hb=>?_⟩;have t8:=t7.trans s8;have u8:=u7.trans s8;have hD:bb=true->due=true:=λz=>hdue.mpr (yK U hO (by omega) k2 rtr (by omega) (by omega) (hb.mp z))
  have hE:tb<=0->flat=true->st=false->bb=due:=λz1 z2 z3=>by have h1:=rT U hO (hfl z2) (by omega) k2 (hot z1 z2 z3) rtr (t:=x) (n:=y) (t':=x') (n':=y') (by omega) (by omega);rw[II,hb,h1,hdue]
  show bz _ _ _ [some (.ref sa),some (.ref p),some (.ref pu),some (.ref pk),some (.bl flat),some (.ref psp),some (.ref t),some (.ref l),some (.ref lk),some (.int tb),some (.bl st),z11,some (.ref plo),some (.ref phi),some (.bl due),some (.ref pp),some (.bl bb)] H8;refine cL (λσ' H'=>σ'=[some (.ref sa),some (.ref p),some (.ref pu),some (.ref pk),some (.bl flat),some (.ref psp),some (.ref t),some (.ref l),some (.ref lk),some (.int tb),some (.bl st),z11,some (.ref plo),some (.ref phi),some (.bl due),some (.ref pp),some (.bl bb)]/\H8=H') ?_ ?_
  case refine_2 =>
   intro rest;refine dL (lV (yh ⟨_,rfl,Ce (.bl _) (k:=true) (by rfl) ⟨_,rfl,bV (cg ⟨_,rfl,_,rfl,?_⟩)⟩⟩));cases bb with
   |false=>exact bV (bV (rest _ _ ⟨rfl,rfl⟩))
   |true =>refine cE (lV ⟨_,rfl,_,rfl,?_⟩);rw[hD rfl];exact bV (rest _ _ ⟨by rw[hD rfl],rfl⟩)
  rintro σ' H8' ⟨rfl,rfl⟩;refine cL (λσ' H'=>σ'=[some (.ref sa),some (.ref p),some (.ref pu),some (.ref pk),some (.bl flat),some (.ref psp),some (.ref t),some (.ref l),some (.ref lk),some (.int tb),some (.bl st),z11,some (.ref plo),some (.ref phi),some (.bl due),some (.ref pp),some (.bl bb)]/\H8=H') ?_ ?_
  case refine_2 =>
   intro rest;refine cg ⟨_,rfl,_,_,rfl,rfl,_,rfl,aC (λz1=>?_) (λ_=>bV (rest _ _ ⟨rfl,rfl⟩))⟩;refine cg ⟨_,rfl,flat,rfl,?_⟩;cases flat with
   |false=>exact bV (bV (rest _ _ ⟨rfl,rfl⟩))
   |true =>
    refine cE (cg (lV ⟨_,rfl,_,rfl,?_⟩));cases st with
    |true=>exact bV (bV (rest _ _ ⟨rfl,rfl⟩))
    |false =>
     refine cE ⟨_,rfl,_,rfl,rfl,_,rfl,?_⟩;rw[hE z1 rfl rfl];have ee:(!decide (V.bl due=V.bl due))=false:=by rw[decide_eq_true rfl];rfl
     rw[ee];exact bV (rest _ _ ⟨by rw[hE z1 rfl rfl],rfl⟩)
  rintro σ' H8' ⟨rfl,rfl⟩;refine bJ (jy ⟨_,rfl,pp,_,_,_,rfl,rfl,SqT.of (u8 _ _ e4),rfl,_,rfl,l',l,qs,ps,r,r,rfl,rfl,SqL.of (u8 _ _ e24),SqL.of (t8 _ _ el18),(hq4.same u8).rws,(hR18.same t8).rws,?_⟩);rw[decide_eq_true rfl];refine⟨_,rfl,cE ⟨_,rfl,pp,_,_,_,rfl,rfl,SqT.of (u8 _ _ e4),rfl,_,rfl,lk',lk,ls,rfl,rfl,SqL.of (u8 _ _ e34),SqL.of (t8 _ _ elk18),fin _⟩⟩
end
def FnL(K:PySem.W.Frag)(n:Str)(st:Stmt):Prop:=∃f fd,PySem.W.nsIn K mainGlobals n=some (some (.ref f))/\Fun K n n st f fd
def MtL(K:PySem.W.Frag)(C:Addr)(n q:Str)(st:Stmt):Prop:=∃f fd,PySem.W.findIn K (.ref C) n=some (some (.ref f))/\PySem.W.isFn K (.ref f)=true/\Fun K n q st f fd
structure ClL(K:PySem.W.Frag)(n:Str)(C:Addr):Prop where
 a:PySem.W.nsIn K mainGlobals n=some (some (.ref C))
 pg:PySem.W.plainGet K C Str.empty=true
 hd:PySem.W.hasDictIn K C=true
 po:PySem.W.plainOver K C=true
 sa:PySem.W.findIn K (.ref C) "__setattr__"=some (some (.builtin "object.__setattr__"))
 mkr:PySem.W.makesIn K C=true
 kc:PySem.W.keepIn K (.ref C)=true
 ha:PySem.W.findIn K (.ref C) "__class__"=some (some (.builtin "object.__class__"))
 hn:PySem.W.specialIn K (.builtin "object.__class__") "__get__"=some (some (.builtin "getset_descriptor.__get__"))
 ht:PySem.W.takesIn K (.builtin "object.__class__")=some true
 hm:PySem.W.mroIn K C (.type "object")=some true
section
variable {P:Program}{w:World}{K:PySem.W.Frag}{mg:Str->Option Value}{h base:Heap}{n q:Str}{st:Stmt}{f C:Addr}{oc kV dc pm cd ct:Value}{od an:Option Addr}{sl:Array (Option Value)}{fd:FuncData}{k:Nat}{ps:List Str}{sp:Sp}
theorem fnL(a:PySem.W.nsIn K mainGlobals n=some (some (.ref f)))(l:K.lookup f=some ⟨oc,od,.func (PySem.W.fnOf n n (df st) (cQ st) (aA st) .none kV dc pm an cd ct),sl⟩)(c:PySem.W.codeIn K cd n=true)(k:PySem.W.keepIn K (.ref f)=true):FnL K n st:=⟨_,_,a,ut l c k⟩
theorem mtL(a:PySem.W.findIn K (.ref C) n=some (some (.ref f)))(i:PySem.W.isFn K (.ref f)=true)(l:K.lookup f=some ⟨oc,od,.func (PySem.W.fnOf n q (df st) (cQ st) (aA st) .none kV dc pm an cd ct),sl⟩)(c:PySem.W.codeIn K cd q=true)(k:PySem.W.keepIn K (.ref f)=true):MtL K C n q st:=⟨_,_,a,i,ut l c k⟩
def Bx(P:Program)(w:World)(base:Heap):Prop:=P=P/\w=w/\base=base
def BdR(n q:Str)(st:Stmt)(ps:List Str):Prop:=∀(kV doc pm:Value) (an:Option Addr) (cdv ct:Value) (us:List Value),us.length=ps.length->bindArgs (PySem.W.fnOf n q (df st) (cQ st) (aA st) .none kV doc pm an cdv ct) ⟨us,[]⟩=pure (ps.zip us)
theorem cal(_:Bx P w base)(X:K.In h)(G:h.Ns mainGlobals mg)(a:PySem.W.nsIn K mainGlobals n=some (some (.ref f)))(F:Fun K n n st f fd)(o:FnOk P w K mg base CX0 k f fd ps sp)(b:BdR n n st ps):Cal P w K mg base k n ps sp f fd:=⟨o,PySem.W.mg_of X G a,F.kp,F.binds b⟩
theorem AJ(_:Bx P w base)(a:PySem.W.findIn K (.ref C) n=some (some (.ref f)))(i:PySem.W.isFn K (.ref f)=true)(F:Fun K n q st f fd)(o:FnOk P w K mg base CX0 k f fd ps sp)(b:BdR n q st ps):MCal P w K mg base k C n ps sp f fd:=⟨o,⟨a,i,F.kp⟩,F.binds b⟩
theorem us1{A:List Value->Prop}(h:∀a,A [a]):∀us:List Value,us.length=1->A us
 | [a],_=>h a
theorem us2{A:List Value->Prop}(h:∀a b,A [a,b]):∀us:List Value,us.length=2->A us
 | [a,b],_=>h a b
theorem us3{A:List Value->Prop}(h:∀a b c,A [a,b,c]):∀us:List Value,us.length=3->A us
 | [a,b,c],_=>h a b c
theorem us4{A:List Value->Prop}(h:∀a b c d,A [a,b,c,d]):∀us:List Value,us.length=4->A us
 | [a,b,c,d],_=>h a b c d
theorem us5{A:List Value->Prop}(h:∀a b c d e,A [a,b,c,d,e]):∀us:List Value,us.length=5->A us
 | [a,b,c,d,e],_=>h a b c d e
end
theorem all_mk{l:PySem.W.OpenLaw}{w:World}{K:PySem.W.Frag}{h:Heap}{mg:Str->Option Value}{fa CC1 f4 dt4:Addr}(X:K.In h)(G:h.Ns mainGlobals mg)(hfa:mg "law"=some (.ref fa))
 {od4 an4 odt4:Option Addr} {sl4 slt4:Array (Option Value)} {oc4 kV4 dc4 pm4 cd4 ct4 oct4:Value} {nt4:Nat} {tk4_0:Tok}
 (cc1:ClL K "Ratio" CC1)
 (n1_top:PySem.W.findIn K (.ref CC1) "top"=some none)
 (n1_bottom:PySem.W.findIn K (.ref CC1) "bottom"=some none)
 (a4:PySem.W.findIn K (.ref CC1) "__init__"=some (some (.ref f4))) (i4:PySem.W.isFn K (.ref f4)=true)
 (l4:K.lookup f4=some ⟨oc4,od4,.func (PySem.W.fnOf "__init__" "Ratio.__init__" (df gz) (cQ gz) (aA gz) (.ref dt4) kV4 dc4 pm4 an4 cd4 ct4),sl4⟩) (c4:PySem.W.codeIn K cd4 "Ratio.__init__"=true) (k4:PySem.W.keepIn K (.ref f4)=true)
 (t4:K.lookup dt4=some ⟨oct4,odt4,.seq #[.int 1 tk4_0] nt4,slt4⟩)
 (z0:PySem.W.nsIn K mainGlobals "abs"=some none)
 (z1:PySem.W.nsIn K mainGlobals "len"=some none)
 (z2:PySem.W.nsIn K mainGlobals "max"=some none)
 (z3:PySem.W.nsIn K mainGlobals "range"=some none)
 (z4:PySem.W.nsIn K mainGlobals "enumerate"=some none)
 (z5:PySem.W.nsIn K mainGlobals "reversed"=some none)
 (z6:PySem.W.nsIn K mainGlobals "all"=some none)
 (z7:PySem.W.nsIn K mainGlobals "int"=some none)
 (z8:PySem.W.nsIn K mainGlobals "list"=some none)
 (z9:PySem.W.nsIn K mainGlobals "min"=some none)
 (z10:PySem.W.nsIn K mainGlobals "isinstance"=some none)
 (z11:PySem.W.nsIn K mainGlobals "bool"=some none)
 (l1:FnL K "shared_by_two" kO)
 (l2:FnL K "shared" kP)
 (l3:FnL K "whole_sign" kJ)
 (l5:MtL K CC1 "against" "Ratio.against" lO)
 (l6:FnL K "poly" kQ)
 (l7:FnL K "degree" kT)
 (l8:FnL K "coefficient" kW)
 (l9:FnL K "taken" kL)
 (l10:FnL K "multiplied" kR)
 (l11:FnL K "slope" kM)
 (l12:FnL K "shrunk" jl)
 (l13:FnL K "value_parts" kK)
 (l14:FnL K "sign_at" kN)
 (l15:FnL K "changes" kX)
 (l16:FnL K "count" kU)
 (l17:FnL K "link_holds" jm)
 (l18:FnL K "holds_together" jo)
 (l19:FnL K "just_one" kS)
 (l20:FnL K "_law_cell_at" lK)
 (l21:FnL K "_law_within" kY)
 (l22:FnL K "_law_trim" k8)
 (l23:FnL K "_law_mul" lw)
 (l24:FnL K "_law_gcd" lC)
 (l25:FnL K "_law_shrunk" jq)
 (l26:FnL K "_law_plain" lu)
 (l27:FnL K "_law_factor_by" lD)
 (l28:FnL K "_law_shape" lg)
 (l29:FnL K "_law_sure" k9)
 (l30:FnL K "_law_side" ld)
 (l31:FnL K "_law_roots_of" lj)
 (l32:FnL K "_law_norm" lv)
 (l33:FnL K "_law_cube_shape" lG)
 (l34:FnL K "_law_cube_by" lH)
 (l35:FnL K "_law_way" kZ)
 (l36:FnL K "_law_divided" ju)
 (l37:FnL K "_law_shared" lf)
 (l38:FnL K "_law_paper" jr)
 (l39:FnL K "_law_more" ly)
 (l40:FnL K "_law_uses_by" jp)
 (l41:FnL K "_law_product_of" ll)
 (l42:FnL K "_law_amid" lM)
 (l43:FnL K "_law_end" lE)
 (l44:FnL K "_law_digits" lF)
 (l45:FnL K "_law_scaled" lh)
 (l46:FnL K "_law_change_link" lI)
 (l47:FnL K "_law_add" lN)
 (l48:FnL K "_law_lay_behind" jt)
 (l49:FnL K "_law_any_paper" lL)
 (l50:FnL K "_law_change" lJ)
 (l51:FnL K "law" jn)
 (hTr:l.prog.given.tree=none)
 : ∃fd:FuncData,(∀(s:Shared) (v:Value),BindsTo s fd ⟨[v],[]⟩ [("_law_script",v)])/\∀base:Heap,K.In base->base.Ns mainGlobals mg->base.NoSeer->FnOk l.prog w K mg base CX0 40 fa fd ["_law_script"] (je K):=by
 obtain⟨_,_,a1,F1⟩:=l1;obtain⟨_,_,a2,F2⟩:=l2;obtain⟨_,_,a3,F3⟩:=l3;obtain⟨_,_,a5,i5,F5⟩:=l5;obtain⟨_,_,a6,F6⟩:=l6;obtain⟨_,_,a7,F7⟩:=l7;obtain⟨_,_,a8,F8⟩:=l8;obtain⟨_,_,a9,F9⟩:=l9;obtain⟨_,_,a10,F10⟩:=l10;obtain⟨_,_,a11,F11⟩:=l11;obtain⟨_,_,a12,F12⟩:=l12;obtain⟨_,_,a13,F13⟩:=l13;obtain⟨_,_,a14,F14⟩:=l14;obtain⟨_,_,a15,F15⟩:=l15;obtain⟨_,_,a16,F16⟩:=l16;obtain⟨_,_,a17,F17⟩:=l17;obtain⟨_,_,a18,F18⟩:=l18;obtain⟨_,_,a19,F19⟩:=l19;obtain⟨_,_,a20,F20⟩:=l20;obtain⟨_,_,a21,F21⟩:=l21;obtain⟨_,_,a22,F22⟩:=l22;obtain⟨_,_,a23,F23⟩:=l23;obtain⟨_,_,a24,F24⟩:=l24;obtain⟨_,_,a25,F25⟩:=l25;obtain⟨_,_,a26,F26⟩:=l26;obtain⟨_,_,a27,F27⟩:=l27;obtain⟨_,_,a28,F28⟩:=l28;obtain⟨_,_,a29,F29⟩:=l29;obtain⟨_,_,a30,F30⟩:=l30;obtain⟨_,_,a31,F31⟩:=l31;obtain⟨_,_,a32,F32⟩:=l32;obtain⟨_,_,a33,F33⟩:=l33;obtain⟨_,_,a34,F34⟩:=l34;obtain⟨_,_,a35,F35⟩:=l35;obtain⟨_,_,a36,F36⟩:=l36;obtain⟨_,_,a37,F37⟩:=l37;obtain⟨_,_,a38,F38⟩:=l38;obtain⟨_,_,a39,F39⟩:=l39;obtain⟨_,_,a40,F40⟩:=l40;obtain⟨_,_,a41,F41⟩:=l41;obtain⟨_,_,a42,F42⟩:=l42;obtain⟨_,_,a43,F43⟩:=l43;obtain⟨_,_,a44,F44⟩:=l44;obtain⟨_,_,a45,F45⟩:=l45;obtain⟨_,_,a46,F46⟩:=l46;obtain⟨_,_,a47,F47⟩:=l47;obtain⟨_,_,a48,F48⟩:=l48;obtain⟨_,_,a49,F49⟩:=l49;obtain⟨_,_,a50,F50⟩:=l50;obtain⟨_,fdL,a51,F51⟩:=l51;cases hfa.symm.trans (PySem.W.mg_of X G a51);have T:Txt K mg:=⟨PySem.W.mg_none_of X G z0,PySem.W.mg_none_of X G z1,PySem.W.mg_none_of X G z2,PySem.W.mg_none_of X G z3,PySem.W.mg_none_of X G z4,PySem.W.mg_none_of X G z5,PySem.W.mg_none_of X G z6,PySem.W.mg_none_of X G z7,PySem.W.mg_none_of X G z8,PySem.W.mg_none_of X G z9,PySem.W.mg_none_of X G z10,PySem.W.mg_none_of X G z11⟩;have R1:RCI K mg CC1:=⟨⟨cc1.pg,cc1.hd,cc1.po,cc1.sa⟩,n1_top,n1_bottom,PySem.W.mg_of X G cc1.a,cc1.ha,cc1.hn,cc1.ht,cc1.hm⟩;have F4:=CK (st:=gz) l4 c4 k4;have b4:=FunD.bindsD (ps:=["self","top","bottom"]) (ds:=[]) (tup:=[.int 1 tk4_0]) 3 F4 t4 rfl rfl λ_ _ _ _ _ _=>us3 λ_ _ _=>⟨_,rfl,rfl⟩
 have bD4:=FunD.bindsD (ps:=["self","top","bottom"]) (ds:=[.int 1 tk4_0]) (tup:=[.int 1 tk4_0]) 2 F4 t4 rfl rfl λ_ _ _ _ _ _=>us2 λ_ _=>⟨_,rfl,rfl⟩
 obtain⟨_,_,_,_,_,_,_,_,_,e,_,_⟩:=F51.ex;refine⟨fdL,λs v=>.of_eq (by rw[e];rfl),λbase KB GB hNS=>?_⟩;have Z:Bx l.prog w base:=⟨rfl,rfl,rfl⟩;have C1:=cal Z X G a1 F1 (zp F1 T) λ_ _ _ _ _ _=>us2 λ_ _=>rfl
 have C2:=cal Z X G a2 F2 (zq F2 T C1) λ_ _ _ _ _ _=>us1 λ_=>rfl
 have C3:=cal Z X G a3 F3 (zj F3 T) λ_ _ _ _ _ _=>us1 λ_=>rfl
 have K1:KCal l.prog w K mg base 2 CC1 "Ratio" ["self","top","bottom"] (jf CC1) _ _ _ [.int 1]:=⟨Ai F4 T R1 C1,⟨cc1.mkr,a4,i4,cc1.kc⟩,PySem.W.mg_of X G cc1.a,b4,bD4,.cons ⟨_,rfl⟩ .nil⟩;have C5:=AJ Z a5 i5 F5 (Ah F5 T R1 C3) λ_ _ _ _ _ _=>us2 λ_ _=>rfl
 have C6:=cal Z X G a6 F6 (zr F6 T) λ_ _ _ _ _ _=>us1 λ_=>rfl
 have C7:=cal Z X G a7 F7 (zy F7 T) λ_ _ _ _ _ _=>us1 λ_=>rfl
 have C8:=cal Z X G a8 F8 (zA F8 T) λ_ _ _ _ _ _=>us2 λ_ _=>rfl
 have C9:=cal Z X G a9 F9 (zl F9 T C6 C8) λ_ _ _ _ _ _=>us2 λ_ _=>rfl
 have C10:=cal Z X G a10 F10 (zt F10 T) λ_ _ _ _ _ _=>us2 λ_ _=>rfl
 have C11:=cal Z X G a11 F11 (zm F11 T) λ_ _ _ _ _ _=>us1 λ_=>rfl
 have C12:=cal Z X G a12 F12 (zo F12 T hNS hTr C2) λ_ _ _ _ _ _=>us1 λ_=>rfl
 have C13:=cal Z X G a13 F13 (zk F13 T) λ_ _ _ _ _ _=>us3 λ_ _ _=>rfl
 have C14:=cal Z X G a14 F14 (zn F14 T R1 C13 C3) λ_ _ _ _ _ _=>us2 λ_ _=>rfl
 have C15:=cal Z X G a15 F15 (zB F15 T R1 C14) λ_ _ _ _ _ _=>us2 λ_ _=>rfl
 have C16:=cal Z X G a16 F16 (zz F16 T R1 C15) λ_ _ _ _ _ _=>us3 λ_ _ _=>rfl
 have C17:=cal Z X G a17 F17 (zu F17 T C10 C9) λ_ _ _ _ _ _=>us3 λ_ _ _=>rfl
 have C18:=cal Z X G a18 F18 (zx F18 T C12 C11 C7 C17) λ_ _ _ _ _ _=>us3 λ_ _ _=>rfl
 have C19:=cal Z X G a19 F19 (zw F19 T R1 C18 C5 C16) λ_ _ _ _ _ _=>us4 λ_ _ _ _=>rfl
 have C20:=cal Z X G a20 F20 (Ad F20 T) λ_ _ _ _ _ _=>us2 λ_ _=>rfl
 have C21:=cal Z X G a21 F21 (zC F21 T) λ_ _ _ _ _ _=>us2 λ_ _=>rfl
 have C22:=cal Z X G a22 F22 (zF F22 T) λ_ _ _ _ _ _=>us1 λ_=>rfl
 have C23:=cal Z X G a23 F23 (zR F23 T) λ_ _ _ _ _ _=>us2 λ_ _=>rfl
 have C24:=cal Z X G a24 F24 (zU F24 T) λ_ _ _ _ _ _=>us2 λ_ _=>rfl
 have C25:=cal Z X G a25 F25 (zI F25 T hNS hTr C24) λ_ _ _ _ _ _=>us1 λ_=>rfl
 have C26:=cal Z X G a26 F26 (zO F26 T C25) λ_ _ _ _ _ _=>us1 λ_=>rfl
 have C27:=cal Z X G a27 F27 (zV F27 T) λ_ _ _ _ _ _=>us2 λ_ _=>rfl
 have C28:=cal Z X G a28 F28 (zK F28 T C26) λ_ _ _ _ _ _=>us1 λ_=>rfl
 have C29:=cal Z X G a29 F29 (zG F29 T) λ_ _ _ _ _ _=>us2 λ_ _=>rfl
 have C30:=cal Z X G a30 F30 (zH F30 T C29) λ_ _ _ _ _ _=>us3 λ_ _ _=>rfl
 have C31:=cal Z X G a31 F31 (zM F31 T) λ_ _ _ _ _ _=>us1 λ_=>rfl
 have C32:=cal Z X G a32 F32 (zQ F32 T) λ_ _ _ _ _ _=>us4 λ_ _ _ _=>rfl
 have C33:=cal Z X G a33 F33 (zZ F33 T C32) λ_ _ _ _ _ _=>us1 λ_=>rfl
 have C34:=cal Z X G a34 F34 (Aa F34 T C21) λ_ _ _ _ _ _=>us3 λ_ _ _=>rfl
 have C35:=cal Z X G a35 F35 (zD F35 T C32 C30) λ_ _ _ _ _ _=>us3 λ_ _ _=>rfl
 have C36:=cal Z X G a36 F36 (zX F36 T hNS hTr C22) λ_ _ _ _ _ _=>us2 λ_ _=>rfl
 have C37:=cal Z X G a37 F37 (zJ F37 T C24) λ_ _ _ _ _ _=>us1 λ_=>rfl
 have C38:=cal Z X G a38 F38 (zP F38 T hNS hTr C25 C36 C37) λ_ _ _ _ _ _=>us1 λ_=>rfl
 have C39:=cal Z X G a39 F39 (zS F39 T C22) λ_ _ _ _ _ _=>us3 λ_ _ _=>rfl
 have C40:=cal Z X G a40 F40 (zE F40 T C27 C28) λ_ _ _ _ _ _=>us2 λ_ _=>rfl
 have C41:=cal Z X G a41 F41 (zN F41 T C23 C28) λ_ _ _ _ _ _=>us1 λ_=>rfl
 have C42:=cal Z X G a42 F42 (Af F42 T C35) λ_ _ _ _ _ _=>us3 λ_ _ _=>rfl
 have C43:=cal Z X G a43 F43 (zW F43 T C21) λ_ _ _ _ _ _=>us2 λ_ _=>rfl
 have C44:=cal Z X G a44 F44 (zY F44 T C22) λ_ _ _ _ _ _=>us3 λ_ _ _=>rfl
 have C45:=cal Z X G a45 F45 (zL F45 T C23) λ_ _ _ _ _ _=>us4 λ_ _ _ _=>rfl
 have C46:=cal Z X G a46 F46 (Ab F46 T C39 C22) λ_ _ _ _ _ _=>us5 λ_ _ _ _ _=>rfl
 have C47:=cal Z X G a47 F47 (Ag F47 T C20 C22) λ_ _ _ _ _ _=>us2 λ_ _=>rfl
 have C48:=cal Z X G a48 F48 (zT F48 T hNS hTr C39 C22 C23 C47) λ_ _ _ _ _ _=>us4 λ_ _ _ _=>rfl
 have C49:=cal Z X G a49 F49 (Ae F49 T C44) λ_ _ _ _ _ _=>us3 λ_ _ _=>rfl
 have C50:=cal Z X G a50 F50 (Ac F50 T C39 C46 C48) λ_ _ _ _ _ _=>us3 λ_ _ _=>rfl
 exact zv F51 T R1 C34 C20 C40 C41 C31 C23 C33 C38 C45 C48 C50 C49 C43 C42 C19 K1
theorem walk{l:PySem.W.OpenLaw}{q:Program}{loose:List Str}{XP:(Str->Option Value)->Heap->Prop}{YP:World->Heap->Prop}{d:DefRec}{K:Params->PySem.W.Frag}(hi:PyProof.Rows.importsNone q=true)(hn:l.most=some 63)(hdf:d.params.defaults=[])
 (hY:∀(w:World) (h:Heap),YP w h->(K w.params).In h)
 (F:∀(w:World) (mg:Str->Option Value) (fa:Addr) (h:Heap),(K w.params).In h->h.Ns mainGlobals mg->mg d.name=some (.ref fa) ->
   ∃fd:FuncData,(∀(s:Shared) (u:Value),BindsTo s fd ⟨[u],[]⟩ [("_law_script",u)])/\∀base:Heap,(K w.params).In base->base.Ns mainGlobals mg->base.NoSeer->FnOk l.prog w (K w.params) mg base CX0 40 fa fd ["_law_script"] (je (K w.params))) :
 PySem.W.WalkO q loose XP YP l.row.toRowW d [] (λf vs=>PySem.call f vs) :=
 L2.walk_ofS (n:=63) (k:=40) (x:="_law_script") (CX:=λ_=>CX0) (sp:=λw=>je (K w.params)) hi hn (by decide) hdf ⟨rfl,by decide,by decide⟩ hY F (λ_ _ a ns hl _ hS=>⟨a,ns,rfl,hS,hl,λ_=>rfl⟩) λ_ _ _ _ _ z=>z
section
end
end R97
open PySem PySem.W PyProof.Rows
set_option maxRecDepth 100000 in
set_option maxHeartbeats 0 in
theorem PySem.Challenge.cw_rootspan_k97_whole_no_false_count_holds : PySem.Challenge.rw_rootspan_k97_whole_no_false_count.Holds := by
 w_on;o_law;k_head;(case hw=>w_witness2)
 k_fill
 refine R97.walk (l:=PySem.Challenge.rw_rootspan_k97_whole_no_false_count) (by decide +kernel) rfl rfl (λw h Y=>PySem.W.kIn_of Y) ?F
 case F =>
  intro w mg fa h KX G hmg
  refine' R97.all_mk KX G hmg ?cc1 ?n1_top ?n1_bottom ?a4 ?i4 ?l4 ?c4 ?k4 ?t4 ?_ ?_ ?_ ?_ ?_ ?_ ?_ ?_ ?_ ?_ ?_ ?_ ?_ ?_ ?_ ?_ ?_ ?_ ?_ ?_ ?_ ?_ ?_ ?_ ?_ ?_ ?_ ?_ ?_ ?_ ?_ ?_ ?_ ?_ ?_ ?_ ?_ ?_ ?_ ?_ ?_ ?_ ?_ ?_ ?_ ?_ ?_ ?_ ?_ ?_ ?_ ?_ ?_ ?_ ?_ ?_ ?_ ?_ ?_ ?_ ?_ ?_ rfl
  (case cc1=>apply R97.ClL.mk<;>k_is)
  (case n1_top=>k_is)
  (case n1_bottom=>k_is)
  (case a4=>k_is)
  (case i4=>k_is)
  (case l4=>k_is)
  (case c4=>k_is)
  (case k4=>k_is)
  (case t4=>k_is)
  all_goals first | (apply R97.fnL<;>k_is) | (apply R97.mtL<;>k_is) |k_is
