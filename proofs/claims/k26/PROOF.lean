import PyProof.Rows.All
import Wide.All
import OpenK.AllK
import Wide.FinOn
import Lean
import PyProof.EqAt
import PyProof.EqKinds
import PyProof.TupleCall
import PySem.Challenge.RW_rootspan_k26_whole_cells
set_option Elab.async false
set_option linter.all false
set_option maxRecDepth 100000
local macro_rules | `(tactic|omega)=>`(tactic|first |lia |omega (splitDisjunctions:=true))
noncomputable section
namespace Al
def Fc:=@List.length_map
def Fd:=@List.length_append
def Fe:=@List.mem_map
def Ff:=@List.length_cons
def Fg:=@Nat.le_refl
def Fh:=@List.length_pos_iff
def Fi:=@List.mem_cons_of_mem
def Fj:=@Nat.zero_le
def Fk:=@List.map_append
def Fl:=@List.mem_cons_self
def Fm:=@List.nil_append
def Fn:=@Rat.le_of_lt
def Fo:=@List.map_cons
def Fp:=@Int.mul_zero
def Fq:=@List.mem_append
def Fs:=@Int.natAbs_mul
def Ft:=@Int.mul_ne_zero
def Fu:=@Nat.le_trans
def Fv:=@List.mem_singleton
def Fw:=@Int.pow_succ
def Fx:=@Rat.mul_nonneg
def Fy:=@List.append_assoc
def Fz:=@List.map_map
def FA:=@List.cons_append
def FB:=@Int.le_of_lt
def FC:=@List.mem_cons
def FD:=@Int.mul_pos
def FE:=@List.map_congr_left
def FF:=@Int.one_mul
def FG:=@Rat.div_mul_cancel
def FH:=@Rat.mul_le_mul_of_nonneg_left
def FI:=@List.length_nil
def FJ:=@Rat.intCast_mul
def FK:=@Rat.intCast_lt_intCast
def FL:=@Nat.ne_of_lt
def FM:=@Int.mul_assoc
def FN:=@Nat.lt_of_lt_of_le
def FO:=@Int.mul_comm
def FP:=@Rat.mul_le_mul_of_nonneg_right
def FQ:=@List.take_length
def FR:=@List.size_toArray
def FS:=@Rat.le_refl
def FT:=@Int.add_zero
def FU:=@Int.natAbs_natCast
def FV:=@Rat.pow_succ
def FW:=@List.length_take
def FX:=@List.mem_append_right
def FY:=@Int.zero_mul
def FZ:=@Int.mul_nonneg
def Ga:=@Nat.mul_le_mul_right
def Gb:=@Int.pow_pos
def Gc:=@Int.ne_of_gt
def Gd:=@List.length_eq_zero_iff
def Ge:=@Nat.lt_irrefl
def Gf:=@Nat.lt_of_le_of_lt
def Gg:=@Int.pow_zero
def Gh:=@Int.mul_eq_zero
def Gi:=@List.mem_range
def Gj:=@List.take_add_one
def Gk:=@List.length_range
def Gm:=@Int.natAbs_pos
def Gn:=@Rat.mul_pos
def Go:=@Rat.le_total
def Gp:=@Rat.not_lt
def Gq:=@List.mem_append_left
def Gr:=@List.length_set
def Gs:=@List.getElem_mem
def Gu:=@Nat.mul_le_mul_left
def Gv:=@Int.mul_le_mul_of_nonneg_right
def Gw:=@Rat.pow_zero
def Gx:=@Nat.min_le_left
def Gy:=@List.append_nil
def Gz:=@List.map_nil
def GA:=@Nat.add_comm
def GC:=@Nat.pow_succ
def GD:=@List.map_id
def GF:=@Rat.mul_eq_zero
def GG:=@Rat.intCast_le_intCast
def GH:=@Rat.pow_pos
def GI:=@Nat.lt_or_ge
def GJ:=@Nat.le_of_eq
def GK:=@Nat.lt_succ_self
def GL:=@List.length_replicate
def GM:=@Int.le_refl
def GN:=@Int.zero_add
def GO:=@Nat.sub_zero
def GP:=@Nat.zero_add
def GQ:=@Int.natAbs_pow
def GR:=@Nat.mul_le_mul
def GS:=@List.eq_nil_of_length_eq_zero
def GU:=@Bool.false_ne_true
def GV:=@List.replicate_succ
def GW:=@Nat.le_of_not_lt
def GX:=@List.lookup_cons
def GY:=@Nat.pow_pos
def GZ:=@Nat.sub_self
def G0:=@Rat.le_trans
def G1:=@Rat.mul_lt_mul_of_pos_right
def G3:=@Rat.intCast_neg
def G4:=@Int.pow_ne_zero
def G5:=@Nat.le_of_lt
def G6:=@Nat.succ_mul
def G7:=@Nat.gcd_dvd_left
def G8:=@Int.ofNat_dvd_left
def G9:=@Int.pow_add
def Ha:=@Int.eq_of_mul_eq_mul_left
def Hb:=@Rat.intCast_add
def Hc:=@Rat.intCast_inj
def Hd:=@List.sum_cons
def He:=@List.append_of_mem
def Hf:=@List.pairwise_cons
def Hg:=@Rat.intCast_pow
def Hh:=@Rat.mul_lt_mul_of_pos_left
def Hi:=@List.length_reverse
def Hj:=@List.mem_of_mem_take
def Hk:=@Nat.pow_lt_pow_iff_right
def Hl:=@List.nodup_cons
def Hm:=@List.length_drop
def Hn:=@Nat.mul_comm
def Ho:=@Nat.gcd_dvd_right
def Hq:=@Int.natCast_mul
def Hr:=@Int.natCast_nonneg
def Hs:=@Nat.dvd_trans
def Ht:=@Rat.natCast_le_natCast
def Hu:=@Rat.natCast_add
def Hv:=@Int.natCast_pow
def Hw:=@List.sum_append
def Hx:=@List.drop_zero
def Hy:=@List.flatten_cons
def Hz:=@List.getElem_of_mem
def HA:=@List.reverse_append
def HB:=@Int.eq_ofNat_of_zero_le
def HC:=@List.length_eq_one_iff
def HL:=@Int.mul_lt_mul_of_pos_right
def HM:=@Int.lt_of_mul_lt_mul_right
def HN:=@List.pairwise_map
def HP:=@List.pairwise_append
def HQ:=@Nat.eq_zero_or_pos
def HR:=@List.range_succ
def HS:=@Nat.not_lt_zero
def HU:=@Nat.add_sub_cancel_left
def HV:=@Nat.le_of_mul_le_mul_left
def HW:=@Rat.intCast_natCast
def HX:=@Int.mul_nonneg_of_nonpos_of_nonpos
def HY:=@Int.mul_neg_of_neg_of_pos
def HZ:=@Int.mul_lt_mul_of_pos_left
def Ia:=@Int.eq_of_mul_eq_mul_right
end Al
open Al
namespace PySem.W.Fast
def tw1484037338760952956:=()
def tw1093840789244418078:=()
def tw4259768202986403019:=()
def tw5578994262828555348:=()
def tw14095265452872807267:=()
def tw5525874591096828919:=()
def tw4470393847479910165:=()
def tw3840076025937586029:=()
def tw8067450801489440182:=()
def tw11632298156608192053:=()
def tw15643244562483113869:=()
def tw9784884676001932700:=()
def tw17115277268359841194:=()
def tw7371177031486595064:=()
def tw4213013764033312318:=()
def tw629714554372257683:=()
def tw6705467776782287067:=()
def tw5896670228667724786:=()
def tw13761955532462276119:=()
def tw1904432595538772386:=()
def tw6462219554293355696:=()
def tw3966501820932341216:=()
def tw7134789332051353808:=()
def tw10475231727281819579:=()
def tw2579919040276677555:=()
def tw816953650740373748:=()
def tw10154725381654445619:=()
def tw9027282733561234227:=()
def tw13786957786127941247:=()
def tw12225616920023460412:=()
def tw10146637115106544928:=()
def tw10500679989552510467:=()
def tw14371434651595363422:=()
def tw10521986714048114231:=()
def tw17720181879850514371:=()
def tw8285909952641703998:=()
def tw3231673964475560228:=()
def tw6805011319334029182:=()
def tw777390894829557050:=()
def tw5217557206679639463:=()
def tw8433416596146335109:=()
def tw10417066640578186698:=()
def tw15514638922878847611:=()
def tw5125313612802352181:=()
def tw11460684906376491935:=()
def tw4285261271523534812:=()
def tw9037763712643636324:=()
def tw13369852210029066300:=()
def tw4859006610655820481:=()
def tw17861836782023806411:=()
def tw4040672317624230961:=()
def tw4951873871840162206:=()
def tw4181779890932649866:=()
def tw5010810364186857190:=()
def tw12066507482801547316:=()
def tw13669989264844642301:=()
def tw11760334767565026805:=()
def tw12261130583611451188:=()
def tw11480242771586379093:=()
def tw9678190152469122988:=()
def tw1116080959818948518:=()
def tw14625954579454932489:=()
def tw13905279057065039844:=()
def tw7951405573855144396:=()
def tw6821565240969450389:=()
def tw9822649281268122770:=()
def tw9390794855413377962:=()
def tw51285828406496434:=()
def tw65722640085923523:=()
def tw16439642764892445179:=()
def tw16902042697580688168:=()
def tw2844147519350611691:=()
def tw1727591550700145778:=()
def tw210628915779144250:=()
def tw16265566251859901125:=()
def tw17546280238823897939:=()
def tw9156285344224805555:=()
def tw7857620119932354986:=()
def tw950526302059420507:=()
def tw8843643195535652474:=()
def tw12565172175332424602:=()
def tw3371348900486940314:=()
def tw13431849302670189246:=()
def tw7120884246582603734:=()
def tw5500798239220612066:=()
def tw7828244751968356863:=()
def tw2877165554571188767:=()
def tw17282349472163034208:=()
def tw12107262275861866728:=()
def tw9829123702608963639:=()
def tw17958810759861438506:=()
def tw2033799025547130451:=()
def tw6376192579238747219:=()
def tw3728977612601424797:=()
def tw4065222218687575667:=()
def tw1056562156464645535:=()
def tw6261170700299259034:=()
def tw11279559962744368874:=()
def tw3900221676416213922:=()
def tw11194141014945133619:=()
def tw17440517145670998703:=()
def tw18002709311654281070:=()
def tw3675777393425655035:=()
def tw76573012258847499:=()
def tw6197265801177636210:=()
def tw4631979505120390509:=()
def tw15041531906566202979:=()
def tw10999598909737568674:=()
def tw4945949211453752394:=()
def tw9949831163268024354:=()
def tw17257267382051723754:=()
def tw5917352596554041812:=()
def tw16890344619536901294:=()
def tw14288203964651327741:=()
def tw369682281830239719:=()
def tw247697908047290117:=()
def tw8108219657895309498:=()
def tw1805834576519698213:=()
def tw11608802671190887589:=()
def tw14434799546867610157:=()
def tw2153145027460482572:=()
def tw6445104530490775766:=()
def tw1404058172365283487:=()
def tw17334964340846382539:=()
def tw16420896749144098126:=()
def tw10248451188192247843:=()
def tw5579904062210584098:=()
def tw14256557101976641177:=()
def tw12648914956106505151:=()
def tw10803389631183998023:=()
def tw5495139136910163070:=()
def tw13617232382572730271:=()
def tw5966142370343794963:=()
def tw4888716214076912735:=()
def tw15999354940230529074:=()
def tw8986660653164579587:=()
def tw10450881558364546781:=()
def tw278375542909491317:=()
def tw14338806543024804877:=()
def tw1248421384676372399:=()
def tw12254463659395028661:=()
def tw2911691040396876371:=()
def tw6433098449287183609:=()
def tw4720483379930818067:=()
def tw457718742078194951:=()
def tw16490128405303158215:=()
def tw2864102608835460245:=()
def tw2561799957045233387:=()
def tw12780517027246770112:=()
def tw10817085082798772932:=()
def tw12572375833645514602:=()
def tw4477011303375640051:=()
def tw13275599067923381101:=()
def tw7755245656651228176:=()
def tw12238804632870683612:=()
def tw13733270035193777431:=()
def tw3432486139619595242:=()
def tw17903655946738517794:=()
def tw14604166895110089824:=()
def tw16653637288184576346:=()
def tw4820722617683222593:=()
def tw12541143138855590533:=()
def tw7480009441978731628:=()
def tw7181245097208845499:=()
def tw4905395069455359851:=()
def tw12061975576178304072:=()
def tw7098550481484452287:=()
def tw9321031667308521908:=()
def tw5111865190987975076:=()
def tw10708505901003364320:=()
def tw16586203479330436963:=()
def tw483689374334447645:=()
def tw6641861408366330224:=()
def tw4644682922233788418:=()
def tw17382177440058079521:=()
def tw11630677070804197322:=()
end PySem.W.Fast
namespace L2
open PySem PySem.Spec PyProof.Rows
abbrev Key:=Sum Int Str
noncomputable def ul:Key->Value->Bool
 |.inl k,v=>Value.isInt k v
 |.inr x,v=>Value.isStrOf x v
noncomputable def Bf(w:World):Key->Int
 |.inl k=>hashInt k
 |.inr x=>hashStr w x
theorem eH:∀{k:Key} {v:Value},ul k v=true->(∃i t,k=Sum.inl i/\v=Value.int i t)\/(∃x t,k=Sum.inr x/\v=Value.str x t)
 |.inl i,v,h=>by obtain⟨t,e⟩:=Value.isInt_shape (k:=i) (v:=v) h;exact .inl ⟨i,t,rfl,e⟩
 |.inr x,v,h=>by obtain⟨t,e⟩:=Value.isStrOf_shape (x:=x) (v:=v) h;exact .inr ⟨x,t,rfl,e⟩
theorem Be(a b:Int):decide ((Sum.inl a:Key)=Sum.inl b)=(a == b):=by
 by_cases e:a=b
 ·subst e;simp
 ·have h:¬(Sum.inl a:Key)=Sum.inl b:=λq=>e (Sum.inl.inj q)
  rw[decide_eq_false h];exact(beq_eq_false_iff_ne.mpr e).symm
theorem Ba(a b:Str):decide ((Sum.inr a:Key)=Sum.inr b)=decide (a=b):=by
 by_cases e:a=b
 ·subst e;simp
 ·have h:¬(Sum.inr a:Key)=Sum.inr b:=λq=>e (Sum.inr.inj q)
  rw[decide_eq_false h,decide_eq_false e]
theorem Bc(a:Int)(b:Str):decide ((Sum.inl a:Key)=Sum.inr b)=false:=decide_eq_false (λq=>nomatch q)
theorem Bb(a:Str)(b:Int):decide ((Sum.inr a:Key)=Sum.inl b)=false:=decide_eq_false (λq=>nomatch q)
noncomputable def tY(prog:Program)(w:World):PySem.KeyKind prog w Key where
 is:=ul
 hash:=Bf w
 inj:=λv a b ha hb=>by
  rcases eH ha with⟨i,t,rfl,rfl⟩ |⟨x,t,rfl,rfl⟩
  ·rcases eH hb with⟨j,u,rfl,e⟩ |⟨y,u,rfl,e⟩
   ·injection e with e1 _;rw[e1]
   ·exact nomatch e
  ·rcases eH hb with⟨j,u,rfl,e⟩ |⟨y,u,rfl,e⟩
   ·exact nomatch e
   ·injection e with e1 _;rw[e1]
 byValue:=λk v h=>by rcases eH h with⟨i,t,rfl,rfl⟩ |⟨x,t,rfl,rfl⟩<;>rfl
 pyHash:=λhv h=>by
  rcases eH hv with⟨i,t,rfl,rfl⟩ |⟨x,t,rfl,rfl⟩
  ·exact wpAny_pyHash_int h
  ·exact wpAny_pyHash_str h
 eqBool:=λhu hv h=>by
  rcases eH hu with⟨i,t,rfl,rfl⟩ |⟨x,t,rfl,rfl⟩
  ·rcases eH hv with⟨j,u,rfl,rfl⟩ |⟨y,u,rfl,rfl⟩
   ·rw[Be]at h;exact wpAny_eqBool_int h
   ·rw[Bc]at h;exact SeqAt.EqAt.int_str i t y u _ _ _ _ h
  ·rcases eH hv with⟨j,u,rfl,rfl⟩ |⟨y,u,rfl,rfl⟩
   ·rw[Bb]at h;exact SeqAt.EqAt.str_int x t j u _ _ _ _ h
   ·rw[Ba]at h;exact wpAny_eqBool_str h
 «strs»:=λk x t v h=>by
  rcases eH h with⟨i,u,rfl,e⟩ |⟨y,u,rfl,e⟩
  ·exact nomatch e
  ·injection e with e1 _
   subst e1;cases v<;>rfl
inductive V where
 |non |bl (b:Bool) |int (i:Int) |str (x:Str) |byt (b:Array UInt8) |flt (b:UInt64) |ref (a:Addr) |ty (n:String)
 deriving DecidableEq
noncomputable def RelV:V->Value->Prop
 |.non,u=>u=Value.none
 |.bl b,u=>u=Value.bool b
 |.int i,u=>∃t,u=Value.int i t
 |.str x,u=>∃t,u=Value.str x t
 |.byt b,u=>∃t,u=Value.bytes b t
 |.flt b,u=>∃t,u=Value.float b t
 |.ref a,u=>u=Value.ref a
 |.ty n,u=>u=Value.type n
abbrev Vals:List V->List Value->Prop:=Paired RelV
theorem Vals.length{xs:List V}{us:List Value}(r:Vals xs us):xs.length=us.length:=Paired.length r
theorem Vals.get:∀{xs:List V} {us:List Value} {i:Nat} {x:V},Vals xs us->xs[i]?=some x->∃u,us[i]?=some u/\RelV x u
 |_,_,_,_,.nil,e=>by simp at e
 |_,_,0,_,.cons r _,e=>by simp at e;subst e;exact⟨_,rfl,r⟩
 |_,_,i+1,x,.cons _ t,e=>by obtain⟨u,h1,h2⟩:=Vals.get (i:=i) (x:=x) t (by simpa using e);exact⟨u,by simpa using h1,h2⟩
theorem Vals.set{x:V}{u:Value}(r:RelV x u):∀{xs:List V} {us:List Value} (i:Nat),Vals xs us->Vals (xs.set i x) (us.set i u)
 |_,_,_,.nil=>.nil
 |_,_,0,.cons _ t=>.cons r t
 |_,_,i+1,.cons q t=>.cons q (Vals.set r i t)
theorem Vals.append:∀{xs ys:List V} {us ws:List Value},Vals xs us->Vals ys ws->Vals (xs++ys) (us++ws)
 |_,_,_,_,.nil,s=>s
 |_,_,_,_,.cons r t,s=>.cons r (Vals.append t s)
theorem Vals.take:∀{xs:List V} {us:List Value} (n:Nat),Vals xs us->Vals (xs.take n) (us.take n)
 |_,_,0,_=>.nil
 |_,_,_+1,.nil=>.nil
 |_,_,n+1,.cons r t=>.cons r (Vals.take n t)
theorem Vals.drop:∀{xs:List V} {us:List Value} (n:Nat),Vals xs us->Vals (xs.drop n) (us.drop n)
 |_,_,0,r=>r
 |_,_,_+1,.nil=>.nil
 |_,_,n+1,.cons _ t=>Vals.drop n t
noncomputable def RelO:Option V->Option Value->Prop
 |some v,some u=>RelV v u
 |none,none=>True
 |_,_=>False
noncomputable def KV{κ:Type}:List (κ×V)->List (κ×Value)->Prop:=Paired λ(p:κ×V) (q:κ×Value)=>p.1=q.1/\RelV p.2 q.2
noncomputable def kV:Key->V
 |.inl i=>.int i
 |.inr x=>.str x
inductive HO where
 |lst (xs:List V)
 |tup (xs:List V)
 |dK (kvs:List (Key×V)) |dT (kvs:List (List Key×V))
 |set (S:Int->Bool) (n:Nat)
 |ins (C dx:Addr) (fs:List (Str×V))
 |own (x:Addr)
 |xd (fs:List (Str×V))
 |met (f x:Addr)
 |rng (lo hi:Int)
 |frz (o:Obj) (u:HO)
 |tbl (ps:Array Value)
 |ext (φ:Heap->Prop)
abbrev Hp:=Addr->Option HO
noncomputable def upd(H:Hp)(a:Addr)(o:HO):Hp:=λb=>if b=a then some o else H b
theorem aq{H:Hp}{a:Addr}{o:HO}:upd H a o a=some o:=by unfold upd;rw[if_pos rfl]
theorem upd_ne{H:Hp}{a b:Addr}{o:HO}(h:b≠a):upd H a o b=H b:=by unfold upd;rw[if_neg h]
theorem pM{H:Hp}{a:Addr}{o u:HO}:upd (upd H a o) a u=upd H a u:=by funext b;unfold upd;split<;>rfl
theorem aN{H:Hp}{a b:Addr}{o:HO}(h:H a=some o)(h':H b=none):a≠b:=by intro e;subst e;rw[h]at h';cases h'
section
variable (P:Program)(w:World)
noncomputable def ObjOk(H:Hp)(h:Heap)(a:Addr):HO->Prop
 |.lst xs=>xs.length<=sizeLine/\∃(its:List Value) (n:Nat),Vals xs its/\h.get? a=some { cls:=.type "list",data:=.seq its.toArray n }
 |.tup xs=>xs.length<=sizeLine/\∃its:List Value,Vals xs its/\IsTup h a its.toArray
 |.dK kvs=>kvs.length<=sizeLine/\(a == sysModules)=false/\∃vs,KV kvs vs/\h.DictOf (tY P w) a vs
 |.dT kvs=>kvs.length<=sizeLine/\(a == sysModules)=false/\∃xs:List (List Key×Addr×Value),
  Paired (λ(p:List Key×V) (q:List Key×Addr×Value)=>p.1=q.1/\H q.2.1=some (.tup (p.1.map kV))/\RelV p.2 q.2.2) kvs xs /\
  ∃o es ep,h.get? a=some o/\o.ExactDict/\o.data=.dict es ep/\es.toList=xs.map (entryOfKey (tupleKind (tY P w)))/\(xs.map (·.1)).Nodup
 |.set S n=>h.SetOf (intKind P w) a S n
 |.ins C dx fs=>H dx=some (.own a)/\fs.length<=1000/\dx≠a/\h.get? a=some (PySem.W.instObj C dx) /\
  ∃mA,h.Ns1 dx mA/\(∀f,RelO (fs.lookup f) (mA f))/\PySem.Within mA (fs.map (·.1))
 |.own _=>∃o,h.get? a=some o
 |.xd fs=>∃mA,h.Ns1 a mA/\∀f,RelO (fs.lookup f) (mA f)
 |.rng lo hi=>∃t u v,h.get? a=some { cls:=.type "range",data:=.fields #[.int lo t,.int hi u,.int 1 v] }
 |.frz o u=>h.get? a=some o/\ObjOk H h a u
 |.tbl ps=>h.get? a=some { cls:=.none,data:=.fields ps }
 |.met f x=>h.get? a=some (PySem.W.methodObj (.ref f) (.ref x))
 |.ext φ=>φ h/\(∃o,h.get? a=some o)/\∀h1 h2:Heap,φ h1->(∀o,h1.get? a=some o->h2.get? a=some o)->φ h2
def HOk(H:Hp)(h:Heap):Prop:=∀a o,H a=some o->ObjOk P w H h a o
end
section
variable {P:Program}{w:World}{H H':Hp}{h h':Heap}{a:Addr}{o:HO}
theorem ObjOk.lt(x:ObjOk P w H h a o):a<h.objs.size:=by
 cases o with
 |lst xs=>obtain⟨_,_,_,_,e⟩:=x;exact Heap.lt_size e
 |tup xs=>obtain⟨_,_,_,p⟩:=x;exact p.lt
 |dK kvs=>obtain⟨_,_,_,_,o,_,_,e,_⟩:=x;exact Heap.lt_size e
 |dT kvs=>obtain⟨_,_,_,_,o,_,_,e,_⟩:=x;exact Heap.lt_size e
 |set S n=>obtain⟨o,_,_,_,e,_⟩:=x;exact Heap.lt_size e
 |ins C dx fs=>obtain⟨_,_,_,e,_⟩:=x;exact Heap.lt_size e
 |own y=>obtain⟨_,e⟩:=x;exact Heap.lt_size e
 |xd fs=>obtain⟨_,⟨_,_,_,e,_⟩,_⟩:=x;exact Heap.lt_size e
 |rng lo hi=>obtain⟨_,_,_,e⟩:=x;exact Heap.lt_size e
 |frz ob u=>obtain⟨e,_⟩:=x;exact Heap.lt_size e
 |tbl ps=>exact Heap.lt_size (show h.get? a=some _ from x)
 |met f y=>exact Heap.lt_size (show h.get? a=some _ from x)
 |ext φ=>obtain⟨_,⟨_,e⟩,_⟩:=x;exact Heap.lt_size e
theorem Paired.mapP{α β:Type}{F G:α->β->Prop}:∀{l₁:List α} {l₂:List β},Paired F l₁ l₂->(∀a b,F a b->G a b)->Paired G l₁ l₂
 |_,_,.nil,_=>.nil
 |_,_,.cons r t,f=>.cons (f _ _ r) (Paired.mapP t f)
theorem ObjOk.stay(x:ObjOk P w H h a o)(k:∀b u,(b=a\/H b=some (.own a))->h.get? b=some u->h'.get? b=some u)
 (ho:∀b,H b=some (.own a)->H' b=some (.own a)) (ht:∀b xs,H b=some (.tup xs)->H' b=some (.tup xs)):ObjOk P w H' h' a o:=by
 induction o with
 |lst xs=>obtain⟨z,its,n,r,e⟩:=x;exact⟨z,its,n,r,k _ _ (.inl rfl) e⟩
 |tup xs=>obtain⟨z,its,r,ob,e,c⟩:=x;exact⟨z,its,r,ob,k _ _ (.inl rfl) e,c⟩
 |dK kvs=>obtain⟨z,y,vs,r,ob,es,ep,e,c⟩:=x;exact⟨z,y,vs,r,ob,es,ep,k _ _ (.inl rfl) e,c⟩
 |dT kvs =>obtain⟨z,y,xs,r,ob,es,ep,e,c⟩:=x;exact⟨z,y,xs,Paired.mapP r λp q z=>⟨z.1,ht _ _ z.2.1,z.2.2⟩,ob,es,ep,k _ _ (.inl rfl) e,c⟩
 |set S n=>obtain⟨ob,es,ep,t,e,c⟩:=x;exact⟨ob,es,ep,t,k _ _ (.inl rfl) e,c⟩
 |ins C dx fs =>obtain⟨d,z,ne,e,mA,⟨od,es,ep,e2,c⟩,r⟩:=x;exact⟨ho _ d,z,ne,k _ _ (.inl rfl) e,mA,⟨od,es,ep,k _ _ (.inr d) e2,c⟩,r⟩
 |own y=>obtain⟨ob,e⟩:=x;exact⟨ob,k _ _ (.inl rfl) e⟩
 |xd fs=>obtain⟨mA,⟨od,es,ep,e,c⟩,r⟩:=x;exact⟨mA,⟨od,es,ep,k _ _ (.inl rfl) e,c⟩,r⟩
 |rng lo hi=>obtain⟨t,u,v,e⟩:=x;exact⟨t,u,v,k _ _ (.inl rfl) e⟩
 |frz ob u ih=>obtain⟨e,q⟩:=x;exact⟨k _ _ (.inl rfl) e,ih q⟩
 |tbl ps =>have e:h.get? a=some { cls:=.none,data:=.fields ps }:=x;show h'.get? a=some { cls:=.none,data:=.fields ps };exact k a _ (.inl rfl) e
 |met f y =>have e:h.get? a=some (PySem.W.methodObj (.ref f) (.ref y)):=x;show h'.get? a=some (PySem.W.methodObj (.ref f) (.ref y));exact k a _ (.inl rfl) e
 |ext φ=>obtain⟨p,⟨o,e⟩,st⟩:=x;exact⟨st _ _ p λo q=>k _ _ (.inl rfl) q,⟨o,k _ _ (.inl rfl) e⟩,st⟩
theorem HOk.lt(x:HOk P w H h)(e:H a=some o):a<h.objs.size:=(x a o e).lt
theorem HOk.fresh(x:HOk P w H h)(e:h.objs.size<=a):H a=none:=by
 cases q:H a with
 |none=>rfl
 |some u=>exact absurd (FN (x.lt q) e) (Ge _)
theorem HOk.kept(x:HOk P w H h)(k:∀b u,h.get? b=some u->h'.get? b=some u):HOk P w H h':=λa o e =>(x a o e).stay (λb u _ q=>k b u q) (λ_ q=>q) λ_ _ q=>q
theorem HOk.laid(x:HOk P w H h)(k:∀b u,h.get? b=some u->h'.get? b=some u)(hp:h.objs.size<=a)(new:ObjOk P w (upd H a o) h' a o):HOk P w (upd H a o) h':=λb u e=>by
 have hn:=x.fresh hp;by_cases hb:b=a
 ·subst hb;rw[aq]at e;cases e;exact new
 ·rw[upd_ne hb]at e;exact(x b u e).stay (λc v _ q=>k c v q) (λc q=>by rw[upd_ne (aN q hn)];exact q) λc xs q=>by rw[upd_ne (aN q hn)];exact q
end
def Rd(H:Hp)(a:Addr)(u:HO):Prop:=H a=some u\/∃o,H a=some (.frz o u)
theorem Rd.of{H:Hp}{a:Addr}{u:HO}(h:H a=some u):Rd H a u:=.inl h
theorem Rd.ok{P:Program}{w:World}{H:Hp}{h:Heap}{a:Addr}{u:HO}(r:Rd H a u)(x:HOk P w H h):ObjOk P w H h a u:=by
 rcases r with r |⟨o,r⟩
 ·exact x a u r
 ·obtain⟨_,q⟩:=x a _ r;exact q
noncomputable def Mut:Option HO->Prop
 |some (.lst _)=>True
 |some (.dK _)=>True
 |some (.dT _)=>True
 |some (.set _ _)=>True
 |some (.ins _ _ _)=>True
 |some (.ext _)=>True
 |_=>False
section
variable {P:Program}{w:World}{H:Hp}{h h':Heap}{x e:Addr}{o':HO}
theorem HOk.write(ok:HOk P w H h)(mu:Mut (H x))(he:e=x\/H e=some (.own x))(k:∀b u,b≠e->h.get? b=some u->h'.get? b=some u)(heo:∃u,h'.get? e=some u)
 (new:ObjOk P w (upd H x o') h' x o'):HOk P w (upd H x o') h':=λb u q=>by
 have nown:∀c y,H c=some (.own y)->c≠x:=λc y r z=>by subst z;rw[r]at mu;exact mu
 have ntup:∀c xs,H c=some (.tup xs)->c≠x:=λc xs r z=>by subst z;rw[r]at mu;exact mu
 by_cases hb:b=x
 ·subst hb;rw[aq]at q;cases q;exact new
 ·rw[upd_ne hb]at q;by_cases hbe:b=e
  ·have q':H b=some (.own x):=by
    rcases he with z |z
    ·exact absurd (hbe.trans z) hb
    ·rw[hbe];exact z
   rw[q]at q';cases q';obtain⟨v,hv⟩:=heo;exact⟨v,by rw[hbe];exact hv⟩
  ·refine(ok b u q).stay (λc v hc r=>k c v ?_ r) (λc r=>by rw[upd_ne (nown c b r)];exact r) λc xs r=>by rw[upd_ne (ntup c xs r)];exact r
   rcases hc with rfl |hc
   ·exact hbe
   ·rintro rfl;rcases he with z |z
    ·exact nown c b hc z
    ·rw[hc]at z;cases z;exact hb rfl
end
structure Un(fs ex:List Addr)(H H':Hp)(h h':Heap):Prop where
 keep:∀b o,h.get? b=some o->H b=none->b∉fs->b∉ex->h'.get? b=some o
 slot:∀b o,h.get? b=some o->H b=none->b∈fs->b∉ex->∃sl,h'.get? b=some { o with slots:=sl }
 free:∀b o,h.get? b=some o->H b=none->b∉ex->H' b=none
 there:∀b o,h.get? b=some o->b∉ex->∃o',h'.get? b=some o'
 tups:∀b xs,H b=some (.tup xs)->H' b=some (.tup xs)
 frzs:∀b o u,H b=some (.frz o u)->H' b=some (.frz o u)
 tbls:∀b ps,H b=some (.tbl ps)->∃more,H' b=some (.tbl (ps++more))
section
variable {fs fs' ex ex':List Addr}{H H1 H2:Hp}{h h1 h2 h':Heap}{a x e:Addr}{o:HO}
theorem Un.any(u:Un fs ex H H1 h h1){b:Addr}{ob:Obj}(q:h.get? b=some ob)(n:H b=none)(hx:b∉ex):∃sl,h1.get? b=some { ob with slots:=sl }:=by
 by_cases hb:b∈fs
 ·exact u.slot b ob q n hb hx
 ·exact⟨ob.slots,u.keep b ob q n hb hx⟩
theorem Un.trans(a:Un fs ex H H1 h h1)(b:Un fs ex H1 H2 h1 h2):Un fs ex H H2 h h2 where
 keep:=λc ob q n hc hx=>b.keep c ob (a.keep c ob q n hc hx) (a.free c ob q n hx) hc hx
 slot:=λc ob q n hc hx=>by obtain⟨sl,e1⟩:=a.slot c ob q n hc hx;obtain⟨sl',e2⟩:=b.slot c _ e1 (a.free c ob q n hx) hc hx;exact⟨sl',e2⟩
 free:=λc ob q n hx=>by obtain⟨o',e1⟩:=a.there c ob q hx;exact b.free c o' e1 (a.free c ob q n hx) hx
 there:=λc ob q hx=>by obtain⟨o',e1⟩:=a.there c ob q hx;exact b.there c o' e1 hx
 tups:=λc xs q=>b.tups c xs (a.tups c xs q)
 frzs:=λc ob xs q=>b.frzs c ob xs (a.frzs c ob xs q)
 tbls:=λc ps q=>by obtain⟨m1,e1⟩:=a.tbls c ps q;obtain⟨m2,e2⟩:=b.tbls c _ e1;exact⟨m1++m2,by rw[e2,Array.append_assoc]⟩
theorem Un.kept(k:∀b u,h.get? b=some u->h'.get? b=some u):Un fs ex H H h h' :=
 ⟨λb ob q _ _ _=>k b ob q,λb ob q _ _ _=>⟨ob.slots,k b ob q⟩,λ_ _ _ n _=>n,λb ob q _=>⟨ob,k b ob q⟩,λ_ _ q=>q,λ_ _ _ q=>q,λ_ ps q=>⟨#[],by rw[q];simp⟩⟩
theorem Un.refl:Un fs ex H H h h:=Un.kept λ_ _ q=>q
theorem Un.laid(k:∀b u,h.get? b=some u->h'.get? b=some u)(hp:h.objs.size<=a)(hn:H a=none):Un fs ex H (upd H a o) h h' where
 keep:=λb u q _ _ _=>k b u q
 slot:=λb u q _ _ _=>⟨u.slots,k b u q⟩
 free:=λb u q n _=>by rw[upd_ne (FL (FN (Heap.lt_size q) hp))];exact n
 there:=λb u q _=>⟨u,k b u q⟩
 tups:=λb xs q=>by rw[upd_ne (aN q hn)];exact q
 frzs:=λb u xs q=>by rw[upd_ne (aN q hn)];exact q
 tbls:=λb ps q=>⟨#[],by rw[upd_ne (aN q hn),q];simp⟩
theorem Un.write(mu:Mut (H x))(he:e=x\/H e=some (.own x))(k:∀b u,b≠e->h.get? b=some u->h'.get? b=some u)(heo:∃u,h'.get? e=some u):Un fs ex H (upd H x o) h h':=by
 have hx:∀b,H b=none->b≠x:=λb n z=>by subst z;rw[n]at mu;exact mu
 have hb:∀b,H b=none->b≠e:=λb n z=>by
  subst z;rcases he with r |r
  ·exact hx b n r
  ·rw[n]at r;cases r
 have hm:∀b u,H b=some u->¬Mut (some u)->b≠x:=λb u q nm z=>by subst z;rw[q]at mu;exact nm mu
 refine⟨λb u q n _ _=>k b u (hb b n) q,λb u q n _ _=>⟨u.slots,k b u (hb b n) q⟩,λb u q n _=>by rw[upd_ne (hx b n)];exact n,λb u q _=>?_,
  λb xs q=>by rw[upd_ne (hm b _ q λz=>z)];exact q,λb u xs q=>by rw[upd_ne (hm b _ q λz=>z)];exact q,λb ps q=>⟨#[],by rw[upd_ne (hm b _ q λz=>z),q];simp⟩⟩
 by_cases hbe:b=e
 ·subst hbe;exact heo
 ·exact⟨u,k b u hbe q⟩
theorem Un.mono(u:Un fs ex H H1 h h1)(hs:∀b∈fs,b∈fs')(hx:∀b∈ex,b∈ex'):Un fs' ex' H H1 h h1 :=
 ⟨λb ob q n hb he=>u.keep b ob q n (λz=>hb (hs b z)) λz=>he (hx b z),λ_ _ q n _ he=>u.any q n λz=>he (hx _ z),λb ob q n he=>u.free b ob q n λz=>he (hx b z),λb ob q he=>u.there b ob q λz=>he (hx b z),u.tups,u.frzs,u.tbls⟩
end
noncomputable def trk(h:Heap)(H:Hp):List Addr:=(List.range h.objs.size).filter λa=>(H a).isSome
noncomputable def dW(h:Heap)(H:Hp):Heap:=PySem.W.hideAll h (trk h H)
theorem BA(h:Heap)(H:Hp):(dW h H).objs.size=h.objs.size:=PySem.W.hideAll_size _ _
theorem BB{h:Heap}{H:Hp}{b:Addr}{o:Obj}(e:h.get? b=some o)(n:H b=none):(dW h H).get? b=some o :=
 PySem.W.hideAll_get _ e λhm=>by have q:(H b).isSome=true:=(List.mem_filter.mp hm).2;rw[n]at q;simp at q
theorem As{h:Heap}{H:Hp}{b:Addr}{o:Obj}(e:(dW h H).get? b=some o):h.get? b=some o/\H b=none:=by
 have e':h.get? b=some o:=PySem.W.of_hideAll (trk h H) e;refine⟨e',?_⟩;cases q:H b with
 |none=>rfl
 |some x =>have hm:b∈trk h H:=List.mem_filter.mpr ⟨Gi.mpr (Heap.lt_size e'),by simp[q]⟩;have z:(dW h H).get? b=none:=PySem.W.hideAll_none (trk h H) hm;rw[z]at e;cases e
noncomputable def Dk(g h:Heap)(L:Addr):List (Addr×Obj):=(List.range h.objs.size).filterMap λa=>if a=L\/(g.get? a).isSome=true then none else(h.get? a).map λo=>(a,o)
noncomputable def rest(g h:Heap)(L d:Addr):List (Addr×Obj):=(Dk g h L).filter λp=>decide (p.1≠d)
structure Mod(K:PySem.W.Frag)(mg:Str->Option Value)(base:Heap):Prop where
 kin:K.In base
 glob:base.Ns mainGlobals mg
 blt:∃mb,base.Ns builtinsNs mb/\∀x:Str,x≠"__name__"->mb x=bootBuiltins x
 nolimit:base.NoLimit
structure Cx where
 prog:Program
 w:World
 K:PySem.W.Frag
 mg:Str->Option Value
 base:Heap
 A:Around
 N:List Str
 s₀:Shared
 H₀:Hp
 env:Env
 outer:List Env
 stack:List Env
 ex:List Addr
 fn:Str->Bool
 calm:Bool
 pn:List (Addr×Obj)
 xe:Value->Shared->Prop
noncomputable def frs(l:List Env):List Addr:=l.filterMap (·.frame)
abbrev Cx.fs(X:Cx):List Addr:=frs X.outer
def Vis(sc:Scope)(x:Str):Prop:=sc.names.lookup x=some .local\/sc.names.lookup x=some .cell\/sc.names.lookup x=some .free
def Loc(sc:Scope)(x:Str):Prop:=sc.names.lookup x=some .local\/sc.names.lookup x=some .cell
noncomputable def Dn(env:Env)(h:Heap)(m:Str->Option Value)(x:Str)(u:Value):Prop :=
 (env.kindOf x=some .local/\m x=some u)\/((env.kindOf x=some .cell\/env.kindOf x=some .free)/\∃c,env.cells.lookup x=some c/\h.IsCell c (some u))
structure Cx.Ok(X:Cx):Prop where
 mod:Mod X.K X.mg X.base
 kind:X.env.scope.kind=.function
 glob:X.env.globals=mainGlobals
 blt:X.env.builtins=builtinsNs
 above:X.s₀.heap.objs.size<=X.env.locals
 inj:∀x y c,X.env.cells.lookup x=some c->X.env.cells.lookup y=some c->x=y
 has:∀x,(X.env.kindOf x=some .cell\/X.env.kindOf x=some .free)->∃c,X.env.cells.lookup x=some c
 cab:∀x c,X.fn x=true->X.env.cells.lookup x=some c->X.s₀.heap.objs.size<=c
 hd:X.calm=true->X.A.handled=none
 frames:X.A.frames=some X.stack
 stk:X.stack=X.outer\/(X.stack=X.env::X.outer/\X.env.frame=some X.env.locals)
 exf:∀b∈X.ex,b≠X.env.locals/\∀x c,X.env.cells.lookup x=some c->c≠b
 bs:∀b o,X.base.get? b=some o->X.s₀.heap.get? b=some o/\X.H₀ b=none
 bsz:X.base.objs.size<=X.s₀.heap.objs.size
 noex:∀b o,X.base.get? b=some o->b∉X.ex
 exfs:∀b∈X.ex,b∉X.fs
 funs:X.s₀.heap.FunFrames X.base X.outer
 frf:∀b∈X.fs,X.H₀ b=none
structure Inv(X:Cx)(pins:List (Addr×Obj))(σ:List (Option V))(H:Hp)(s:Shared):Prop where
 ok:X.Ok
 os:s.os=X.s₀.os
 bare:AllBare s.gens
 base:Un X.fs X.ex X.H₀ H X.s₀.heap s.heap
 loc:∃m,s.heap.Ns X.env.locals m/\∀(i:Nat) (x:Str) (v:V),X.N[i]?=some x->σ[i]?=some (some v)->Vis X.env.scope x->∃u,RelV v u/\Dn X.env s.heap m x u
 cell:∀x c,X.env.cells.lookup x=some c->∃v,s.heap.IsCell c v
 free:H X.env.locals=none
 freeC:∀x c,X.env.cells.lookup x=some c->H c=none
 pin:∀p∈X.pn++pins,s.heap.get? p.1=some p.2/\H p.1=none/\p.1≠X.env.locals/\p.1∉X.fs/\∀v,p.2.data≠.cell v
 hok:HOk X.prog X.w H s.heap
 len:σ.length=X.N.length
section
variable {X:Cx}{pins:List (Addr×Obj)}{σ:List (Option V)}{H H':Hp}{s:Shared}{h':Heap}
theorem Cx.Ok.nofr(ok:X.Ok){b:Addr}{o:Obj}(e:X.base.get? b=some o):b∉X.fs:=λhb=>by have:=(ok.funs.mem hb).1;rw[e]at this;cases this
theorem Inv.bs(I:Inv X pins σ H s):∀b o,X.base.get? b=some o->s.heap.get? b=some o/\H b=none:=λb o e =>⟨I.base.keep b o (I.ok.bs b o e).1 (I.ok.bs b o e).2 (I.ok.nofr e) (I.ok.noex b o e),I.base.free b o (I.ok.bs b o e).1 (I.ok.bs b o e).2 (I.ok.noex b o e)⟩
theorem Inv.bk(I:Inv X pins σ H s):∀b o,X.base.get? b=some o->s.heap.get? b=some o:=λb o e=>(I.bs b o e).1
theorem Inv.mod(I:Inv X pins σ H s):Mod X.K X.mg X.base:=I.ok.mod
theorem Inv.kIn(I:Inv X pins σ H s):X.K.In s.heap:=I.ok.mod.kin.keeps I.bk
theorem Inv.nolimit(I:Inv X pins σ H s):s.heap.NoLimit:=I.ok.mod.nolimit.keeps I.bk
theorem Inv.fr(I:Inv X pins σ H s):∃m,Fr X.base X.env.locals s.heap m :=
 let⟨m,hn,_⟩:=I.loc
 ⟨m,hn,I.bk,Fu I.ok.bsz I.ok.above⟩
theorem Inv.lt(I:Inv X pins σ H s):X.env.locals<s.heap.objs.size:=let⟨_,hn,_⟩:=I.loc;hn.lt
theorem Inv.sz(I:Inv X pins σ H s):X.s₀.heap.objs.size<=s.heap.objs.size:=Fu I.ok.above (G5 I.lt)
theorem Inv.nofs(I:Inv X pins σ H s){a:Addr}(h:s.heap.objs.size<=a):a∉X.fs:=λhb=>by obtain⟨_,o,ho,_⟩:=I.ok.funs.mem hb;exact absurd (FN (Heap.lt_size ho) (Fu I.sz h)) (Ge _)
theorem Inv.cne(I:Inv X pins σ H s):∀x c,X.env.cells.lookup x=some c->c≠X.env.locals:=λx c e z=>by obtain⟨v,o,ho,hd⟩:=I.cell x c e;obtain⟨m,⟨o',es,ep,ho',hd',_⟩,_⟩:=I.loc;rw[z,ho']at ho;cases ho;rw[hd']at hd;cases hd
theorem Inv.funs(I:Inv X pins σ H s):s.heap.FunFrames X.base X.outer:=by
 have all:∀(l:List Env),(∀b∈frs l,b∈X.fs)->X.s₀.heap.FunFrames X.base l->s.heap.FunFrames X.base l:=by
  intro l
  induction l with
  |nil=>intro _ _;trivial
  |cons env r ih =>
   intro hs hl;obtain⟨hk,⟨L,o,hf,hn,ho,hd⟩,hr⟩:=hl;have hL:L∈X.fs:=hs L (by unfold frs;rw[List.filterMap_cons,hf];exact Fl);obtain⟨sl,e⟩:=I.base.slot L o ho (I.ok.frf L hL) hL λz=>I.ok.exfs L z hL
   exact⟨hk,⟨L,_,hf,hn,e,hd⟩,ih (λb hb=>hs b (by unfold frs;rw[List.filterMap_cons,hf];exact Fi _ hb)) hr⟩
 exact all X.outer (λ_ hb=>hb) I.ok.funs
theorem Inv.stack(I:Inv X pins σ H s):s.heap.FunFrames X.base X.stack:=by
 rcases I.ok.stk with e |⟨e,hf⟩
 ·rw[e];exact I.funs
 ·rw[e];obtain⟨m,hn,_⟩:=I.loc;refine .cons (by rw[I.ok.kind];decide) hf hn ?_ I.funs;exact Heap.get?_none_of_le (Fu I.ok.bsz I.ok.above)
theorem Inv.stkSub(I:Inv X pins σ H s):∀b∈frs X.stack,b∈X.env.locals::X.fs:=λb hb=>by
 rcases I.ok.stk with e |⟨e,hf⟩
 ·rw[e]at hb;exact Fi _ hb
 ·rw[e]at hb;unfold frs at hb
  rw[List.filterMap_cons,hf]at hb;exact hb
theorem Inv.stkFree(I:Inv X pins σ H s):∀b∈frs X.stack,H b=none:=λb hb=>by
 rcases FC.mp (I.stkSub b hb)with e |hb
 ·rw[e];exact I.free
 ·obtain⟨_,o,ho,_⟩:=I.ok.funs.mem hb;exact I.base.free b o ho (I.ok.frf b hb) λz=>I.ok.exfs b z hb
theorem Inv.step{g':Array GenState}{t':Nat}{d':Drawn}{ch:List Addr}(I:Inv X pins σ H s)
 (hch:∀b∈ch,(b∈X.ex\/X.s₀.heap.objs.size<=b)/\b≠X.env.locals/\(∀x c,X.env.cells.lookup x=some c->c≠b)/\∀p∈X.pn++pins,p.1≠b)
 (keep:∀b o,b≠X.env.locals->b∉X.fs->b∉ch->s.heap.get? b=some o->H b=none->h'.get? b=some o)
 (slot:∀b o,b≠X.env.locals->b∈X.fs->b∉ch->s.heap.get? b=some o->H b=none->∃sl,h'.get? b=some { o with slots:=sl }) (free:∀b o,b∉ch->s.heap.get? b=some o->H b=none->H' b=none)
 (there:∀b o,b∉ch->s.heap.get? b=some o->∃o',h'.get? b=some o')
 (tups:∀b xs,H b=some (.tup xs)->H' b=some (.tup xs)) (frzs:∀b o u,H b=some (.frz o u)->H' b=some (.frz o u)) (tbls:∀b ps,H b=some (.tbl ps)->∃more,H' b=some (.tbl (ps++more)))
 (ns:∀m,s.heap.Ns X.env.locals m->h'.Ns X.env.locals m) (hok:HOk X.prog X.w H' h') (hg:AllBare g') :
 Inv X pins σ H' { s with heap:=h',gens:=g',drawn:=d',toks:=t' }:=by
 have neL:∀b o,X.s₀.heap.get? b=some o->b≠X.env.locals:=λb o e=>FL (FN (Heap.lt_size e) I.ok.above)
 have neC:∀b o,X.s₀.heap.get? b=some o->b∉X.ex->b∉ch:=λb o e hx hb=>by
  rcases(hch b hb).1 with z |z
  ·exact hx z
  ·exact absurd (FN (Heap.lt_size e) z) (Ge _)
 have cellK:∀x c,X.env.cells.lookup x=some c->∀v,s.heap.IsCell c v->h'.IsCell c v:=λx c e v ⟨o,ho,hd⟩=>by
  have nch:c∉ch:=λz=>(hch c z).2.2.1 x c e rfl
  by_cases hc:c∈X.fs
  ·obtain⟨sl,q⟩:=slot c o (I.cne x c e) hc nch ho (I.freeC x c e);exact⟨_,q,hd⟩
  ·exact⟨o,keep c o (I.cne x c e) hc nch ho (I.freeC x c e),hd⟩
 refine⟨I.ok,I.os,hg,⟨λb o e n hb hx=>?_,λb o e n hb hx=>?_,λb o e n hx=>?_,λb o e hx=>?_,λb xs e=>tups b xs (I.base.tups b xs e),λb o xs e=>frzs b o xs (I.base.frzs b o xs e),λb ps e=>?_⟩,?_,λx c e=>?_,?_,λx c e=>?_,λp hp=>?_,hok,I.len⟩
 ·exact keep b o (neL b o e) hb (neC b o e hx) (I.base.keep b o e n hb hx) (I.base.free b o e n hx)
 ·obtain⟨sl,e1⟩:=I.base.slot b o e n hb hx;obtain⟨sl',e2⟩:=slot b _ (neL b o e) hb (neC b o e hx) e1 (I.base.free b o e n hx);exact⟨sl',e2⟩
 ·obtain⟨o',e1⟩:=I.base.there b o e hx;exact free b o' (neC b o e hx) e1 (I.base.free b o e n hx)
 ·obtain⟨o',e1⟩:=I.base.there b o e hx;exact there b o' (neC b o e hx) e1
 ·obtain⟨m1,e1⟩:=I.base.tbls b ps e;obtain⟨m2,e2⟩:=tbls b _ e1;exact⟨m1++m2,by rw[e2,Array.append_assoc]⟩
 ·obtain⟨m,hn,hl⟩:=I.loc;refine⟨m,ns m hn,λi x v e1 e2 e3=>?_⟩;obtain⟨u,r,l⟩:=hl i x v e1 e2 e3;refine⟨u,r,?_⟩;rcases l with l |⟨k,c,e,z⟩
  ·exact .inl l
  ·exact .inr ⟨k,c,e,cellK x c e _ z⟩
 ·obtain⟨v,z⟩:=I.cell x c e;exact⟨v,cellK x c e v z⟩
 ·obtain⟨m,⟨o,_,_,ho,_⟩,_⟩:=I.loc;exact free _ o (λz=>(hch _ z).2.1 rfl) ho I.free
 ·obtain⟨v,o,ho,hd⟩:=I.cell x c e;exact free c o (λz=>(hch c z).2.2.1 x c e rfl) ho (I.freeC x c e)
 ·obtain⟨e,n,ne,nf,d⟩:=I.pin p hp;have nch:p.1∉ch:=λz=>(hch p.1 z).2.2.2 p hp rfl
  exact⟨keep p.1 p.2 ne nf nch e n,free p.1 p.2 nch e n,ne,nf,d⟩
theorem Inv.un{t':Nat}(I:Inv X pins σ H s)(u:Un X.fs [] H H' s.heap h')(hok:HOk X.prog X.w H' h'):Inv X pins σ H' { s with heap:=h',toks:=t' }:=by
 obtain⟨m,⟨o,es,ep,ho,r⟩,_⟩:=id I.loc;obtain⟨sl,hL⟩:=u.any ho I.free (by simp)
 exact I.step (g':=s.gens) (d':=s.drawn) (ch:=[]) (λ_ z=>nomatch z) (λb o _ hb _ e n=>u.keep b o e n hb (by simp)) (λb o _ hb _ e n=>u.slot b o e n hb (by simp)) (λb o _ e n=>u.free b o e n (by simp)) (λb o _ e=>u.there b o e (by simp)) u.tups u.frzs u.tbls (λm' hm=>by
  obtain⟨o',es',ep',ho',r'⟩:=hm;rw[ho]at ho';cases ho'
  exact⟨_,es',ep',hL,r'⟩) hok I.bare
theorem Inv.call{g':Array GenState}{t':Nat}{d':Drawn}{ch:List Addr}(I:Inv X pins σ H s)(u:Un (frs X.stack) ch H H' s.heap h')(hok:HOk X.prog X.w H' h')(hg:AllBare g')
 (hch:∀b∈ch,(b∈X.ex\/X.s₀.heap.objs.size<=b)/\b≠X.env.locals/\(∀x c,X.env.cells.lookup x=some c->c≠b)/\∀p∈X.pn++pins,p.1≠b) :
 Inv X pins σ H' { s with heap:=h',gens:=g',drawn:=d',toks:=t' }:=by
 obtain⟨m,⟨o,es,ep,ho,r⟩,_⟩:=id I.loc;obtain⟨sl,hL⟩:=u.any ho I.free λz=>(hch _ z).2.1 rfl
 exact I.step (ch:=ch) hch (λb o hL hb hc e n=>u.keep b o e n (λz=>(FC.mp (I.stkSub b z)).elim hL hb) hc) (λb o _ _ hc e n=>u.any e n hc) (λb o hc e n=>u.free b o e n hc) (λb o hc e=>u.there b o e hc) u.tups u.frzs u.tbls (λm' hm=>by
  obtain⟨o',es',ep',ho',r'⟩:=hm;rw[ho]at ho';cases ho'
  exact⟨_,es',ep',hL,r'⟩) hok hg
theorem Inv.turned{t':Nat}{it:Addr}(I:Inv X pins σ H s)(k:∀b o,b≠it->s.heap.get? b=some o->h'.get? b=some o)(hn:H it=none)(hL:it≠X.env.locals)
 (h1:it∈X.ex\/X.s₀.heap.objs.size<=it) (h2:∀x c,X.env.cells.lookup x=some c->c≠it) (h3:∀p∈X.pn++pins,p.1≠it):Inv X pins σ H { s with heap:=h',toks:=t' }:=by
 have nit:∀b u,H b=some u->b≠it:=λb u e z=>by rw[z,hn]at e;cases e
 refine I.step (g':=s.gens) (d':=s.drawn) (ch:=[it]) (λb hb=>?_) (λb o _ _ hc e _=>k b o (λz=>hc (by simp[z])) e) (λb o _ _ hc e _=>⟨o.slots,k b o (λz=>hc (by simp[z])) e⟩) (λ_ _ _ _ n=>n)
  (λb o hc e=>⟨o,k b o (λz=>hc (by simp[z])) e⟩) (λ_ _ e=>e) (λ_ _ _ e=>e) (λb ps e=>⟨#[],by rw[e];simp⟩) (λm hm=>?_) (λb u e=>?_) I.bare
 ·have e:b=it:=by simpa using hb
  subst e;exact⟨h1,hL,h2,h3⟩
 ·obtain⟨o,es,ep,ho,r⟩:=hm;exact⟨o,es,ep,k _ o (Ne.symm hL) ho,r⟩
 ·refine(I.hok b u e).stay (λc v hc q=>k c v ?_ q) (λ_ q=>q) λ_ _ q=>q
  rcases hc with z |z
  ·rw[z];exact nit b u e
  ·exact nit c _ z
theorem Inv.tok(I:Inv X pins σ H s)(t:Nat):Inv X pins σ H { s with toks:=t }:=I.un (h':=s.heap) (t':=t) Un.refl I.hok
theorem Inv.kept{t':Nat}(I:Inv X pins σ H s)(k:∀b u,s.heap.get? b=some u->h'.get? b=some u):Inv X pins σ H { s with heap:=h',toks:=t' }:=I.un (Un.kept k) (I.hok.kept k)
theorem Inv.laid{a:Addr}{o:HO}{t':Nat}(I:Inv X pins σ H s)(k:∀b u,s.heap.get? b=some u->h'.get? b=some u)(hp:s.heap.objs.size<=a)(new:ObjOk X.prog X.w (upd H a o) h' a o) :
 Inv X pins σ (upd H a o) { s with heap:=h',toks:=t' }:=I.un (Un.laid k hp (I.hok.fresh hp)) (I.hok.laid k hp new)
theorem Inv.write{x e:Addr}{o:HO}{t':Nat}(I:Inv X pins σ H s)(mu:Mut (H x))(he:e=x\/H e=some (.own x))(k:∀b u,b≠e->s.heap.get? b=some u->h'.get? b=some u)(heo:∃u,h'.get? e=some u)
 (new:ObjOk X.prog X.w (upd H x o) h' x o):Inv X pins σ (upd H x o) { s with heap:=h',toks:=t' }:=I.un (Un.write mu he k heo) (I.hok.write mu he k heo new)
theorem Inv.pins_of{pins':List (Addr×Obj)}(I:Inv X pins σ H s)(h:∀p∈pins',s.heap.get? p.1=some p.2/\H p.1=none/\p.1≠X.env.locals/\p.1∉X.fs/\∀v,p.2.data≠.cell v):Inv X pins' σ H s :=
 ⟨I.ok,I.os,I.bare,I.base,I.loc,I.cell,I.free,I.freeC,λp hp=>(Fq.mp hp).elim (λz=>I.pin p (Gq _ z)) (h p),I.hok,I.len⟩
theorem tI{N:List Str}(hN:N.Nodup){i j:Nat}{x:Str}(a:N[i]?=some x)(b:N[j]?=some x):i=j:=by obtain⟨h1,e1⟩:=List.getElem?_eq_some_iff.mp a;obtain⟨h2,e2⟩:=List.getElem?_eq_some_iff.mp b;exact(List.getElem_inj hN).mp (e1.trans e2.symm)
theorem qm{M:Model}{A:Around}{E:Value->Shared->Prop}{i:Nat}{x:Str}{v:V}{u:Value}{Q:Unit->Shared->Prop}(I:Inv X pins σ H s)(hN:X.N.Nodup)(hi:X.N[i]?=some x)(hx:Loc X.env.scope x)(r:RelV v u)
 (h:∀s',Inv X pins (σ.set i (some v)) H s'->(∃a,Heap.SameBut a s.heap s'.heap/\(a=X.env.locals\/X.env.cells.lookup x=some a))->Q () s') (hf:X.fn x=true\/X.env.scope.names.lookup x=some .local:=by first |exact .inl rfl |exact .inr rfl |assumption):wpAny M A (storeName X.env x u) Q E s:=by
 obtain⟨m,hn,hl⟩:=id I.loc;have hcls:(X.env.scope.kind == .class || (X.env.scope.kind == .module&&X.env.locals != X.env.globals))=false:=by rw[I.ok.kind];rfl
 have hiσ:i<σ.length:=by rw[I.len];exact(List.getElem?_eq_some_iff.mp hi).1
 have cne:=I.cne
 have tracked:∀{a:Addr} {h':Heap},(∃o,s.heap.get? a=some o/\H a=none)->Heap.SameBut a s.heap h'->HOk X.prog X.w H h':=λ{a h'} ha hs b ob e=>by
  obtain⟨_,_,hfree⟩:=ha;refine(I.hok b ob e).stay (λc w' hc q=>(hs.2 c ?_).trans q) (λ_ q=>q) λ_ _ q=>q
  rintro rfl;rcases hc with rfl |hc
  ·rw[hfree]at e;cases e
  ·rw[hfree]at hc;cases hc
 rcases hx with hk |hk
 ·refine wpAny_storeName_local hk hn (λh' hn' hs=>?_) hcls;obtain⟨oL,_,_,hoL,_⟩:=id hn;refine h _ ⟨I.ok,I.os,I.bare,⟨λb o e n hb hx=>?_,λb o e n hb hx=>?_,I.base.free,λb o e hx=>?_,I.base.tups,I.base.frzs,I.base.tbls⟩,⟨_,hn',λj y v' e1 e2 e3=>?_⟩,λy c e=>?_,I.free,I.freeC,λp hp=>?_,tracked ⟨oL,hoL,I.free⟩ hs,by simpa using I.len⟩ ⟨_,hs,.inl rfl⟩
  ·exact(hs.2 b (FL (FN (Heap.lt_size e) I.ok.above))).trans (I.base.keep b o e n hb hx)
  ·obtain⟨sl,e1⟩:=I.base.slot b o e n hb hx;exact⟨sl,(hs.2 b (FL (FN (Heap.lt_size e) I.ok.above))).trans e1⟩
  ·obtain⟨o',e1⟩:=I.base.there b o e hx;exact⟨o',(hs.2 b (FL (FN (Heap.lt_size e) I.ok.above))).trans e1⟩
  ·by_cases hj:j=i
   ·subst hj;rw[hi]at e1;cases e1;rw[List.getElem?_set_self hiσ]at e2;cases e2;exact⟨u,r,.inl ⟨hk,by simp⟩⟩
   ·rw[List.getElem?_set_ne (Ne.symm hj)]at e2;obtain⟨u',r',q⟩:=hl j y v' e1 e2 e3;refine⟨u',r',?_⟩;rcases q with⟨k,e⟩ |⟨k,c,e,z⟩
    ·refine .inl ⟨k,?_⟩;have:y≠x:=λe=>hj (tI hN e1 (e ▸ hi))
     simp[this,e]
    ·exact .inr ⟨k,c,e,z.sameBut hs (cne y c e)⟩
  ·obtain⟨w',z⟩:=I.cell y c e;exact⟨w',z.sameBut hs (cne y c e)⟩
  ·obtain⟨e,n,ne,nf,d⟩:=I.pin p hp;exact⟨(hs.2 p.1 ne).trans e,n,ne,nf,d⟩
 ·have hfn:X.fn x=true:=by
   rcases hf with z |z
   ·exact z
   ·rw[z]at hk;cases hk
  obtain⟨c,hc⟩:=I.ok.has x (.inl hk);obtain⟨w',z⟩:=I.cell x c hc;refine wpAny_storeName_cell I.ok.kind hk hc z (λh' hc' hs=>?_);obtain⟨oc,hoc,hocd⟩:=id z;refine h { s with heap:=h' } ⟨I.ok,I.os,I.bare,⟨λb o e n hb hx=>?_,λb o e n hb hx=>?_,I.base.free,λb o e hx=>?_,I.base.tups,I.base.frzs,I.base.tbls⟩,⟨m,hn.sameBut hs (Ne.symm (cne x c hc)),λj y v' e1 e2 e3=>?_⟩,λy c' e=>?_,I.free,I.freeC,λp hp=>?_,tracked ⟨oc,hoc,I.freeC x c hc⟩ hs,by simpa using I.len⟩ ⟨c,hs,.inr hc⟩
  ·exact(hs.2 b (FL (FN (Heap.lt_size e) (I.ok.cab x c hfn hc)))).trans (I.base.keep b o e n hb hx)
  ·obtain⟨sl,e1⟩:=I.base.slot b o e n hb hx;exact⟨sl,(hs.2 b (FL (FN (Heap.lt_size e) (I.ok.cab x c hfn hc)))).trans e1⟩
  ·obtain⟨o',e1⟩:=I.base.there b o e hx;exact⟨o',(hs.2 b (FL (FN (Heap.lt_size e) (I.ok.cab x c hfn hc)))).trans e1⟩
  ·by_cases hj:j=i
   ·subst hj;rw[hi]at e1;cases e1;rw[List.getElem?_set_self hiσ]at e2;cases e2;exact⟨u,r,.inr ⟨.inl hk,c,hc,hc'⟩⟩
   ·rw[List.getElem?_set_ne (Ne.symm hj)]at e2;obtain⟨u',r',q⟩:=hl j y v' e1 e2 e3;refine⟨u',r',?_⟩;rcases q with q |⟨k,c',e,z'⟩
    ·exact .inl q
    ·refine .inr ⟨k,c',e,z'.sameBut hs ?_⟩;rintro rfl;exact hj (tI hN e1 (I.ok.inj _ _ _ e hc ▸ hi))
  ·by_cases hcc:c'=c
   ·subst hcc;exact⟨_,hc'⟩
   ·obtain⟨w2,z2⟩:=I.cell y c' e;exact⟨w2,z2.sameBut hs hcc⟩
  ·obtain⟨e,n,ne,nf,d⟩:=I.pin p hp;refine⟨(hs.2 p.1 ?_).trans e,n,ne,nf,d⟩;intro q;rw[q,hoc]at e;have q':oc=p.2:=Option.some.inj e;exact d w' (by rw[<- q'];exact hocd)
theorem ja{M:Model}{A:Around}{E:Value->Shared->Prop}{i:Nat}{x:Str}{v:V}{u:Value}{Q:Unit->Shared->Prop}(I:Inv X pins σ H s)(hN:X.N.Nodup)(hi:X.N[i]?=some x)(hx:Loc X.env.scope x)(r:RelV v u)
 (h:∀s',Inv X pins (σ.set i (some v)) H s'->Q () s') (hf:X.fn x=true\/X.env.scope.names.lookup x=some .local:=by first |exact .inl rfl |exact .inr rfl |assumption):wpAny M A (storeName X.env x u) Q E s :=
 qm I hN hi hx r (λs' I' _=>h s' I') hf
theorem Inv.call'{s':Shared}{ch:List Addr}(I:Inv X pins σ H s)(ho:s'.os=s.os)(u:Un (frs X.stack) ch H H' s.heap s'.heap)(hok:HOk X.prog X.w H' s'.heap)(hg:AllBare s'.gens)
 (hch:∀b∈ch,(b∈X.ex\/X.s₀.heap.objs.size<=b)/\b≠X.env.locals/\(∀x c,X.env.cells.lookup x=some c->c≠b)/\∀p∈X.pn++pins,p.1≠b):Inv X pins σ H' s':=by
 obtain⟨h',g',d',t',o'⟩:=s';have e:o'=s.os:=ho;subst e;exact I.call (g':=g') (t':=t') (d':=d') u hok hg hch
end
abbrev XK:=Value->Option Addr->Hp->Prop
abbrev St:=List (Option V)
abbrev VK:=V->Hp->Prop
abbrev TE:=St->Hp->VK->Prop
abbrev TT:=St->Hp->(Bool->Hp->Prop)->Prop
abbrev TA:=St->Hp->(List V->Hp->Prop)->Prop
structure Ends where
 nx:St->Hp->Prop
 rt:VK
 bk:St->Hp->Prop:=λ_ _=>False
 ct:St->Hp->Prop:=λ_ _=>False
abbrev TS:=Ends->St->Hp->Prop
def EP(X:Cx)(pins:List (Addr×Obj))(σ:St)(Q:VK)(u:Value)(s':Shared):Prop:=∃v H',Inv X pins σ H' s'/\RelV v u/\Q v H'
def TP(X:Cx)(pins:List (Addr×Obj))(σ:St)(Q:Bool->Hp->Prop)(b:Bool)(s':Shared):Prop:=∃H',Inv X pins σ H' s'/\Q b H'
def AP(X:Cx)(pins:List (Addr×Obj))(σ:St)(Q:List V->Hp->Prop)(us:List Value)(s':Shared):Prop:=∃vs H',Inv X pins σ H' s'/\Vals vs us/\Q vs H'
noncomputable def SP(X:Cx)(pins:List (Addr×Obj))(D:Ends)(f:Flow)(s':Shared):Prop :=
 match f with
 |.next=>∃σ' H',Inv X pins σ' H' s'/\D.nx σ' H'
 |.brk=>∃σ' H',Inv X pins σ' H' s'/\D.bk σ' H'
 |.cont=>∃σ' H',Inv X pins σ' H' s'/\D.ct σ' H'
 |.ret u=>∃v σ' H',Inv X pins σ' H' s'/\RelV v u/\D.rt v H'
noncomputable def PE(X:Cx)(e:Expr)(t:TE):Prop :=
 ∀(pins:List (Addr×Obj)) (s:Shared) (σ:St) (H:Hp) (Q:VK),Inv X pins σ H s->t σ H Q->wpAny (model X.prog X.w) X.A (eval e X.env) (EP X pins σ Q) X.xe s
noncomputable def PT(X:Cx)(e:Expr)(t:TT):Prop :=
 ∀(pins:List (Addr×Obj)) (s:Shared) (σ:St) (H:Hp) (Q:Bool->Hp->Prop),Inv X pins σ H s->t σ H Q->wpAny (model X.prog X.w) X.A (isTrue e X.env (eval e X.env)) (TP X pins σ Q) X.xe s
noncomputable def PW(X:Cx)(e:Expr)(t:TT):Prop :=
 ∀(whole:Sem Value) (pins:List (Addr×Obj)) (s:Shared) (σ:St) (H:Hp) (Q:Bool->Hp->Prop),Inv X pins σ H s->t σ H Q->wpAny (model X.prog X.w) X.A (isTrue e X.env whole) (TP X pins σ Q) X.xe s
theorem PW.pt{X:Cx}{e:Expr}{t:TT}(h:PW X e t):PT X e t:=h _
noncomputable def PA(X:Cx)(es:List Expr)(t:TA):Prop :=
 ∀(pos:Pos) (pins:List (Addr×Obj)) (s:Shared) (σ:St) (H:Hp) (Q:List V->Hp->Prop),Inv X pins σ H s->t σ H Q->wpAny (model X.prog X.w) X.A (spliced (backTo pos (starEach es X.env))) (AP X pins σ Q) X.xe s
noncomputable def PS(X:Cx)(st:Stmt)(t:TS):Prop :=
 ∀(pins:List (Addr×Obj)) (s:Shared) (σ:St) (H:Hp) (D:Ends),Inv X pins σ H s->t D σ H->wpAny (model X.prog X.w) X.A (exec st X.env) (SP X pins D) X.xe s
noncomputable def PSs(X:Cx)(st:List Stmt)(t:TS):Prop :=
 ∀(pins:List (Addr×Obj)) (s:Shared) (σ:St) (H:Hp) (D:Ends),Inv X pins σ H s->t D σ H->wpAny (model X.prog X.w) X.A (execs st X.env) (SP X pins D) X.xe s
theorem thn{α:Type}{t:Sem α}{Q Q':α->Shared->Prop}{M:Model}{A:Around}{E:Value->Shared->Prop}{s:Shared}(h:wpAny M A t Q E s)(hQ:∀a s,Q a s->Q' a s):wpAny M A t Q' E s:=wpAny_mono h hQ λ_ _ x=>x
section
variable {X:Cx}
def pW(i:Nat):TE:=λσ H Q=>∃v,σ[i]?=some (some v)/\Q v H
def tC(v:V):TE:=λ_ H Q=>Q v H
theorem y4{i:Nat}{x:Str}{pos:Pos}(hN:X.N[i]?=some x)(hv:Vis X.env.scope x)(hd:(x == ("__debug__":Str))=false:=by decide)(hcd:(x == ("__classdict__":Str))=false:=by decide):PE X (.Name x pos) (pW i):=by
 intro pins s σ H Q I h;obtain⟨v,e,h⟩:=h;obtain⟨m,hn,hl⟩:=I.loc;obtain⟨u,r,l⟩:=hl i x v hN e hv;have fin:EP X pins σ Q u s:=⟨v,H,I,r,h⟩;rcases l with⟨hk,hm⟩ |⟨hk,c,hc,hcell⟩
 ·exact wpAny_Name (wpAny_loadName_local I.ok.kind hk hn hm fin) hd
 ·rcases hk with hk |hk
  ·exact wpAny_Name (wpAny_loadName_cell I.ok.kind hk hc hcell fin) hd
  ·exact wpAny_Name (wpAny_loadName_free I.ok.kind hk hc hcell fin hcd) hd
theorem af{i j pos}:PE X (.Constant (.int i) j pos) (tC (.int i)):=λ_ _ _ H _ I h=>wpAny_Constant_int ⟨.int i,H,I.tok _,⟨_,rfl⟩,h⟩
theorem dR{b j pos}:PE X (.Constant (.bool b) j pos) (tC (.bl b)):=λ_ _ _ H _ I h=>Constant_bool ⟨.bl b,H,I,rfl,h⟩
def Gl(X:Cx)(x:Str):Prop:=X.env.kindOf x=some .globalImplicit
theorem nW{E:Value->Shared->Prop}{pins:List (Addr×Obj)}{s:Shared}{σ:St}{H:Hp}{x:Str}{u:Value}{pos:Pos}{Q:Value->Shared->Prop}(I:Inv X pins σ H s)(hg:Gl X x)(hm:X.mg x=some u)(h:Q u s)
 (hd:(x == ("__debug__":Str))=false:=by decide):wpAny (model X.prog X.w) X.A (eval (.Name x pos) X.env) Q E s :=
 Calls.Name_function_global I.ok.kind hg (Calls.loadGlobal_global (by rw[I.ok.glob];exact I.mod.glob.keeps I.bk) hm h) hd
theorem dF{E:Value->Shared->Prop}{pins:List (Addr×Obj)}{s:Shared}{σ:St}{H:Hp}{x:Str}{u:Value}{pos:Pos}{Q:Value->Shared->Prop}(I:Inv X pins σ H s)(hg:Gl X x)(hm:X.mg x=none)(hv:bootBuiltins x=some u)(h:Q u s)
 (hn:x≠"__name__":=by decide) (hd:(x == ("__debug__":Str))=false:=by decide):wpAny (model X.prog X.w) X.A (eval (.Name x pos) X.env) Q E s:=by
 obtain⟨mb,h1,h2⟩:=I.mod.blt;exact Calls.Name_function_global I.ok.kind hg (Calls.loadGlobal_builtin (by rw[I.ok.glob];exact I.mod.glob.keeps I.bk) hm (by rw[I.ok.blt];exact h1.keeps I.bk) ((h2 x hn).trans hv) h) hd
theorem za{x:Str}{v:V}{u:Value}{pos:Pos}(hg:Gl X x)(hm:X.mg x=some u)(r:RelV v u)(hd:(x == ("__debug__":Str))=false:=by decide):PE X (.Name x pos) (tC v) :=
 λ_ _ _ H _ I h=>nW I hg hm ⟨v,H,I,r,h⟩ hd
theorem iI{x:Str}{v:V}{u:Value}{pos:Pos}(hg:Gl X x)(hm:X.mg x=none)(hv:bootBuiltins x=some u)(r:RelV v u)(hn:x≠"__name__":=by decide)(hd:(x == ("__debug__":Str))=false:=by decide):PE X (.Name x pos) (tC v) :=
 λ_ _ _ H _ I h=>dF I hg hm hv ⟨v,H,I,r,h⟩ hn hd
variable {a b:Expr}{ta tb:TE}{pos:Pos}
def tB(t:TE):TT:=λσ H Q=>t σ H λx H1=>∃c,x=.bl c/\Q c H1
theorem eD{e:Expr}{t:TE}(h:PE X e t)(he:∀whole,isTrue e X.env whole=(do let v <- whole;standAt e.pos;holding [v] (truthy v)):=by intro _;rfl):PT X e (tB t):=by intro pins s σ H Q I hw;refine isTrue_plain (thn (h pins s σ H _ I hw) λv s1 ⟨x,H1,I1,r1,q1⟩=>?_) (he _);obtain⟨d,rfl,q⟩:=q1;cases r1;exact wpAny_truthy_bool ⟨H1,I1,q⟩
variable {tA tB':TT}{rest:List Expr}
def qh(t u:TT):TT:=λσ H Q=>t σ H λc H1=>if c=true then u σ H1 Q else Q false H1
def tOr(t u:TT):TT:=λσ H Q=>t σ H λc H1=>if c=true then Q true H1 else u σ H1 Q
def qb(t:TT):TT:=λσ H Q=>t σ H λc H1=>Q (!c) H1
theorem gL(ha:PT X a tA):PW X (.BoolOp .And [a] pos) tA:=by
 intro wh pins s σ H Q I h;refine isTrue_and (thn (ha pins s σ H Q I h) λc s1 e=>?_);cases c with
 |true=>exact isTrue_and_nil e
 |false=>exact e
theorem gK(ha:PT X a tA):PW X (.BoolOp .Or [a] pos) tA:=by
 intro wh pins s σ H Q I h;refine isTrue_or (thn (ha pins s σ H Q I h) λc s1 e=>?_);cases c with
 |false=>exact isTrue_or_nil e
 |true=>exact e
theorem gM(ha:PT X a tA)(hb:PW X (.BoolOp .And (b::rest) pos) tB'):PW X (.BoolOp .And (a::b::rest) pos) (qh tA tB'):=by
 intro wh pins s σ H Q I h;refine isTrue_and (thn (ha pins s σ H _ I h) λc s1 ⟨H1,I1,q1⟩=>?_);cases c with
 |true=>exact hb wh pins s1 σ H1 Q I1 q1
 |false=>exact⟨H1,I1,q1⟩
theorem eX(ha:PT X a tA)(hb:PW X (.BoolOp .Or (b::rest) pos) tB'):PW X (.BoolOp .Or (a::b::rest) pos) (tOr tA tB'):=by
 intro wh pins s σ H Q I h;refine isTrue_or (thn (ha pins s σ H _ I h) λc s1 ⟨H1,I1,q1⟩=>?_);cases c with
 |true=>exact⟨H1,I1,q1⟩
 |false=>exact hb wh pins s1 σ H1 Q I1 q1
theorem eZ(ha:PT X a tA):PT X (.UnaryOp .Not a pos) (qb tA):=by intro pins s σ H Q I h;exact isTrue_not (ha pins s σ H (λc H1=>Q (!c) H1) I h)
def qg(ta tb:TE):TE:=λσ H Q=>ta σ H λx H1=>∃c,x=.bl c/\if c=true then tb σ H1 Q else Q (.bl false) H1
def pZ(ta tb:TE):TE:=λσ H Q=>ta σ H λx H1=>∃c,x=.bl c/\if c=true then Q (.bl true) H1 else tb σ H1 Q
def qa(ta:TE):TE:=λσ H Q=>ta σ H λx H1=>∃c,x=.bl c/\Q (.bl (!c)) H1
theorem jF{op}{t:TE}(h:PE X a t):PE X (.BoolOp op [a] pos) t:=λpins s σ H Q I hw=>BoolOp_one (h pins s σ H Q I hw)
theorem nq(ha:PE X a ta)(hb:PE X (.BoolOp .And (b::rest) pos) tb):PE X (.BoolOp .And (a::b::rest) pos) (qg ta tb):=by
 intro pins s σ H Q I h;refine BoolOp_and (thn (ha pins s σ H _ I h) λv s1 ⟨x,H1,I1,r1,q1⟩=>?_);obtain⟨c,rfl,q1⟩:=q1;cases r1;refine wpAny_truthy_bool ?_;cases c with
 |true=>exact hb pins s1 σ H1 Q I1 q1
 |false=>exact⟨.bl false,H1,I1,rfl,q1⟩
theorem y6(ha:PE X a ta)(hb:PE X (.BoolOp .Or (b::rest) pos) tb):PE X (.BoolOp .Or (a::b::rest) pos) (pZ ta tb):=by
 intro pins s σ H Q I h;refine BoolOp_or (thn (ha pins s σ H _ I h) λv s1 ⟨x,H1,I1,r1,q1⟩=>?_);obtain⟨c,rfl,q1⟩:=q1;cases r1;refine wpAny_truthy_bool ?_;cases c with
 |false=>exact hb pins s1 σ H1 Q I1 q1
 |true=>exact⟨.bl true,H1,I1,rfl,q1⟩
theorem y7(ha:PE X a ta):PE X (.UnaryOp .Not a pos) (qa ta):=by intro pins s σ H Q I h;refine UnaryOp_ (thn (ha pins s σ H _ I h) λv s1 ⟨x,H1,I1,r1,q1⟩=>?_);obtain⟨c,rfl,q1⟩:=q1;cases r1;exact not_of (wpAny_truthy_bool ⟨.bl (!c),H1,I1,rfl,q1⟩)
def tIf(t:TT)(ta tb:TE):TE:=λσ H Q=>t σ H λc H1=>if c=true then ta σ H1 Q else tb σ H1 Q
theorem y9{c:Expr}(hc:PT X c tA)(ha:PE X a ta)(hb:PE X b tb):PE X (.IfExp c a b pos) (tIf tA ta tb):=by
 intro pins s σ H Q I h;refine wpAny_IfExp (thn (hc pins s σ H _ I h) λd s1 ⟨H1,I1,q1⟩=>?_);cases d with
 |true=>exact ha pins s1 σ H1 Q I1 q1
 |false=>exact hb pins s1 σ H1 Q I1 q1
end
noncomputable def SqL(K:PySem.W.Frag)(H:Hp)(a:Addr)(xs:List V):Prop :=
 Rd H a (.lst xs) \/
  ∃(o:Obj) (its:Array Value) (n:Nat),K.lookup a=some o/\o.cls=.type "list"/\o.dict=none/\o.data=.seq its n/\its.size<=sizeLine/\Vals xs its.toList
noncomputable def SqT(K:PySem.W.Frag)(H:Hp)(a:Addr)(xs:List V):Prop :=
 Rd H a (.tup xs) \/
  ∃(o:Obj) (its:Array Value) (n:Nat),K.lookup a=some o/\o.cls=.type "tuple"/\o.data=.seq its n/\its.size<=sizeLine/\Vals xs its.toList
noncomputable def Dm:Value->Option V
 |.none=>some .non
 |.bool b=>some (.bl b)
 |.int i _=>some (.int i)
 |.str x _=>some (.str x)
 |.bytes b _=>some (.byt b)
 |.float b _=>some (.flt b)
 |.ref a=>some (.ref a)
 |.type n=>some (.ty n)
 |_=>none
theorem RelV.abs{x:V}{u:Value}(r:RelV x u):Dm u=some x:=by
 cases x with
 |non=>cases r;rfl
 |bl _=>cases r;rfl
 |int _=>obtain⟨t,rfl⟩:=r;rfl
 |str _=>obtain⟨t,rfl⟩:=r;rfl
 |byt _=>obtain⟨t,rfl⟩:=r;rfl
 |flt _=>obtain⟨t,rfl⟩:=r;rfl
 |ref _=>cases r;rfl
 |ty _=>cases r;rfl
theorem RelV.inj{x y:V}{u:Value}(r:RelV x u)(q:RelV y u):x=y:=Option.some.inj (r.abs.symm.trans q.abs)
theorem Vals.inj:∀{xs ys:List V} {us:List Value},Vals xs us->Vals ys us->xs=ys
 |_,_,_,.nil,.nil=>rfl
 |_,_,_,.cons r t,.cons r' t'=>by rw[r.inj r',Vals.inj t t']
section
variable {X:Cx}{pins:List (Addr×Obj)}{σ:St}{H:Hp}{s:Shared}{a:Addr}{xs ys:List V}
theorem SqL.of{K:PySem.W.Frag}(h:H a=some (.lst xs)):SqL K H a xs:=.inl (.inl h)
theorem SqT.of{K:PySem.W.Frag}(h:H a=some (.tup xs)):SqT K H a xs:=.inl (.inl h)
theorem Inv.list(I:Inv X pins σ H s)(h:SqL X.K H a xs):∃its:List Value,Vals xs its/\PlainL s.heap a its.toArray/\xs.length<=sizeLine:=by
 rcases h with h |⟨o,its,n,hk,hc,hd,hs,hz,r⟩
 ·obtain⟨z,its,n,r,e⟩:=h.ok I.hok;exact⟨its,r,⟨_,n,e,rfl,rfl,rfl⟩,z⟩
 ·refine⟨its.toList,r,⟨o,n,I.kIn a o hk,hc,hd,by simpa using hs⟩,?_⟩;have e:=r.length;simp only[Array.length_toList]at e;omega
theorem Inv.tuple(I:Inv X pins σ H s)(h:SqT X.K H a xs):∃its:List Value,Vals xs its/\IsTup s.heap a its.toArray/\xs.length<=sizeLine:=by
 rcases h with h |⟨o,its,n,hk,hc,hs,hz,r⟩
 ·obtain⟨z,its,r,p⟩:=h.ok I.hok;exact⟨its,r,p,z⟩
 ·refine⟨its.toList,r,⟨o,I.kIn a o hk,hc,n,by simpa using hs⟩,?_⟩;have e:=r.length;simp only[Array.length_toList]at e;omega
theorem Inv.list_inj(I:Inv X pins σ H s)(h:SqL X.K H a xs)(h':SqL X.K H a ys):xs=ys:=by
 obtain⟨its,r,⟨o,n,e,_,_,d⟩,_⟩:=I.list h;obtain⟨its',r',⟨o',n',e',_,_,d'⟩,_⟩:=I.list h';rw[e]at e';cases e';rw[d]at d'
 injection d' with d1 _
 have:its=its':=by simpa using congrArg Array.toList d1
 subst this;exact r.inj r'
end
abbrev Cx.wish(X:Cx)(E:Value->Shared->Prop):Cx:={ X with xe:=E }
abbrev Cx.nox(X:Cx):Cx:=X.wish λ_ _=>False
theorem Cx.Ok.wish{X:Cx}(ok:X.Ok)(E:Value->Shared->Prop):(X.wish E).Ok :=
 ⟨ok.mod,ok.kind,ok.glob,ok.blt,ok.above,ok.inj,ok.has,ok.cab,ok.hd,ok.frames,ok.stk,ok.exf,ok.bs,ok.bsz,ok.noex,ok.exfs,ok.funs,ok.frf⟩
theorem Cx.Ok.unwish{X:Cx}{E:Value->Shared->Prop}(ok:(X.wish E).Ok):X.Ok :=
 ⟨ok.mod,ok.kind,ok.glob,ok.blt,ok.above,ok.inj,ok.has,ok.cab,ok.hd,ok.frames,ok.stk,ok.exf,ok.bs,ok.bsz,ok.noex,ok.exfs,ok.funs,ok.frf⟩
section
variable {X:Cx}{pins:List (Addr×Obj)}{σ:St}{H:Hp}{s:Shared}{E:Value->Shared->Prop}
theorem Inv.wish(I:Inv X pins σ H s)(E:Value->Shared->Prop):Inv (X.wish E) pins σ H s:=⟨I.ok.wish E,I.os,I.bare,I.base,I.loc,I.cell,I.free,I.freeC,I.pin,I.hok,I.len⟩
theorem Inv.unwish(I:Inv (X.wish E) pins σ H s):Inv X pins σ H s:=⟨I.ok.unwish,I.os,I.bare,I.base,I.loc,I.cell,I.free,I.freeC,I.pin,I.hok,I.len⟩
theorem SP.unwish{D:Ends}{f:Flow}{s':Shared}(h:SP (X.wish E) pins D f s'):SP X pins D f s':=by
 cases f with
 |next=>obtain⟨σ',H',I,q⟩:=h;exact⟨σ',H',I.unwish,q⟩
 |brk=>obtain⟨σ',H',I,q⟩:=h;exact⟨σ',H',I.unwish,q⟩
 |cont=>obtain⟨σ',H',I,q⟩:=h;exact⟨σ',H',I.unwish,q⟩
 |ret u=>obtain⟨v,σ',H',I,r,q⟩:=h;exact⟨v,σ',H',I.unwish,r,q⟩
theorem PE.nox{e:Expr}{t:TE}(h:PE X.nox e t):PE X e t:=λpins s σ H Q I hw =>wpAny_mono (h pins s σ H Q (I.wish _) hw) (λ_ _ ⟨v,H',I',r,q⟩=>⟨v,H',I'.unwish,r,q⟩) λ_ _ z=>False.elim z
theorem PT.nox{e:Expr}{t:TT}(h:PT X.nox e t):PT X e t:=λpins s σ H Q I hw =>wpAny_mono (h pins s σ H Q (I.wish _) hw) (λ_ _ ⟨H',I',q⟩=>⟨H',I'.unwish,q⟩) λ_ _ z=>False.elim z
theorem PSs.nox{st:List Stmt}{t:TS}(h:PSs X.nox st t):PSs X st t:=λpins s σ H D I hw =>wpAny_mono (h pins s σ H D (I.wish _) hw) (λ_ _ q=>q.unwish) λ_ _ z=>False.elim z
end
section
variable {X:Cx}{st:Stmt}{rest:List Stmt}{t u:TS}{e:Expr}{te:TE}{pos:Pos}
def qc:TS:=λD σ H=>D.nx σ H
def bV(t u:TS):TS:=λD σ H=>t { D with nx:=u D } σ H
theorem aQ:PSs X [] qc:=λ_ _ σ H _ I h=>wpAny_execs_nil ⟨σ,H,I,h⟩
theorem ah(h1:PS X st t)(h2:PSs X rest u):PSs X (st::rest) (bV t u):=by
 intro pins s σ H D I h;refine wpAny_execs_cons (thn (h1 pins s σ H { D with nx:=u D } I h) λf s1 q=>?_);cases f with
 |next =>obtain⟨σ',H',I',q⟩:=q;exact h2 pins s1 σ' H' D I' q
 |ret v=>exact q
 |brk=>exact q
 |cont=>exact q
theorem al(h1:PS X st t):PSs X [st] t:=by
 intro pins s σ H D I h;refine wpAny_execs_cons (thn (h1 pins s σ H D I h) λf s1 q=>?_);cases f with
 |next=>exact wpAny_execs_nil q
 |ret v=>exact q
 |brk=>exact q
 |cont=>exact q
theorem Inv.quiet{pins:List (Addr×Obj)}{σ:St}{H:Hp}{s:Shared}(I:Inv X pins σ H s):interactive X.env=false:=by simp[interactive,I.ok.kind]
def kK(te:TE):TS:=λD σ H=>te σ H λ_ H1=>D.nx σ H1
theorem dQ(he:PE X e te)(hs:swapsWith e none pos.line X.env=pure false:=by rfl):PS X (.Expr e pos) (kK te):=by intro pins s σ H D I h;exact wpAny_Expr_any (thn (he pins s σ H _ I h) λv s1 ⟨x,H1,I1,r1,q1⟩=>⟨σ,H1,I1,q1⟩) I.quiet hs
def pY(te:TE):TS:=λD σ H=>te σ H D.rt
theorem aA(he:PE X e te):PS X (.Return (some e) pos) (pY te):=by intro pins s σ H D I h;exact wpAny_Return_some (thn (he pins s σ H _ I h) λv s1 ⟨x,H1,I1,r1,q1⟩=>⟨x,σ,H1,I1,r1,q1⟩)
def i8(c:TT)(t u:TS):TS:=λD σ H=>c σ H λb H1=>if b=true then t D σ H1 else u D σ H1
theorem aR{c:Expr}{a b:List Stmt}{tc:TT}(hc:PT X c tc)(ha:PSs X a t)(hb:PSs X b u):PS X (.If c a b pos) (i8 tc t u):=by
 intro pins s σ H D I h;refine wpAny_If (thn (hc pins s σ H _ I h) λd s1 ⟨H1,I1,q1⟩=>?_);cases d with
 |true=>exact ha pins s1 σ H1 D I1 q1
 |false=>exact hb pins s1 σ H1 D I1 q1
def wZ:TS:=λ_ _ _=>False
theorem sL:PS X st wZ:=λ_ _ _ _ _ _ h=>h.elim
end
abbrev TG:=V->St->Hp->(St->Hp->Prop)->Prop
abbrev TGs:=List V->St->Hp->(St->Hp->Prop)->Prop
noncomputable def PG(X:Cx)(target:Expr)(t:TG):Prop :=
 ∀(pins:List (Addr×Obj)) (s:Shared) (σ:St) (H:Hp) (v:V) (u:Value) (Q:St->Hp->Prop),Inv X pins σ H s->RelV v u->t v σ H Q ->
  wpAny (model X.prog X.w) X.A (assign target X.env u) (λ_ s'=>∃σ' H',Inv X pins σ' H' s'/\Q σ' H') X.xe s
noncomputable def PGs(X:Cx)(ts:List Expr)(t:TGs):Prop :=
 ∀(pins:List (Addr×Obj)) (s:Shared) (σ:St) (H:Hp) (vs:List V) (us:List Value) (Q:St->Hp->Prop),Inv X pins σ H s->Vals vs us->t vs σ H Q ->
  wpAny (model X.prog X.w) X.A (assignInOrder ((assignEach ts X.env).map (·.2)) us) (λ_ s'=>∃σ' H',Inv X pins σ' H' s'/\Q σ' H') X.xe s
abbrev oS:=V->V->V->Hp->(Hp->Prop)->Prop
noncomputable def vP(X:Cx)(t:oS):Prop :=
 ∀(pins:List (Addr×Obj)) (s:Shared) (σ:St) (H:Hp) (o i v:V) (ov iv u:Value) (Q:Hp->Prop),Inv X pins σ H s->RelV o ov->RelV i iv->RelV v u->t o i v H Q ->
  wpAny (model X.prog X.w) X.A (setItem ov iv u) (λ_ s'=>∃H',Inv X pins σ H' s'/\Q H') X.xe s
section
variable {X:Cx}{pos:Pos}
def dH(i:Nat):TG:=λv σ H Q=>Q (σ.set i (some v)) H
theorem cj{i:Nat}{x:Str}(hN:X.N.Nodup)(hi:X.N[i]?=some x)(hx:Loc X.env.scope x)(hf:X.fn x=true\/X.env.scope.names.lookup x=some .local:=by first |exact .inl rfl |exact .inr rfl |assumption):PG X (.Name x pos) (dH i):=by intro pins s σ H v u Q I r h;exact wpAny_assign_Name (ja I hN hi hx r (λs' I'=>⟨_,H,I',h⟩) hf)
noncomputable def BO:TGs:=λvs σ H Q=>vs=[]/\Q σ H
noncomputable def BP(t:TG)(u:TGs):TGs:=λvs σ H Q=>∃v r,vs=v::r/\t v σ H λσ' H'=>u r σ' H' Q
theorem gQ:PGs X [] BO:=by intro pins s σ H vs us Q I r h;obtain⟨e,h⟩:=h;subst e;cases r;exact assignInOrder_nil ⟨σ,H,I,h⟩
theorem de{e:Expr}{es:List Expr}{t:TG}{u:TGs}(h1:PG X e t)(h2:PGs X es u)
 (hs:(assignEach (e::es) X.env).map (·.2)=assign e X.env::(assignEach es X.env).map (·.2):=by rfl):PGs X (e::es) (BP t u):=by
 intro pins s σ H vs us Q I r h;obtain⟨v,vr,e1,h⟩:=h;subst e1;cases r with
 |cons r rr =>rw[hs];refine assignInOrder_cons (thn (h1 pins s σ H _ _ _ I r h) λ_ s1 ⟨σ1,H1,I1,q1⟩=>?_);exact h2 pins s1 σ1 H1 _ _ Q I1 rr q1
def uz(K:PySem.W.Frag)(n:Nat)(t:TGs):TG:=λv σ H Q=>∃a xs,v=.ref a/\SqT K H a xs/\xs.length=n/\t xs σ H Q
theorem gR{es:List Expr}{k:Nat}{t:TGs}{n:Nat}(hc:X.calm=true)(h:PGs X es t)
 (hn:(assignEach es X.env).length=n:=by rfl) (hst:(assignEach es X.env).findIdx? (·.1)=none:=by rfl):PG X (.Tuple es k pos) (uz X.K n t):=by
 intro pins s σ H v u Q I r hw;obtain⟨a,xs,e1,hq,hl,hw⟩:=hw;subst e1;cases r;obtain⟨its,rv,ht,hz⟩:=I.tuple hq;refine assign_Tuple_tuple (I.ok.hd hc) ht (by simp[hn,<- hl,rv.length]) hst λh' hx=>?_
 have I1:Inv X pins σ H { s with heap:=h' }:=I.kept (t':=s.toks) λb o e=>hx b o (FL (Heap.lt_size e)) e
 exact h pins _ σ H xs _ Q I1 (by simpa using rv) hw
def BN(to ti:TE)(t:oS):TG:=λv σ H Q=>to σ H λo H1=>ti σ H1 λi H2=>t o i v H2 λH3=>Q σ H3
theorem gS{o i:Expr}{to ti:TE}{t:oS}(ho:PE X o to)(hi:PE X i ti)(hs:vP X t)
 (ha:∀v,assign (.Subscript o i pos) X.env v=(do
   let ov <- holding [v] (eval o X.env)
   let iv <- holding [v,ov] (eval i X.env)
   standAt pos
   holding [v,ov,iv] (setItem ov iv v)
   release [v,ov,iv] []):=by intro _;rfl):PG X (.Subscript o i pos) (BN to ti t):=by
 intro pins s σ H v u Q I r h;rw[ha];refine wpAny_bind (wpAny_holding (thn (ho pins s σ H _ I h) λov s1 ⟨x,H1,I1,r1,q1⟩=>?_));refine wpAny_bind (wpAny_holding (thn (hi pins s1 σ H1 _ I1 q1) λiv s2 ⟨y,H2,I2,r2,q2⟩=>?_));refine wpAny_bind (wpAny_standAt (wpAny_bind (wpAny_holding (thn (hs pins s2 σ H2 x y v ov iv u _ I2 r1 r2 r q2) λ_ s3 ⟨H3,I3,q3⟩=>?_))));exact wpAny_release ⟨σ,H3,I3,q3⟩
def eO(te:TE)(g:TG):TS:=λD σ H=>te σ H λx H1=>g x σ H1 D.nx
theorem gO{tg e:Expr}{te:TE}{g:TG}(he:PE X e te)(hg:PG X tg g)(hs:swapsWithSole [tg] e pos.line X.env=pure false:=by rfl)(hw:swappedStores [tg] e X.env=pure none:=by rfl)
 (h1:(assignEach [tg] X.env).map (·.2)=[assign tg X.env]:=by rfl):PS X (.Assign [tg] e pos) (eO te g):=by
 intro pins s σ H D I h;refine wpAny_Assign_stores (thn (he pins s σ H _ I h) λv s1 ⟨x,H1,I1,r1,q1⟩=>?_) hs hw;rw[h1];exact thn (hg pins s1 σ H1 x v _ I1 r1 q1) λ_ s2 q=>q
theorem yL{i:Nat}{x:Str}{e:Expr}{te:TE}{pos':Pos}(hN:X.N.Nodup)(hi:X.N[i]?=some x)(hx:Loc X.env.scope x)(he:PE X e te)(hs:swapsWith e (some (.Name x pos')) pos.line X.env=pure false:=by rfl)(hf:X.fn x=true\/X.env.scope.names.lookup x=some .local:=by first |exact .inl rfl |exact .inr rfl |assumption) :
 PS X (.Assign [.Name x pos'] e pos) (eO te (dH i)):=by
 intro pins s σ H D I h;refine wpAny_Assign_Name (thn (he pins s σ H _ I h) λv s1 ⟨y,H1,I1,r1,q1⟩=>?_) hs;exact ja I1 hN hi hx r1 (λs2 I2=>⟨_,H1,I2,q1⟩) hf
def wX(i j:Nat)(ta:TA):TS:=λD σ H=>ta σ H λvs H1=>∃v w,vs=[v,w]/\D.nx ((σ.set i (some v)).set j (some w)) H1
theorem yM{i j:Nat}{x y:Str}{a b:Expr}{ta:TA}{px py pt:Pos}{kt k2 pt2}(hc:X.calm=true)(hN:X.N.Nodup)(hi:X.N[i]?=some x)(hj:X.N[j]?=some y)(hij:i≠j)
 (hx:X.env.scope.names.lookup x=some .local) (hy:X.env.scope.names.lookup y=some .local) (ha:PA X [a,b] ta)
 (hw:swappedStores [.Tuple [.Name x px,.Name y py] kt pt] (.Tuple [a,b] k2 pt2) X.env=pure (some [x,y]))
 (hs:swapsWithSole [.Tuple [.Name x px,.Name y py] kt pt] (.Tuple [a,b] k2 pt2) pos.line X.env=pure false:=by rfl) :
 PS X (.Assign [.Tuple [.Name x px,.Name y py] kt pt] (.Tuple [a,b] k2 pt2) pos) (wX i j ta):=by
 intro pins s σ H D I h;rw[exec_Assign_arm];refine wpAny_bind (wpAny_standAt ?_);rw[hs];refine wpAny_bind (wpAny_pure ?_);rw[if_neg (by decide)];refine wpAny_bind (Tuple_ (thn (ha _ pins s σ H _ I h) λus s1 ⟨vs,H1,I1,r1,q1⟩=>?_));obtain⟨v,w,e1,q1⟩:=q1;subst e1
 obtain⟨u1,u2,rfl,rv,rw'⟩:∃u1 u2,us=[u1,u2]/\RelV v u1/\RelV w u2:=by
  cases r1 with
  |cons p q =>
   cases q with
   |cons p' q' =>cases q';exact⟨_,_,rfl,p,p'⟩
 refine wpAny_newObj_type ?_ (by show 2<=sizeLine;decide);have I2:Inv X pins σ H1 { s1 with heap:=s1.heap.push { cls:=.type "tuple",data:=.seq [u1,u2].toArray } }:=I1.kept (t':=s1.toks) λb o e=>Heap.get?_push_of_some _ e
 rw[hw];refine wpAny_bind (wpAny_pure ?_);show wpAny (model X.prog X.w) X.A (do rule "assign.swapped-stores";let items <- unpackItems (.ref s1.heap.objs.size) 2 none;assignInOrder [λv=>bindName X.env y v,λv=>bindName X.env x v] items.reverse;pure Flow.next) _ _ _;refine wpAny_bind (wpAny_rule (wpAny_bind (unpackItems_tuple (items:=#[u1,u2]) (I.ok.hd hc) (IsTup.new s1.heap _) λh' hx'=>?_)));have I3:=I2.kept (h':=h') (t':=s1.toks) λb o e=>hx' b o (FL (Heap.lt_size e)) e
 show wpAny _ _ (assignInOrder [λv=>bindName X.env y v,λv=>bindName X.env x v] [u2,u1] >>= λ_=>pure Flow.next) _ _ _;refine wpAny_bind (assignInOrder_cons (wpAny_bindName (ja I3 hN hj (.inl hy) rw' (λs2 I4=>?_) (.inr hy))));refine assignInOrder_cons (wpAny_bindName (ja I4 hN hi (.inl hx) rv (λs3 I5=>assignInOrder_nil (wpAny_pure ?_)) (.inr hx)));rw[List.set_comm _ _ (Ne.symm hij)]at I5;exact⟨_,H1,I5,q1⟩
end
section
variable {X:Cx}{pos:Pos}
def wU(c:TT)(tb:TS):TS:=λD σ H=>∃W:Nat->St->Hp->Prop,(∃m,W m σ H)/\∀m σ H,W m σ H ->
 c σ H λb H1=>if b=true then ∃N:St->Hp->Prop,(∀σ' H',N σ' H'->∃m',m'<m/\W m' σ' H')/\tb { D with nx:=N,ct:=N,bk:=D.nx } σ H1 else D.nx σ H1
theorem dB{c:Expr}{body:List Stmt}{tc:TT}{tb:TS}(hp:PassesOwn (model X.prog X.w) X.A X.env X.xe)(hc:PT X c tc)(hb:PSs X body tb):PS X (.While c body [] pos) (wU tc tb):=by
 intro pins s σ H D I h;obtain⟨W,⟨m0,w0⟩,turn⟩:=h;refine wpAny_While (codeAny_whileLoop (λn s'=>∃σ' H',Inv X pins σ' H' s'/\W n σ' H') ?_ m0 ⟨σ,H,I,w0⟩);rintro n s1 ⟨σ1,H1,I1,w1⟩;refine wpAny_passesOwn hp (thn (hc pins s1 σ1 H1 _ I1 (turn n σ1 H1 w1)) λb s2 ⟨H2,I2,q2⟩=>?_);cases b with
 |true =>
  obtain⟨N,hN,q2⟩:=q2;rw[if_pos rfl];refine wpAny_passesOwn hp (thn (hb pins s2 σ1 H2 _ I2 q2) λf s3 q3=>?_);cases f with
  |next =>obtain⟨σ3,H3,I3,n3⟩:=q3;obtain⟨m',hm,w3⟩:=hN σ3 H3 n3;exact⟨m',hm,σ3,H3,I3,w3⟩
  |cont =>obtain⟨σ3,H3,I3,n3⟩:=q3;obtain⟨m',hm,w3⟩:=hN σ3 H3 n3;exact⟨m',hm,σ3,H3,I3,w3⟩
  |brk=>exact q3
  |ret v=>exact q3
 |false =>rw[if_neg GU];exact wpAny_execs_nil ⟨σ1,H2,I2,q2⟩
end
structure It where
 go:Nat->Hp->Prop
 yld:Nat->Hp->V->Hp->Prop
 stop:Nat->Hp->Prop
noncomputable def eh(X:Cx)(pins:List (Addr×Obj))(H:Hp)(b:Addr):Prop :=
 H b=none/\b≠X.env.locals/\b∉X.fs/\(b∈X.ex\/X.s₀.heap.objs.size<=b)/\(∀x c,X.env.cells.lookup x=some c->c≠b)/\∀p∈X.pn++pins,p.1≠b
theorem Inv.fpOk{X:Cx}{pins:List (Addr×Obj)}{σ:St}{H H':Hp}{s:Shared}{b:Addr}(I:Inv X pins σ H s)(hb:s.heap.objs.size<=b)(hn:H' b=none):eh X pins H' b:=by
 refine⟨hn,Nat.ne_of_gt (FN I.lt hb),I.nofs hb,.inr (Fu I.sz hb),λx c e z=>?_,λp hp z=>?_⟩
 ·obtain⟨v,q⟩:=I.cell x c e;exact absurd (FN q.lt (by rw[z];exact hb)) (Ge _)
 ·exact absurd (FN (Heap.lt_size (I.pin p hp).1) (by rw[z];exact hb)) (Ge _)
structure Turn(P:Program)(w:World)(K:PySem.W.Frag)(tg:Expr)(J:It)(fp:List Addr)(it:Addr)(tn:Nat->Heap->Prop):Prop where
 mem:it∈fp
 obj:∀i h,tn i h->∀b∈fp,∃o,h.get? b=some o/\∀v,o.data≠.cell v
 keep:∀i h h',tn i h->(∀b∈fp,∀o,h.get? b=some o->h'.get? b=some o)->tn i h'
 item:∀(X:Cx),X.prog=P->X.w=w->X.K=K->X.calm=true->∀(i:Nat) (pins:List (Addr×Obj)) (s:Shared) (σ:St) (H:Hp) (E:Value->Shared->Prop),Inv X pins σ H s->(∀b∈fp,eh X pins H b)->tn i s.heap->J.go i H ->
  wpAny (model P w) X.A (pyNext (.ref it)) (λr s1=>∃u,r=some u /\
   wpAny (model P w) X.A (letOwnedTupleGo tg (.ref it) u) (λ_ s2=>∃x H',Inv X pins σ H' s2/\RelV x u/\J.yld i H x H'/\tn (i+1) s2.heap/\∀b∈fp,H' b=none) E s1) E s
 done:∀(X:Cx),X.prog=P->X.w=w->X.K=K->X.calm=true->∀(i:Nat) (pins:List (Addr×Obj)) (s:Shared) (σ:St) (H:Hp) (E:Value->Shared->Prop),Inv X pins σ H s->(∀b∈fp,eh X pins H b)->tn i s.heap->J.stop i H ->
  wpAny (model P w) X.A (pyNext (.ref it)) (λr s1=>r=none/\Inv X pins σ H s1) E s
 self:∀(A:Around) (i:Nat) (s:Shared) (Q:Value->Shared->Prop) (E:Value->Shared->Prop),tn i s.heap->Q (.ref it) s->wpAny (model P w) A (pyIter (.ref it)) Q E s
abbrev TI:=St->Hp->(It->Hp->Prop)->Prop
noncomputable def PIE(X:Cx)(pins:List (Addr×Obj))(σ:St)(tg:Expr)(R:It->Hp->Prop)(itv:Value)(s2:Shared):Prop :=
 ∃(it:Addr) (fp:List Addr) (tn:Nat->Heap->Prop) (J:It) (H':Hp),itv=.ref it/\Inv X pins σ H' s2/\Turn X.prog X.w X.K tg J fp it tn/\tn 0 s2.heap/\(∀b∈fp,eh X pins H' b)/\R J H'
noncomputable def PI(X:Cx)(tg iter:Expr)(wi:TI):Prop :=
 ∀(pins:List (Addr×Obj)) (s:Shared) (σ:St) (H:Hp) (R:It->Hp->Prop),Inv X pins σ H s->wi σ H R ->
  wpAny (model X.prog X.w) X.A (eval iter X.env) (λv s1=>wpAny (model X.prog X.w) X.A (pyIter v) (PIE X pins σ tg R) X.xe s1) X.xe s
theorem jW{M:Model}{A:Around}{E:Value->Shared->Prop}{s:Shared}{tg:Expr}{it:Addr}{u:Value}{o:Obj}{n:String}{vs:Array Value}{Q:Unit->Shared->Prop}(ho:s.heap.get? it=some o)(hc:o.cls=.type n)(hd:o.data=.fields vs)
 (hn:["enumerate","zip","dict_itemiterator","dict_reverseitemiterator","odict_iterator","itertools.zip_longest","itertools.pairwise"].contains n=false) (hQ:Q () s):wpAny M A (letOwnedTupleGo tg (.ref it) u) Q E s:=by
 unfold letOwnedTupleGo
 cases tg<;>first
  |exact wpAny_pure hQ
  | (cases u<;>first
      |exact wpAny_pure hQ
      | (refine wpAny_bind (wpAny_load ho ?_)
         rw[hc,hd];show wpAny M A (if(["enumerate","zip","dict_itemiterator","dict_reverseitemiterator","odict_iterator","itertools.zip_longest","itertools.pairwise"].contains n&&vs[0]? == some (rawInt _))=true then _ else _) Q E s;rw[if_neg (by intro h;rw[hn,Bool.false_and]at h;cases h)]
         exact wpAny_pure hQ))
noncomputable def Itl(K:PySem.W.Frag)(a:Addr):It :=
 ⟨λi H=>∃xs x,SqL K H a xs/\xs[i]?=some x,λi H x H'=>H'=H/\∀xs,SqL K H a xs->xs[i]?=some x,λi H=>∃xs,SqL K H a xs/\xs.length<=i⟩
noncomputable def Itr(lo:Int)(n:Nat):It:=⟨λi _=>i<n,λi H x H'=>H'=H/\x=.int (lo+i),λi _=>n<=i⟩
theorem wE{P:Program}{w:World}{K:PySem.W.Frag}{tg:Expr}(a it:Addr):Turn P w K tg (Itl K a) [it] it (λi h=>h.IsListIter it a i) where
 mem:=by simp
 obj:=λi h st b hb=>by
  have e:b=it:=by simpa using hb
  subst e;obtain⟨o,e,c,d⟩:=st;exact⟨o,e,λv z=>by rw[d]at z;cases z⟩
 keep:=λi h h' st k=>st.at λo e=>k it (by simp) o e
 item:=by
  intro X hP hw hK hc i pins s σ H E I hf st hg;subst hP hw hK;obtain⟨xs,x,hq,hx⟩:=hg;obtain⟨its,rv,p,hz⟩:=I.list hq;obtain⟨u,hu,ru⟩:=rv.get hx;obtain⟨f0,f1,f2,f3,f4,f5⟩:=hf it (by simp);refine wpAny_pyNext_list_item st p.isList (x:=u) (by simpa using hu) λh' st' sb=>?_
  have I1:Inv X pins σ H { s with heap:=h' }:=I.turned (t':=s.toks) (λb o hb e=>(sb.2 b hb).trans e) f0 f1 f3 f4 f5;obtain⟨o,e,c,d⟩:=id st';exact⟨u,rfl,jW (s:={ s with heap:=h' }) e c d (by decide) ⟨x,H,I1,ru,⟨rfl,λys hy=>by rw[I.list_inj hy hq];exact hx⟩,st',λb hb=>(hf b hb).1⟩⟩
 done:=by intro X hP hw hK hc i pins s σ H E I hf st hg;subst hP hw hK;obtain⟨xs,hq,hx⟩:=hg;obtain⟨its,rv,p,hz⟩:=I.list hq;obtain⟨f0,f1,f2,f3,f4,f5⟩:=hf it (by simp);have hl:=rv.length;exact wpAny_pyNext_list_end (I.ok.hd hc) st p.isList (by simp;omega) λh' eb=>⟨rfl,I.turned (t':=s.toks) (λb o hb e=>eb b o hb e) f0 f1 f3 f4 f5⟩
 self:=λ_ _ _ _ _ st h=>wpAny_pyIter_listiter st h
theorem wD{P:Program}{w:World}{K:PySem.W.Frag}{tg:Expr}(it:Addr)(lo:Int)(n:Nat):Turn P w K tg (Itr lo n) [it] it (λi h=>IsRangeIter h it (lo+(i:Nat)*1) ((n:Int)-(i:Nat)) 1) where
 mem:=by simp
 obj:=λi h st b hb=>by
  have e:b=it:=by simpa using hb
  subst e
  exact⟨_,st,λv z=>by
   have z':Data.fields _=Data.cell v:=z
   cases z'⟩
 keep:=λi h h' st k=>k it (by simp) _ st
 item:=by
  intro X hP hw hK hc i pins s σ H E I hf st hg;subst hP hw hK;obtain⟨f0,f1,f2,f3,f4,f5⟩:=hf it (by simp);have W:=Walks.range (prog:=X.prog) (w:=X.w) (I.ok.hd hc) it lo 1 n;refine W.item i s _ _ hg st λv h' tk hv st' kk=>?_
  obtain⟨t,rfl⟩:=hv;have I1:Inv X pins σ H { s with heap:=h',toks:=tk }:=I.turned (λb o hb e=>kk b o (by simpa using hb) e) f0 f1 f3 f4 f5;refine⟨_,rfl,jW (s:={ s with heap:=h',toks:=tk }) (n:="range_iterator") st' rfl rfl (by decide) ⟨.int (lo+i),H,I1,⟨t,?_⟩,⟨rfl,rfl⟩,st',λb hb=>(hf b hb).1⟩⟩;rw[Int.mul_one]
 done:=by intro X hP hw hK hc i pins s σ H E I hf st hg;subst hP hw hK;obtain⟨f0,f1,f2,f3,f4,f5⟩:=hf it (by simp);exact wpAny_pyNext_range_end (I.ok.hd hc) st (by have:n<=i:=hg;omega) λh' eb=>⟨rfl,I.turned (t':=s.toks) (λb o hb e=>eb b o hb e) f0 f1 f3 f4 f5⟩
 self:=λ_ _ _ _ _ st h=>wpAny_pyIter_rangeiter st h
section
variable {X:Cx}{tg:Expr}
def ur(K:PySem.W.Frag)(tl:TE):TI:=λσ H R=>tl σ H λx H1=>∃a,x=.ref a/\(∃xs,SqL K H1 a xs)/\R (Itl K a) H1
theorem yZ{l:Expr}{tl:TE}(hl:PE X l tl):PI X tg l (ur X.K tl):=by
 intro pins s σ H R I h;refine thn (hl pins s σ H _ I h) λv s1 ⟨x,H1,I1,r1,q1⟩=>?_
 obtain⟨a,e,⟨xs,hq⟩,q⟩:=q1;subst e;cases r1;obtain⟨its,rv,p,hz⟩:=I1.list hq;refine wpAny_pyIter_list p.isList ?_;refine⟨s1.heap.objs.size,[s1.heap.objs.size],_,_,H1,rfl,I1.kept (t':=s1.toks) λb o e=>Heap.get?_push_of_some _ e,wE a _,⟨_,Heap.get?_push_size _ rfl,rfl,rfl⟩,λb hb=>?_,q⟩;have e:b=s1.heap.objs.size:=by simpa using hb
 subst e;exact I1.fpOk (Fg _) (I1.hok.fresh (Fg _))
theorem rY{pins:List (Addr×Obj)}{σ:St}{H:Hp}{s:Shared}{R:It->Hp->Prop}{E:Value->Shared->Prop}{lo hi:Int}{t u v:Tok}{tk:Nat}(I:Inv X pins σ H s)(h1 : -(2^62)<=lo)(h2:lo<2^62)(h3 : -(2^62)<=hi)(h4:hi<2^62)
 (q:R (Itr lo (hi-lo).toNat) H):wpAny (model X.prog X.w) X.A (pyIter (.ref s.heap.objs.size)) (PIE X pins σ tg R) E { s with heap:=s.heap.push { cls:=.type "range",data:=.fields #[.int lo t,.int hi u,.int 1 v] },toks:=tk }:=by
 refine wpAny_pyIter_range (IsRange.new ..) (small_one h1 h2 h3 h4) ?_;have I1:Inv X pins σ H { s with heap:=s.heap.push { cls:=.type "range",data:=.fields #[.int lo t,.int hi u,.int 1 v] },toks:=tk }:=I.kept λb o e=>Heap.get?_push_of_some _ e
 refine⟨(s.heap.push { cls:=.type "range",data:=.fields #[.int lo t,.int hi u,.int 1 v] }).objs.size,[(s.heap.push { cls:=.type "range",data:=.fields #[.int lo t,.int hi u,.int 1 v] }).objs.size],_,_,H,rfl,
  I1.kept (t':=tk) λb o e=>Heap.get?_push_of_some _ e,wD _ lo (hi-lo).toNat,?_,λb hb=>?_,q⟩
 ·have e1:lo+((0:Nat):Int)*1=lo:=by simp
  have e2:(((hi-lo).toNat:Nat):Int)-((0:Nat):Int)=Builtin.Range.rangeSize lo hi 1:=by rw[rangeSize_one];split<;>omega
  show IsRangeIter _ _ (lo+((0:Nat):Int)*1) ((((hi-lo).toNat:Nat):Int)-((0:Nat):Int)) 1;rw[e1,e2];exact Heap.get?_push_size _ rfl
 ·have e:b=(s.heap.push { cls:=.type "range",data:=.fields #[.int lo t,.int hi u,.int 1 v] }).objs.size:=by simpa using hb
  subst e;exact I1.fpOk (Fg _) (I1.hok.fresh (Fg _))
def Bv(ta:TA):TI:=λσ H R=>ta σ H λvs H1=>∃j:Int,vs=[.int j] /\ -(2^62)<=j/\j<2^62/\R (Itr 0 j.toNat) H1
def Bu(ta:TA):TI:=λσ H R=>ta σ H λvs H1=>∃i j:Int,vs=[.int i,.int j]/\(-(2^62)<=i/\i<2^62 /\ -(2^62)<=j/\j<2^62)/\R (Itr i (j-i).toNat) H1
theorem iH{a:Expr}{ta:TA}{p pos:Pos}(hg:Gl X "range")(hm:X.mg "range"=none)(ha:PA X [a] ta)(hs:starEach [a] X.env=[(false,eval a X.env)]:=by rfl):PI X tg (.Call (.Name "range" p) [a] [] pos) (Bv ta):=by
 intro pins s σ H R I h;refine Call_ (dF I hg hm boot_range (PyProof.Rows.callWith_type1 (thn (ha pos pins s σ H _ I h) λus s1 ⟨vs,H1,I1,r1,q1⟩=>?_) hs rfl));obtain⟨j,e,q1,q2,q⟩:=q1;subst e;cases r1 with
 |cons r rr =>cases rr;obtain⟨t,rfl⟩:=r;exact call_range_1 (rY I1 (by omega) (by omega) q1 q2 (by simpa using q))
theorem sW{a b:Expr}{ta:TA}{p pos:Pos}(hg:Gl X "range")(hm:X.mg "range"=none)(ha:PA X [a,b] ta)(hs:starEach [a,b] X.env=[(false,eval a X.env),(false,eval b X.env)]:=by rfl)(hs2:starEach [b] X.env=[(false,eval b X.env)]:=by rfl) :
 PI X tg (.Call (.Name "range" p) [a,b] [] pos) (Bu ta):=by
 intro pins s σ H R I h;refine Call_ (dF I hg hm boot_range (PyProof.Rows.callWith_type1 (thn (ha pos pins s σ H _ I h) λus s1 ⟨vs,H1,I1,r1,q1⟩=>?_) (by rw[hs,hs2]) (by rw[hs2];rfl)));obtain⟨i,j,e,⟨q1,q2,q3,q4⟩,q⟩:=q1;subst e;cases r1 with
 |cons r rr =>
  cases rr with
  |cons r' rr =>cases rr;obtain⟨t,rfl⟩:=r;obtain⟨t',rfl⟩:=r';exact call_range_2 (rY I1 q1 q2 q3 q4 q)
def w6(wi:TI)(g:TG)(tb:TS):TS:=λD σ H=>wi σ H λJ H1=>∃W:Nat->Nat->St->Hp->Prop,(∃m,W 0 m σ H1)/\∀i m σ H,W i m σ H ->
 (J.stop i H/\D.nx σ H)\/(J.go i H/\∃N:St->Hp->Prop,(∀σ' H',N σ' H'->∃m',m'<m/\W (i+1) m' σ' H')/\∀x H',J.yld i H x H'->g x σ H' λσ2 H2=>tb { D with nx:=N,ct:=N,bk:=D.nx } σ2 H2)
noncomputable def jE(fp:List Addr)(h:Heap):List (Addr×Obj):=fp.filterMap λb=>(h.get? b).map λo=>(b,o)
theorem jM{fp:List Addr}{h:Heap}{b:Addr}{o:Obj}(hb:b∈fp)(e:h.get? b=some o):(b,o)∈jE fp h:=List.mem_filterMap.mpr ⟨b,hb,by rw[e];rfl⟩
theorem Ar{fp:List Addr}{h:Heap}{p:Addr×Obj}(hp:p∈jE fp h):p.1∈fp/\h.get? p.1=some p.2:=by
 obtain⟨b,hb,e⟩:=List.mem_filterMap.mp hp;cases q:h.get? b with
 |none=>rw[q]at e;cases e
 |some o =>rw[q]at e;have e':(b,o)=p:=Option.some.inj e;subst e';exact⟨hb,q⟩
theorem Inv.pinned{pins:List (Addr×Obj)}{σ:St}{H:Hp}{s:Shared}{fp:List Addr}(I:Inv X pins σ H s)(hf:∀b∈fp,eh X pins H b)(ho:∀b∈fp,∃o,s.heap.get? b=some o/\∀v,o.data≠.cell v):Inv X (pins++jE fp s.heap) σ H s :=
 I.pins_of λp hp=>(Fq.mp hp).elim (λz=>I.pin p (FX _ z)) λz=>by obtain⟨hb,e⟩:=Ar z;obtain⟨f0,f1,f2,_⟩:=hf p.1 hb;obtain⟨o,e',d⟩:=ho p.1 hb;rw[e]at e';cases e';exact⟨e,f0,f1,f2,d⟩
theorem Inv.unpinned{pins pl:List (Addr×Obj)}{σ:St}{H:Hp}{s:Shared}(I:Inv X (pins++pl) σ H s):Inv X pins σ H s:=I.pins_of λp hp=>I.pin p (FX _ (Gq _ hp))
theorem bM{iter:Expr}{body:List Stmt}{wi:TI}{g:TG}{tb:TS}{pos:Pos}(hp:PassesOwn (model X.prog X.w) X.A X.env X.xe)(hc:X.calm=true)(hi:PI X tg iter wi)(hg:PG X tg g)(hb:PSs X body tb)
 (hs:∀x,foldedSetIterable iter X.env x=pure x:=by intro _;rfl):PS X (.For tg iter body [] pos) (w6 wi g tb):=by
 intro pins s σ H D I h;refine wpAny_For (thn (hi pins s σ H _ I h) λv s1 h1=>thn h1 λitv s2 h2=>?_) hs;obtain⟨it,fp,tn,J,H2,e,I2,T,st2,f2,W,⟨m0,w0⟩,turn⟩:=h2;subst e;have stat:∀{H':Hp},(∀b∈fp,H' b=none)->∀b∈fp,eh X pins H' b:=λhn b hb=>⟨hn b hb,(f2 b hb).2⟩
 refine codeAny_forLoop_any (λn s'=>∃i σ' H',Inv X pins σ' H' s'/\tn i s'.heap/\(∀b∈fp,H' b=none)/\W i n σ' H') ?_ m0 ⟨0,σ,H2,I2,st2,λb hb=>(f2 b hb).1,w0⟩;rintro n s3 ⟨i,σ3,H3,I3,st3,fr3,w3⟩;rcases turn i n σ3 H3 w3 with⟨stop,qn⟩ |⟨go,N,hN,step⟩
 ·refine wpAny_passesOwn hp (thn (T.done X rfl rfl rfl hc i pins s3 σ3 H3 X.xe I3 (stat fr3) st3 stop) λr s4 ⟨hr,I4⟩=>?_);subst hr;exact wpAny_execs_nil ⟨σ3,H3,I4,qn⟩
 ·refine wpAny_passesOwn hp (thn (T.item X rfl rfl rfl hc i pins s3 σ3 H3 X.xe I3 (stat fr3) st3 go) λr s4 ⟨u,hr,h4⟩=>?_);subst hr;refine wpAny_passesOwn hp (thn h4 λ_ s5 ⟨x,H5,I5,r5,y5,st5,fr5⟩=>?_);have I5':=I5.pinned (stat fr5) (T.obj _ _ st5);refine wpAny_passesOwn hp (thn (hg _ s5 σ3 H5 x u _ I5' r5 (step x H5 y5)) λ_ s6 ⟨σ6,H6,I6,q6⟩=>?_);refine wpAny_passesOwn hp (thn (hb _ s6 σ6 H6 _ I6 q6) λf s7 q7=>?_)
  have again:∀{σ7:St} {H7:Hp},Inv X (pins++jE fp s5.heap) σ7 H7 s7->N σ7 H7->∃m,m<n/\∃i σ' H',Inv X pins σ' H' s7/\tn i s7.heap/\(∀b∈fp,H' b=none)/\W i m σ' H':=λ{σ7 H7} I7 n7=>by obtain⟨m',hm,w7⟩:=hN σ7 H7 n7;refine⟨m',hm,i+1,σ7,H7,I7.unpinned,T.keep _ _ _ st5 λb hb o e=>(I7.pin (b,o) (FX _ (FX _ (jM hb e)))).1,λb hb=>?_,w7⟩;obtain⟨o,e,d⟩:=T.obj _ _ st5 b hb;exact(I7.pin (b,o) (FX _ (FX _ (jM hb e)))).2.1
  cases f with
  |next=>obtain⟨σ7,H7,I7,n7⟩:=q7;exact again I7 n7
  |cont=>obtain⟨σ7,H7,I7,n7⟩:=q7;exact again I7 n7
  |brk=>obtain⟨σ7,H7,I7,q7⟩:=q7;exact⟨σ7,H7,I7.unpinned,q7⟩
  |ret v=>obtain⟨x7,σ7,H7,I7,r7,q7⟩:=q7;exact⟨x7,σ7,H7,I7.unpinned,r7,q7⟩
end
theorem dY{K:PySem.W.Frag}{a:Addr}{xs:List V}{g:TG}{tb:TS}{D:Ends}{σ:St}{H:Hp}(Pv:Nat->St->Hp->Prop)(h0:Pv 0 σ H)(hl:∀i σ H,i<=xs.length->Pv i σ H->SqL K H a xs)
 (hs:∀i x σ H,xs[i]?=some x->Pv i σ H->g x σ H λσ2 H2=>tb { D with nx:=Pv (i+1),ct:=Pv (i+1),bk:=D.nx } σ2 H2) (hd:∀σ H,Pv xs.length σ H->D.nx σ H) :
 ∃W:Nat->Nat->St->Hp->Prop,(∃m,W 0 m σ H)/\∀i m σ H,W i m σ H ->
  ((Itl K a).stop i H/\D.nx σ H)\/((Itl K a).go i H/\∃N:St->Hp->Prop,(∀σ' H',N σ' H'->∃m',m'<m/\W (i+1) m' σ' H')/\∀x H',(Itl K a).yld i H x H'->g x σ H' λσ2 H2=>tb { D with nx:=N,ct:=N,bk:=D.nx } σ2 H2):=by
 refine⟨λi m σ H=>m=xs.length-i/\i<=xs.length/\Pv i σ H,⟨xs.length,by simp,Fj _,h0⟩,?_⟩;rintro i m σ H ⟨rfl,hi,p⟩;have q:=hl i σ H hi p;by_cases hlt:i<xs.length
 ·refine .inr ⟨⟨xs,xs[i],q,by simp[hlt]⟩,Pv (i+1),λσ' H' p'=>⟨xs.length-(i+1),by omega,rfl,hlt,p'⟩,λx H' y=>?_⟩;obtain⟨e,y⟩:=y;subst e;exact hs i x σ _ (y xs q) p
 ·have e:i=xs.length:=by omega
  subst e;exact .inl ⟨⟨xs,q,Fg _⟩,hd σ H p⟩
theorem ou{lo:Int}{n:Nat}{g:TG}{tb:TS}{D:Ends}{σ:St}{H:Hp}(Pv:Nat->St->Hp->Prop)(h0:Pv 0 σ H)
 (hs:∀i σ H,i<n->Pv i σ H->g (.int (lo+i)) σ H λσ2 H2=>tb { D with nx:=Pv (i+1),ct:=Pv (i+1),bk:=D.nx } σ2 H2) (hd:∀σ H,Pv n σ H->D.nx σ H) :
 ∃W:Nat->Nat->St->Hp->Prop,(∃m,W 0 m σ H)/\∀i m σ H,W i m σ H ->
  ((Itr lo n).stop i H/\D.nx σ H)\/((Itr lo n).go i H/\∃N:St->Hp->Prop,(∀σ' H',N σ' H'->∃m',m'<m/\W (i+1) m' σ' H')/\∀x H',(Itr lo n).yld i H x H'->g x σ H' λσ2 H2=>tb { D with nx:=N,ct:=N,bk:=D.nx } σ2 H2):=by
 refine⟨λi m σ H=>m=n-i/\i<=n/\Pv i σ H,⟨n,by simp,Fj _,h0⟩,?_⟩;rintro i m σ H ⟨rfl,hi,p⟩;by_cases hlt:i<n
 ·refine .inr ⟨hlt,Pv (i+1),λσ' H' p'=>⟨n-(i+1),by omega,rfl,hlt,p'⟩,λx H' y=>?_⟩;obtain⟨e,y⟩:=y;subst e y;exact hs i σ _ hlt p
 ·have e:i=n:=by omega
  subst e;exact .inl ⟨Fg _,hd σ H p⟩
abbrev R2:=V->V->Hp->VK->Prop
noncomputable def OpR(X:Cx)(f:Value->Value->Sem Value)(r:R2):Prop :=
 ∀(pins:List (Addr×Obj)) (s:Shared) (σ:St) (H:Hp) (x y:V) (v u:Value) (Q:VK),Inv X pins σ H s->RelV x v->RelV y u->r x y H Q ->
  wpAny (model X.prog X.w) X.A (f v u) (EP X pins σ Q) X.xe s
noncomputable def UnR(X:Cx)(f:Value->Sem Value)(r:V->Hp->VK->Prop):Prop :=
 ∀(pins:List (Addr×Obj)) (s:Shared) (σ:St) (H:Hp) (x:V) (v:Value) (Q:VK),Inv X pins σ H s->RelV x v->r x H Q ->
  wpAny (model X.prog X.w) X.A (f v) (EP X pins σ Q) X.xe s
noncomputable def CallR(X:Cx)(f:Value)(r:List V->Hp->VK->Prop):Prop :=
 ∀(pins:List (Addr×Obj)) (s:Shared) (σ:St) (H:Hp) (xs:List V) (us:List Value) (Q:VK),Inv X pins σ H s->Vals xs us->r xs H Q ->
  wpAny (model X.prog X.w) X.A (call f us) (EP X pins σ Q) X.xe s
def tOp(r:R2)(ta tb:TE):TE:=λσ H Q=>ta σ H λx H1=>tb σ H1 λy H2=>r x y H2 Q
def tUn(r:V->Hp->VK->Prop)(ta:TE):TE:=λσ H Q=>ta σ H λx H1=>r x H1 Q
def rI(C:Int->Int->Prop)(g:Int->Int->V):R2:=λx y H Q=>∃i j,x=.int i/\y=.int j/\C i j/\Q (g i j) H
def rI0(g:Int->Int->V):R2:=λx y H Q=>∃i j,x=.int i/\y=.int j/\Q (g i j) H
noncomputable def rU(g:Int->V):V->Hp->VK->Prop:=λx H Q=>∃i,x=.int i/\Q (g i) H
section
variable {X:Cx}{a b c:Expr}{ta tb tc:TE}{pos:Pos}
theorem oP(ha:PE X a ta)(hb:PE X b tb){pins:List (Addr×Obj)}{s:Shared}{σ:St}{H:Hp}{R:V->V->Hp->Prop}(I:Inv X pins σ H s)
 (h:ta σ H λx H1=>tb σ H1 λy H2=>R x y H2) {Q:Value->Shared->Prop} {f:Value->Value->Sem Value}
 (hf:∀v u s2 x y H2,Inv X pins σ H2 s2->RelV x v->RelV y u->R x y H2->wpAny (model X.prog X.w) X.A (f v u) Q X.xe s2) :
 wpAny (model X.prog X.w) X.A (eval a X.env) (λv s₁=>wpAny (model X.prog X.w) X.A (eval b X.env) (λu s₂=>wpAny (model X.prog X.w) X.A (f v u) Q X.xe s₂) X.xe s₁) X.xe s:=by
 refine thn (ha pins s σ H _ I h) λv s1 ⟨x,H1,I1,r1,q1⟩=>?_
 refine thn (hb pins s1 σ H1 _ I1 q1) λu s2 ⟨y,H2,I2,r2,q2⟩=>?_
 exact hf v u s2 x y H2 I2 r1 r2 q2
theorem ai{op:Operator}{r:R2}(ho:OpR X (binaryOp op) r)(ha:PE X a ta)(hb:PE X b tb):PE X (.BinOp a op b pos) (tOp r ta tb):=by intro pins s σ H Q I h;exact wpAny_BinOp (oP ha hb I h λv u s2 x y H2 I2 rx ry q=>ho pins s2 σ H2 x y v u Q I2 rx ry q)
theorem bJ{op:UnaryOp}{r:V->Hp->VK->Prop}(ho:UnR X (unaryOp op) r)(ha:PE X a ta):PE X (.UnaryOp op a pos) (tUn r ta):=by intro pins s σ H Q I h;exact UnaryOp_ (thn (ha pins s σ H _ I h) λv s1 ⟨x,H1,I1,r1,q1⟩=>ho pins s1 σ H1 x v Q I1 r1 q1)
theorem opI{f:Value->Value->Sem Value}{C:Int->Int->Prop}{g:Int->Int->Int}
 (rule:∀(i j:Int) (t u:Tok) (s:Shared) (Q:Value->Shared->Prop) (E:Value->Shared->Prop),C i j->Q (.int (g i j) s.toks) { s with toks:=s.toks+1 }->wpAny (model X.prog X.w) X.A (f (.int i t) (.int j u)) Q E s) :
 OpR X f (rI C λi j=>.int (g i j)):=by
 intro pins s σ H x y v u Q I rx ry h;obtain⟨i,j,rfl,rfl,hc,q⟩:=h;obtain⟨t,rfl⟩:=rx;obtain⟨t',rfl⟩:=ry;exact rule i j t t' s _ _ hc ⟨.int (g i j),H,I.tok _,⟨_,rfl⟩,q⟩
theorem tx{f:Value->Value->Sem Value}{g:Int->Int->Int}
 (rule:∀(i j:Int) (t u:Tok) (s:Shared) (Q:Value->Shared->Prop) (E:Value->Shared->Prop),Q (.int (g i j) s.toks) { s with toks:=s.toks+1 }->wpAny (model X.prog X.w) X.A (f (.int i t) (.int j u)) Q E s) :
 OpR X f (rI0 λi j=>.int (g i j)):=by
 intro pins s σ H x y v u Q I rx ry h;obtain⟨i,j,rfl,rfl,q⟩:=h;obtain⟨t,rfl⟩:=rx;obtain⟨t',rfl⟩:=ry;exact rule i j t t' s _ _ ⟨.int (g i j),H,I.tok _,⟨_,rfl⟩,q⟩
theorem gU{f:Value->Value->Sem Value}{g:Int->Int->Bool}
 (rule:∀(i j:Int) (t u:Tok) (s:Shared) (Q:Value->Shared->Prop) (E:Value->Shared->Prop),Q (.bool (g i j)) s->wpAny (model X.prog X.w) X.A (f (.int i t) (.int j u)) Q E s) :
 OpR X f (rI0 λi j=>.bl (g i j)):=by
 intro pins s σ H x y v u Q I rx ry h;obtain⟨i,j,rfl,rfl,q⟩:=h;obtain⟨t,rfl⟩:=rx;obtain⟨t',rfl⟩:=ry;exact rule i j t t' s _ _ ⟨.bl (g i j),H,I,rfl,q⟩
def DT(i j:Int):Prop:=0<=j/\j<=1000000/\i.natAbs<2^64
def CMul(i j:Int):Prop:=(-(2^64)<i/\i<2^64)\/(-(2^64)<j/\j<2^64)
theorem CMul.ok{i j:Int}(h:CMul i j):IntMulOk i j:=by
 rcases h with⟨h1,h2⟩ |⟨h1,h2⟩
 ·exact .of_left (intBits_le_64 h1 h2)
 ·exact .of_right (intBits_le_64 h1 h2)
theorem bC:OpR X (binaryOp .Add) (rI0 λi j=>.int (i+j)):=tx λ_ _ _ _ _ _ _ q=>add_int q
theorem aU:OpR X (binaryOp .Sub) (rI0 λi j=>.int (i-j)):=tx λ_ _ _ _ _ _ _ q=>sub_int q
theorem gT:OpR X (binaryOp .Mult) (rI CMul λi j=>.int (i*j)):=opI λ_ _ _ _ _ _ _ hc q=>mul_int q hc.ok
theorem zn:OpR X (binaryOp .Mod) (rI (λ_ j=>0<j) λi j=>.int (i%j)):=opI λi j _ _ _ _ _ hc q=>by have h1:(0:Int)<j:=hc;exact mod_int' (by omega) (by rw[Int.fmod_eq_emod_of_nonneg i (by omega)];exact q)
theorem zj:OpR X (binaryOp .Pow) (rI DT λi j=>.int (i^j.toNat)):=opI λ_ _ _ _ _ _ _ hc q=>pow_int_small hc.1 hc.2.1 hc.2.2 q
theorem unI{f:Value->Sem Value}{g:Int->Int}
 (rule:∀(i:Int) (t:Tok) (s:Shared) (Q:Value->Shared->Prop) (E:Value->Shared->Prop),Q (.int (g i) s.toks) { s with toks:=s.toks+1 }->wpAny (model X.prog X.w) X.A (f (.int i t)) Q E s) :
 UnR X f (rU λi=>.int (g i)):=by
 intro pins s σ H x v Q I rx h;obtain⟨i,rfl,q⟩:=h;obtain⟨t,rfl⟩:=rx;exact rule i t s _ _ ⟨.int (g i),H,I.tok _,⟨_,rfl⟩,q⟩
theorem bI:UnR X (unaryOp .USub) (rU λi=>.int (-i)):=unI λ_ _ _ _ _ q=>neg_int q
end
section
variable {X:Cx}{a b c:Expr}{ta tb tc:TE}{pos:Pos}
theorem cH:OpR X (compareOp .Lt) (rI0 λi j=>.bl (decide (i<j))):=gU λ_ _ _ _ _ _ _ q=>lt_int q
theorem tf:OpR X (compareOp .LtE) (rI0 λi j=>.bl (decide (i<=j))):=gU λ_ _ _ _ _ _ _ q=>le_int q
theorem b8:OpR X (compareOp .Gt) (rI0 λi j=>.bl (decide (j<i))):=gU λ_ _ _ _ _ _ _ q=>gt_int q
theorem tj:OpR X (compareOp .GtE) (rI0 λi j=>.bl (decide (j<=i))):=gU λ_ _ _ _ _ _ _ q=>ge_int q
theorem OpR.or{f:Value->Value->Sem Value}{r r':R2}(h:OpR X f r)(h':OpR X f r'):OpR X f (λx y H Q=>r x y H Q\/r' x y H Q):=by
 intro pins s σ H x y v u Q I rx ry q;rcases q with q |q
 ·exact h pins s σ H x y v u Q I rx ry q
 ·exact h' pins s σ H x y v u Q I rx ry q
theorem tG(b:Expr){op:CmpOp}(h:op≠.In:=by decide)(h2:op≠.NotIn:=by decide):behindInMarks op b=false:=by
 have e1:(op == CmpOp.In)=false:=by cases op<;>first |rfl |exact absurd rfl h
 have e2:(op == CmpOp.NotIn)=false:=by cases op<;>first |rfl |exact absurd rfl h2
 cases b<;>simp[behindInMarks,e1,e2]
theorem zc{op:CmpOp}{r:R2}(ho:OpR X (compareOp op) r)(ha:PE X a ta)(hb:PE X b tb)(hm:behindInMarks op b=false):PE X (.Compare a [op] [b] pos) (tOp r ta tb):=by intro pins s σ H Q I h;exact wpAny_Compare1 (oP ha hb I h λv u s2 x y H2 I2 rx ry q=>ho pins s2 σ H2 x y v u Q I2 rx ry q) hm
def pX(t:TE):TT:=λσ H Q=>t σ H λx H'=>∃k,x=.bl k/\Q k H'
theorem yK{op:CmpOp}{r:R2}(ho:OpR X (compareOp op) r)(ha:PE X a ta)(hb:PE X b tb)(hm:behindInMarks op b=false):PT X (.Compare a [op] [b] pos) (pX (tOp r ta tb)):=by
 intro pins s σ H Q I h
 refine wpAny_isTrue_Compare1 (thn (ha pins s σ H _ I h) λv s1 ⟨x,H1,I1,r1,q1⟩=>thn (hb pins s1 σ H1 _ I1 q1) λu s2 ⟨y,H2,I2,r2,q2⟩ =>thn (ho pins s2 σ H2 x y v u _ I2 r1 r2 q2) λc s3 ⟨z,H3,I3,r3,k,e,q3⟩=>?_) hm
 subst e;cases r3;exact wpAny_truthy_bool ⟨H3,I3,q3⟩
theorem jR:(sizeLine:Nat)<2^63:=by rw[sizeLine_eq];decide
theorem gm{x:V}{us:List Value}(r:Vals [x] us):∃u,us=[u]/\RelV x u:=by
 cases r with
 |cons r1 r2=>cases r2;exact⟨_,rfl,r1⟩
theorem wx{x y:V}{us:List Value}(r:Vals [x,y] us):∃u w',us=[u,w']/\RelV x u/\RelV y w':=by
 cases r with
 |cons r1 r2 =>
  cases r2 with
  |cons r3 r4=>cases r4;exact⟨_,_,rfl,r1,r3⟩
theorem dq:CallR X (.builtin "abs") (λxs H Q=>∃i,xs=[.int i]/\Q (.int (if i<0 then -i else i)) H):=by intro pins s σ H xs us Q I r h;obtain⟨i,rfl,q⟩:=h;obtain⟨u,rfl,t,rfl⟩:=gm r;exact call_abs_int λu tk=>⟨.int (if i<0 then -i else i),H,I.tok _,⟨_,rfl⟩,q⟩
theorem Da(hc:X.calm=true):CallR X (.builtin "max") (λxs H Q=>∃i j,xs=[.int i,.int j]/\Q (.int (if j>i then j else i)) H):=by
 intro pins s σ H xs us Q I r h;obtain⟨i,j,rfl,q⟩:=h;obtain⟨u,w',rfl,⟨t,rfl⟩,⟨t',rfl⟩⟩:=wx r;refine max_two_ints (I.ok.hd hc) λh' tk k=>⟨_,H,I.kept k,?_,q⟩
 by_cases hj:j>i
 ·rw[if_pos hj,if_pos hj];exact⟨_,rfl⟩
 ·rw[if_neg hj,if_neg hj];exact⟨_,rfl⟩
theorem kh:CallR X (.type "int") (λxs H Q=>(∃i,xs=[.int i]/\Q (.int i) H)\/∃k,xs=[.bl k]/\Q (.int (if k then 1 else 0)) H):=by
 intro pins s σ H xs us Q I r h;rcases h with⟨i,rfl,q⟩ |⟨k,rfl,q⟩
 ·obtain⟨u,rfl,t,rfl⟩:=gm r;exact call_int_int ⟨.int i,H,I,⟨_,rfl⟩,q⟩
 ·obtain⟨u,rfl,r1⟩:=gm r;cases r1;exact call_int_bool ⟨.int (if k then 1 else 0),H,I.tok _,⟨_,rfl⟩,q⟩
end
structure ObjM(h:Heap)(x dx C:Addr)(mA:Str->Option Value):Prop where
 obj:h.get? x=some (PySem.W.instObj C dx)
 ns:h.Ns1 dx mA
 ne:dx≠x
theorem A5{h:Heap}{dx:Addr}{mA:Str->Option Value}(n:h.Ns1 dx mA):∃od,h.get? dx=some od/\∀name,PySem.W.lookIn name od=some (mA name):=by
 obtain⟨o,es,ep,ho,hd,hk,_,hm⟩:=n;refine⟨o,ho,λname=>?_⟩;have e:=hm name;unfold nsFind findBy at e
 rw[<- Array.find?_toList]at e;unfold PySem.W.lookIn;rw[hd];dsimp only
 split
 ·rename_i y q
  rw[q]at e;exact congrArg some e
 ·rename_i q
  rw[q]at e
  have a:es.toList.any (·.refKey)=false:=by rw[List.any_eq_false];intro y hy;obtain⟨z,t,hkey⟩:=hk y (Array.mem_toList_iff.mp hy);simp[DictEntry.refKey,hkey]
  have a':¬es.toList.any (·.refKey)=true:=by rw[a];exact GU
  rw[if_neg a'];exact congrArg some e
theorem ObjM.look{h:Heap}{x dx C:Addr}{mA:Str->Option Value}(I:ObjM h x dx C mA):∃od,PySem.W.InstAt h x (PySem.W.instObj C dx) C (some od)/\∀name,PySem.W.lookIn name od=some (mA name) :=
 let⟨od,ho,hl⟩:=A5 I.ns
 ⟨od,⟨I.obj,rfl,rfl,ho⟩,hl⟩
section
variable {prog:Program}{w:World}{A:Around}{E:Value->Shared->Prop}{s:Shared}{K:PySem.W.Frag}{x dx C f:Addr}{mA:Str->Option Value}{name:Str}{v:Value}
theorem BF{expr:Bool}{Q:Value->Shared->Prop}(X:K.In s.heap)(I:ObjM s.heap x dx C mA)(hg:PySem.W.plainGet K C name=true)(hh:PySem.W.hasDictIn K C=true)
 (ha:PySem.W.findIn K (.ref C) name=some none) (hv:mA name=some v) (hv':PySem.W.handedIn v=true) (h:Q v { s with toks:=s.toks+1 }) :
 wpAny (model prog w) A (getAttr (.ref x) name expr) Q E s:=by
 obtain⟨od,J,hl⟩:=I.look;exact PySem.W.get_value X J (PySem.W.plainGet_of hg).1 (PySem.W.findObj_own hh ha rfl (by rw[hl,hv])) hv' h
theorem xM{ns:List Str}{Q:Unit->Shared->Prop}(X:K.In s.heap)(I:ObjM s.heap x dx C mA)
 (hs:PySem.W.findIn K (.ref C) "__setattr__"=some (some (.builtin "object.__setattr__"))) (hp:PySem.W.plainOver K C=true) (ht:PySem.W.takerIn K C name=some none) (hh:PySem.W.hasDictIn K C=true)
 (hw:PySem.Within mA ns) (hsz:ns.length<=sizeLine)
 (h:∀h',ObjM h' x dx C (λy=>if y=name then some v else mA y)->Heap.SameBut dx s.heap h'->Q () { s with heap:=h',toks:=s.toks+2 }) :
 wpAny (model prog w) A (setAttr (.ref x) name v) Q E s:=by
 obtain⟨od,J,hl⟩:=I.look;refine PySem.W.set_plain X J hs (PySem.W.osa_open (s:={ s with toks:=s.toks+1 }) (r:=none) X J hp ht λb=>?_);obtain⟨cd,hc,hd'⟩:=PySem.W.any_some hh;have hx:s.heap.get? x=some ⟨.ref C,some dx,.plain,#[]⟩:=I.obj;refine wpAny_bind (wpAny_pure (wpAny_bind (wpAny_bind (wpAny_loadPart hx (wpAny_bind (PySem.W.Looks.here (s:={ s with toks:=s.toks+1 }) (PySem.W.looks_clsIn X hc) ?_))))));rw[hd'];refine wpAny_pure (a:=some dx) (wpAny_bind (wpAny_pure (wpAny_bind ?_)));refine wpAny_nsSet1 (s:={ s with toks:=s.toks+1 }) I.ns λh' hn2 hs2=>?_
 obtain⟨oD,esD,epD,hoD,hdD,hcD⟩:=hn2.count (PySem.Within.cons name v hw);refine wpAny_bind (wpAny_lookBehind hoD (by rw[hdD];exact pastItsLine_dict (Fu hcD (by rw[Ff];omega))) ?_);exact wpAny_pure (h _ ⟨(hs2.2 _ (Ne.symm I.ne)).trans I.obj,hn2,I.ne⟩ hs2)
theorem AZ{R:Result->Shared->Prop}{vs:List Value}{kw:List (Str×Value)}(X:K.In s.heap)(hm:PySem.W.makesIn K C=true)
 (hi:PySem.W.findIn K (.ref C) "__init__"=some (some (.ref f))) (hf:PySem.W.typeIn K (.ref f)=some (.type "function"))
 (h:codeAny (model prog w) (A.under (.builtin "type.__call__" ⟨.ref C::vs,kw⟩)) (.call (.ref f) ⟨.ref (s.heap.objs.size+1)::vs,kw⟩) (PySem.W.InitBack (s.heap.objs.size+1) R)
   { s with heap:=(s.heap.push PySem.W.emptyDict).push (PySem.W.instObj C s.heap.objs.size) }) :
 codeAny (model prog w) A (.call (.ref C) ⟨vs,kw⟩) R s:=by
 obtain⟨hh,g,d,t,os⟩:=s;exact PySem.W.make_core (PySem.W.makes_of X hm) (PySem.W.looks_findIn X hi) (λself=>PySem.W.bind_fn X self hf) (.inl rfl) h
end
noncomputable def ca(f:Str)(v:V):List (Str×V)->List (Str×V)
 | []=>[(f,v)]
 | (g,x)::r=>if g=f then(g,v)::r else(g,x)::ca f v r
theorem iM(f g:Str)(v:V):∀fs:List (Str×V),(ca f v fs).lookup g=if g=f then some v else fs.lookup g
 | []=>by
  show List.lookup g [(f,v)]=_;by_cases h:g=f
  ·have hb:(g == f)=true:=beq_iff_eq.mpr h;simp only[List.lookup,hb,if_pos h]
  ·have hb:(g == f)=false:=beq_eq_false_iff_ne.mpr h;simp only[List.lookup,hb,if_neg h]
 | (k,x)::r=>by
  have ih:=iM f g v r;rw[show ca f v ((k,x)::r)=(if k=f then(k,v)::r else(k,x)::ca f v r)from rfl];by_cases hk:k=f
  ·rw[if_pos hk];by_cases h:g=k
   ·have hb:(g == k)=true:=beq_iff_eq.mpr h;simp only[List.lookup,hb,if_pos (h.trans hk)]
   ·have hb:(g == k)=false:=beq_eq_false_iff_ne.mpr h;simp only[List.lookup,hb,if_neg (λe:g=f=>h (e.trans hk.symm))]
  ·rw[if_neg hk];by_cases h:g=k
   ·have hb:(g == k)=true:=beq_iff_eq.mpr h;simp only[List.lookup,hb,if_neg (λe:g=f=>hk (h.symm.trans e))]
   ·have hb:(g == k)=false:=beq_eq_false_iff_ne.mpr h;simp only[List.lookup,hb];exact ih
theorem n5(f:Str)(v:V):∀fs:List (Str×V),f∈(ca f v fs).map (·.1)/\∀g,g∈fs.map (·.1)->g∈(ca f v fs).map (·.1)
 | []=>⟨by simp[ca],λg h=>by simp at h⟩
 | (k,x)::r=>by
  obtain⟨i1,i2⟩:=n5 f v r;rw[show ca f v ((k,x)::r)=(if k=f then(k,v)::r else(k,x)::ca f v r)from rfl];by_cases hk:k=f
  ·rw[if_pos hk];subst hk;exact⟨by simp,λg h=>by simpa using h⟩
  ·rw[if_neg hk];refine⟨?_,λg h=>?_⟩
   ·rw[Fo];exact Fi _ i1
   ·rw[Fo]at h ⊢;rcases FC.mp h with e |e
    ·exact FC.mpr (.inl e)
    ·exact Fi _ (i2 g e)
theorem ud(f:Str)(v:V):∀fs:List (Str×V),(ca f v fs).length<=fs.length+1
 | []=>by simp[ca]
 | (k,x)::r=>by
  have ih:=ud f v r;rw[show ca f v ((k,x)::r)=(if k=f then(k,v)::r else(k,x)::ca f v r)from rfl];by_cases hk:k=f
  ·rw[if_pos hk,Ff,Ff];omega
  ·rw[if_neg hk,Ff,Ff];omega
theorem RelO.some_of{v:V}{o:Option Value}(r:RelO (some v) o):∃u,o=some u/\RelV v u:=by
 cases o with
 |none=>exact(show False from r).elim
 |some u=>exact⟨u,rfl,r⟩
theorem BC{v:V}{u:Value}(r:RelV v u):PySem.W.handedIn u=true:=by
 cases v with
 |non=>cases(show u=Value.none from r);rfl
 |bl b=>cases(show u=Value.bool b from r);rfl
 |int i=>obtain⟨t,e⟩:=(show ∃t,u=Value.int i t from r);cases e;rfl
 |str x=>obtain⟨t,e⟩:=(show ∃t,u=Value.str x t from r);cases e;rfl
 |byt b=>obtain⟨t,e⟩:=(show ∃t,u=Value.bytes b t from r);cases e;rfl
 |flt b=>obtain⟨t,e⟩:=(show ∃t,u=Value.float b t from r);cases e;rfl
 |ref a=>cases(show u=Value.ref a from r);rfl
 |ty n=>cases(show u=Value.type n from r);rfl
section
variable {P:Program}{w:World}{H H':Hp}{h h':Heap}{a C dx:Addr}{fs fs':List (Str×V)}
theorem og(hok:HOk P w H h)(e:H a=some (.ins C dx fs)):∃mA,ObjM h a dx C mA/\(∀f,RelO (fs.lookup f) (mA f))/\PySem.Within mA (fs.map (·.1))/\fs.length<=1000/\H dx=some (.own a):=by obtain⟨d,z,ne,ob,mA,n,r,q⟩:=(show ObjOk P w H h a (.ins C dx fs)from hok a _ e);exact⟨mA,⟨ob,n,ne⟩,r,q,z,d⟩
end
structure Cls(K:PySem.W.Frag)(C:Addr):Prop where
 pg:PySem.W.plainGet K C Str.empty=true
 hd:PySem.W.hasDictIn K C=true
 po:PySem.W.plainOver K C=true
 sa:PySem.W.findIn K (.ref C) "__setattr__"=some (some (.builtin "object.__setattr__"))
theorem Cls.get{K:PySem.W.Frag}{C:Addr}(c:Cls K C)(f:Str):PySem.W.plainGet K C f=true:=c.pg
def NoAttr(K:PySem.W.Frag)(C:Addr)(f:Str):Prop:=PySem.W.findIn K (.ref C) f=some none
theorem NoAttr.taker{K:PySem.W.Frag}{C:Addr}{f:Str}(n:NoAttr K C f):PySem.W.takerIn K C f=some none:=by unfold PySem.W.takerIn;rw[show PySem.W.findIn K (.ref C) f=some none from n];rfl
section
variable {X:Cx}{pins:List (Addr×Obj)}{σ:St}{H:Hp}{s:Shared}{a C dx:Addr}{fs:List (Str×V)}{f:Str}{v:V}{A:Around}{E:Value->Shared->Prop}
theorem BE{b:Bool}{Q:Value->Shared->Prop}(I:Inv X pins σ H s)(e:H a=some (.ins C dx fs))(c:Cls X.K C)(n:NoAttr X.K C f)(l:fs.lookup f=some v)
 (h:∀u s',Inv X pins σ H s'->RelV v u->Q u s'):wpAny (model X.prog X.w) A (getAttr (.ref a) f b) Q E s:=by
 obtain⟨mA,O,r,_,_,_⟩:=og I.hok e;obtain⟨u,hu,ru⟩:=RelO.some_of (v:=v) (o:=mA f) (by rw[<- l];exact r f);exact BF I.kIn O (c.get f) c.hd n hu (BC ru) (h u _ (I.tok _) ru)
theorem xL{y:V}{u:Value}{Q:Unit->Shared->Prop}(I:Inv X pins σ H s)(e:H a=some (.ins C dx fs))(c:Cls X.K C)(n:NoAttr X.K C f)(hl:fs.length<1000)(ry:RelV y u)
 (h:∀s',Inv X pins σ (upd H a (.ins C dx (ca f y fs))) s'->Q () s'):wpAny (model X.prog X.w) A (setAttr (.ref a) f u) Q E s:=by
 obtain⟨mA,O,r,wi,_,ho⟩:=og I.hok e;have hz:(fs.map (·.1)).length<=sizeLine:=by rw[Fc,sizeLine_eq];omega
 refine xM I.kIn O c.sa c.po n.taker c.hd wi hz λh' O' sb=>h _ ?_
 have hd:∃o,h'.get? dx=some o:=let⟨o,_,_,e',_⟩:=O'.ns;⟨o,e'⟩;refine I.write (x:=a) (e:=dx) (by rw[e];exact True.intro) (.inr ho) (λb q hb z=>(sb.2 b hb).trans z) hd ?_;refine⟨by rw[upd_ne O.ne];exact ho,?_,O.ne,O'.obj,_,O'.ns,λg=>?_,λg hg=>?_⟩
 ·have:=ud f y fs;omega
 ·show RelO ((ca f y fs).lookup g) (if g=f then some u else mA g);rw[iM];by_cases q:g=f
  ·rw[if_pos q,if_pos q];exact ry
  ·rw[if_neg q,if_neg q];exact r g
 ·by_cases q:g=f
  ·rw[q];exact(n5 f y fs).1
  ·refine(n5 f y fs).2 g (wi g λz=>hg ?_);show(if g=f then some u else mA g)=none;rw[if_neg q];exact z
theorem Inv.made(I:Inv X pins σ H s):Inv X pins σ (upd (upd H s.heap.objs.size (.own (s.heap.objs.size+1))) (s.heap.objs.size+1) (.ins C s.heap.objs.size []))
 { s with heap:=(s.heap.push PySem.W.emptyDict).push (PySem.W.instObj C s.heap.objs.size) }:=by
 have e1:(s.heap.push PySem.W.emptyDict).get? s.heap.objs.size=some PySem.W.emptyDict:=Heap.get?_push_size s.heap rfl
 have e2:((s.heap.push PySem.W.emptyDict).push (PySem.W.instObj C s.heap.objs.size)).get? (s.heap.objs.size+1)=some (PySem.W.instObj C s.heap.objs.size):=by
  have:=Heap.get?_push_size (s.heap.push PySem.W.emptyDict) (o:=PySem.W.instObj C s.heap.objs.size) rfl
  rwa [Heap.size_push]at this
 have e3:(s.heap.push PySem.W.emptyDict).Ns s.heap.objs.size (λ_=>none):=⟨PySem.W.emptyDict,#[],_,e1,rfl,(λe he=>absurd he (by simp)),λ_=>rfl⟩;have I1:=I.laid (a:=s.heap.objs.size) (o:=.own (s.heap.objs.size+1)) (h':=s.heap.push PySem.W.emptyDict) (t':=s.toks) (λb u q=>Heap.get?_push_of_some _ q) (Fg _) ⟨_,e1⟩;refine I1.laid (a:=s.heap.objs.size+1) (o:=.ins C s.heap.objs.size []) (t':=s.toks) (λb u q=>Heap.get?_push_of_some _ q) (GJ (Heap.size_push _ _)) ?_;have ne:s.heap.objs.size≠s.heap.objs.size+1:=FL (GK _);refine⟨by rw[upd_ne ne,aq],Fj _,ne,e2,λ_=>none,(Heap.Ns1.of_empty e3).at λo q=>Heap.get?_push_of_some _ q,λ_=>True.intro,λy hy=>absurd rfl hy⟩
theorem Dh{prog:Program}{w:World}{env:Env}{e:Expr}{f:Str}{pos:Pos}{s:Shared}{Q:Value->Shared->Prop}(hb:attributeBase e f env (eval e env)=eval e env)
 (h:wpAny (model prog w) A (eval e env) (λo s₁=>wpAny (model prog w) A (getAttr o f true) Q E s₁) E s):wpAny (model prog w) A (eval (.Attribute e f pos) env) Q E s :=
 Attribute_any_ h (by rw[arm_eval_Attribute,hb])
end
def qd(K:PySem.W.Frag)(ta:TE)(f:Str):TE:=λσ H Q=>ta σ H λx H1=>∃a C dx fs v,x=.ref a/\H1 a=some (.ins C dx fs)/\Cls K C/\NoAttr K C f/\fs.lookup f=some v/\Q v H1
def x5(K:PySem.W.Frag)(ta tv:TE)(f:Str):TS:=λD σ H=>tv σ H λy H1=>ta σ H1 λx H2=>∃a C dx fs,x=.ref a/\H2 a=some (.ins C dx fs)/\Cls K C/\NoAttr K C f/\fs.length<1000 /\
 D.nx σ (upd H2 a (.ins C dx (ca f y fs)))
section
variable {X:Cx}{o e value:Expr}{f:Str}{pos pos' tpos:Pos}{ta tv:TE}
theorem zb(he:PE X e ta)(hb:attributeBase e f X.env (eval e X.env)=eval e X.env):PE X (.Attribute e f pos) (qd X.K ta f):=by intro pins s σ H Q I h;refine Dh hb (thn (he pins s σ H _ I h) λu s1 ⟨x,H1,I1,rx,a,C,dx,fs,v,ex,ea,c,n,l,q⟩=>?_);subst ex;obtain rfl:u=Value.ref a:=rx;exact BE I1 ea c n l λu' s2 I2 ru=>⟨v,H1,I2,ru,q⟩
theorem sM(ha:PE X o ta)(hv:PE X value tv)(hs:swapsWith value (some (.Attribute o f pos')) pos.line X.env=pure false):PS X (.Assign [.Attribute o f pos'] value pos) (x5 X.K ta tv f):=by intro pins s σ H D I h;refine plainObj_wpAny_Assign_Attribute (thn (hv pins s σ H _ I h) λu s1 ⟨y,H1,I1,ry,q⟩=>thn (ha pins s1 σ H1 _ I1 q) λov s2 ⟨x,H2,I2,rx,a,C,dx,fs,ex,ea,c,n,l,q2⟩=>?_) hs;subst ex;obtain rfl:ov=Value.ref a:=rx;exact xL I2 ea c n l ry λs3 I3=>⟨σ,_,I3,q2⟩
end
section
variable {X:Cx}{pins:List (Addr×Obj)}{σ:St}{H:Hp}{s:Shared}{A:Around}{E:Value->Shared->Prop}{Q:Value->Shared->Prop}{c:Value}{b:Bool}
inductive TyOf(K:PySem.W.Frag)(H:Hp):V->Value->Prop where
 |non:TyOf K H .non (.type "NoneType")
 |bl (x:Bool):TyOf K H (.bl x) (.type "bool")
 |int (i:Int):TyOf K H (.int i) (.type "int")
 |str (x:Str):TyOf K H (.str x) (.type "str")
 |flt (x:UInt64):TyOf K H (.flt x) (.type "float")
 |lst {a:Addr} {xs:List V} (e:H a=some (.lst xs)):TyOf K H (.ref a) (.type "list")
 |frz {a:Addr} {o:Obj} {xs:List V} (e:H a=some (.frz o (.lst xs))):TyOf K H (.ref a) (.type "list")
 |tup {a:Addr} {xs:List V} (e:H a=some (.tup xs)):TyOf K H (.ref a) (.type "tuple")
 |dK {a:Addr} {kvs:List (Key×V)} (e:H a=some (.dK kvs)):TyOf K H (.ref a) (.type "dict")
 |dT {a:Addr} {kvs:List (List Key×V)} (e:H a=some (.dT kvs)):TyOf K H (.ref a) (.type "dict")
 |ins {a C dx:Addr} {fs:List (Str×V)} (e:H a=some (.ins C dx fs)) (cl:Cls K C) (ha:PySem.W.findIn K (.ref C) "__class__"=some (some (.builtin "object.__class__")))
  (hn:PySem.W.specialIn K (.builtin "object.__class__") "__get__"=some (some (.builtin "getset_descriptor.__get__"))) (htk:PySem.W.takesIn K (.builtin "object.__class__")=some true)
  (hm:PySem.W.mroIn K C (.type "object")=some true):TyOf K H (.ref a) (.ref C)
theorem Bo{x:V}{u t:Value}(I:Inv X pins σ H s)(rx:RelV x u)(ty:TyOf X.K H x t)(e:PySem.W.kitOne X.K t c=some b)(h:∀tk,Q (.bool b) { s with toks:=tk }) :
 wpAny (model X.prog X.w) A (call (.builtin "isinstance") [u,c]) Q E s:=by
 cases ty with
 |non=>cases(show u=Value.none from rx);exact PySem.W.kia_one PySem.W.kitx_none I.kIn True.intro e (λz=>nomatch z) h
 |bl y=>cases(show u=Value.bool y from rx);exact PySem.W.kia_one PySem.W.kitx_bool I.kIn True.intro e (λz=>nomatch z) h
 |int i=>obtain⟨t,q⟩:=(show ∃t,u=Value.int i t from rx);cases q;exact PySem.W.kia_one PySem.W.kitx_int I.kIn True.intro e (λz=>nomatch z) h
 |str y=>obtain⟨t,q⟩:=(show ∃t,u=Value.str y t from rx);cases q;exact PySem.W.kia_one PySem.W.kitx_str I.kIn True.intro e (λz=>nomatch z) h
 |flt y=>obtain⟨t,q⟩:=(show ∃t,u=Value.float y t from rx);cases q;exact PySem.W.kia_one PySem.W.kitx_float I.kIn True.intro e (λz=>nomatch z) h
 | @lst a xs ea =>cases(show u=Value.ref a from rx);obtain⟨_,_,n,_,h1⟩:=(show ObjOk X.prog X.w H s.heap a (.lst xs)from I.hok a _ ea);exact PySem.W.kia_one PySem.W.kitx_list I.kIn ⟨_,h1,rfl⟩ e (λz=>nomatch z) h
 | @frz a ob xs ea =>cases(show u=Value.ref a from rx);obtain⟨_,_,_,n,_,h1⟩:=(show ObjOk X.prog X.w H s.heap a (.frz ob (.lst xs))from I.hok a _ ea);exact PySem.W.kia_one PySem.W.kitx_list I.kIn ⟨_,h1,rfl⟩ e (λz=>nomatch z) h
 | @tup a xs ea =>cases(show u=Value.ref a from rx);obtain⟨_,_,_,p⟩:=(show ObjOk X.prog X.w H s.heap a (.tup xs)from I.hok a _ ea);obtain⟨o,h1,h2,_⟩:=p;exact PySem.W.kia_one PySem.W.kitx_tuple I.kIn ⟨o,h1,h2⟩ e (λz=>nomatch z) h
 | @dK a kvs ea =>cases(show u=Value.ref a from rx);obtain⟨_,_,vs,_,p⟩:=(show ObjOk X.prog X.w H s.heap a (.dK kvs)from I.hok a _ ea);obtain⟨o,es,ep,h1,h2,_⟩:=p;exact PySem.W.kia_one PySem.W.kitx_dict I.kIn ⟨o,h1,h2.1⟩ e (λz=>nomatch z) h
 | @dT a kvs ea =>cases(show u=Value.ref a from rx);obtain⟨_,_,xs,_,o,es,ep,h1,h2,_⟩:=(show ObjOk X.prog X.w H s.heap a (.dT kvs)from I.hok a _ ea);exact PySem.W.kia_one PySem.W.kitx_dict I.kIn ⟨o,h1,h2.1⟩ e (λz=>nomatch z) h
 | @ins a C dx fs ea cl ha hn htk hm =>cases(show u=Value.ref a from rx);obtain⟨mA,O,_⟩:=og I.hok ea;obtain⟨od,J,_⟩:=O.look;exact PySem.W.kia_one (PySem.W.kitx_own (cl.get _) cl.hd ha hn htk hm) I.kIn J e (λz=>nomatch z) h
end
structure Room(k:Nat)(A:Around):Prop where
 hd:A.handled=none
 dp:A.depth+3*k+5<recursionLimit
 un:A.units+16*k+200<cLine
theorem Room.mono{j k:Nat}{A:Around}(r:Room k A)(h:j<=k:=by decide):Room j A:=⟨r.hd,by have:=r.dp;omega,by have:=r.un;omega⟩
theorem Room.deeper{k:Nat}{A:Around}(r:Room (k+1) A)(env:Env):Room k (A.deeper env) :=
 ⟨r.hd,by have:=r.dp;show A.depth+1+3*k+5<_;omega,by have:=r.un;show A.units+3+16*k+200<_;omega⟩
theorem Room.in1{k:Nat}{A:Around}(r:Room (k+1) A):Room k A.in1 :=
 ⟨r.hd,by have:=r.dp;show A.depth+3*k+5<_;omega,by have:=r.un;show A.units+1+16*k+200<_;omega⟩
theorem A0{A:Around}{C:Addr}{us:List Value}{kw:List (Str×Value)}:(A.under (.builtin "type.__call__" ⟨.ref C::us,kw⟩)).depth=A.depth+1:=by first |rfl |simp[Around.under,Code.weight,Code.isCreation,Code.isGuard,Code.isCaller,Code.frames,Code.isFrame,guardIds]
theorem AY{A:Around}{C:Addr}{us:List Value}{kw:List (Str×Value)}:(A.under (.builtin "type.__call__" ⟨.ref C::us,kw⟩)).units=A.units+1:=by first |rfl |simp[Around.under,Code.cUnits,Code.frames,Code.isFrame]
theorem Room.make{k:Nat}{A:Around}(r:Room (k+1) A)(C:Addr)(us:List Value)(kw:List (Str×Value)):Room k (A.under (.builtin "type.__call__" ⟨.ref C::us,kw⟩)) :=
 ⟨r.hd,by have:=r.dp;rw[A0];omega,by have:=r.un;rw[AY];omega⟩
theorem Room.depth{k:Nat}{A:Around}(r:Room k A):A.depth<recursionLimit:=by have:=r.dp;omega
theorem Room.units{k:Nat}{A:Around}(r:Room k A):A.units+64<cLine:=by have:=r.un;omega
def kJ:TA:=λ_ H Q=>Q [] H
def kL(ta:TE)(tr:TA):TA:=λσ H Q=>ta σ H λx H1=>tr σ H1 λxs H2=>Q (x::xs) H2
section
variable {X:Cx}{e:Expr}{es:List Expr}{te:TE}{t:TA}{pos:Pos}
theorem ag:PA X [] kJ:=λ_ _ _ _ H Q I h=>Calls.spliced_nil ⟨[],H,I,.nil,h⟩
theorem aa(ha:PE X e te)(hr:PA X es t)(hs:starEach (e::es) X.env=(false,eval e X.env)::starEach es X.env:=by rfl):PA X (e::es) (kL te t):=by intro pos pins s σ H Q I h;rw[hs];show wpAny _ _ (spliced ((false,eval e X.env)::backTo pos (starEach es X.env))) _ _ s;refine Calls.spliced_cons (thn (ha pins s σ H _ I h) λu s1 ⟨x,H1,I1,r1,q1⟩=>?_);exact thn (hr pos pins s1 σ H1 _ I1 q1) λus s2 ⟨xs,H2,I2,r2,q2⟩=>⟨x::xs,H2,I2,.cons r1 r2,q2⟩
def wV(t:TA):TE:=λσ H Q=>t σ H λxs H1=>xs.length<=sizeLine/\∀p,H1 p=none->Q (.ref p) (upd H1 p (.tup xs))
def w5(t:TA):TE:=λσ H Q=>t σ H λxs H1=>xs.length<=sizeLine/\∀p,H1 p=none->Q (.ref p) (upd H1 p (.lst xs))
theorem ck{x1}(h:PA X es t):PE X (.Tuple es x1 pos) (wV t):=by intro pins s σ H Q I hq;refine wpAny_Tuple_spliced (thn (h pos pins s σ H _ I hq) λus s1 ⟨xs,H1,I1,r,z,q⟩=>⟨by rw[<- r.length];exact z,?_⟩);have hf:H1 s1.heap.objs.size=none:=I1.hok.fresh (Fg _);refine⟨.ref s1.heap.objs.size,upd H1 s1.heap.objs.size (.tup xs),I1.laid (t':=s1.toks) (λb u e=>Heap.get?_push_of_some _ e) (Fg _) ?_,rfl,q _ hf⟩;exact⟨z,us,r,⟨_,Heap.get?_push_size _ rfl,rfl,_,rfl⟩⟩
theorem bK(h:PA X es t):PE X (.List es pos) (w5 t):=by intro pins s σ H Q I hq;refine wpAny_List_spliced (thn (h pos pins s σ H _ I hq) λus s1 ⟨xs,H1,I1,r,z,q⟩=>⟨by rw[<- r.length];exact z,?_⟩);have hf:H1 s1.heap.objs.size=none:=I1.hok.fresh (Fg _);refine⟨.ref s1.heap.objs.size,upd H1 s1.heap.objs.size (.lst xs),I1.laid (t':=s1.toks) (λb u e=>Heap.get?_push_of_some _ e) (Fg _) ?_,rfl,q _ hf⟩;exact⟨z,us,0,r,Heap.get?_push_size _ rfl⟩
end
abbrev Sp:=List V->Hp->VK->XK->Prop
abbrev CXT:=List Env->Hp->Shared->XK->Value->Shared->Prop
structure Env0(P:Program)(w:World)(K:PySem.W.Frag)(mg:Str->Option Value)(base:Heap)(A:Around)(outer:List Env)(s:Shared)(H:Hp):Prop where
 frames:A.frames=some outer
 mod:Mod K mg base
 bs:∀b o,base.get? b=some o->s.heap.get? b=some o/\H b=none
 bsz:base.objs.size<=s.heap.objs.size
 funs:s.heap.FunFrames base outer
 frf:∀b∈frs outer,H b=none
 hok:HOk P w H s.heap
 bare:AllBare s.gens
noncomputable def CE(outer:List Env)(P:Program)(w:World)(H:Hp)(s:Shared)(Q:VK)(u:Value)(s':Shared):Prop :=
 ∃v H',s'.os=s.os/\AllBare s'.gens/\Un (frs outer) [] H H' s.heap s'.heap/\HOk P w H' s'.heap/\RelV v u/\Q v H'
noncomputable def CR(CX:CXT)(outer:List Env)(P:Program)(w:World)(H:Hp)(s:Shared)(Q:VK)(E:XK)(r:Result)(s':Shared):Prop :=
 match r with
 |.ok (.ret u)=>CE outer P w H s Q u s'
 |.ok _=>False
 |.error e=>CX outer H s E e s'
structure FnOk(P:Program)(w:World)(K:PySem.W.Frag)(mg:Str->Option Value)(base:Heap)(CX:CXT)(k:Nat)(f:Addr)(fd:FuncData)(ps:List Str)(sp:Sp):Prop where
 len:∀vs H Q E,sp vs H Q E->vs.length=ps.length
 run:∀(A:Around) (outer:List Env) (s:Shared) (H:Hp) (args:Args) (us:List Value) (vs:List V) (Q:VK) (E:XK),Room k A->Env0 P w K mg base A outer s H->BindsTo s fd args (ps.zip us)->Vals vs us->sp vs H Q E ->
  codeAny (model P w) A (.call (.ref f) args) (CR CX outer P w H s Q E) s
theorem FnOk.mono{P:Program}{w:World}{K:PySem.W.Frag}{mg:Str->Option Value}{base:Heap}{CX:CXT}{j k:Nat}{f:Addr}{fd:FuncData}{ps:List Str}{sp:Sp}(F:FnOk P w K mg base CX j f fd ps sp)(h:j<=k:=by decide) :
 FnOk P w K mg base CX k f fd ps sp:=⟨F.len,λA outer s H args us vs Q E hr=>F.run A outer s H args us vs Q E (hr.mono h)⟩
theorem Env0.make{P:Program}{w:World}{K:PySem.W.Frag}{mg:Str->Option Value}{base:Heap}{A:Around}{outer:List Env}{s:Shared}{H:Hp}(e:Env0 P w K mg base A outer s H)(C:Addr)(us:List Value)(kw:List (Str×Value)) :
 Env0 P w K mg base (A.under (.builtin "type.__call__" ⟨.ref C::us,kw⟩)) outer s H:=⟨by first |exact e.frames | (simpa[Around.under,Code.envs,Code.isFrame,pushEnvs]using e.frames),e.mod,e.bs,e.bsz,e.funs,e.frf,e.hok,e.bare⟩
section
variable {X:Cx}{pins:List (Addr×Obj)}{σ:St}{H:Hp}{s s':Shared}
theorem Inv.env0(I:Inv X pins σ H s):Env0 X.prog X.w X.K X.mg X.base X.A X.stack s H :=
 ⟨I.ok.frames,I.ok.mod,I.bs,Fu I.ok.bsz I.sz,I.stack,I.stkFree,I.hok,I.bare⟩
theorem Inv.after{Q:VK}{u:Value}(I:Inv X pins σ H s)(h:CE X.stack X.prog X.w H s Q u s'):EP X pins σ Q u s':=by obtain⟨v,H',os,bare,un,hok,r,q⟩:=h;obtain⟨hh,g,d,t,os'⟩:=s';obtain rfl:os'=s.os:=os;exact⟨v,H',I.call (h':=hh) (g':=g) (d':=d) (t':=t) (ch:=[]) un hok bare (λb z=>absurd z (by simp)),r,q⟩
end
def qf(sp:Sp)(dvs:List V)(E:XK)(t:TA):TE:=λσ H Q=>t σ H λvs H1=>sp (vs++dvs) H1 Q E
def w4(C:Addr)(sp:Sp)(dvs:List V)(E:XK)(t:TA):TE:=λσ H Q=>t σ H λvs H1=>∀x dx,H1 x=none->H1 dx=none->dx≠x ->
 sp (.ref x::(vs++dvs)) (upd (upd H1 dx (.own x)) x (.ins C dx [])) (λv H2=>v=.non/\Q (.ref x) H2) E
noncomputable def Binds(K:PySem.W.Frag)(fd:FuncData)(ps:List Str)(ds:List Value):Prop :=
 ∀(s:Shared) (us:List Value),K.In s.heap->(us++ds).length=ps.length->BindsTo s fd ⟨us,[]⟩ (ps.zip (us++ds))
theorem Binds.all{K:PySem.W.Frag}{fd:FuncData}{ps:List Str}(h:∀us:List Value,us.length=ps.length->bindArgs fd ⟨us,[]⟩=pure (ps.zip us)):Binds K fd ps []:=λs us _ hl=>by rw[Gy]at hl ⊢;exact .of_eq (h us hl)
def iU(CX:CXT)(X:Cx)(E:XK):Prop:=∀(pins:List (Addr×Obj)) (σ:St) (H:Hp) (s:Shared) (e:Value) (s':Shared),Inv X pins σ H s->CX X.stack H s E e s'->X.xe e s'
section
variable {X:Cx}{CX:CXT}{k:Nat}{f C:Addr}{fd:FuncData}{ps:List Str}{sp:Sp}{dvs:List V}{ds:List Value}{E:XK}{x m:Str}{p pos apos:Pos}{e o:Expr}{es:List Expr}{ta:TE}{t:TA}
theorem x8{pins:List (Addr×Obj)}{σ:St}{H:Hp}{s:Shared}{Q:VK}{us:List Value}{vs:List V}(F:FnOk X.prog X.w X.K X.mg X.base CX k f fd ps sp)(hr:Room k X.A)(hb:Binds X.K fd ps ds)(hd:Vals dvs ds)(hx:iU CX X E)
 (I:Inv X pins σ H s) (r:Vals vs us) (h:sp (vs++dvs) H Q E):wpAny (model X.prog X.w) X.A (call (.ref f) us) (EP X pins σ Q) X.xe s:=by
 have r2:Vals (vs++dvs) (us++ds):=r.append hd;have hl:(us++ds).length=ps.length:=by rw[<- r2.length];exact F.len _ _ _ _ h
 refine wpAny_call (codeAny_mono (F.run X.A X.stack s H ⟨us,[]⟩ (us++ds) (vs++dvs) Q E hr I.env0 (hb s us I.kIn hl) r2 h) λr s' hq=>?_);cases r with
 |error e=>exact hx pins σ H s e s' I hq
 |ok fl =>
  cases fl with
  |ret u=>exact I.after hq
  |next=>exact False.elim hq
  |brk=>exact False.elim hq
  |cont=>exact False.elim hq
theorem zd(F:FnOk X.prog X.w X.K X.mg X.base CX k f fd ps sp)(hr:Room k X.A)(hg:Gl X x)(hm:X.mg x=some (.ref f))(hk:PySem.W.keepIn X.K (.ref f)=true)(hb:Binds X.K fd ps ds)(hd:Vals dvs ds)(hx:iU CX X E)
 (ha:PA X (e::es) t) (hdb:(x == ("__debug__":Str))=false:=by decide) (he:starEach (e::es) X.env=(false,eval e X.env)::starEach es X.env:=by rfl) (hpl:(backTo pos (starEach es X.env)).any (·.1)=false:=by rfl) :
 PE X (.Call (.Name x p) (e::es) [] pos) (qf sp dvs E t):=by
 intro pins s σ H Q I h;refine wpAny_Call_Name_kw (nW I hg hm ?_ hdb);refine PySem.W.callWith_K (h₀:=X.base) I.ok.mod.kin hk (thn (ha pos pins s σ H _ I h) λus s1 ⟨vs,H1,I1,r,q⟩=>⟨I1.kIn,?_⟩) he hpl;exact x8 F hr hb hd hx I1 r q
structure Mk(K:PySem.W.Frag)(C f:Addr):Prop where
 makes:PySem.W.makesIn K C=true
 init:PySem.W.findIn K (.ref C) "__init__"=some (some (.ref f))
 fn:PySem.W.isFn K (.ref f)=true
 kp:PySem.W.keepIn K (.ref C)=true
theorem x6{pins:List (Addr×Obj)}{σ:St}{H:Hp}{s:Shared}{Q:VK}{us:List Value}{vs:List V}(M:Mk X.K C f)(F:FnOk X.prog X.w X.K X.mg X.base CX k f fd ps sp)(hr:Room (k+1) X.A)(hb:Binds X.K fd ps ds)(hd:Vals dvs ds)
 (hx:iU CX X E) (I:Inv X pins σ H s) (r:Vals vs us)
 (h:∀x dx,H x=none->H dx=none->dx≠x->sp (.ref x::(vs++dvs)) (upd (upd H dx (.own x)) x (.ins C dx [])) (λv H2=>v=.non/\Q (.ref x) H2) E) :
 wpAny (model X.prog X.w) X.A (call (.ref C) us) (EP X pins σ Q) X.xe s:=by
 have hq:=h (s.heap.objs.size+1) s.heap.objs.size (I.hok.fresh (Nat.le_succ _)) (I.hok.fresh (Fg _)) (FL (GK _));have I2:=Inv.made (C:=C) I;have r2:Vals (V.ref (s.heap.objs.size+1)::(vs++dvs)) (Value.ref (s.heap.objs.size+1)::(us++ds)):=.cons rfl (r.append hd)
 have hl:(Value.ref (s.heap.objs.size+1)::us++ds).length=ps.length:=by have e:=r2.length;rw[F.len _ _ _ _ hq]at e;exact e.symm
 refine wpAny_call (AZ (f:=f) I.kIn M.makes M.init (beq_iff_eq.mp M.fn) (codeAny_mono (F.run _ X.stack _ _ ⟨Value.ref (s.heap.objs.size+1)::us,[]⟩ (Value.ref (s.heap.objs.size+1)::(us++ds)) _ _ E (hr.make C us [])
  (I2.env0.make C us []) (hb _ (Value.ref (s.heap.objs.size+1)::us) I2.kIn hl) r2 hq) λr s' hq'=>?_))
 cases r with
 |error e=>exact hx pins σ _ _ e s' I2 hq'
 |ok fl =>
  cases fl with
  |ret u =>obtain⟨v,H',I3,rv,ev,q3⟩:=I2.after hq';subst ev;exact⟨rv,⟨V.ref (s.heap.objs.size+1),H',I3,rfl,q3⟩⟩
  |next=>exact False.elim hq'
  |brk=>exact False.elim hq'
  |cont=>exact False.elim hq'
theorem nj(M:Mk X.K C f)(F:FnOk X.prog X.w X.K X.mg X.base CX k f fd ps sp)(hr:Room (k+1) X.A)(hg:Gl X x)(hm:X.mg x=some (.ref C))(hb:Binds X.K fd ps ds)(hd:Vals dvs ds)(hx:iU CX X E)
 (ha:PA X (e::es) t) (hdb:(x == ("__debug__":Str))=false:=by decide) (he:starEach (e::es) X.env=(false,eval e X.env)::starEach es X.env:=by rfl) (hpl:(backTo pos (starEach es X.env)).any (·.1)=false:=by rfl) :
 PE X (.Call (.Name x p) (e::es) [] pos) (w4 C sp dvs E t):=by
 intro pins s σ H Q I h;refine wpAny_Call_Name_kw (nW I hg hm ?_ hdb);refine PySem.W.callWith_K (h₀:=X.base) I.ok.mod.kin M.kp (thn (ha pos pins s σ H _ I h) λus s1 ⟨vs,H1,I1,r,q⟩=>⟨I1.kIn,?_⟩) he hpl;exact x6 M F hr hb hd hx I1 r q
end
section
variable {X:Cx}{CX:CXT}{k:Nat}{f C:Addr}{fd:FuncData}{ps ks:List Str}{sp:Sp}{E:XK}{x m:Str}{p pos apos kpos:Pos}{e o:Expr}{es:List Expr}{kws:List Keyword}{te ta:TE}{t tk:TA}{nm:Option Str}
variable {g:List Value->List Value->List Value}{gV:List V->List V->List V}
end
structure FnScope(N P:List Str)(sc:Scope):Prop where
 kind:sc.kind=.function
 co:sc.isCoroutine=false
 gen:sc.isGenerator=false
 nd:N.Nodup
 pre:N.take P.length=P
 par:∀x∈P,sc.names.lookup x=some .local\/sc.names.lookup x=some .cell
 nofree:∀y∈sc.names,y.2≠.free
theorem vE{kindOf:Str->Option NameKind}{x:Str}:∀{binds:List (Str×Value)} {m:Str->Option Value},(∀v,(x,v)∉binds)->bindL kindOf binds m x=m x
 | [],_,_=>rfl
 | (n,v)::r,m,h=>by
  unfold bindL;rw[vE λw hw=>h w (Fi _ hw)];split
  ·have:x≠n:=by rintro rfl;exact h v Fl
   simp[this]
  ·rfl
theorem vG{kindOf:Str->Option NameKind}{x:Str}:∀{binds:List (Str×Value)} {m:Str->Option Value},(∀v,(x,v)∉binds)->bindC kindOf binds m x=m x
 | [],_,_=>rfl
 | (n,v)::r,m,h=>by
  unfold bindC;rw[vG λw hw=>h w (Fi _ hw)];split
  ·rfl
  ·have:x≠n:=by rintro rfl;exact h v Fl
   simp[this]
theorem vF{kindOf:Str->Option NameKind}{x:Str}{v:Value}:∀{P:List Str} {vs:List Value} {i:Nat} {m:Str->Option Value},P.Nodup->P[i]?=some x->vs[i]?=some v->kindOf x=some .local ->
 bindL kindOf (P.zip vs) m x=some v
 | [],_,_,_,_,h,_,_=>by simp at h
 |_::_,[],_,_,_,_,h,_=>by simp at h
 |p::P,w::vs,0,m,nd,h1,h2,hk=>by
  simp at h1 h2;subst h1;subst h2
  show bindL kindOf ((p,w)::P.zip vs) m p=_;unfold bindL;rw[vE λv hv=>(Hl.mp nd).1 (List.of_mem_zip hv).1,if_pos hk];simp
 |p::P,w::vs,i+1,m,nd,h1,h2,hk=>by show bindL kindOf ((p,w)::P.zip vs) m x=_;unfold bindL;exact vF (i:=i) (Hl.mp nd).2 (by simpa using h1) (by simpa using h2) hk
theorem vH{kindOf:Str->Option NameKind}{x:Str}{v:Value}:∀{P:List Str} {vs:List Value} {i:Nat} {m:Str->Option Value},P.Nodup->P[i]?=some x->vs[i]?=some v->kindOf x≠some .local ->
 bindC kindOf (P.zip vs) m x=some v
 | [],_,_,_,_,h,_,_=>by simp at h
 |_::_,[],_,_,_,_,h,_=>by simp at h
 |p::P,w::vs,0,m,nd,h1,h2,hk=>by
  simp at h1 h2;subst h1;subst h2
  show bindC kindOf ((p,w)::P.zip vs) m p=_;unfold bindC;rw[vG λv hv=>(Hl.mp nd).1 (List.of_mem_zip hv).1,if_neg hk];simp
 |p::P,w::vs,i+1,m,nd,h1,h2,hk=>by show bindC kindOf ((p,w)::P.zip vs) m x=_;unfold bindC;exact vH (i:=i) (Hl.mp nd).2 (by simpa using h1) (by simpa using h2) hk
noncomputable def start(N:List Str)(vs:List V):St:=vs.map some++List.replicate (N.length-vs.length) none
noncomputable def f9(CX:CXT)(P:Program)(w:World)(K:PySem.W.Frag)(mg:Str->Option Value)(base:Heap)(N:List Str)(qual:Str)(scope:Scope)(f:Addr)(cd:Value)(A:Around)(outer:List Env)(s:Shared)(H:Hp)(E:XK):Cx where
 prog:=P
 w:=w
 K:=K
 mg:=mg
 base:=base
 A:=A.deeper (envOfC qual scope s.heap.objs.size f cd)
 N:=N
 s₀:=s
 H₀:=H
 env:=envOfC qual scope s.heap.objs.size f cd
 outer:=outer
 stack:=envOfC qual scope s.heap.objs.size f cd::outer
 ex:=[]
 calm:=true
 fn:=λ_=>true
 pn:=[]
 xe:=λe s'=>wpAny (model P w) (A.deeper (envOfC qual scope s.heap.objs.size f cd)) (leaving (envOfC qual scope s.heap.objs.size f cd) e) (λ_ s''=>CX outer H s E e s'') (λe' s''=>CX outer H s E e' s'') s'
theorem vC{sc:Scope}{n:Nat}{x:Str}(h:sc.names.lookup x=some .cell):∃c,(cellsFrom n sc.names []).lookup x=some c:=by have q:=PySem.W.cellsFrom_some sc.names n [] (.inl h);exact Option.isSome_iff_exists.mp q
theorem Bq{CX:CXT}{P:Program}{w:World}{K:PySem.W.Frag}{mg:Str->Option Value}{base:Heap}{N ps:List Str}{qual:Str}{scope:Scope}{f:Addr}{cd:Value}{A:Around}{outer:List Env}{s s1:Shared}{H:Hp}{E:XK}{us:List Value}{vs:List V}
 (S:FnScope N ps scope) (hd:A.handled=none) (e0:Env0 P w K mg base A outer s H) (hl:vs.length=ps.length) (r:Vals vs us)
 (x:InCallC s s.heap.objs.size (bindL (envOfC qual scope s.heap.objs.size f cd).kindOf (ps.zip us) λ_=>none) (cellsFrom (s.heap.objs.size+1) scope.names []) (bindC (envOfC qual scope s.heap.objs.size f cd).kindOf (ps.zip us) λ_=>none) s1) :
 Inv (f9 CX P w K mg base N qual scope f cd A outer s H E) [] (start N vs) H s1:=by
 have hpl:ps.length<=N.length:=by have:=congrArg List.length S.pre;rw[FW]at this;omega
 obtain⟨h1,tk,rfl,hk⟩:=x.done;have noA:∀b:Addr,b∉(f9 CX P w K mg base N qual scope f cd A outer s H E).ex:=λb z=>absurd (show b∈([]:List Addr)from z) (by simp)
 refine⟨⟨e0.mod,S.kind,rfl,rfl,Fg _,λy z c h1 h2=>?_,λy hy=>?_,λy c _ h=>?_,λ_=>hd,Around.frames_deeper e0.frames,.inr ⟨rfl,rfl⟩,λb z=>absurd z (noA b),e0.bs,e0.bsz,λb _ _=>noA b,λb z=>absurd z (noA b),e0.funs,e0.frf⟩,
  rfl,e0.bare,Un.kept hk,⟨_,x.toInCall.ns,λi y v h1 h2 h3=>?_⟩,λy c h=>⟨_,x.cell y c h⟩,e0.hok.fresh (Fg _),λy c h=>?_,λp hp=>absurd (show p∈([]:List (Addr×Obj))from hp) (by simp),e0.hok.kept hk,?_⟩
 ·exact name_of_addr x.apart (PySem.mem_of_lookup h1) (PySem.mem_of_lookup h2)
 ·have hy:scope.names.lookup y=some .cell\/scope.names.lookup y=some .free:=hy;rcases hy with hy |hy
  ·exact vC hy
  ·exact absurd rfl (S.nofree _ (PySem.mem_of_lookup hy))
 ·exact G5 (x.above y c (PySem.mem_of_lookup h))
 ·have hi:i<vs.length:=by
   unfold start at h2
   by_cases hi:i<vs.length
   ·exact hi
   ·rw[List.getElem?_append_right (by simpa using hi)]at h2;rw[List.getElem?_replicate]at h2;split at h2<;>cases h2
  have ha:vs[i]?=some v:=by
   unfold start at h2
   rw[List.getElem?_append_left (by simpa using hi),List.getElem?_map]at h2;cases e:vs[i]? with
   |none=>rw[e]at h2;cases h2
   |some a=>rw[e]at h2;cases h2;rfl
  obtain⟨u,hu,rv⟩:=r.get ha
  have hp:ps[i]?=some y:=by rw[<- S.pre,List.getElem?_take_of_lt (by omega)];exact h1
  have ndP:ps.Nodup:=by rw[<- S.pre];exact S.nd.sublist (List.take_sublist _ _)
  refine⟨u,rv,?_⟩;rcases S.par y (List.mem_of_getElem? hp)with k |k
  ·exact .inl ⟨k,vF ndP hp hu k⟩
  ·obtain⟨c,e⟩:=vC (n:=s.heap.objs.size+1) k;refine .inr ⟨.inl k,c,e,?_⟩;have q:=x.cell y c e;rw[vH ndP hp hu (by show scope.names.lookup y≠_;rw[k];decide)]at q;exact q
 ·exact e0.hok.fresh (G5 (x.above y c (PySem.mem_of_lookup h)))
 ·unfold start;show _=N.length;rw[Fd,Fc,GL];omega
theorem uF{CX:CXT}{P:Program}{w:World}{K:PySem.W.Frag}{mg:Str->Option Value}{base:Heap}{k:Nat}{f:Addr}{name qual:Str}{params:Arguments}{body:List Stmt}{scope:Scope}{dV kV doc pm cdv ct oc:Value}{an od:Option Addr}
 {osl:Array (Option Value)} {N ps:List Str} {sp:Sp} (lk:K.lookup f=some ⟨oc,od,.func (PySem.W.fnOf name qual params body scope dV kV doc pm an cdv ct),osl⟩) (hcd:PySem.W.codeIn K cdv qual=true) (S:FnScope N ps scope)
 (len:∀vs H Q E,sp vs H Q E->vs.length=ps.length)
 (hbody:∀(A:Around) (outer:List Env) (s:Shared) (H:Hp) (vs:List V) (Q:VK) (E:XK),Room k (A.deeper (envOfC qual scope s.heap.objs.size f cdv))->sp vs H Q E ->
   ∃t,PSs (f9 CX P w K mg base N qual scope f cdv A outer s H E) body t/\t { nx:=λ_ H'=>Q .non H',rt:=Q } (start N vs) H) :
 FnOk P w K mg base CX (k+1) f (PySem.W.fnOf name qual params body scope dV kV doc pm an cdv ct) ps sp:=by
 refine⟨len,λA outer s H args us vs Q E hr e0 hb r hsp=>?_⟩;have hl:=len _ _ _ _ hsp;have KX:K.In s.heap:=e0.mod.kin.keeps λb o e=>(e0.bs b o e).1
 have lim:s.heap.NoLimit:=e0.mod.nolimit.keeps λb o e=>(e0.bs b o e).1
 have hkind:∀y∈ps.zip us,scope.names.lookup y.1=some .local\/(scope.names.lookup y.1=some .cell/\((cellsFrom (s.heap.objs.size+1) scope.names []).lookup y.1).isSome=true):=λ⟨n,v⟩ hy=>by
  rcases S.par n (List.of_mem_zip hy).1 with q |q
  ·exact .inl q
  ·exact .inr ⟨q,PySem.W.cellsFrom_some _ _ _ (.inl q)⟩
 refine codeAny_call_function hr.depth (KX _ _ lk) rfl S.co S.gen rfl (PySem.W.codeRec_of KX hcd) (hb _ _ _ _ ?_);refine wpAny_newFunctionEnv_cells S.kind hkind λenv he s1 x=>?_
 subst he;refine⟨lim.keeps x.toInCall.keep,codeAny_func ?_⟩;obtain⟨t,ht,hq⟩:=hbody A outer s H vs Q E (hr.deeper _) hsp;have I:Inv (f9 CX P w K mg base N qual scope f cdv A outer s H E) [] (start N vs) H s1:=Bq S hr.hd e0 hl r x;refine wpAny_mono (ht [] s1 (start N vs) H _ I hq) (λfl s' hs=>?_) λe s' hs=>hs
 have fin:∀{σ':St} {H':Hp} {v:V} {u:Value},Inv (f9 CX P w K mg base N qual scope f cdv A outer s H E) [] σ' H' s'->RelV v u->Q v H'->CE outer P w H s Q u s' :=
  λ{σ' H' v u} J rv q=>⟨v,H',J.os,J.bare,J.base,J.hok,rv,q⟩
 cases fl with
 |ret u =>obtain⟨v,σ',H',J,rv,q⟩:=hs;exact fin J rv q
 |next =>obtain⟨σ',H',J,q⟩:=hs;exact fin (v:=V.non) (u:=Value.none) J rfl q
 |brk =>obtain⟨_,_,_,q⟩:=hs;exact False.elim q
 |cont =>obtain⟨_,_,_,q⟩:=hs;exact False.elim q
section
variable {X:Cx}{x:Str}{p pos:Pos}{e:Expr}{es:List Expr}{t:TA}{id T:String}{r:List V->Hp->VK->Prop}
def tCB(r:List V->Hp->VK->Prop)(t:TA):TE:=λσ H Q=>t σ H λvs H1=>r vs H1 Q
theorem bZ(hc:CallR X (.builtin id) r)(hg:Gl X x)(hm:X.mg x=none)(hv:bootBuiltins x=some (.builtin id))(ha:PA X (e::es) t)(hn:x≠"__name__":=by decide)(hdb:(x == ("__debug__":Str))=false:=by decide)
 (he:starEach (e::es) X.env=(false,eval e X.env)::starEach es X.env:=by rfl) (hpl:(backTo pos (starEach es X.env)).any (·.1)=false:=by rfl):PE X (.Call (.Name x p) (e::es) [] pos) (tCB r t):=by
 intro pins s σ H Q I h;refine wpAny_Call_Name_kw (dF I hg hm hv ?_ hn hdb);exact PyProof.Rows.callWith_builtin1 (thn (ha pos pins s σ H _ I h) λus s1 ⟨vs,H1,I1,r1,q1⟩=>hc pins s1 σ H1 vs us Q I1 r1 q1) he hpl
theorem fj(hc:CallR X (.type T) r)(hg:Gl X x)(hm:X.mg x=none)(hv:bootBuiltins x=some (.type T))(ha:PA X (e::es) t)(hn:x≠"__name__":=by decide)(hdb:(x == ("__debug__":Str))=false:=by decide)
 (he:starEach (e::es) X.env=(false,eval e X.env)::starEach es X.env:=by rfl) (hpl:(backTo pos (starEach es X.env)).any (·.1)=false:=by rfl):PE X (.Call (.Name x p) (e::es) [] pos) (tCB r t):=by
 intro pins s σ H Q I h;refine wpAny_Call_Name_kw (dF I hg hm hv ?_ hn hdb);exact PyProof.Rows.callWith_type1 (thn (ha pos pins s σ H _ I h) λus s1 ⟨vs,H1,I1,r1,q1⟩=>hc pins s1 σ H1 vs us Q I1 r1 q1) he hpl
end
end L2
namespace HT
open PySem PyProof.Rows
section
open PySem.SeqAt
open PySem.AutoSeq1 (wpAny_loadPart')
open PySem.MeetsSeq PySem.MeetsSeq2 PySem.MeetsSeq3
end
section
variable {prog:Program}{w:World}{A:Around}{E:Value->Shared->Prop}{s:Shared}
noncomputable def sIx(n d:Nat):Option Int->Nat
 |none=>d
 |some v=>if v<0 then(v+(n:Int)).toNat else min v.toNat n
theorem sIx_none(n d:Nat):sIx n d none=d:=rfl
theorem sIx_nat(n d k:Nat):sIx n d (some (k:Int))=min k n:=by show(if(k:Int)<0 then((k:Int)+(n:Int)).toNat else min (k:Int).toNat n)=min k n;rw[if_neg (by omega),Int.toNat_natCast]
end
end HT
namespace L2
open PySem PySem.Spec PyProof.Rows
abbrev TO:=St->Hp->(Option Int->Hp->Prop)->Prop
noncomputable def PO(X:Cx)(e:Option Expr)(t:TO):Prop :=
 ∀(pins:List (Addr×Obj)) (s:Shared) (σ:St) (H:Hp) (Q:Option Int->Hp->Prop),Inv X pins σ H s->t σ H Q ->
  wpAny (model X.prog X.w) X.A (evalPart e X.env) (λu s'=>∃o H',Inv X pins σ H' s'/\IsPart u o/\Q o H') X.xe s
noncomputable def wY:TO:=λ_ H Q=>Q none H
noncomputable def wW(t:TE):TO:=λσ H Q=>t σ H λx H1=>∃i,x=.int i/\Q (some i) H1
theorem g8{ns:List Int}:∀{us:List Value},Vals (ns.map V.int) us->IntsAre us ns:=by
 induction ns with
 |nil=>intro us r;rw[Gz]at r;cases r;exact .nil
 |cons n ns ih =>
  intro us r;rw[Fo]at r;cases r with
  |cons r1 r2 =>obtain⟨t,e⟩:=r1;subst e;exact .cons n t (ih r2)
section
variable {X:Cx}{e:Expr}{te:TE}{lo hi:Option Expr}{tl th:TO}{pos p2:Pos}
theorem fe:PO X none wY:=by intro pins s σ H Q I h;rw[evalPart_none];exact wpAny_pure ⟨none,H,I,.none,h⟩
theorem fb(h:PE X e te):PO X (some e) (wW te):=by
 intro pins s σ H Q I hw;rw[evalPart_some];refine thn (h pins s σ H _ I hw) λu s1 ⟨x,H1,I1,r1,q1⟩=>?_
 obtain⟨i,rfl,q⟩:=q1;obtain⟨t,rfl⟩:=r1;exact⟨some i,H1,I1,.int i t,q⟩
noncomputable def SlR(X:Cx)(r:V->Option Int->Option Int->Hp->VK->Prop):Prop :=
 ∀(pins:List (Addr×Obj)) (s:Shared) (σ:St) (H:Hp) (x:V) (v vl vu:Value) (lo hi:Option Int) (sl:Addr) (Q:VK),Inv X pins σ H s->RelV x v->s.heap.IsSliceOf sl vl vu .none->IsPart vl lo->IsPart vu hi->r x lo hi H Q ->
  ∃T id,typeLookup (.type T) "__getitem__"=pure (some (.builtin id))/\s.TypeIs v T/\wpAny (model X.prog X.w) X.A (getItem v (.ref sl)) (EP X pins σ Q) X.xe s
theorem SlR.or{r r':V->Option Int->Option Int->Hp->VK->Prop}(h:SlR X r)(h':SlR X r'):SlR X (λx lo hi H Q=>r x lo hi H Q\/r' x lo hi H Q):=by
 intro pins s σ H x v vl vu lo hi sl Q I rx hs pl pu q;rcases q with q |q
 ·exact h pins s σ H x v vl vu lo hi sl Q I rx hs pl pu q
 ·exact h' pins s σ H x v vl vu lo hi sl Q I rx hs pl pu q
def tSl(r:V->Option Int->Option Int->Hp->VK->Prop)(te:TE)(tl th:TO):TE:=λσ H Q=>te σ H λx H1=>tl σ H1 λl H2=>th σ H2 λu H3=>r x l u H3 Q
theorem fh{r:V->Option Int->Option Int->Hp->VK->Prop}(hr:SlR X r)(he:PE X e te)(hl:PO X lo tl)(hu:PO X hi th):PE X (.Subscript e (.Slice lo hi none p2) pos) (tSl r te tl th):=by
 intro pins s σ H Q I h;refine Subscript_ (thn (he pins s σ H _ I h) λv s1 ⟨x,H1,I1,r1,q1⟩=>?_);refine wpAny_Slice (thn (hl pins s1 σ H1 _ I1 q1) λvl s2 ⟨l,H2,I2,pl,q2⟩=>thn (hu pins s2 σ H2 _ I2 q2) λvu s3 ⟨u,H3,I3,pu,q3⟩=>?_);rw[evalPart_none];refine wpAny_pure ?_;have I4:Inv X pins σ H3 { s3 with heap:=s3.heap.push { cls:=.type "slice",data:=.fields #[vl,vu,.none] } }:=I3.kept (t':=s3.toks) λb ob q=>Heap.get?_push_of_some _ q
 obtain⟨T,id,hT,ht,hg⟩:=hr pins { s3 with heap:=s3.heap.push { cls:=.type "slice",data:=.fields #[vl,vu,.none] } } σ H3 x v vl vu l u s3.heap.objs.size Q I4 r1 (Heap.IsSliceOf.new ..) pl pu q3;show wpAny (model X.prog X.w) X.A (subscriptTail e (.Slice lo hi none p2) v (.ref s3.heap.objs.size)) (EP X pins σ Q) X.xe { s3 with heap:=s3.heap.push { cls:=.type "slice",data:=.fields #[vl,vu,.none] } };exact tail_any (ops:=[.ref s3.heap.objs.size,v]) ht hT hg (by with_unfolding_all rfl)
noncomputable def d7(xs:List V)(lo hi:Option Int):List V:=(xs.drop (HT.sIx xs.length 0 lo)).take (HT.sIx xs.length xs.length hi-HT.sIx xs.length 0 lo)
theorem CF(xs:List V)(lo hi:Option Int):(d7 xs lo hi).length<=xs.length:=by unfold d7;rw[FW,Hm];omega
end
noncomputable def ixN(n:Nat)(i:Int):Option Nat:=if 0<=i then(if i<n then some i.toNat else none)else if -(n:Int)<=i then some (i+n).toNat else none
noncomputable def atI{α:Type}(xs:List α)(i:Int):Option α:=(ixN xs.length i).bind λj=>xs[j]?
theorem um{n:Nat}{i:Int}{j:Nat}(h:ixN n i=some j):seqIndex? i n=some j/\j<n /\ -(n:Int)<=i/\i<n:=by
 unfold ixN at h
 by_cases h0:0<=i
 ·rw[if_pos h0]at h;by_cases h1:i<n
  ·rw[if_pos h1]at h;have e:i.toNat=j:=Option.some.inj h;exact⟨by rw[seqIndex_of h0 h1,e],by omega,by omega,h1⟩
  ·rw[if_neg h1]at h;cases h
 ·rw[if_neg h0]at h;by_cases h1 : -(n:Int)<=i
  ·rw[if_pos h1]at h;have e:(i+n).toNat=j:=Option.some.inj h;exact⟨by rw[seqIndex_neg (by omega) h1,e],by omega,h1,by omega⟩
  ·rw[if_neg h1]at h;cases h
theorem vM{α:Type}{xs:List α}{i:Int}{v:α}(h:atI xs i=some v):∃j,seqIndex? i xs.length=some j/\xs[j]?=some v/\j<xs.length /\ -(xs.length:Int)<=i/\i<xs.length:=by
 unfold atI at h
 cases e:ixN xs.length i with
 |none=>rw[e]at h;cases h
 |some j =>rw[e]at h;obtain⟨h1,h2,h3,h4⟩:=um e;exact⟨j,h1,h,h2,h3,h4⟩
theorem fE{α:Type}{xs:List α}{j:Nat}{v:α}(h:xs[j]?=some v):atI xs (j:Int)=some v:=by
 have hj:j<xs.length:=(List.getElem?_eq_some_iff.mp h).1
 have e:ixN xs.length (j:Int)=some j:=by unfold ixN;rw[if_pos (by omega),if_pos (by omega)];simp
 unfold atI;rw[e];exact h
theorem oR{α:Type}(xs:List α)(v:α):atI (xs++[v]) (-1)=some v:=by
 have hl:(xs++[v]).length=xs.length+1:=by simp
 have e:ixN (xs++[v]).length (-1)=some xs.length:=by
  unfold ixN;rw[hl,if_neg (by decide),if_pos (by omega)]
  congr 1
  omega
 unfold atI;rw[e];show(xs++[v])[xs.length]?=some v;simp
def oT(b:Expr):Prop:=∀o i,subscripted b false o i=operate [o,i] (getItem o i)
noncomputable def IxR(X:Cx)(r:R2):Prop :=
 ∀(value slice:Expr) (pins:List (Addr×Obj)) (s:Shared) (σ:St) (H:Hp) (x y:V) (v u:Value) (Q:VK),Inv X pins σ H s->RelV x v->RelV y u->r x y H Q ->
  subscripted slice false v u=operate [v,u] (getItem v u)->wpAny (model X.prog X.w) X.A (subscriptTail value slice v u) (EP X pins σ Q) X.xe s
noncomputable def MtR(X:Cx)(id:String)(r:V->List V->Hp->VK->Prop):Prop :=
 ∀(pins:List (Addr×Obj)) (s:Shared) (σ:St) (H:Hp) (x:V) (xs:List V) (v:Value) (us:List Value) (Q:VK),Inv X pins σ H s->RelV x v->Vals xs us->r x xs H Q ->
  wpAny (model X.prog X.w) X.A (call (.builtin id) (v::us)) (EP X pins σ Q) X.xe s
section
variable {X:Cx}{a b:Expr}{ta tb:TE}{pos:Pos}
theorem IxR.or{r r':R2}(h:IxR X r)(h':IxR X r'):IxR X (λx y H Q=>r x y H Q\/r' x y H Q):=by
 intro value slice pins s σ H x y v u Q I rx ry q hs;rcases q with q |q
 ·exact h value slice pins s σ H x y v u Q I rx ry q hs
 ·exact h' value slice pins s σ H x y v u Q I rx ry q hs
theorem MtR.or{id:String}{r r':V->List V->Hp->VK->Prop}(h:MtR X id r)(h':MtR X id r'):MtR X id (λx xs H Q=>r x xs H Q\/r' x xs H Q):=by
 intro pins s σ H x xs v us Q I rx rs q;rcases q with q |q
 ·exact h pins s σ H x xs v us Q I rx rs q
 ·exact h' pins s σ H x xs v us Q I rx rs q
theorem sX{r:R2}(hr:IxR X r)(ha:PE X a ta)(hb:PE X b tb)(hs:oT b):PE X (.Subscript a b pos) (tOp r ta tb):=by intro pins s σ H Q I h;exact Subscript_ (oP ha hb I h λv u s2 x y H2 I2 rx ry q=>hr a b pins s2 σ H2 x y v u Q I2 rx ry q (hs _ _))
def mX(K:PySem.W.Frag):R2:=λx y H Q=>∃p xs i v,x=.ref p/\y=.int i/\SqL K H p xs/\atI xs i=some v/\Q v H
def mW(K:PySem.W.Frag):R2:=λx y H Q=>∃p xs i v,x=.ref p/\y=.int i/\SqT K H p xs/\atI xs i=some v/\Q v H
theorem Bl:IxR X (mX X.K):=by
 intro value slice pins s σ H x y v u Q I rx ry h hs;obtain⟨p,xs,i,z,rfl,rfl,hq,he,q⟩:=h;cases rx;obtain⟨t,rfl⟩:=ry;obtain⟨its,r,pl,hz⟩:=I.list hq;obtain⟨j,h1,h2,h3,h4,h5⟩:=vM he;obtain⟨w,ew,rw'⟩:=r.get h2;have hl:=r.length;have hn:=jR;have fin:EP X pins σ Q w s:=⟨z,H,I,rw',q⟩;by_cases h0:0<=i
 ·have hj:i.toNat=j:=by rw[seqIndex_of h0 h5]at h1;exact Option.some.inj h1
  exact item_listR pl.isList h0 (by omega) (by rw[hj];simpa using ew) fin hs
 ·have hj:(i+(its.toArray.size:Int)).toNat=j:=by rw[seqIndex_neg (by omega) h4]at h1;rw[FR,<- hl];exact Option.some.inj h1
  exact subscriptTail_builtinR (x:=w) pl.isList.typeIs slot_list_getitem.lookup
   (wpAny_getItem_list_neg (Q:=λr s'=>r=w/\EP X pins σ Q r s') pl.isList (by omega) (by rw[FR]<;>omega) (by omega) (by rw[hj];simpa using ew) ⟨rfl,fin⟩) hs
theorem Bj:IxR X (mW X.K):=by
 intro value slice pins s σ H x y v u Q I rx ry h hs;obtain⟨p,xs,i,z,rfl,rfl,hq,he,q⟩:=h;cases rx;obtain⟨t,rfl⟩:=ry;obtain⟨its,r,pl,hz⟩:=I.tuple hq;obtain⟨j,h1,h2,h3,h4,h5⟩:=vM he;obtain⟨w,ew,rw'⟩:=r.get h2;have hl:=r.length;have hn:=jR;have fin:EP X pins σ Q w s:=⟨z,H,I,rw',q⟩
 exact subscriptTail_builtinR (x:=w) pl.typeIs slot_tuple_getitem.lookup
  (getItem_tuple (j:=j) (Q:=λr s'=>r=w/\EP X pins σ Q r s') pl (by omega) (by omega) (by rw[FR,<- hl];exact h1) (by simpa using ew) ⟨rfl,fin⟩) hs
theorem AX(its:List Value)(n j:Nat)(u:Value):Obj.mapSeq (·.setIfInBounds j u) { cls:=.type "list",data:=.seq its.toArray n }={ cls:=.type "list",data:=.seq (its.set j u).toArray n }:=by simp[Obj.mapSeq]
theorem Inv.lst{pins:List (Addr×Obj)}{σ:St}{H:Hp}{s:Shared}{p:Addr}{xs:List V}(I:Inv X pins σ H s)(h:H p=some (.lst xs)) :
 ∃(its:List Value) (n:Nat),Vals xs its/\s.heap.get? p=some { cls:=.type "list",data:=.seq its.toArray n }/\xs.length<=sizeLine:=by
 obtain⟨z,its,n,r,e⟩:=I.hok p _ h;exact⟨its,n,r,e,z⟩
theorem Inv.lstUpd{pins:List (Addr×Obj)}{σ:St}{H:Hp}{s:Shared}{p:Addr}{xs ys:List V}{its its':List Value}{n n':Nat}{f:Obj->Obj}(I:Inv X pins σ H s)(h:H p=some (.lst xs))
 (ho:s.heap.get? p=some { cls:=.type "list",data:=.seq its.toArray n }) (hf:f { cls:=.type "list",data:=.seq its.toArray n }={ cls:=.type "list",data:=.seq its'.toArray n' }) (r:Vals ys its') (hz:ys.length<=sizeLine) (t:Nat) :
 Inv X pins σ (upd H p (.lst ys)) { s with heap:=s.heap.update p f,toks:=t }:=by
 have e:(s.heap.update p f).get? p=some { cls:=.type "list",data:=.seq its'.toArray n' }:=by rw[Heap.get?_update_self f ho (by rw[hf]<;>rfl),hf]
 refine I.write (x:=p) (e:=p) (by rw[h];trivial) (.inl rfl) (λb u hb q=>(Heap.get?_update_other _ _ (Ne.symm hb)).trans q) ⟨_,e⟩ ?_;exact⟨hz,its',n',r,e⟩
noncomputable def yD:V->V->V->Hp->(Hp->Prop)->Prop:=λo i v H Q=>∃p xs k j,o=.ref p/\i=.int k/\H p=some (.lst xs)/\ixN xs.length k=some j/\Q (upd H p (.lst (xs.set j v)))
theorem gz:vP X yD:=by
 intro pins s σ H o i v ov iv u Q I ro ri rv h;obtain⟨p,xs,k,j,rfl,rfl,hp,hj,q⟩:=h;cases ro;obtain⟨t,rfl⟩:=ri;obtain⟨its,n,r,ho,hz⟩:=I.lst hp;obtain⟨h1,h2,h3,h4⟩:=um hj;have hl:=r.length;have hn:=jR
 have I':Inv X pins σ (upd H p (.lst (xs.set j v))) { s with heap:=s.heap.update p (Obj.mapSeq (·.setIfInBounds j u)) } :=
  I.lstUpd hp ho (AX its n j u) (r.set rv j) (by rw[Gr];exact hz) s.toks
 by_cases h0:0<=k
 ·have hk:k.toNat=j:=by rw[seqIndex_of h0 h4]at h1;exact Option.some.inj h1
  exact PySem.W.ki_setAt ho h0 (by omega) (by rw[FR,<- hl];exact h4) (by rw[hk];exact⟨_,I',q⟩)
 ·have hk:(k+(its.toArray.size:Int)).toNat=j:=by rw[seqIndex_neg (by omega) h3]at h1;rw[FR,<- hl];exact Option.some.inj h1
  exact PySem.W.ki_setBack ho (by omega) (by rw[FR,<- hl];exact h3) (by omega) (by rw[hk];exact⟨_,I',q⟩)
theorem xp(lo hi:Option Int)(n:Nat):(sliceBounds lo hi none n).1=((HT.sIx n 0 lo:Nat):Int)/\(sliceBounds lo hi none n).2.1=((HT.sIx n n hi:Nat):Int)/\(sliceBounds lo hi none n).2.2=1:=by
 refine⟨?_,?_,rfl⟩
 ·cases lo with
  |none=>simp[sliceBounds,HT.sIx]
  |some i =>
   simp only[sliceBounds,HT.sIx,Option.getD_none,show(1:Int)>0 by decide,if_true];by_cases h:i<0
   ·simp only[h,if_true]<;>omega
   ·simp only[h,if_false]<;>omega
 ·cases hi with
  |none=>simp[sliceBounds,HT.sIx]
  |some i =>
   simp only[sliceBounds,HT.sIx,Option.getD_none,show(1:Int)>0 by decide,if_true];by_cases h:i<0
   ·simp only[h,if_true]<;>omega
   ·simp only[h,if_false]<;>omega
theorem xq(its:List Value)(lo hi:Option Int):slicePick its.toArray lo hi none=((its.drop (HT.sIx its.length 0 lo)).take (HT.sIx its.length its.length hi-HT.sIx its.length 0 lo)).toArray:=by obtain⟨h1,h2,h3⟩:=xp lo hi its.toArray.size;unfold slicePick;rw[h1,h2,h3];simp only[sliceRange_one,pick_run,FR]<;>rfl
noncomputable def jB(K:PySem.W.Frag):V->Option Int->Option Int->Hp->VK->Prop:=λx lo hi H Q=>∃a xs,x=.ref a/\SqL K H a xs/\∀p,H p=none->Q (.ref p) (upd H p (.lst (d7 xs lo hi)))
theorem xr:SlR X (jB X.K):=by intro pins s σ H x v vl vu lo hi sl Q I rx hs pl pu h;obtain⟨a,xs,rfl,hx,q⟩:=h;cases rx;obtain⟨its,r,ht,hz⟩:=I.list hx;have hlen:=r.length;refine⟨"list",_,slot_list_getitem.lookup,ht.isList.typeIs,?_⟩;refine wpAny_getItem_list_slice ht.isList hs pl pu .none (by simp) ?_ (by rw[FR]<;>omega);rw[xq,<- hlen];refine⟨.ref s.heap.objs.size,_,I.laid (t':=s.toks) (o:=.lst (d7 xs lo hi)) (λb ob q=>Heap.get?_push_of_some _ q) (Fg _) ?_,rfl,q _ (I.hok.fresh (Fg _))⟩;exact⟨Fu (CF xs lo hi) hz,_,0,(r.drop (HT.sIx xs.length 0 lo)).take (HT.sIx xs.length xs.length hi-HT.sIx xs.length 0 lo),Heap.get?_push_size _ rfl⟩
theorem Dc:CallR X (.builtin "len") (λxs H Q=>∃p ys,xs=[.ref p]/\(SqL X.K H p ys\/SqT X.K H p ys)/\Q (.int ys.length) H):=by
 intro pins s σ H xs us Q I r h;obtain⟨p,ys,rfl,hq,q⟩:=h;obtain⟨u,rfl,rx⟩:=gm r;cases rx;have hn:=jR;rcases hq with hq |hq
 ·obtain⟨its,r',pl,hz⟩:=I.list hq;have hlen:=r'.length;exact Calls.call_len_list pl.isList (by simp only[FR]<;>omega) ⟨.int ys.length,H,I.tok _,⟨s.toks+1,by rw[FR,hlen]⟩,q⟩
 ·obtain⟨its,r',pl,hz⟩:=I.tuple hq;have hlen:=r'.length;exact len_tuple pl (by simp only[FR]<;>omega) ⟨.int ys.length,H,I.tok _,⟨s.toks+1,by rw[FR,hlen]⟩,q⟩
theorem CallR.or{f:Value}{r r':List V->Hp->VK->Prop}(h:CallR X f r)(h':CallR X f r'):CallR X f (λxs H Q=>r xs H Q\/r' xs H Q):=by
 intro pins s σ H xs us Q I rs q;rcases q with q |q
 ·exact h pins s σ H xs us Q I rs q
 ·exact h' pins s σ H xs us Q I rs q
theorem Db:CallR X (.type "list") (λxs H Q=>∃p ys,xs=[.ref p]/\(SqL X.K H p ys\/SqT X.K H p ys)/\∀l,H l=none->Q (.ref l) (upd H l (.lst ys))):=by
 intro pins s σ H xs us Q I r h;obtain⟨p,ys,rfl,hq,q⟩:=h;obtain⟨u,rfl,rx⟩:=gm r;cases rx
 have fin:∀(its:List Value),Vals ys its->ys.length<=sizeLine->∀(h':Heap) (c':Nat),(∀b o',s.heap.get? b=some o'->h'.get? b=some o') ->
  h'.get? s.heap.objs.size=some { cls:=.type "list",dict:=none,data:=.seq its.toArray c',slots:=#[] }->EP X pins σ Q (.ref s.heap.objs.size) { s with heap:=h' }:=λits r' hz h' c' kp e =>
  ⟨.ref s.heap.objs.size,_,I.laid (t':=s.toks) kp (Fg _) (show ObjOk X.prog X.w _ h' _ (.lst ys)from⟨hz,its,c',r',e⟩),rfl,q _ (I.hok.fresh (Fg _))⟩
 rcases hq with hq |hq
 ·obtain⟨its,r',pl,hz⟩:=I.list hq;have hlen:=r'.length;obtain⟨o,ho,hc,n,hd⟩:=pl.isList;exact call_list_seq p (.inl rfl) ho hc hd (λh' c' kp e=>fin its r' hz h' c' kp e) (by simp only[FR]<;>omega)
 ·obtain⟨its,r',pl,hz⟩:=I.tuple hq;have hlen:=r'.length;obtain⟨o,ho,hc,n,hd⟩:=pl;exact call_list_seq p (.inr rfl) ho hc hd (λh' c' kp e=>fin its r' hz h' c' kp e) (by simp only[FR]<;>omega)
def tyV(K:PySem.W.Frag)(T:String)(x:V)(H:Hp):Prop:=match x with
 |.str _=>T="str"
 |.int _=>T="int"
 |.ref p=>(T="list"/\∃xs,SqL K H p xs)\/(T="tuple"/\∃o,K.lookup p=some o/\o.cls=.type "tuple"/\o.dict=none) \/
  (T="dict"/\((∃kvs,H p=some (.dK kvs))\/∃kvs,H p=some (.dT kvs)))\/(T="set"/\∃S n,H p=some (.set S n))
 |_=>False
theorem pO{pins:List (Addr×Obj)}{σ:St}{H:Hp}{s:Shared}{T:String}{x:V}{v:Value}(I:Inv X pins σ H s)(r:RelV x v)(ty:tyV X.K T x H) :
 s.TypeIs v T/\∀a,v=.ref a->∃ob,s.heap.get? a=some ob/\ob.dict=none:=by
 cases x with
 |str z =>obtain⟨t,rfl⟩:=r;cases(show T="str" from ty);exact⟨typeIs_str s z t,λ_ e=>nomatch e⟩
 |int i =>obtain⟨t,rfl⟩:=r;cases(show T="int" from ty);exact⟨typeIs_int s i t,λ_ e=>nomatch e⟩
 |ref p =>
  cases r;rcases ty with⟨rfl,xs,hq⟩ |⟨rfl,o,hk,hc,hd⟩ |⟨rfl,hk⟩ |⟨rfl,S,n,hk⟩
  ·obtain⟨its,_,pl,_⟩:=I.list hq;refine⟨pl.isList.typeIs,λa e=>?_⟩;cases e;obtain⟨o,n,e,c,hd,_⟩:=pl;exact⟨o,e,hd⟩
  ·refine⟨⟨o,I.kIn p o hk,hc⟩,λa e=>?_⟩;cases e;exact⟨o,I.kIn _ o hk,hd⟩
  ·have z:∃o,s.heap.get? p=some o/\o.ExactDict:=by
    rcases hk with⟨kvs,hk⟩ |⟨kvs,hk⟩
    ·obtain⟨_,_,_,_,o,_,_,e,ex,_⟩:=I.hok p _ hk;exact⟨o,e,ex⟩
    ·obtain⟨_,_,_,_,o,_,_,e,ex,_⟩:=I.hok p _ hk;exact⟨o,e,ex⟩
   obtain⟨o,e,ex⟩:=z;refine⟨⟨o,e,ex.1⟩,λa e2=>?_⟩;cases e2;exact⟨o,e,ex.2.1⟩
  ·obtain⟨o,_,_,_,e,ex,_⟩:=I.hok p _ hk;refine⟨⟨o,e,ex.1⟩,λa e2=>?_⟩;cases e2;exact⟨o,e,ex.2.1⟩
 |_=>exact False.elim ty
def w8(K:PySem.W.Frag)(T:String)(r:V->List V->Hp->VK->Prop)(to:TE):TE:=λσ H Q=>to σ H λx H1=>tyV K T x H1/\r x [] H1 Q
def tBM(K:PySem.W.Frag)(T:String)(r:V->List V->Hp->VK->Prop)(to:TE)(t:TA):TE:=λσ H Q=>to σ H λx H1=>tyV K T x H1/\t σ H1 λxs H2=>r x xs H2 Q
variable {o e:Expr}{es:List Expr}{to:TE}{t:TA}{name:Str}{apos cpos:Pos}{T id:String}{r:V->List V->Hp->VK->Prop}
theorem ze(pa:PlainAttrs T)(slot:Slot T name id)(hty:typeOf (.builtin id)=pure (.type "method_descriptor"))(hm:MtR X id r)(ho:PE X o to)
 (hbase:attributeBase o name X.env (eval o X.env)=eval o X.env:=by rfl) (hline:(apos.endLine == cpos.line)=true:=by rfl):PE X (.Call (.Attribute o name apos) [] [] cpos) (w8 X.K T r to):=by
 intro pins s σ H Q I h;refine wpAny_Call_method0_late hbase hline (thn (ho pins s σ H _ I h) λv s1 ⟨x,H1,I1,r1,ty,q1⟩=>?_);obtain⟨h1,h2⟩:=pO I1 r1 ty;exact⟨T,id,pa,slot,hty,h1,h2,Calls.callWith_builtin rfl (PySem.evalArgs_none (hm pins s1 σ H1 x [] v [] Q I1 r1 .nil q1))⟩
theorem zf(pa:PlainAttrs T)(slot:Slot T name id)(hty:typeOf (.builtin id)=pure (.type "method_descriptor"))(hm:MtR X id r)(ho:PE X o to)(ha:PA X (e::es) t)
 (hbase:attributeBase o name X.env (eval o X.env)=eval o X.env:=by rfl)
 (hfew:((backTo cpos (starEach (e::es) X.env)).all (λx=>!x.1)&&(backToKw cpos (keywordEach [] X.env)).all (λx=>x.1.isSome)
   && decide ((e::es).length+([]:List Keyword).length+(if([]:List Keyword).isEmpty then 0 else 1)<30))=true:=by rfl)
 (hline:(apos.endLine == cpos.line)=true:=by rfl) (hs:starEach (e::es) X.env=(false,eval e X.env)::starEach es X.env:=by rfl) (hplain:(backTo cpos (starEach es X.env)).any (·.1)=false:=by rfl) :
 PE X (.Call (.Attribute o name apos) (e::es) [] cpos) (tBM X.K T r to t):=by
 intro pins s σ H Q I h;refine wpAny_Call_method_late hbase hfew hline rfl (thn (ho pins s σ H _ I h) λv s1 ⟨x,H1,I1,r1,ty,q1⟩=>?_);obtain⟨h1,h2⟩:=pO I1 r1 ty;refine⟨T,id,pa,slot,hty,h1,h2,?_⟩;have hA:=ha cpos pins s1 σ H1 _ I1 q1;rw[hs]at hA ⊢;refine Calls.callWith_builtin (by show(false || (backTo cpos (starEach es X.env)).any (·.1))=false;rw[hplain]<;>rfl) (Calls.evalArgs_plain ?_);exact thn hA λus s2 ⟨vs,H2,I2,r2,q2⟩=>hm pins s2 σ H2 x vs v us Q I2 r1 r2 q2
end
noncomputable def MtM(X:Cx)(id:String)(r:V->List V->Hp->VK->Prop):Prop :=
 ∀(pins:List (Addr×Obj)) (s:Shared) (σ:St) (H:Hp) (x:V) (xs:List V) (v:Value) (us:List Value) (Q:VK),Inv X pins σ H s->RelV x v->Vals xs us->r x xs H Q ->
  wpAny (model X.prog X.w) X.A (call (.builtin id) (v::us)) (EP X pins σ Q) X.xe s
theorem Vals.one:∀{x:V} {us:List Value},Vals [x] us->∃u,us=[u]/\RelV x u
 |_,_,.cons r .nil=>⟨_,rfl,r⟩
theorem Vals.two:∀{x y:V} {us:List Value},Vals [x,y] us->∃u v,us=[u,v]/\RelV x u/\RelV y v
 |_,_,_,.cons r (.cons q .nil)=>⟨_,_,rfl,r,q⟩
theorem Vals.zero:∀{us:List Value},Vals [] us->us=[]
 |_,.nil=>rfl
theorem Vals.dropLast{xs:List V}{us:List Value}(h:Vals xs us):Vals xs.dropLast us.dropLast:=by
 induction h with
 |nil=>exact .nil
 |cons r t ih =>
  cases t with
  |nil=>exact .nil
  |cons q t'=>exact .cons r ih
theorem Vals.eraseIdx:∀{xs:List V} {us:List Value} (i:Nat),Vals xs us->Vals (xs.eraseIdx i) (us.eraseIdx i)
 |_,_,_,.nil=>.nil
 |_,_,0,.cons _ t=>t
 |_,_,i+1,.cons r t=>.cons r (Vals.eraseIdx i t)
theorem Vals.reverse{xs:List V}{us:List Value}(h:Vals xs us):Vals xs.reverse us.reverse:=by
 induction h with
 |nil=>exact .nil
 |cons r t ih=>rw[List.reverse_cons,List.reverse_cons];exact Vals.append ih (.cons r .nil)
theorem Vals.rep{xs:List V}{us:List Value}(h:Vals xs us):∀k:Nat,Vals (List.replicate k xs).flatten (List.replicate k us).flatten
 |0=>.nil
 |k+1=>by rw[GV,GV,Hy,Hy];exact Vals.append h (Vals.rep h k)
theorem Cr{α:Type}(l:List α):l.eraseIdx (l.length-1)=l.dropLast:=by
 induction l with
 |nil=>rfl
 |cons a r ih =>
  cases r with
  |nil=>rfl
  |cons b r =>
   have e:(a::b::r).length-1=((b::r).length-1)+1:=by have h1:(a::b::r).length=r.length+2:=rfl;have h2:(b::r).length=r.length+1:=rfl;omega
   rw[e,List.eraseIdx_cons_succ,ih]
   all_goals rfl
theorem uD(its:List Value):∀(k:Nat) (acc:List Value),
 List.foldl (λx1 x2=>x1++x2) acc.toArray (List.replicate k its.toArray)=(acc++(List.replicate k its).flatten).toArray
 |0,acc=>by simp
 |k+1,acc=>by
  have e:acc.toArray++its.toArray=(acc++its).toArray:=by simp
  have e2:(acc++its)++(List.replicate k its).flatten=acc++(List.replicate (k+1) its).flatten:=by rw[GV,Hy,Fy]
  rw[<- e2,<- uD its k (acc++its),<- e,GV,List.foldl_cons]
section
variable {X:Cx}{pins:List (Addr×Obj)}{σ:St}{H:Hp}{s:Shared}{l b:Addr}{xs ys zs:List V}
theorem Inv.lset{its its':List Value}{n:Nat}{f:Array Value->Array Value}{t':Nat}(I:Inv X pins σ H s)(hH:H l=some (.lst xs))
 (e:s.heap.get? l=some { cls:=.type "list",data:=.seq its.toArray n }) (hf:f its.toArray=its'.toArray) (hv:Vals ys its') (hz:ys.length<=sizeLine) :
 Inv X pins σ (upd H l (.lst ys)) { s with heap:=s.heap.update l (Obj.mapSeq f),toks:=t' }:=by
 have q:=PySem.IsL.update e f;rw[hf]at q;refine I.write (x:=l) (e:=l) (by rw[hH];exact trivial) (.inl rfl) (λb' u hb hu=>(Heap.get?_update_other s.heap (Obj.mapSeq f) (Ne.symm hb)).trans hu) ⟨_,q⟩ ?_;exact⟨hz,its',_,hv,q⟩
theorem Inv.lnew{its:List Value}{t':Nat}(I:Inv X pins σ H s)(hv:Vals ys its)(hz:ys.length<=sizeLine) :
 Inv X pins σ (upd H s.heap.objs.size (.lst ys)) { s with heap:=s.heap.push { cls:=.type "list",data:=.seq its.toArray },toks:=t' } :=
 I.laid (λ_ _ q=>Heap.get?_push_of_some _ q) (Fg _) ⟨hz,its,0,hv,Heap.get?_push_size _ rfl⟩
theorem Inv.fresh(I:Inv X pins σ H s):H s.heap.objs.size=none:=I.hok.fresh (Fg _)
theorem Inv.lstM(I:Inv X pins σ H s)(hH:H l=some (.lst xs)):xs.length<=sizeLine/\∃(its:List Value) (n:Nat),Vals xs its/\xs.length=its.length/\s.heap.get? l=some { cls:=.type "list",data:=.seq its.toArray n }:=by obtain⟨z,its,n,r,e⟩:=I.hok l _ hH;exact⟨z,its,n,r,r.length,e⟩
theorem Ay{n:Nat}(h:n<=sizeLine):Builtin.List.listTooLong n=false:=by unfold Builtin.List.listTooLong;exact decide_eq_false (by omega)
end
section
variable {X:Cx}
noncomputable def sk:V->List V->Hp->VK->Prop:=λx vs H Q=>∃l xs y,x=.ref l/\vs=[y]/\H l=some (.lst xs)/\xs.length<sizeLine/\Q .non (upd H l (.lst (xs++[y])))
theorem AQ:MtM X "list.append" sk:=by intro pins s σ H x vs v us Q I rx rv h;obtain⟨l,xs,y,rfl,rfl,hH,hz,q⟩:=h;cases rx;obtain⟨u,rfl,ru⟩:=rv.one;obtain⟨z,its,n,r,hl,e⟩:=I.lstM hH;refine call_meets F.slot_list_append ⟨_,e,rfl⟩ F.entry_list_append (F.args_list_append_2 _ _) (PySem.list_append l its.toArray n u (by rw[FR];omega)) ⟨e,?_⟩;refine⟨.non,_,I.lset (its':=its++[u]) hH e (by simp) (r.append (.cons ru .nil)) ?_,rfl,q⟩;rw[Fd,List.length_singleton];omega
noncomputable def yF:V->List V->Hp->VK->Prop:=λx vs H Q=>∃l xs y,x=.ref l/\vs=[]/\H l=some (.lst xs)/\xs[xs.length-1]?=some y/\Q y (upd H l (.lst xs.dropLast))
theorem AO:MtM X "list.pop" yF:=by
 intro pins s σ H x vs v us Q I rx rv h;obtain⟨l,xs,y,rfl,rfl,hH,hy,q⟩:=h;cases rx;have hus:=rv.zero;subst hus;obtain⟨z,its,n,r,hl,e⟩:=I.lstM hH;obtain⟨u,hu,ru⟩:=r.get hy
 have hy':its.toArray[its.toArray.size-1]?=some u:=by show its.toArray[its.length-1]?=some u;rw[<- Array.getElem?_toList,<- hl];exact hu
 refine call_meets F.slot_list_pop ⟨_,e,rfl⟩ F.entry_list_pop (F.args_list_pop_1 _) (MeetsSeq.list_pop_last l its.toArray n u hy' (by rw[FR];omega)) ⟨e,?_⟩;refine⟨y,_,I.lset (its':=its.dropLast) hH e ?_ r.dropLast ?_,ru,q⟩
 ·show its.toArray.eraseIdxIfInBounds (its.toArray.size-1)=its.dropLast.toArray;rw[FR,List.eraseIdxIfInBounds_toArray,Cr]
 ·rw[List.length_dropLast];omega
def yE:R2:=λx y H Q=>∃l k xs,x=.ref l/\y=.int k/\H l=some (.lst xs) /\ -(2^63)<=k/\k<2^63/\xs.length*k.toNat<=sizeLine /\
 ∀p,H p=none->Q (.ref p) (upd H p (.lst (List.replicate k.toNat xs).flatten))
theorem A6{α:Type}(xs:List α)(k:Nat):(List.replicate k xs).flatten.length=k*xs.length:=by
 induction k with
 |zero=>simp
 |succ k ih=>rw[GV,Hy,Fd,ih,G6,GA]
theorem zi:OpR X (binaryOp .Mult) yE:=by
 intro pins s σ H x y v u Q I rx ry h;obtain⟨l,k,xs,rfl,rfl,hH,h1,h2,hz,q⟩:=h;cases rx;obtain⟨t,rfl⟩:=ry;obtain⟨z,its,n,r,hl,e⟩:=I.lstM hH;have hlen:its.toArray.size*k.toNat<=sizeLine:=by rw[FR,<- hl];exact hz
 have hcap:¬its.toArray.size*k.toNat>(2^63-1)/8:=by
  have:(sizeLine:Nat)<=(2^63-1)/8:=by decide
  omega
 have hfit:¬(!Builtin.List.listFitsIndex k)=true:=by rw[fitsIndex_both h1 h2];exact GU
 have hlong:¬Builtin.List.listTooLong (its.toArray.size*k.toNat)=true:=by rw[Ay hlen];exact GU
 have hnew:List.foldl (λx1 x2=>x1++x2) #[] (List.replicate (if its.toArray.isEmpty=true then 0 else k.toNat) its.toArray)=(List.replicate k.toNat its).flatten.toArray:=by
  have f0:∀m:Nat,List.foldl (λx1 x2=>x1++x2) #[] (List.replicate m its.toArray)=(List.replicate m its).flatten.toArray:=λm=>by have:=uD its m [];rw[Fm]at this;exact this
  rw[f0];cases its with
  |nil=>simp
  |cons a r'=>rw[if_neg (by simp)]
 refine wpAny_binaryOp_repeat_ref (T:="list") (U:="int") (by decide) ⟨_,e,rfl⟩ (λs'=>typeIs_int s' k t) noFill_list_mul F.fills_int_mul F.slot_int_rmul repeat_list F.slot_int_index.lookup
  (call_meets F.slot_int_rmul (typeIs_int s k t) F.entry_int_rmul (F.args_int_rmul_2 _ _) (int___rmul___int_list k t l its.toArray n)
    ⟨e,rfl,⟨_,e,rfl⟩,call_meets F.slot_list_mul ⟨_,e,rfl⟩ F.entry_list_mul (F.args_list_mul_2 _ _) (AutoListH.list___mul___list_int_3 l its.toArray n k t hfit hcap hlong) ⟨e,?_⟩⟩)
 rw[hnew];exact⟨.ref _,_,I.lnew (t':=s.toks) (r.rep k.toNat) (by rw[A6,Hn];exact hz),rfl,q _ I.fresh⟩
end
section
variable {prog:Program}{w:World}{A:Around}{E:Value->Shared->Prop}{s:Shared}
end
section
variable {X:Cx}
end
end L2
namespace Att
open PySem PySem.W PySem.Calls PyProof.Rows
theorem Br{P:Params}{h:Heap}:∀(ns:List Int) (vs:List Value),WellAll P h vs (ns.map WData.int)->IntsAre vs ns:=by
 intro ns
 induction ns with
 |nil =>intro vs w;rw[Gz]at w;cases w;exact .nil
 |cons n ns ih =>
  intro vs w;rw[Fo]at w;cases w with
  |cons a b =>cases a;exact .cons _ _ (ih _ b)
theorem xN{l:OpenLaw}{n:Nat}(hn:l.most=some n){P:Params}{h:Heap}{args:List WData}{iZ:List Value}
 (hpre:l.row.toRowW.claim.pre args=true) (hwl:WellAll P h iZ args) :
 ∃a vs ns,iZ=[Value.ref a]/\args=[WData.list (ns.map WData.int)]/\h.get? a=some { cls:=.type "list",data:=.seq vs.toArray }/\IntsAre vs ns/\ns.length<=n:=by
 have hsh:WShape.hasAll [] args [.list .int]=true:=(pre_splitW hpre).1;have hc:l.pre.holds [] { args:=args }=true:=(pre_splitW hpre).2;obtain⟨d,r,rfl,h1,h2⟩:=hasAllW_cons hsh;obtain rfl:=hasAllW_nil h2;obtain⟨xs,rfl,h3⟩:=hasW_list h1;obtain⟨ns,rfl⟩:=items_int h3
 have hlen:ns.length<=n:=by
  unfold OpenLaw.pre at hc
  have h4:(WTm.not (.lt (.lit (.int (n:Int))) (.len (.arg 0)))).holds [] { args:=[.list (ns.map .int)] }=true:=by have h4:=(holds_andW hc).1;rw[hn]at h4;exact h4
  have h5:=condW_of h4 (w_not (w_lt w_lit (w_len_list (w_arg rfl))));rw[Fc]at h5;refine GW λq=>?_
  have q':(n:Int)<((ns.length:Nat):Int):=by omega
  first
   | (rw[decide_eq_true q']at h5;exact absurd h5 (by decide))
   | (simp at h5;omega)
 cases hwl with
 |cons w1 w2 =>
  cases w2;cases w1 with
  |list ho hall=>exact⟨_,_,ns,rfl,rfl,ho,Br ns _ hall,hlen⟩
theorem yT(l:OpenLaw)(args:List WData):l.row.toRowW.claim.post args (.bool true) args=true :=
 postW_of (r:=l.row.toRowW) (X:=(true == true))
  (show WShape.has [] (.bool true) .bool=true by first |rfl |decide |simp[WShape.has,WShape.arms,WShape.armsAll])
  (show(WTm.eq .res (.lit (.bool true))).value [] { args:=args,res:=some (.bool true),after:=args }=some (.bool (true == true))from w_eq_bool (w_res rfl) w_lit) rfl
theorem attach_call{l:OpenLaw}{n:Nat}{q:Program}{loose:List Str}{XP:(Str->Option Value)->Heap->Prop}{YP:World->Heap->Prop}{d:DefRec}
 (hn:l.most=some n) (hdf:d.params.defaults=[])
 (call:∀(w:World) (s₀ s₁:Shared) (mg mb:Str->Option Value) (fa:Addr) (o:Obj) (pm cd doc:Value) (a:Addr) (vs:List Value) (ns:List Int),
   Ground q loose [] XP w s₀ mg mb s₁.heap->YP w s₁.heap ->
   s₁.heap.get? fa=some o->o.data=.func (docDef d.name d.params d.body d.scope pm cd doc)->s₁.heap.CodeRec cd d.name->mg d.name=some (.ref fa) ->
   s₁.heap.get? a=some { cls:=.type "list",data:=.seq vs.toArray }->IntsAre vs ns->ns.length<=n->s₁.gens=#[] ->
   codeAny (model l.prog w) callerA (.call (.ref fa) ⟨[.ref a],[]⟩) (λr s'=>r=.ok (.ret (.bool true))/\OldK s₁.heap s'.heap/\s'.os=s₁.os/\AllBare s'.gens) s₁) :
 WalkO q loose XP YP l.row.toRowW d [] (λf vs=>PySem.call f vs):=by
 intro w s₀ s₁ mg mb G Y fa o pm cd doc dV kV ho hd hcd hD hmg hg args iZ as hpre hlay hrd hwl hlo;obtain rfl:dV=.none:=Dflts.none hD hdf;obtain rfl:kV=.none:=Dflts.noKw hD;obtain⟨a,vs,ns,rfl,rfl,hobj,hints,hlen⟩:=xN hn hpre hwl;refine enter_call (codeAny_mono (call w s₀ s₁ mg mb fa o pm cd doc a vs ns G Y ho (fd_plain hd) hcd hmg hobj hints hlen hg) λr s' hq=>?_);obtain⟨rfl,h2,h3,h4⟩:=hq;exact⟨.inl ⟨.bool true,.bool true,[],rfl,λ_=>rfl,.bool true,yT l _,λ_=>⟨List.Pairwise.nil,λ_ hm=>(nomatch hm)⟩⟩,h2,h3,h4⟩
section
variable {prog:Program}{w:World}{A:Around}{E:Value->Shared->Prop}{s:Shared}{K:Frag}
end
end Att
namespace L2
open PySem PySem.Spec PyProof.Rows
theorem pJ:∀{vs:List Value} {ns:List Int},IntsAre vs ns->Vals (ns.map V.int) vs
 |_,_,.nil=>.nil
 |_,_,.cons n t h=>.cons ⟨t,rfl⟩ (pJ h)
def oU(H:Hp):Prop:=∀b,H b=none\/∃o xs,H b=some (.frz o (.lst xs))
noncomputable def Bs(s:Stmt)(j:Nat):Stmt:=match s with
 |.ClassDef _ _ _ body _ _ _ _ _ _ _=>body.getD j (.Pass ⟨0,0,0,0⟩)
 |_=>.Pass ⟨0,0,0,0⟩
noncomputable def cY(s:Stmt):Arguments:=match s with
 |.FunctionDef _ a _ _ _ _ _ _ _ _=>a
 |_=>{ posonlyargs:=[],args:=[],vararg:=none,kwonlyargs:=[],kw_defaults:=[],kwarg:=none,defaults:=[] }
noncomputable def cF(s:Stmt):List Stmt:=match s with
 |.FunctionDef _ _ b _ _ _ _ _ _ _=>b
 |_=>[]
noncomputable def aB(s:Stmt):Scope:=match s with
 |.FunctionDef _ _ _ _ _ _ sc _ _ _=>sc
 |_=>{ kind:=.function,names:=[],isGenerator:=false,isCoroutine:=false }
abbrev CX0:CXT:=λ_ _ _ _ _ _=>False
abbrev E0:XK:=λ_ _ _=>False
theorem jG{X:Cx}:iU CX0 X E0:=λ_ _ _ _ _ _ _ h=>h.elim
structure Fun(K:PySem.W.Frag)(x qual:Str)(st:Stmt)(f:Addr)(fd:FuncData):Prop where
 ex:∃(oc:Value) (od:Option Addr) (kV doc pm:Value) (an:Option Addr) (cdv ct:Value) (osl:Array (Option Value)),
  fd=PySem.W.fnOf x qual (cY st) (cF st) (aB st) .none kV doc pm an cdv ct/\K.lookup f=some ⟨oc,od,.func fd,osl⟩/\PySem.W.codeIn K cdv qual=true
 kp:PySem.W.keepIn K (.ref f)=true
section
variable {P:Program}{w:World}{K:PySem.W.Frag}{mg:Str->Option Value}{base:Heap}
theorem Fun.ok{x qual:Str}{st:Stmt}{f:Addr}{fd:FuncData}{N ps:List Str}{k:Nat}{sp:Sp}(F:Fun K x qual st f fd)(S:FnScope N ps (aB st))(len:∀vs H Q E,sp vs H Q E->vs.length=ps.length)
 (hbody:∀(cdv:Value) (A:Around) (outer:List Env) (s:Shared) (H:Hp) (vs:List V) (Q:VK) (E:XK),Room k (A.deeper (envOfC qual (aB st) s.heap.objs.size f cdv))->sp vs H Q E ->
   ∃t,PSs (f9 CX0 P w K mg base N qual (aB st) f cdv A outer s H E).nox (cF st) t/\t { nx:=λ_ H'=>Q .non H',rt:=Q } (start N vs) H):FnOk P w K mg base CX0 (k+1) f fd ps sp:=by
 obtain⟨oc,od,kV,doc,pm,an,cdv,ct,osl,rfl,lk,hcd⟩:=F.ex;refine uF lk hcd S len λA outer s H vs Q E hr hsp=>?_
 obtain⟨t,h,q⟩:=hbody cdv A outer s H vs Q E hr hsp;exact⟨t,h.nox,q⟩
theorem Fun.binds{x qual:Str}{st:Stmt}{f:Addr}{fd:FuncData}{ps:List Str}(F:Fun K x qual st f fd)
 (h:∀(kV doc pm:Value) (an:Option Addr) (cdv ct:Value) (us:List Value),us.length=ps.length->bindArgs (PySem.W.fnOf x qual (cY st) (cF st) (aB st) .none kV doc pm an cdv ct) ⟨us,[]⟩=pure (ps.zip us)):Binds K fd ps []:=by
 obtain⟨oc,od,kV,doc,pm,an,cdv,ct,osl,rfl,lk,hcd⟩:=F.ex;exact .all (h kV doc pm an cdv ct)
theorem uA{x qual:Str}{st:Stmt}{f:Addr}{oc:Value}{od an:Option Addr}{osl:Array (Option Value)}{kV doc pm cdv ct:Value}(l:K.lookup f=some ⟨oc,od,.func (PySem.W.fnOf x qual (cY st) (cF st) (aB st) .none kV doc pm an cdv ct),osl⟩)
 (c:PySem.W.codeIn K cdv qual=true) (k:PySem.W.keepIn K (.ref f)=true):Fun K x qual st f (PySem.W.fnOf x qual (cY st) (cF st) (aB st) .none kV doc pm an cdv ct):=⟨⟨oc,od,kV,doc,pm,an,cdv,ct,osl,rfl,l,c⟩,k⟩
end
section
variable {X:Cx}
theorem pv(i:Nat){x:Str}{pos:Pos}(hN:X.N[i]?=some x:=by rfl)(hv:Vis X.env.scope x:=by first |exact Or.inl rfl |exact Or.inr (Or.inl rfl) |exact Or.inr (Or.inr rfl))(hd:(x == ("__debug__":Str))=false:=by decide)
 (hcd:(x == ("__classdict__":Str))=false:=by decide):PE X (.Name x pos) (pW i):=y4 hN hv hd hcd
end
def Same(H H':Hp):Prop:=∀b o,H b=some o->H' b=some o
theorem Same.refl(H:Hp):Same H H:=λ_ _ h=>h
theorem Same.trans{H H1 H2:Hp}(a:Same H H1)(b:Same H1 H2):Same H H2:=λc o h=>b c o (a c o h)
theorem Same.free{H H':Hp}(e:Same H H'){l:Addr}(h:H' l=Option.none):H l=Option.none:=by
 cases q:H l with
 |none=>rfl
 |some o =>rw[e l o q]at h;cases h
theorem Same.seq{K:PySem.W.Frag}{H H':Hp}{a:Addr}{xs:List V}(e:Same H H')(h:SqL K H a xs):SqL K H' a xs:=by
 rcases h with(h |⟨o,h⟩) |h
 ·exact .inl (.inl (e _ _ h))
 ·exact .inl (.inr ⟨o,e _ _ h⟩)
 ·exact .inr h
end L2
set_option maxHeartbeats 4000000
namespace L2
open PySem PySem.Spec PyProof.Rows
noncomputable def d5(X:Cx)(N:List Str)(scope:Scope)(cl:List (Str×Addr))(C:Addr)(s₀:Shared)(H₀:Hp)(ex:List Addr):Cx where
 prog:=X.prog
 w:=X.w
 K:=X.K
 mg:=X.mg
 base:=X.base
 A:=X.A
 N:=N
 s₀:=s₀
 H₀:=H₀
 env:=compEnvC scope cl C X.env
 outer:=X.stack
 stack:=X.stack
 ex:=ex
 fn:=λ_=>false
 calm:=X.calm
 pn:=[]
 xe:=λ_ _=>False
structure CompOk(X:Cx)(fr:List Str)(js:List Nat)(scope:Scope)(cl:List (Str×Addr)):Prop where
 clos:closureFor scope X.env=pure cl
 cell:∀y∈scope.names,y.2≠.cell
 kind:scope.kind=.function
 names:∀y∈scope.names,y.2=.local->scope.names.lookup y.1=some .local
 clin:∀p∈cl,X.env.cells.lookup p.1=some p.2
 has:scope.names.all (λp=>p.2 != .free || (cl.lookup p.1).isSome)=true
 fre:Paired (λ(x:Str) (j:Nat)=>X.N[j]?=some x/\(X.env.scope.names.lookup x=some .cell\/X.env.scope.names.lookup x=some .free)/\scope.names.lookup x=some .free) fr js
theorem mR{env:Env}{x:Str}{k':NameKind}:∀{names:List (Str×NameKind)},
 (names.map λ(n,k)=>if(k == NameKind.free&&env.scope.kind == .function&&env.kindOf n == some .cell)then(n,NameKind.cell)else(n,k)).lookup x=some k' ->
 ∃k,names.lookup x=some k/\(k'=k\/(k=.free/\k'=.cell))
 | [],h=>by simp at h
 | (n,k)::r,h=>by
  have ih:=@mR env x k' r;change List.lookup x ((if(k == NameKind.free&&env.scope.kind == .function&&env.kindOf n == some .cell)=true then(n,NameKind.cell)else(n,k))::_)=_ at h
  by_cases hc:(k == NameKind.free&&env.scope.kind == .function&&env.kindOf n == some .cell)=true
  ·rw[if_pos hc]at h;cases hx:x == n with
   |true =>simp only[GX,hx]at h ⊢;cases h;refine⟨k,rfl,.inr ⟨?_,rfl⟩⟩;simp only[Bool.and_eq_true,beq_iff_eq]at hc;exact hc.1.1
   |false =>simp only[GX,hx]at h ⊢;exact ih h
  ·rw[if_neg hc]at h;cases hx:x == n with
   |true =>simp only[GX,hx]at h ⊢;cases h;exact⟨_,rfl,.inl rfl⟩
   |false =>simp only[GX,hx]at h ⊢;exact ih h
theorem rQ{env:Env}{x:Str}:∀{names:List (Str×NameKind)},names.lookup x=some .free ->
 (names.map λ(n,k)=>if(k == NameKind.free&&env.scope.kind == .function&&env.kindOf n == some .cell)then(n,NameKind.cell)else(n,k)).lookup x=some .cell \/
 (names.map λ(n,k)=>if(k == NameKind.free&&env.scope.kind == .function&&env.kindOf n == some .cell)then(n,NameKind.cell)else(n,k)).lookup x=some .free
 | [],h=>by simp at h
 | (n,k)::r,h=>by
  have ih:=@rQ env x r;show List.lookup x ((if(k == NameKind.free&&env.scope.kind == .function&&env.kindOf n == some .cell)=true then(n,NameKind.cell)else(n,k))::_)=_\/List.lookup x ((if(k == NameKind.free&&env.scope.kind == .function&&env.kindOf n == some .cell)=true then(n,NameKind.cell)else(n,k))::_)=_;by_cases hc:(k == NameKind.free&&env.scope.kind == .function&&env.kindOf n == some .cell)=true
  ·rw[if_pos hc];cases hx:x == n with
   |true=>simp only[GX,hx];exact .inl trivial
   |false=>simp only[GX,hx]at h ⊢;exact ih h
  ·rw[if_neg hc];cases hx:x == n with
   |true =>simp only[GX,hx]at h ⊢;cases h;exact .inr rfl
   |false=>simp only[GX,hx]at h ⊢;exact ih h
noncomputable def fv(n:Nat)(js:List Nat)(σ:St):St:=List.replicate n none++js.map λj=>(σ[j]?).join
def kv(n:Nat)(js:List Nat)(g:TG)(te:TE)(σ:St)(Q:VK)(J:It)(H1:Hp):Prop:=∃W:Nat->Nat->List V->St->Hp->Prop,(∃m,W 0 m [] (fv n js σ) H1) /\
 ∀i m ys σ' H',W i m ys σ' H' ->
  (J.stop i H'/\∀p,H' p=none->Q (.ref p) (upd H' p (.lst ys))) \/
  (J.go i H'/\ys.length<sizeLine/\∃N:V->St->Hp->Prop,(∀y σ'' H'',N y σ'' H''->∃m',m'<m/\W (i+1) m' (ys++[y]) σ'' H'')/\∀x H2,J.yld i H' x H2->g x σ' H2 λσ3 H3=>te σ3 H3 λy H4=>N y σ3 H4)
def qe(n:Nat)(js:List Nat)(wi:TI)(g:TG)(te:TE):TE:=λσ H Q=>wi σ H λJ H1=>kv n js g te σ Q J H1
noncomputable def Dw(X:Cx)(pins:List (Addr×Obj))(σ:St)(Q:VK)(D C:Addr)(s':Shared):Prop :=
 ∃H2,Inv X pins σ H2 s'/\Q (.ref D) H2/\H2 C=none/\C≠X.env.locals/\X.s₀.heap.objs.size<=C/\(∀x c,X.env.cells.lookup x=some c->c≠C)/\(∀p∈X.pn++pins,p.1≠C)/\∃m,s'.heap.Ns C m
section
variable {X:Cx}{own fr:List Str}{js:List Nat}{scope:Scope}{cl:List (Str×Addr)}{elt target iter:Expr}{pos:Pos}{wi:TI}{g:TG}{te:TE}
theorem fD(O:CompOk X fr js scope cl){x:Str}{c:Addr}(e:cl.lookup x=some c):X.env.cells.lookup x=some c:=O.clin (x,c) (PySem.mem_of_lookup e)
theorem vb{pins:List (Addr×Obj)}{σ:St}{H:Hp}{s:Shared}{fp:List Addr}{C:Addr}(O:CompOk X fr js scope cl)(I:Inv X pins σ H s)(hC:s.heap.objs.size<=C)(hf:∀b∈fp,eh X pins H b)(ho:∀b∈fp,b<s.heap.objs.size) :
 (d5 X (own++fr) scope cl C s H fp).Ok:=by
 refine⟨I.ok.mod,O.kind,I.ok.glob,I.ok.blt,hC,λx y c h1 h2=>I.ok.inj x y c (fD O h1) (fD O h2),λx hx=>?_,λx c h=>(by cases h),I.ok.hd,I.ok.frames,.inl rfl,λb hb=>?_,I.bs,?_,λb o e hb=>?_,λb hb hb'=>?_,I.stack,I.stkFree⟩
 ·have key:scope.names.lookup x=some .free:=by
   have hx':(scope.names.map λ(n,k)=>if(k == NameKind.free&&X.env.scope.kind == .function&&X.env.kindOf n == some .cell)then(n,NameKind.cell)else(n,k)).lookup x=some .cell \/
    (scope.names.map λ(n,k)=>if(k == NameKind.free&&X.env.scope.kind == .function&&X.env.kindOf n == some .cell)then(n,NameKind.cell)else(n,k)).lookup x=some .free:=hx
   rcases hx' with h |h
   ·obtain⟨k,e,z⟩:=mR h;rcases z with z |⟨z,_⟩
    ·subst z;exact absurd rfl (O.cell _ (PySem.mem_of_lookup e))
    ·subst z;exact e
   ·obtain⟨k,e,z⟩:=mR h;rcases z with z |⟨_,z⟩
    ·subst z;exact e
    ·cases z
  have hm:=List.all_eq_true.mp O.has _ (PySem.mem_of_lookup key);have hs:(cl.lookup x).isSome=true:=by simpa using hm
  exact Option.isSome_iff_exists.mp hs
 ·obtain⟨f0,f1,f2,f3,f4,f5⟩:=hf b hb;exact⟨FL (FN (ho b hb) hC),λx c e=>f4 x c (fD O e)⟩
 ·exact Fu I.ok.bsz I.sz
 ·obtain⟨f0,f1,f2,f3,f4,f5⟩:=hf b hb;rcases f3 with z |z
  ·exact I.ok.noex b o e z
  ·exact absurd (FN (Heap.lt_size e) (Fu I.ok.bsz z)) (Ge _)
 ·obtain⟨f0,f1,f2,f3,f4,f5⟩:=hf b hb;rcases FC.mp (I.stkSub b hb')with z |z
  ·exact f1 z
  ·exact f2 z
theorem Paired.idx{α β:Type}{F:α->β->Prop}:∀{l₁:List α} {l₂:List β},Paired F l₁ l₂->∀(i:Nat) (a:α) (b:β),l₁[i]?=some a->l₂[i]?=some b->F a b
 |_,_,.nil,_,_,_,h,_=>by simp at h
 |_,_,.cons r _,0,a,b,h1,h2=>by simp at h1 h2;subst h1;subst h2;exact r
 |_,_,.cons _ t,i+1,a,b,h1,h2=>Paired.idx t i a b (by simpa using h1) (by simpa using h2)
theorem CC{pins:List (Addr×Obj)}{σ:St}{H:Hp}{s s':Shared}{fp:List Addr}{C:Addr}{m:Str->Option Value}(O:CompOk X fr js scope cl)(hl:fr.length=js.length)(I:Inv X pins σ H s)(hC:s.heap.objs.size<=C)(hf:∀b∈fp,eh X pins H b)
 (ho:∀b∈fp,b<s.heap.objs.size) (os:s'.os=s.os) (hg:s'.gens=s.gens) (old:∀b o,s.heap.get? b=some o->s'.heap.get? b=some o) (hn:s'.heap.Ns C m) :
 Inv (d5 X (own++fr) scope cl C s H fp) [] (fv own.length js σ) H s':=by
 refine⟨vb O I hC hf ho,os,by rw[hg];exact I.bare,Un.kept old,⟨m,hn,λi x v e1 e2 e3=>?_⟩,λx c e=>?_,I.hok.fresh hC,λx c e=>I.freeC x c (fD O e),λp hp=>absurd (show p∈([]:List (Addr×Obj))from hp) (by simp),I.hok.kept old,?_⟩
 ·unfold fv at e2
  have e1':(own++fr)[i]?=some x:=e1;by_cases hi:i<own.length
  ·rw[List.getElem?_append_left (by simpa using hi),List.getElem?_replicate]at e2;split at e2<;>cases e2
  ·have hi':own.length<=i:=GW hi;rw[List.getElem?_append_right (by simpa using hi'),GL,List.getElem?_map]at e2;rw[List.getElem?_append_right hi']at e1';cases ej:js[i-own.length]? with
   |none=>rw[ej]at e2;cases e2
   |some j =>
    rw[ej]at e2;have e2':(σ[j]?).join=some v:=Option.some.inj e2
    have eσ:σ[j]?=some (some v):=by
     cases q:σ[j]? with
     |none=>rw[q]at e2';cases e2'
     |some o=>rw[q]at e2';simp at e2';rw[e2']
    obtain⟨hN,hk,hs⟩:=Paired.idx O.fre _ x j e1' ej;obtain⟨mo,hmo,hlo⟩:=I.loc;have vis:Vis X.env.scope x:=hk.elim (λz=>.inr (.inl z)) λz=>.inr (.inr z)
    obtain⟨u,r,l⟩:=hlo j x v hN eσ vis;refine⟨u,r,.inr ⟨rQ hs,?_⟩⟩;have hm:=List.all_eq_true.mp O.has _ (PySem.mem_of_lookup hs);have hs':(cl.lookup x).isSome=true:=by simpa using hm
    obtain⟨c,ec⟩:=Option.isSome_iff_exists.mp hs';refine⟨c,ec,?_⟩;rcases l with⟨k,_⟩ |⟨_,c',e',z⟩
    ·have k':X.env.scope.names.lookup x=some .local:=k;rcases hk with q |q<;>(rw[q]at k';cases k')
    ·have:=fD O ec;rw[e']at this;cases this;obtain⟨oc,hoc,hd⟩:=z;exact⟨oc,old _ _ hoc,hd⟩
 ·obtain⟨v,oc,hoc,hd⟩:=I.cell x c (fD O e);exact⟨v,oc,old _ _ hoc,hd⟩
 ·unfold fv;show _=(own++fr).length;rw[Fd,Fd,GL,Fc,hl]
theorem Un.adopt{fs ex:List Addr}{H H1:Hp}{h h1:Heap}{a:Addr}{o:HO}(u:Un fs ex H H1 h h1)(ha:h.objs.size<=a)(hn:H a=none):Un fs ex H (upd H1 a o) h h1 where
 keep:=u.keep
 slot:=u.slot
 free:=λb ob q n hx=>by rw[upd_ne (FL (FN (Heap.lt_size q) ha))];exact u.free b ob q n hx
 there:=u.there
 tups:=λb xs q=>by rw[upd_ne (aN q hn)];exact u.tups b xs q
 frzs:=λb ob xs q=>by rw[upd_ne (aN q hn)];exact u.frzs b ob xs q
 tbls:=λb ps q=>by rw[upd_ne (aN q hn)];exact u.tbls b ps q
theorem HOk.adopt{P:Program}{w:World}{H:Hp}{h:Heap}{a:Addr}{o:HO}(x:HOk P w H h)(hn:H a=none)(new:ObjOk P w (upd H a o) h a o):HOk P w (upd H a o) h:=λb u e=>by
 by_cases hb:b=a
 ·subst hb;rw[aq]at e;cases e;exact new
 ·rw[upd_ne hb]at e;exact(x b u e).stay (λc v _ q=>q) (λc q=>by rw[upd_ne (aN q hn)];exact q) λc xs q=>by rw[upd_ne (aN q hn)];exact q
theorem vj{pins:List (Addr×Obj)}{σ:St}{H:Hp}{s:Shared}{fp:List Addr}{it:Addr}{tn:Nat->Heap->Prop}{J:It}{E:Value->Shared->Prop}{Q:VK}{RR:Value->Addr->Result->Shared->Prop}(O:CompOk X fr js scope cl)(hl:fr.length=js.length)(hcm:X.calm=true)
 (I:Inv X pins σ H s) (T:Turn X.prog X.w X.K target J fp it tn) (st:tn 0 s.heap) (hf:∀b∈fp,eh X pins H b)
 (hg:∀C s₀ H₀ ex,PG (d5 X (own++fr) scope cl C s₀ H₀ ex) target g) (he:∀C s₀ H₀ ex,PE (d5 X (own++fr) scope cl C s₀ H₀ ex) elt te)
 (W:Nat->Nat->List V->St->Hp->Prop) {m0:Nat} (w0:W 0 m0 [] (fv own.length js σ) H)
 (turn:∀i m ys σ' H',W i m ys σ' H' ->
   (J.stop i H'/\∀p,H' p=none->Q (.ref p) (upd H' p (.lst ys))) \/
   (J.go i H'/\ys.length<sizeLine/\∃N:V->St->Hp->Prop,(∀y σ'' H'',N y σ'' H''->∃m',m'<m/\W (i+1) m' (ys++[y]) σ'' H'')/\∀x H2,J.yld i H' x H2->g x σ' H2 λσ3 H3=>te σ3 H3 λy H4=>N y σ3 H4))
 (hRR:∀D C s',Dw X pins σ Q D C s'->RR (.ref D) C (.ok .next) s') :
 wpAny (model X.prog X.w) X.A (newList []) (λacc s₃=>wpAny (model X.prog X.w) X.A (newFunctionEnv scope X.env.globals cl [] X.env.qual none .none (some X.env)) (λcenv s₄ =>
  codeAny (model X.prog X.w) X.A (.compStart (.ListComp elt [⟨target,iter,[],0⟩] scope pos) 0 (.ref it) acc { cenv with scope:=relabel scope X.env }) (RR acc cenv.locals) s₄) E s₃) E s:=by
 refine wpAny_newObj_type (wpAny_newFunctionEnv O.cell (by intro y hy;simp at hy) (λh₁ hns₁ hsb₁=>?_) O.kind);dsimp only at hns₁ hsb₁ ⊢
 generalize hH2:s.heap.push { cls:=.type "list",dict:=none,data:=.seq ([]:List Value).toArray }=H2 at hns₁ hsb₁ ⊢
 have hCs:H2.objs.size=s.heap.objs.size+1:=by rw[<- hH2,Heap.size_push]
 have hDC:s.heap.objs.size≠H2.objs.size:=by rw[hCs];exact FL (GK _)
 have hCge:s.heap.objs.size<=H2.objs.size:=by rw[hCs];exact Nat.le_succ _
 have below:∀b,b<s.heap.objs.size->b≠H2.objs.size/\b≠s.heap.objs.size:=λb hb=>⟨by rw[hCs];exact FL (Nat.lt_succ_of_lt hb),FL hb⟩
 have old:∀b o,s.heap.get? b=some o->h₁.get? b=some o:=λb o e=>hsb₁.extBut b o (below b (Heap.lt_size e)).1 (Heap.get?_push_of_some _ (hH2 ▸ Heap.get?_push_of_some _ e))
 have hacc:h₁.get? s.heap.objs.size=some { cls:=.type "list",data:=.seq ([]:List Value).toArray 0 }:=hsb₁.extBut _ _ hDC (Heap.get?_push_of_some _ (hH2 ▸ Heap.get?_push_size _ rfl));have ho:∀b∈fp,b<s.heap.objs.size:=λb hb=>by obtain⟨o,e,_⟩:=T.obj 0 _ st b hb;exact Heap.lt_size e
 generalize hDe:s.heap.objs.size=D at *
 generalize hCe:H2.objs.size=C at *
 let X':Cx:=d5 X (own++fr) scope cl C s H fp
 have ok':X'.Ok:=vb O I (by rw[hDe];exact hCge) hf (by rw[hDe];exact ho)
 have hDfs:D∉X'.fs:=by
  intro z;rcases FC.mp (I.stkSub D z)with q |q
  ·exact absurd I.lt (by rw[<- q,hDe];exact Ge _)
  ·exact I.nofs (GJ hDe) q
 have hDfp:∀b∈fp,D≠b:=λb hb z=>absurd (ho b hb) (by rw[z];exact Ge _)
 have hDcell:∀x c,cl.lookup x=some c->c≠D:=λx c e z=>by obtain⟨v,q⟩:=I.cell x c (fD O e);exact absurd q.lt (by rw[z,hDe];exact Ge _)
 have fpok:∀{H':Hp} {pins':List (Addr×Obj)},(∀p∈pins',p.1=D)->(∀b∈fp,H' b=none)->∀b∈fp,eh X' pins' H' b:=λ{H' pins'} hp hn b hb=>by
  obtain⟨f0,f1,f2,f3,f4,f5⟩:=hf b hb;refine⟨hn b hb,(below b (ho b hb)).1,λz=>?_,.inl hb,λx c e=>f4 x c (fD O e),λp hp'=>?_⟩
  ·rcases FC.mp (I.stkSub b z)with q |q
   ·exact f1 q
   ·exact f2 q
  ·have hp'':p∈pins':=by simpa[X',d5]using hp'
   rw[hp p hp''];exact hDfp b hb
 have loop:∀s₃:Shared,s₃={ s with heap:=h₁,toks:=s.toks+([]:List (Str×Value)).length } ->
  codeAny (model X.prog X.w) X.A (.compLoop (.ListComp elt [⟨target,iter,[],0⟩] scope pos) 0 (.ref it) (.ref D) (compEnvC scope cl C X.env)) (RR (.ref D) C) s₃:=by
  rintro s₃ rfl
  refine PySem.W.kcp_loop (λk s'=>∃i σ' H' ys its nn,Inv X' [] σ' H' s'/\tn i s'.heap/\(∀b∈fp,H' b=none)/\H' D=none/\s'.heap.get? D=some { cls:=.type "list",data:=.seq (its:List Value).toArray nn }/\Vals ys its/\ys.length<=sizeLine/\W i k ys σ' H') ?_ m0
   ⟨0,_,H,[],[],0,CC O hl I (by rw[hDe];exact hCge) hf (by rw[hDe];exact ho) rfl rfl (by intro b o e;exact old b o e) hns₁,T.keep _ _ _ st λb _ o e=>old b o e,λb hb=>(hf b hb).1,I.hok.fresh (GJ hDe),hacc,.nil,Fj _,w0⟩
  rintro k s' ⟨i,σ',H',ys,its,nn,I',st',hfn,hDn,hDo,rv,hz,w⟩;have hlen:=rv.length;have hpD:∀p∈[(D,({ cls:=.type "list",data:=.seq its.toArray nn }:Obj))],p.1=D:=λp hp=>by rw[Fv.mp hp]
  have Ip:Inv X' [(D,({ cls:=.type "list",data:=.seq its.toArray nn }:Obj))] σ' H' s':=I'.pins_of λp hp=>by rw[Fv.mp hp];exact⟨hDo,hDn,hDC,hDfs,λv z=>by cases z⟩
  rcases turn i k ys σ' H' w with⟨stop,fin⟩ |⟨go,hlt,N,hN,step⟩
  ·refine wpAny_mono (T.done X' rfl rfl rfl hcm i _ s' σ' H' (λ_ _=>False) Ip (fpok hpD hfn) st' stop) (λr s4 ⟨hr,I4⟩=>?_) λ_ _ z=>False.elim z
   subst hr;refine hRR D C s4 ?_;have hD4:s4.heap.get? D=some { cls:=.type "list",data:=.seq its.toArray nn }:=(I4.pin _ (FX _ (Fv.mpr rfl))).1;have un:Un (frs X.stack) fp H (upd H' D (.lst ys)) s.heap s4.heap:=Un.adopt I4.base (GJ hDe) (I.hok.fresh (GJ hDe));have hok:HOk X.prog X.w (upd H' D (.lst ys)) s4.heap:=HOk.adopt I4.hok hDn ⟨hz,its,nn,rv,hD4⟩;refine⟨upd H' D (.lst ys),I.call' I4.os un hok I4.bare λb hb=>?_,fin D hDn,?_,?_,?_,λx c e z=>?_,λp hp z=>?_,?_⟩
   ·obtain⟨f0,f1,f2,f3,f4,f5⟩:=hf b hb;exact⟨f3,f1,f4,f5⟩
   ·rw[upd_ne (Ne.symm hDC)];exact I4.free
   ·exact Nat.ne_of_gt (FN I.lt (by rw[hDe];exact hCge))
   ·exact Fu I.sz (by rw[hDe];exact hCge)
   ·obtain⟨v,q⟩:=I.cell x c e;exact absurd (FN q.lt (by rw[hDe,z];exact hCge)) (Ge _)
   ·exact absurd (FN (Heap.lt_size (I.pin p hp).1) (by rw[hDe,z];exact hCge)) (Ge _)
   ·obtain⟨m',hn',_⟩:=I4.loc;exact⟨m',hn'⟩
  ·refine wpAny_mono (T.item X' rfl rfl rfl hcm i _ s' σ' H' (λ_ _=>False) Ip (fpok hpD hfn) st' go) (λr s4 ⟨u,hr,h4⟩=>?_) λ_ _ z=>False.elim z
   subst hr;refine wpAny_mono h4 (λ_ s5 ⟨x,H5,I5,r5,y5,st5,fr5⟩=>?_) λ_ _ z=>False.elim z
   have I5':=I5.pinned (fpok hpD fr5) (T.obj _ _ st5);refine wpAny_mono (hg C s H fp _ s5 σ' H5 x u _ I5' r5 (step x H5 y5)) (λ_ s6 ⟨σ6,H6,I6,q6⟩=>?_) λ_ _ z=>False.elim z
   refine wpAny_mono (he C s H fp _ s6 σ6 H6 _ I6 q6) (λv s7 ⟨y,H7,I7,r7,n7⟩=>?_) λ_ _ z=>False.elim z
   obtain⟨m',hm',w7⟩:=hN y σ6 H7 n7;have hD7:=I7.pin (D,{ cls:=.type "list",data:=.seq its.toArray nn }) (FX _ (Gq _ (Fv.mpr rfl)));refine append_at hD7.1 (λh8 sb hD8=>?_) (by rw[FR,<- hlen];exact hz);have I7':Inv X' [] σ6 H7 s7:=I7.pins_of λp hp=>absurd hp (by simp)
   have I8:Inv X' [] σ6 H7 { s7 with heap:=h8 }:=I7'.turned (t':=s7.toks) (it:=D) (λb o hb e=>(sb.2 b hb).trans e) hD7.2.1 hDC (.inr (GJ hDe)) hDcell (λp hp=>absurd (show p∈([]:List (Addr×Obj))from hp) (by simp));refine⟨m',hm',i+1,σ6,H7,ys++[y],its++[v],nn+1,I8,T.keep _ _ _ st5 λb hb o e=>?_,λb hb=>?_,hD7.2.1,?_,rv.append (.cons r7 .nil),?_,w7⟩
   ·exact(sb.2 b (λz=>hDfp b hb z.symm)).trans (I7.pin (b,o) (FX _ (FX _ (jM hb e)))).1
   ·obtain⟨o,e,d⟩:=T.obj _ _ st5 b hb;exact(I7.pin (b,o) (FX _ (FX _ (jM hb e)))).2.1
   ·rw[hD8,List.push_toArray]
   ·rw[Fd,List.length_singleton];exact hlt
 exact codeAny_compStart_list (loop _ rfl) (T.self _ 0 _ _ _ (T.keep _ _ _ st λb _ o e=>old b o e) (loop _ rfl))
theorem fi(O:CompOk X fr js scope cl)(hcm:X.calm=true)(hi:PI X target iter wi)(hg:∀C s₀ H₀ ex,PG (d5 X (own++fr) scope cl C s₀ H₀ ex) target g)(he:∀C s₀ H₀ ex,PE (d5 X (own++fr) scope cl C s₀ H₀ ex) elt te)
 (hs:∀x,foldedSetIterable iter X.env x=pure x:=by intro _;rfl):PE X (.ListComp elt [⟨target,iter,[],0⟩] scope pos) (qe own.length js wi g te):=by
 intro pins s σ H Q I h;rw[eval_ListComp];refine wpAny_comprehension_free (use:=none) rfl hs O.clos O.kind O.names (thn (hi pins s σ H _ I h) λx s1 h1=>thn h1 λitv s2 h2=>?_);obtain⟨it,fp,tn,J,H2,rfl,I2,T,st,hf,W,⟨m0,w0⟩,turn⟩:=h2;refine vj (RR:=λacc C=>compPost (model X.prog X.w) X.A X.xe none (EP X pins σ Q) acc C) O (Paired.length O.fre) hcm I2 T st hf hg he W w0 turn ?_;rintro D C s' ⟨H3,I3,q,c1,c2,c3,c4,c5,m,hn⟩;exact⟨m,hn,λh' sb=>⟨.ref D,H3,I3.turned (t':=s'.toks) (it:=C) (λb o hb e=>(sb.2 b hb).trans e) c1 c2 (.inr c3) c4 c5,rfl,q⟩⟩
theorem fT{i:Nat}{y:Str}{py spos:Pos}(hN:X.N.Nodup)(hy:X.N[i]?=some y)(hly:Loc X.env.scope y)(O:CompOk X fr js scope cl)(hcm:X.calm=true)(hi:PI X target iter wi)(hg:∀C s₀ H₀ ex,PG (d5 X (own++fr) scope cl C s₀ H₀ ex) target g)
 (he:∀C s₀ H₀ ex,PE (d5 X (own++fr) scope cl C s₀ H₀ ex) elt te) (hsw:swapsWith (.ListComp elt [⟨target,iter,[],0⟩] scope pos) (some (.Name y py)) spos.line X.env=pure true)
 (hf:X.fn y=true\/X.env.scope.names.lookup y=some .local:=by first |exact .inl rfl |exact .inr rfl |assumption) (hs:∀x,foldedSetIterable iter X.env x=pure x:=by intro _;rfl) :
 PS X (.Assign [.Name y py] (.ListComp elt [⟨target,iter,[],0⟩] scope pos) spos) (eO (qe own.length js wi g te) (dH i)):=by
 intro pins s σ H D I h;rw[exec_Assign_Name_used _ _ _ _ hsw];refine wpAny_bind (wpAny_standAt (wpAny_bind ?_));show wpAny _ X.A (do let _ <- comprehension (.ListComp elt [⟨target,iter,[],0⟩] scope pos) scope X.env _ (newList []) false (eval iter X.env) (some (assign (.Name y py) X.env))) _ _ s
 refine wpAny_bind (wpAny_mono (wpAny_comprehension_free (use:=some (assign (.Name y py) X.env)) (Q:=λ_ s'=>SP X pins D .next s') rfl hs O.clos O.kind O.names
  (thn (hi pins s σ H _ I h) λx s1 h1=>thn h1 λitv s2 h2=>?_)) (λ_ s' hq=>wpAny_pure (wpAny_pure hq)) λ_ _ e=>e)
 obtain⟨it,fp,tn,J,H2,rfl,I2,T,st,hfp,W,⟨m0,w0⟩,turn⟩:=h2;refine vj (Q:=λx H1=>dH i x σ H1 D.nx) (RR:=λacc C=>compPost (model X.prog X.w) X.A X.xe (some (assign (.Name y py) X.env)) (λ_ s'=>SP X pins D .next s') acc C) O (Paired.length O.fre) hcm I2 T st hfp hg he W w0 turn ?_;rintro DD C s' ⟨H3,I3,q,c1,c2,c3,c4,c5,m,hn⟩;show wpAny _ _ (assign (.Name y py) X.env (.ref DD)) _ _ s';refine wpAny_assign_Name (qm I3 hN hy hly (v:=.ref DD) rfl (λs4 I4 ⟨a,sb,ha⟩=>?_) hf)
 have hCa:C≠a:=by
  rcases ha with rfl |ha
  ·exact c2
  ·exactλz=>c4 y a ha z.symm
 refine⟨m,hn.sameBut sb hCa,λh' sb'=>⟨_,H3,I4.turned (t':=s4.toks) (it:=C) (λb o hb e=>(sb'.2 b hb).trans e) c1 c2 (.inr c3) c4 c5,q⟩⟩
end
theorem d8{n:Nat}{js:List Nat}{K:PySem.W.Frag}{a:Addr}{xs:List V}{g:TG}{te:TE}{σ0:St}{H:Hp}{Q:VK}(Pv:Nat->List V->St->Hp->Prop)(hz:xs.length<=sizeLine)(h0:Pv 0 [] (fv n js σ0) H)(hl:∀i ys σ H,i<=xs.length->Pv i ys σ H->SqL K H a xs/\ys.length<=i)
 (hs:∀i x ys σ H,xs[i]?=some x->Pv i ys σ H->g x σ H λσ2 H2=>te σ2 H2 λy H3=>Pv (i+1) (ys++[y]) σ2 H3) (hd:∀ys σ H p,Pv xs.length ys σ H->H p=none->Q (.ref p) (upd H p (.lst ys))) :
 kv n js g te σ0 Q (Itl K a) H:=by
 refine⟨λi m ys σ H=>m=xs.length-i/\i<=xs.length/\Pv i ys σ H,⟨xs.length,by simp,Fj _,h0⟩,?_⟩;rintro i m ys σ H ⟨rfl,hi,p⟩;obtain⟨q,hy⟩:=hl i ys σ H hi p;by_cases hlt:i<xs.length
 ·refine .inr ⟨⟨xs,xs[i],q,by simp[hlt]⟩,by omega,λy σ'' H''=>Pv (i+1) (ys++[y]) σ'' H'',λy σ' H' p'=>⟨xs.length-(i+1),by omega,rfl,hlt,p'⟩,λx H' y=>?_⟩;obtain⟨e,y⟩:=y;subst e;exact hs i x ys σ _ (y xs q) p
 ·have e:i=xs.length:=by omega
  subst e;exact .inl ⟨⟨xs,q,Fg _⟩,λr hr=>hd ys σ H r p hr⟩
theorem j7{k:Nat}{js:List Nat}{lo:Int}{n:Nat}{g:TG}{te:TE}{σ0:St}{H:Hp}{Q:VK}(Pv:Nat->List V->St->Hp->Prop)(hz:n<=sizeLine)(h0:Pv 0 [] (fv k js σ0) H)(hl:∀i ys σ H,i<=n->Pv i ys σ H->ys.length<=i)
 (hs:∀i ys σ H,i<n->Pv i ys σ H->g (.int (lo+i)) σ H λσ2 H2=>te σ2 H2 λy H3=>Pv (i+1) (ys++[y]) σ2 H3) (hd:∀ys σ H p,Pv n ys σ H->H p=none->Q (.ref p) (upd H p (.lst ys))) :
 kv k js g te σ0 Q (Itr lo n) H:=by
 refine⟨λi m ys σ H=>m=n-i/\i<=n/\Pv i ys σ H,⟨n,by simp,Fj _,h0⟩,?_⟩;rintro i m ys σ H ⟨rfl,hi,p⟩;have hy:=hl i ys σ H hi p;by_cases hlt:i<n
 ·refine .inr ⟨hlt,by omega,λy σ'' H''=>Pv (i+1) (ys++[y]) σ'' H'',λy σ' H' p'=>⟨n-(i+1),by omega,rfl,hlt,p'⟩,λx H' y=>?_⟩;obtain⟨e,y⟩:=y;subst e y;exact hs i ys σ _ hlt p
 ·have e:i=n:=by omega
  subst e;exact .inl ⟨Fg _,λr hr=>hd ys σ H r p hr⟩
def Bits(k:Nat)(i:Int):Prop:=i.natAbs<2^k
theorem Bits.mono{j k:Nat}{i:Int}(h:Bits j i)(hk:j<=k:=by decide):Bits k i:=FN h (Nat.pow_le_pow_right (by decide) hk)
theorem Bits.mul{j k:Nat}{a b:Int}(ha:Bits j a)(hb:Bits k b):Bits (j+k) (a*b):=by
 unfold Bits at *
 rw[Fs,Nat.pow_add];exact Nat.mul_lt_mul_of_lt_of_lt ha hb
theorem Bits.add{k:Nat}{a b:Int}(ha:Bits k a)(hb:Bits k b):Bits (k+1) (a+b):=by
 unfold Bits at *
 have:=Int.natAbs_add_le a b;rw[GC];omega
theorem Bits.neg{k:Nat}{a:Int}(ha:Bits k a):Bits k (-a):=by unfold Bits at *;rwa [Int.natAbs_neg]
theorem Bits.sub{k:Nat}{a b:Int}(ha:Bits k a)(hb:Bits k b):Bits (k+1) (a-b):=by rw[Int.sub_eq_add_neg];exact ha.add hb.neg
theorem Bits.of_le{k:Nat}{a b:Int}(hb:Bits k b)(h:a.natAbs<=b.natAbs):Bits k a:=Gf h hb
theorem Bits.zero{k:Nat}:Bits k 0:=GY (by decide)
theorem Bits.log{k:Nat}{i:Int}(h:Bits k i)(hk:0<k):i.natAbs.log2<k:=by
 by_cases h0:i.natAbs=0
 ·rw[h0];simpa using hk
 ·exact(Nat.log2_lt h0).mpr h
theorem Bits.int{k:Nat}{i:Int}(h:Bits k i)(hk:k<=1000000):Builtin.Int.intBits i<=2^20:=by
 have e:(2:Nat)^20=1048576:=by decide
 unfold Builtin.Int.intBits;split
 ·exact Fj _
 ·rename_i hn
  have h0:i.natAbs≠0:=by intro z;have:i=0:=Int.natAbs_eq_zero.mp z;exact hn (by simp[this])
  have:=(Nat.log2_lt h0).mpr h;omega
section
variable {X:Cx}{a b:Expr}{ta tb:TE}{pos:Pos}
def DU(i j:Int):Prop:=Bits 1000000 i/\Bits 1000000 j
theorem aE:OpR X (binaryOp .Mult) (rI DU λi j=>.int (i*j)):=opI λ_ _ _ _ _ _ _ hc q=>mul_int q (.of_bits (hc.1.int (Fg _)) (hc.2.int (Fg _)))
theorem cb:OpR X (binaryOp .Mod) (rI (λ_ j=>0<j) λi j=>.int (i%j)):=zn
def DV(_ j:Int):Prop:=0<j/\Bits 9000 j
theorem fX:OpR X (binaryOp .FloorDiv) (rI DV λi j=>.int (i/j)):=opI λi j _ _ _ _ _ hc q=>by refine floordiv_int (Gc hc.1) ?_ (.inl (PyProof.noPylong_of_log2 (hc.2.log (by decide))));rw[Int.fdiv_eq_ediv_of_nonneg _ (FB hc.1)];exact q
def DW(_ j:Int):Prop:=j≠0/\Bits 9000 j
theorem nr:OpR X (binaryOp .FloorDiv) (rI DW λi j=>.int (i.fdiv j)):=opI λ_ _ _ _ _ _ _ hc q=>floordiv_int hc.1 q (.inl (PyProof.noPylong_of_log2 (hc.2.log (by decide))))
theorem cp:OpR X (compareOp .Eq) (rI0 λi j=>.bl (decide (i=j))):=gU λ_ _ _ _ _ _ _ q=>eq_int (by rw[Bool.beq_eq_decide_eq];exact q)
theorem fW:OpR X (compareOp .NotEq) (rI0 λi j=>.bl (!decide (i=j))):=gU λ_ _ _ _ _ _ _ q=>ne_int (by rw[bne,Bool.beq_eq_decide_eq];exact q)
def sj(K:PySem.W.Frag):R2:=λx y H Q=>∃(a b:Addr) (ns ms:List Int),x=.ref a/\y=.ref b/\SqL K H a (ns.map V.int)/\SqL K H b (ms.map V.int)/\Q (.bl (decide (ns=ms))) H
def r9(K:PySem.W.Frag):R2:=λx y H Q=>∃(a b:Addr) (ns ms:List Int),x=.ref a/\y=.ref b/\SqL K H a (ns.map V.int)/\SqL K H b (ms.map V.int)/\Q (.bl (!decide (ns=ms))) H
theorem zo(hu:X.A.units+64<cLine):OpR X (compareOp .Eq) (sj X.K):=by intro pins s σ H x y v u Q I rx ry h;obtain⟨a,b,ns,ms,rfl,rfl,ha,hb,q⟩:=h;cases rx;cases ry;obtain⟨i1,r1,p1,_⟩:=I.list ha;obtain⟨i2,r2,p2,_⟩:=I.list hb;exact PySem.W.eq_intsK p1.isList (g8 r1) p2.isList (g8 r2) hu ⟨.bl _,H,I,rfl,q⟩
theorem zm(hu:X.A.units+64<cLine):OpR X (compareOp .NotEq) (r9 X.K):=by intro pins s σ H x y v u Q I rx ry h;obtain⟨a,b,ns,ms,rfl,rfl,ha,hb,q⟩:=h;cases rx;cases ry;obtain⟨i1,r1,p1,_⟩:=I.list ha;obtain⟨i2,r2,p2,_⟩:=I.list hb;exact PySem.W.ne_intsK p1.isList (g8 r1) p2.isList (g8 r2) hu ⟨.bl _,H,I,rfl,q⟩
noncomputable def gJ(K:PySem.W.Frag):List V->Hp->VK->Prop:=λxs H Q=>∃(x:V) (t c:Value) (n:V) (k:Bool),xs=[x,n]/\RelV n c/\(∀u,RelV n u->u=c)/\TyOf K H x t/\PySem.W.kitOne K t c=some k/\Q (.bl k) H
theorem De:CallR X (.builtin "isinstance") (gJ X.K):=by intro pins s σ H xs us Q I r h;obtain⟨x,t,c,n,k,rfl,rn,hn,ty,e,q⟩:=h;obtain⟨u1,u2,rfl,r1,r2⟩:=r.two;obtain rfl:=hn u2 r2;exact Bo I r1 ty e λtk=>⟨.bl k,H,I.tok tk,rfl,q⟩
theorem g7{K:PySem.W.Frag}{H:Hp}{Q:VK}{x:V}{n:String}{t:Value}{k:Bool}(ty:TyOf K H x t)(e:PySem.W.kitOne K t (.type n)=some k)(q:Q (.bl k) H):gJ K [x,.ty n] H Q :=
 ⟨x,t,.type n,.ty n,k,rfl,rfl,λ_ h=>h,ty,e,q⟩
theorem Bp{K:PySem.W.Frag}{H:Hp}{Q:VK}{x:V}{C:Addr}{t:Value}{k:Bool}(ty:TyOf K H x t)(e:PySem.W.kitOne K t (.ref C)=some k)(q:Q (.bl k) H):gJ K [x,.ref C] H Q :=
 ⟨x,t,.ref C,.ref C,k,rfl,rfl,λ_ h=>h,ty,e,q⟩
end
section
variable {D:Ends}{σ:St}{H:Hp}{Q:VK}{t u:TS}{te ta tb:TE}{c:TT}{i:Nat}{v:V}{r:R2}
theorem iz(h:t { D with nx:=u D } σ H):bV t u D σ H:=h
theorem iB(P:St->Hp->Prop)(h1:∀σ' H',P σ' H'->u D σ' H')(h2:(∀σ' H',P σ' H'->u D σ' H')->t { D with nx:=u D } σ H):bV t u D σ H:=h2 h1
theorem mU(P:St->Hp->Prop)(h:P σ H)(h1:∀σ' H',P σ' H'->u D σ' H'):u D σ H:=h1 σ H h
theorem ar(h:te σ H λx H1=>u D (σ.set i (some x)) H1):bV (eO te (dH i)) u D σ H:=h
theorem gH(h:te σ H λ_ H1=>u D σ H1):bV (kK te) u D σ H:=h
theorem bQ{t1:TS}(h:c σ H λb H1=>if b=true then t1 { D with nx:=u D } σ H1 else u D σ H1):bV (i8 c t1 qc) u D σ H:=h
theorem fS{K:PySem.W.Frag}{n:V}(h:ta σ H λx H1=>gJ K [x,n] H1 Q):tCB (gJ K) (kL ta (kL (tC n) kJ)) σ H Q:=h
theorem dO{t1 t2:TS}(P:St->Hp->Prop)(h1:∀σ' H',P σ' H'->u D σ' H')(h2:(∀σ' H',P σ' H'->u D σ' H')->c σ H λb H1=>if b=true then t1 { D with nx:=u D } σ H1 else t2 { D with nx:=u D } σ H1):bV (i8 c t1 t2) u D σ H:=h2 h1
theorem ci(h:te σ H λx H1=>D.nx (σ.set i (some x)) H1):eO te (dH i) D σ H:=h
theorem cz(h:te σ H D.rt):pY te D σ H:=h
theorem jw(h:te σ H λ_ H1=>D.nx σ H1):kK te D σ H:=h
theorem iA(h:c σ H λb H1=>if b=true then t D σ H1 else u D σ H1):i8 c t u D σ H:=h
theorem iD{K:Bool->Hp->Prop}(h:te σ H λx H'=>∃k,x=.bl k/\K k H'):tB te σ H K:=h
theorem eW{K:Bool->Hp->Prop}{tt:TT}(h:tt σ H λk H1=>K (!k) H1):qb tt σ H K:=h
theorem iC{K:Bool->Hp->Prop}{t1 t2:TT}(h:t1 σ H λk H1=>if k=true then t2 σ H1 K else K false H1):qh t1 t2 σ H K:=h
theorem eT{K:Bool->Hp->Prop}{t1 t2:TT}(h:t1 σ H λk H1=>if k=true then K true H1 else t2 σ H1 K):tOr t1 t2 σ H K:=h
theorem mV(h:ta σ H λx H1=>∃k,x=.bl k/\if k=true then tb σ H1 Q else Q (.bl false) H1):qg ta tb σ H Q:=h
theorem yp(h:ta σ H λx H1=>∃k,x=.bl k/\if k=true then Q (.bl true) H1 else tb σ H1 Q):pZ ta tb σ H Q:=h
theorem yq(h:ta σ H λx H1=>∃k,x=.bl k/\Q (.bl (!k)) H1):qa ta σ H Q:=h
theorem yr{tt:TT}(h:tt σ H λk H1=>if k=true then ta σ H1 Q else tb σ H1 Q):tIf tt ta tb σ H Q:=h
theorem mS{K:List V->Hp->Prop}(h:K [] H):kJ σ H K:=h
theorem ez{A B:Prop}(h:A):if true=true then A else B:=by rw[if_pos rfl];exact h
theorem cS{A B:Prop}(h:B):if false=true then A else B:=by rw[if_neg GU];exact h
theorem aM{p A B:Prop}[Decidable p](h1:p->A)(h2:¬p->B):if decide p=true then A else B:=by
 by_cases hp:p
 ·rw[if_pos (decide_eq_true hp)];exact h1 hp
 ·rw[if_neg (by rw[decide_eq_false hp];exact GU)];exact h2 hp
theorem dN{p A B:Prop}[Decidable p](h1:¬p->A)(h2:p->B):if(!decide p)=true then A else B:=by
 by_cases hp:p
 ·rw[if_neg (by rw[decide_eq_true hp];exact GU)];exact h2 hp
 ·rw[if_pos (by rw[decide_eq_false hp];rfl)];exact h1 hp
end
structure Cal(P:Program)(w:World)(K:PySem.W.Frag)(mg:Str->Option Value)(base:Heap)(k:Nat)(x:Str)(ps:List Str)(sp:Sp)(f:Addr)(fd:FuncData):Prop where
 ok:FnOk P w K mg base CX0 k f fd ps sp
 mg:mg x=some (.ref f)
 kp:PySem.W.keepIn K (.ref f)=true
 bd:Binds K fd ps []
theorem Same.upd_new{H:Hp}{p:Addr}{o:HO}(h:H p=none):Same H (upd H p o):=λb u e=>by rw[upd_ne (aN e h)];exact e
theorem Same.then_new{H H1:Hp}{p:Addr}{o:HO}(s:Same H H1)(h:H1 p=none):Same H (upd H1 p o):=s.trans (Same.upd_new h)
theorem Same.ne{H H1:Hp}{a p:Addr}{o:HO}(s:Same H H1)(e:H a=some o)(h:H1 p=none):a≠p:=aN (s a o e) h
section
variable {X:Cx}{K:PySem.W.Frag}
theorem Bk(h:X.K=K):IxR X (mX K):=by subst h;exact Bl
theorem Bi(h:X.K=K):IxR X (mW K):=by subst h;exact Bj
theorem eR(h:X.K=K):SlR X (jB K):=by subst h;exact xr
noncomputable def si(K:PySem.W.Frag):List V->Hp->VK->Prop:=λxs H Q=>∃p ys,xs=[.ref p]/\(SqL K H p ys\/SqT K H p ys)/\Q (.int ys.length) H
theorem Dd(h:X.K=K):CallR X (.builtin "len") (si K):=by subst h;exact Dc
noncomputable def yH(K:PySem.W.Frag):List V->Hp->VK->Prop:=λxs H Q=>∃p ys,xs=[.ref p]/\(SqL K H p ys\/SqT K H p ys)/\∀l,H l=none->Q (.ref l) (upd H l (.lst ys))
theorem kg(h:X.K=K):CallR X (.type "list") (yH K):=by subst h;exact Db
theorem tu(h:X.K=K)(hu:X.A.units+64<cLine):OpR X (compareOp .Eq) (sj K):=by subst h;exact zo hu
theorem sZ(h:X.K=K)(hu:X.A.units+64<cLine):OpR X (compareOp .NotEq) (r9 K):=by subst h;exact zm hu
theorem ic(h:X.K=K):CallR X (.builtin "isinstance") (gJ K):=by subst h;exact De
theorem bY{tg l:Expr}{tl:TE}(h:X.K=K)(hl:PE X l tl):PI X tg l (ur K tl):=by subst h;exact yZ hl
theorem bU{e:Expr}{ta:TE}{f:Str}{pos:Pos}(h:X.K=K)(he:PE X e ta)(hb:attributeBase e f X.env (eval e X.env)=eval e X.env):PE X (.Attribute e f pos) (qd K ta f):=by subst h;exact zb he hb
end
noncomputable def Ite(K:PySem.W.Frag)(a:Addr):It :=
 ⟨λi H=>∃xs x,SqL K H a xs/\xs[i]?=some x,λi H x H'=>∃v p,x=.ref p/\H p=none/\H'=upd H p (.tup [.int i,v])/\∀xs,SqL K H a xs->xs[i]?=some v,λi H=>∃xs,SqL K H a xs/\xs.length<=i⟩
theorem wF{P:Program}{w:World}{K:PySem.W.Frag}{es:List Expr}{x1:Nat}{tp:Pos}(a e it:Addr)(hne:e≠it):Turn P w K (.Tuple es x1 tp) (Ite K a) [e,it] e (λi h=>(∃old,IsEnum h e it (i:Int) old)/\h.IsListIter it a i) where
 mem:=by simp
 obj:=λi h st b hb=>by
  obtain⟨⟨old,he⟩,hi⟩:=st;rcases FC.mp hb with rfl |hb
  ·exact⟨_,he,λv z=>by cases z⟩
  ·have q:b=it:=by simpa using hb
   subst q;obtain⟨o,e,c,d⟩:=hi;exact⟨o,e,λv z=>by rw[d]at z;cases z⟩
 keep:=λi h h' st k=>by obtain⟨⟨old,he⟩,hi⟩:=st;exact⟨⟨old,k e (by simp) _ he⟩,hi.at λo q=>k it (by simp) o q⟩
 item:=by
  intro X hP hw hK hc i pins s σ H E I hf st hg;subst hP hw hK;obtain⟨⟨old,he⟩,hi⟩:=st;obtain⟨xs,x,hq,hx⟩:=hg;obtain⟨its,rv,p,hz⟩:=I.list hq;obtain⟨u,hu,ru⟩:=rv.get hx;refine wpAny_pyNext_enum_item he hi p.isList (x:=u) (by simpa using hu) hne λh' out hit' htup hsz kk=>?_
  have hfp:H s.heap.objs.size=none:=I.hok.fresh (Fg _);have nfp:∀b o,H b=some o->b≠e/\b≠it:=λb o q=>⟨λz=>(by rw[z,(hf e (by simp)).1]at q;cases q),λz=>(by rw[z,(hf it (by simp)).1]at q;cases q)⟩
  have I1:Inv X pins σ (upd H s.heap.objs.size (.tup [.int i,x])) { s with heap:=h',toks:=s.toks+1 }:=by
   refine I.step (g':=s.gens) (d':=s.drawn) (ch:=[e,it]) (λb hb=>?_) (λb o _ _ hc q _=>kk b o (λz=>hc (by simp[z])) (λz=>hc (by simp[z])) q)
    (λb o _ _ hc q _=>⟨o.slots,kk b o (λz=>hc (by simp[z])) (λz=>hc (by simp[z])) q⟩) (λb o _ q n=>by rw[upd_ne (FL (Heap.lt_size q))];exact n)
    (λb o hc q=>⟨o,kk b o (λz=>hc (by simp[z])) (λz=>hc (by simp[z])) q⟩) (λb ys q=>by rw[upd_ne (aN q hfp)];exact q) (λb o ys q=>by rw[upd_ne (aN q hfp)];exact q)
    (λb ps q=>⟨#[],by rw[upd_ne (aN q hfp),q];simp⟩) (λm hm=>?_) (λb o q=>?_) I.bare
   ·obtain⟨f0,f1,f2,f3,f4,f5⟩:=hf b hb;exact⟨f3,f1,f4,f5⟩
   ·obtain⟨o,es',ep',ho,r⟩:=hm;exact⟨o,es',ep',kk _ o (Ne.symm (hf e (by simp)).2.1) (Ne.symm (hf it (by simp)).2.1) ho,r⟩
   ·by_cases hb:b=s.heap.objs.size
    ·subst hb;rw[aq]at q;cases q;exact⟨by show 2<=sizeLine;decide,[.int i s.toks,u],.cons ⟨_,rfl⟩ (.cons ru .nil),⟨_,htup,rfl,_,rfl⟩⟩
    ·rw[upd_ne hb]at q;refine(I.hok b o q).stay (λc v hc z=>?_) (λc z=>by rw[upd_ne (aN z hfp)];exact z) λc ys z=>by rw[upd_ne (aN z hfp)];exact z
     rcases hc with rfl |hc
     ·exact kk c v (nfp c o q).1 (nfp c o q).2 z
     ·exact kk c v (nfp c _ hc).1 (nfp c _ hc).2 z
  refine⟨_,rfl,wpAny_letOwnedTupleGo_enum out λh'' he'' sb=>?_⟩;obtain⟨f0,f1,f2,f3,f4,f5⟩:=hf e (by simp)
  have hen:upd H s.heap.objs.size (.tup [.int i,x]) e=none:=by rw[upd_ne (FL (Heap.lt_size he))];exact f0
  have I2:=I1.turned (h':=h'') (t':=s.toks+1) (it:=e) (λb o hb q=>(sb.2 b hb).trans q) hen f1 f3 f4 f5;refine⟨.ref s.heap.objs.size,_,I2,rfl,⟨x,_,rfl,hfp,rfl,λys hy=>by rw[I.list_inj hy hq];exact hx⟩,⟨⟨u,?_⟩,hit'.at λo q=>(sb.2 it (Ne.symm hne)).trans q⟩,λb hb=>?_⟩
  ·have:((i+1:Nat):Int)=(i:Int)+1:=by omega
   rw[this];exact he''
  ·have hlt:b<s.heap.objs.size:=by
    rcases FC.mp hb with rfl |hb
    ·exact Heap.lt_size he
    ·have q:b=it:=by simpa using hb
     subst q;obtain⟨o,e1,_⟩:=hi;exact Heap.lt_size e1
   rw[upd_ne (FL hlt)];exact(hf b hb).1
 done:=by intro X hP hw hK hc i pins s σ H E I hf st hg;subst hP hw hK;obtain⟨⟨old,he⟩,hi⟩:=st;obtain⟨xs,hq,hx⟩:=hg;obtain⟨its,rv,p,hz⟩:=I.list hq;obtain⟨f0,f1,f2,f3,f4,f5⟩:=hf it (by simp);have hl:=rv.length;exact wpAny_pyNext_enum_end (I.ok.hd hc) he hi p.isList (by simp;omega) λh' eb=>⟨rfl,I.turned (t':=s.toks) (λb o hb e=>eb b o hb e) f0 f1 f3 f4 f5⟩
 self:=λ_ _ _ _ _ st h=>by obtain⟨⟨old,he⟩,hi⟩:=st;exact wpAny_pyIter_enum he h
section
variable {X:Cx}
def Bz(K:PySem.W.Frag)(ta:TA):TI:=λσ H R=>ta σ H λvs H1=>∃a,vs=[.ref a]/\(∃xs,SqL K H1 a xs)/\R (Ite K a) H1
theorem gP{es:List Expr}{x1:Nat}{tp:Pos}{a:Expr}{ta:TA}{p pos:Pos}(hg:Gl X "enumerate")(hm:X.mg "enumerate"=none)(ha:PA X [a] ta)(hs:starEach [a] X.env=[(false,eval a X.env)]:=by rfl):PI X (.Tuple es x1 tp) (.Call (.Name "enumerate" p) [a] [] pos) (Bz X.K ta):=by
 intro pins s σ H R I h;refine Call_ (dF I hg hm boot_enumerate (PyProof.Rows.callWith_type1 (thn (ha pos pins s σ H _ I h) λus s1 ⟨vs,H1,I1,r1,q1⟩=>?_) hs rfl));obtain⟨a',e,⟨xs,hq⟩,q⟩:=q1;subst e;obtain⟨u,rfl,ru⟩:=r1.one;cases ru;obtain⟨its,rv,pl,hz⟩:=I1.list hq;refine call_enumerate_list pl.isList λh' he hit hsz hk=>?_
 have I2:Inv X pins σ H1 { s1 with heap:=h' }:=I1.kept (t':=s1.toks) hk;refine wpAny_pyIter_enum he ?_;refine⟨s1.heap.objs.size+1,[s1.heap.objs.size+1,s1.heap.objs.size],_,_,H1,rfl,I2,wF a' _ _ (Nat.succ_ne_self _),⟨⟨_,he⟩,hit⟩,λb hb=>?_,q⟩
 have hb':s1.heap.objs.size<=b:=by
  rcases FC.mp hb with rfl |hb
  ·exact Nat.le_succ _
  ·have q:b=s1.heap.objs.size:=by simpa using hb
   subst q;exact Fg _
 exact I1.fpOk hb' (I1.hok.fresh hb')
end
theorem iQ{K:PySem.W.Frag}{a:Addr}{xs:List V}{g:TG}{tb:TS}{D:Ends}{σ:St}{H:Hp}(Pv:Nat->St->Hp->Prop)(h0:Pv 0 σ H)(hl:∀i σ H,i<=xs.length->Pv i σ H->SqL K H a xs)
 (hs:∀i x σ H p,xs[i]?=some x->Pv i σ H->H p=none->g (.ref p) σ (upd H p (.tup [.int i,x])) λσ2 H2=>tb { D with nx:=Pv (i+1),ct:=Pv (i+1),bk:=D.nx } σ2 H2) (hd:∀σ H,Pv xs.length σ H->D.nx σ H) :
 ∃W:Nat->Nat->St->Hp->Prop,(∃m,W 0 m σ H)/\∀i m σ H,W i m σ H ->
  ((Ite K a).stop i H/\D.nx σ H)\/((Ite K a).go i H/\∃N:St->Hp->Prop,(∀σ' H',N σ' H'->∃m',m'<m/\W (i+1) m' σ' H')/\∀x H',(Ite K a).yld i H x H'->g x σ H' λσ2 H2=>tb { D with nx:=N,ct:=N,bk:=D.nx } σ2 H2):=by
 refine⟨λi m σ H=>m=xs.length-i/\i<=xs.length/\Pv i σ H,⟨xs.length,by simp,Fj _,h0⟩,?_⟩;rintro i m σ H ⟨rfl,hi,p⟩;have q:=hl i σ H hi p;by_cases hlt:i<xs.length
 ·refine .inr ⟨⟨xs,xs[i],q,by simp[hlt]⟩,Pv (i+1),λσ' H' p'=>⟨xs.length-(i+1),by omega,rfl,hlt,p'⟩,λx H' y=>?_⟩;obtain⟨v,r,rfl,hr,rfl,y⟩:=y;exact hs i v σ _ r (y xs q) p hr
 ·have e:i=xs.length:=by omega
  subst e;exact .inl ⟨⟨xs,q,Fg _⟩,hd σ H p⟩
theorem CI{n:Nat}{js:List Nat}{K:PySem.W.Frag}{a:Addr}{xs:List V}{g:TG}{te:TE}{σ0:St}{H:Hp}{Q:VK}(Pv:Nat->List V->St->Hp->Prop)(hz:xs.length<=sizeLine)(h0:Pv 0 [] (fv n js σ0) H)(hl:∀i ys σ H,i<=xs.length->Pv i ys σ H->SqL K H a xs/\ys.length<=i)
 (hs:∀i x ys σ H p,xs[i]?=some x->Pv i ys σ H->H p=none->g (.ref p) σ (upd H p (.tup [.int i,x])) λσ2 H2=>te σ2 H2 λy H3=>Pv (i+1) (ys++[y]) σ2 H3) (hd:∀ys σ H p,Pv xs.length ys σ H->H p=none->Q (.ref p) (upd H p (.lst ys))) :
 kv n js g te σ0 Q (Ite K a) H:=by
 refine⟨λi m ys σ H=>m=xs.length-i/\i<=xs.length/\Pv i ys σ H,⟨xs.length,by simp,Fj _,h0⟩,?_⟩;rintro i m ys σ H ⟨rfl,hi,p⟩;obtain⟨q,hy⟩:=hl i ys σ H hi p;by_cases hlt:i<xs.length
 ·refine .inr ⟨⟨xs,xs[i],q,by simp[hlt]⟩,by omega,λy σ'' H''=>Pv (i+1) (ys++[y]) σ'' H'',λy σ' H' p'=>⟨xs.length-(i+1),by omega,rfl,hlt,p'⟩,λx H' y=>?_⟩;obtain⟨v,r,rfl,hr,rfl,y⟩:=y;exact hs i v ys σ _ r (y xs q) p hr
 ·have e:i=xs.length:=by omega
  subst e;exact .inl ⟨⟨xs,q,Fg _⟩,λr hr=>hd ys σ H r p hr⟩
noncomputable def Itv(K:PySem.W.Frag)(a:Addr)(xs:List V):It :=
 ⟨λi H=>SqL K H a xs/\i<xs.length,λi H x H'=>H'=H/\xs[xs.length-1-i]?=some x,λi H=>xs.length<=i⟩
theorem wC{P:Program}{w:World}{K:PySem.W.Frag}{tg:Expr}(a it:Addr)(xs:List V):Turn P w K tg (Itv K a xs) [it] it (λi h=>i<=xs.length/\h.IsRevIter it a ((xs.length:Int)-1-i)) where
 mem:=by simp
 obj:=λi h st b hb=>by
  have e:b=it:=by simpa using hb
  subst e;obtain⟨_,o,e,c,d⟩:=st;exact⟨o,e,λv z=>by rw[d]at z;cases z⟩
 keep:=λi h h' st k=>⟨st.1,st.2.at λo e=>k it (by simp) o e⟩
 item:=by
  intro X hP hw hK hc i pins s σ H E I hf st hg;subst hP hw hK;obtain⟨hq,hlt⟩:=hg;obtain⟨its,rv,p,hz⟩:=I.list hq;have hl:=rv.length;obtain⟨x,hx⟩:∃x,xs[xs.length-1-i]?=some x:=⟨_,List.getElem?_eq_getElem (by omega)⟩;obtain⟨u,hu,ru⟩:=rv.get hx;obtain⟨f0,f1,f2,f3,f4,f5⟩:=hf it (by simp);have e1:(xs.length:Int)-1-i=((xs.length-1-i:Nat):Int):=by omega
  have hit:=st.2;rw[e1]at hit;refine wpAny_pyNext_rev_item hit p.isList (x:=u) (by simpa using hu) λh' st' sb=>?_
  have I1:Inv X pins σ H { s with heap:=h' }:=I.turned (t':=s.toks) (λb o hb e=>(sb.2 b hb).trans e) f0 f1 f3 f4 f5;obtain⟨o,e,c,d⟩:=id st';refine⟨u,rfl,jW (s:={ s with heap:=h' }) e c d (by decide) ⟨x,H,I1,ru,⟨rfl,hx⟩,⟨hlt,?_⟩,λb hb=>(hf b hb).1⟩⟩;have e2:(xs.length:Int)-1-((i+1:Nat):Int)=((xs.length-1-i:Nat):Int)-1:=by omega
  rw[e2];exact st'
 done:=by
  intro X hP hw hK hc i pins s σ H E I hf st hg;subst hP hw hK;obtain⟨f0,f1,f2,f3,f4,f5⟩:=hf it (by simp);have hle:xs.length<=i:=hg;have e1:(xs.length:Int)-1-i = -1:=by have:=st.1;omega
  have hit:=st.2;rw[e1]at hit;exact wpAny_pyNext_rev_end (I.ok.hd hc) hit λh' eb=>⟨rfl,I.turned (t':=s.toks) (λb o hb e=>eb b o hb e) f0 f1 f3 f4 f5⟩
 self:=λ_ _ _ _ _ st h=>wpAny_pyIter_revIter st.2 h
section
variable {X:Cx}{tg:Expr}
def By(K:PySem.W.Frag)(ta:TA):TI:=λσ H R=>ta σ H λvs H1=>∃a xs,vs=[.ref a]/\SqL K H1 a xs/\R (Itv K a xs) H1
theorem sV{a:Expr}{ta:TA}{p pos:Pos}(hg:Gl X "reversed")(hm:X.mg "reversed"=none)(ha:PA X [a] ta)(hs:starEach [a] X.env=[(false,eval a X.env)]:=by rfl):PI X tg (.Call (.Name "reversed" p) [a] [] pos) (By X.K ta):=by
 intro pins s σ H R I h;refine Call_ (dF I hg hm boot_reversed (PyProof.Rows.callWith_type1 (thn (ha pos pins s σ H _ I h) λus s1 ⟨vs,H1,I1,r1,q1⟩=>?_) hs rfl));obtain⟨a',xs,e,hq,q⟩:=q1;subst e;obtain⟨u,rfl,ru⟩:=r1.one;cases ru;obtain⟨its,rv,pl,hz⟩:=I1.list hq;have hl:=rv.length;refine call_reversed_list pl.isList ?_
 have hit:(s1.heap.push (revObj a' ((its.toArray.size:Int)-1))).IsRevIter s1.heap.objs.size a' ((xs.length:Int)-1-((0:Nat):Int)):=by
  have e1:(xs.length:Int)-1-((0:Nat):Int)=(its.toArray.size:Int)-1:=by rw[FR];omega
  rw[e1];exact⟨_,Heap.get?_push_size _ rfl,rfl,rfl⟩
 have I2:Inv X pins σ H1 { s1 with heap:=s1.heap.push (revObj a' ((its.toArray.size:Int)-1)) }:=I1.kept (t':=s1.toks) λb o e=>Heap.get?_push_of_some _ e
 refine wpAny_pyIter_revIter (s:={ s1 with heap:=s1.heap.push (revObj a' ((its.toArray.size:Int)-1)) }) hit ?_;refine⟨s1.heap.objs.size,[s1.heap.objs.size],_,_,H1,rfl,I2,wC a' _ xs,⟨Fj _,hit⟩,λb hb=>?_,q⟩;have e:b=s1.heap.objs.size:=by simpa using hb
 subst e;exact I1.fpOk (Fg _) (I1.hok.fresh (Fg _))
end
theorem uB{K:PySem.W.Frag}{a:Addr}{xs:List V}{g:TG}{tb:TS}{D:Ends}{σ:St}{H:Hp}(Pv:Nat->St->Hp->Prop)(h0:Pv 0 σ H)(hl:∀i σ H,i<=xs.length->Pv i σ H->SqL K H a xs)
 (hs:∀i x σ H,i<xs.length->xs[xs.length-1-i]?=some x->Pv i σ H->g x σ H λσ2 H2=>tb { D with nx:=Pv (i+1),ct:=Pv (i+1),bk:=D.nx } σ2 H2) (hd:∀σ H,Pv xs.length σ H->D.nx σ H) :
 ∃W:Nat->Nat->St->Hp->Prop,(∃m,W 0 m σ H)/\∀i m σ H,W i m σ H ->
  ((Itv K a xs).stop i H/\D.nx σ H)\/((Itv K a xs).go i H/\∃N:St->Hp->Prop,(∀σ' H',N σ' H'->∃m',m'<m/\W (i+1) m' σ' H')/\∀x H',(Itv K a xs).yld i H x H'->g x σ H' λσ2 H2=>tb { D with nx:=N,ct:=N,bk:=D.nx } σ2 H2):=by
 refine⟨λi m σ H=>m=xs.length-i/\i<=xs.length/\Pv i σ H,⟨xs.length,by simp,Fj _,h0⟩,?_⟩;rintro i m σ H ⟨rfl,hi,p⟩;by_cases hlt:i<xs.length
 ·refine .inr ⟨⟨hl i σ H hi p,hlt⟩,Pv (i+1),λσ' H' p'=>⟨xs.length-(i+1),by omega,rfl,hlt,p'⟩,λx H' y=>?_⟩;obtain⟨e,y⟩:=y;subst e;exact hs i x σ _ hlt y p
 ·have e:i=xs.length:=by omega
  subst e;exact .inl ⟨Fg _,hd σ H p⟩
structure FunD(K:PySem.W.Frag)(x qual:Str)(st:Stmt)(dV:Value)(f:Addr)(fd:FuncData):Prop where
 ex:∃(oc:Value) (od:Option Addr) (kV doc pm:Value) (an:Option Addr) (cdv ct:Value) (osl:Array (Option Value)),
  fd=PySem.W.fnOf x qual (cY st) (cF st) (aB st) dV kV doc pm an cdv ct/\K.lookup f=some ⟨oc,od,.func fd,osl⟩/\PySem.W.codeIn K cdv qual=true
 kp:PySem.W.keepIn K (.ref f)=true
section
variable {P:Program}{w:World}{K:PySem.W.Frag}{mg:Str->Option Value}{base:Heap}
theorem FunD.ok{x qual:Str}{st:Stmt}{dV:Value}{f:Addr}{fd:FuncData}{N ps:List Str}{k:Nat}{sp:Sp}(F:FunD K x qual st dV f fd)(S:FnScope N ps (aB st))(len:∀vs H Q E,sp vs H Q E->vs.length=ps.length)
 (hbody:∀(cdv:Value) (A:Around) (outer:List Env) (s:Shared) (H:Hp) (vs:List V) (Q:VK) (E:XK),Room k (A.deeper (envOfC qual (aB st) s.heap.objs.size f cdv))->sp vs H Q E ->
   ∃t,PSs (f9 CX0 P w K mg base N qual (aB st) f cdv A outer s H E).nox (cF st) t/\t { nx:=λ_ H'=>Q .non H',rt:=Q } (start N vs) H):FnOk P w K mg base CX0 (k+1) f fd ps sp:=by
 obtain⟨oc,od,kV,doc,pm,an,cdv,ct,osl,rfl,lk,hcd⟩:=F.ex;refine uF lk hcd S len λA outer s H vs Q E hr hsp=>?_
 obtain⟨t,h,q⟩:=hbody cdv A outer s H vs Q E hr hsp;exact⟨t,h.nox,q⟩
theorem FunD.binds{x qual:Str}{st:Stmt}{dV:Value}{f:Addr}{fd:FuncData}{ps:List Str}(F:FunD K x qual st dV f fd)
 (h:∀(kV doc pm:Value) (an:Option Addr) (cdv ct:Value) (us:List Value),us.length=ps.length->bindArgs (PySem.W.fnOf x qual (cY st) (cF st) (aB st) dV kV doc pm an cdv ct) ⟨us,[]⟩=pure (ps.zip us)):Binds K fd ps []:=by
 obtain⟨oc,od,kV,doc,pm,an,cdv,ct,osl,rfl,lk,hcd⟩:=F.ex;exact .all (h kV doc pm an cdv ct)
theorem FunD.bindsD{x qual:Str}{st:Stmt}{T:Addr}{f:Addr}{fd:FuncData}{ps:List Str}{ds tup:List Value}{o:Obj}{n:Nat}(m:Nat)(F:FunD K x qual st (.ref T) f fd)(lo:K.lookup T=some o)(hs:o.data=.seq tup.toArray n)(hm:m+ds.length=ps.length)
 (h:∀(kV doc pm:Value) (an:Option Addr) (cdv ct:Value) (us:List Value),us.length=m->∃k:Option (Array Value)->Sem (List (Str×Value)),
   bindArgs (PySem.W.fnOf x qual (cY st) (cF st) (aB st) (.ref T) kV doc pm an cdv ct) ⟨us,[]⟩=seqItems? (.ref T) >>= k/\k (some tup.toArray)=pure (ps.zip (us++ds))):Binds K fd ps ds:=by
 obtain⟨oc,od,kV,doc,pm,an,cdv,ct,osl,rfl,lk,hcd⟩:=F.ex;intro s us KX hl;rw[Fd]at hl;obtain⟨k,h1,h2⟩:=h kV doc pm an cdv ct us (by omega);exact PySem.W.binds_K (k:=k) KX rfl lo hs h1 h2
theorem BQ{x qual:Str}{st:Stmt}{f:Addr}{oc:Value}{od an:Option Addr}{osl:Array (Option Value)}{dV kV doc pm cdv ct:Value}(l:K.lookup f=some ⟨oc,od,.func (PySem.W.fnOf x qual (cY st) (cF st) (aB st) dV kV doc pm an cdv ct),osl⟩)
 (c:PySem.W.codeIn K cdv qual=true) (k:PySem.W.keepIn K (.ref f)=true):FunD K x qual st dV f (PySem.W.fnOf x qual (cY st) (cF st) (aB st) dV kV doc pm an cdv ct):=⟨⟨oc,od,kV,doc,pm,an,cdv,ct,osl,rfl,l,c⟩,k⟩
end
structure KCal(P:Program)(w:World)(K:PySem.W.Frag)(mg:Str->Option Value)(base:Heap)(k:Nat)(C:Addr)(x:Str)(ps:List Str)(sp:Sp)(f:Addr)(fd:FuncData)(ds:List Value)(dvs:List V):Prop where
 ok:FnOk P w K mg base CX0 k f fd ps sp
 mkr:Mk K C f
 mg:mg x=some (.ref C)
 bd:Binds K fd ps []
 bdD:Binds K fd ps ds
 vd:Vals dvs ds
section
variable {X:Cx}{k j:Nat}{f:Addr}{fd:FuncData}{ps P:List Str}{sp:Sp}{x:Str}{p pos apos cpos pos':Pos}{e o a b:Expr}{es:List Expr}{ta tb te to:TE}{t:TA}{sc:Scope}{op:CmpOp}{r:R2}
theorem au(C:Cal X.prog X.w X.K X.mg X.base k x ps sp f fd)(hr:Room j X.A)(ha:PA X (e::es) t)(hj:k<=j:=by decide)(hg:Gl X x:=by rfl)(hdb:(x == ("__debug__":Str))=false:=by decide)(he:starEach (e::es) X.env=(false,eval e X.env)::starEach es X.env:=by rfl)(hpl:(backTo pos (starEach es X.env)).any (·.1)=false:=by rfl) :
 PE X (.Call (.Name x p) (e::es) [] pos) (qf sp [] E0 t):=zd C.ok (hr.mono hj) hg C.mg C.kp C.bd .nil jG ha hdb he hpl
theorem aj(i:Nat)(S:FnScope X.N P sc)(he:PE X e te)(hi:X.N[i]?=some x:=by rfl)(hx:Loc X.env.scope x:=by first |exact Or.inl rfl |exact Or.inr rfl)(hs:swapsWith e (some (.Name x pos')) pos.line X.env=pure false:=by rfl)(hf:X.fn x=true\/X.env.scope.names.lookup x=some .local:=by first |exact .inl rfl |exact .inr rfl |assumption) :
 PS X (.Assign [.Name x pos'] e pos) (eO te (dH i)):=yL S.nd hi hx he hs hf
theorem bE(i:Nat)(S:FnScope X.N P sc)(hi:X.N[i]?=some x:=by rfl)(hx:Loc X.env.scope x:=by first |exact Or.inl rfl |exact Or.inr rfl)(hf:X.fn x=true\/X.env.scope.names.lookup x=some .local:=by first |exact .inl rfl |exact .inr rfl |assumption):PG X (.Name x pos) (dH i):=cj S.nd hi hx hf
theorem aG(ho:OpR X (compareOp op) r)(ha:PE X a ta)(hb:PE X b tb)(hm:behindInMarks op b=false:=by exact tG _):PT X (.Compare a [op] [b] pos) (pX (tOp r ta tb)):=yK ho ha hb hm
theorem eE(ho:OpR X (compareOp op) r)(ha:PE X a ta)(hb:PE X b tb)(hm:behindInMarks op b=false:=by exact tG _):PE X (.Compare a [op] [b] pos) (tOp r ta tb):=zc ho ha hb hm
theorem bD(K:PySem.W.Frag)(ha:PE X a ta)(hb:PE X b tb)(h:X.K=K:=by rfl)(hs:oT b:=by exactλ_ _=>rfl):PE X (.Subscript a b pos) (tOp (mX K) ta tb):=sX (Bk h) ha hb hs
theorem aK(K:PySem.W.Frag)(ha:PE X a ta)(hb:PE X b tb)(h:X.K=K:=by rfl)(hs:oT b:=by exactλ_ _=>rfl):PE X (.Subscript a b pos) (tOp (mW K) ta tb):=sX (Bi h) ha hb hs
theorem ba(K:PySem.W.Frag)(hm:X.mg "len"=none)(ha:PA X (e::es) t)(h:X.K=K:=by rfl)(hg:Gl X "len":=by rfl)(he:starEach (e::es) X.env=(false,eval e X.env)::starEach es X.env:=by rfl)(hpl:(backTo pos (starEach es X.env)).any (·.1)=false:=by rfl):PE X (.Call (.Name "len" p) (e::es) [] pos) (tCB (si K) t):=bZ (Dd h) hg hm PySem.boot_len ha (by decide) (by decide) he hpl
theorem dS(ho:PE X o to)(ha:PA X (e::es) t)
 (hbase:attributeBase o "append" X.env (eval o X.env)=eval o X.env:=by rfl)
 (hfew:((backTo cpos (starEach (e::es) X.env)).all (λx=>!x.1)&&(backToKw cpos (keywordEach [] X.env)).all (λx=>x.1.isSome)
   && decide ((e::es).length+([]:List Keyword).length+(if([]:List Keyword).isEmpty then 0 else 1)<30))=true:=by rfl)
 (hline:(apos.endLine == cpos.line)=true:=by rfl) (hs:starEach (e::es) X.env=(false,eval e X.env)::starEach es X.env:=by rfl) (hplain:(backTo cpos (starEach es X.env)).any (·.1)=false:=by rfl) :
 PE X (.Call (.Attribute o "append" apos) (e::es) [] cpos) (tBM X.K "list" sk to t):=zf PySem.F.plainAttrs_list PySem.F.slot_list_append PySem.F.type_list_append AQ ho ha hbase hfew hline hs hplain
end
section
variable {prog:Program}{w:World}{A:Around}{E:Value->Shared->Prop}{s:Shared}
end
section
variable {X:Cx}{K:PySem.W.Frag}
theorem y0{pos:Pos}{es:List Expr}{k:Nat}{t:TGs}{n:Nat}(hK:X.K=K)(hc:X.calm=true)(h:PGs X es t)(hn:(assignEach es X.env).length=n)(hst:(assignEach es X.env).findIdx? (·.1)=none):PG X (.Tuple es k pos) (uz K n t):=by subst hK;exact gR hc h hn hst
end
section
variable {P:Program}{w:World}{K:PySem.W.Frag}{mg:Str->Option Value}{base:Heap}{N:List Str}{qual:Str}{scope:Scope}{f:Addr}{cd:Value}{A:Around}{outer:List Env}{s:Shared}{H:Hp}{E:XK}{pins:List (Addr×Obj)}{σ:St}{H1:Hp}{s1:Shared}
end
noncomputable def gf(lo:Int)(n:Nat):It:=⟨λi _=>i<n,λi H x H'=>H'=H/\x=.int (lo+i * -1),λi _=>n<=i⟩
theorem pP{P:Program}{w:World}{K:PySem.W.Frag}{tg:Expr}(it:Addr)(lo:Int)(n:Nat):Turn P w K tg (gf lo n) [it] it (λi h=>IsRangeIter h it (lo+(i:Nat) * -1) ((n:Int)-(i:Nat)) (-1)) where
 mem:=by simp
 obj:=λi h st b hb=>by
  have e:b=it:=by simpa using hb
  subst e
  exact⟨_,st,λv z=>by
   have z':Data.fields _=Data.cell v:=z
   cases z'⟩
 keep:=λi h h' st k=>k it (by simp) _ st
 item:=by
  intro X hP hw hK hc i pins s σ H E I hf st hg;subst hP hw hK;obtain⟨f0,f1,f2,f3,f4,f5⟩:=hf it (by simp);have W:=Walks.range (prog:=X.prog) (w:=X.w) (I.ok.hd hc) it lo (-1) n;refine W.item i s _ _ hg st λv h' tk hv st' kk=>?_
  obtain⟨t,rfl⟩:=hv;have I1:Inv X pins σ H { s with heap:=h',toks:=tk }:=I.turned (λb o hb e=>kk b o (by simpa using hb) e) f0 f1 f3 f4 f5;exact⟨_,rfl,jW (s:={ s with heap:=h',toks:=tk }) (n:="range_iterator") st' rfl rfl (by decide) ⟨.int (lo+i * -1),H,I1,⟨t,rfl⟩,⟨rfl,rfl⟩,st',λb hb=>(hf b hb).1⟩⟩
 done:=by intro X hP hw hK hc i pins s σ H E I hf st hg;subst hP hw hK;obtain⟨f0,f1,f2,f3,f4,f5⟩:=hf it (by simp);exact wpAny_pyNext_range_end (I.ok.hd hc) st (by have:n<=i:=hg;omega) λh' eb=>⟨rfl,I.turned (t':=s.toks) (λb o hb e=>eb b o hb e) f0 f1 f3 f4 f5⟩
 self:=λ_ _ _ _ _ st h=>wpAny_pyIter_rangeiter st h
theorem rZ(a b:Int):Builtin.Range.rangeSize a b (-1)=if b<a then a-b else 0:=by unfold Builtin.Range.rangeSize;rw[if_neg (by decide)];show(if a>b then(a-b-1)/1+1 else 0)=_;rw[Int.ediv_one];split<;>omega
theorem xl{a b:Int}(ha : -(2^61)<=a)(ha':a<2^61)(hb : -(2^61)<=b)(hb':b<2^61):Builtin.Range.small a b (-1)=true:=by unfold Builtin.Range.small;rw[rZ];simp only[Builtin.Range.rangeFitsLong,Bool.and_eq_true,Bool.or_eq_true,decide_eq_true_eq,beq_iff_eq,show ¬((-1:Int)>0) by decide,if_false];split<;>omega
section
variable {X:Cx}{tg:Expr}
theorem yA{pins:List (Addr×Obj)}{σ:St}{H:Hp}{s:Shared}{R:It->Hp->Prop}{E:Value->Shared->Prop}{lo hi:Int}{t u v:Tok}{tk:Nat}(I:Inv X pins σ H s)(h1 : -(2^61)<=lo)(h2:lo<2^61)(h3 : -(2^61)<=hi)(h4:hi<2^61)
 (q:R (gf lo (lo-hi).toNat) H):wpAny (model X.prog X.w) X.A (pyIter (.ref s.heap.objs.size)) (PIE X pins σ tg R) E { s with heap:=s.heap.push { cls:=.type "range",data:=.fields #[.int lo t,.int hi u,.int (-1) v] },toks:=tk }:=by
 refine wpAny_pyIter_range (IsRange.new ..) (xl h1 h2 h3 h4) ?_;have I1:Inv X pins σ H { s with heap:=s.heap.push { cls:=.type "range",data:=.fields #[.int lo t,.int hi u,.int (-1) v] },toks:=tk }:=I.kept λb o e=>Heap.get?_push_of_some _ e
 refine⟨(s.heap.push { cls:=.type "range",data:=.fields #[.int lo t,.int hi u,.int (-1) v] }).objs.size,[(s.heap.push { cls:=.type "range",data:=.fields #[.int lo t,.int hi u,.int (-1) v] }).objs.size],_,_,H,rfl,
  I1.kept (t':=tk) λb o e=>Heap.get?_push_of_some _ e,pP _ lo (lo-hi).toNat,?_,λb hb=>?_,q⟩
 ·have e1:lo+((0:Nat):Int) * -1=lo:=by simp
  have e2:(((lo-hi).toNat:Nat):Int)-((0:Nat):Int)=Builtin.Range.rangeSize lo hi (-1):=by rw[rZ];split<;>omega
  show IsRangeIter _ _ (lo+((0:Nat):Int) * -1) ((((lo-hi).toNat:Nat):Int)-((0:Nat):Int)) (-1);rw[e1,e2];exact Heap.get?_push_size _ rfl
 ·have e:b=(s.heap.push { cls:=.type "range",data:=.fields #[.int lo t,.int hi u,.int (-1) v] }).objs.size:=by simpa using hb
  subst e;exact I1.fpOk (Fg _) (I1.hok.fresh (Fg _))
def Bt(ta:TA):TI:=λσ H R=>ta σ H λvs H1=>∃i j:Int,vs=[.int i,.int j,.int (-1)]/\(-(2^61)<=i/\i<2^61 /\ -(2^61)<=j/\j<2^61)/\R (gf i (i-j).toNat) H1
theorem yY{a b c:Expr}{ta:TA}{p pos:Pos}(hg:Gl X "range")(hm:X.mg "range"=none)(ha:PA X [a,b,c] ta)(hs:starEach [a,b,c] X.env=[(false,eval a X.env),(false,eval b X.env),(false,eval c X.env)]:=by rfl)(hs2:starEach [b,c] X.env=[(false,eval b X.env),(false,eval c X.env)]:=by rfl) :
 PI X tg (.Call (.Name "range" p) [a,b,c] [] pos) (Bt ta):=by
 intro pins s σ H R I h;refine Call_ (dF I hg hm boot_range (PyProof.Rows.callWith_type1 (thn (ha pos pins s σ H _ I h) λus s1 ⟨vs,H1,I1,r1,q1⟩=>?_) (by rw[hs,hs2]) (by rw[hs2];rfl)));obtain⟨i,j,e,⟨q1,q2,q3,q4⟩,q⟩:=q1;subst e;cases r1 with
 |cons r rr =>
  cases rr with
  |cons r' rr =>
   cases rr with
   |cons r'' rr =>cases rr;obtain⟨t,rfl⟩:=r;obtain⟨t',rfl⟩:=r';obtain⟨t'',rfl⟩:=r'';exact call_range_3 (by decide) (yA I1 q1 q2 q3 q4 q) (Or.inl (PyProof.noPylong_small (by decide)))
end
theorem uC{lo:Int}{n:Nat}{g:TG}{tb:TS}{D:Ends}{σ:St}{H:Hp}(Pv:Nat->St->Hp->Prop)(h0:Pv 0 σ H)
 (hs:∀i σ H,i<n->Pv i σ H->g (.int (lo+i * -1)) σ H λσ2 H2=>tb { D with nx:=Pv (i+1),ct:=Pv (i+1),bk:=D.nx } σ2 H2) (hd:∀σ H,Pv n σ H->D.nx σ H) :
 ∃W:Nat->Nat->St->Hp->Prop,(∃m,W 0 m σ H)/\∀i m σ H,W i m σ H ->
  ((gf lo n).stop i H/\D.nx σ H)\/((gf lo n).go i H/\∃N:St->Hp->Prop,(∀σ' H',N σ' H'->∃m',m'<m/\W (i+1) m' σ' H')/\∀x H',(gf lo n).yld i H x H'->g x σ H' λσ2 H2=>tb { D with nx:=N,ct:=N,bk:=D.nx } σ2 H2):=by
 refine⟨λi m σ H=>m=n-i/\i<=n/\Pv i σ H,⟨n,by simp,Fj _,h0⟩,?_⟩;rintro i m σ H ⟨rfl,hi,p⟩;by_cases hlt:i<n
 ·refine .inr ⟨hlt,Pv (i+1),λσ' H' p'=>⟨n-(i+1),by omega,rfl,hlt,p'⟩,λx H' y=>?_⟩;obtain⟨e,y⟩:=y;subst e y;exact hs i σ _ hlt p
 ·have e:i=n:=by omega
  subst e;exact .inl ⟨Fg _,hd σ H p⟩
theorem rR:∀{ps:List Addr} {us:List Value},Vals (ps.map V.ref) us->us=ps.map Value.ref
 | [],_,h=>by cases h;rfl
 |p::ps,_,h=>by
  cases h with
  |cons r rr =>cases r;rw[rR rr];rfl
section
variable {X:Cx}{K:PySem.W.Frag}
end
theorem A8{P:Program}{w:World}{K:PySem.W.Frag}{mg mb:Str->Option Value}{CX:CXT}{k:Nat}{fa a:Addr}{fd:FuncData}{x:Str}{sp:Sp}{s₁:Shared}{vs:List Value}{ns:List Int}
 (KX:K.In s₁.heap) (hns:s₁.heap.Ns mainGlobals mg) (hb:s₁.heap.Ns builtinsNs mb) (hbb:∀x:Str,x≠"__name__"->mb x=bootBuiltins x) (hlim:s₁.heap.NoLimit) (hse:s₁.heap.NoSeer) (hg:s₁.gens=#[])
 (ha:s₁.heap.get? a=some { cls:=.type "list",data:=.seq vs.toArray }) (hi:IntsAre vs ns) (hl:ns.length<=sizeLine) (hr:Room k callerA)
 (F:∀base:Heap,K.In base->base.Ns mainGlobals mg->base.NoSeer->FnOk P w K mg base CX k fa fd [x] sp) (hbind:∀(s:Shared) (u:Value),BindsTo s fd ⟨[u],[]⟩ [(x,u)])
 (hsp:∀H:Hp,oU H->SqL K H a (ns.map V.int)->sp [.ref a] H (λv _=>v=.bl true) λ_ _ _=>False)
 (hCX:∀H e s',CX [] H s₁ (λ_ _ _=>False) e s'->False) :
 codeAny (model P w) callerA (.call (.ref fa) ⟨[.ref a],[]⟩) (λr s'=>r=.ok (.ret (.bool true))/\OldK s₁.heap s'.heap/\s'.os=s₁.os/\AllBare s'.gens) s₁:=by
 have rv:=pJ hi;have lenV:=hi.length
 have core:∀H:Hp,oU H->SqL K H a (ns.map V.int)->HOk P w H s₁.heap->(∀b,H b≠none->b=a)->(H a≠none->K.lookup a=none) ->
  codeAny (model P w) callerA (.call (.ref fa) ⟨[.ref a],[]⟩) (λr s'=>r=.ok (.ret (.bool true))/\OldK s₁.heap s'.heap/\s'.os=s₁.os/\AllBare s'.gens) s₁:=by
  intro H hO hS hok hA hK;have base_of:∀{b:Addr} {o:Obj},s₁.heap.get? b=some o->H b=none->(dW s₁.heap H).get? b=some o:=λe n=>BB e n
  have noA:∀{b:Addr} {o:Obj} {es:Array DictEntry} {ep:Nat},s₁.heap.get? b=some o->o.data=.dict es ep->H b=none:=λ{b o es ep} e d=>by
   cases q:H b with
   |none=>rfl
   |some u =>have e':b=a:=hA b (by rw[q];simp);subst e';rw[ha]at e;cases e;have d':Data.seq vs.toArray _=Data.dict es ep:=d;cases d'
  have nsK:∀{b:Addr} {m:Str->Option Value},s₁.heap.Ns b m->(dW s₁.heap H).Ns b m:=λ{b m} ⟨o,es,ep,e,d,r⟩=>⟨o,es,ep,base_of e (noA e d),d,r⟩
  have hKb:K.In (dW s₁.heap H):=λb o e=>base_of (KX b o e) (by
   cases q:H b with
   |none=>rfl
   |some u =>
    have e':b=a:=hA b (by rw[q];simp);subst e'
    rw[hK (by rw[q];simp)]at e;cases e)
  have hM:Mod K mg (dW s₁.heap H):=⟨hKb,nsK hns,⟨mb,nsK hb,hbb⟩,let⟨mc,h1,h2⟩:=hlim;⟨mc,nsK h1,h2⟩⟩
  have hSb:(dW s₁.heap H).NoSeer:=by
   obtain⟨⟨mc,c1,c2,c3⟩,⟨mm,m1,m2⟩,⟨mb',b1,b2⟩,⟨mg',bm,ob,g1,g2,g3,g4,g5⟩⟩:=hse;refine⟨⟨mc,nsK c1,c2,c3⟩,⟨mm,nsK m1,m2⟩,⟨mb',nsK b1,b2⟩,⟨mg',bm,ob,nsK g1,g2,base_of g3 ?_,g4,g5⟩⟩;cases q:H bm with
   |none=>rfl
   |some u =>have e':bm=a:=hA bm (by rw[q];simp);rw[e',ha]at g3;cases g3;exact absurd (Value.type.inj g4) (by decide)
  have e0:Env0 P w K mg (dW s₁.heap H) callerA [] s₁ H:=⟨rfl,hM,λb o e=>As e,GJ (BA _ _),trivial,λb hb=>absurd (show b∈([]:List Addr)from hb) (by simp),hok,.of_eq hg⟩;refine codeAny_mono ((F _ hKb (nsK hns) hSb).run callerA [] s₁ H ⟨[.ref a],[]⟩ [.ref a] [.ref a] _ _ hr e0 (hbind s₁ (.ref a)) (.cons rfl .nil) (hsp H hO hS)) λr s' h=>?_
  cases r with
  |error e=>exact(hCX H e s' h).elim
  |ok fl =>
   cases fl with
   |next=>exact False.elim h
   |brk=>exact False.elim h
   |cont=>exact False.elim h
   |ret u =>
    obtain⟨v,H',os,bare,un,hok',r',q⟩:=h;have q':v=.bl true:=q;subst q';obtain rfl:u=Value.bool true:=r';refine⟨rfl,OldK.of_keep λb o e=>?_,os,bare⟩;cases q:H b with
    |none=>exact un.keep b o e q (by intro z;exact absurd (show b∈([]:List Addr)from z) (by simp)) (by simp)
    |some u =>
     rcases hO b with z |⟨ob,xs,z⟩
     ·rw[q]at z;cases z
     ·have z2:=un.frzs b ob _ z;obtain⟨e1,_⟩:=hok b _ z;obtain⟨e2,_⟩:=hok' b _ z2;rw[e]at e1;cases e1;exact e2
 cases hk:K.lookup a with
 |some o =>have e:=KX a o hk;rw[ha]at e;cases e;refine core (λ_=>none) (λ_=>.inl rfl) (.inr ⟨_,vs.toArray,_,hk,rfl,rfl,rfl,by rw[FR,lenV];exact hl,by simpa using rv⟩) (λb u z=>by have z':(none:Option HO)=some u:=z;cases z') (λb z=>absurd rfl z) λz=>absurd rfl z
 |none =>
  refine core (λb=>if b=a then some (.frz { cls:=.type "list",data:=.seq vs.toArray } (.lst (ns.map V.int)))else none) (λb=>?_) (.inl (.inr ⟨{ cls:=.type "list",data:=.seq vs.toArray },if_pos rfl⟩)) (λb u z=>?_) (λb z=>?_) λ_=>hk
  ·by_cases hb:b=a
   ·exact .inr ⟨_,_,if_pos hb⟩
   ·exact .inl (if_neg hb)
  ·by_cases hb:b=a
   ·have z':=(if_pos hb).symm.trans z;cases z';subst hb;exact⟨ha,by rw[Fc];exact hl,vs,_,rv,ha⟩
   ·have z':=(if_neg hb).symm.trans z;cases z'
  ·by_cases hb:b=a
   ·exact hb
   ·exact absurd (if_neg hb) z
theorem walk_ofS{l:PySem.W.OpenLaw}{n k:Nat}{q:Program}{loose:List Str}{XP:(Str->Option Value)->Heap->Prop}{YP:World->Heap->Prop}{d:DefRec}{K:Params->PySem.W.Frag}{CX:World->CXT}{sp:World->Sp}{x:Str}
 (hi:PyProof.Rows.importsNone q=true) (hn:l.most=some n) (hn2:n<=sizeLine) (hdf:d.params.defaults=[]) (hr:Room k callerA)
 (hY:∀(w:World) (h:Heap),YP w h->(K w.params).In h)
 (F:∀(w:World) (mg:Str->Option Value) (fa:Addr) (h:Heap),(K w.params).In h->h.Ns mainGlobals mg->mg d.name=some (.ref fa) ->
   ∃fd:FuncData,(∀(s:Shared) (u:Value),BindsTo s fd ⟨[u],[]⟩ [(x,u)]) /\
    ∀base:Heap,(K w.params).In base->base.Ns mainGlobals mg->base.NoSeer->FnOk l.prog w (K w.params) mg base (CX w) k fa fd [x] (sp w))
 (hsp:∀(w:World) (H:Hp) (a:Addr) (ns:List Int),ns.length<=n->oU H->SqL (K w.params) H a (ns.map V.int)->sp w [.ref a] H (λv _=>v=.bl true) λ_ _ _=>False)
 (hCX:∀(w:World) (H:Hp) (s:Shared) (e:Value) (s':Shared),CX w [] H s (λ_ _ _=>False) e s'->False) :
 PySem.W.WalkO q loose XP YP l.row.toRowW d [] (λf vs=>PySem.call f vs):=by
 refine Att.attach_call hn hdf λw s₀ s₁ mg mb fa o pm cd doc a vs ns G Y ho hd hcd hmg hobj hints hlen hg=>?_
 have KX:=hY w _ Y;obtain⟨fd,hb,hF⟩:=F w mg fa _ KX G.T.g hmg;exact A8 KX G.T.g G.T.b G.T.builtins G.T.nolimit (G.T.seer hi) hg hobj hints (Fu hlen hn2) hr hF hb (λH hO hS=>hsp w H a ns hlen hO hS) λH e s'=>hCX w H s₁ e s'
section
variable {X:Cx}{e:Env}{l:List Env}
theorem yb{pins:List (Addr×Obj)}{σ:St}{H:Hp}{s:Shared}(hs:X.base.NoSeer)(ht:X.prog.given.tree=none)(hd:X.A.depth+100<recursionLimit)(hst:X.stack=e::l)(h1:e.scope.isGenerator=false)(h2:e.scope.isCoroutine=false)(h3:e.builtins=builtinsNs)(h4:e.globals=mainGlobals)(I:Inv X pins σ H s):PylongRoom (model X.prog X.w) X.A s :=
 PylongRoom.of (I.ok.mod.nolimit.keeps I.bk) hd (SeerAt.of (hs.keeps I.bk) ht (by rw[I.ok.frames,hst]) h1 h2 h3 h4)
theorem tq(hs:X.base.NoSeer)(ht:X.prog.given.tree=none)(hd:X.A.depth+100<recursionLimit)(hst:X.stack=e::l)(h1:e.scope.isGenerator=false)(h2:e.scope.isCoroutine=false)(h3:e.builtins=builtinsNs)(h4:e.globals=mainGlobals):OpR X (binaryOp .FloorDiv) (rI (λ_ j=>0<j) λi j=>.int (i/j)):=by intro pins s σ H x y v u Q I rx ry h;obtain⟨i,j,rfl,rfl,hj,q⟩:=h;obtain⟨t,rfl⟩:=rx;obtain⟨t',rfl⟩:=ry;have hj':(0:Int)<j:=hj;refine floordiv_int (Gc hj') ?_ (.inr (yb hs ht hd hst h1 h2 h3 h4 I));rw[Int.fdiv_eq_ediv_of_nonneg _ (FB hj')];exact⟨.int (i/j),H,I.tok _,⟨_,rfl⟩,q⟩
end
theorem Dj(a v:Value):argsOk "max" ⟨[a],[(Str.ofString "default",v)]⟩:=by unfold argsOk;kernel_rfl
def Top(val:Nat->Int)(n:Nat)(M:Int):Prop:=(∃i,i<n/\val i=M)/\∀i,i<n->val i<=M
theorem Top.more{val:Nat->Int}{n:Nat}{M:Int}(h:Top val n M)(hn:val n>M):Top val (n+1) (val n) :=
 ⟨⟨n,by omega,rfl⟩,λi hi=>by
   by_cases e:i=n
   ·subst e;exact GM _
   ·have:=h.2 i (by omega);omega⟩
theorem Top.less{val:Nat->Int}{n:Nat}{M:Int}(h:Top val n M)(hn:¬val n>M):Top val (n+1) M :=
 ⟨let⟨i,hi,e⟩:=h.1;⟨i,by omega,e⟩,λi hi=>by
  by_cases e:i=n
  ·subst e;omega
  ·exact h.2 i (by omega)⟩
section
variable {prog:Program}{w:World}{A:Around}{R:Result->Shared->Prop}{I S:Addr}{fp wr:List Addr}{n:Nat}{P:Nat->Value->Prop}{St:Nat->Heap->Prop}{val:Nat->Int}{d:Value}
theorem jN:(toString "max"++toString ".loop":String)="max.loop":=by decide
theorem AU(W:Walks prog w A.in1 I fp wr n P St)(hval:∀i v,P i v->∃t,v=.int (val i) t)(hSf:S∉fp) :
 ∀(k j:Nat) (s:Shared) (m:Int) (t:Tok) (c:Nat),n-j=k->j<=n->St j s.heap->Top val j m ->
 s.heap.get? S=some { cls:=.type "list",dict:=none,data:=.seq #[.int m t,.int m t] c,slots:=#[] } ->
 (∀M t h' tk,Top val n M->(∀b o,b∉wr->b≠S->s.heap.get? b=some o->h'.get? b=some o)->R (.ok (.ret (.int M t))) { s with heap:=h',toks:=tk }) ->
 codeAny (model prog w) A (.builtin "max.loop" ⟨[.ref I,.none,.ref S],[("default",d)]⟩) R s:=by
 have hSw:S∉wr:=λh=>hSf (W.sub _ h)
 have cm:=CmpOf.ints_gt (prog:=prog) (w:=w) (A:=A.in1) (P:=λi v=>∃t,v=.int (val i) t) val (λ_ _ h=>h);intro k
 induction k with
 |zero =>
  intro j s m t c hk hj hst hT hS hR;have hin:j=n:=by omega
  subst hin;refine codeAny_builtin F.entry_max_loop ?_;rw[Around.under_plainId F.plain_max_loop _];refine wpAny_bind (wpAny_seqItems hS rfl ?_);show wpAny _ A.in1 (tryCatch (pyNext (.ref I)) _ >>= _) _ _ s;refine wpAny_bind (wpAny_tryCatch (W.done s _ _ hst λh' tk hk'=>?_));show wpAny _ A.in1 (updateSeq S (λ_=>#[]) >>= _) _ _ _;refine wpAny_bind (wpAny_updateSeq (hk' S _ hSw hS) rfl (wpAny_bind (wpAny_letGo (wpAny_pure ?_))));exact hR m t _ tk hT λb o hb hbS e=>(Heap.get?_update_other _ _ (Ne.symm hbS)).trans (hk' b o hb e)
 |succ k ih =>
  intro j s m t c hk hj hst hT hS hR;have hlt:j<n:=by omega
  refine codeAny_builtin F.entry_max_loop ?_;rw[Around.under_plainId F.plain_max_loop _];refine wpAny_bind (wpAny_seqItems hS rfl ?_);show wpAny _ A.in1 (tryCatch (pyNext (.ref I)) _ >>= _) _ _ s;refine wpAny_bind (wpAny_tryCatch (W.item j s _ _ hlt hst λv h' tk hP hst' hk'=>?_));have hS':=hk' S _ hSw hS;obtain⟨u,rfl⟩:=hval j v hP;obtain⟨i0,_,e0⟩:=hT.1;show wpAny _ A.in1 (tryCatch (holding [_,_] (richCompare .Gt (.int (val j) u) (.int m t) >>= _)) _ >>= _) _ _ _;refine wpAny_bind (wpAny_tryCatch (wpAny_holding (wpAny_bind (cm j i0 _ _ _ _ _ ⟨u,rfl⟩ ⟨t,by rw[e0]⟩ ?_))));refine wpAny_bind (wpAny_holding (wpAny_truthy_bool ?_));refine wpAny_bind (wpAny_letGo (wpAny_pure ?_));show wpAny _ A.in1 (if decide (val j>val i0)=true then _ else _) _ _ _;rw[e0];by_cases hb:val j>m
  ·rw[decide_eq_true hb];simp only[if_true];refine wpAny_bind ?_;refine wpAny_updateSeq hS' rfl (wpAny_bind (wpAny_letGo ?_));rw[jN];refine wpAny_pure ⟨plainId_quiet F.plain_max_loop _,ih (j+1) _ (val j) u _ (by omega) hlt (W.frame _ _ _ hst' λb hbf o e=>?_) (hT.more hb) (Heap.get?_update_self _ hS' rfl) λM t' h'' tk'' hM hk''=>?_⟩
   ·exact(Heap.get?_update_other _ _ (λh:S=b=>hSf (h ▸ hbf))).trans e
   ·exact hR M t' h'' tk'' hM λb o hbw hbS e=>hk'' b o hbw hbS ((Heap.get?_update_other _ _ (Ne.symm hbS)).trans (hk' b o hbw e))
  ·rw[decide_eq_false hb];simp only[Bool.false_eq_true,if_false];refine wpAny_bind (wpAny_letGo ?_);rw[jN];refine wpAny_pure ⟨plainId_quiet F.plain_max_loop _,ih (j+1) _ m t c (by omega) hlt hst' (hT.less hb) hS' λM t' h'' tk'' hM hk''=>?_⟩;exact hR M t' h'' tk'' hM λb o hbw hbS e=>hk'' b o hbw hbS (hk' b o hbw e)
theorem AV(W:Walks prog w A.in1 I fp wr n P St)(hval:∀i v,P i v->∃t,v=.int (val i) t)(hSf:S∉fp){s:Shared}{c:Nat}(hst:St 0 s.heap)
 (hS:s.heap.get? S=some { cls:=.type "list",dict:=none,data:=.seq #[] c,slots:=#[] })
 (h0:n=0->∀h' tk,(∀b o,b∉wr->b≠S->s.heap.get? b=some o->h'.get? b=some o)->R (.ok (.ret d)) { s with heap:=h',toks:=tk })
 (hR:∀M t h' tk,Top val n M->(∀b o,b∉wr->b≠S->s.heap.get? b=some o->h'.get? b=some o)->R (.ok (.ret (.int M t))) { s with heap:=h',toks:=tk }) :
 codeAny (model prog w) A (.builtin "max.loop" ⟨[.ref I,.none,.ref S],[("default",d)]⟩) R s:=by
 have hSw:S∉wr:=λh=>hSf (W.sub _ h)
 refine codeAny_builtin F.entry_max_loop ?_;rw[Around.under_plainId F.plain_max_loop _];refine wpAny_bind (wpAny_seqItems hS rfl ?_);show wpAny _ A.in1 (tryCatch (pyNext (.ref I)) _ >>= _) _ _ s;by_cases hn:n=0
 ·subst hn;refine wpAny_bind (wpAny_tryCatch (W.done s _ _ hst λh' tk hk'=>?_));refine wpAny_bind (wpAny_rule (wpAny_pure ?_));exact h0 rfl h' tk λb o hb _ e=>hk' b o hb e
 ·refine wpAny_bind (wpAny_tryCatch (W.item 0 s _ _ (by omega) hst λv h' tk hP hst' hk'=>?_));have hS':=hk' S _ hSw hS;obtain⟨u,rfl⟩:=hval 0 v hP;show wpAny _ A.in1 (updateSeq S (λ_=>#[.int (val 0) u,.int (val 0) u]) >>= _) _ _ _;refine wpAny_bind (wpAny_updateSeq hS' rfl ?_);rw[jN];refine wpAny_pure ⟨plainId_quiet F.plain_max_loop _,AU W hval hSf _ 1 _ (val 0) u _ rfl (by omega) (W.frame _ _ _ hst' λb hbf o e=>?_) ⟨⟨0,by omega,rfl⟩,λi hi=>?_⟩ (Heap.get?_update_self _ hS' rfl) λM t h'' tk'' hM hk''=>?_⟩
  ·exact(Heap.get?_update_other _ _ (λh:S=b=>hSf (h ▸ hbf))).trans e
  ·have:i=0:=by omega
   subst this;exact GM _
  ·exact hR M t h'' tk'' hM λb o hbw hbS e=>hk'' b o hbw hbS ((Heap.get?_update_other _ _ (Ne.symm hbS)).trans (hk' b o hbw e))
end
section
variable {prog:Program}{w:World}{A:Around}{E:Value->Shared->Prop}{s:Shared}{l:Addr}{xs:Array (Int×Tok)}{d:Value}
theorem C4{Q:Value->Shared->Prop}(hh:A.handled=none)(hl:s.heap.IsList l (intItems xs))
 (h0:xs.size=0->∀h' tk,(∀b o,s.heap.get? b=some o->h'.get? b=some o)->Q d { s with heap:=h',toks:=tk })
 (h:∀M t h' tk,Top (numAt xs) xs.size M->(∀b o,s.heap.get? b=some o->h'.get? b=some o)->Q (.int M t) { s with heap:=h',toks:=tk }) :
 wpAny (model prog w) A (call (.builtin "max") [.ref l] [("default",d)]) Q E s:=by
 refine wpAny_call (codeAny_call_builtin F.plain_max F.entry_max ?_);simp only[checkBuiltinCall,F.kind_max]
 have key:wpAny (model prog w) A.in1 (Builtin.«max» ⟨[.ref l],[("default",d)]⟩) (λfin s'=>match fin with
  |.done f=>(match(Except.ok f:Result)with |.ok (.ret v)=>Q v s' |.ok _=>False |.error e=>E e s')
  |.again c'=>c'.quiet=true/\codeAny (model prog w) A c' (λr s'=>match r with |.ok (.ret v)=>Q v s' |.ok _=>False |.error e=>E e s') s') E s:=by
  show wpAny _ A.in1 (Builtin.Builtins.bindParams "max" ["key","default"] 0 ⟨[],[("default",d)]⟩ >>= _) _ _ s;refine wpAny_bind (wpAny_of_eq (show Builtin.Builtins.bindParams "max" ["key","default"] 0 ⟨[],[("default",d)]⟩=pure [none,some d]from rfl) ?_);refine wpAny_bind (wpAny_pure ?_);refine wpAny_bind (iter_intList hl λs₂ e st hfp hlI=>?_);subst e;refine wpAny_bind (wpAny_newObj_type ?_);rw[jN];have W:=Walks.list (prog:=prog) (w:=w) (A:=A.in1) hh _ l hlI (intItems xs);have sz:(intItems xs).size=xs.size:=by simp[intItems]
  refine wpAny_pure ⟨plainId_quiet F.plain_max_loop _,AV W (val:=numAt xs) (λi v=>intItems_at) (λhm=>Ge _ (hfp _ hm)) (W.frame _ _ _ st λb _ o e=>Heap.get?_push_of_some _ e) (Heap.get?_push_size _ rfl) (λhn h' tk hk=>?_) λM t h' tk hM hk=>?_⟩
  ·exact h0 (sz ▸ hn) h' tk (old_kept λb o hb e=>hk b o hb (FL (Heap.lt_size e)) (Heap.get?_push_of_some _ e))
  ·exact h M t h' tk (sz ▸ hM) (old_kept λb o hb e=>hk b o hb (FL (Heap.lt_size e)) (Heap.get?_push_of_some _ e))
 cases hsig:Manifest.signature? "max" with
 |none=>exact wpAny_pure key
 |some sig =>
  have ha':Bind.checkArgs "max" sig ⟨[.ref l],[("default",d)]⟩=pure ():=by simpa only[argsOk,hsig]using Dj (.ref l) d
  simp only[ha'];exact wpAny_pure key
end
def se(K:PySem.W.Frag):R2:=λx y H Q=>∃(p:Addr) (ns:List Int),x=.ref p/\SqL K H p (ns.map V.int)/\(ns=[]->Q y H)/\∀M,M∈ns->(∀a∈ns,a<=M)->Q (.int M) H
theorem uo:∀{ns:List Int} {us:List Value},Vals (ns.map V.int) us->∃ts:List (Int×Tok),us.toArray=intItems ts.toArray/\ts.map (·.1)=ns
 | [],_,h=>by cases h;exact⟨[],by simp[intItems],rfl⟩
 |n::ns,_,h=>by
  cases h with
  |cons r rr =>obtain⟨t,rfl⟩:=r;obtain⟨ts,e1,e2⟩:=uo rr;refine⟨(n,t)::ts,?_,by rw[Fo,e2]⟩;have e3:=congrArg Array.toList e1;simp only[intItems,List.map_toArray]at e3 ⊢;simpa using e3
theorem wM{ts:List (Int×Tok)}{M:Int}(h:Top (numAt ts.toArray) ts.toArray.size M):M∈ts.map (·.1)/\∀a∈ts.map (·.1),a<=M:=by
 have g:∀(i:Nat) (hi:i<ts.length),numAt ts.toArray i=(ts[i]).1:=λi hi=>by simp[numAt,hi]
 obtain⟨⟨i,hi,e⟩,h2⟩:=h;have hi':i<ts.length:=by simpa using hi
 constructor
 ·rw[<- e,g i hi'];exact Fe.mpr ⟨_,Gs hi',rfl⟩
 ·intro a ha;obtain⟨p,hp,rfl⟩:=Fe.mp ha;obtain⟨j,hj,rfl⟩:=Hz hp;rw[<- g j hj];exact h2 j (by simpa using hj)
section
variable {X:Cx}{K:PySem.W.Frag}{e ed:Expr}{ta td:TE}{p pos kp:Pos}
theorem y8(hK:X.K=K)(hc:X.calm=true)(hg:Gl X "max")(hm:X.mg "max"=none)(ha:PE X e ta)(hd:PE X ed td)
 (he:starEach [e] X.env=(false,eval e X.env)::starEach [] X.env:=by rfl):PE X (.Call (.Name "max" p) [e] [⟨some "default",ed,kp⟩] pos) (tOp (se K) ta td):=by
 subst hK;intro pins s σ H Q I h;refine wpAny_Call_Name_kw (dF I hg hm boot_max ?_ (by decide) (by decide));refine callWith_kw (thn (aa ha ag he pos pins s σ H (λvs H1=>match vs with | [x]=>td σ H1 λy H2=>se X.K x y H2 Q |_=>False) I h) λus s1 ⟨vs,H1,I1,r1,q1⟩=>?_) (by rw[he];rfl) (by rw[he];rfl) rfl rfl
 obtain⟨x,rfl⟩:∃x,vs=[x]:=by
  match vs,q1 with
  | [x],_=>exact⟨x,rfl⟩
 obtain⟨u,rfl,ru⟩:=gm r1;refine kws_cons (thn (hd pins s1 σ H1 _ I1 q1) λv s2 ⟨y,H2,I2,ry,q2⟩=>kws_nil ?_);obtain⟨a,ns,rfl,hq,k0,k1⟩:=q2;cases ru;obtain⟨its,r',pl,hz⟩:=I2.list hq;obtain⟨ts,e1,e2⟩:=uo r';have il:=pl.isList;rw[e1]at il;refine C4 (I2.ok.hd hc) il (λh0 h' tk k=>⟨y,H2,I2.kept k,ry,k0 ?_⟩) λM t h' tk hM k=>⟨.int M,H2,I2.kept k,⟨t,rfl⟩,?_⟩
 ·have:ts=[]:=by simpa using h0
  rw[<- e2,this];rfl
 ·obtain⟨m1,m2⟩:=wM hM;rw[e2]at m1 m2;exact k1 M m1 m2
end
def r8(K:PySem.W.Frag):R2:=λx y H Q=>∃(a p:Addr) (ps:List Addr) (xss:List (List Int)) (xs:List Int),x=.ref p/\y=.ref a/\H p=some (.lst (xs.map V.int))/\SqL K H a (ps.map V.ref)/\ps.length=xss.length/\(∀(i:Nat) (p:Addr) (xs:List Int),ps[i]?=some p->xss[i]?=some xs->H p=some (.lst (xs.map V.int)))/\Q (.bl (!decide (xs∈xss))) H
theorem uq{xs ys:List Int}(h:xs.map V.int=ys.map V.int):xs=ys:=by
 refine List.ext_getElem? λi=>?_
 have:=congrArg (λl:List V=>l[i]?) h;simp only[List.getElem?_map]at this;cases e1:xs[i]?<;>cases e2:ys[i]?<;>rw[e1,e2]at this<;>simp at this
 rw[this]
open Classical in
noncomputable def dJ (H:Hp) (xs:List Int) (w:Value):Bool:=match w with
 |.ref q=>decide (H q=some (.lst (xs.map V.int)))
 |_=>false
theorem eRow_iff{H:Hp}{xs:List Int}{q:Addr}:dJ H xs (.ref q)=true↔H q=some (.lst (xs.map V.int)):=by unfold dJ;exact @decide_eq_true_iff _ (_)
section
variable {X:Cx}{K:PySem.W.Frag}
theorem zl(hu:X.A.units+66<cLine):OpR X (compareOp .NotIn) (r8 X.K):=by
 intro pins s σ H x y v u Q I rx ry h;obtain⟨a,p,ps,xss,xs,rfl,rfl,hp,ha,hl,hr,q⟩:=h;cases rx;cases ry;obtain⟨i0,r0,p0,_⟩:=I.list (SqL.of (K:=X.K) hp);obtain⟨i1,r1,p1,_⟩:=I.list ha;obtain rfl:=rR r1;refine SeqAt.notIn_listAt (dJ H xs) p1.isList (λw hw=>?_) ⟨.bl _,H,I,rfl,?_⟩
 ·obtain⟨q,hq,rfl⟩:=Fe.mp (by simpa using hw);obtain⟨i,hi,rfl⟩:=Hz hq;have hx:xss[i]?=some (xss[i]'(by omega)):=List.getElem?_eq_getElem (by omega);have h1:=hr i ps[i] _ (List.getElem?_eq_getElem hi) hx;obtain⟨i2,r2,p2,_⟩:=I.list (SqL.of (K:=X.K) h1);have e:=PySem.W.keq_ints (A:=X.A) p2.isList (g8 r2) p0.isList (g8 r0) (by show X.A.units+1+64<cLine;omega)
  have ee:dJ H xs (.ref ps[i])=decide (xss[i]'(by omega)=xs):=by
   rw[Bool.eq_iff_iff,eRow_iff,h1,decide_eq_true_eq];constructor
   ·intro z;injection z with z;injection z with z;exact uq z
   ·intro z;rw[z]
  rw[ee];exact e
 ·have e:(ps.map Value.ref).toArray.any (dJ H xs)=decide (xs∈xss):=by
   rw[show(ps.map Value.ref).toArray.any (dJ H xs)=(ps.map Value.ref).any (dJ H xs) by simp,Bool.eq_iff_iff,List.any_eq_true,decide_eq_true_eq];constructor
   ·rintro⟨w,hw,z⟩;obtain⟨q,hq,rfl⟩:=Fe.mp hw;obtain⟨i,hi,rfl⟩:=Hz hq;have hx:xss[i]?=some (xss[i]'(by omega)):=List.getElem?_eq_getElem (by omega);have h1:=hr i ps[i] _ (List.getElem?_eq_getElem hi) hx;have z':H ps[i]=_:=eRow_iff.mp z;rw[h1]at z'
    injection z' with z';injection z' with z'
    rw[<- uq z'];exact Gs _
   ·intro hm;obtain⟨i,hi,rfl⟩:=Hz hm;refine⟨.ref (ps[i]'(by omega)),Fe.mpr ⟨_,Gs _,rfl⟩,?_⟩;exact eRow_iff.mpr (hr i _ _ (List.getElem?_eq_getElem (by omega)) (List.getElem?_eq_getElem hi))
  rw[e];exact q
theorem zk(h:X.K=K)(hu:X.A.units+66<cLine):OpR X (compareOp .NotIn) (r8 K):=by subst h;exact zl hu
end
section
variable {X:Cx}
end
noncomputable def bg:Nat:=67000000
section
variable {X:Cx}{K:PySem.W.Frag}
end
section
variable {X:Cx}{own fr:List Str}{js:List Nat}{scope:Scope}{cl:List (Str×Addr)}{elt target iter:Expr}{pos:Pos}{wi:TI}{g:TG}{te:TE}{cond:Expr}{tt:TT}
end
theorem x9(r:Addr)(a b c:Int)(t u v:Tok)(hs:¬(!(Builtin.Range.rangeFitsLong a&&Builtin.Range.rangeFitsLong b&&Builtin.Range.rangeFitsLong c&&Builtin.Range.rangeFitsLong (-c)&&Builtin.Range.rangeFitsLong (a-c)&&Builtin.Range.rangeFitsLong (Builtin.Range.rangeSize a b c)))=true) :
 Meets (Builtin.«range.__reversed__» ⟨[.ref r],[]⟩) (λ_ R s=>s.heap.get? r=some { cls:=.type "range",dict:=none,data:=.fields #[.int a t,.int b u,.int c v],slots:=#[] } /\
  R (.ok (.ret (Value.ref s.heap.objs.size))) { s with heap:=s.heap.push { cls:=Value.type (if(Builtin.Range.rangeFitsLong a&&Builtin.Range.rangeFitsLong b&&Builtin.Range.rangeFitsLong c&&Builtin.Range.rangeFitsLong (-c)&&Builtin.Range.rangeFitsLong (a-c)&&Builtin.Range.rangeFitsLong (Builtin.Range.rangeSize a b c))=true then "range_iterator" else "longrange_iterator"),data:=Data.fields #[rawInt (a+(Builtin.Range.rangeSize a b c-1)*c),rawInt (Builtin.Range.rangeSize a b c),rawInt (-c)] },toks:=s.toks }) :=
 .of_wp λprog w A R s h=>by obtain⟨hp,g,d,tk,os⟩:=s;obtain⟨hl,h⟩:=h;wp_walk;exact⟨_,rfl,h⟩
section
variable {prog:Program}{w:World}{A:Around}{E:Value->Shared->Prop}{s:Shared}
noncomputable def rIt(x n:Int):Obj:={ cls:=.type "range_iterator",data:=.fields #[rawInt x,rawInt n,rawInt (-1)] }
theorem yg{l:Addr}{n:Int}{t u v:Tok}{Q:Value->Shared->Prop}(hl:IsRange s.heap l 0 n 1 t u v)(h0:0<=n)(hn:n<2^61)(h:Q (.ref s.heap.objs.size) { s with heap:=s.heap.push (rIt (n-1) n) }):wpAny (model prog w) A (call (.builtin "range.__reversed__") [.ref l]) Q E s:=by
 have hT:s.TypeIs (.ref l) "range":=⟨_,hl,rfl⟩;have hz:Builtin.Range.rangeSize 0 n 1=n:=by rw[rangeSize_one];split<;>omega
 have hsm:(Builtin.Range.rangeFitsLong 0&&Builtin.Range.rangeFitsLong n&&Builtin.Range.rangeFitsLong 1&&Builtin.Range.rangeFitsLong (-1)&&Builtin.Range.rangeFitsLong (0-1)&&Builtin.Range.rangeFitsLong (Builtin.Range.rangeSize 0 n 1))=true:=by rw[hz];simp only[Builtin.Range.rangeFitsLong,Bool.and_eq_true,decide_eq_true_eq];omega
 refine call_meets PySem.F.slot_range_reversed hT PySem.F.entry_range_reversed (PySem.F.args_range_reversed_1 _) (x9 l 0 n 1 t u v (by rw[hsm];decide)) ⟨hl,?_⟩;rw[if_pos hsm,hz];have e:(0:Int)+(n-1)*1=n-1:=by omega
 rw[e];exact h
theorem yf{l:Addr}{n:Int}{t u v:Tok}{Q₁:Value->Shared->Prop}(hl:IsRange s.heap l 0 n 1 t u v)(h0:0<=n)(hn:n<2^61)(h:Q₁ (.ref s.heap.objs.size) { s with heap:=s.heap.push (rIt (n-1) n) }) :
 codeAny (model prog w) A (.call (.builtin "reversed.__new__") ⟨[.type "reversed",.ref l],[]⟩) (wants Q₁ E) s:=by
 have hT:s.TypeIs (.ref l) "range":=⟨_,hl,rfl⟩;refine codeAny_of_tree ?_;change wpAny _ A.in1 (do checkBuiltinCall "reversed.__new__" ⟨[.type "reversed",.ref l],[]⟩;again (.builtin "reversed.__new__" ⟨[.type "reversed",.ref l],[]⟩)) _ _ s;refine wpAny_bind (wpAny_of_eq (PySem.F.newCall_reversed_1 _) (wpAny_pure ⟨plainId_quiet PySem.F.plain_reversed_new _,codeAny_builtin PySem.F.entry_reversed_new ?_⟩));rw[Around.under_plainId PySem.F.plain_reversed_new _];unfold Builtin.«reversed.__new__»;refine wpAny_bind (wpAny_of_eq (newClass_reversed _) ?_)
 try dsimp only
 refine wpAny_bind (wpAny_of_eq (a:=()) (by first |rfl |kernel_rfl) ?_);refine wpAny_bind (wpAny_of_eq (a:=()) (by first |rfl |kernel_rfl) ?_)
 try dsimp only
 refine wpAny_bind (wpAny_specialOf hT PySem.F.slot_range_reversed.lookup ?_)
 try dsimp only
 refine wpAny_bind (wpAny_of_eq (PySem.F.slot_range_reversed.bind _) ?_)
 try dsimp only
 have hno:¬((Value.builtin "range.__reversed__" == Value.none)=true):=GU
 first
 |rw[if_neg hno]
 | (show wpAny _ _ (if(Value.builtin "range.__reversed__" == Value.none)=true then _ else _) _ _ _;rw[if_neg hno])
 refine wpAny_bind (wpAny_rule ?_);refine wpAny_bind (m:=runValue (.call (.builtin "range.__reversed__") ⟨[.ref l],[]⟩)) (show wpAny _ _ (call (.builtin "range.__reversed__") [.ref l]) _ _ _ from yg hl h0 hn ?_)
 first
 |exact wpAny_pure h
 |exact wpAny_bind (wpAny_pure (wpAny_pure h))
theorem xa:isSubtype (.type "range_iterator") (.type "reversed")=pure false:=by rw[isSubtype_type];kernel_rfl
theorem yh{l:Addr}{n:Int}{t u v:Tok}{Q:Value->Shared->Prop}(hl:IsRange s.heap l 0 n 1 t u v)(h0:0<=n)(hn:n<2^61)(h:Q (.ref s.heap.objs.size) { s with heap:=s.heap.push (rIt (n-1) n) }):wpAny (model prog w) A (call (.type "reversed") [.ref l]) Q E s:=by refine callType_other (U:="range_iterator") (Q₁:=λobj z=>obj=.ref s.heap.objs.size/\z={ s with heap:=s.heap.push (rIt (n-1) n) }) (by decide +kernel) PySem.F.create_reversed ⟨_,_,PySem.F.mro_reversed⟩ PySem.F.made_reversed xa (PySem.F.typeCall_reversed_1 _) (yf hl h0 hn ⟨rfl,rfl⟩) ?_;rintro obj z ⟨rfl,rfl⟩;exact⟨⟨_,Heap.get?_push_size _ rfl,rfl⟩,h⟩
end
section
variable {X:Cx}{tg:Expr}
def Bw(ta:TA):TI:=λσ H R=>ta σ H λvs H1=>∃n:Int,vs=[.int n]/\0<=n/\n<2^61/\R (gf (n-1) n.toNat) H1
theorem yX{a:Expr}{ta:TA}{p p' pos pos':Pos}(hg:Gl X "reversed")(hm:X.mg "reversed"=none)(hg':Gl X "range")(hm':X.mg "range"=none)(ha:PA X [a] ta)(hs:starEach [a] X.env=[(false,eval a X.env)]:=by rfl)
 (hs':starEach [Expr.Call (.Name "range" p') [a] [] pos'] X.env=[(false,eval (.Call (.Name "range" p') [a] [] pos') X.env)]:=by rfl):PI X tg (.Call (.Name "reversed" p) [.Call (.Name "range" p') [a] [] pos'] [] pos) (Bw ta):=by
 intro pins s σ H R I h;refine Call_ (dF I hg hm boot_reversed (PyProof.Rows.callWith_type1 ?_ hs' rfl));rw[hs'];refine Calls.spliced_cons ?_;refine Call_ (dF I hg' hm' boot_range (PyProof.Rows.callWith_type1 (thn (ha pos' pins s σ H _ I h) λus s1 ⟨vs,H1,I1,r1,q1⟩=>?_) hs rfl));obtain⟨n,e,q1,q2,q⟩:=q1;subst e;obtain⟨x,rfl,rx⟩:=r1.one;obtain⟨t,rfl⟩:=rx;refine call_range_1 ?_;refine Calls.spliced_nil ?_;have I2:Inv X pins σ H1 { s1 with heap:=s1.heap.push { cls:=.type "range",data:=.fields #[.int 0 s1.toks,.int n t,.int 1 (s1.toks+1)] },toks:=s1.toks+1+1 }:=I1.kept λb o e=>Heap.get?_push_of_some _ e
 refine yh (IsRange.new ..) q1 q2 ?_;generalize hS:({ s1 with heap:=s1.heap.push { cls:=.type "range",data:=.fields #[.int 0 s1.toks,.int n t,.int 1 (s1.toks+1)] },toks:=s1.toks+1+1 }:Shared)=s2 at I2 ⊢
 have I3:Inv X pins σ H1 { s2 with heap:=s2.heap.push (rIt (n-1) n) }:=I2.kept (t':=s2.toks) λb o e=>Heap.get?_push_of_some _ e
 have hit:IsRangeIter (s2.heap.push (rIt (n-1) n)) s2.heap.objs.size (n-1+((0:Nat):Int) * -1) ((n.toNat:Int)-((0:Nat):Int)) (-1):=by
  have e1:n-1+((0:Nat):Int) * -1=n-1:=by simp
  have e2:(n.toNat:Int)-((0:Nat):Int)=n:=by omega
  rw[e1,e2];exact Heap.get?_push_size _ rfl
 refine wpAny_pyIter_rangeiter (s:={ s2 with heap:=s2.heap.push (rIt (n-1) n) }) hit ?_;refine⟨s2.heap.objs.size,[s2.heap.objs.size],_,_,H1,rfl,I3,pP _ (n-1) n.toNat,hit,λb hb=>?_,q⟩;have e:b=s2.heap.objs.size:=by simpa using hb
 subst e;exact I2.fpOk (Fg _) (I2.hok.fresh (Fg _))
end
end L2
namespace RM
noncomputable def cf(l:List Int)(k:Nat):Int:=l.getD k 0
theorem b6(k:Nat):cf [] k=0:=by simp[cf]
theorem oK(x:Int)(l:List Int):cf (x::l) 0=x:=rfl
theorem j9(x:Int)(l:List Int)(k:Nat):cf (x::l) (k+1)=cf l k:=rfl
theorem aT{l:List Int}{k:Nat}(h:l.length<=k):cf l k=0:=by unfold cf;rw[List.getD,List.getElem?_eq_none_iff.mpr h];rfl
theorem ce{l:List Int}{k:Nat}(h:k<l.length):cf l k=l[k]:=by unfold cf;rw[List.getD,List.getElem?_eq_getElem h];rfl
theorem oM{l:List Int}{k:Nat}{x:Int}(h:l[k]?=some x):cf l k=x:=by unfold cf;rw[List.getD,h];rfl
theorem dX{l:List Int}{k:Nat}(h:k<l.length):l[k]?=some (cf l k):=by rw[ce h,List.getElem?_eq_getElem h]
theorem kf{l r:List Int}{k:Nat}(h:k<l.length):cf (l++r) k=cf l k:=by unfold cf;rw[List.getD,List.getD,List.getElem?_append_left h]
theorem ke{l r:List Int}{k:Nat}(h:l.length<=k):cf (l++r) k=cf r (k-l.length):=by unfold cf;rw[List.getD,List.getD,List.getElem?_append_right h]
theorem fz{l:List Int}{j k:Nat}{x:Int}(h:j<l.length):cf (l.set j x) k=if k=j then x else cf l k:=by
 unfold cf;rw[List.getD,List.getD,List.getElem?_set];by_cases e:j=k
 ·subst e;simp[h]
 ·rw[if_neg e,if_neg (λz=>e z.symm)]
theorem fA(n k:Nat):cf (List.replicate n 0) k=0:=by unfold cf;rw[List.getD,List.getElem?_replicate];split<;>rfl
theorem fB(f:Nat->Int)(n k:Nat):cf ((List.range n).map f) k=if k<n then f k else 0:=by
 unfold cf;rw[List.getD,List.getElem?_map];by_cases h:k<n
 ·rw[if_pos h,List.getElem?_range h];rfl
 ·rw[if_neg h,List.getElem?_eq_none_iff.mpr (by simpa using h)];rfl
theorem cL{a b:List Int}(hl:a.length=b.length)(h:∀k,k<a.length->cf a k=cf b k):a=b:=by apply List.ext_getElem hl;intro k h1 h2;rw[<- ce h1,<- ce h2];exact h k h1
noncomputable def trim(l:List Int):List Int:=(l.reverse.dropWhile (· == 0)).reverse
theorem i6(l:List Int):trim (l++[0])=trim l:=by unfold trim;rw[HA];rfl
theorem ij(l:List Int){x:Int}(h:x≠0):trim (l++[x])=l++[x]:=by unfold trim;rw[HA];show((x::l.reverse).dropWhile (· == 0)).reverse=_;rw[List.dropWhile_cons_of_neg (by simpa using h)];simp
def Tr(l:List Int):Prop:=∀n,l.length=n+1->cf l n≠0
theorem bX(l:List Int):l=[]\/∃r x,l=r++[x]:=by
 cases h:l.reverse with
 |nil=>left;simpa using h
 |cons x r=>right;exact⟨r.reverse,x,by rw[<- List.reverse_reverse l,h];simp⟩
theorem ga(r:List Int)(x:Int):cf (r++[x]) r.length=x:=by rw[ke (Fg _),GZ];rfl
theorem kH:Tr []:=λn h=>by simp at h
theorem tr_snoc{r:List Int}{x:Int}:Tr (r++[x])↔x≠0:=by
 constructor
 ·intro h;have:=h r.length (by simp)
  rwa [ga]at this
 ·intro h n hn;have e:n=r.length:=by simp at hn;omega
  subst e
  rwa [ga]
theorem i5:∀(n:Nat) (l:List Int),l.length=n->Tr (trim l)/\(trim l).length<=l.length/\∀k,cf (trim l) k=cf l k
 |0,l,h=>by have:l=[]:=Gd.mp h;subst this;exact⟨kH,Fg _,λ_=>rfl⟩
 |n+1,l,h=>by
  rcases bX l with rfl |⟨r,x,rfl⟩
  ·simp at h
  ·by_cases hx:x=0
   ·subst hx;obtain⟨h1,h2,h3⟩:=i5 n r (by simpa using h);rw[i6];refine⟨h1,by rw[Fd];exact Fu h2 (Nat.le_add_right _ _),λk=>?_⟩;rw[h3];by_cases hk:k<r.length
    ·rw[kf hk]
    ·rw[ke (GW hk),aT (GW hk)];cases e:k-r.length with
     |zero=>rfl
     |succ j=>rw[j9,b6]
   ·rw[ij r hx];exact⟨tr_snoc.mpr hx,Fg _,λ_=>rfl⟩
theorem dw(l:List Int):Tr (trim l):=(i5 _ l rfl).1
theorem jS(l:List Int):(trim l).length<=l.length:=(i5 _ l rfl).2.1
theorem d9(l:List Int)(k:Nat):cf (trim l) k=cf l k:=(i5 _ l rfl).2.2 k
theorem wH{l:List Int}(h:Tr l):trim l=l:=by
 rcases bX l with rfl |⟨r,x,rfl⟩
 ·rfl
 ·exact ij r (tr_snoc.mp h)
theorem jY{a b:List Int}(ha:Tr a)(hb:Tr b)(h:∀k,cf a k=cf b k):a=b:=by
 have le:∀{a b:List Int},Tr a->(∀k,cf a k=cf b k)->a.length<=b.length:=λ{a b} ha h=>by
  cases e:a.length with
  |zero=>exact Fj _
  |succ n =>apply Classical.byContradiction;intro hn;exact ha n e (by rw[h n,aT (by omega)])
 have hl:a.length=b.length:=Nat.le_antisymm (le ha h) (le hb λk=>(h k).symm);exact cL hl λk _=>h k
theorem kG{l:List Int}{n:Nat}(hn:n<l.length)(h:cf l n=0):trim (l.take (n+1))=trim (l.take n):=by rw[Gj,dX hn,h];exact i6 _
theorem pQ{l:List Int}{n:Nat}(hn:n<l.length)(h:cf l n≠0):trim (l.take (n+1))=l.take (n+1):=by rw[Gj,dX hn];exact ij _ h
noncomputable def cE(f:Int)(a b:List Int):List Int:=(List.range (max a.length b.length)).map λk=>cf a k+f*cf b k
theorem fC(f:Int)(a b:List Int)(k:Nat):cf (cE f a b) k=cf a k+f*cf b k:=by
 unfold cE;rw[fB];by_cases h:k<max a.length b.length
 ·rw[if_pos h]
 ·have h1:a.length<=k:=by omega
  have h2:b.length<=k:=by omega
  rw[if_neg h,aT h1,aT h2];simp
noncomputable def bP(a b:List Int):List Int:=trim (cE (-1) a b)
noncomputable def tm(a b:List Int)(n i:Nat):Int:=if i<=n then cf a i*cf b (n-i)else 0
noncomputable def sm(a b:List Int)(n:Nat):Nat->Int
 |0=>0
 |j+1=>sm a b n j+tm a b n j
noncomputable def ak(a b:List Int)(n:Nat):Int:=sm a b n a.length
noncomputable def ac(a b:List Int):List Int:=if a=[]\/b=[]then[]else(List.range (a.length+b.length-1)).map (ak a b)
theorem wN{a b:List Int}{n i:Nat}(h:a.length<=i):tm a b n i=0:=by
 unfold tm;split
 ·rw[aT h,FY]
 ·rfl
theorem i7{a b:List Int}{n i:Nat}(h:b.length<=n-i):tm a b n i=0:=by
 unfold tm;split
 ·rw[aT h,Fp]
 ·rfl
theorem io{a b:List Int}{n:Nat}:∀{j:Nat},(∀i,i<j->tm a b n i=0)->sm a b n j=0
 |0,_=>rfl
 |j+1,h=>by rw[sm,io λi hi=>h i (Nat.lt_succ_of_lt hi),h j (GK _)];rfl
theorem tU{a b:List Int}{n:Nat}(h:a.length+b.length<=n+1):ak a b n=0:=by apply io;intro i hi;exact i7 (by omega)
theorem jH{a b:List Int}{la lb:Nat}(ha:a.length=la+1)(hb:b.length=lb+1):ak a b (la+lb)=cf a la*cf b lb:=by unfold ak;rw[ha,sm,io λi hi=>i7 (by omega)];unfold tm;rw[if_pos (Nat.le_add_right _ _),HU,GN]
theorem ap(a b:List Int)(n:Nat):cf (ac a b) n=ak a b n:=by
 unfold ac;by_cases h:a=[]\/b=[]
 ·rw[if_pos h,b6]
  symm
  apply io;intro i hi;rcases h with rfl |rfl
  ·simp at hi
  ·exact i7 (Fj _)
 ·rw[if_neg h,fB];by_cases hn:n<a.length+b.length-1
  ·rw[if_pos hn]
  ·rw[if_neg hn,tU (by omega)]
theorem fJ{a b:List Int}(ha:Tr a)(hb:Tr b):Tr (ac a b):=by
 intro n hn;rw[ap];by_cases h:a=[]\/b=[]
 ·unfold ac at hn;rw[if_pos h]at hn;simp at hn
 ·have h1:a≠[]:=λz=>h (.inl z)
  have h2:b≠[]:=λz=>h (.inr z)
  obtain⟨la,ea⟩:∃la,a.length=la+1:=⟨a.length-1,by have:=Fh.mpr h1;omega⟩;obtain⟨lb,eb⟩:∃lb,b.length=lb+1:=⟨b.length-1,by have:=Fh.mpr h2;omega⟩;unfold ac at hn
  rw[if_neg h,Fc,Gk]at hn;have e:n=la+lb:=by omega
  subst e;rw[jH ea eb];exact Ft (ha la ea) (hb lb eb)
theorem AJ{a b acc:List Int}{j k:Nat}(hj:j<a.length)(hk:k<b.length)(hl:j+k<acc.length)
 (h:∀n,n<acc.length->cf acc n=sm a b n j+(if j<=n/\n-j<k then tm a b n j else 0)) :
 ∀n,n<(acc.set (j+k) (cf acc (j+k)+cf a j*cf b k)).length->cf (acc.set (j+k) (cf acc (j+k)+cf a j*cf b k)) n=sm a b n j+(if j<=n/\n-j<k+1 then tm a b n j else 0):=by
 intro n hn;rw[Gr]at hn;rw[fz hl];by_cases e:n=j+k
 ·subst e;rw[if_pos rfl,h _ hl,if_neg (by omega),if_pos ⟨by omega,by omega⟩];unfold tm;rw[if_pos (by omega),HU,FT]
 ·rw[if_neg e,h n hn]
  congr 1
  by_cases h1:j<=n/\n-j<k
  ·rw[if_pos h1,if_pos ⟨h1.1,by omega⟩]
  ·rw[if_neg h1,if_neg (by omega)]
theorem AL{a b acc:List Int}{j:Nat}(h:∀n,n<acc.length->cf acc n=sm a b n j+(if j<=n/\n-j<b.length then tm a b n j else 0)):∀n,n<acc.length->cf acc n=sm a b n (j+1):=by
 intro n hn;rw[h n hn,sm]
 congr 1
 by_cases h1:j<=n/\n-j<b.length
 ·rw[if_pos h1]
 ·rw[if_neg h1];by_cases h2:j<=n
  ·rw[i7 (by omega)]
  ·unfold tm;rw[if_neg h2]
theorem AK{a b acc:List Int}{j:Nat}(h:∀n,n<acc.length->cf acc n=sm a b n j):∀n,n<acc.length->cf acc n=sm a b n j+(if j<=n/\n-j<0 then tm a b n j else 0):=by intro n hn;rw[if_neg (by omega),FT];exact h n hn
theorem AM{a b acc:List Int}(hl:a.length+b.length<=acc.length+1)(h:∀n,n<acc.length->cf acc n=sm a b n a.length)(n:Nat):cf acc n=ak a b n:=by
 by_cases hn:n<acc.length
 ·exact h n hn
 ·rw[aT (GW hn),tU (by omega)]
theorem xb(a b:List Int):trim ((List.range (max a.length b.length)).map λk=>cf a k-cf b k)=bP a b:=by
 unfold bP cE
 congr 2;funext k;omega
noncomputable def dv(t b:Int):Int:=if b<0 then -((Nat.gcd t.natAbs b.natAbs:Nat):Int)else((Nat.gcd t.natAbs b.natAbs:Nat):Int)
noncomputable def rt(t b:Int):Int:=t.fdiv (dv t b)
noncomputable def rb(t b:Int):Int:=b.fdiv (dv t b)
theorem om{t b:Int}(hb:b≠0):0<Nat.gcd t.natAbs b.natAbs:=Nat.gcd_pos_of_pos_right _ (Gm.mpr hb)
theorem j1{t b:Int}(hb:b≠0):dv t b≠0:=by have:=@om t b hb;unfold dv;split<;>omega
theorem iR(t b:Int):(dv t b).natAbs=Nat.gcd t.natAbs b.natAbs:=by unfold dv;split<;>omega
theorem Cu(t b:Int):dv t b∣t:=Int.natAbs_dvd_natAbs.mp (by rw[iR];exact G7 _ _)
theorem Ct(t b:Int):dv t b∣b:=Int.natAbs_dvd_natAbs.mp (by rw[iR];exact Ho _ _)
theorem uH{a d:Int}(hd:d≠0)(h:d∣a):d*a.fdiv d=a:=by obtain⟨c,rfl⟩:=h;rw[Int.mul_fdiv_cancel_left c hd]
theorem mL{t b:Int}(hb:b≠0):dv t b*rt t b=t:=uH (j1 hb) (Cu t b)
theorem jx{t b:Int}(hb:b≠0):dv t b*rb t b=b:=uH (j1 hb) (Ct t b)
theorem yu{t b:Int}(hb:b≠0):0<rb t b:=by
 have h1:=@jx t b hb;have h2:=@om t b hb;by_cases hn:b<0
 ·have hd:dv t b<0:=by unfold dv;rw[if_pos hn];omega
  apply Classical.byContradiction;intro h;have:0<=dv t b*rb t b:=HX (FB hd) (by omega);omega
 ·have hd:0<dv t b:=by unfold dv;rw[if_neg hn];omega
  apply Classical.byContradiction;intro h;have:dv t b*rb t b<=0:=Int.mul_nonpos_of_nonneg_of_nonpos (FB hd) (by omega);omega
theorem yB{t b:Int}(hb:b≠0):Nat.gcd (rt t b).natAbs (rb t b).natAbs=1:=by
 have h1:t.natAbs=Nat.gcd t.natAbs b.natAbs*(rt t b).natAbs:=by rw[<- iR,<- Fs,mL hb]
 have h2:b.natAbs=Nat.gcd t.natAbs b.natAbs*(rb t b).natAbs:=by rw[<- iR,<- Fs,jx hb]
 have hp:=@om t b hb
 have e:Nat.gcd t.natAbs b.natAbs=Nat.gcd t.natAbs b.natAbs*Nat.gcd (rt t b).natAbs (rb t b).natAbs:=by rw[<- Nat.gcd_mul_left,<- h1,<- h2]
 exact(Nat.eq_of_mul_eq_mul_left hp (by rw[Nat.mul_one];exact e)).symm
theorem yC{t b:Int}(hb:b≠0):rt t b*b=t*rb t b:=by
 have e1:=@mL t b hb;have e2:=@jx t b hb
 calc rt t b*b=rt t b*(dv t b*rb t b):=by rw[e2]
  _=(dv t b*rt t b)*rb t b:=by rw[<- FM,FO (rt t b)]
  _=t*rb t b:=by rw[e1]
noncomputable def sg(x:Int):Int:=if x<0 then -1 else if 0<x then 1 else 0
theorem xH(x:Int):sg (-x) = -sg x:=by unfold sg;split<;>split<;>(try split)<;>(try split)<;>omega
theorem lh{x p:Int}(hp:0<p):sg (x*p)=sg x:=by
 unfold sg;by_cases h1:x<0
 ·rw[if_pos h1,if_pos (HY h1 hp)]
 ·by_cases h2:0<x
  ·have:=FD h2 hp;rw[if_neg h1,if_pos h2,if_neg (by omega),if_pos this]
  ·obtain rfl:x=0:=by omega
   simp
noncomputable def hv(t b:Int):List Int->Int
 | []=>0
 |v::l=>v*b^(l.length+1)+t*hv t b l
theorem uu(t b:Int):hv t b []=0:=rfl
theorem di(t b v:Int)(l:List Int):hv t b (v::l)=v*b^(l.length+1)+t*hv t b l:=rfl
noncomputable def mb(a b:Int):Int->List Int->List Int
 |c,[]=>[c]
 |c,x::l=>(-a*x+c)::mb a b (b*x) l
theorem vA(x y:Int)(k:Nat):cf [x,y] k=if k=0 then x else if k=1 then y else 0:=by
 rcases k with _ |_ |k
 ·rfl
 ·rfl
 ·rw[if_neg (by omega),if_neg (by omega)];exact aT (by simp)
theorem yS{g:Int}(h:0<g)(n:Nat):0<g^n:=by
 induction n with
 |zero=>simp
 |succ n ih=>rw[Fw];exact FD ih h
def At(l:List Int)(t b top bot:Int):Prop:=hv t b l*bot=top*b^l.length
theorem At.sign{l:List Int}{t b top bot:Int}(hb:0<b)(hbot:0<bot)(h:At l t b top bot):sg (hv t b l)=sg top:=by
 unfold At at h
 rw[<- lh (x:=hv t b l) hbot,h,lh (yS hb _)]
theorem iP(t u c:Int):hv t u [c]=c*u:=by show c*u^1+t*0=c*u;grind
theorem Cy(t b:Int){l:List Int}{n:Nat}(h:n<l.length):hv t b (l.drop n)=cf l n*b^(l.length-n)+t*hv t b (l.drop (n+1)):=by
 rw[List.drop_eq_getElem_cons h,di,Hm,ce h];have e:l.length-(n+1)+1=l.length-n:=by omega
 rw[e]
noncomputable def lv(t b:Int):List Int->Int
 | []=>0
 |v::l=>v*b^l.length+t*lv t b l
theorem oi(t b:Int):∀l:List Int,hv t b l=b*lv t b l
 | []=>by show(0:Int)=b*0;simp
 |v::l=>by show v*b^(l.length+1)+t*hv t b l=b*(v*b^l.length+t*lv t b l);rw[oi t b l,Fw];generalize b^l.length=p;generalize lv t b l=x;grind
theorem Cw(t b:Int){l:List Int}{n:Nat}(h:n<l.length):lv t b (l.drop n)=cf l n*b^(l.length-(n+1))+t*lv t b (l.drop (n+1)):=by
 have e:l.drop n=cf l n::l.drop (n+1):=by rw[ce h];exact List.drop_eq_getElem_cons h
 rw[e];show cf l n*b^(l.drop (n+1)).length+_=_;rw[Hm]
noncomputable def chF(z:Int×Int)(s:Int):Int×Int:=(if s*z.2<0 then z.1+1 else z.1,if s=0 then z.2 else s)
noncomputable def chS(l:List Int):Int×Int:=l.foldl chF (0,0)
theorem oJ(l:List Int)(s:Int):chS (l++[s])=chF (chS l) s:=by unfold chS;rw[List.foldl_append];rfl
theorem rA(x:Int):sg x=0↔x=0:=by unfold sg;split<;>(try split)<;>omega
theorem rC(x:Int):(x<0/\sg x = -1)\/(x=0/\sg x=0)\/(0<x/\sg x=1):=by unfold sg;split<;>(try split)<;>omega
theorem vx:∀(n:Nat) (l:List Int),l.length=n->(∀s∈l,s.natAbs<=1)->(chS l).2.natAbs<=1/\0<=(chS l).1/\(chS l).1<=l.length
 |n,l,hn,h=>by
  rcases bX l with rfl |⟨r,s,rfl⟩
  ·decide
  ·have hr:r.length+1=n:=by rw[<- hn,Fd];rfl
   obtain⟨i1,i2,i3⟩:=vx (n-1) r (by omega) (λx hx=>h x (Gq _ hx));have hs:=h s (by simp);rw[oJ];unfold chF;refine⟨?_,?_,?_⟩
   ·dsimp only;split
    ·exact i1
    ·exact hs
   ·dsimp only;split<;>omega
   ·dsimp only;rw[Fd];show _<=((r.length+1:Nat):Int);split<;>omega
termination_by n=>n
theorem vy(l:List Int)(h:∀s∈l,s.natAbs<=1):(chS l).2.natAbs<=1/\0<=(chS l).1/\(chS l).1<=l.length:=vx _ l rfl h
theorem lg(x:Int):(sg x).natAbs<=1:=by unfold sg;split<;>(try split)<;>decide
theorem q5{q q' b:List Int}{c l:Int}{p n:Nat}(h:∀k,cf q' k=c*cf q k+(if k=p then l else 0)) :
 ∀j,sm q' b n j=c*sm q b n j+(if p<j/\p<=n then l*cf b (n-p)else 0)
 |0=>by rw[sm,sm,if_neg (by omega)];simp
 |j+1=>by
  rw[sm,sm,q5 h j];unfold tm;by_cases hj:j<=n
  ·rw[if_pos hj,if_pos hj,h j];by_cases e:j=p
   ·subst e;rw[if_pos rfl,if_neg (by omega),if_pos ⟨by omega,hj⟩];grind
   ·rw[if_neg e];by_cases h2:p<j/\p<=n
    ·rw[if_pos h2,if_pos ⟨by omega,h2.2⟩];grind
    ·rw[if_neg h2,if_neg (by omega)];grind
  ·rw[if_neg hj,if_neg hj];by_cases h2:p<j/\p<=n
   ·rw[if_pos h2,if_pos ⟨by omega,h2.2⟩];grind
   ·rw[if_neg h2,if_neg (by omega)];grind
theorem nK{q q' b:List Int}{c l:Int}{p n:Nat}(hl:q'.length=q.length)(hp:p<q.length)(h:∀k,cf q' k=c*cf q k+(if k=p then l else 0)) :
 ak q' b n=c*ak q b n+(if p<=n then l*cf b (n-p)else 0):=by
 unfold ak;rw[hl,q5 h];by_cases h2:p<=n
 ·rw[if_pos h2,if_pos ⟨hp,h2⟩]
 ·rw[if_neg h2,if_neg (by omega)]
noncomputable def scL(c:Int)(l:List Int):List Int:=l.map λx=>c*x
theorem aP(c:Int)(l:List Int):(scL c l).length=l.length:=by unfold scL;rw[Fc]
theorem aD(c:Int)(l:List Int)(k:Nat):cf (scL c l) k=c*cf l k:=by
 by_cases h:k<l.length
 ·unfold cf scL;simp[h]
 ·rw[aT (by rw[aP];omega),aT (by omega)];simp
noncomputable def fZ(r b:List Int)(p:Nat)(l:Int):List Int:=(List.range (r.length-1)).map λk=>cf r k-(if p<=k then l*cf b (k-p)else 0)
theorem ue(r b:List Int)(p:Nat)(l:Int):(fZ r b p l).length=r.length-1:=by unfold fZ;simp
theorem kd(r b:List Int)(p:Nat)(l:Int)(k:Nat):cf (fZ r b p l) k=if k<r.length-1 then cf r k-(if p<=k then l*cf b (k-p)else 0)else 0:=by unfold fZ;rw[fB]
theorem jj(x:Int):sg x*x=(x.natAbs:Int):=by unfold sg;split<;>(try split)<;>omega
noncomputable def cc(b:List Int)(z:List Int×List Int)(i:Nat):List Int×List Int :=
 let s:Int:=((cf b (b.length-1)).natAbs:Int)
 let l:=sg (cf b (b.length-1))*cf z.2 (z.2.length-1)
 ((scL s z.1).set i l,fZ (scL s z.2) b i l)
noncomputable def aL(a b:List Int):Nat->List Int×List Int
 |0=>(List.replicate (a.length+1-b.length) 0,a)
 |i+1=>cc b (aL a b i) (a.length+1-b.length-1-i)
structure DivInv(a b:List Int)(i:Nat):Prop where
 lq:(aL a b i).1.length=a.length+1-b.length
 lr:(aL a b i).2.length=a.length-i
 low:∀k,k+i<a.length+1-b.length->cf (aL a b i).1 k=0
 eqn:∀n,((cf b (b.length-1)).natAbs:Int)^i*cf a n=ak (aL a b i).1 b n+cf (aL a b i).2 n
theorem iJ{a b:List Int}{n:Nat}(h:∀k,cf a k=0):ak a b n=0:=by apply io;intro i _;unfold tm;rw[h i];simp
theorem CA{A B i:Nat}(hi:i+1<=A+1-B)(hb:0<B):∃p,A+1-B=p+i+1/\p+i+B=A:=⟨A-B-i,by omega,by omega⟩
theorem u8(p i:Nat):p<p+i+1:=Nat.lt_succ_of_le (Nat.le_add_right _ _)
theorem j5{P A C M R:Int}(en:P*A=M+R):P*C*A=C*M+C*R:=by rw[Int.mul_right_comm,en,FO,Int.mul_add]
theorem CB(x y z:Int):x+y=x+z+(y-z):=by omega
theorem f7{a b:List Int}(hb:b≠[]):∀i,i<=a.length+1-b.length->DivInv a b i
 |0,_=>⟨by simp[aL],by simp[aL],λk _=>by show cf (List.replicate _ 0) k=0;rw[fA],λn=>by
  show _=ak (List.replicate _ 0) b n+cf a n
  rw[iJ λk=>fA _ _];simp⟩
 |i+1,hi=>by
  obtain⟨lq,lr,low,eqn⟩:=f7 (a:=a) hb i (Nat.le_of_succ_le hi);have hbl:=Fh.mpr hb;have e:aL a b (i+1)=cc b (aL a b i) (a.length+1-b.length-1-i):=rfl;generalize aL a b i=z at e lq lr low eqn
  obtain⟨p,ep,ed⟩:=CA hi hbl;rw[ep,show p+i+1-1-i=p from Nat.add_sub_cancel _ _]at e;rw[ep]at lq low;have lz:z.2.length=p+b.length:=by rw[lr,<- ed,Nat.add_right_comm,Nat.add_sub_cancel]
  have hp:p<(scL ((cf b (b.length-1)).natAbs:Int) z.1).length:=by rw[aP,lq];exact u8 p i
  have hq:∀k,cf (cc b z p).1 k=((cf b (b.length-1)).natAbs:Int)*cf z.1 k+(if k=p then sg (cf b (b.length-1))*cf z.2 (z.2.length-1)else 0):=by
   intro k;unfold cc;dsimp only
   rw[fz hp,aD];by_cases h:k=p
   ·rw[if_pos h,if_pos h,low k (by rw[h];exact GK _)];simp
   ·rw[if_neg h,if_neg h];simp
  have hlq:(cc b z p).1.length=p+i+1:=by unfold cc;dsimp only;rw[Gr,aP,lq]
  refine⟨?_,?_,?_,?_⟩
  ·rw[e,hlq,ep]
  ·rw[e];unfold cc;dsimp only;rw[ue,aP,lr];rfl
  ·intro k hk;rw[ep]at hk;have hk':k<p:=by clear lq lr low eqn hp hq hlq lz e ep ed;omega
   rw[e,hq,if_neg (FL hk'),low k (Nat.lt_trans (Nat.add_lt_add_right hk' i) (GK _))];simp
  ·intro n;rw[e,nK (by rw[hlq,lq]) (by rw[lq];exact u8 p i) hq,Fw];have en:=eqn n;unfold cc;dsimp only
   rw[kd,aP,aD,lz];clear lq lr low eqn hp hq hlq e ep ed;by_cases h1:n<p+b.length-1
   ·rw[if_pos h1];by_cases h2:p<=n
    ·rw[if_pos h2,j5 en];exact CB _ _ _
    ·rw[if_neg h2,j5 en,FT,Int.sub_zero]
   ·rw[if_neg h1];have h2:p<=n:=by clear en;omega
    by_cases h3:n=p+b.length-1
    ·have h4:n-p=b.length-1:=by clear en;omega
     rw[if_pos h2,h4];have sg:=jj (cf b (b.length-1));rw[<- h3,j5 en,FT,Int.mul_right_comm,sg]
    ·have hc:cf z.2 n=0:=aT (by rw[lz];clear en;omega);rw[if_pos h2,aT (l:=b) (k:=n-p) (by clear en;omega),j5 en,hc,Fp,Fp,FT,FT]
theorem u3{a b:List Int}(hb:b≠[])(ha:Tr a)(hbt:Tr b):∀i,i+1<=a.length+1-b.length->cf (aL a b (i+1)).1 (a.length+1-b.length-1)≠0
 |0,h=>by
  obtain⟨lq,lr,_,_⟩:=f7 (a:=a) hb 0 (by omega);have hbl:=Fh.mpr hb;show cf (cc b (aL a b 0) _).1 _≠0;unfold cc;dsimp only
  rw[fz (by rw[aP,lq];omega),if_pos (by omega)];have hb1:=hbt (b.length-1) (by omega);have ha1:=ha (a.length-1) (by omega);refine Ft ?_ ?_
  ·unfold sg;split<;>(try split)<;>omega
  ·rw[lr];exact ha1
 |i+1,h=>by
  have ih:=u3 hb ha hbt i (by omega);obtain⟨lq,lr,_,_⟩:=f7 (a:=a) hb (i+1) (by omega);have hbl:=Fh.mpr hb;show cf (cc b (aL a b (i+1)) _).1 _≠0;unfold cc;dsimp only
  have hN:∀n,i+1+1<=n->¬n-1=n-1-(i+1):=λn hn e=>by omega
  rw[fz (by rw[aP,lq];omega),if_neg (hN _ h),aD];have hb1:=hbt (b.length-1) (by omega);refine Ft ?_ ih;omega
noncomputable def aW(a b:List Int):Nat:=a.length+1-b.length
noncomputable def aS(a b:List Int):Int:=((cf b (b.length-1)).natAbs:Int)^aW a b
noncomputable def bh(a b:List Int):List Int:=(aL a b (aW a b)).1
noncomputable def aF(a b:List Int):List Int:=trim (aL a b (aW a b)).2
theorem cW{a b:List Int}(hb:b≠[])(n:Nat):aS a b*cf a n=ak (bh a b) b n+cf (aF a b) n:=by unfold aF bh aS;rw[d9];exact(f7 hb (aW a b) (Fg _)).eqn n
theorem d4{a b:List Int}(hb:b≠[]):(aF a b).length<b.length:=by
 have h:=(f7 (a:=a) hb (aW a b) (Fg _)).lr;have h2:=jS (aL a b (aW a b)).2;have hbl:=Fh.mpr hb;unfold aF;unfold aW at *
 omega
theorem j3{a b:List Int}(hb:b≠[]):(bh a b).length=aW a b:=(f7 (a:=a) hb (aW a b) (Fg _)).lq
theorem Cz{a b:List Int}(hb:b≠[])(ha:Tr a)(hbt:Tr b):Tr (bh a b):=by
 intro n hn;rw[j3 hb]at hn;have h:=u3 hb ha hbt n (by unfold aW at hn;omega);unfold bh;rw[hn];have:a.length+1-b.length-1=n:=by unfold aW at hn;rw[hn];rfl
 rwa [this]at h
theorem cV(a b:List Int):Tr (aF a b):=dw _
theorem rd{a a' b b':List Int}{n:Nat}(h1:∀k,cf a k=cf a' k)(h2:∀k,cf b k=cf b' k):∀j,sm a b n j=sm a' b' n j
 |0=>rfl
 |j+1=>by rw[sm,sm,rd h1 h2 j];unfold tm;rw[h1 j,h2 (n-j)]
theorem q8{a b:List Int}{n:Nat}:∀d,sm a b n (a.length+d)=ak a b n
 |0=>rfl
 |d+1=>by rw[<- Nat.add_assoc,sm,q8 d,wN (by omega)];omega
theorem ip{a b:List Int}{n N:Nat}(h:a.length<=N):sm a b n N=ak a b n:=by obtain⟨d,rfl⟩:=Nat.exists_eq_add_of_le h;exact q8 d
theorem jI{a a' b b':List Int}{n:Nat}(h1:∀k,cf a k=cf a' k)(h2:∀k,cf b k=cf b' k):ak a b n=ak a' b' n:=by rw[<- ip (Nat.le_max_left a.length a'.length),<- ip (Nat.le_max_right a.length a'.length)];exact rd h1 h2 _
theorem qZ{a b c q:List Int}{x y:Int}{n:Nat}(h:∀k,cf c k=x*cf a k+y*cf b k):∀j,sm c q n j=x*sm a q n j+y*sm b q n j
 |0=>by simp[sm]
 |j+1=>by
  rw[sm,sm,sm,qZ h j];unfold tm;rw[h j];by_cases hj:j<=n
  ·rw[if_pos hj,if_pos hj,if_pos hj];grind
  ·rw[if_neg hj,if_neg hj,if_neg hj];grind
theorem cD{a b c q:List Int}{x y:Int}{n:Nat}(h:∀k,cf c k=x*cf a k+y*cf b k):ak c q n=x*ak a q n+y*ak b q n:=by
 have h1:a.length<=a.length+b.length+c.length:=by omega
 have h2:b.length<=a.length+b.length+c.length:=by omega
 have h3:c.length<=a.length+b.length+c.length:=by omega
 rw[<- ip h1,<- ip h2,<- ip h3];exact qZ h _
theorem qY{a b b':List Int}{c:Int}{n:Nat}(h:∀k,cf b' k=c*cf b k):∀j,sm a b' n j=c*sm a b n j
 |0=>by simp[sm]
 |j+1=>by
  rw[sm,sm,qY h j];unfold tm;rw[h (n-j)];by_cases hj:j<=n
  ·rw[if_pos hj,if_pos hj];grind
  ·rw[if_neg hj,if_neg hj];grind
theorem cU{a b b':List Int}{c:Int}{n:Nat}(h:∀k,cf b' k=c*cf b k):ak a b' n=c*ak a b n:=qY h _
theorem cw(c:Int)(l:List Int)(n:Nat):ak [c] l n=c*cf l n:=by unfold ak;show sm [c] l n 0+tm [c] l n 0=_;unfold sm tm;rw[if_pos (Fj _),oK,GO,GN]
theorem ny{l:List Int}(ht:Tr l)(h:∀k,cf l k=0):l=[]:=by
 refine Classical.byContradiction λhne=>?_
 have hl:=Fh.mpr hne;exact ht (l.length-1) (by omega) (h _)
theorem nG{d q:List Int}(hq:q≠[])(hqt:Tr q)(h:∀n,q.length<=n+1->ak d q n=0):∀k,cf d k=0:=by
 have e:trim d=[]:=by
  refine Classical.byContradiction λhne=>?_
  have hl:=Fh.mpr hne;have hql:=Fh.mpr hq;have ht:=dw d ((trim d).length-1) (by omega);have hb:=hqt (q.length-1) (by omega);have h1:=h ((trim d).length-1+(q.length-1)) (by omega);rw[<- jI (a:=trim d) (b:=q) (λk=>d9 d k) (λ_=>rfl),jH (la:=(trim d).length-1) (lb:=q.length-1) (by omega) (by omega)]at h1;exact Ft ht hb h1
 intro k;rw[<- d9,e,b6]
theorem f8{a b:List Int}(hb:b≠[])(hbt:Tr b):aS a b≠0:=by
 have hbl:=Fh.mpr hb;have h:=hbt (b.length-1) (by omega);have h1:((cf b (b.length-1)).natAbs:Int)≠0:=by omega
 unfold aS;generalize aW a b=n
 induction n with
 |zero=>rw[Gg];decide
 |succ n ih=>rw[Fw];exact Ft ih h1
noncomputable def dj(d:Nat)(l:List Int):Nat:=l.foldl (λd v=>Nat.gcd d v.natAbs) d
noncomputable def am(l:List Int):Nat:=dj 0 l
theorem BL(d:Nat):dj d []=d:=rfl
theorem BM(d:Nat)(v:Int)(l:List Int):dj d (v::l)=dj (Nat.gcd d v.natAbs) l:=rfl
theorem BK(d:Nat)(l:List Int)(v:Int):dj d (l++[v])=Nat.gcd (dj d l) v.natAbs:=by unfold dj;rw[List.foldl_append];rfl
theorem ux(l:List Int)(v:Int):am (l++[v])=Nat.gcd (am l) v.natAbs:=BK 0 l v
theorem uT{m:Nat}:∀{l:List Int} {d:Nat},m∣dj d l↔m∣d/\∀v∈l,m∣v.natAbs
 | [],d=>by simp[BL]
 |v::l,d=>by rw[BM,uT,Nat.dvd_gcd_iff];simp only[FC,forall_eq_or_imp];exact⟨λ⟨⟨a,b⟩,c⟩=>⟨a,b,c⟩,λ⟨a,b,c⟩=>⟨⟨a,b⟩,c⟩⟩
theorem dvd_gcdL{m:Nat}{l:List Int}:m∣am l↔∀v∈l,m∣v.natAbs:=by unfold am;rw[uT];exact⟨λh=>h.2,λh=>⟨Nat.dvd_zero m,h⟩⟩
theorem jX{l:List Int}{v:Int}(h:v∈l):am l∣v.natAbs:=dvd_gcdL.mp (Nat.dvd_refl _) v h
theorem BI(v:Int):am [v]=v.natAbs:=by show Nat.gcd 0 v.natAbs=_;exact Nat.gcd_zero_left _
theorem uw{a b:Int}(ha:0<=a)(hb:0<b):Nat.gcd b.natAbs (a%b).natAbs=Nat.gcd a.natAbs b.natAbs:=by
 have e:(a%b).natAbs=a.natAbs%b.natAbs:=by obtain⟨x,rfl⟩:=HB ha;obtain⟨y,rfl⟩:=HB (FB hb);rfl
 rw[e,Nat.gcd_comm,<- Nat.gcd_rec,Nat.gcd_comm]
noncomputable def ae(l:List Int):List Int:=l.map λx=>x/(am l:Int)
noncomputable def aJ(l:List Int):Int:=cf l (l.length-1)
theorem cu(r:List Int)(x:Int):aJ (r++[x])=x:=by unfold aJ;rw[Fd];exact ga r x
noncomputable def b7(l:List Int):List Int:=if aJ l<0 then l.map λx => -x else l
noncomputable def aw(l:List Int):List Int:=b7 (ae l)
theorem pR{c:Int->Int}(h0:∀x,c x=0↔x=0):∀(n:Nat) (l:List Int),l.length=n->trim (l.map c)=(trim l).map c
 |0,l,h=>by rw[Gd.mp h];rfl
 |n+1,l,h=>by
  rcases bX l with rfl |⟨r,x,rfl⟩
  ·rfl
  ·rw[Fk];show trim (r.map c++[c x])=_;by_cases hx:x=0
   ·subst hx;rw[(h0 0).mpr rfl,i6,i6];exact pR h0 n r (by simpa using h)
   ·rw[ij r hx,ij _ (λz=>hx ((h0 x).mp z)),Fk];rfl
def ie(l:List Int):Prop:=l=[]\/am l=1
theorem xy{l:List Int}(h:ie l):ae l=l:=by
 rcases h with rfl |h
 ·rfl
 ·unfold ae;rw[h]
  conv=>rhs;rw[<- GD l]
  apply FE;intro x _;show x/1=x;exact Int.ediv_one x
theorem BJ{l:List Int}{s:Int}(hs:s=1\/s = -1):am (l.map λx=>x*s)=am l:=by
 have key:∀m:Nat,m∣am (l.map λx=>x*s)↔m∣am l:=by
  intro m;rw[dvd_gcdL,dvd_gcdL]
  have e:∀x:Int,(x*s).natAbs=x.natAbs:=λx=>by
   rcases hs with rfl |rfl
   ·rw[Int.mul_one]
   ·rw[Int.mul_neg,Int.mul_one,Int.natAbs_neg]
  constructor
  ·intro h v hv;have:=h (v*s) (Fe.mpr ⟨v,hv,rfl⟩)
   rwa [e]at this
  ·intro h v hv;obtain⟨u,hu,rfl⟩:=Fe.mp hv;rw[e];exact h u hu
 exact Nat.dvd_antisymm ((key _).mp (Nat.dvd_refl _)) ((key _).mpr (Nat.dvd_refl _))
theorem yQ{l:List Int}(h:ie l):ie (l.map λx => -x):=by
 rcases h with rfl |h
 ·exact .inl rfl
 ·right
  have e:(l.map λx => -x)=l.map λx=>x*(-1):=by apply FE;intro x _;omega
  rw[e,BJ (.inr rfl),h]
theorem ug(l:List Int):aJ (l.map λx => -x) = -aJ l:=by
 rcases bX l with rfl |⟨r,x,rfl⟩
 ·rfl
 ·rw[Fk];show aJ (r.map _++[-x])=_;rw[cu,cu]
theorem yP{l:List Int}(h:ie l):ie (b7 l):=by
 unfold b7;split
 ·exact yQ h
 ·exact h
theorem wL{c:Int->Int}(h0:∀x,c x=0↔x=0){l:List Int}(h:Tr l):Tr (l.map c):=by rw[<- wH h,<- pR h0 _ l rfl];exact dw _
theorem wI{l:List Int}(h:Tr l):Tr (b7 l):=by
 unfold b7;split
 ·exact wL (λx=>by omega) h
 ·exact h
theorem uy(c:Int):∀(l:List Int) (d:Nat),dj (c.natAbs*d) (scL c l)=c.natAbs*dj d l
 | [],d=>rfl
 |v::l,d=>by show dj (Nat.gcd (c.natAbs*d) (c*v).natAbs) (scL c l)=c.natAbs*dj (Nat.gcd d v.natAbs) l;rw[Fs,Nat.gcd_mul_left,uy c l]
theorem oo(c:Int)(l:List Int):am (scL c l)=c.natAbs*am l:=by have h:=uy c l 0;rw[Nat.mul_zero]at h;exact h
theorem g9{l:List Int}{x:Int}(h:x∈l):(am l:Int)∣x:=G8.mpr (jX h)
theorem k8{c:Int}(hc:0<c)(l:List Int):ae (scL c l)=ae l:=by
 unfold ae;rw[oo];unfold scL;rw[Fz];refine FE λx _=>?_
 show c*x/((c.natAbs*am l:Nat):Int)=x/(am l:Int);have e:((c.natAbs*am l:Nat):Int)=c*(am l:Int):=by rw[Hq];congr 1;omega
 rw[e,Int.mul_ediv_mul_of_pos _ _ hc]
theorem xx{c:Int}(hc:c<0)(l:List Int):ae (scL c l)=(ae l).map λx => -x:=by
 unfold ae;rw[oo];unfold scL;rw[Fz,Fz];refine FE λx hx=>?_
 show c*x/((c.natAbs*am l:Nat):Int) = -(x/(am l:Int));have e:((c.natAbs*am l:Nat):Int)=(-c)*(am l:Int):=by rw[Hq];congr 1;omega
 have e2:c*x=(-c)*(-x):=by rw[Int.neg_mul_neg]
 rw[e,e2,Int.mul_ediv_mul_of_pos _ _ (by omega:0 < -c),Int.neg_ediv_of_dvd (g9 hx)]
theorem yU{m:List Int}(h:Tr m):b7 (m.map λx => -x)=b7 m:=by
 rcases bX m with rfl |⟨r,x,rfl⟩
 ·rfl
 have hx:x≠0:=tr_snoc.mp h;have h1:=ug (r++[x]);rw[cu]at h1;unfold b7;rw[h1,cu];by_cases hn:x<0
 ·rw[if_neg (by omega),if_pos hn]
 ·rw[if_pos (by omega),if_neg hn,Fz];rw[show((λx:Int => -x) ∘ λx:Int => -x)=id from by funext y;simp];exact GD _
theorem c8{l:List Int}(h:Tr l):Tr (ae l):=by
 intro n hn;have hl:l.length=n+1:=by rw[<- hn];unfold ae;rw[Fc]
 have hx:=h n hl;have hm:cf l n∈l:=by rw[ce (by omega)];exact Gs _
 have e:cf (ae l) n=cf l n/(am l:Int):=by
  have h1:n<l.length:=by omega
  unfold ae cf;simp[List.getD,h1]
 rw[e];intro z;have d:=g9 hm;have:=Int.mul_ediv_cancel' d;rw[z,Fp]at this;exact hx this.symm
theorem ni{c:Int}(hc:c≠0){l:List Int}(h:Tr l):aw (scL c l)=aw l:=by
 unfold aw;by_cases hp:0<c
 ·rw[k8 hp]
 ·rw[xx (by omega),yU (c8 h)]
theorem cP{c:Int}(hc:c≠0){l:List Int}(h:Tr l):Tr (scL c l):=by intro n hn;rw[aP]at hn;rw[aD];exact Ft hc (h n hn)
theorem nh{a b:List Int}{x y:Int}(hx:x≠0)(hy:y≠0)(ha:Tr a)(hb:Tr b)(h:∀k,x*cf a k=y*cf b k):aw a=aw b:=by
 have e:scL x a=scL y b:=jY (cP hx ha) (cP hy hb) λk=>by rw[aD,aD,h k]
 rw[<- ni hx ha,e,ni hy hb]
noncomputable def slopeL(l:List Int):List Int:=(List.range (l.length-1)).map λ(k:Nat)=>((k:Int)+1)*cf l (k+1)
noncomputable def lc(l:List Int)(m n:Nat):Int:=if n%m=0 then cf l (n/m)else 0
noncomputable def lp(l:List Int)(m i n:Nat):Int:=if n%m=0/\n/m<i then cf l (n/m)else 0
noncomputable def rst(one other:List Int):List Int:=if other=[]then[]else aF one other
noncomputable def nxt(one other:List Int):List Int:=ae (bP [] (rst one other))
noncomputable def aI:Nat->List Int->List Int->List (List Int)
 |0,_,_=>[]
 |n+1,one,other=>if one=[]then[]else one::aI n other (nxt one other)
theorem gG(n:Nat)(o:List Int):aI n [] o=[]:=by cases n with |zero=>rfl |succ n=>show(if([]:List Int)=[]then _ else _)=_;rw[if_pos rfl]
theorem ik{r:List Int}(h:Tr r):bP [] r=scL (-1) r:=by
 refine jY (dw _) (cP (by decide) h) λk=>?_
 unfold bP;rw[d9,fC,aD,b6];omega
theorem mP{xs ys r q:List Int}{f:Int}(hy:ys≠[])(hyt:Tr ys)(hr:r.length<ys.length)(h:∀n,f*cf xs n=ak q ys n+cf r n):∀n,f*cf (aF xs ys) n=aS xs ys*cf r n:=by
 have key:∀n,ak (cE (-(aS xs ys)) (scL f (bh xs ys)) q) ys n=aS xs ys*cf r n-f*cf (aF xs ys) n:=by intro n;rw[cD (a:=bh xs ys) (b:=q) (x:=f) (y := -(aS xs ys)) (λk=>by rw[fC,aD])];have h1:=cW (a:=xs) hy n;have h2:=h n;grind
 have z:=nG hy hyt (d:=cE (-(aS xs ys)) (scL f (bh xs ys)) q) (λn hn=>by rw[key,aT (l:=aF xs ys) (by have:=d4 (a:=xs) hy;omega),aT (l:=r) (by omega)];simp)
 intro n;have hk:=key n;rw[iJ z]at hk;omega
theorem j4{a b:List Int}(hb:b≠[])(hbt:Tr b):0<aS a b:=by
 have h:=f8 (a:=a) hb hbt
 have h2:0<=aS a b:=by
  unfold aS;generalize aW a b=n
  induction n with
  |zero=>rw[Gg];decide
  |succ n ih=>rw[Fw];exact FZ ih (Hr _)
 omega
theorem rq{a b:List Int}{x y:Int}(hx:0<x)(hy:0<y)(ha:Tr a)(hb:Tr b)(h:∀k,x*cf a k=y*cf b k):ae a=ae b:=by
 have e:scL x a=scL y b:=jY (cP (Gc hx) ha) (cP (Gc hy) hb) λk=>by rw[aD,aD,h k]
 rw[<- k8 hx a,e,k8 hy b]
theorem Ax{xs ys r q:List Int}{f:Int}(hf:0<f)(hy:ys≠[])(hyt:Tr ys)(hr:r.length<ys.length)(hrt:Tr r)(h:∀n,f*cf xs n=ak q ys n+cf r n):nxt xs ys=ae (scL (-1) r):=by
 unfold nxt rst;rw[if_neg hy,ik (cV _ _)];refine rq hf (j4 (a:=xs) hy hyt) (cP (by decide) (cV _ _)) (cP (by decide) hrt) λk=>?_
 rw[aD,aD];have:=mP hy hyt hr h k;grind
theorem rL{n:Nat}{one:List Int}(h:one≠[])(hn:0<n):aI n one []=[one]:=by obtain⟨m,rfl⟩:∃m,n=m+1:=⟨n-1,by omega⟩;show(if one=[]then[]else one::aI m [] (nxt one []))=_;rw[if_neg h,gG]
noncomputable def Ends:Nat->List Int->List Int->Prop
 |0,one,_=>one=[]
 |n+1,one,other=>one=[]\/Ends n other (nxt one other)
noncomputable def gr(B:Nat):Nat->Nat
 |0=>B
 |1=>2*B
 |k+2=>2*gr B (k+1)+gr B k
theorem BD(B:Nat):∀k,gr B k<=gr B (k+1)
 |0=>by show B<=2*B;omega
 |k+1=>by show gr B (k+1)<=2*gr B (k+1)+gr B k;omega
theorem dG(B:Nat){j k:Nat}(h:j<=k):gr B j<=gr B k:=by
 induction h with
 |refl=>exact Fg _
 |step _ ih=>exact Fu ih (BD B _)
theorem ol(B j:Nat):∀d,gr B j+(d+2)*gr B (j+1)<=gr B (j+2+d)
 |0=>by show gr B j+2*gr B (j+1)<=2*gr B (j+1)+gr B j;omega
 |d+1=>by
  have ih:=ol B j d
  have e:gr B (j+2+(d+1))=2*gr B (j+2+d)+gr B (j+1+d):=by
   have:j+2+(d+1)=(j+1+d)+2:=by omega
   rw[this];show 2*gr B (j+1+d+1)+gr B (j+1+d)=_;have e2:j+1+d+1=j+2+d:=by omega
   rw[e2]
  have hm:gr B (j+1)<=gr B (j+1+d):=dG B (by omega);rw[e,Nat.add_mul]at *;have e3:(d+1)*gr B (j+1)=d*gr B (j+1)+gr B (j+1):=by rw[Nat.add_mul,Nat.one_mul]
  omega
noncomputable def up(f:Nat->Int)(n:Nat):Int:=if n=0 then 0 else f (n-1)
theorem ra(x:Int)(a b:List Int)(n:Nat):∀j,sm (x::a) b n (j+1)=x*cf b n+(if n=0 then 0 else sm a b (n-1) j)
 |0=>by
  show 0+tm (x::a) b n 0=_;unfold tm;rw[if_pos (Fj _)];rw[oK,GO];by_cases h:n=0
  ·rw[if_pos h];omega
  ·rw[if_neg h];show _=_+0;omega
 |j+1=>by
  show sm (x::a) b n (j+1)+tm (x::a) b n (j+1)=_;rw[ra x a b n j];by_cases h:n=0
  ·rw[if_pos h,if_pos h];unfold tm;rw[if_neg (by omega)];omega
  ·rw[if_neg h,if_neg h];show _=_+(sm a b (n-1) j+tm a b (n-1) j)
   have e:tm (x::a) b n (j+1)=tm a b (n-1) j:=by
    unfold tm;rw[j9];by_cases h2:j+1<=n
    ·rw[if_pos h2,if_pos (by omega)]
     congr 2;omega
    ·rw[if_neg h2,if_neg (by omega)]
   rw[e];omega
theorem cI(x:Int)(a b:List Int)(n:Nat):ak (x::a) b n=x*cf b n+up (ak a b) n:=ra x a b n a.length
theorem df(b:List Int)(n:Nat):ak [] b n=0:=rfl
theorem oN(x:Int)(a:List Int)(n:Nat):cf (x::a) n=(if n=0 then x else 0)+up (cf a) n:=by
 cases n with
 |zero=>show x=x+0;omega
 |succ n=>show cf a n=0+cf a n;omega
theorem nL(y:Int)(b:List Int):∀(a:List Int) (n:Nat),ak a (y::b) n=y*cf a n+up (ak a b) n
 | [],n=>by
  rw[df,b6];unfold up;split
  ·simp
  ·rw[df];simp
 |x::a,n=>by
  rw[cI,oN,oN];cases n with
  |zero =>show x*(y+0)+0=y*(x+0)+0;simp only[FT];exact FO _ _
  |succ n =>show x*(0+cf b n)+ak a (y::b) n=y*(0+cf a n)+ak (x::a) b n;rw[nL y b a n,cI];simp only[GN];omega
theorem nI:∀(a:List Int) (n:Nat),ak a [] n=0
 | [],n=>rfl
 |x::a,n=>by
  rw[cI,b6];unfold up;split
  ·simp
  ·rw[nI a];simp
theorem cJ:∀(a b:List Int) (n:Nat),ak a b n=ak b a n
 | [],b,n=>by rw[nI];rfl
 |x::a,b,n=>by
  rw[cI,nL]
  congr 1
  unfold up;split
  ·rfl
  ·exact cJ a b _
theorem nJ{a b c q:List Int}{x y:Int}{n:Nat}(h:∀k,cf c k=x*cf a k+y*cf b k):ak q c n=x*ak q a n+y*ak q b n:=by rw[cJ q c,cD h,cJ q a,cJ q b]
theorem ka(a:List Int)(n:Nat):cf (0::a) n=up (cf a) n:=by rw[oN];split<;>omega
theorem tN(a b:List Int)(n:Nat):ak (0::a) b n=up (ak a b) n:=by rw[cI];omega
theorem gW:∀(a b c:List Int) (n:Nat),ak (ac a b) c n=ak a (ac b c) n
 | [],b,c,n=>by rw[df,iJ λk=>by rw[ap,df]]
 |x::a,b,c,n=>by
  rw[cI,ap]
  have e:∀k,cf (ac (x::a) b) k=x*cf b k+1*cf (0::ac a b) k:=λk=>by
   rw[ap,cI,ka,FF]
   congr 1
   unfold up;split
   ·rfl
   ·rw[ap]
  rw[cD e,tN,FF]
  congr 1
  unfold up;split
  ·rfl
  ·exact gW a b c _
def Dv(d p:List Int):Prop:=∃(c:Int) (q:List Int),c≠0/\∀n,c*cf p n=ak q d n
theorem Dv.refl(d:List Int):Dv d d:=⟨1,[1],by decide,λn=>by rw[cw]⟩
theorem Dv.nil(d:List Int):Dv d []:=⟨1,[],by decide,λn=>by rw[b6,df];rfl⟩
theorem Dv.trans{d e p:List Int}(h1:Dv d e)(h2:Dv e p):Dv d p:=by obtain⟨c1,q1,hc1,e1⟩:=h1;obtain⟨c2,q2,hc2,e2⟩:=h2;refine⟨c1*c2,ac q2 q1,Ft hc1 hc2,λn=>?_⟩;rw[gW,FM,e2,<- cU (b':=ac q1 d) (λk=>by rw[ap,e1])]
theorem Dv.up{d a b r q:List Int}{f:Int}(hf:f≠0)(h:∀n,f*cf a n=ak q b n+cf r n)(hb:Dv d b)(hr:Dv d r):Dv d a:=by obtain⟨c1,q1,hc1,e1⟩:=hb;obtain⟨c2,q2,hc2,e2⟩:=hr;refine⟨c1*c2*f,cE c1 (scL c2 (ac q q1)) q2,Ft (Ft hc1 hc2) hf,λn=>?_⟩;rw[cD (a:=ac q q1) (b:=q2) (x:=c2) (y:=c1) (λk=>by rw[fC,aD]),gW,<- e2,cU (b:=b) (b':=ac q1 d) (c:=c1) (λk=>by rw[ap,e1])];have:=h n;grind
theorem Dv.down{d a b r q:List Int}{f:Int}(h:∀n,f*cf a n=ak q b n+cf r n)(ha:Dv d a)(hb:Dv d b):Dv d r:=by obtain⟨c1,q1,hc1,e1⟩:=ha;obtain⟨c2,q2,hc2,e2⟩:=hb;refine⟨c1*c2,cE (-c1) (scL (f*c2) q1) (ac q q2),Ft hc1 hc2,λn=>?_⟩;rw[cD (a:=q1) (b:=ac q q2) (x:=f*c2) (y := -c1) (λk=>by rw[fC,aD]),gW,<- e1,cU (b:=b) (b':=ac q2 d) (c:=c2) (λk=>by rw[ap,e2])];have:=h n;grind
theorem Dv.prop_right{d p p':List Int}{x y:Int}(hx:x≠0)(h:∀n,x*cf p' n=y*cf p n)(hd:Dv d p):Dv d p':=by obtain⟨c,q,hc,e⟩:=hd;refine⟨c*x,scL y q,Ft hc hx,λn=>?_⟩;rw[cD (a:=q) (b:=[]) (x:=y) (y:=0) (λk=>by rw[aD];simp),<- e];have:=h n;grind
theorem Dv.prop_left{d d' p:List Int}{x y:Int}(hx:x≠0)(hy:y≠0)(h:∀n,x*cf d' n=y*cf d n)(hd:Dv d p):Dv d' p :=
 Dv.trans (Dv.prop_right hy (λn=>(h n).symm) (Dv.refl d')) hd
theorem fV{l:List Int}(h:Tr l):∃g:Int,g≠0/\∀n,cf l n=g*cf (aw l) n:=by
 by_cases hl:l=[]
 ·subst hl;exact⟨1,by decide,λn=>by rw[b6];show 0=1*cf [] n;rw[b6];rfl⟩
 have hg:(am l:Int)≠0:=by obtain⟨r,x,rfl⟩:=(bX l).resolve_left hl;have hx:x≠0:=tr_snoc.mp h;have h1:0<am (r++[x]):=Nat.pos_of_dvd_of_pos (jX (by simp:x∈r++[x])) (Gm.mpr hx);omega
 have e1:∀n,cf l n=(am l:Int)*cf (ae l) n:=λn=>by
  unfold ae;by_cases hn:n<l.length
  ·rw[ce hn,ce (by rw[Fc];exact hn),List.getElem_map];exact(Int.mul_ediv_cancel' (g9 (Gs hn))).symm
  ·rw[aT (by omega),aT (by rw[Fc];omega),Fp]
 unfold aw b7;split
 ·refine⟨-(am l:Int),by omega,λn=>?_⟩
  have e2:cf ((ae l).map λx => -x) n = -cf (ae l) n:=by
   by_cases hn:n<(ae l).length
   ·rw[ce hn,ce (by rw[Fc];exact hn),List.getElem_map]
   ·rw[aT (l:=ae l) (by omega),aT (l:=(ae l).map λx => -x) (by rw[Fc];omega)];rfl
  rw[e1,e2];grind
 ·exact⟨_,hg,e1⟩
theorem Dv.plain{d p:List Int}(hp:Tr p):Dv d (aw p)↔Dv d p:=by obtain⟨g,hg,e⟩:=fV hp;exact⟨λh=>Dv.prop_right (x:=1) (y:=g) (by decide) (λn=>by rw[e];omega) h,λh=>Dv.prop_right (x:=g) (y:=1) hg (λn=>by rw[<- e];omega) h⟩
theorem plain_len(l:List Int):(aw l).length=l.length:=by unfold aw b7 ae;split<;>simp
theorem gq{l:List Int}(h:Tr l):Tr (aw l):=wI (c8 h)
noncomputable def cM:Nat->List Int->List Int->List Int
 |0,one,_=>one
 |n+1,one,other=>if other=[]then one else cM n other (aw (aF one other))
theorem CM(n:Nat)(one:List Int):cM n one []=one:=by cases n<;>rfl
theorem CL{n:Nat}{one other:List Int}(h:other≠[]):cM (n+1) one other=cM n other (aw (aF one other)):=by show(if other=[]then one else cM n other (aw (aF one other)))=_;rw[if_neg h]
theorem vm:∀(n:Nat) (one other:List Int),other.length<=n->Tr one->Tr other->Tr (cM n one other)/\Dv (cM n one other) one/\Dv (cM n one other) other/\(∀d,Dv d one->Dv d other->Dv d (cM n one other))/\(one≠[]\/other≠[]->cM n one other≠[])/\(cM n one other=one\/cM n one other=other\/∃l,Tr l/\cM n one other=aw l)
 |n,one,[],_,t1,_=>by rw[CM];exact⟨t1,Dv.refl _,Dv.nil _,λd h _=>h,λh=>h.resolve_right λz=>z rfl,.inl rfl⟩
 |0,one,x::o,h,_,_=>absurd h (Nat.not_succ_le_zero _)
 |n+1,one,x::o,h,t1,t2=>by
  have hne:x::o≠[]:=λz=>nomatch z
  rw[CL hne];generalize x::o=other at h t2 hne
  have tr:=cV one other;have hl:=d4 (a:=one) hne;obtain⟨c1,c2,c3,c4,c5,c6⟩:=vm n other (aw (aF one other)) (by rw[plain_len];omega) t2 (gq tr);have eq:=λk=>cW (a:=one) hne k
  refine⟨c1,Dv.up (f8 (a:=one) hne t2) eq c2 ((Dv.plain tr).mp c3),c2,λd h1 h2=>c4 d h2 ((Dv.plain tr).mpr (Dv.down eq h1 h2)),λ_=>c5 (.inl hne),?_⟩;rcases c6 with e |e |e
  ·exact .inr (.inl e)
  ·exact .inr (.inr ⟨_,tr,e⟩)
  ·exact .inr (.inr e)
def Cop(a:List Int)(m:Nat):Prop:=∀k:Nat,k∣m->(∀n,(k:Int)∣cf a n)->k=1
theorem ot:∀(N:Nat) (a b:List Int) (m:Nat),a.length+b.length<=N->Cop a m->Cop b m->(∀n,(m:Int)∣ak a b n)->m=1
 |_,[],b,m,_,h1,_,_=>h1 m (Nat.dvd_refl _) λn=>by rw[b6];exact Int.dvd_zero _
 |_,_::_,[],m,_,_,h2,_=>h2 m (Nat.dvd_refl _) λn=>by rw[b6];exact Int.dvd_zero _
 |0,_::_,_::_,_,h,_,_,_=>absurd h (by simp)
 |N+1,x::a,y::b,m,h,h1,h2,h3=>by
  have d1:Nat.gcd m x.natAbs=1:=by
   refine ot N a (y::b) _ (by simp at h ⊢;omega) (λk hk hn=>h1 k (Hs hk (G7 _ _)) λn=>?_) (λk hk=>h2 k (Hs hk (G7 _ _))) λn=>?_
   ·cases n with
    |zero=>exact G8.mpr (Hs hk (Ho _ _))
    |succ n=>exact hn n
   ·have e:=cI x a (y::b) (n+1);have g1:((Nat.gcd m x.natAbs:Nat):Int)∣ak (x::a) (y::b) (n+1):=Int.dvd_trans (Int.ofNat_dvd.mpr (G7 _ _)) (h3 _);have g2:((Nat.gcd m x.natAbs:Nat):Int)∣x*cf (y::b) (n+1):=Int.dvd_mul_of_dvd_left (G8.mpr (Ho _ _))
    have e2:ak a (y::b) n=ak (x::a) (y::b) (n+1)-x*cf (y::b) (n+1):=by rw[e];show _=_+ak a (y::b) n-_;omega
    rw[e2];exact Int.dvd_sub g1 g2
  have d2:Nat.gcd m y.natAbs=1:=by
   refine ot N (x::a) b _ (by simp at h ⊢;omega) (λk hk=>h1 k (Hs hk (G7 _ _))) (λk hk hn=>h2 k (Hs hk (G7 _ _)) λn=>?_) λn=>?_
   ·cases n with
    |zero=>exact G8.mpr (Hs hk (Ho _ _))
    |succ n=>exact hn n
   ·have e:=nL y b (x::a) (n+1);have g1:((Nat.gcd m y.natAbs:Nat):Int)∣ak (x::a) (y::b) (n+1):=Int.dvd_trans (Int.ofNat_dvd.mpr (G7 _ _)) (h3 _);have g2:((Nat.gcd m y.natAbs:Nat):Int)∣y*cf (x::a) (n+1):=Int.dvd_mul_of_dvd_left (G8.mpr (Ho _ _))
    have e2:ak (x::a) b n=ak (x::a) (y::b) (n+1)-y*cf (x::a) (n+1):=by rw[e];show _=_+ak (x::a) b n-_;omega
    rw[e2];exact Int.dvd_sub g1 g2
  have h0:=h3 0;rw[cI]at h0
  have h0':m∣x.natAbs*y.natAbs:=by
   rw[<- Fs];refine G8.mp ?_
   have e:x*cf (y::b) 0+up (ak a (y::b)) 0=x*y:=by show x*y+0=x*y;omega
   rwa [e]at h0
  have h4:m∣y.natAbs:=Nat.Coprime.dvd_of_dvd_mul_left d1 h0';rw[Nat.gcd_eq_left h4]at d2;exact d2
theorem ua{l:List Int}{v:Int}(h:v∈l):∃n,n<l.length/\cf l n=v:=by obtain⟨n,hn,e⟩:=Hz h;exact⟨n,hn,by rw[ce hn,e]⟩
theorem vi{a:List Int}{m:Nat}(h:am a=1):Cop a m:=λk _ hn=>by
 have:k∣am a:=dvd_gcdL.mpr λv hv=>by obtain⟨n,_,rfl⟩:=ua hv;exact G8.mp (hn n)
 rw[h]at this;exact Nat.dvd_one.mp this
theorem yR{a b:List Int}(ha:am a=1)(hb:am b=1):am (ac a b)=1:=by
 refine ot _ a b _ (Fg _) (vi ha) (vi hb) λn=>?_
 rw[<- ap];by_cases hn:n<(ac a b).length
 ·rw[ce hn];exact g9 (Gs hn)
 ·rw[aT (by omega)];exact Int.dvd_zero _
structure Pln(l:List Int):Prop where
 tr:Tr l
 ne:l≠[]
 prim:am l=1
 pos:0<aJ l
theorem gY{l:List Int}(h:Tr l)(hne:l≠[]):aJ l≠0:=by have:=Fh.mpr hne;exact h (l.length-1) (by omega)
theorem Pln.plain{l:List Int}(h:Pln l):aw l=l:=by unfold aw;rw[xy (.inr h.prim)];unfold b7;rw[if_neg (by have:=h.pos;omega)]
theorem jh{l:List Int}:scL (am l:Int) (ae l)=l:=by unfold scL ae;rw[Fz];refine(FE (g:=id) λx hx=>?_).trans (GD _);exact Int.mul_ediv_cancel' (g9 hx)
theorem dD{l:List Int}(h:Tr l)(hne:l≠[]):Pln (aw l):=by
 have hg:0<am l:=by obtain⟨r,x,rfl⟩:=(bX l).resolve_left hne;have hx:x≠0:=tr_snoc.mp h;exact Nat.pos_of_dvd_of_pos (jX (by simp:x∈r++[x])) (Gm.mpr hx)
 have h1:am (ae l)=1:=by have e:=oo (am l:Int) (ae l);rw[jh,FU]at e;exact Nat.eq_of_mul_eq_mul_left hg (by rw[<- e,Nat.mul_one])
 have hs:ae l≠[]:=λz=>hne (by have:=congrArg List.length z;unfold ae at this;simpa using this)
 have hl:=gY (c8 h) hs
 have hp:am (aw l)=1:=by
  rcases yP (.inr h1:ie (ae l))with z |z
  ·exact absurd (congrArg List.length z) (by
    have:=plain_len l;unfold aw at this
    rw[this]
    exactλq=>hne (Gd.mp q))
  ·exact z
 refine⟨gq h,λz=>hne (Gd.mp (by rw[<- plain_len,z];rfl)),hp,?_⟩;unfold aw b7;split
 ·rw[ug];omega
 ·omega
theorem aX{a b:List Int}(ha:a≠[])(hb:b≠[]):(ac a b).length=a.length+b.length-1:=by unfold ac;rw[if_neg (λz=>z.elim ha hb),Fc,Gk]
theorem uf{a b:List Int}(ha:a≠[])(hb:b≠[]):aJ (ac a b)=aJ a*aJ b:=by
 have h1:=Fh.mpr ha;have h2:=Fh.mpr hb;unfold aJ;rw[aX ha hb,ap];have e:a.length+b.length-1-1=(a.length-1)+(b.length-1):=by omega
 rw[e,jH (by omega) (by omega)]
theorem Pln.mul{a b:List Int}(ha:Pln a)(hb:Pln b):Pln (ac a b):=by
 refine⟨fJ ha.tr hb.tr,λz=>?_,yR ha.prim hb.prim,by rw[uf ha.ne hb.ne];exact FD ha.pos hb.pos⟩;have h1:=Fh.mpr ha.ne;have h2:=Fh.mpr hb.ne;have:=aX ha.ne hb.ne;rw[z]at this;simp at this
 omega
theorem yW{p q d:List Int}{c:Int}(hc:c≠0)(hp:Tr p)(hpn:p≠[])(hq:Tr q)(hd:Pln d)(h:∀n,c*cf p n=ak q d n):ac (aw q) d=aw p:=by
 have hqn:q≠[]:=λz=>by have h1:=Fh.mpr hpn;have h2:=h (p.length-1);rw[z,df]at h2;exact Ft hc (hp (p.length-1) (by omega)) h2
 obtain⟨g,hg,e⟩:=fV hq;have hm:=(dD hq hqn).mul hd;rw[<- hm.plain];refine nh hg hc hm.tr hp λk=>?_
 rw[h,ap,cD (a:=aw q) (b:=[]) (x:=g) (y:=0) (c:=q) (λk=>by rw[e];simp),df];simp
theorem Dv.trim{d p:List Int}(h:Dv d p):∃(c:Int) (q:List Int),c≠0/\Tr q/\∀n,c*cf p n=ak q d n:=by obtain⟨c,q,hc,e⟩:=h;exact⟨c,RM.trim q,hc,dw q,λn=>by rw[e];exact(jI (λk=>d9 q k) λ_=>rfl).symm⟩
theorem Dv.fellow{d p:List Int}(hd:Pln d)(hp:Tr p)(hpn:p≠[])(h:Dv d p):∃q,Pln q/\ac q d=aw p:=by
 obtain⟨c,q,hc,hq,e⟩:=h.trim
 have hqn:q≠[]:=λz=>by have h1:=Fh.mpr hpn;have h2:=e (p.length-1);rw[z,df]at h2;exact Ft hc (hp (p.length-1) (by omega)) h2
 exact⟨aw q,dD hq hqn,yW hc hp hpn hq hd e⟩
theorem Pln.const{l:List Int}(h:Pln l)(h1:l.length=1):l=[1]:=by
 obtain⟨x,rfl⟩:∃x,l=[x]:=HC.mp h1;have h2:=h.prim;rw[BI]at h2;have h3:0<x:=h.pos;have:x=1:=by omega
 rw[this]
theorem one_mul(l:List Int)(h:Tr l):ac [1] l=l:=by
 refine jY (fJ (tr_snoc (r:=[]).mpr (by decide)) h) h λk=>?_
 rw[ap,cw];omega
theorem sT{a b:List Int}(ha:Pln a)(hb:Pln b)(h1:Dv a b)(h2:Dv b a):a=b:=by obtain⟨q,hq,e⟩:=h1.fellow ha hb.tr hb.ne;obtain⟨r,hr,e'⟩:=h2.fellow hb ha.tr ha.ne;rw[hb.plain]at e;rw[ha.plain]at e';have l1:=aX hq.ne ha.ne;have l2:=aX hr.ne hb.ne;rw[e]at l1;rw[e']at l2;have p1:=Fh.mpr hq.ne;have p2:=Fh.mpr hr.ne;have p3:=Fh.mpr ha.ne;have hq1:=hq.const (by omega);rw[hq1,one_mul a ha.tr]at e;exact e
theorem Dv.short{d r:List Int}(hd:d≠[])(hdt:Tr d)(hr:Tr r)(hl:r.length<d.length)(h:Dv d r):r=[]:=by
 obtain⟨c,q,hc,e⟩:=h;have z:=nG hd hdt (d:=q) λn hn=>by rw[<- e,aT (by omega),Fp]
 refine ny hr λk=>?_
 have h1:=e k;rw[iJ z]at h1;exact(Gh.mp h1).resolve_left hc
theorem Dv.rest{d p:List Int}(hd:d≠[])(hdt:Tr d)(h:Dv d p):aF p d=[] :=
 Dv.short hd hdt (cV _ _) (d4 hd) (Dv.down (λn=>cW (a:=p) hd n) h (Dv.refl d))
theorem Dv.mul_right(a b:List Int):Dv b (ac a b):=⟨1,a,by decide,λn=>by rw[ap];omega⟩
theorem Dv.mul_left(a b:List Int):Dv a (ac a b):=⟨1,b,by decide,λn=>by rw[ap,cJ];omega⟩
noncomputable def ev(t:Int):List Int->Int
 | []=>0
 |v::l=>v+t*ev t l
noncomputable def syn(t:Int):List Int->List Int
 | []=>[]
 |_::l=>cE t l (syn t l)
theorem fk(a:List Int):ac [] a=[]:=by unfold ac;rw[if_pos (.inl rfl)]
theorem dU(a:List Int):ac a []=[]:=by unfold ac;rw[if_pos (.inr rfl)]
theorem jK(a b:List Int):ac a b=ac b a:=by
 by_cases ha:a=[]
 ·rw[ha,fk,dU]
 by_cases hb:b=[]
 ·rw[hb,fk,dU]
 refine cL ?_ λk _=>?_
 ·rw[aX ha hb,aX hb ha];omega
 ·rw[ap,ap,cJ]
theorem jJ{a b:List Int}(ha:a≠[])(hb:b≠[]):ac a b≠[]:=λz=>by have:=aX ha hb;rw[z,FI]at this;have:=Fh.mpr ha;have:=Fh.mpr hb;omega
theorem iL(a b c:List Int):ac (ac a b) c=ac a (ac b c):=by
 by_cases ha:a=[]
 ·rw[ha,fk,fk,fk]
 by_cases hb:b=[]
 ·rw[hb,fk,dU,fk]
 by_cases hc:c=[]
 ·rw[hc,dU,dU,dU]
 have h1:=jJ ha hb;have h2:=jJ hb hc;refine cL ?_ λk _=>?_
 ·have:=Fh.mpr hb;rw[aX h1 hc,aX ha h2,aX ha hb,aX hb hc];obtain⟨y,ey⟩:=Nat.exists_eq_succ_of_ne_zero (Nat.ne_of_gt this);rw[ey,Nat.succ_add,Nat.add_succ,Nat.succ_sub_one,Nat.succ_sub_one,Nat.add_assoc]
 ·rw[ap,ap,gW]
instance:Std.Commutative ac:=⟨jK⟩
instance:Std.Associative ac:=⟨iL⟩
theorem jL(a:List Int):ac [1] a=a:=by
 by_cases ha:a=[]
 ·rw[ha,dU]
 refine cL ?_ λk _=>?_
 ·rw[aX (by simp) ha];simp
 ·rw[ap,cw];omega
theorem nN(a:List Int):ac a [1]=a:=by rw[jK,jL]
theorem pln_one:Pln [1]:=⟨tr_snoc (r:=[]).mpr (by decide),by simp,by decide,by decide⟩
theorem sU{a:List Int}(h:Pln a):1<=a.length:=Fh.mpr h.ne
def Sim(a b:List Int):Prop:=∃x y:Int,x≠0/\y≠0/\∀n,x*cf a n=y*cf b n
theorem Sim.refl(a:List Int):Sim a a:=⟨1,1,by decide,by decide,λ_=>rfl⟩
theorem Sim.dv{a b d:List Int}(h:Sim a b)(hd:Dv d b):Dv d a:=by obtain⟨x,y,hx,hy,e⟩:=h;exact Dv.prop_right hx e hd
theorem Sim.symm{a b:List Int}(h:Sim a b):Sim b a:=by obtain⟨x,y,hx,hy,e⟩:=h;exact⟨y,x,hy,hx,λn=>(e n).symm⟩
theorem Dv.cancel{d a b:List Int}(hd:d≠[])(ht:Tr d)(h:Dv (ac d a) (ac d b)):Dv a b:=by
 obtain⟨c,q,hc,e⟩:=h
 have key:∀k,cf (cE (-1) (scL c b) (ac q a)) k=0:=by
  refine nG hd ht λn _=>?_
  rw[cD (a:=b) (b:=ac q a) (x:=c) (y := -1) (λk=>by rw[fC,aD])]
  have e1:ak (ac q a) d n=ak q (ac d a) n:=by
   rw[<- ap,<- ap]
   congr 1
   rw[iL,jK a d]
  have e2:=e n;rw[ap,cJ]at e2;rw[e1,<- e2];omega
 refine⟨c,q,hc,λn=>?_⟩;have:=key n;rw[fC,aD,ap]at this;omega
noncomputable def prd(ss:List (List Int)):List Int:=ss.foldr ac [1]
theorem uE:∀(ss:List (List Int)) (acc:List Int),ss.foldl ac acc=ac acc (prd ss)
 | [],acc=>(nN acc).symm
 |s::ss,acc=>by show ss.foldl ac (ac acc s)=ac acc (ac s (prd ss));rw[uE ss,iL]
theorem sP:∀(ss:List (List Int)),(∀s∈ss,Pln s)->Pln (prd ss)
 | [],_=>pln_one
 |s::ss,h=>(h s (Fl ..)).mul (sP ss λx hx=>h x (Fi _ hx))
structure Pri(s:List Int):Prop where
 pln:Pln s
 two:2<=s.length
 or:∀a b,Dv s (ac a b)->Dv s a\/Dv s b
theorem Pri.not_one{s:List Int}(h:Pri s):¬Dv s [1]:=λz=>by have:=Dv.short h.pln.ne h.pln.tr pln_one.tr (by have:=h.two;show 1<s.length;omega) z;exact absurd this (by simp)
theorem Pri.prd{s:List Int}(h:Pri s):∀ss:List (List Int),Dv s (prd ss)->∃t∈ss,Dv s t
 | [],hd=>absurd hd h.not_one
 |t::ss,hd=>by
  rcases h.or t (RM.prd ss) hd with z |z
  ·exact⟨t,Fl ..,z⟩
  ·obtain⟨t',ht,z'⟩:=Pri.prd h ss z;exact⟨t',Fi _ ht,z'⟩
theorem Pri.same{s t:List Int}(hs:Pri s)(ht:Pri t)(h:Dv s t):s=t:=by
 obtain⟨q,hq,e⟩:=h.fellow hs.pln ht.pln.tr ht.pln.ne;rw[ht.pln.plain]at e;have l:=aX hq.ne hs.pln.ne;rw[e]at l;have:=hs.two;have:=sU hq;rcases ht.or q s (e ▸ Dv.refl _)with z |z
 ·exact absurd (Dv.short ht.pln.ne ht.pln.tr hq.tr (by omega) z) hq.ne
 ·exact sT hs.pln ht.pln h z
theorem uZ:∀(ps:List (List Int)) {E:List Int},(∀p∈ps,Pri p)->Pln E->Dv E (prd ps)->E=[1]\/∃p∈ps,Dv p E
 | [],E,_,hE,h=>by
  refine .inl (hE.const ?_);have:=sU hE;refine Classical.byContradiction λz=>?_
  have:=Dv.short hE.ne hE.tr pln_one.tr (by show 1<E.length;omega) h;exact absurd this (by simp)
 |p::ps,E,hp,hE,h=>by
  obtain⟨c,q,hc,e⟩:=h;have P:=hp p (Fl ..)
  have d1:Dv p (ac q E):=Dv.prop_right (x:=1) (y:=c) (by decide) (λn=>by
   show 1*cf (ac q E) n=c*cf (RM.prd (p::ps)) n
   rw[e,ap];omega) (Dv.mul_left p (prd ps))
  rcases P.or q E d1 with z |z
  ·obtain⟨c',q',hc',e'⟩:=z
   have d2:Dv (ac p E) (ac p (prd ps)):=by
    refine⟨c*c',q',Ft hc hc',λn=>?_⟩;have e1:=e n;rw[show ac p (prd ps)=RM.prd (p::ps)from rfl]
    have e2:ak (ac q' p) E n=c'*ak q E n:=by have:=cD (a:=q) (b:=[]) (x:=c') (y:=0) (c:=ac q' p) (q:=E) (n:=n) (λk=>by rw[ap,<- e'];simp);rw[this];simp
    rw[<- gW,e2,<- e1,FO c c',FM]
   rcases uZ ps (λx hx=>hp x (Fi _ hx)) hE (Dv.cancel P.pln.ne P.pln.tr d2)with w |⟨t,ht,w⟩
   ·exact .inl w
   ·exact .inr ⟨t,Fi _ ht,w⟩
  ·exact .inr ⟨p,Fl ..,z⟩
theorem CJ{A B C D L M:List Int}{ps:List (List Int)}(hC:Pln C)(cA:Dv C A)(cB:Dv C B)(call:∀d,Dv d A->Dv d B->Dv d C)(hD:Pln D)(sA:Sim A (ac D L))(sB:Sim B (ac D M))(hps:∀p∈ps,Pri p)(hL:L=prd ps)(hM:∀p∈ps,¬Dv p M):C=D:=by
 have dC:Dv D C:=call D (sA.dv (Dv.mul_left _ _)) (sB.dv (Dv.mul_left _ _));obtain⟨E,hE,e⟩:=dC.fellow hD hC.tr hC.ne;rw[hC.plain,jK]at e;have EL:Dv E L:=Dv.cancel hD.ne hD.tr (by rw[e];exact sA.symm.dv cA);have EM:Dv E M:=Dv.cancel hD.ne hD.tr (by rw[e];exact sB.symm.dv cB);rw[hL]at EL;rcases uZ ps hps hE EL with z |⟨p,hp,z⟩
 ·rw[<- e,z,nN]
 ·exact absurd (z.trans EM) (hM p hp)
theorem bH(l:List Int)(n:Nat):cf (slopeL l) n=((n:Int)+1)*cf l (n+1):=by
 unfold slopeL;rw[fB];by_cases h:n<l.length-1
 ·rw[if_pos h]
 ·rw[if_neg h,aT (l:=l) (by omega),Fp]
theorem rh(x:Int)(a:List Int)(n:Nat):cf (slopeL (x::a)) n=1*cf a n+1*cf (0::slopeL a) n:=by
 rw[bH,j9,ka];cases n with
 |zero=>show(((0:Nat):Int)+1)*cf a 0=1*cf a 0+1*0;omega
 |succ n =>
  show(((n+1:Nat):Int)+1)*cf a (n+1)=1*cf a (n+1)+1*cf (slopeL a) n;rw[bH];have:((n+1:Nat):Int)=(n:Int)+1:=by omega
  rw[this,Int.add_mul];omega
theorem fL:∀(a b:List Int) (n:Nat),cf (slopeL (ac a b)) n=ak (slopeL a) b n+ak a (slopeL b) n
 | [],b,n=>by rw[fk];show cf (slopeL []) n=ak (slopeL []) b n+ak [] (slopeL b) n;have:slopeL []=[]:=rfl;rw[this,b6,df,df];omega
 |x::a,b,n=>by
  rw[bH,ap,cI,cD (q:=b) (rh x a),tN,cI,bH];show((n:Int)+1)*(x*cf b (n+1)+ak a b n)=_;cases n with
  |zero =>show(((0:Nat):Int)+1)*(x*cf b 1+ak a b 0)=1*ak a b 0+1*0+(x*((((0:Nat):Int)+1)*cf b 1)+0);simp;omega
  |succ n =>
   have ih:=fL a b n;rw[bH,ap]at ih;show(((n+1:Nat):Int)+1)*(x*cf b (n+1+1)+ak a b (n+1))=1*ak a b (n+1)+1*ak (slopeL a) b n+(x*((((n+1:Nat):Int)+1)*cf b (n+1+1))+ak a (slopeL b) n);have:((n+1:Nat):Int)=(n:Int)+1:=by omega
   rw[this];generalize ak a b (n+1)=z at *
   generalize ak (slopeL a) b n=z1 at *
   generalize ak a (slopeL b) n=z2 at *
   generalize cf b (n+1+1)=z3 at *
   generalize (n:Int)=m at *
   grind
noncomputable def pw(s:List Int):Nat->List Int
 |0=>[1]
 |n+1=>ac s (pw s n)
theorem sr(s:List Int):pw s 1=s:=nN s
theorem sv(s:List Int):∀a b,ac (pw s a) (pw s b)=pw s (a+b)
 |0,b=>by rw[GP];exact jL _
 |a+1,b=>by rw[show a+1+b=a+b+1 by omega];show ac (ac s (pw s a)) (pw s b)=ac s (pw s (a+b));rw[iL,sv s a b]
theorem sn{s:List Int}(h:Pln s):∀n,Pln (pw s n)
 |0=>pln_one
 |n+1=>h.mul (sn h n)
theorem kX(s:List Int):∀(k n:Nat),cf (slopeL (pw s (k+1))) n=((k:Int)+1)*ak (slopeL s) (pw s k) n
 |0,n=>by rw[sr];show _=(((0:Nat):Int)+1)*ak (slopeL s) [1] n;rw[cJ,cw];omega
 |k+1,n=>by
  show cf (slopeL (ac s (pw s (k+1)))) n=_;rw[fL];have e:ak s (slopeL (pw s (k+1))) n=((k:Int)+1)*ak s (ac (slopeL s) (pw s k)) n:=cU λj=>by rw[kX s k j,ap]
  have e2:ak s (ac (slopeL s) (pw s k)) n=ak (slopeL s) (pw s (k+1)) n:=by
   show _=ak (slopeL s) (ac s (pw s k)) n;rw[<- ap,<- ap]
   congr 1
   ac_rfl
  rw[e,e2];have:((k+1:Nat):Int)=(k:Int)+1:=by omega
  rw[this,Int.add_mul ((k:Int)+1) 1];omega
noncomputable def fP(g:Nat->Nat)(us:List (List Int×Nat)):List Int:=us.foldr (λp acc=>ac (pw p.1 (g p.2)) acc) [1]
theorem dZ(g:Nat->Nat)(p:List Int×Nat)(us:List (List Int×Nat)):fP g (p::us)=ac (pw p.1 (g p.2)) (fP g us):=rfl
theorem ow(g h:Nat->Nat):∀us,ac (fP g us) (fP h us)=fP (λm=>g m+h m) us
 | []=>jL _
 |p::us=>by
  rw[dZ,dZ,dZ,<- ow g h us,<- sv]
  ac_rfl
theorem hI{g h:Nat->Nat}:∀us:List (List Int×Nat),(∀p∈us,g p.2=h p.2)->fP g us=fP h us
 | [],_=>rfl
 |p::us,H=>by rw[dZ,dZ,H p (Fl ..),hI us λx hx=>H x (Fi _ hx)]
theorem uP{g:Nat->Nat}:∀us:List (List Int×Nat),(∀p∈us,Pri p.1)->Pln (fP g us)
 | [],_=>pln_one
 |p::us,h=>(sn (h p (Fl ..)).pln _).mul (uP us λx hx=>h x (Fi _ hx))
theorem uN(c:Nat->Bool):∀us:List (List Int×Nat),fP (λm=>if c m then 1 else 0) us=prd ((us.filter λp=>c p.2).map (·.1))
 | []=>rfl
 |p::us=>by
  rw[dZ,uN c us,List.filter_cons];cases h:c p.2 with
  |true =>simp only[if_true,Fo];rw[sr];rfl
  |false =>simp only[Bool.false_eq_true,if_false];exact jL _
theorem uQ{g:Nat->Nat}:∀(us:List (List Int×Nat)) {p:List Int×Nat},p∈us->0<g p.2->Dv p.1 (fP g us)
 |q::us,p,hp,h0=>by
  rw[dZ];rcases FC.mp hp with rfl |hp
  ·obtain⟨k,hk⟩:∃k,g p.2=k+1:=⟨g p.2-1,by omega⟩;rw[hk];show Dv p.1 (ac (ac p.1 (pw p.1 k)) _);rw[iL];exact Dv.mul_left _ _
  ·exact(uQ us hp h0).trans (Dv.mul_right _ _)
theorem Pri.pw{s t:List Int}(h:Pri s):∀n,Dv s (pw t n)->0<n/\Dv s t
 |0,hd=>absurd hd h.not_one
 |n+1,hd=>by
  refine⟨by omega,?_⟩;rcases h.or t (RM.pw t n) hd with z |z
  ·exact z
  ·exact(Pri.pw h n z).2
theorem Pri.fP{s:List Int}(h:Pri s){g:Nat->Nat}:∀us:List (List Int×Nat),Dv s (fP g us)->∃p∈us,0<g p.2/\Dv s p.1
 | [],hd=>absurd hd h.not_one
 |p::us,hd=>by
  rcases h.or (RM.pw p.1 (g p.2)) (RM.fP g us) hd with z |z
  ·exact⟨p,Fl ..,(h.pw _ z)⟩
  ·obtain⟨q,hq,z'⟩:=Pri.fP h us z;exact⟨q,Fi _ hq,z'⟩
structure Use(us:List (List Int×Nat)):Prop where
 pri:∀p∈us,Pri p.1
 pos:∀p∈us,1<=p.2
 nd:(us.map (·.1)).Nodup
theorem Use.tail{p:List Int×Nat}{us:List (List Int×Nat)}(h:Use (p::us)):Use us :=
 ⟨λx hx=>h.pri x (Fi _ hx),λx hx=>h.pos x (Fi _ hx),(Hl.mp h.nd).2⟩
theorem Use.head{p q:List Int×Nat}{us:List (List Int×Nat)}(h:Use (p::us))(hq:q∈us):p.1≠q.1:=λz =>(Hl.mp h.nd).1 (Fe.mpr ⟨q,hq,z.symm⟩)
theorem dg(l:List Int):(slopeL l).length=l.length-1:=by unfold slopeL;simp
theorem eK{l:List Int}(h:Tr l):Tr (slopeL l):=λn hn=>by rw[dg]at hn;rw[bH];exact Ft (by omega) (h (n+1) (by omega))
theorem rg:∀us:List (List Int×Nat),Use us->∃M,(∀n,cf (slopeL (fP id us)) n=ak (fP (·-1) us) M n)/\∀q∈us,¬Dv q.1 M
 | [],_=>⟨[],λn=>by
  show cf (slopeL [1]) n=ak [1] [] n
  rw[nI];exact b6 n,λ_ h=>nomatch h⟩
 |p::us,h=>by
  obtain⟨M',e',h'⟩:=rg us h.tail;obtain⟨s,m⟩:=p;have P:Pri s:=h.pri _ (Fl ..);obtain⟨k,hk⟩:∃k,m=k+1:=⟨m-1,by have:=h.pos _ (Fl ..);simp at this;omega⟩;subst hk
  have eF:fP id us=ac (fP (·-1) us) (fP (λ_=>1) us):=by rw[ow];exact hI us λp hp=>by have:=h.tail.pos p hp;show p.2=p.2-1+1;omega
  have hX:∀n,cf (cE 1 (ac (scL ((k:Int)+1) (slopeL s)) (fP (λ_=>1) us)) (ac s M')) n=1*cf (ac (scL ((k:Int)+1) (slopeL s)) (fP (λ_=>1) us)) n+1*cf (ac s M') n:=λn=>by rw[fC];omega
  refine⟨cE 1 (ac (scL ((k:Int)+1) (slopeL s)) (fP (λ_=>1) us)) (ac s M'),λn=>?_,λq hq hd=>?_⟩
  ·rw[dZ,dZ];show cf (slopeL (ac (pw s (k+1)) (fP id us))) n=ak (ac (pw s k) (fP (·-1) us)) _ n;rw[fL,nJ hX]
   have a1:ak (slopeL (pw s (k+1))) (fP id us) n=ak (ac (pw s k) (fP (·-1) us)) (ac (scL ((k:Int)+1) (slopeL s)) (fP (λ_=>1) us)) n:=by
    rw[eF]
    have:ak (slopeL (pw s (k+1))) (ac (fP (·-1) us) (fP (λ_=>1) us)) n=ak (ac (scL ((k:Int)+1) (slopeL s)) (pw s k)) (ac (fP (·-1) us) (fP (λ_=>1) us)) n:=by
     refine jI (λj=>?_) λ_=>rfl
     rw[kX,ap];have:=cD (a:=slopeL s) (b:=[]) (x:=(k:Int)+1) (y:=0) (c:=scL ((k:Int)+1) (slopeL s)) (q:=pw s k) (n:=j) (λi=>by rw[aD];simp);rw[this];simp
    rw[this,<- ap,<- ap]
    congr 1
    ac_rfl
   have a2:ak (pw s (k+1)) (slopeL (fP id us)) n=ak (ac (pw s k) (fP (·-1) us)) (ac s M') n:=by
    rw[jI (a':=pw s (k+1)) (b':=ac (fP (·-1) us) M') (λ_=>rfl) (λj=>by rw[e',ap])];show ak (ac s (pw s k)) _ n=_;rw[<- ap,<- ap]
    congr 1
    ac_rfl
   rw[a1,a2];omega
  ·have hX':∀n,1*cf (cE 1 (ac (scL ((k:Int)+1) (slopeL s)) (fP (λ_=>1) us)) (ac s M')) n=ak M' s n+cf (ac (scL ((k:Int)+1) (slopeL s)) (fP (λ_=>1) us)) n:=λn=>by rw[hX,ap s,cJ s];omega
   rcases FC.mp hq with rfl |hq
   ·have d1:=Dv.down hX' hd (Dv.refl _);rcases P.or _ _ d1 with z |z
    ·have t:Tr (scL ((k:Int)+1) (slopeL s)):=cP (by omega) (eK P.pln.tr);have l:(scL ((k:Int)+1) (slopeL s)).length=s.length-1:=by rw[aP,dg]
     have:=P.two;have n:=Dv.short P.pln.ne P.pln.tr t (by omega) z;rw[n]at l;simp at l
     omega
    ·obtain⟨q',hq',_,w⟩:=P.fP us z;exact h.head hq' (P.same (h.tail.pri q' hq') w)
   ·have Q:=h.tail.pri q hq;have d0:Dv q.1 (ac (scL ((k:Int)+1) (slopeL s)) (fP (λ_=>1) us)):=(uQ us hq (g:=λ_=>1) (by decide)).trans (Dv.mul_right _ _);have d1:Dv q.1 (ac s M'):=Dv.down (f:=1) (q:=[1]) (λn=>by rw[hX,cw];omega) hd d0;rcases Q.or _ _ d1 with z |z
    ·exact h.head hq (Q.same P z).symm
    ·exact h' q hq z
theorem yi{s a b:List Int}(hs:s≠[])(h:Dv s (ac a b)):Dv s (ac (aF a s) (aF b s)):=by
 have e1:=λn=>cW (a:=a) hs n
 have e2:=λn=>cW (a:=b) hs n
 have d1:Dv s (ac (aF a s) b):=by
  refine Dv.down (f:=aS a s) (q:=ac (bh a s) b) (b:=s) (λn=>?_) h (Dv.refl _);rw[ap,ap];have l:=cD (a:=ac (bh a s) s) (b:=aF a s) (x:=1) (y:=1) (c:=scL (aS a s) a) (q:=b) (n:=n) (λk=>by rw[aD,e1,ap];omega);have l2:=cD (a:=a) (b:=[]) (x:=aS a s) (y:=0) (c:=scL (aS a s) a) (q:=b) (n:=n) (λk=>by rw[aD];simp)
  have l3:ak (ac (bh a s) s) b n=ak (ac (bh a s) b) s n:=by
   rw[<- ap,<- ap]
   congr 1
   ac_rfl
  rw[l2,l3]at l;rw[df]at l;omega
 refine Dv.down (f:=aS b s) (q:=ac (aF a s) (bh b s)) (b:=s) (λn=>?_) d1 (Dv.refl _);rw[ap,ap];have l:=nJ (a:=ac (bh b s) s) (b:=aF b s) (x:=1) (y:=1) (c:=scL (aS b s) b) (q:=aF a s) (n:=n) (λk=>by rw[aD,e2,ap];omega);have l2:=cU (a:=aF a s) (b:=b) (b':=scL (aS b s) b) (c:=aS b s) (n:=n) (λk=>by rw[aD])
 have l3:ak (aF a s) (ac (bh b s) s) n=ak (ac (aF a s) (bh b s)) s n:=by
  rw[<- ap,<- ap]
  congr 1
  ac_rfl
 rw[l2,l3]at l;omega
theorem uW{s a:List Int}(hs:s≠[])(ht:Tr s)(h:aF a s=[]):Dv s a :=
 ⟨aS a s,bh a s,f8 hs ht,λn=>by rw[cW hs,h,b6];omega⟩
noncomputable def aC(u e b:Int):List Int:=if e=0 then[-u,b]else[u*u-e,-2*b*u,b*b]
theorem eL{u e b:Int}(hb:1<=b):Tr (aC u e b)/\2<=(aC u e b).length:=by
 unfold aC;split
 ·exact⟨(tr_snoc (r:=[-u])).mpr (by omega),by show 2<=2;decide⟩
 ·exact⟨(tr_snoc (r:=[u*u-e,-2*b*u])).mpr (Ft (by omega) (by omega)),by show 2<=3;decide⟩
theorem tE{n e:Int}(hn:0<=n)(h1:n*n<e)(h2:e<(n+1)*(n+1)):∀(k:Nat) (x y:Int),x.toNat<=k->0<x->0<=y->e*(x*x)=y*y->False
 |0,x,y,hk,hx,_,_=>by omega
 |k+1,x,y,hk,hx,hy,h=>by
  have hxx:0<x*x:=FD hx hx
  have a1:n*x<y:=by
   refine Int.not_le.mp λz=>?_
   have:=Int.mul_le_mul z z hy (Int.le_trans hy z);have:=HL h1 hxx;have e1:n*x*(n*x)=n*n*(x*x):=by grind
   omega
  have a2:y<(n+1)*x:=by
   refine Int.not_le.mp λz=>?_
   have z0:0<=(n+1)*x:=FZ (by omega) (by omega);have:=Int.mul_le_mul z z z0 hy;have:=HL h2 hxx;have e1:(n+1)*x*((n+1)*x)=(n+1)*(n+1)*(x*x):=by grind
   omega
  have a3:(n+1)*x=n*x+x:=by rw[Int.add_mul];omega
  refine tE hn h1 h2 k (y-n*x) ((e*x-n*y).natAbs:Int) (by omega) (by omega) (by omega) ?_;rw[Int.natAbs_mul_self' (e*x-n*y)];grind
def NS(e:Int):Prop:=e<=0\/∃n:Int,0<=n/\n*n<e/\e<(n+1)*(n+1)
theorem NS.no{e x y:Int}(h:NS e)(he:e≠0)(hx:x≠0)(eq:x*x*e=y*y):False:=by
 rcases h with h |⟨n,hn,h1,h2⟩
 ·have hxx:0<x*x:=by
   rcases Int.lt_or_gt_of_ne hx with z |z
   ·exact Int.mul_pos_of_neg_of_neg z z
   ·exact FD z z
  have:x*x*e<0:=Int.mul_neg_of_pos_of_neg hxx (by omega)
  have:0<=y*y:=by
   rcases Int.le_total 0 y with z |z
   ·exact FZ z z
   ·exact HX z z
  omega
 ·refine tE hn h1 h2 _ (x.natAbs:Int) (y.natAbs:Int) (Fg _) (by omega) (by omega) ?_;rw[Int.natAbs_mul_self' x,Int.natAbs_mul_self' y,<- eq,FO]
theorem yx{u e b:Int}(hb:1<=b)(he:NS e){p q:List Int}(h:Dv (aC u e b) (ac p q)):Dv (aC u e b) p\/Dv (aC u e b) q:=by
 obtain⟨tr,l2⟩:=eL (u:=u) (e:=e) hb;have hne:aC u e b≠[]:=λz=>by rw[z]at l2;simp at l2
 by_cases hp:aF p (aC u e b)=[]
 ·exact .inl (uW hne tr hp)
 by_cases hq:aF q (aC u e b)=[]
 ·exact .inr (uW hne tr hq)
 exfalso;have d:=yi hne h;have t1:=cV p (aC u e b);have t2:=cV q (aC u e b);have n1:=d4 (a:=p) hne;have n2:=d4 (a:=q) hne;generalize aF p (aC u e b)=r1 at *
 generalize aF q (aC u e b)=r2 at *
 have lm:=aX hp hq;have p1:=Fh.mpr hp;have p2:=Fh.mpr hq;by_cases hs:(ac r1 r2).length<(aC u e b).length
 ·exact jJ hp hq (Dv.short hne tr (fJ t1 t2) hs d)
 by_cases h0:e=0
 ·have:(aC u e b).length=2:=by unfold aC;rw[if_pos h0];rfl
  omega
 have er:aC u e b=[u*u-e,-2*b*u,b*b]:=by unfold aC;rw[if_neg h0]
 rw[er]at hs n1 n2 d hne tr;simp only[Ff,FI]at hs n1 n2
 obtain⟨α,β,rfl⟩:∃α β,r1=[α,β]:=by
  match r1,(show r1.length=2 by omega)with
  | [α,β],_=>exact⟨α,β,rfl⟩
 obtain⟨γ,δ,rfl⟩:∃γ δ,r2=[γ,δ]:=by
  match r2,(show r2.length=2 by omega)with
  | [γ,δ],_=>exact⟨γ,δ,rfl⟩
 have hβ:β≠0:=(tr_snoc (r:=[α])).mp t1;have hδ:δ≠0:=(tr_snoc (r:=[γ])).mp t2
 have em:ac [α,β] [γ,δ]=[α*γ,α*δ+β*γ,β*δ]:=by
  refine cL (by rw[lm];rfl) λk hk=>?_
  rw[lm]at hk;rw[ap];have hk':k<3:=hk;have:k=0\/k=1\/k=2:=by omega
  rcases this with rfl |rfl |rfl
  ·show(0+(α*γ))+0=α*γ;omega
  ·show(0+(α*δ))+(β*γ)=α*δ+β*γ;omega
  ·show(0+α*cf [γ,δ] 2)+(β*δ)=β*δ;have:cf [γ,δ] 2=0:=rfl;rw[this];simp
 rw[em]at d;have hr:=d.rest hne tr;have eqn:=λn=>cW (a:=[α*γ,α*δ+β*γ,β*δ]) hne n
 have hf:=f8 (a:=[α*γ,α*δ+β*γ,β*δ]) hne tr;have lq:=j3 (a:=[α*γ,α*δ+β*γ,β*δ]) hne;generalize aS [α*γ,α*δ+β*γ,β*δ] [u*u-e,-2*b*u,b*b]=f at *
 generalize bh [α*γ,α*δ+β*γ,β*δ] [u*u-e,-2*b*u,b*b]=Q at *
 rw[hr]at eqn;have lq':Q.length=1:=lq;obtain⟨κ,rfl⟩:∃κ,Q=[κ]:=HC.mp lq';have g0:=eqn 0;have g1:=eqn 1;have g2:=eqn 2;rw[cw,b6]at g0 g1 g2
 replace g0:f*(α*γ)=κ*(u*u-e)+0:=g0
 replace g1:f*(α*δ+β*γ)=κ*(-2*b*u)+0:=g1
 replace g2:f*(β*δ)=κ*(b*b)+0:=g2
 have hκ:κ≠0:=λz=>by rw[z,FY]at g2;exact Ft hf (Ft hβ hδ) (by omega)
 refine he.no h0 (x:=2*κ*b) (y:=f*(α*δ-β*γ)) (Ft (Ft (by decide) hκ) (by omega)) ?_;have k1:f*(α*δ-β*γ)*(f*(α*δ-β*γ))=f*(α*δ+β*γ)*(f*(α*δ+β*γ))-4*((f*(α*γ))*(f*(β*δ))):=by grind
 rw[k1,g0,g1,g2];grind
theorem yw{u e b:Int}(hb:1<=b)(he:NS e):Pri (aw (aC u e b)):=by
 obtain⟨tr,l2⟩:=eL (u:=u) (e:=e) hb;have hne:aC u e b≠[]:=λz=>by rw[z]at l2;simp at l2
 obtain⟨g,hg,eg⟩:=fV tr;have to:∀p,Dv (aw (aC u e b)) p->Dv (aC u e b) p:=λp h=>Dv.prop_left (x:=1) (y:=g) (by decide) hg (λn=>by rw[eg];omega) h
 have fr:∀p,Dv (aC u e b) p->Dv (aw (aC u e b)) p:=λp h=>Dv.prop_left (x:=g) (y:=1) hg (by decide) (λn=>by rw[<- eg];omega) h
 refine⟨dD tr hne,by rw[plain_len];exact l2,λp q h=>?_⟩;exact(yx hb he (to _ h)).imp (fr _) (fr _)
noncomputable def com(xs ys:List Int):List Int:=cM 20 (aw xs) (aw ys)
structure ComOk(xs ys:List Int):Prop where
 pln:xs≠[]\/ys≠[]->Pln (com xs ys)
 left:Dv (com xs ys) xs
 right:Dv (com xs ys) ys
 all:∀d,Dv d xs->Dv d ys->Dv d (com xs ys)
theorem vk{xs ys:List Int}(h2:ys.length<=19)(t1:Tr xs)(t2:Tr ys):ComOk xs ys:=by
 obtain⟨c1,c2,c3,c4,c5,c6⟩:=vm 20 (aw xs) (aw ys) (by rw[plain_len];omega) (gq t1) (gq t2);refine⟨λh=>?_,(Dv.plain t1).mp c2,(Dv.plain t2).mp c3,λd a b=>c4 d ((Dv.plain t1).mpr a) ((Dv.plain t2).mpr b)⟩;have hne:com xs ys≠[]:=c5 (h.imp (λz q=>z (Gd.mp (by rw[<- plain_len,q];rfl))) (λz q=>z (Gd.mp (by rw[<- plain_len,q];rfl))))
 obtain⟨l,tl,el⟩:∃l,Tr l/\com xs ys=aw l:=by
  rcases c6 with e |e |e
  ·exact⟨xs,t1,e⟩
  ·exact⟨ys,t2,e⟩
  ·exact e
 have hl:l≠[]:=λz=>hne (by rw[el,z];rfl)
 rw[el];exact dD tl hl
theorem CK{A B D L M:List Int}{ps:List (List Int)}(tA:Tr A)(nA:A≠[])(tB:Tr B)(lB:B.length<=19)(hD:Pln D)(sA:Sim A (ac D L))(sB:Sim B (ac D M))(hps:∀p∈ps,Pri p)(hL:L=prd ps)(hM:∀p∈ps,¬Dv p M):com A B=D :=
 have C:=vk lB tA tB
 CJ (C.pln (.inl nA)) C.left C.right C.all hD sA sB hps hL hM
noncomputable def eq1(k m:Nat):Nat:=if m=k then 1 else 0
noncomputable def zp(_:Nat):Nat:=1
noncomputable def mor(us:List (List Int×Nat))(k:Nat):List Int:=fP (·-k) us
noncomputable def flt(us:List (List Int×Nat)):List Int:=fP zp us
variable {us:List (List Int×Nat)}
theorem uG:flt us=prd (us.map (·.1)):=by
 have:=uN (λ_=>true) us;have e:us.filter (λp=>(λ_=>true) p.2)=us:=List.filter_eq_self.mpr λ_ _=>rfl
 rw[e]at this;rw[<- this];exact hI us λp _=>rfl
theorem uO(h:Use us)(g:Nat->Nat):Pln (fP g us):=uP us h.pri
noncomputable def whl(c:Int)(us:List (List Int×Nat)):List Int:=ac [c] (fP id us)
theorem kC(c:Int):whl c us=scL c (fP id us):=by
 unfold whl;by_cases h:fP id us=[]
 ·rw[h,dU];rfl
 refine cL ?_ λk _=>?_
 ·rw[aX (by simp) h,aP];simp
 ·rw[ap,cw,aD]
theorem kD(h:Use us){c:Int}(hc:c≠0):Tr (whl c us)/\whl c us≠[]/\aw (whl c us)=fP id us:=by have pl:=uO h id;rw[kC];refine⟨cP hc pl.tr,λz=>pl.ne (Gd.mp (by rw[<- aP c,z];rfl)),?_⟩;rw[ni hc pl.tr,pl.plain]
theorem wv(h:Use us):ac (mor us 1) (flt us)=fP id us:=by unfold mor flt;rw[ow];exact hI us λp hp=>by have:=h.pos p hp;show p.2-1+1=p.2;omega
theorem wu(h:Use us){c:Int}(hc:c≠0)(hl:(whl c us).length<=20):com (whl c us) (slopeL (whl c us))=mor us 1:=by
 obtain⟨t,n,p⟩:=kD h hc;obtain⟨M,eM,hM⟩:=rg us h;refine CK (L:=flt us) (M:=M) (ps:=us.map (·.1)) t n (eK t) (by rw[dg];omega) (uO h _) ⟨1,c,by decide,hc,λk=>?_⟩ ⟨1,c,by decide,hc,λk=>?_⟩ (λp hp=>?_) uG (λp hp=>?_)
 ·rw[wv h,kC,aD];omega
 ·rw[ap];have e:=eM k;rw[bH]at e;show 1*cf (slopeL (whl c us)) k=c*ak (fP (·-1) us) M k;rw[<- e,bH,kC,aD];grind
 ·obtain⟨q,hq,rfl⟩:=Fe.mp hp;exact h.pri q hq
 ·obtain⟨q,hq,rfl⟩:=Fe.mp hp;exact hM q hq
theorem su{s:List Int}(h:s≠[]):∀n,(pw s n).length=1+n*(s.length-1)/\pw s n≠[]
 |0=>⟨by rw[Nat.zero_mul];rfl,by simp[pw]⟩
 |n+1=>by obtain⟨a,b⟩:=su h n;have:=Fh.mpr h;refine⟨?_,jJ h b⟩;show(ac s (pw s n)).length=_;rw[aX h b,a,G6];omega
theorem AE{t h v:Int}{T X V:Nat}(ht:t.natAbs=T)(hh:X<=h.natAbs)(hv:v.natAbs<=V):T*X<=(v+t*h).natAbs+V:=by subst ht;have e1:t.natAbs*h.natAbs=(t*h).natAbs:=(Fs t h).symm;have e2:t.natAbs*X<=t.natAbs*h.natAbs:=Gu _ hh;have e3:=Int.natAbs_sub_le (v+t*h) v;rw[Int.add_comm v,Int.add_sub_cancel,Int.add_comm _ v]at e3;rw[e1]at e2;exact Fu e2 (Fu e3 (Nat.add_le_add_left hv _))
theorem vD{B n:Nat}{t:Int}(hn:0<n)(hB:1<=B)(ht:B*n<=t.natAbs)(z:Int):∀os:List Int,(∀x∈os,x.natAbs<=(B-1)*z.natAbs)->z.natAbs*n^(os.length+1)<=(hv t n (os++[z])).natAbs
 | [],_=>by show z.natAbs*n^1<=(z*(n:Int)^1+t*0).natAbs;rw[Fp,FT,Fs,GQ,FU];exact Fg _
 |v::os,h=>by
  have ih:=vD hn hB ht z os (λx hx=>h x (Fi _ hx));have hvv:=h v (Fl ..);rw[FA,di]
  have e1:(v*(n:Int)^((os++[z]).length+1)).natAbs<=(B-1)*z.natAbs*n^(os.length+2):=by
   rw[Fs,GQ,FU];have:(os++[z]).length+1=os.length+2:=by simp
   rw[this];exact Ga _ hvv
  have e2:=AE (t:=t) rfl ih e1;have e3:B*n*(z.natAbs*n^(os.length+1))<=t.natAbs*(z.natAbs*n^(os.length+1)):=Ga _ ht;have e4:(v::os).length+1=os.length+2:=by simp
  rw[e4];have e5:n^(os.length+2)=n*n^(os.length+1):=by rw[GC,Hn]
  rw[e5]at e2 ⊢;generalize n^(os.length+1)=p at *
  generalize (v*(n:Int)^((os++[z]).length+1)+t*hv t n (os++[z])).natAbs=W at *
  obtain⟨C,rfl⟩:∃C,B=C+1:=⟨B-1,by omega⟩
  have e6:(C+1)*n*(z.natAbs*p)=C*z.natAbs*(n*p)+z.natAbs*(n*p):=by grind
  have e7:C+1-1=C:=rfl;rw[e7]at e2;omega
theorem oj{t n x y:Int}:∀(a b c:List Int),a.length=c.length->b.length=c.length->(∀k,cf c k=x*cf a k+y*cf b k)->hv t n c=x*hv t n a+y*hv t n b
 | [],[],[],_,_,_=>by simp[uu]
 |u::a,v::b,w::c,ha,hb,h=>by
  have h0:w=x*u+y*v:=h 0;have ih:=oj (t:=t) (n:=n) (x:=x) (y:=y) a b c (by simpa using ha) (by simpa using hb) (λk=>h (k+1));have la:a.length=c.length:=by simpa using ha
  have lb:b.length=c.length:=by simpa using hb
  rw[di,di,di,ih,h0,la,lb];generalize n^(c.length+1)=p;grind
 | [],_::_,[],_,h,_=>by simp at h
 |_::_,_,[],h,_,_=>by simp at h
 | [],_,_::_,h,_,_=>by simp at h
 |_::_,[],_::_,_,h,_=>by simp at h
theorem oh(t n g:Int)(l:List Int):hv t n (scL g l)=g*hv t n l:=by have:=oj (t:=t) (n:=n) (x:=g) (y:=0) l l (scL g l) (by rw[aP]) (by rw[aP]) (λk=>by rw[aD];simp);rw[this];simp
theorem ut(t n:Int):∀(k:Nat) (l:List Int),hv t n (l++List.replicate k 0)=n^k*hv t n l
 |k,[]=>by
  rw[Fm,uu,Fp]
  induction k with
  |zero=>rfl
  |succ k ih=>rw[GV,di,ih];simp
 |k,v::l=>by
  rw[FA,di,ut t n k l,di];have:(l++List.replicate k (0:Int)).length+1=l.length+1+k:=by simp;omega
  rw[this,G9];generalize n^(l.length+1)=p;generalize n^k=q;grind
theorem CV(l:List Int)(k j:Nat):cf (l++List.replicate k 0) j=cf l j:=by
 by_cases h:j<l.length
 ·rw[kf h]
 ·rw[ke (by omega),fA,aT (by omega)]
theorem jV(t n:Int){b:List Int}(hb:b≠[]):∀{a:List Int},a≠[]->n*hv t n (ac a b)=hv t n a*hv t n b
 | [x],_=>by
  have e:ac [x] b=scL x b:=by
   apply cL
   ·rw[aX (by simp) hb,aP];simp
   ·intro k _;rw[ap,cw,aD]
  rw[e,oh,iP];grind
 |x::y::a,_=>by
  have ih:=jV t n hb (a:=y::a) (by simp);have lm:(ac (x::y::a) b).length=(y::a).length+b.length:=by rw[aX (by simp) hb,Ff];omega
  have lm2:(ac (y::a) b).length+1=(y::a).length+b.length:=by rw[aX (by simp) hb];have:=Fh.mpr hb;rw[Ff];omega
  have e:=oj (t:=t) (n:=n) (x:=x) (y:=1) (b++List.replicate (y::a).length 0) (0::ac (y::a) b) (ac (x::y::a) b) (by rw[lm,Fd,GL];omega) (by rw[lm,Ff,lm2])
   (λk=>by rw[ap,cI,CV,ka];rw[FF];congr 1;unfold up;split<;>first |rfl |rw[ap])
  rw[e,ut,di (v:=0),di (v:=x)];have:n*(x*(n^(y::a).length*hv t n b)+1*(0*n^((ac (y::a) b).length+1)+t*hv t n (ac (y::a) b)))=x*(n^(y::a).length*n)*hv t n b+t*(n*hv t n (ac (y::a) b)):=by grind
  rw[this,ih,<- Fw];grind
noncomputable def pr(t n:Int):List (List Int)->Int
 | []=>1
 |s::ss=>hv t n s*pr t n ss
noncomputable def sl:List (List Int)->Nat
 | []=>0
 |s::ss=>s.length+sl ss
theorem nM{a b:List Int}(ha:a≠[])(hb:b≠[]):ac a b≠[]:=λz=>by have:=aX ha hb;rw[z]at this;have h1:=Fh.mpr ha;have h2:=Fh.mpr hb;rw[FI]at this;omega
noncomputable def av(acc:List Int)(ss:List (List Int)):List Int:=ss.foldl ac acc
theorem sO(acc:List Int)(ss:List (List Int))(s:List Int):av acc (ss++[s])=ac (av acc ss) s:=by unfold av;rw[List.foldl_append];rfl
theorem fU:∀(ss:List (List Int)) (acc:List Int),acc≠[]->Tr acc->(∀s∈ss,s≠[]/\Tr s)->av acc ss≠[]/\Tr (av acc ss)/\(av acc ss).length+ss.length=acc.length+sl ss
 | [],acc,h1,h2,_=>⟨h1,h2,by simp[av,sl]⟩
 |s::ss,acc,h1,h2,h3=>by have hs:=h3 s (Fl ..);obtain⟨a,b,c⟩:=fU ss (ac acc s) (nM h1 hs.1) (fJ h2 hs.2) (λx hx=>h3 x (Fi _ hx));refine⟨a,b,?_⟩;have l:=aX h1 hs.1;have p1:=Fh.mpr h1;have p2:=Fh.mpr hs.1;show(av (ac acc s) ss).length+(ss.length+1)=acc.length+(s.length+sl ss);omega
theorem jU(t n:Int):∀(ss:List (List Int)) (acc:List Int),acc≠[]->(∀s∈ss,s≠[])->n^ss.length*hv t n (av acc ss)=hv t n acc*pr t n ss
 | [],acc,_,_=>by show n^0*hv t n acc=hv t n acc*1;simp
 |s::ss,acc,h1,h3=>by have hs:=h3 s (Fl ..);have ih:=jU t n ss (ac acc s) (nM h1 hs) (λx hx=>h3 x (Fi _ hx));have e:=jV t n hs h1;show n^(ss.length+1)*hv t n (av (ac acc s) ss)=hv t n acc*(hv t n s*pr t n ss);rw[Fw,FO _ n,FM,ih,<- FM,e,FM]
theorem Cd{c:Int}{ss:List (List Int)}{B n:Nat}{t:Int}(hc:c≠0)(hs:∀s∈ss,s≠[]/\Tr s)(hB:1<=B)
 (hb:∀x∈(ac [c] (av [1] ss)).take ((ac [c] (av [1] ss)).length-1),x.natAbs<=(B-1)*(aJ (ac [c] (av [1] ss))).natAbs) (hn:0<n) (ht:B*n<=t.natAbs):n^sl ss<=(pr t n ss).natAbs:=by
 obtain⟨p1,p2,p3⟩:=fU ss [1] (by simp) (by intro k hk;have:k=0:=by simpa using hk.symm
                                           subst this;decide) hs
 have hm:=jU t n ss [1] (by simp) (λs h=>(hs s h).1);generalize av [1] ss=Pr at *
 have hne:ac [c] Pr≠[]:=nM (by simp) p1;have hl:=uf (a:=[c]) (b:=Pr) (by simp) p1;have hlen:=aX (a:=[c]) (b:=Pr) (by simp) p1;have hv1:=jV t n p1 (a:=[c]) (by simp);obtain⟨os,z,e⟩:=(bX (ac [c] Pr)).resolve_left hne;rw[e]at hb hl hv1 hlen;rw[cu]at hb hl;have ht2:(os++[z]).take ((os++[z]).length-1)=os:=by simp
 rw[ht2]at hb;have hcau:=vD hn hB ht z os hb;have hlp:aJ Pr≠0:=gY p2 p1;have hz:z=c*aJ Pr:=hl;rw[iP]at hv1;have hn0:(n:Int)≠0:=by omega
 have e2:hv t n (os++[z])=c*hv t n Pr:=by refine Ha hn0 ?_;rw[hv1];grind
 rw[e2,hz,Fs,Fs,Nat.mul_assoc]at hcau;have hc1:0<c.natAbs:=Gm.mpr hc;have h4:=HV hcau hc1;have h5:1*n^(os.length+1)<=(aJ Pr).natAbs*n^(os.length+1):=Ga _ (Gm.mpr hlp);have h6:os.length+1=Pr.length:=by simp at hlen;omega
 rw[h6]at h4 h5;have h7:n^Pr.length<=(hv t n Pr).natAbs:=by omega
 have h8:(n^ss.length*n^Pr.length)<=n*(pr t n ss).natAbs:=by
  have h9:=Gu (n^ss.length) h7
  have h10:n^ss.length*(hv t n Pr).natAbs=n*(pr t n ss).natAbs:=by have:=congrArg Int.natAbs hm;rw[Fs,GQ,FU,iP,FF,Fs,FU]at this;exact this
  omega
 rw[<- Nat.pow_add]at h8;have h11:ss.length+Pr.length=sl ss+1:=by simp at p3;omega
 rw[h11,GC,Hn]at h8;exact HV h8 hn
theorem ei{x p:Int}(hp:0<p):sg (p*x)=sg x:=by rw[FO];exact lh hp
noncomputable def bz(sq due:Int):Int:=if due<0\/due*due<sq then 1 else 0-(if sq<due*due then 1 else 0)
noncomputable def aV(l:List Int)(t n:Int):Int:=if 0<cf l 3 then bz (cf l 1*n*n) (cf l 2*t-cf l 0*n)else 0-bz (cf l 1*n*n) (0-(cf l 2*t-cf l 0*n))
theorem bW(sq d:Int):(bz sq d=1/\(d<0\/d*d<sq))\/(bz sq d=0/\0<=d/\d*d=sq)\/(bz sq d = -1/\0<=d/\sq<d*d):=by
 unfold bz;by_cases h:d<0\/d*d<sq
 ·rw[if_pos h];exact .inl ⟨rfl,h⟩
 ·rw[if_neg h];by_cases h2:sq<d*d
  ·rw[if_pos h2];exact .inr (.inr ⟨rfl,by omega,h2⟩)
  ·rw[if_neg h2];exact .inr (.inl ⟨rfl,by omega,by omega⟩)
structure Spt(l:List Int):Prop where
 is:∃u e b s:Int,l=[u,e,b,s]/\0<=e/\1<=b/\(s=1\/s = -1)
theorem fK{x y:Int}(hx:0<=x)(h:x<=y):x*x<=y*y:=Int.mul_le_mul h h hx (by omega)
theorem kN{x y:Int}(hx:0<=x)(h:x<y):x*x<y*y:=by have h1:x*x<=x*y:=Int.mul_le_mul_of_nonneg_left (FB h) hx;have h2:x*y<y*y:=HL h (by omega);omega
theorem A2{x y:Int}(hy:0<=y)(h:x*x<y*y):x<y:=Int.not_le.mp λz=>by have:=fK hy z;omega
theorem A7{x y:Int}(hy:0<=y)(h:x*x<=y*y):x<=y:=Int.not_lt.mp λz=>by have:=kN hy z;omega
theorem qi{g sq d:Int}(hg:0<g):bz (sq*(g*g)) (g*d)=bz sq d:=by
 have hgg:0<g*g:=FD hg hg;have e1:g*d*(g*d)=d*d*(g*g):=by grind
 have e2:(g*d<0)↔d<0:=by
  constructor
  ·intro h;refine Int.not_le.mp λz=>?_
   have:=FZ (FB hg) z;omega
  ·intro h;exact Int.mul_neg_of_pos_of_neg hg h
 have e3:∀x y:Int,(x*(g*g)<y*(g*g))↔x<y:=λx y=>⟨λh=>HM h (FB hgg),λh=>HL h hgg⟩
 unfold bz;rw[e1];simp only[e2,e3]
theorem rm{g t n:Int}(l:List Int)(hg:0<g):aV l (g*t) (g*n)=aV l t n:=by
 have e1:cf l 1*(g*n)*(g*n)=cf l 1*n*n*(g*g):=by grind
 have e2:cf l 2*(g*t)-cf l 0*(g*n)=g*(cf l 2*t-cf l 0*n):=by grind
 have e3:0-g*(cf l 2*t-cf l 0*n)=g*(0-(cf l 2*t-cf l 0*n)):=by grind
 unfold aV;rw[e1,e2,e3,qi hg,qi hg]
theorem xv{t n t' n':Int}(l:List Int)(hn:0<n)(hn':0<n')(e:t*n'=t'*n):aV l t n=aV l t' n':=by
 rw[<- rm (g:=n') l hn',<- rm (g:=n) (t:=t') l hn];have e1:n'*t=n*t':=by rw[FO,e,FO]
 rw[e1,FO n' n]
theorem kZ(l:List Int)(t n:Int):aV l t n=1\/aV l t n=0\/aV l t n = -1:=by
 unfold aV;split
 ·rcases bW (cf l 1*n*n) (cf l 2*t-cf l 0*n)with h |h |h<;>omega
 ·rcases bW (cf l 1*n*n) (0-(cf l 2*t-cf l 0*n))with h |h |h<;>omega
theorem xt{l:List Int}(hl:Spt l){t n t' n':Int}(hn:0<n)(hn':0<n')(h:t*n'<t'*n)(hs:aV l t n<=0):aV l t' n' = -1:=by
 obtain⟨u,e,b,s,rfl,he,hb,hs1⟩:=hl
 have hlt:(b*t-u*n)*n'<(b*t'-u*n')*n:=by
  have h1:b*(t*n')<b*(t'*n):=HZ h (by omega);have e1:(b*t-u*n)*n'=b*(t*n')-u*n*n':=by grind
  have e2:(b*t'-u*n')*n=b*(t'*n)-u*n*n':=by grind
  omega
 have hnn:0<n*n:=FD hn hn;have hnn':0<n'*n':=FD hn' hn';rcases hs1 with rfl |rfl
 ·have z0:(0:Int)<1:=by decide
  have hs:bz (e*n*n) (b*t-u*n)<=0:=hs;show bz (e*n'*n') (b*t'-u*n') = -1;generalize b*t-u*n=a at *
  generalize b*t'-u*n'=a' at *
  have k1:0<=a/\e*n*n<=a*a:=by rcases bW (e*n*n) a with h |h |h<;>omega
  have k2:0<=a*n':=FZ k1.1 (FB hn');have k3:0<a':=HM (a:=n) (by omega) (FB hn);have k4:=kN k2 hlt;have k5:e*n*n*(n'*n')<=a*a*(n'*n'):=Gv k1.2 (FB hnn')
  have k6:e*n'*n'*(n*n)<a'*a'*(n*n):=by
   have e1:e*n'*n'*(n*n)=e*n*n*(n'*n'):=by grind
   have e2:a'*a'*(n*n)=a'*n*(a'*n):=by grind
   have e3:a*a*(n'*n')=a*n'*(a*n'):=by grind
   omega
  have k7:=HM k6 (FB hnn);rcases bW (e*n'*n') a' with h |h |h<;>omega
 ·have hs:0-bz (e*n*n) (0-(b*t-u*n))<=0:=hs;show 0-bz (e*n'*n') (0-(b*t'-u*n')) = -1;generalize ha:0-(b*t-u*n)=a at *
  generalize ha':0-(b*t'-u*n')=a' at *
  have hlt':a'*n<a*n':=by
   have e1:a'*n = -((b*t'-u*n')*n):=by rw[<- ha'];grind
   have e2:a*n' = -((b*t-u*n)*n'):=by rw[<- ha];grind
   omega
  have k1:a<0\/a*a<=e*n*n:=by rcases bW (e*n*n) a with h |h |h<;>omega
  have k2:a'<0\/a'*a'<e*n'*n':=by
   by_cases z:a'<0
   ·exact .inl z
   right;have p1:0<=a'*n:=FZ (by omega) (FB hn);have p2:0<a:=HM (a:=n') (by omega) (FB hn');have p3:=kN p1 hlt';have k5:a*a*(n'*n')<=e*n*n*(n'*n'):=Gv (by omega) (FB hnn')
   have k6:a'*a'*(n*n)<e*n'*n'*(n*n):=by
    have e1:e*n'*n'*(n*n)=e*n*n*(n'*n'):=by grind
    have e2:a'*a'*(n*n)=a'*n*(a'*n):=by grind
    have e3:a*a*(n'*n')=a*n'*(a*n'):=by grind
    omega
   exact HM k6 (FB hnn)
  rcases bW (e*n'*n') a' with h |h |h<;>omega
noncomputable def spF(f:List Int):List (List Int):=(if 0<=cf f 1 then[[cf f 0,cf f 1,cf f 2,1]]else[])++(if 0<cf f 1 then[[cf f 0,cf f 1,cf f 2,-1]]else[])
noncomputable def aO(fs:List (List Int)):List (List Int):=fs.flatMap spF
noncomputable def spr(t n:Int):List (List Int)->Int
 | []=>1
 |l::ls => -aV l t n*spr t n ls
theorem qo(t n:Int):∀a b,spr t n (a++b)=spr t n a*spr t n b
 | [],b=>by show _=1*_;rw[FF];rfl
 |x::a,b=>by show _*spr t n (a++b)=_*_*_;rw[qo t n a b,FM]
theorem jc{f l:List Int}{u e b:Int}(hf:f=[u,e,b])(hb:1<=b)(h:l∈spF f):Spt l/\∃s,l=[u,e,b,s]/\0<=e/\(s=1\/s = -1/\0<e):=by
 subst hf;have hd:spF [u,e,b]=(if 0<=e then[[u,e,b,1]]else[])++(if 0<e then[[u,e,b,-1]]else[]):=rfl;rw[hd]at h;rcases Fq.mp h with h |h
 ·by_cases z:0<=e
  ·rw[if_pos z]at h;obtain rfl:=Fv.mp h;exact⟨⟨u,e,b,1,rfl,z,hb,.inl rfl⟩,1,rfl,z,.inl rfl⟩
  ·rw[if_neg z]at h;cases h
 ·by_cases z:0<e
  ·rw[if_pos z]at h;obtain rfl:=Fv.mp h;exact⟨⟨u,e,b,-1,rfl,by omega,hb,.inr rfl⟩,-1,rfl,by omega,.inr ⟨rfl,z⟩⟩
  ·rw[if_neg z]at h;cases h
theorem yv{u e b t n:Int}(hn:0<n):sg (hv t n (aC u e b))=spr t n (spF [u,e,b]):=by
 have hd:spF [u,e,b]=(if 0<=e then[[u,e,b,1]]else[])++(if 0<e then[[u,e,b,-1]]else[]):=rfl;rw[hd];by_cases h0:e=0
 ·subst h0;have er:aC u 0 b=[-u,b]:=by unfold aC;rw[if_pos rfl]
  have ev:hv t n [-u,b]=n*(b*t-u*n):=by show -u*n^2+t*(b*n^1+t*0)=_;grind
  rw[er,ev,ei hn,if_pos (GM _),if_neg (by omega)];show _ = -bz (0*n*n) (b*t-u*n)*1;generalize b*t-u*n=a;rw[FY,FY];have:a<0\/a=0\/0<a:=by omega
  rcases this with h |h |h
  ·have h1:sg a = -1:=by unfold sg;rw[if_pos h]
   rcases bW 0 a with z |z |z<;>omega
  ·subst h;rfl
  ·have h1:sg a=1:=by unfold sg;rw[if_neg (by omega),if_pos h]
   have h2:=FD h h;rcases bW 0 a with z |z |z<;>omega
 ·have er:aC u e b=[u*u-e,-2*b*u,b*b]:=by unfold aC;rw[if_neg h0]
  have ev:hv t n [u*u-e,-2*b*u,b*b]=n*((b*t-u*n)*(b*t-u*n)-e*n*n):=by show(u*u-e)*n^3+t*((-2*b*u)*n^2+t*((b*b)*n^1+t*0))=_;grind
  rw[er,ev,ei hn];by_cases hp:0<=e
  ·rw[if_pos hp,if_pos (by omega)];show _ = -bz (e*n*n) (b*t-u*n)*(-(0-bz (e*n*n) (0-(b*t-u*n)))*1);generalize b*t-u*n=a;have hE:0<e*n*n:=FD (FD (by omega) hn) hn;generalize e*n*n=E at *
   have e1:(0-a)*(0-a)=a*a:=by grind
   have h1:=bW E a;have h2:=bW E (0-a);rw[e1]at h2;have az:a=0->a*a=0:=λz=>by rw[z];rfl
   have s3:(a*a<E/\sg (a*a-E) = -1)\/(a*a=E/\sg (a*a-E)=0)\/(E<a*a/\sg (a*a-E)=1):=by unfold sg;split<;>(try split)<;>omega
   generalize a*a=q at *
   rcases h1 with⟨x1,x2⟩ |⟨x1,x2⟩ |⟨x1,x2⟩<;>rcases h2 with⟨y1,y2⟩ |⟨y1,y2⟩ |⟨y1,y2⟩<;>rw[x1,y1]<;>simp<;>omega
  ·rw[if_neg hp,if_neg (by omega)]
   have h1:0<=(b*t-u*n)*(b*t-u*n):=by
    rcases Int.le_total 0 (b*t-u*n)with z |z
    ·exact FZ z z
    ·exact HX z z
   have h2:e*n*n<0:=by rw[FM];exact HY (by omega) (FD hn hn)
   show sg _=1;unfold sg;rw[if_neg (by omega),if_pos (by omega)]
noncomputable def ao(f:List Int):List Int:=aw (aC (cf f 0) (cf f 1) (cf f 2))
theorem rB(x y:Int):sg (x*y)=sg x*sg y:=by
 rcases Int.lt_trichotomy x 0 with hx |hx |hx
 ·have h1:sg x = -1:=by unfold sg;rw[if_pos hx]
  have e:x*y = -((-x)*y):=by grind
  rw[e,xH,ei (by omega),h1];omega
 ·subst hx;rw[FY];show(0:Int)=0*_;rw[FY]
 ·have h1:sg x=1:=by unfold sg;rw[if_neg (by omega),if_pos hx]
  rw[ei hx,h1,FF]
theorem yV{l:List Int}(h:Tr l)(hne:l≠[])(hp:0<aJ l):∃g:Int,0<g/\l=scL g (aw l):=by
 obtain⟨g,hg,e⟩:=fV h
 have e2:l=scL g (aw l):=by
  apply cL
  ·rw[aP,plain_len]
  ·intro k _;rw[aD,e k]
 have hP:=dD h hne;refine⟨g,?_,e2⟩;obtain⟨r,x,er⟩:=(bX l).resolve_left hne;have hx:aJ l=cf l r.length:=by rw[er,cu,ga]
 obtain⟨r',x',er'⟩:=(bX (aw l)).resolve_left hP.ne;have hx':aJ (aw l)=cf (aw l) r'.length:=by rw[er',cu,ga]
 have hl:r.length=r'.length:=by have:=plain_len l;have h1:=congrArg List.length er;have h2:=congrArg List.length er';simp at h1 h2;omega
 have h3:=e r.length;rw[<- hx,hl,<- hx']at h3;have h4:=hP.pos;rw[h3]at hp;rcases Int.lt_or_gt_of_ne hg with z |z
 ·have:=HY z h4;omega
 ·exact z
theorem xz{u e b t n:Int}(hb:1<=b)(hn:0<n):sg (hv t n (ao [u,e,b]))=spr t n (spF [u,e,b]):=by
 obtain⟨tr,l2⟩:=eL (u:=u) (e:=e) hb;have hne:aC u e b≠[]:=λz=>by rw[z]at l2;simp at l2
 have hlast:0<aJ (aC u e b):=by
  unfold aC;split
  ·show 0<aJ ([-u]++[b]);rw[cu];omega
  ·show 0<aJ ([u*u-e,-2*b*u]++[b*b]);rw[cu];exact FD (by omega) (by omega)
 obtain⟨g,hg,eg⟩:=yV tr hne hlast;rw[<- yv hn];show sg (hv t n (aw (aC u e b)))=_
 have e3:hv t n (aC u e b)=g*hv t n (aw (aC u e b)):=by
  calc hv t n (aC u e b)=hv t n (scL g (aw (aC u e b))):=by rw[<- eg]
   _=_:=oh _ _ _ _
 rw[e3,ei hg]
def gg(f:List Int):Prop:=∃u e b:Int,f=[u,e,b]/\1<=b
theorem sR{t n:Int}(hn:0<n):∀(fs:List (List Int)),(∀f∈fs,gg f)->sg (pr t n (fs.map ao))=spr t n (aO fs)
 | [],_=>rfl
 |f::fs,h=>by
  obtain⟨u,e,b,rfl,hb⟩:=h f (Fl ..);have ih:=sR (t:=t) hn fs λx hx=>h x (Fi _ hx)
  have e1:aO ([u,e,b]::fs)=spF [u,e,b]++aO fs:=by unfold aO;rw[List.flatMap_cons]
  show sg (hv t n (ao [u,e,b])*pr t n (fs.map ao))=_;rw[rB,xz hb hn,ih,e1,qo]
theorem k9{f:List Int}(h:gg f):ao f≠[]/\Tr (ao f):=by obtain⟨u,e,b,rfl,hb⟩:=h;obtain⟨tr,l2⟩:=eL (u:=u) (e:=e) hb;refine⟨λz=>?_,gq tr⟩;have:=plain_len (aC u e b);have z':aw (aC u e b)=[]:=z;rw[z']at this;simp at this;omega
theorem sN{t n c:Int}(hn:0<n){fs:List (List Int)}(h:∀f∈fs,gg f):sg (hv t n (ac [c] (av [1] (fs.map ao))))=sg c*spr t n (aO fs):=by
 have hs:∀s∈fs.map ao,s≠[]/\Tr s:=λs hs=>by obtain⟨x,hx,rfl⟩:=Fe.mp hs;exact k9 (h x hx)
 obtain⟨p1,p2,p3⟩:=fU (fs.map ao) [1] (by simp) ((tr_snoc (r:=[])).mpr (by decide)) hs;have e1:=jV t n (a:=[c]) (b:=av [1] (fs.map ao)) p1 (by simp);have e2:=jU t n (fs.map ao) [1] (by simp) λs h=>(hs s h).1
 rw[iP]at e1 e2;rw[<- sR hn fs h]
 have e3:hv t n (ac [c] (av [1] (fs.map ao)))=c*hv t n (av [1] (fs.map ao)):=by refine Ha (Gc hn) ?_;rw[e1];grind
 rw[e3,rB];have e4:=congrArg sg e2;rw[ei (Gb hn),FF,ei hn]at e4;rw[e4]
def inS(l:List Int)(A B D:Int):Prop:=0<aV l A D/\aV l B D<=0
instance (l:List Int) (A B D:Int):Decidable (inS l A B D):=inferInstanceAs (Decidable (_/\_))
structure Fsm(u e b:Int):Prop where
 u1 : -11<=u
 u2:u<=11
 e0:0<=e
 e1:e<36
 b1:1<=b
 b2:b<=3
theorem tK{u e b s A B D:Int}(h:Fsm u e b)(hs:s=1\/s = -1/\0<e)(hD:2^40<=D)(hw:B=A+128)(hi:inS [u,e,b,s] A B D):((b*A-u*D)*(b*A-u*D)-e*D*D).natAbs<=5000*D.natAbs:=by
 obtain⟨u1,u2,e0,e1,b1,b2⟩:=h;have hDD:0<D:=by omega
 have eB:b*B-u*D=b*A-u*D+128*b:=by rw[hw];grind
 have h36:e*D*D<=6*D*(6*D):=by
  have h1:e*(D*D)<=36*(D*D):=Gv (by omega) (FB (FD hDD hDD));have e2:e*D*D=e*(D*D):=by grind
  have e3:6*D*(6*D)=36*(D*D):=by grind
  omega
 have hE0:0<=e*D*D:=FZ (FZ e0 (by omega)) (by omega)
 have hbig:e=0\/147456<e*D*D:=by
  rcases Int.lt_or_le 0 e with z |z
  ·right;have h1:1*(D*D)<=e*(D*D):=Gv (by omega) (FB (FD hDD hDD));have e2:e*D*D=e*(D*D):=by grind
   have h2:1*D<=D*D:=Gv (by omega) (by omega);omega
  ·left;omega
 rcases hs with rfl |⟨rfl,hp⟩
 ·have i1:0<bz (e*D*D) (b*A-u*D):=hi.1;have i2:bz (e*D*D) (b*B-u*D)<=0:=hi.2;rw[eB]at i2;generalize b*A-u*D=a at *
  have k1:a<0\/a*a<e*D*D:=by rcases bW (e*D*D) a with z |z |z<;>omega
  have k2:0<=a+128*b/\e*D*D<=(a+128*b)*(a+128*b):=by rcases bW (e*D*D) (a+128*b)with z |z |z<;>omega
  by_cases ha:a<0
  ·have q1:=fK k2.1 (show a+128*b<=384 by omega);have z0:e=0:=by omega
   subst z0;have q2:(-a)*(-a)<=384*384:=fK (by omega) (by omega);have q3:(-a)*(-a)=a*a:=by grind
   have q4:0<=a*a:=by rw[<- q3];exact FZ (by omega) (by omega)
   rw[FY,FY];omega
  ·have k3:a*a<e*D*D:=by omega
   have k4:a<6*D:=A2 (by omega) (by omega);have e3:(a+128*b)*(a+128*b)=a*a+256*(b*a)+16384*(b*b):=by grind
   have k5:b*a<=3*a:=Gv b2 (by omega);have k6:b*b<=9:=Int.mul_le_mul b2 b2 (by omega) (by omega);omega
 ·have i1:0<0-bz (e*D*D) (0-(b*A-u*D)):=hi.1;have i2:0-bz (e*D*D) (0-(b*B-u*D))<=0:=hi.2;rw[eB]at i2;have eq1:(b*A-u*D)*(b*A-u*D)=(0-(b*A-u*D))*(0-(b*A-u*D)):=by grind
  have eq2:0-(b*A-u*D+128*b)=0-(b*A-u*D)-128*b:=by omega
  rw[eq1];rw[eq2]at i2;generalize 0-(b*A-u*D)=c at *
  have k1:0<=c/\e*D*D<c*c:=by rcases bW (e*D*D) c with z |z |z<;>omega
  have k2:c-128*b<0\/(c-128*b)*(c-128*b)<=e*D*D:=by rcases bW (e*D*D) (c-128*b)with z |z |z<;>omega
  by_cases hc:c-128*b<0
  ·have q1:=fK k1.1 (show c<=384 by omega);omega
  ·have k3:(c-128*b)*(c-128*b)<=e*D*D:=by omega
   have k4:c-128*b<=6*D:=A7 (by omega) (by omega);have e3:c*c=(c-128*b)*(c-128*b)+256*(b*c)-16384*(b*b):=by grind
   have k5:b*c<=3*c:=Gv b2 (by omega);have k6:0<=b*b:=FZ (by omega) (by omega);omega
theorem wB{u e b A B D:Int}(h:Fsm u e b)(he:0<e)(hD:2^40<=D)(hw:B=A+128)(h1:inS [u,e,b,1] A B D)(h2:inS [u,e,b,-1] A B D):False:=by
 obtain⟨u1,u2,e0,e1,b1,b2⟩:=h;have hDD:0<D:=by omega
 have eB:b*B-u*D=b*A-u*D+128*b:=by rw[hw];grind
 have i1:bz (e*D*D) (b*B-u*D)<=0:=h1.2;have i2:0<0-bz (e*D*D) (0-(b*A-u*D)):=h2.1;rw[eB]at i1;generalize b*A-u*D=a at *
 have k1:0<=a+128*b:=by rcases bW (e*D*D) (a+128*b)with z |z |z<;>omega
 have k2:0<=0-a/\e*D*D<(0-a)*(0-a):=by rcases bW (e*D*D) (0-a)with z |z |z<;>omega
 have k3:=fK k2.1 (show 0-a<=384 by omega);have h3:1*(D*D)<=e*(D*D):=Gv (by omega) (FB (FD hDD hDD));have e2:e*D*D=e*(D*D):=by grind
 have h4:1*D<=D*D:=Gv (by omega) (by omega);omega
theorem b9{x y:Int}{a b:Nat}(hx:x.natAbs<=a)(hy:y.natAbs<=b):(x*y).natAbs<=a*b:=by rw[Fs];exact GR hx hy
theorem AC{u e b u' e' b' A D:Int}(h:Fsm u e b)(h':Fsm u' e' b')(hD:2^40<=D)
 (n1:((b*A-u*D)*(b*A-u*D)-e*D*D).natAbs<=5000*D.natAbs) (n2:((b'*A-u'*D)*(b'*A-u'*D)-e'*D*D).natAbs<=5000*D.natAbs) :
 4*((b*u'-u*b')*(b*u'-u*b'))*(b*b*e')=(b'*b'*e-b*b*e'-(b*u'-u*b')*(b*u'-u*b'))*(b'*b'*e-b*b*e'-(b*u'-u*b')*(b*u'-u*b')):=by
 obtain⟨u1,u2,e0,e1,b1,b2⟩:=h;obtain⟨u1',u2',e0',e1',b1',b2'⟩:=h';obtain⟨N,rfl⟩:=HB (show 0<=D by omega);rw[FU]at n1 n2;have hN:1099511627776<=N:=by omega
 have q9:(b'*b').natAbs<=9:=b9 (a:=3) (b:=3) (by omega) (by omega);have q9':(b*b).natAbs<=9:=b9 (a:=3) (b:=3) (by omega) (by omega);have d1:=b9 q9 n1;have d2:=b9 q9' n2
 have hU:(b*u'-u*b').natAbs<=66:=by have a1:(b*u').natAbs<=3*11:=b9 (by omega) (by omega);have a2:(u*b').natAbs<=11*3:=b9 (by omega) (by omega);omega
 have hE1:(b'*b'*e).natAbs<=9*35:=b9 q9 (by omega);have hE2:(b*b*e').natAbs<=9*35:=b9 q9' (by omega);have r1:(b'*(b*A-u*N))*(b'*(b*A-u*N))=b'*b'*e*(N*N)+b'*b'*((b*A-u*N)*(b*A-u*N)-e*N*N):=by grind
 have r2:(b*(b'*A-u'*N))*(b*(b'*A-u'*N))=b*b*e'*(N*N)+b*b*((b'*A-u'*N)*(b'*A-u'*N)-e'*N*N):=by grind
 have r3:b'*(b*A-u*N)=b*(b'*A-u'*N)+(b*u'-u*b')*N:=by grind
 generalize b'*b'*((b*A-u*N)*(b*A-u*N)-e*N*N)=δ1 at *
 generalize b*b*((b'*A-u'*N)*(b'*A-u'*N)-e'*N*N)=δ2 at *
 rw[r3]at r1;generalize b*(b'*A-u'*N)=Y at *
 generalize b*u'-u*b'=U at *
 generalize b'*b'*e=E1 at *
 generalize b*b*e'=E2 at *
 clear n1 n2 q9 q9' r3 u1 u2 e0 e1 b1 b2 u1' u2' e0' e1' b1' b2' hD;have hUU:(U*U).natAbs<=66*66:=b9 hU hU;have hW:(E1-E2-U*U).natAbs<=4986:=by omega
 generalize hWd:E1-E2-U*U=W at *
 have r4:2*U*N*Y=W*(N*N)+(δ1-δ2):=by rw[<- hWd];grind
 have r5:(2*U*N*Y)*(2*U*N*Y)=4*(U*U)*(N*N)*(Y*Y):=by grind
 rw[r4,r2]at r5;have hM:(δ1-δ2).natAbs<=90000*N:=by omega
 have hδ2:δ2.natAbs<=45000*N:=by omega
 generalize δ1-δ2=δ at *
 have hNN:(0:Int)<(N:Int)*N:=FD (by omega) (by omega);have r6:(4*(U*U)*E2-W*W)*(N*N)*(N*N)=2*W*δ*(N*N)+δ*δ-4*(U*U)*δ2*(N*N):=by grind
 refine Int.sub_eq_zero.mp (Classical.byContradiction λhne=>?_);generalize hZ:4*(U*U)*E2-W*W=Z at *
 have hZ1:1<=Z.natAbs:=by omega
 have b1:(Z*(N*N)*(N*N)).natAbs=Z.natAbs*(N*N)*(N*N):=by rw[Fs,Fs,Fs,FU]
 have t1:(2*W*δ*(N*N)).natAbs<=2*4986*(90000*N)*(N*N):=by refine b9 (b9 (b9 (by decide) hW) hM) ?_;rw[Fs,FU];exact Fg _
 have t2:(δ*δ).natAbs<=90000*N*(90000*N):=b9 hM hM
 have t3:(4*(U*U)*δ2*(N*N)).natAbs<=4*(66*66)*(45000*N)*(N*N):=by refine b9 (b9 (b9 (by decide) hUU) hδ2) ?_;rw[Fs,FU];exact Fg _
 have t4:1*(N*N)*(N*N)<=Z.natAbs*(N*N)*(N*N):=Ga _ (Ga _ hZ1);rw[<- b1,r6]at t4;have e1:2*4986*(90000*N)*(N*N)=897480000*(N*N*N):=by grind
 have e2:90000*N*(90000*N)=8100000000*(N*N):=by grind
 have e3:4*(66*66)*(45000*N)*(N*N)=784080000*(N*N*N):=by grind
 have e4:1*(N*N)*(N*N)=N*(N*N*N):=by grind
 have m1:1*(N*N)<=N*(N*N):=Ga _ (by omega);have m2:1099511627776*(N*N*N)<=N*(N*N*N):=Ga _ hN;have m3:N*(N*N)=N*N*N:=by grind
 have m4:0<N*N*N:=Nat.mul_pos (Nat.mul_pos (by omega) (by omega)) (by omega);generalize N*N*N=n3 at *
 omega
theorem xB{u e b u' e' b':Int}(h:Fsm u e b)(h':Fsm u' e' b')(hs:NS e)(hs':NS e')
 (eq:4*((b*u'-u*b')*(b*u'-u*b'))*(b*b*e')=(b'*b'*e-b*b*e'-(b*u'-u*b')*(b*u'-u*b'))*(b'*b'*e-b*b*e'-(b*u'-u*b')*(b*u'-u*b'))):ao [u,e,b]=ao [u',e',b']:=by
 obtain⟨u1,u2,e0,e1,b1,b2⟩:=h;obtain⟨u1',u2',e0',e1',b1',b2'⟩:=h'
 have key:b*u'-u*b'=0/\b'*b'*e=b*b*e':=by
  by_cases hz:e'=0
  ·subst hz
   have e3:(b'*b'*e-(b*u'-u*b')*(b*u'-u*b'))*(b'*b'*e-(b*u'-u*b')*(b*u'-u*b'))=0:=by
    have:b*b*(0:Int)=0:=Fp _;rw[this]at eq;rw[Fp]at eq;have h9:b'*b'*e-0-(b*u'-u*b')*(b*u'-u*b')=b'*b'*e-(b*u'-u*b')*(b*u'-u*b'):=by omega
    rw[h9]at eq;exact eq.symm
   have e4:b'*b'*e=(b*u'-u*b')*(b*u'-u*b'):=by rcases Gh.mp e3 with z |z<;>omega
   by_cases hz2:e=0
   ·subst hz2;rw[Fp]at e4;refine⟨?_,by rw[Fp,Fp]⟩;rcases Gh.mp e4.symm with z |z<;>exact z
   ·exact(hs.no hz2 (by omega) e4).elim
  ·by_cases hU:b*u'-u*b'=0
   ·rw[hU]at eq
    have e3:(b'*b'*e-b*b*e')*(b'*b'*e-b*b*e')=0:=by
     have h8:4*((0:Int)*0)*(b*b*e')=0:=by rw[Fp,Fp,FY]
     rw[h8]at eq;have h9:b'*b'*e-b*b*e'-0*0=b'*b'*e-b*b*e':=by omega
     rw[h9]at eq;exact eq.symm
    refine⟨hU,?_⟩;rcases Gh.mp e3 with z |z<;>omega
   ·refine(hs'.no hz (x:=2*(b*u'-u*b')*b) (Ft (Ft (by decide) hU) (by omega)) (Eq.trans ?_ eq)).elim;grind
 obtain⟨k1,k2⟩:=key;show aw (aC u e b)=aw (aC u' e' b');obtain⟨tr,l2⟩:=eL (u:=u) (e:=e) b1;obtain⟨tr',l2'⟩:=eL (u:=u') (e:=e') b1';have hne:aC u e b≠[]:=λz=>by rw[z]at l2;simp at l2
 have hne':aC u' e' b'≠[]:=λz=>by rw[z]at l2';simp at l2'
 have hz:e=0↔e'=0:=by
  constructor
  ·intro z;rw[z,Fp]at k2;rcases Gh.mp k2.symm with y |y
   ·rcases Gh.mp y with y |y<;>omega
   ·exact y
  ·intro z;rw[z,Fp]at k2;rcases Gh.mp k2 with y |y
   ·rcases Gh.mp y with y |y<;>omega
   ·exact y
 have prop:∃x y:Int,x≠0/\y≠0/\∀n,x*cf (aC u' e' b') n=y*cf (aC u e b) n:=by
  by_cases h0:e=0
  ·have h0':=hz.mp h0;refine⟨b,b',by omega,by omega,λn=>?_⟩;unfold aC;rw[if_pos h0,if_pos h0',vA,vA];split
   ·have:b*u'=u*b':=by omega
    grind
   ·split
    ·grind
    ·omega
  ·have h0':¬e'=0:=λz=>h0 (hz.mpr z)
   refine⟨b*b,b'*b',Ft (by omega) (by omega),Ft (by omega) (by omega),λn=>?_⟩;have k3:b*u'=u*b':=by omega
   unfold aC;rw[if_neg h0,if_neg h0']
   match n with
   |0 =>
    show b*b*(u'*u'-e')=b'*b'*(u*u-e);have:(b*u')*(b*u')=(u*b')*(u*b'):=by rw[k3]
    grind
   |1 =>
    show b*b*(-2*b'*u')=b'*b'*(-2*b*u);have:b*b'*(b*u')=b*b'*(u*b'):=by rw[k3]
    grind
   |2 =>show b*b*(b'*b')=b'*b'*(b*b);grind
   |n+3 =>show b*b*0=b'*b'*0;omega
 obtain⟨x,y,hx,hy,hp⟩:=prop;refine sT (dD tr hne) (dD tr' hne') ?_ ?_
 ·rw[Dv.plain tr'];refine Dv.prop_right hx hp ?_;obtain⟨g,hg,eg⟩:=fV tr;exact⟨1,[g],by decide,λn=>by rw[cw,<- eg];omega⟩
 ·rw[Dv.plain tr];refine Dv.prop_right (x:=y) (y:=x) hy (λn=>(hp n).symm) ?_;obtain⟨g,hg,eg⟩:=fV tr';exact⟨1,[g],by decide,λn=>by rw[cw,<- eg];omega⟩
def FacG(f:List Int):Prop:=∃u e b:Int,f=[u,e,b] /\ -11<=u/\u<=11 /\ -36<e/\e<36/\1<=b/\b<=3/\NS e
theorem FacG.q{f:List Int}(h:FacG f):gg f:=by obtain⟨u,e,b,rfl,_,_,_,_,h5,_⟩:=h;exact⟨u,e,b,rfl,h5⟩
def wn(l l':List Int):Prop:=∀A B D:Int,2^40<=D->B=A+128->inS l A B D->inS l' A B D->False
theorem jb{fs:List (List Int)}(hF:∀f∈fs,FacG f)(hn:(fs.map ao).Nodup):(aO fs).Pairwise wn:=by
 unfold aO;rw[List.pairwise_flatMap];constructor
 ·intro f hf;obtain⟨u,e,b,rfl,h1,h2,h3,h4,h5,h6,h7⟩:=hF f hf;have hd:spF [u,e,b]=(if 0<=e then[[u,e,b,1]]else[])++(if 0<e then[[u,e,b,-1]]else[]):=rfl;rw[hd];by_cases z:0<e
  ·rw[if_pos (by omega),if_pos z];show List.Pairwise _ [[u,e,b,1],[u,e,b,-1]];refine List.pairwise_pair.mpr λA B D hD hw a1 a2=>?_
   exact wB ⟨h1,h2,by omega,h4,h5,h6⟩ z hD hw a1 a2
  ·rw[if_neg z];split
   ·exact List.pairwise_singleton _ _
   ·exact List.Pairwise.nil
 ·rw[List.nodup_iff_pairwise_ne,HN]at hn;refine hn.imp_of_mem λ{f g} hf hg hne x hx y hy A B D hD hw a1 a2=>hne ?_
  obtain⟨u,e,b,rfl,h1,h2,h3,h4,h5,h6,h7⟩:=hF f hf;obtain⟨u',e',b',rfl,h1',h2',h3',h4',h5',h6',h7'⟩:=hF g hg;obtain⟨_,s,rfl,he,hs⟩:=jc rfl h5 hx;obtain⟨_,s',rfl,he',hs'⟩:=jc rfl h5' hy;have F1:Fsm u e b:=⟨h1,h2,he,h4,h5,h6⟩;have F2:Fsm u' e' b':=⟨h1',h2',he',h4',h5',h6'⟩;exact xB F1 F2 h7 h7' (AC F1 F2 hD (tK F1 hs hD hw a1) (tK F2 hs' hD hw a2))
theorem dz{fs:List (List Int)}(hF:∀f∈fs,gg f){l:List Int}(hl:l∈aO fs):Spt l:=by obtain⟨f,hf,hm⟩:=List.mem_flatMap.mp hl;obtain⟨u,e,b,rfl,hb⟩:=hF f hf;exact(jc rfl hb hm).1
noncomputable def pv:List Int->Rat->Rat
 | [],_=>0
 |c::l,x=>(c:Rat)+x*pv l x
theorem sy:∀(N:Nat) (a b c:List Int) (u v:Int) (x:Rat),a.length<=N->b.length<=N->c.length<=N->(∀n,cf c n=u*cf a n+v*cf b n)->pv c x=(u:Rat)*pv a x+(v:Rat)*pv b x
 |0,a,b,c,u,v,x,ha,hb,hc,_=>by rw[GS (Nat.le_zero.mp ha),GS (Nat.le_zero.mp hb),GS (Nat.le_zero.mp hc)];show(0:Rat)=u*0+v*0;grind
 |N+1,a,b,c,u,v,x,ha,hb,hc,h=>by
  have key:∀l:List Int,l.length<=N+1->pv l x=(cf l 0:Rat)+x*pv l.tail x/\l.tail.length<=N/\∀n,cf l.tail n=cf l (n+1):=λl hl=>by
   cases l with
   |nil=>exact⟨by show(0:Rat)=((0:Int):Rat)+x*0;grind,Fj _,λn=>by rw[b6];rfl⟩
   |cons y l=>exact⟨rfl,by simpa using hl,λn=>rfl⟩
  obtain⟨a1,a2,a3⟩:=key a ha;obtain⟨b1,b2,b3⟩:=key b hb;obtain⟨c1,c2,c3⟩:=key c hc;have ih:=sy N a.tail b.tail c.tail u v x a2 b2 c2 λn=>by rw[a3,b3,c3,h]
  have h0:(cf c 0:Rat)=(u:Rat)*(cf a 0:Rat)+(v:Rat)*(cf b 0:Rat):=by rw[h 0,Hb,FJ,FJ]
  rw[a1,b1,c1,ih,h0];grind
theorem gN{a b c:List Int}{u v:Int}(x:Rat)(h:∀n,cf c n=u*cf a n+v*cf b n):pv c x=(u:Rat)*pv a x+(v:Rat)*pv b x :=
 sy (a.length+b.length+c.length) a b c u v x (by omega) (by omega) (by omega) h
theorem cC{a c:List Int}{u:Int}(x:Rat)(h:∀n,cf c n=u*cf a n):pv c x=(u:Rat)*pv a x:=by
 have:=gN (a:=a) (b:=[]) (c:=c) (u:=u) (v:=0) x λn=>by rw[h n,FY,FT]
 rw[this];show _+((0:Int):Rat)*0=_;grind
theorem eY(x:Rat):∀(a b c:List Int),(∀n,cf c n=ak a b n)->pv c x=pv a x*pv b x
 | [],b,c,h=>by
  have:=cC (a:=[]) (c:=c) (u:=0) x λn=>by rw[h n,df];simp
  rw[this];show _=(0:Rat)*_;show((0:Int):Rat)*0=0*_;grind
 |y::a,b,c,h=>by
  have ih:=eY x a b (ac a b) (ap a b)
  have:=gN (a:=b) (b:=0::ac a b) (c:=c) (u:=y) (v:=1) x λn=>by
   rw[h n,cI,ka,FF]
   congr 1
   unfold up;split
   ·rfl
   ·rw[ap]
  rw[this];show(y:Rat)*pv b x+((1:Int):Rat)*(((0:Int):Rat)+x*pv (ac a b) x)=((y:Rat)+x*pv a x)*pv b x;rw[ih];grind
theorem cQ{a b:Rat}(ha:0<a)(hb:0<b):0<a/b:=by rw[Rat.div_def];exact Gn ha (Rat.inv_pos.mpr hb)
noncomputable def Bd(M v:Rat):Prop := -M<=v/\v<=M
theorem Bd.mul{M N u v:Rat}(h1:Bd M u)(h2:Bd N v):Bd (M*N) (u*v):=by obtain⟨a,b⟩:=h1;obtain⟨c,d⟩:=h2;have p1:0<=(M-u)*(N-v):=Fx (by grind) (by grind);have p2:0<=(M+u)*(N+v):=Fx (by grind) (by grind);have p3:0<=(M-u)*(N+v):=Fx (by grind) (by grind);have p4:0<=(M+u)*(N-v):=Fx (by grind) (by grind);constructor<;>grind
theorem Bd.add{M N u v:Rat}(h1:Bd M u)(h2:Bd N v):Bd (M+N) (u+v):=by obtain⟨a,b⟩:=h1;obtain⟨c,d⟩:=h2;constructor<;>grind
theorem Bd.mono{M N u:Rat}(h1:Bd M u)(h:M<=N):Bd N u:=by obtain⟨a,b⟩:=h1;constructor<;>grind
def Nice(f:Rat->Rat):Prop:=∀R:Rat,0<=R->∃M:Rat,0<=M/\(∀x,Bd R x->Bd M (f x))/\∀x y,Bd R x->Bd R y->x<=y->Bd (M*(y-x)) (f y-f x)
theorem dE(c:Rat):Nice λ_=>c:=λR _=>by
 rcases Go (a:=0) (b:=c)with h |h
 ·exact⟨c,h,λx _=>⟨by grind,by grind⟩,λx y _ _ hxy=>by
   have:=Fx h (show 0<=y-x by grind)
   exact⟨by grind,by grind⟩⟩
 ·exact⟨-c,by grind,λx _=>⟨by grind,by grind⟩,λx y _ _ hxy=>by
   have:=Fx (show 0 <= -c by grind) (show 0<=y-x by grind)
   exact⟨by grind,by grind⟩⟩
theorem nice_id:Nice λx=>x:=λR hR=>by refine⟨R+1,by grind,λx h=>h.mono (by grind),λx y _ _ hxy=>?_⟩;have:=Fx hR (show 0<=y-x by grind);exact⟨by grind,by grind⟩
theorem Nice.add{f g:Rat->Rat}(hf:Nice f)(hg:Nice g):Nice λx=>f x+g x:=λR hR=>by
 obtain⟨M,m0,m1,m2⟩:=hf R hR;obtain⟨N,n0,n1,n2⟩:=hg R hR;refine⟨M+N,by grind,λx h=>(m1 x h).add (n1 x h),λx y hx hy hxy=>?_⟩;have:=(m2 x y hx hy hxy).add (n2 x y hx hy hxy);have e1:M*(y-x)+N*(y-x)=(M+N)*(y-x):=by grind
 have e2:f y-f x+(g y-g x)=f y+g y-(f x+g x):=by grind
 rwa [e1,e2]at this
theorem Nice.mul{f g:Rat->Rat}(hf:Nice f)(hg:Nice g):Nice λx=>f x*g x:=λR hR=>by
 obtain⟨M,m0,m1,m2⟩:=hf R hR;obtain⟨N,n0,n1,n2⟩:=hg R hR;have p:=Fx m0 n0;refine⟨2*(M*N),by grind,λx h=>((m1 x h).mul (n1 x h)).mono (by grind),λx y hx hy hxy=>?_⟩;have:=((m2 x y hx hy hxy).mul (n1 y hy)).add ((m1 x hx).mul (n2 x y hx hy hxy));have e1:M*(y-x)*N+M*(N*(y-x))=2*(M*N)*(y-x):=by grind
 have e2:(f y-f x)*g y+f x*(g y-g x)=f y*g y-f x*g x:=by grind
 rwa [e1,e2]at this
theorem cq:∀l:List Int,Nice (pv l)
 | []=>dE 0
 |c::l=>(dE (c:Rat)).add (nice_id.mul (cq l))
theorem mY:∀(l:List Int) (R:Rat),0<=R->∃M:Rat,0<=M/\∀x y,Bd R x->Bd R y->x<=y->Bd (M*((y-x)*(y-x))) (pv l y-pv l x-(y-x)*pv (slopeL l) x)
 | [],R,_=>⟨0,by grind,λx y _ _ _=>by
  have e:pv [] y-pv [] x-(y-x)*pv (slopeL []) x=0:=by show(0:Rat)-0-(y-x)*0=0;grind
  rw[e];constructor<;>grind⟩
 |c::l,R,hR=>by
  obtain⟨M,m0,m1⟩:=mY l R hR;obtain⟨N,n0,n1,n2⟩:=cq l R hR;have p:=Fx hR m0;refine⟨N+R*M,by grind,λx y hx hy hxy=>?_⟩
  have hd:pv (slopeL (c::l)) x=pv l x+x*pv (slopeL l) x:=by
   have:=gN (a:=l) (b:=0::slopeL l) (c:=slopeL (c::l)) (u:=1) (v:=1) x λn=>rh c l n
   rw[this];show((1:Int):Rat)*pv l x+((1:Int):Rat)*(((0:Int):Rat)+x*pv (slopeL l) x)=_;grind
  have hz:Bd (y-x) (y-x):=⟨by grind,by grind⟩;have:=(hz.mul (n2 x y hx hy hxy)).add (hx.mul (m1 x y hx hy hxy));have e1:(y-x)*(N*(y-x))+R*(M*((y-x)*(y-x)))=(N+R*M)*((y-x)*(y-x)):=by grind
  have e2:(y-x)*(pv l y-pv l x)+x*(pv l y-pv l x-(y-x)*pv (slopeL l) x)=pv (c::l) y-pv (c::l) x-(y-x)*pv (slopeL (c::l)) x:=by rw[hd];show _=((c:Rat)+y*pv l y)-((c:Rat)+x*pv l x)-_;grind
  rwa [e1,e2]at this
noncomputable def sgR(v:Rat):Int:=if v<0 then -1 else if 0<v then 1 else 0
theorem aZ(v:Rat):(v<0/\sgR v = -1)\/(v=0/\sgR v=0)\/(0<v/\sgR v=1):=by
 unfold sgR;by_cases h:v<0
 ·exact .inl ⟨h,by rw[if_pos h]⟩
 ·by_cases h2:0<v
  ·exact .inr (.inr ⟨h2,by rw[if_neg h,if_pos h2]⟩)
  ·exact .inr (.inl ⟨by grind,by rw[if_neg h,if_neg h2]⟩)
def Sta(f:Rat->Rat)(x y:Rat):Prop:=sgR (f x)=sgR (f y)/\sgR (f x)≠0
theorem nv{f:Rat->Rat}{x y D:Rat}(h:¬Sta f x y)(hd:Bd D (f y-f x)):Bd D (f x)/\Bd D (f y):=by
 obtain⟨d1,d2⟩:=hd
 have key:(f x<=0/\0<=f y)\/(0<=f x/\f y<=0):=by
  rcases aZ (f x)with⟨a,b⟩ |⟨a,b⟩ |⟨a,b⟩<;>rcases aZ (f y)with⟨c,d⟩ |⟨c,d⟩ |⟨c,d⟩
  ·exact absurd ⟨by rw[b,d],by rw[b];decide⟩ h
  ·exact .inl ⟨by grind,by grind⟩
  ·exact .inl ⟨by grind,by grind⟩
  ·exact .inr ⟨by grind,by grind⟩
  ·exact .inl ⟨by grind,by grind⟩
  ·exact .inl ⟨by grind,by grind⟩
  ·exact .inr ⟨by grind,by grind⟩
  ·exact .inr ⟨by grind,by grind⟩
  ·exact absurd ⟨by rw[b,d],by rw[b];decide⟩ h
 rcases key with⟨a,b⟩ |⟨a,b⟩
 ·exact⟨⟨by grind,by grind⟩,⟨by grind,by grind⟩⟩
 ·exact⟨⟨by grind,by grind⟩,⟨by grind,by grind⟩⟩
inductive SRow:List (List Int)->Prop
 |last {c:Int} (h:c≠0):SRow [[c]]
 |two {a:List Int} {c:Int} (h:c≠0):SRow [a,[c]]
 |cons {a b c:List Int} {r:List (List Int)} {q:List Int} {α β:Rat} (hα:0<α) (hβ:0<β) (e:∀x,α*pv a x=pv q x*pv b x-β*pv c x) (h:SRow (b::c::r)):SRow (a::b::c::r)
theorem iE(c:Int)(x:Rat):pv [c] x=(c:Rat):=by show(c:Rat)+x*0=c;grind
theorem bez:∀{row:List (List Int)},SRow row->∀a b r,row=a::b::r->∃(A B:Rat->Rat) (k:Rat),Nice A/\Nice B/\k≠0/\∀x,A x*pv a x+B x*pv b x=k
 |_,.last h,a,b,r,e=>by cases e
 |_,.two (c:=c) h,a,b,r,e=>by cases e;refine⟨λ_=>0,λ_=>1,(c:Rat),dE 0,dE 1,λz=>h (Hc.mp (by rw[z];rfl)),λx=>?_⟩;rw[iE];grind
 |_,.cons (a:=a0) (b:=b0) (c:=c) (q:=q) (α:=α) (β:=β) hα hβ eq h,a,b,r,e=>by
  cases e;obtain⟨A,B,k,nA,nB,hk,hAB⟩:=bez h _ _ _ rfl;refine⟨λx=>(-α)*B x,λx=>β*A x+B x*pv q x,β*k,(dE (-α)).mul nB,((dE β).mul nA).add (nB.mul (cq q)),λz=>?_,λx=>?_⟩
  ·rcases GF.mp z with y |y
   ·grind
   ·exact hk y
  ·have h1:=hAB x;have h2:=eq x;have:(-α)*B x*pv a0 x+(β*A x+B x*pv q x)*pv b0 x=B x*(pv q x*pv b0 x-α*pv a0 x)+β*A x*pv b0 x:=by grind
   rw[this,h2];have:B x*(pv q x*pv b0 x-(pv q x*pv b0 x-β*pv c x))+β*A x*pv b0 x=β*(A x*pv b0 x+B x*pv c x):=by grind
   rw[this,h1]
theorem sY{a b:Rat->Rat}(na:Nice a)(nb:Nice b){A B:Rat->Rat}{k:Rat}(nA:Nice A)(nB:Nice B)(hk:0<k)(hAB:∀x,A x*a x+B x*b x=k\/A x*a x+B x*b x = -k){R:Rat}(hR:0<=R) :
 ∃(δ κ:Rat),0<δ/\0<κ/\∀x y,Bd R x->Bd R y->x<y->y-x<=δ->¬Sta a x y->Sta b x y/\(κ<=b x\/b x <= -κ)/\(κ<=b y\/b y <= -κ):=by
 obtain⟨M1,p1,q1,r1⟩:=na R hR;obtain⟨M2,p2,q2,r2⟩:=nb R hR;obtain⟨M3,p3,q3,_⟩:=nA R hR;obtain⟨M4,p4,q4,_⟩:=nB R hR;have h31:=Fx p3 p1;have h42:=Fx p4 p2;have hT:0<2*(M3*M1+M4*M2+1):=by grind
 have hT4:0<2*(M4+1):=by grind
 refine⟨k/(2*(M3*M1+M4*M2+1)),k/(2*(M4+1)),cQ hk hT,cQ hk hT4,λx y hx hy hxy hd hs=>?_⟩
 have hd':(y-x)*(2*(M3*M1+M4*M2+1))<=k:=by
  have:=FP hd (Fn hT)
  rwa [FG (by grind)]at this
 have hyx:0<y-x:=by grind
 obtain⟨a1,a2⟩:=nv hs (r1 x y hx hy (by grind));have hM1:0<=M1*(y-x):=Fx p1 (Fn hyx)
 have far:∀z,Bd R z->Bd (M1*(y-x)) (a z)->k/(2*(M4+1))<=b z\/b z <= -(k/(2*(M4+1))):=λz hz ha=>by
  have e1:=(q3 z hz).mul ha
  have e2:2*(M3*(M1*(y-x)))<=k:=by have h1:=Fx h42 (Fn hyx);grind
  have hB:(k<=2*(B z*b z))\/(2*(B z*b z) <= -k):=by
   obtain⟨f1,f2⟩:=e1;rcases hAB z with g |g
   ·left;grind
   ·right;grind
  rcases Go (a:=k/(2*(M4+1))) (b:=b z)with g |g
  ·exact .inl g
  ·rcases Go (a:=b z) (b := -(k/(2*(M4+1))))with g2 |g2
   ·exact .inr g2
   ·exfalso;have hb:Bd (k/(2*(M4+1))) (b z):=⟨g2,g⟩;obtain⟨f1,f2⟩:=(q4 z hz).mul hb
    have e3:2*(M4*(k/(2*(M4+1))))<k:=by
     have e4:k/(2*(M4+1))*(2*(M4+1))=k:=FG (by grind);have e5:=cQ hk hT4;generalize k/(2*(M4+1))=w at *
     grind
    rcases hB with g3 |g3<;>grind
 refine⟨Classical.byContradiction λhs2=>?_,far x hx a1,far y hy a2⟩;obtain⟨b1,b2⟩:=nv hs2 (r2 x y hx hy (by grind));obtain⟨e1,e2⟩:=(q3 x hx).mul a1;obtain⟨e3,e4⟩:=(q4 x hx).mul b1;have hM:0<=(M3*M1+M4*M2)*(y-x):=Fx (by grind) (Fn hyx);have e5:M3*(M1*(y-x))+M4*(M2*(y-x))=(M3*M1+M4*M2)*(y-x):=by grind
 have e6:(y-x)*(2*(M3*M1+M4*M2+1))=2*((M3*M1+M4*M2)*(y-x))+2*(y-x):=by grind
 rcases hAB x with g |g<;>grind
theorem vI{row:List (List Int)}(h:SRow row){a b:List Int}{r:List (List Int)}(e:row=a::b::r):∃(A B:Rat->Rat) (k:Rat),Nice A/\Nice B/\0<k/\∀x,A x*pv a x+B x*pv b x=k\/A x*pv a x+B x*pv b x = -k:=by
 obtain⟨A,B,k,nA,nB,hk,hAB⟩:=bez h a b r e;rcases Go (a:=0) (b:=k)with g |g
 ·exact⟨A,B,k,nA,nB,by grind,λx=>.inl (hAB x)⟩
 ·exact⟨A,B,-k,nA,nB,by grind,λx=>.inr (by rw[hAB x];grind)⟩
noncomputable def vr:Int->List Int->Int
 |_,[]=>0
 |b,s::r=>(if s*b<0 then 1 else 0)+vr (if s=0 then b else s) r
theorem vv:∀(l:List Int) (n b:Int),l.foldl chF (n,b)=(n+vr b l,(l.foldl chF (n,b)).2)
 | [],n,b=>by show(n,b)=(n+0,b);rw[FT]
 |s::r,n,b=>by
  show r.foldl chF (chF (n,b) s)=(n+((if s*b<0 then 1 else 0)+vr (if s=0 then b else s) r),(r.foldl chF (chF (n,b) s)).2)
  have e:chF (n,b) s=(n+(if s*b<0 then 1 else 0),if s=0 then b else s):=by
   unfold chF;by_cases h:s*b<0
   ·rw[if_pos h,if_pos h]
   ·rw[if_neg h,if_neg h,FT]
  rw[e];have:=vv r (n+(if s*b<0 then 1 else 0)) (if s=0 then b else s);rw[Int.add_assoc]at this;exact this
theorem vz(l:List Int):(chS l).1=vr 0 l:=by unfold chS;rw[vv l 0 0];show 0+vr 0 l=_;omega
def fF(s:Int):Prop:=s=1\/s=0\/s = -1
inductive Al:Int->List Int->List Int->Prop
 |nil {b:Int}:Al b [] []
 |stab {b s:Int} {r r':List Int} (h:s≠0) (t:Al s r r'):Al b (s::r) (s::r')
 |unst {b s s':Int} {r r':List Int} (h1:fF s) (h2:fF s') (t:Al (-b) r r'):Al b (s :: -b::r) (s' :: -b::r')
theorem pH{b s:Int}(hb:b=1\/b = -1)(hs:fF s)(r:List Int):vr b (s :: -b::r)=1+vr (-b) r:=by
 have hb0:¬(-b=0):=by omega
 rcases hs with rfl |rfl |rfl
 ·rcases hb with rfl |rfl<;>simp[vr]
 ·rcases hb with rfl |rfl<;>simp[vr]
 ·rcases hb with rfl |rfl<;>simp[vr]
theorem Al.vr:∀{b:Int} {r r':List Int},Al b r r'->(b=1\/b = -1)->(∀s∈r,fF s)->RM.vr b r=RM.vr b r'
 |_,_,_,.nil,_,_=>rfl
 |b,_,_,.stab (s:=s) (r:=r) (r':=r') h t,hb,hu=>by
  have hs:fF s:=hu s (Fl ..);have hs':s=1\/s = -1:=by rcases hs with z |z |z;exact .inl z;exact absurd z h;exact .inr z
  have ih:=Al.vr t hs' λx hx=>hu x (Fi _ hx)
  show _+RM.vr (if s=0 then b else s) r=_+RM.vr (if s=0 then b else s) r';rw[if_neg h,ih]
 |b,_,_,.unst h1 h2 t,hb,hu=>by
  have ih:=Al.vr t (by omega) λx hx=>hu x (Fi _ (Fi _ hx))
  rw[pH hb h1,pH hb h2,ih]
noncomputable def sgX(row:List (List Int))(x:Rat):List Int:=row.map λf=>sgR (pv f x)
theorem jk(v:Rat):fF (sgR v):=by
 rcases aZ v with⟨_,h⟩ |⟨_,h⟩ |⟨_,h⟩<;>rw[h]
 ·exact .inr (.inr rfl)
 ·exact .inr (.inl rfl)
 ·exact .inl rfl
theorem rD(row:List (List Int))(x:Rat):∀s∈sgX row x,fF s:=λs hs=>by obtain⟨f,_,rfl⟩:=Fe.mp hs;exact jk _
def vQ(row:List (List Int))(R:Rat):Prop:=∃δ:Rat,0<δ/\∀x y,Bd R x->Bd R y->x<y->y-x<=δ->∀a r,row=a::r->Sta (pv a) x y->Al (sgR (pv a x)) (sgX r x) (sgX r y)
theorem xK{c:Int}(h:c≠0):sgR (c:Rat)≠0:=by
 rcases aZ (c:Rat)with⟨_,e⟩ |⟨z,_⟩ |⟨_,e⟩
 ·rw[e];decide
 ·exact absurd (Hc.mp (by rw[z];rfl)) h
 ·rw[e];decide
theorem uc:∀{row:List (List Int)},SRow row->∀R:Rat,0<=R->vQ row R/\vQ row.tail R
 |_,.last h,R,_=>⟨⟨1,by grind,λx y _ _ _ _ a r e _=>by cases e;exact .nil⟩,⟨1,by grind,λx y _ _ _ _ a r e _=>by cases e⟩⟩
 |_,.two (c:=c) h,R,_=>by refine⟨⟨1,by grind,λx y _ _ _ _ a r e _=>?_⟩,⟨1,by grind,λx y _ _ _ _ a r e _=>by cases e;exact .nil⟩⟩;cases e;show Al _ [sgR (pv [c] x)] [sgR (pv [c] y)];rw[iE,iE];exact .stab (xK h) .nil
 |_,.cons (a:=a) (b:=b) (c:=c) (r:=r) (q:=q) (α:=α) (β:=β) hα hβ eq h,R,hR=>by
  obtain⟨⟨δ1,d1,l1⟩,⟨δ2,d2,l2⟩⟩:=uc h R hR;refine⟨?_,⟨δ1,d1,l1⟩⟩;obtain⟨A,B,k,nA,nB,hk,hAB⟩:=vI h rfl;obtain⟨δ3,κ,d3,hκ,l3⟩:=sY (cq b) (cq c) nA nB hk hAB hR;obtain⟨M,m0,m1,m2⟩:=cq b R hR;obtain⟨N,n0,n1,_⟩:=cq q R hR;have hMN:=Fx n0 m0;have hT:0<N*M+1:=by grind
  have hβκ:=Gn hβ hκ
  obtain⟨δ,hδ,g1,g2,g3,g4⟩:∃δ:Rat,0<δ/\δ<=δ1/\δ<=δ2/\δ<=δ3/\δ*(N*M+1)<=β*κ:=by
   have hw:=cQ hβκ hT;have hw2:β*κ/(N*M+1)*(N*M+1)=β*κ:=FG (by grind)
   have two:∀u v:Rat,0<u->0<v->∃w:Rat,0<w/\w<=u/\w<=v:=λu v hu hv=>by
    rcases Go (a:=u) (b:=v)with z |z
    ·exact⟨u,hu,FS,z⟩
    ·exact⟨v,hv,z,FS⟩
   obtain⟨u,hu,u1,u2⟩:=two δ1 δ2 d1 d2;obtain⟨v,hv,v1,v2⟩:=two u δ3 hu d3;obtain⟨w,hw',w1,w2⟩:=two v _ hv hw;refine⟨w,hw',by grind,by grind,by grind,?_⟩;have:=FP w2 (Fn hT)
   rwa [hw2]at this
  refine⟨δ,hδ,λx y hx hy hxy hd a' r' e sa=>?_⟩;cases e;show Al (sgR (pv a x)) (sgR (pv b x)::sgX (c::r) x) (sgR (pv b y)::sgX (c::r) y);by_cases sb:Sta (pv b) x y
  ·have t:=l1 x y hx hy hxy (by grind) b (c::r) rfl sb;rw[<- sb.1];exact .stab sb.2 t
  ·obtain⟨sc,c1,c2⟩:=l3 x y hx hy hxy (by grind) sb;obtain⟨b1,_⟩:=nv sb (m2 x y hx hy (by grind));have hyx:0<y-x:=by grind
   have hop:sgR (pv c x) = -sgR (pv a x):=by
    obtain⟨f1,f2⟩:=(n1 x hx).mul b1;have e1:=eq x
    have e2:N*(M*(y-x))<β*κ:=by have h1:(y-x)*(N*M+1)<=δ*(N*M+1):=FP hd (Fn hT);grind
    rcases c1 with z |z
    ·have h2:β*κ<=β*pv c x:=FH z (Fn hβ);have h3:α*pv a x<0:=by grind
     have h4:pv a x<0:=by
      rcases Go (a:=0) (b:=pv a x)with w |w
      ·have:=Fx (Fn hα) w;grind
      ·rcases aZ (pv a x)with⟨w2,_⟩ |⟨w2,_⟩ |⟨w2,_⟩
       ·exact w2
       ·rw[w2]at h3;grind
       ·grind
     rcases aZ (pv c x)with⟨w,_⟩ |⟨w,_⟩ |⟨_,w⟩
     ·grind
     ·grind
     ·rcases aZ (pv a x)with⟨_,v⟩ |⟨v,_⟩ |⟨v,_⟩
      ·rw[w,v];decide
      ·grind
      ·grind
    ·have h2:β*pv c x<=β*(-κ):=FH z (Fn hβ);have h3:0<α*pv a x:=by grind
     have h4:0<pv a x:=by
      rcases aZ (pv a x)with⟨w2,_⟩ |⟨w2,_⟩ |⟨w2,_⟩
      ·have:=Fx (Fn hα) (show 0 <= -pv a x by grind);grind
      ·rw[w2]at h3;grind
      ·exact w2
     rcases aZ (pv c x)with⟨_,w⟩ |⟨w,_⟩ |⟨w,_⟩
     ·rcases aZ (pv a x)with⟨v,_⟩ |⟨v,_⟩ |⟨_,v⟩
      ·grind
      ·grind
      ·rw[w,v]
     ·grind
     ·grind
   have hop':sgR (pv c y) = -sgR (pv a x):=by rw[<- sc.1];exact hop
   have t:Al (sgR (pv c x)) (sgX r x) (sgX r y):=l2 x y hx hy hxy (by grind) c r rfl sc;rw[hop]at t;show Al _ (_::sgR (pv c x)::sgX r x) (_::sgR (pv c y)::sgX r y);rw[hop,hop'];exact .unst (jk _) (jk _) t
noncomputable def chg(f:Rat->Rat)(x y:Rat):Int:=if sgR (f x)≠0/\sgR (f y)≠sgR (f x)then 1 else 0
noncomputable def vrs(row:List (List Int))(x:Rat):Int:=vr 0 (sgX row x)
theorem kE{s:Int}(r:List Int):vr 0 (s::r)=vr s r:=by
 show(if s*0<0 then 1 else 0)+vr (if s=0 then 0 else s) r=_;rw[Fp,if_neg (by decide),GN];split
 ·rename_i h;rw[h]
 ·rfl
theorem i9{F0 F1:List Int}{r:List (List Int)}(h:SRow (F0::F1::r)){γ:Rat}(hγ:0<γ)(hd:∀x,pv (slopeL F0) x=γ*pv F1 x){R:Rat}(hR:0<=R) :
 ∃δ:Rat,0<δ/\∀x y,Bd R x->Bd R y->x<y->y-x<=δ->vrs (F0::F1::r) x-vrs (F0::F1::r) y=chg (pv F0) x y:=by
 obtain⟨⟨δ1,d1,l1⟩,⟨δ2,d2,l2⟩⟩:=uc h R hR;obtain⟨A,B,k,nA,nB,hk,hAB⟩:=vI h rfl;obtain⟨δ3,κ,d3,hκ,l3⟩:=sY (cq F0) (cq F1) nA nB hk hAB hR;obtain⟨M,m0,m1⟩:=mY F0 R hR;have hγκ:=Gn hγ hκ
 obtain⟨δ,hδ,g1,g2,g3,g4⟩:∃δ:Rat,0<δ/\δ<=δ1/\δ<=δ2/\δ<=δ3/\δ*(M+1)<=γ*κ:=by
  have hT:0<M+1:=by grind
  have hw:=cQ hγκ hT;have hw2:γ*κ/(M+1)*(M+1)=γ*κ:=FG (by grind)
  have two:∀u v:Rat,0<u->0<v->∃w:Rat,0<w/\w<=u/\w<=v:=λu v hu hv=>by
   rcases Go (a:=u) (b:=v)with z |z
   ·exact⟨u,hu,FS,z⟩
   ·exact⟨v,hv,z,FS⟩
  obtain⟨u,hu,u1,u2⟩:=two δ1 δ2 d1 d2;obtain⟨v,hv,v1,v2⟩:=two u δ3 hu d3;obtain⟨w,hw',w1,w2⟩:=two v _ hv hw;refine⟨w,hw',by grind,by grind,by grind,?_⟩;have:=FP w2 (Fn hT)
  rwa [hw2]at this
 refine⟨δ,hδ,λx y hx hy hxy hyd=>?_⟩;have e0:∀z,vrs (F0::F1::r) z=vr (sgR (pv F0 z)) (sgX (F1::r) z):=λz=>kE _
 have nz:∀{v:Rat},sgR v≠0->sgR v=1\/sgR v = -1:=λ{v} hv=>by rcases jk v with z |z |z;exact .inl z;exact absurd z hv;exact .inr z
 rw[e0,e0];by_cases s0:Sta (pv F0) x y
 ·have t:=(l1 x y hx hy hxy (by grind) F0 (F1::r) rfl s0).vr (nz s0.2) (rD _ _);rw[<- s0.1,t];unfold chg;rw[if_neg (λz=>z.2 s0.1.symm)];omega
 ·obtain⟨s1,c1,c2⟩:=l3 x y hx hy hxy (by grind) s0;have t:=(l2 x y hx hy hxy (by grind) F1 r rfl s1).vr (nz s1.2) (rD _ _);have hyx:0<y-x:=by grind
  have hyy:0<(y-x)*(y-x):=Gn hyx hyx;obtain⟨f1,f2⟩:=m1 x y hx hy (by grind)
  have small:M*((y-x)*(y-x))<(y-x)*(γ*κ):=by
   have h1:(y-x)*(M+1)<=γ*κ:=by have:=FP hyd (show 0<=M+1 by grind);grind
   have h2:(y-x)*((y-x)*(M+1))<=(y-x)*(γ*κ):=FH h1 (Fn hyx);grind
  rw[hd]at f1 f2;show vr (sgR (pv F0 x)) (sgR (pv F1 x)::sgX r x)-vr (sgR (pv F0 y)) (sgR (pv F1 y)::sgX r y)=_
  have hu:∀(b s:Int) (l:List Int),s≠0->vr b (s::l)=(if s*b<0 then 1 else 0)+vr s l:=λb s l hs=>by show _+vr (if s=0 then b else s) l=_;rw[if_neg hs]
  have s1':sgR (pv F1 y)=sgR (pv F1 x):=s1.1.symm;rw[s1',hu _ _ _ s1.2,hu _ _ _ s1.2,t];unfold chg;rcases c1 with z |z
  ·
   have h1:γ*κ<=γ*pv F1 x:=FH z (Fn hγ);have h2:(y-x)*(γ*κ)<=(y-x)*(γ*pv F1 x):=FH h1 (Fn hyx);have rise:pv F0 x<pv F0 y:=by grind
   have s1p:sgR (pv F1 x)=1:=by
    rcases aZ (pv F1 x)with⟨w,_⟩ |⟨w,_⟩ |⟨_,w⟩
    ·grind
    ·grind
    ·exact w
   rw[s1p];rcases aZ (pv F0 x)with⟨a1,a2⟩ |⟨a1,a2⟩ |⟨a1,a2⟩<;>rcases aZ (pv F0 y)with⟨b1,b2⟩ |⟨b1,b2⟩ |⟨b1,b2⟩
   ·exact absurd ⟨by rw[a2,b2],by rw[a2];decide⟩ s0
   ·rw[a2,b2];simp
   ·rw[a2,b2];simp
   ·grind
   ·grind
   ·rw[a2,b2];simp
   ·grind
   ·grind
   ·exact absurd ⟨by rw[a2,b2],by rw[a2];decide⟩ s0
  ·have h1:γ*pv F1 x<=γ*(-κ):=FH z (Fn hγ);have h2:(y-x)*(γ*pv F1 x)<=(y-x)*(γ*(-κ)):=FH h1 (Fn hyx);have fall:pv F0 y<pv F0 x:=by grind
   have s1p:sgR (pv F1 x) = -1:=by
    rcases aZ (pv F1 x)with⟨_,w⟩ |⟨w,_⟩ |⟨w,_⟩
    ·exact w
    ·grind
    ·grind
   rw[s1p];rcases aZ (pv F0 x)with⟨a1,a2⟩ |⟨a1,a2⟩ |⟨a1,a2⟩<;>rcases aZ (pv F0 y)with⟨b1,b2⟩ |⟨b1,b2⟩ |⟨b1,b2⟩
   ·exact absurd ⟨by rw[a2,b2],by rw[a2];decide⟩ s0
   ·grind
   ·grind
   ·rw[a2,b2];simp
   ·grind
   ·grind
   ·rw[a2,b2];simp
   ·rw[a2,b2];simp
   ·exact absurd ⟨by rw[a2,b2],by rw[a2];decide⟩ s0
structure Cut(s:Rat->Int):Prop where
 u:∀x,fF (s x)
 m:∀x y,x<y->s x<=0->s y = -1
noncomputable def cnt(S:List (Rat->Int))(x y:Rat):Int:=(S.map λs=>if 0<s x/\s y<=0 then(1:Int)else 0).sum
theorem vo(x y:Rat):cnt [] x y=0:=rfl
theorem cZ(s:Rat->Int)(S:List (Rat->Int))(x y:Rat):cnt (s::S) x y=(if 0<s x/\s y<=0 then 1 else 0)+cnt S x y:=by unfold cnt;rw[Fo,Hd]
theorem vp{x y z:Rat}(hxy:x<y)(hyz:y<z):∀{S:List (Rat->Int)},(∀s∈S,Cut s)->cnt S x z=cnt S x y+cnt S y z
 | [],_=>rfl
 |s::S,h=>by
  have hs:=h s (Fl ..);have ih:=vp hxy hyz (S:=S) λt ht=>h t (Fi _ ht)
  rw[cZ,cZ,cZ,ih]
  have e:(if 0<s x/\s z<=0 then(1:Int)else 0)=(if 0<s x/\s y<=0 then 1 else 0)+(if 0<s y/\s z<=0 then 1 else 0):=by
   by_cases hy:s y<=0
   ·have hz:=hs.m y z hyz hy;rw[if_neg (show ¬(0<s y/\s z<=0) by omega)];by_cases hx:0<s x
    ·rw[if_pos ⟨hx,by omega⟩,if_pos ⟨hx,hy⟩];rfl
    ·rw[if_neg (by omega),if_neg (by omega)];rfl
   ·have hx:0<s x:=by
     rcases Int.lt_or_le 0 (s x)with q |q
     ·exact q
     ·have:=hs.m x y hxy q;omega
    rw[if_neg (show ¬(0<s x/\s y<=0) by omega)];by_cases hz:s z<=0
    ·rw[if_pos ⟨hx,hz⟩,if_pos ⟨by omega,hz⟩];rfl
    ·rw[if_neg (by omega),if_neg (by omega)];rfl
  rw[e];omega
noncomputable def cpr(x:Rat):List (Rat->Int)->Int
 | []=>1
 |s::S => -s x*cpr x S
theorem j6(x:Rat):∀a b,cpr x (a++b)=cpr x a*cpr x b
 | [],b=>by show _=1*_;rw[FF];rfl
 |s::a,b=>by show _*cpr x (a++b)=_*_*_;rw[j6 x a b,FM]
def inC(s:Rat->Int)(x y:Rat):Prop:=0<=s x/\s y<=0
theorem Bh{s:Rat->Int}(h:Cut s){x y:Rat}(hxy:x<y)(hn:¬inC s x y):s x=s y/\(s x=1\/s x = -1):=by
 have h1:=h.u x;have h2:=h.u y;unfold inC at hn
 by_cases hx:s x<=0
 ·have:=h.m x y hxy hx;rcases h1 with a |a |a<;>omega
 ·rcases h1 with a |a |a
  ·rcases h2 with b |b |b<;>omega
  ·omega
  ·omega
theorem n6{x y:Rat}(hxy:x<y):∀{S:List (Rat->Int)},(∀s∈S,Cut s)->(∀s∈S,¬inC s x y)->cpr x S=cpr y S/\(cpr x S=1\/cpr x S = -1)/\cnt S x y=0
 | [],_,_=>⟨rfl,.inl rfl,rfl⟩
 |s::S,h,hn=>by
  obtain⟨i1,i2,i3⟩:=n6 hxy (S:=S) (λt ht=>h t (Fi _ ht)) λt ht=>hn t (Fi _ ht)
  obtain⟨a1,a2⟩:=Bh (h s (Fl ..)) hxy (hn s (Fl ..));refine⟨by show -s x*cpr x S = -s y*cpr y S;rw[a1,i1],?_,?_⟩
  ·show -s x*cpr x S=1 \/ -s x*cpr x S = -1;rcases a2 with z |z<;>rcases i2 with w |w<;>rw[z,w]<;>decide
  ·rw[cZ,i3,if_neg (by omega)];rfl
theorem oH(x y:Rat):∀a b,cnt (a++b) x y=cnt a x y+cnt b x y
 | [],b=>by rw[vo];simp
 |s::a,b=>by rw[FA,cZ,cZ,oH x y a b];omega
theorem vt{f:Rat->Rat}{S:List (Rat->Int)}{ε:Int}(hε:ε=1\/ε = -1)(hS:∀s∈S,Cut s){x y:Rat}(hxy:x<y)(hx:sgR (f x)=ε*cpr x S)(hy:sgR (f y)=ε*cpr y S)(hp:S.Pairwise λs t=>¬(inC s x y/\inC t x y)):chg f x y=cnt S x y:=by
 by_cases hall:∀s∈S,¬inC s x y
 ·obtain⟨k1,k2,k3⟩:=n6 hxy hS hall;rw[k3];unfold chg;rw[if_neg];rintro⟨_,h2⟩;exact h2 (by rw[hx,hy,k1])
 ·obtain⟨s,hs,hin⟩:∃s,s∈S/\inC s x y:=by refine Classical.byContradiction λz=>hall λs hs hi=>z ⟨s,hs,hi⟩
  obtain⟨pre,post,rfl⟩:=He hs
  have hno:∀t∈pre++post,¬inC t x y:=λt ht hi=>by
   rw[HP]at hp;rcases Fq.mp ht with z |z
   ·exact hp.2.2 t z s (Fl ..) ⟨hi,hin⟩
   ·exact(Hf.mp hp.2.1).1 t z ⟨hin,hi⟩
  have hS':∀t∈pre++post,Cut t:=λt ht=>hS t (by
   rcases Fq.mp ht with z |z
   ·exact Gq _ z
   ·exact FX _ (Fi _ z))
  obtain⟨k1,k2,k3⟩:=n6 hxy hS' hno;have hc:=hS s hs
  have e1:∀z,cpr z (pre++s::post)=cpr z (pre++post) * -s z:=λz=>by rw[j6,j6];show cpr z pre*(-s z*cpr z post)=_;rw[FO (-s z),FM]
  have e2:cnt (pre++s::post) x y=(if 0<s x/\s y<=0 then 1 else 0):=by rw[oH,cZ];rw[oH]at k3;omega
  rw[e1]at hx hy;rw[<- k1]at hy;rw[e2];unfold inC at hin
  have h1:=hc.u x;have h2:=hc.u y;unfold chg;rw[hx,hy];generalize cpr x (pre++post)=c at *
  have hs0:s x=0->s y = -1:=λz=>hc.m x y hxy (by omega)
  rcases h1 with a |a |a
  ·rw[a];rcases h2 with b |b |b
   ·omega
   ·rw[b];rcases hε with rfl |rfl<;>rcases k2 with rfl |rfl<;>simp
   ·rw[b];rcases hε with rfl |rfl<;>rcases k2 with rfl |rfl<;>simp
  ·rw[a];simp
  ·omega
theorem vN(q:Rat):∃n:Nat,q<=(n:Rat):=by refine⟨q.ceil.toNat,G0 (Rat.le_ceil (x:=q)) ?_⟩;have h:q.ceil<=(q.ceil.toNat:Int):=Int.self_le_toNat _;have h2:=GG.mpr h;exact h2
theorem tL(n:Nat):(n:Rat)<=2^n:=by
 induction n with
 |zero=>decide
 |succ n ih =>
  have h1:((1:Nat):Rat)<=2^n:=by
   have:(1:Nat)<=2^n:=GY (by decide);have h2:((1:Nat):Rat)<=((2^n:Nat):Rat):=Ht.mpr this
   rwa [Rat.natCast_pow]at h2
  rw[FV,Hu];grind
theorem oO{V:Rat->Int}{S:List (Rat->Int)}(hS:∀s∈S,Cut s){R δ:Rat}(hδ:0<δ)(h:∀x y,Bd R x->Bd R y->x<y->y-x<=δ->V x-V y=cnt S x y):∀(n:Nat) (x y:Rat),Bd R x->Bd R y->x<y->y-x<=2^n*δ->V x-V y=cnt S x y
 |0,x,y,hx,hy,hxy,hd=>h x y hx hy hxy (by rw[Gw]at hd;grind)
 |n+1,x,y,hx,hy,hxy,hd=>by
  have m1:x<(x+y)/2:=by grind
  have m2:(x+y)/2<y:=by grind
  have hm:Bd R ((x+y)/2):=by obtain⟨a,b⟩:=hx;obtain⟨c,d⟩:=hy;constructor<;>grind
  rw[FV]at hd;have i1:=oO hS hδ h n x ((x+y)/2) hx hm m1 (by grind);have i2:=oO hS hδ h n ((x+y)/2) y hm hy m2 (by grind);rw[vp m1 m2 hS];omega
theorem xc{F0 F1:List Int}{r:List (List Int)}(h:SRow (F0::F1::r)){γ:Rat}(hγ:0<γ)(hd:∀x,pv (slopeL F0) x=γ*pv F1 x){S:List (Rat->Int)}(hS:∀s∈S,Cut s){ε:Int}(hε:ε=1\/ε = -1)(hf:∀x,sgR (pv F0 x)=ε*cpr x S)
 {δ0:Rat} (hδ0:0<δ0) (hp:∀x y,x<y->y-x<=δ0->S.Pairwise λs t=>¬(inC s x y/\inC t x y)) {x y:Rat} (hxy:x<y):vrs (F0::F1::r) x-vrs (F0::F1::r) y=cnt S x y:=by
 obtain⟨R,hR,hx,hy⟩:∃R:Rat,0<=R/\Bd R x/\Bd R y:=by
  have ab:∀v:Rat,∃w:Rat,0<=w/\Bd w v:=λv=>by
   rcases Go (a:=0) (b:=v)with z |z
   ·exact⟨v,z,by grind,by grind⟩
   ·exact⟨-v,by grind,by grind,by grind⟩
  obtain⟨u,u0,u1⟩:=ab x;obtain⟨v,v0,v1⟩:=ab y;exact⟨u+v,by grind,u1.mono (by grind),v1.mono (by grind)⟩
 obtain⟨δ1,d1,l1⟩:=i9 h hγ hd hR
 obtain⟨δ,hδ,g1,g2⟩:∃δ:Rat,0<δ/\δ<=δ0/\δ<=δ1:=by
  rcases Go (a:=δ0) (b:=δ1)with z |z
  ·exact⟨δ0,hδ0,FS,z⟩
  ·exact⟨δ1,d1,z,FS⟩
 obtain⟨n,hn⟩:=vN ((y-x)/δ);refine oO hS hδ (R:=R) (λx y hx hy hxy hdd=>?_) n x y hx hy hxy ?_
 ·rw[l1 x y hx hy hxy (by grind)];exact vt hε hS hxy (hf x) (hf y) (hp x y hxy (by grind))
 ·have h1:(y-x)/δ<=2^n:=G0 hn (tL n);have h2:=FP h1 (Fn hδ)
  rwa [FG (by grind)]at h2
theorem fu{n:Int}(hn:n≠0):(n:Rat)≠0:=λz=>hn (Hc.mp (show((n:Int):Rat)=((0:Int):Rat) by rw[z];rfl))
theorem tz(q:Rat):(q.num:Rat)=q*((q.den:Int):Rat):=by
 have hd:((q.den:Int):Rat)≠0:=fu (by have:=q.den_pos;omega)
 have hx:(q.num:Rat)/((q.den:Int):Rat)=q:=by have:=Rat.mkRat_self q;rw[Rat.mkRat_eq_div]at this;exact this
 have:=FG (a:=(q.num:Rat)) hd;rw[hx]at this;exact this.symm
theorem yy{t n:Int}(hn:0<n):((t:Rat)/(n:Rat)).num*n=t*(((t:Rat)/(n:Rat)).den:Int):=by
 have hn':(n:Rat)≠0:=fu (by omega);have hq:(t:Rat)/(n:Rat)*(n:Rat)=(t:Rat):=FG hn';generalize (t:Rat)/(n:Rat)=q at hq ⊢
 apply Hc.mp;rw[FJ,FJ,tz q,<- hq];grind
theorem jz{t n t' n':Int}(hn:0<n)(hn':0<n'):(t:Rat)/(n:Rat)<(t':Rat)/(n':Rat)↔t*n'<t'*n:=by
 have p1:(0:Rat)<(n:Rat):=FK.mpr hn;have p2:(0:Rat)<(n':Rat):=FK.mpr hn';have e1:(t:Rat)/(n:Rat)*(n:Rat)=(t:Rat):=FG (by grind);have e2:(t':Rat)/(n':Rat)*(n':Rat)=(t':Rat):=FG (by grind);generalize (t:Rat)/(n:Rat)=q at e1 ⊢
 generalize (t':Rat)/(n':Rat)=q' at e2 ⊢
 rw[<- FK,FJ,FJ,<- e1,<- e2];have p3:=Gn p1 p2;have e3:q*(n:Rat)*(n':Rat)=q*((n:Rat)*(n':Rat)):=by grind
 have e4:q'*(n':Rat)*(n:Rat)=q'*((n:Rat)*(n':Rat)):=by grind
 rw[e3,e4];constructor
 ·intro h;exact G1 h p3
 ·intro h;refine Rat.not_le.mp λz=>?_
  have:=FP z (Fn p3);grind
theorem iq{p v:Rat}(hp:0<p):sgR (p*v)=sgR v:=by
 rcases aZ v with⟨a,b⟩ |⟨a,b⟩ |⟨a,b⟩
 ·have:p*v<0:=by have:=Gn hp (show 0 < -v by grind);grind
  rcases aZ (p*v)with⟨_,d⟩ |⟨c,d⟩ |⟨c,d⟩
  ·rw[b,d]
  ·grind
  ·grind
 ·rw[a];have:p*0=0:=by grind
  rw[this]
 ·have:=Gn hp a;rcases aZ (p*v)with⟨c,d⟩ |⟨c,d⟩ |⟨_,d⟩
  ·grind
  ·grind
  ·rw[b,d]
theorem xJ(z:Int):sgR (z:Rat)=sg z:=by
 rcases aZ (z:Rat)with⟨a,b⟩ |⟨a,b⟩ |⟨a,b⟩
 ·have:z<0:=FK.mp a;rw[b];unfold sg;rw[if_pos this]
 ·have:z=0:=Hc.mp a;rw[this];rfl
 ·have:0<z:=FK.mp a;rw[b];unfold sg;rw[if_neg (by omega),if_pos this]
theorem jT{t n:Int}(hn:0<n):∀l:List Int,(hv t n l:Rat)=(n:Rat)^l.length*pv l ((t:Rat)/(n:Rat))
 | []=>by show((0:Int):Rat)=_*0;grind
 |c::l=>by
  have hn':(n:Rat)≠0:=fu (by omega);have hq:(t:Rat)/(n:Rat)*(n:Rat)=(t:Rat):=FG hn';rw[di,Hb,FJ,FJ,jT hn l,Hg];show _=(n:Rat)^(l.length+1)*((c:Rat)+(t:Rat)/(n:Rat)*pv l ((t:Rat)/(n:Rat)));rw[FV];generalize hqq:(t:Rat)/(n:Rat)=q at *
  rw[<- hq];grind
theorem ln{t n:Int}(hn:0<n)(l:List Int):sg (hv t n l)=sgR (pv l ((t:Rat)/(n:Rat))):=by rw[<- xJ,jT hn];exact iq (GH (FK.mpr hn))
def Cop2(a b:List Int):Prop:=∀d,d≠[]->Tr d->Dv d a->Dv d b->d.length<=1
theorem Au{one other:List Int}(ho:other≠[]):∀n,aS one other*cf one n=ak (bh one other) other n-(am (bP [] (aF one other)):Int)*cf (nxt one other) n:=λn=>by
 have h1:=cW (a:=one) ho n;have e:nxt one other=ae (bP [] (aF one other)):=by unfold nxt rst;rw[if_neg ho]
 have h2:=congrArg (λl=>cf l n) (jh (l:=bP [] (aF one other)));simp only[aD]at h2
 have h3:cf (bP [] (aF one other)) n = -cf (aF one other) n:=by rw[ik (cV _ _),aD];omega
 rw[e,h2,h3,h1];omega
theorem wJ(one other:List Int):Tr (nxt one other):=by unfold nxt;exact c8 (by unfold bP;exact dw _)
theorem Av{one other:List Int}(ho:other≠[]):(nxt one other).length<other.length:=by
 have h1:=d4 (a:=one) ho;unfold nxt rst;rw[if_neg ho,ik (cV _ _)]
 have h2:(ae (scL (-1) (aF one other))).length<=(scL (-1) (aF one other)).length:=by unfold ae;rw[Fc];exact Fg _
 rw[aP]at h2;omega
theorem iN{l:List Int}(h:l.length<=1)(hne:l≠[]):∃c,l=[c]:=HC.mp (by have:=Fh.mpr hne;omega)
theorem mM:∀(n:Nat) (one other:List Int),other.length<=n->Tr one->one≠[]->Tr other->Cop2 one other->SRow (aI (n+1) one other)
 |0,one,other,hl,to,no,tt,hc=>by have e0:other=[]:=GS (Nat.le_zero.mp hl);subst e0;have h1:=hc one no to (Dv.refl _) (Dv.nil _);obtain⟨c,rfl⟩:=iN h1 no;show SRow (if([c]:List Int)=[]then _ else[c]::aI 0 [] (nxt [c] []));rw[if_neg no];exact .last (tr_snoc (r:=[]) |>.mp to)
 |n+1,one,other,hl,to,no,tt,hc=>by
  have e:aI (n+1+1) one other=one::aI (n+1) other (nxt one other):=by show(if one=[]then _ else _)=_;rw[if_neg no]
  rw[e];by_cases ho:other=[]
  ·subst ho;have h1:=hc one no to (Dv.refl _) (Dv.nil _);obtain⟨c,rfl⟩:=iN h1 no;rw[gG];exact .last (tr_snoc (r:=[]) |>.mp to)
  have hs:=Au (one:=one) ho;have hlen:=Av (one:=one) ho;have tn:=wJ one other;have fp:0<aS one other:=j4 ho tt;by_cases hn:nxt one other=[]
  ·
   have hdv:Dv other one:=⟨aS one other,bh one other,by omega,λk=>by rw[hs k,hn,b6];omega⟩;have h1:=hc other ho tt hdv (Dv.refl _);obtain⟨c,rfl⟩:=iN h1 ho;rw[hn,rL ho (by omega)];exact .two (tr_snoc (r:=[]) |>.mp tt)
  ·have hc2:Cop2 other (nxt one other):=λd dn dt h1 h2=>by
    refine hc d dn dt ?_ h1;refine Dv.up (f:=aS one other) (q:=bh one other) (r:=scL (-(am (bP [] (aF one other)):Int)) (nxt one other)) (by omega) (λk=>?_) h1 ?_
    ·rw[hs k,aD,Int.neg_mul];omega
    ·exact Dv.prop_right (x:=1) (y := -(am (bP [] (aF one other)):Int)) (by decide) (λk=>by rw[aD];omega) h2
   have ih:=mM n other (nxt one other) (by omega) tt ho tn hc2;have e2:aI (n+1) other (nxt one other)=other::aI n (nxt one other) (nxt other (nxt one other)):=by show(if other=[]then _ else _)=_;rw[if_neg ho]
   have n1:0<n:=by have:=Fh.mpr hn;omega
   obtain⟨m,rfl⟩:∃m,n=m+1:=⟨n-1,by omega⟩;have e3:aI (m+1) (nxt one other) (nxt other (nxt one other))=nxt one other::aI m (nxt other (nxt one other)) (nxt (nxt one other) (nxt other (nxt one other))):=by show(if nxt one other=[]then _ else _)=_;rw[if_neg hn]
   rw[e2,e3]at ih ⊢
   have gp:0<(am (bP [] (aF one other)):Int):=by
    rcases HQ (am (bP [] (aF one other)))with z |z
    ·exfalso;apply hn;refine ny tn λk=>?_
     have e:nxt one other=ae (bP [] (aF one other)):=by unfold nxt rst;rw[if_neg ho]
     rw[e];unfold ae;rw[z];unfold cf;simp[List.getD];cases(bP [] (aF one other))[k]? with
     |none=>rfl
     |some v=>simp
    ·omega
   refine .cons (q:=bh one other) (α:=(aS one other:Rat)) (β:=((am (bP [] (aF one other)):Int):Rat)) (FK.mpr fp) (FK.mpr gp) (λx=>?_) ih;have h1:=cC (a:=one) (c:=scL (aS one other) one) (u:=aS one other) x λk=>aD _ _ _
   have h2:=eY x (bh one other) other (ac (bh one other) other) (ap _ _);have h3:=gN (a:=ac (bh one other) other) (b:=nxt one other) (c:=scL (aS one other) one) (u:=1) (v := -(am (bP [] (aF one other)):Int)) x λk=>by rw[aD,hs k,ap,Int.neg_mul];omega
   rw[<- h1,h3,h2,G3];show((1:Int):Rat)*_+_=_;grind
theorem yN{ss:List (List Int)}(h:∀s∈ss,Pri s):av [1] ss=prd ss:=by unfold av;rw[uE,one_mul _ (sP ss λs hs=>(h s hs).pln).tr]
theorem uK{f:List Int}(h:FacG f):Pri (ao f):=by obtain⟨u,e,b,rfl,_,_,_,_,h5,_,h7⟩:=h;exact yw h5 h7
noncomputable def fI(fs:List (List Int)):List (List Int×Nat):=fs.map λf=>(ao f,1)
theorem pL{fs:List (List Int)}(hF:∀f∈fs,FacG f)(hn:(fs.map ao).Nodup):Use (fI fs):=by
 refine⟨λp hp=>?_,λp hp=>?_,?_⟩
 ·obtain⟨f,hf,rfl⟩:=Fe.mp hp;exact uK (hF f hf)
 ·obtain⟨f,hf,rfl⟩:=Fe.mp hp;exact Fg _
 ·unfold fI;rw[Fz];exact hn
theorem pK{c:Int}{fs:List (List Int)}(hF:∀f∈fs,FacG f):whl c (fI fs)=ac [c] (av [1] (fs.map ao)):=by
 unfold whl
 congr 1
 rw[yN λs hs=>by obtain⟨f,hf,rfl⟩:=Fe.mp hs;exact uK (hF f hf)]
 have e1:fP id (fI fs)=flt (fI fs):=hI _ λp hp=>by obtain⟨f,hf,rfl⟩:=Fe.mp hp;rfl
 rw[e1,uG]
 congr 1
 unfold fI;rw[Fz];rfl
theorem uM:∀us:List (List Int×Nat),fP (λ_=>0) us=[1]
 | []=>rfl
 |p::us=>by rw[dZ,uM us];rfl
theorem wy{fs:List (List Int)}:mor (fI fs) 1=[1]:=by unfold mor;rw[hI (h:=λ_=>0) _ λp hp=>by obtain⟨f,hf,rfl⟩:=Fe.mp hp;rfl];exact uM _
theorem yO{c:Int}{fs:List (List Int)}(hF:∀f∈fs,FacG f)(hn:(fs.map ao).Nodup)(hc:c≠0)(hl:(ac [c] (av [1] (fs.map ao))).length<=20):Cop2 (ac [c] (av [1] (fs.map ao))) (slopeL (ac [c] (av [1] (fs.map ao)))):=λd dn dt h1 h2=>by
 have U:=pL hF hn;have ew:=pK (c:=c) hF;obtain⟨tw,nw,_⟩:=kD U hc;have hcom:=wu U hc (by rw[ew];exact hl);rw[wy]at hcom;rw[<- ew]at h1 h2 hl;have h3:=(vk (by rw[dg];omega) tw (eK tw)).all d h1 h2;rw[hcom]at h3;rcases GI 1 d.length with z |z
 ·have:=Dv.short dn dt ((tr_snoc (r:=[])).mpr (by decide)) (show([1]:List Int).length<d.length from z) h3;cases this
 ·exact z
theorem cy{l:List Int}(h:Tr l)(hne:l≠[]):0<(am l:Int)/\Tr (ae l)/\ae l≠[]/\∀n,cf l n=(am l:Int)*cf (ae l) n:=by
 have e:=jh (l:=l)
 have ec:∀n,cf l n=(am l:Int)*cf (ae l) n:=λn=>by have:=congrArg (λz=>cf z n) e;simp only[aD]at this;exact this.symm
 have hl:(ae l).length=l.length:=by unfold ae;rw[Fc]
 refine⟨?_,c8 h,λz=>by rw[z]at hl;exact hne (GS hl.symm),ec⟩;rcases HQ (am l)with z |z
 ·exfalso;refine hne (ny h λk=>?_);rw[ec k,z];simp
 ·omega
theorem Cop2.shr{a b:List Int}(h:Cop2 a b)(ha:Tr a)(hna:a≠[])(hb:Tr b):Cop2 (ae a) (ae b):=λd dn dt h1 h2=>by
 obtain⟨_,_,_,ea⟩:=cy ha hna;refine h d dn dt (Dv.prop_right (x:=1) (y:=(am a:Int)) (by decide) (λn=>by rw[ea n];omega) h1) ?_;by_cases hnb:b=[]
 ·rw[hnb];exact Dv.nil _
 ·obtain⟨_,_,_,eb⟩:=cy hb hnb;exact Dv.prop_right (x:=1) (y:=(am b:Int)) (by decide) (λn=>by rw[eb n];omega) h2
noncomputable def sdR(l:List Int)(x:Rat):Int:=aV l x.num x.den
theorem cX(x:Rat):0<(x.den:Int):=by have:=x.den_pos;omega
theorem ir(l:List Int){t n:Int}(hn:0<n):sdR l ((t:Rat)/(n:Rat))=aV l t n:=by unfold sdR;exact xv l (cX _) hn (yy hn)
theorem jl{l:List Int}(h:Spt l):Cut (sdR l):=by
 refine⟨λx=>?_,λx y hxy hs=>?_⟩
 ·rcases kZ l x.num x.den with z |z |z
  ·exact .inl z
  ·exact .inr (.inl z)
  ·exact .inr (.inr z)
 ·exact xt h (cX x) (cX y) ((Rat.lt_iff x y).mp hxy) hs
theorem oE(x:Rat):∀ls:List (List Int),cpr x (ls.map sdR)=spr x.num x.den ls
 | []=>rfl
 |l::ls=>by show -sdR l x*_ = -aV l x.num x.den*_;rw[oE x ls];rfl
theorem hJ(x:Rat):(x.num:Rat)/((x.den:Int):Rat)=x:=by have:=Rat.mkRat_self x;rw[Rat.mkRat_eq_div]at this;exact this
theorem km{l l':List Int}(hl:Spt l)(hl':Spt l')(h:wn l l'){x y:Rat}(hxy:x<y)(hd:y-x<=1/2^40):¬(inC (sdR l) x y/\inC (sdR l') x y):=by
 rintro⟨h1,h2⟩;have hD:(0:Rat)<2^40:=GH (by decide);have hDi:((2^40:Int):Rat)=2^40:=Hg 2 40;have f1:=Rat.floor_le (x*2^40);have f2:=Rat.lt_floor_add_one (x*2^40);rw[Hb]at f2
 have hd2:(y-x)*2^40<=1:=by
  have:=FP hd (Fn hD)
  rwa [FG (by grind)]at this
 have key:∀k:List Int,Spt k->inC (sdR k) x y->inS k ((x*2^40).floor-1) ((x*2^40).floor-1+128) (2^40):=λk hk hi=>by
  have hc:=jl hk
  have eA:((((x*2^40).floor-1:Int)):Rat)/((2^40:Int):Rat)*2^40=((x*2^40).floor:Rat)-1:=by rw[hDi,FG (by grind),Rat.intCast_sub];rfl
  have eB:((((x*2^40).floor-1+128:Int)):Rat)/((2^40:Int):Rat)*2^40=((x*2^40).floor:Rat)-1+128:=by rw[hDi,FG (by grind),Hb,Rat.intCast_sub];rfl
  constructor
  ·rw[<- ir k (by decide)];generalize ((((x*2^40).floor-1:Int)):Rat)/((2^40:Int):Rat)=a at *
   have hax:a<x:=by
    refine Rat.not_le.mp λz=>?_
    have:=FP z (Fn hD);grind
   rcases Int.lt_or_le 0 (sdR k a)with w |w
   ·exact w
   ·have h3:=hc.m a x hax w;have h4:=hi.1;omega
  ·rw[<- ir k (by decide)];generalize ((((x*2^40).floor-1+128:Int)):Rat)/((2^40:Int):Rat)=b at *
   have hby:y<b:=by
    refine Rat.not_le.mp λz=>?_
    have:=FP z (Fn hD);have e1:((1:Int):Rat)=1:=rfl;grind
   have h3:=hc.m y b hby hi.2;omega
 exact h _ _ _ (GM _) rfl (key l hl h1) (key l' hl' h2)
noncomputable def cG(ls:List (List Int))(t n t' n':Int):Int:=(ls.map λl=>if 0<aV l t n/\aV l t' n'<=0 then(1:Int)else 0).sum
theorem j8{t n t' n':Int}(hn:0<n)(hn':0<n'):∀ls:List (List Int),cnt (ls.map sdR) ((t:Rat)/(n:Rat)) ((t':Rat)/(n':Rat))=cG ls t n t' n'
 | []=>rfl
 |l::ls=>by have ih:=j8 (t:=t) (t':=t') hn hn' ls;rw[Fo,cZ,ih,ir l hn,ir l hn'];unfold cG;rw[Fo,Hd]
noncomputable def sgv(row:List (List Int))(t n:Int):List Int:=row.map λf=>sg (hv t n f)
theorem ld{t n:Int}(hn:0<n)(row:List (List Int)):sgv row t n=sgX row ((t:Rat)/(n:Rat)):=by unfold sgv sgX;exact FE λf _=>ln hn f
theorem oF{c:Int}{fs:List (List Int)}(hF:∀f∈fs,FacG f)(hnd:(fs.map ao).Nodup)(hc:c≠0){P:List Int}(hP:P=ac [c] (av [1] (fs.map ao)))(hl:P.length<=20){N:Nat}(hN:P.length<=N+1){t n t' n':Int}(hn:0<n)(hn':0<n')(hlt:t*n'<t'*n) :
 vr 0 (sgv (aI (N+1) (ae P) (ae (slopeL P))) t n)-vr 0 (sgv (aI (N+1) (ae P) (ae (slopeL P))) t' n')=cG (aO fs) t n t' n':=by
 have hFQ:∀f∈fs,gg f:=λf hf=>(hF f hf).q
 have U:=pL hF hnd;have ew:=pK (c:=c) hF;obtain⟨tP,nP,_⟩:=kD U hc;rw[ew,<- hP]at tP nP;have cop:=yO hF hnd hc (by rw[<- hP];exact hl);rw[<- hP]at cop;have tS:=eK tP;obtain⟨g0,t0,n0,e0⟩:=cy tP nP;have copS:=cop.shr tP nP tS;have lS:(ae (slopeL P)).length=P.length-1:=by unfold ae;rw[Fc,dg]
 have hst:=mM N (ae P) (ae (slopeL P)) (by omega) t0 n0 (c8 tS) copS;by_cases hs:slopeL P=[]
 ·
  have h1:P.length<=1:=by have:=congrArg List.length hs;rw[dg]at this;simp at this;omega
  have hfs:fs=[]:=by
   cases fs with
   |nil=>rfl
   |cons f fs =>
    exfalso
    have hss:∀s∈(f::fs).map ao,s≠[]/\Tr s:=λs h=>by obtain⟨x,hx,rfl⟩:=Fe.mp h;exact k9 (hFQ x hx)
    obtain⟨p1,p2,p3⟩:=fU ((f::fs).map ao) [1] (by simp) ((tr_snoc (r:=[])).mpr (by decide)) hss
    have hl2:2<=(ao f).length:=by obtain⟨u,e,b,rfl,hb⟩:=hFQ f (Fl ..);obtain⟨_,l2⟩:=eL (u:=u) (e:=e) hb;show 2<=(aw (aC u e b)).length;rw[plain_len];exact l2
    have hsl:∀ss:List (List Int),(∀s∈ss,s≠[])->ss.length<=sl ss:=λss=>by
     induction ss with
     |nil=>intro _;exact Fg _
     |cons s ss ih =>
      intro h;have h1:=Fh.mpr (h s (Fl ..));have h2:=ih λx hx=>h x (Fi _ hx)
      show ss.length+1<=s.length+sl ss;omega
    have h3:=hsl (fs.map ao) λs hs=>(hss s (Fi _ hs)).1
    have h4:sl ((f::fs).map ao)=(ao f).length+sl (fs.map ao):=rfl
    have h5:P.length=(av [1] ((f::fs).map ao)).length:=by rw[hP,aX (by simp) p1];show 1+_-1=_;omega
    simp only[Fc,Ff,FI]at p3 h3;omega
  subst hfs
  have hr:aI (N+1) (ae P) (ae (slopeL P))=[ae P]:=by
   have:ae (slopeL P)=[]:=by rw[hs];rfl
   rw[this];exact rL n0 (by omega)
  rw[hr];show vr 0 [_]-vr 0 [_]=0;rw[kE,kE];rfl
 ·obtain⟨g1,t1,n1,e1⟩:=cy tS hs
  have hN1:1<=N:=by have:=Fh.mpr n1;omega
  obtain⟨M,rfl⟩:∃M,N=M+1:=⟨N-1,by omega⟩
  have er:aI (M+1+1) (ae P) (ae (slopeL P))=ae P::ae (slopeL P)::aI M (nxt (ae P) (ae (slopeL P))) (nxt (ae (slopeL P)) (nxt (ae P) (ae (slopeL P)))):=by show(if ae P=[]then _ else ae P::(if ae (slopeL P)=[]then _ else _))=_;rw[if_neg n0,if_neg n1]
  rw[er]at hst ⊢;have g0':(0:Rat)<((am P:Int):Rat):=FK.mpr g0;have g1':(0:Rat)<((am (slopeL P):Int):Rat):=FK.mpr g1
  have hd:∀x,pv (slopeL (ae P)) x=((am (slopeL P):Int):Rat)/((am P:Int):Rat)*pv (ae (slopeL P)) x:=λx=>by
   have h1:=cC (a:=slopeL (ae P)) (c:=slopeL P) (u:=(am P:Int)) x λk=>by rw[bH,bH,e0 (k+1)];grind
   have h2:=cC (a:=ae (slopeL P)) (c:=slopeL P) (u:=(am (slopeL P):Int)) x e1;have h3:((am (slopeL P):Int):Rat)/((am P:Int):Rat)*((am P:Int):Rat)=((am (slopeL P):Int):Rat):=FG (by grind);rw[h1]at h2
   have h4:((am P:Int):Rat)*pv (slopeL (ae P)) x=((am P:Int):Rat)*(((am (slopeL P):Int):Rat)/((am P:Int):Rat)*pv (ae (slopeL P)) x):=by
    rw[h2];generalize ((am (slopeL P):Int):Rat)/((am P:Int):Rat)=w at *
    rw[<- h3];grind
   generalize pv (slopeL (ae P)) x=u at *
   generalize ((am (slopeL P):Int):Rat)/((am P:Int):Rat)*pv (ae (slopeL P)) x=v at *
   have h5:((am P:Int):Rat)*(u-v)=0:=by grind
   rcases GF.mp h5 with z |z
   ·grind
   ·grind
  have hS:∀s∈(aO fs).map sdR,Cut s:=λs hs=>by obtain⟨l,hl,rfl⟩:=Fe.mp hs;exact jl (dz hFQ hl)
  have hsg:sg c=1\/sg c = -1:=by
   rcases Int.lt_or_gt_of_ne hc with z |z
   ·right;unfold sg;rw[if_pos z]
   ·left;unfold sg;rw[if_neg (by omega),if_pos z]
  have hf:∀x,sgR (pv (ae P) x)=sg c*cpr x ((aO fs).map sdR):=λx=>by have h1:=sN (t:=x.num) (n:=x.den) (c:=c) (cX x) hFQ;rw[<- hP,ln (cX x),hJ]at h1;rw[oE,<- h1,cC (a:=ae P) (c:=P) (u:=(am P:Int)) x e0,iq g0']
  have hap:=jb hF hnd
  have hp:∀x y:Rat,x<y->y-x<=1/2^40->((aO fs).map sdR).Pairwise λs t=>¬(inC s x y/\inC t x y):=λx y hxy hdd=>by rw[HN];exact hap.imp_of_mem λ{l l'} hl hl' h=>km (dz hFQ hl) (dz hFQ hl') h hxy hdd
  have:=xc hst (cQ g1' g0') hd hS hsg hf (cQ (by decide) (GH (by decide))) hp ((jz hn hn').mpr hlt);rw[j8 hn hn']at this;rw[ld hn,ld hn'];exact this
theorem kj{C:Rat->Rat->Prop}(hadd:∀x y z,x<y->y<z->C x y->C y z->C x z){δ a b:Rat}(hδ:0<δ)(h:∀x y,a<=x->y<=b->x<y->y-x<=δ->C x y):∀(n:Nat) (x y:Rat),a<=x->y<=b->x<y->y-x<=2^n*δ->C x y
 |0,x,y,hx,hy,hxy,hd=>h x y hx hy hxy (by rw[Gw]at hd;grind)
 |n+1,x,y,hx,hy,hxy,hd=>by
  have m1:x<(x+y)/2:=by grind
  have m2:(x+y)/2<y:=by grind
  rw[FV]at hd;exact hadd x _ y m1 m2 (kj hadd hδ h n x _ hx (by grind) m1 (by grind)) (kj hadd hδ h n _ y (by grind) hy m2 (by grind))
theorem kU{δ:Rat}(hδ:0<δ)(w:Rat):∃n:Nat,w<=2^n*δ:=by
 obtain⟨n,hn⟩:=vN (w/δ);refine⟨n,?_⟩;have h1:w/δ<=2^n:=G0 hn (tL n);have h2:=FP h1 (Fn hδ)
 rwa [FG (by grind)]at h2
theorem iS(v:Rat):∃w:Rat,0<=w/\Bd w v:=by
 rcases Go (a:=0) (b:=v)with z |z
 ·exact⟨v,z,by grind,by grind⟩
 ·exact⟨-v,by grind,by grind,by grind⟩
theorem Bg{f:Rat->Rat}(hf:Nice f){a b:Rat}(hab:a<b)(h:∀z,a<=z->z<=b->1<=f z\/f z <= -1):sgR (f a)=sgR (f b):=by
 obtain⟨u,u0,u1⟩:=iS a;obtain⟨v,v0,v1⟩:=iS b;obtain⟨M,m0,m1,m2⟩:=hf (u+v) (by grind)
 have hB:∀z,a<=z->z<=b->Bd (u+v) z:=λz h1 h2=>by obtain⟨p1,p2⟩:=u1;obtain⟨p3,p4⟩:=v1;constructor<;>grind
 have hT:0<M+1:=by grind
 obtain⟨n,hn⟩:=kU (cQ (show(0:Rat)<1 by decide) hT) (b-a);refine kj (C:=λx y=>sgR (f x)=sgR (f y)) (λx y z _ _ h1 h2=>h1.trans h2) (cQ (show(0:Rat)<1 by decide) hT) (a:=a) (b:=b) (λx y hx hy hxy hd=>?_) n a b (by grind) (by grind) hab hn
 have hd':(y-x)*(M+1)<=1:=by
  have:=FP hd (Fn hT)
  rwa [FG (by grind)]at this
 obtain⟨f1,f2⟩:=m2 x y (hB x hx (by grind)) (hB y (by grind) hy) (by grind);have hx1:=h x hx (by grind);have hy1:=h y (by grind) hy;rcases aZ (f x)with⟨a1,a2⟩ |⟨a1,a2⟩ |⟨a1,a2⟩<;>rcases aZ (f y)with⟨b1,b2⟩ |⟨b1,b2⟩ |⟨b1,b2⟩
 ·rw[a2,b2]
 ·grind
 ·grind
 ·grind
 ·grind
 ·grind
 ·grind
 ·grind
 ·rw[a2,b2]
theorem nE{s:Rat->Int}{ε:Rat}(hε:0<ε):∀(n:Nat) (x y:Rat),x<y->0<s x->s y<=0->y-x<=2^n*ε->∃x' y',x<=x'/\x'<y'/\y'<=y/\y'-x'<=ε/\0<s x'/\s y'<=0
 |0,x,y,hxy,hx,hy,hd=>⟨x,y,FS,hxy,FS,by rw[Gw]at hd;grind,hx,hy⟩
 |n+1,x,y,hxy,hx,hy,hd=>by
  have m1:x<(x+y)/2:=by grind
  have m2:(x+y)/2<y:=by grind
  rw[FV]at hd;by_cases h:s ((x+y)/2)<=0
  ·obtain⟨x',y',h1,h2,h3,h4⟩:=nE hε n x _ m1 hx h (by grind);exact⟨x',y',h1,h2,by grind,h4⟩
  ·obtain⟨x',y',h1,h2,h3,h4⟩:=nE hε n _ y m2 (by omega) hy (by grind);exact⟨x',y',by grind,h2,h3,h4⟩
theorem tJ{f:Rat->Rat}(hf:Nice f){S:List (Rat->Int)}{ε:Int}(hε:ε=1\/ε = -1)(hS:∀s∈S,Cut s)(hv:∀x,sgR (f x)=ε*cpr x S){δ:Rat}(hδ:0<δ)(hp:∀x y,x<y->y-x<=δ->S.Pairwise λs t=>¬(inC s x y/\inC t x y)){a b:Rat}(hab:a<b)(h:∀z,a<=z->z<=b->1<=f z\/f z <= -1){s:Rat->Int}(hs:s∈S):¬(0<s a/\s b<=0):=by
 rintro⟨ha,hb⟩;obtain⟨n,hn⟩:=kU hδ (b-a);obtain⟨x,y,h1,h2,h3,h4,h5,h6⟩:=nE hδ n a b hab ha hb hn;have hc:=vt hε hS h2 (hv x) (hv y) (hp x y h2 h4);have hsame:=Bg hf h2 λz hz1 hz2=>h z (by grind) (by grind)
 unfold chg at hc
 rw[if_neg (λz=>z.2 hsame.symm)]at hc
 have pos:∀(S:List (Rat->Int)),s∈S->1<=cnt S x y:=λS=>by
  induction S with
  |nil=>intro h;cases h
  |cons t S ih =>
   intro h
   have nn:∀S:List (Rat->Int),0<=cnt S x y:=λS=>by
    induction S with
    |nil=>exact GM _
    |cons t S ih=>rw[cZ];split<;>omega
   rw[cZ];rcases FC.mp h with rfl |h
   ·rw[if_pos ⟨h5,h6⟩];have:=nn S;omega
   ·have:=ih h;split<;>omega
 have:=pos S hs;omega
theorem yJ{ss:List (List Int)}(hs:∀s∈ss,s≠[]/\Tr s){t:Int}{n:Nat}(hn:0<n)(h:n^sl ss<=(pr t n ss).natAbs):1<=pv (av [1] ss) ((t:Rat)/((n:Int):Rat))\/pv (av [1] ss) ((t:Rat)/((n:Int):Rat)) <= -1:=by
 have hn':(0:Int)<(n:Int):=by omega
 obtain⟨p1,p2,p3⟩:=fU ss [1] (by simp) ((tr_snoc (r:=[])).mpr (by decide)) hs;have e1:=jU t n ss [1] (by simp) λs h=>(hs s h).1
 rw[iP,FF]at e1;have e2:=congrArg Int.natAbs e1;rw[Fs,GQ,Fs,FU]at e2;have h3:n*n^sl ss<=n^ss.length*(hv t n (av [1] ss)).natAbs:=by rw[e2];exact Gu _ h
 have e4:n*n^sl ss=n^ss.length*n^(av [1] ss).length:=by
  rw[<- Nat.pow_add,Hn,<- GC]
  congr 1
  have:([1]:List Int).length=1:=rfl;omega
 rw[e4]at h3;have h5:=HV h3 (GY hn);have e6:=jT (t:=t) hn' (av [1] ss);generalize pv (av [1] ss) ((t:Rat)/((n:Int):Rat))=q at *
 generalize hv t n (av [1] ss)=z at *
 have hp:(0:Rat)<((n:Int):Rat)^(av [1] ss).length:=GH (FK.mpr hn')
 have e7:(((n^(av [1] ss).length:Nat):Int):Rat)=((n:Int):Rat)^(av [1] ss).length:=by rw[Hv,Hg]
 rcases Int.le_total 0 z with w |w
 ·left;have h8:((n^(av [1] ss).length:Nat):Int)<=z:=by omega
  have h9:=GG.mpr h8;rw[e7,e6]at h9;refine Gp.mp λhq=>?_
  have:=Hh hq hp;grind
 ·right;have h8:z <= -((n^(av [1] ss).length:Nat):Int):=by omega
  have h9:=GG.mpr h8;rw[G3,e7,e6]at h9;refine Gp.mp λhq=>?_
  have:=Hh hq hp;grind
theorem xu{l:List Int}(hl:Spt l):∃M:Int,0<M/\∀T:Int,M<=T->aV l T 1<0/\0<aV l (-T) 1:=by
 obtain⟨u,e,b,s,rfl,he,hb,hs⟩:=hl;refine⟨(u.natAbs:Int)+e+1,by omega,λT hT=>?_⟩
 have h1:T<=b*T:=by have:=Gv hb (show 0<=T by omega);omega
 have g1:e+1<=b*T-u*1:=by omega
 have g2:e+1<=0-(b * -T-u*1):=by have:b * -T = -(b*T):=Int.mul_neg _ _;omega
 have q1:=fK (show 0<=e+1 by omega) g1;have q2:=fK (show 0<=e+1 by omega) g2;have q3:(e+1)*(e+1)=e*e+2*e+1:=by grind
 have q4:0<=e*e:=FZ he he;rcases hs with rfl |rfl
 ·constructor
  ·show bz (e*1*1) (b*T-u*1)<0;rcases bW (e*1*1) (b*T-u*1)with z |z |z<;>omega
  ·show 0<bz (e*1*1) (b * -T-u*1);rcases bW (e*1*1) (b * -T-u*1)with z |z |z<;>omega
 ·constructor
  ·show 0-bz (e*1*1) (0-(b*T-u*1))<0;rcases bW (e*1*1) (0-(b*T-u*1))with z |z |z<;>omega
  ·show 0<0-bz (e*1*1) (0-(b * -T-u*1));rcases bW (e*1*1) (0-(b * -T-u*1))with z |z |z<;>omega
theorem xi{fs:List (List Int)}(hF:∀f∈fs,FacG f)(hnd:(fs.map ao).Nodup){B:Nat}(hB:1<=B)(hb:∀x∈(av [1] (fs.map ao)).take ((av [1] (fs.map ao)).length-1),x.natAbs<=(B-1)*(aJ (av [1] (fs.map ao))).natAbs){l:List Int}(hl:l∈aO fs):aV l B 1<0/\0<aV l (-(B:Int)) 1:=by
 have hFQ:∀f∈fs,gg f:=λf hf=>(hF f hf).q
 have hss:∀s∈fs.map ao,s≠[]/\Tr s:=λs h=>by obtain⟨x,hx,rfl⟩:=Fe.mp h;exact k9 (hFQ x hx)
 have hT:Tr (av [1] (fs.map ao)):=(fU (fs.map ao) [1] (by simp) ((tr_snoc (r:=[])).mpr (by decide)) hss).2.1;have e1:ac [1] (av [1] (fs.map ao))=av [1] (fs.map ao):=one_mul _ hT;have far:=λ(t:Int) (n:Nat)=>Cd (t:=t) (n:=n) (B:=B) (c:=1) (by decide) hss hB (by rw[e1];exact hb)
 have hspt:=dz hFQ hl;have hcut:=jl hspt
 have hS:∀s∈(aO fs).map sdR,Cut s:=λs hs=>by obtain⟨l,hl,rfl⟩:=Fe.mp hs;exact jl (dz hFQ hl)
 have hf:∀x,sgR (pv (av [1] (fs.map ao)) x)=1*cpr x ((aO fs).map sdR):=λx=>by have h1:=sN (t:=x.num) (n:=x.den) (c:=1) (cX x) hFQ;rw[e1,ln (cX x),hJ]at h1;rw[oE,h1];rfl
 have hap:=jb hF hnd
 have hp:∀x y:Rat,x<y->y-x<=1/2^40->((aO fs).map sdR).Pairwise λs t=>¬(inC s x y/\inC t x y):=λx y hxy hdd=>by rw[HN];exact hap.imp_of_mem λ{l l'} hl hl' h=>km (dz hFQ hl) (dz hFQ hl') h hxy hdd
 have away:∀z:Rat,((B:Int):Rat)<=z\/z <= -((B:Int):Rat)->1<=pv (av [1] (fs.map ao)) z\/pv (av [1] (fs.map ao)) z <= -1:=λz hz=>by
  have h1:=yJ hss (t:=z.num) (n:=z.den) z.den_pos (far z.num z.den z.den_pos ?_)
  ·rw[hJ]at h1;exact h1
  ·have hd:(0:Rat)<((z.den:Int):Rat):=FK.mpr (cX z);have hnum:=tz z;rcases hz with w |w
   ·have h2:=FP w (Fn hd);rw[<- hnum,<- FJ]at h2;have h3:=GG.mp h2;have h4:((B*z.den:Nat):Int)=(B:Int)*(z.den:Int):=Hq _ _;omega
   ·have h2:=FP w (Fn hd);rw[<- hnum,<- G3,<- FJ]at h2;have h3:=GG.mp h2;have h4:((B*z.den:Nat):Int)=(B:Int)*(z.den:Int):=Hq _ _;have h5 : -(B:Int)*(z.den:Int) = -((B:Int)*(z.den:Int)):=Int.neg_mul _ _;omega
 obtain⟨M,hM,hfar⟩:=xu hspt;have hmem:sdR l∈(aO fs).map sdR:=Fe.mpr ⟨l,hl,rfl⟩;have δ0:(0:Rat)<1/2^40:=cQ (by decide) (GH (by decide))
 have int1:∀z:Int,sdR l (z:Rat)=aV l z 1:=λz=>by
  have:=ir l (t:=z) (n:=1) (by decide)
  have e:(z:Rat)/((1:Int):Rat)=(z:Rat):=by have:((1:Int):Rat)=1:=rfl;rw[this];grind
  rw[e]at this;exact this
 constructor
 ·
  have hlt:((B:Int):Rat)<((M+B:Int):Rat):=FK.mpr (by omega);have no:=tJ (cq _) (.inl rfl) hS hf δ0 hp hlt (λz h1 _=>away z (.inl h1)) hmem;rw[int1,int1]at no;have hfr:=(hfar (M+B) (by omega)).1;rcases kZ l B 1 with z |z |z
  ·exact absurd ⟨by omega,by omega⟩ no
  ·
   exfalso;have h1:=away (((B:Int)):Rat) (.inl FS)
   have h2:sgR (pv (av [1] (fs.map ao)) ((B:Int):Rat))=0:=by
    rw[hf]
    have h3:∀(S:List (Rat->Int)) (x:Rat) (s:Rat->Int),s∈S->s x=0->cpr x S=0:=λS x s hs h0=>by obtain⟨pre,post,rfl⟩:=He hs;rw[j6];show _*(-s x*_)=0;rw[h0];simp
    rw[h3 _ _ _ hmem (by rw[int1];exact z)];rfl
   rcases aZ (pv (av [1] (fs.map ao)) ((B:Int):Rat))with⟨a,c⟩ |⟨a,c⟩ |⟨a,c⟩
   ·omega
   ·grind
   ·omega
  ·omega
 ·have hlt:((-(M+B):Int):Rat)<((-(B:Int):Int):Rat):=FK.mpr (by omega);have no:=tJ (cq _) (.inl rfl) hS hf δ0 hp hlt (λz _ h2=>away z (.inr (by rw[G3]at h2;exact h2))) hmem;rw[int1,int1]at no;have hfr:=(hfar (M+B) (by omega)).2;rcases kZ l (-(B:Int)) 1 with z |z |z
  ·omega
  ·exact absurd ⟨hfr,by omega⟩ no
  ·exact absurd ⟨hfr,by omega⟩ no
theorem CO(S:List (Rat->Int))(x y:Rat):0<=cnt S x y:=by
 induction S with
 |nil=>exact GM _
 |cons t S ih=>rw[cZ];split<;>omega
theorem oG{x y:Rat}:∀{S:List (Rat->Int)},(S.Pairwise λs t=>¬(inC s x y/\inC t x y))->cnt S x y<=1
 | [],_=>by rw[vo];decide
 |s::S,h=>by
  obtain⟨h1,h2⟩:=Hf.mp h;rw[cZ];have ih:=oG h2;by_cases hs:0<s x/\s y<=0
  ·rw[if_pos hs]
   have z:∀(S:List (Rat->Int)),(∀t∈S,¬(inC s x y/\inC t x y))->cnt S x y=0:=λS=>by
    induction S with
    |nil=>intro _;rfl
    |cons t S ih =>intro h;rw[cZ,ih λu hu=>h u (Fi _ hu),if_neg λw=>h t (Fl ..) ⟨⟨FB hs.1,hs.2⟩,⟨FB w.1,w.2⟩⟩];rfl
   rw[z S h1];decide
  ·rw[if_neg hs];omega
theorem CT(l:List Int)(ls:List (List Int))(t n t' n':Int):cG (l::ls) t n t' n'=(if 0<aV l t n/\aV l t' n'<=0 then 1 else 0)+cG ls t n t' n':=by unfold cG;rw[Fo,Hd]
theorem CS{fs:List (List Int)}(hF:∀f∈fs,FacG f)(hn:(fs.map ao).Nodup){l1 l2 h1 h2:Int}(l2p:0<l2)(h2p:0<h2)(lt:l1*h2<h1*l2)(hw:(h1*l2-l1*h2)*2^40<=l2*h2):cG (aO fs) l1 l2 h1 h2<=1:=by
 rw[<- j8 l2p h2p];refine oG ?_;rw[HN]
 have hd:(h1:Rat)/(h2:Rat)-(l1:Rat)/(l2:Rat)<=1/2^40:=by
  have L2:(0:Rat)<(l2:Rat):=FK.mpr l2p;have H2:(0:Rat)<(h2:Rat):=FK.mpr h2p;have e1:(l1:Rat)/(l2:Rat)*(l2:Rat)=(l1:Rat):=FG (Rat.ne_of_gt L2);have e2:(h1:Rat)/(h2:Rat)*(h2:Rat)=(h1:Rat):=FG (Rat.ne_of_gt H2);generalize (l1:Rat)/(l2:Rat)=x at e1 ⊢
  generalize (h1:Rat)/(h2:Rat)=y at e2 ⊢
  have hw':((h1:Rat)*(l2:Rat)-(l1:Rat)*(h2:Rat))*2^40<=(l2:Rat)*(h2:Rat):=by have:=GG.mpr hw;rw[FJ,FJ,Rat.intCast_sub,FJ,FJ]at this;exact this
  have M:(0:Rat)<(l2:Rat)*(h2:Rat):=Gn L2 H2;have P:(0:Rat)<2^40:=GH (by decide);rw[<- e1,<- e2]at hw';have e3:(y*(h2:Rat)*(l2:Rat)-x*(l2:Rat)*(h2:Rat))*2^40=((y-x)*2^40)*((l2:Rat)*(h2:Rat)):=by grind
  rw[e3]at hw'
  have h4:(y-x)*2^40<=1:=by
   refine Gp.mp λz=>?_
   have:=Gn (show 0<(y-x)*2^40-1 by grind) M;grind
  have e5:(1:Rat)/2^40*2^40=1:=FG (Rat.ne_of_gt P);refine Gp.mp λz=>?_
  have:=Gn (show 0<(y-x)-1/2^40 by grind) P;grind
 exact(jb hF hn).imp_of_mem λ{l l'} hl hl' h=>km (dz (λf hf=>(hF f hf).q) hl) (dz (λf hf=>(hF f hf).q) hl') h ((jz l2p h2p).mpr lt) hd
structure Dya(B:Int)(d:Nat)(l1 l2 h1 h2:Int):Prop where
 l2p:0<l2
 h2p:0<h2
 gl:Nat.gcd l1.natAbs l2.natAbs=1
 gh:Nat.gcd h1.natAbs h2.natAbs=1
 at':∃m:Int,0<=m/\m+1<=2^d/\l1*2^d=(2*m*B-B*2^d)*l2/\h1*2^d=(2*(m+1)*B-B*2^d)*h2
theorem uS{X l1 l2:Int}{d k:Nat}(l2p:0<l2)(g:Nat.gcd l1.natAbs l2.natAbs=1)(e:l1*2^d=X*l2)(hX:X.natAbs<=2^k)(hk:d<=k):l1.natAbs<=2^k/\l2.natAbs<=2^k:=by
 have e':l1.natAbs*2^d=X.natAbs*l2.natAbs:=by have:=congrArg Int.natAbs e;rw[Fs,Fs,GQ]at this;exact this
 have hd:l2.natAbs∣2^d:=by refine Nat.Coprime.dvd_of_dvd_mul_left (k:=l2.natAbs) (m:=l1.natAbs) (by rw[Nat.Coprime,Nat.gcd_comm];exact g) ?_;exact⟨X.natAbs,by rw[e',Hn]⟩
 have p2:0<2^d:=GY (by decide);have hle:=Nat.le_of_dvd p2 hd;refine⟨?_,Fu hle (Nat.pow_le_pow_right (by decide) hk)⟩;have h1:l1.natAbs*2^d<=X.natAbs*2^d:=by rw[e'];exact Gu _ hle
 exact Fu (Nat.le_of_mul_le_mul_right h1 p2) hX
theorem tD{B D m:Int}{N:Nat}(hN:(N:Int)=B*D)(B0:0<B)(m0:0<=m)(m1:m<=D):(2*m*B-B*D).natAbs<=N:=by
 have k1:0<=m*B:=FZ m0 (FB B0);have k2:m*B<=D*B:=Gv m1 (FB B0);have k4:D*B=B*D:=FO _ _;have k5:2*m*B=2*(m*B):=FM _ _ _;rw[k5];generalize m*B=x at *
 generalize B*D=y at *
 omega
theorem Dya.bits{kb d:Nat}{l1 l2 h1 h2:Int}(h:Dya (2^kb) d l1 l2 h1 h2):(l1.natAbs<=2^(kb+d)/\l2.natAbs<=2^(kb+d))/\h1.natAbs<=2^(kb+d)/\h2.natAbs<=2^(kb+d):=by
 obtain⟨l2p,h2p,gl,gh,m,m0,m1,e1,e2⟩:=h;have B0:(0:Int)<2^kb:=Gb (by decide);have eq:(((2:Nat)^(kb+d):Nat):Int)=2^kb*2^d:=by rw[Hv,G9];rfl
 exact⟨uS l2p gl e1 (tD eq B0 m0 (by omega)) (by omega),uS h2p gh e2 (tD eq B0 (by omega) m1) (by omega)⟩
theorem Dya.width{B:Int}{d:Nat}{l1 l2 h1 h2:Int}(h:Dya B d l1 l2 h1 h2):(h1*l2-l1*h2)*2^d=2*B*(l2*h2):=by obtain⟨l2p,h2p,gl,gh,m,m0,m1,e1,e2⟩:=h;grind
theorem Dya.lt{B:Int}(hB:0<B){d:Nat}{l1 l2 h1 h2:Int}(h:Dya B d l1 l2 h1 h2):l1*h2<h1*l2:=by
 have w:=h.width;have p:(0:Int)<2^d:=Gb (by decide);have q:0<2*B*(l2*h2):=FD (by omega) (FD h.l2p h.h2p);rw[<- w]at q
 have:0<h1*l2-l1*h2:=Int.not_le.mp λz=>by have:=Int.mul_nonpos_of_nonpos_of_nonneg z (FB p);omega
 omega
theorem Dya.start{B:Int}:Dya B 0 (-B) 1 B 1:=⟨by decide,by decide,Nat.gcd_one_right _,Nat.gcd_one_right _,0,by decide,by decide,by grind,by grind⟩
theorem Dya.half{B:Int}{d:Nat}{l1 l2 h1 h2 c1 c2:Int}(h:Dya B d l1 l2 h1 h2)(c2p:0<c2)(gc:Nat.gcd c1.natAbs c2.natAbs=1)(e:c1*(2*l2*h2)=(l1*h2+h1*l2)*c2):Dya B (d+1) l1 l2 c1 c2/\Dya B (d+1) c1 c2 h1 h2:=by
 obtain⟨l2p,h2p,gl,gh,m,m0,m1,e1,e2⟩:=h
 have ec:c1*2^(d+1)=(2*(2*m+1)*B-B*2^(d+1))*c2:=by
  have hp:0<l2*h2:=FD l2p h2p;refine Ia (a:=l2*h2) (by omega) ?_;rw[Fw];have q1:c1*(2^d*2)*(l2*h2)=c1*(2*l2*h2)*2^d:=by grind
  rw[q1,e];have q2:(l1*h2+h1*l2)*c2*2^d=(l1*2^d*h2+h1*2^d*l2)*c2:=by grind
  rw[q2,e1,e2];grind
 have p2:(2:Int)^(d+1)=2^d*2:=Fw ..;refine⟨⟨l2p,c2p,gl,gc,2*m,by omega,by omega,?_,ec⟩,⟨c2p,h2p,gc,gh,2*m+1,by omega,by omega,ec,?_⟩⟩
 ·rw[p2,<- FM,e1];grind
 ·rw[p2,<- FM,e2];grind
theorem Dya.few{fs:List (List Int)}(hF:∀f∈fs,FacG f)(hn:(fs.map ao).Nodup){kb d:Nat}{l1 l2 h1 h2:Int}(h:Dya (2^kb) d l1 l2 h1 h2)(hd:kb+41<=d):cG (aO fs) l1 l2 h1 h2<=1:=by
 have B0:(0:Int)<2^kb:=Gb (by decide);refine CS hF hn h.l2p h.h2p (h.lt B0) ?_;have w:=h.width;obtain⟨j,rfl⟩:∃j,d=kb+41+j:=⟨d-(kb+41),by omega⟩
 have e:(2:Int)^(kb+41+j)=2*2^kb*(2^40*2^j):=by rw[G9,G9,show(2:Int)^41=2*2^40 by decide];grind
 have j0:(1:Int)<=2^j:=by have:=Gb (n:=2) (m:=j) (by decide);omega
 rw[e]at w;have lp:=h.lt B0;have e2:(h1*l2-l1*h2)*(2*2^kb*(2^40*2^j))=2*2^kb*((h1*l2-l1*h2)*2^40*2^j):=by grind
 rw[e2]at w;have w2:=Ha (show 2*(2:Int)^kb≠0 by omega) w;have q:0<=(h1*l2-l1*h2)*2^40:=FZ (by omega) (FB (Gb (by decide)));have:=Int.mul_le_mul_of_nonneg_left j0 q;rw[Int.mul_one]at this;rw[<- w2];exact this
noncomputable def clr(head:List Int)(bf:Int)(row:List Int):List Int:=(List.range (row.length-1)).map λk=>(cf head 0*cf row (k+1)-cf row 0*cf head (k+1)).fdiv bf
abbrev Rw:=Nat->Int
noncomputable def tl(r:Rw):Rw:=λj=>r (j+1)
noncomputable def cmb(a:Int)(r:Rw)(b:Int)(s:Rw):Rw:=λj=>a*r j+b*s j
noncomputable def lap(f:List Rw->Int):List Rw->List Rw->Int
 |_,[]=>0
 |pre,r::rs=>r 0*f (pre++rs)-lap f (pre++[r]) rs
noncomputable def D:Nat->List Rw->Int
 |0,_=>1
 |n+1,rows=>lap (λm=>D n (m.map tl)) [] rows
theorem Dr(n:Nat)(rows:List Rw):D (n+1) rows=lap (λm=>D n (m.map tl)) [] rows:=rfl
theorem wS(a:Int)(r:Rw)(b:Int)(s:Rw):tl (cmb a r b s)=cmb a (tl r) b (tl s):=rfl
theorem c7:∀(n:Nat) (pre post:List Rw) (r s:Rw) (a b:Int),pre.length+1+post.length=n->D n (pre++cmb a r b s::post)=a*D n (pre++r::post)+b*D n (pre++s::post)
 |0,pre,post,r,s,a,b,h=>by omega
 |n+1,pre,post,r,s,a,b,h=>by
  have fl:∀p q:List Rw,p.length+1+q.length=n->D n ((p++cmb a r b s::q).map tl)=a*D n ((p++r::q).map tl)+b*D n ((p++s::q).map tl):=λp q hl=>by rw[Fk,Fo,Fk,Fo,Fk,Fo,wS];exact c7 n (p.map tl) (q.map tl) (tl r) (tl s) a b (by simpa using hl)
  have A:∀(rows p q:List Rw),p.length+1+q.length+rows.length=n+1->lap (λm=>D n (m.map tl)) (p++cmb a r b s::q) rows=a*lap (λm=>D n (m.map tl)) (p++r::q) rows+b*lap (λm=>D n (m.map tl)) (p++s::q) rows:=by
   intro rows
   induction rows with
   |nil=>intro p q _;simp[lap]
   |cons x xs ih =>intro p q hl;rw[Ff]at hl;have h1:=fl p (q++xs) (by rw[Fd];omega);have h2:=ih p (q++[x]) (by rw[Fd];show p.length+1+(q.length+1)+xs.length=n+1;omega);show x 0*D n ((p++cmb a r b s::q++xs).map tl)-lap _ (p++cmb a r b s::q++[x]) xs=a*(x 0*D n ((p++r::q++xs).map tl)-lap _ (p++r::q++[x]) xs)+b*(x 0*D n ((p++s::q++xs).map tl)-lap _ (p++s::q++[x]) xs);simp only[Fy,FA]at h1 h2 ⊢;rw[h1,h2];grind
  have B:∀(p p0:List Rw),p0.length+p.length+1+post.length=n+1->lap (λm=>D n (m.map tl)) p0 (p++cmb a r b s::post)=a*lap (λm=>D n (m.map tl)) p0 (p++r::post)+b*lap (λm=>D n (m.map tl)) p0 (p++s::post):=by
   intro p
   induction p with
   |nil =>intro p0 hl;have h2:=A post p0 [] (by simpa using hl);show cmb a r b s 0*D n ((p0++post).map tl)-lap _ (p0++[cmb a r b s]) post=a*(r 0*D n ((p0++post).map tl)-lap _ (p0++[r]) post)+b*(s 0*D n ((p0++post).map tl)-lap _ (p0++[s]) post);rw[h2];show(a*r 0+b*s 0)*_-_=_;grind
   |cons x xs ih =>intro p0 hl;rw[Ff]at hl;have h1:=fl (p0++xs) post (by rw[Fd];omega);have h2:=ih (p0++[x]) (by rw[Fd];show p0.length+1+xs.length+1+post.length=n+1;omega);show x 0*D n ((p0++(xs++cmb a r b s::post)).map tl)-lap _ (p0++[x]) (xs++cmb a r b s::post)=a*(x 0*D n ((p0++(xs++r::post)).map tl)-lap _ (p0++[x]) (xs++r::post))+b*(x 0*D n ((p0++(xs++s::post)).map tl)-lap _ (p0++[x]) (xs++s::post));simp only[Fy]at h1;rw[h1,h2];grind
  exact B pre [] (by simpa using h)
theorem gi:∀(n:Nat) (pre post:List Rw) (r:Rw),pre.length+2+post.length=n->D n (pre++r::r::post)=0
 |0,pre,post,r,h=>by omega
 |n+1,pre,post,r,h=>by
  have fl:∀p q:List Rw,p.length+2+q.length=n->D n ((p++r::r::q).map tl)=0:=λp q hl=>by rw[Fk,Fo,Fo];exact gi n (p.map tl) (q.map tl) (tl r) (by simpa using hl)
  have A:∀(rows p q:List Rw),p.length+2+q.length+rows.length=n+1->lap (λm=>D n (m.map tl)) (p++r::r::q) rows=0:=by
   intro rows
   induction rows with
   |nil=>intro p q _;rfl
   |cons x xs ih =>intro p q hl;rw[Ff]at hl;have h1:=fl p (q++xs) (by rw[Fd];omega);have h2:=ih p (q++[x]) (by rw[Fd];show p.length+2+(q.length+1)+xs.length=n+1;omega);show x 0*D n ((p++r::r::q++xs).map tl)-lap _ (p++r::r::q++[x]) xs=0;simp only[Fy,FA]at h1 h2 ⊢;rw[h1,h2,Fp];rfl
  have B:∀(p p0:List Rw),p0.length+p.length+2+post.length=n+1->lap (λm=>D n (m.map tl)) p0 (p++r::r::post)=0:=by
   intro p
   induction p with
   |nil =>intro p0 hl;have h2:=A post p0 [] (by simpa using hl);show r 0*D n ((p0++r::post).map tl)-(r 0*D n ((p0++[r]++post).map tl)-lap _ (p0++[r]++[r]) post)=0;simp only[Fy,FA,Fm]at h2 ⊢;rw[h2];omega
   |cons x xs ih =>intro p0 hl;rw[Ff]at hl;have h1:=fl (p0++xs) post (by rw[Fd];omega);have h2:=ih (p0++[x]) (by rw[Fd];show p0.length+1+xs.length+2+post.length=n+1;omega);show x 0*D n ((p0++(xs++r::r::post)).map tl)-lap _ (p0++[x]) (xs++r::r::post)=0;simp only[Fy]at h1;rw[h1,h2,Fp];rfl
  exact B pre [] (by simpa using h)
theorem Dp{n:Nat}{pre post:List Rw}{r s:Rw}(h:pre.length+2+post.length=n):D n (pre++r::s::post) =-D n (pre++s::r::post):=by have e0:=gi n pre post (cmb 1 r 1 s) h;rw[c7 n pre (cmb 1 r 1 s::post) r s 1 1 (by rw[Ff];omega)]at e0;have e1:=c7 n (pre++[r]) post r s 1 1 (by rw[Fd];show pre.length+1+1+post.length=n;omega);have e2:=c7 n (pre++[s]) post r s 1 1 (by rw[Fd];show pre.length+1+1+post.length=n;omega);simp only[Fy,FA,Fm]at e1 e2;have e3:=gi n pre post r h;have e4:=gi n pre post s h;rw[e1,e2,e3,e4]at e0;omega
theorem iV{n:Nat}{h:Rw}{post:List Rw}:∀(pre q:List Rw),q.length+pre.length+1+post.length=n->D n (q++pre++h::post)=(-1)^pre.length*D n (q++h::pre++post)
 | [],q,_=>by simp
 |x::pre,q,hl=>by rw[Ff]at hl;have ih:=iV (n:=n) (h:=h) (post:=post) pre (q++[x]) (by rw[Fd];show q.length+1+pre.length+1+post.length=n;omega);have e:=Dp (n:=n) (pre:=q) (post:=pre++post) (r:=x) (s:=h) (by rw[Fd];omega);simp only[Fy,FA,Fm]at ih e ⊢;rw[ih,e,Ff,Fw];grind
theorem ku{n:Nat}{h:Rw}{q pre post:List Rw}(hl:q.length+pre.length+2+post.length=n):D n (q++h::pre++h::post)=0:=by have e:=iV (n:=n) (h:=h) (post:=post) pre (q++[h]) (by rw[Fd];show q.length+1+pre.length+1+post.length=n;omega);have e2:=gi n q (pre++post) h (by rw[Fd];omega);simp only[Fy,FA,Fm]at e e2 ⊢;rw[e,e2,Fp]
theorem nX{f:List Rw->Int}:∀(X pre:List Rw),(∀x∈X,x 0=0)->lap f pre X=0
 | [],_,_=>rfl
 |x::X,pre,h=>by show x 0*_-lap f (pre++[x]) X=0;rw[h x (Fl ..),nX X (pre++[x]) λy hy=>h y (Fi _ hy)];omega
theorem iW{m:Nat}{h:Rw}{X:List Rw}(hX:∀x∈X,x 0=0):D (m+1) (h::X)=h 0*D m (X.map tl):=by show h 0*D m (([]++X).map tl)-lap _ ([]++[h]) X=_;rw[nX X _ hX,Fm];omega
theorem kr{m:Nat}{X:List Rw}(hX:∀x∈X,x 0=0):D (m+1) X=0:=nX X [] hX
theorem oZ{n:Nat}{h:Rw}:∀(R q:List Rw),1+q.length+R.length=n->D n (h::(q++R.map λr=>cmb (h 0) r (-(r 0)) h))=h 0^R.length*D n (h::(q++R))
 | [],q,_=>by simp
 |r::R,q,hl=>by rw[Ff]at hl;have e:=c7 n (h::q) (R.map λr=>cmb (h 0) r (-(r 0)) h) r h (h 0) (-(r 0)) (by rw[Fc,Ff];omega);have e2:=ku (n:=n) (h:=h) (q:=[]) (pre:=q) (post:=R.map λr=>cmb (h 0) r (-(r 0)) h) (by rw[Fc,FI];omega);have ih:=oZ (n:=n) (h:=h) R (q++[r]) (by rw[Fd];show 1+(q.length+1)+R.length=n;omega);simp only[Fy,FA,Fm]at e e2 ih ⊢;rw[Fo,e,e2,ih,Ff,Fw];grind
theorem vU{n:Nat}{p:Int}{φ:Rw->Rw}:∀(R q:List Rw),q.length+R.length=n->D n (q++R.map λr=>λj=>p*φ r j)=p^R.length*D n (q++R.map φ)
 | [],q,_=>by simp
 |r::R,q,hl=>by
  rw[Ff]at hl;have e:=c7 n q (R.map λr=>λj=>p*φ r j) (φ r) (φ r) p 0 (by rw[Fc];omega);have e0:cmb p (φ r) 0 (φ r)=λj=>p*φ r j:=by funext j;show p*φ r j+0*φ r j=_;omega
  rw[e0]at e;have ih:=vU (n:=n) (p:=p) (φ:=φ) R (q++[φ r]) (by rw[Fd];show q.length+1+R.length=n;omega);simp only[Fy,FA,Fm]at ih;rw[Fo,Fo,e,ih,Ff,Fw];grind
theorem Ds{h:Rw}{R:List Rw}{p:Int}{φ:Rw->Rw}(hφ:∀r∈R,∀j,p*φ r j=h 0*r (j+1)-r 0*h (j+1)):h 0^R.length*D (R.length+1) (h::R)=h 0*(p^R.length*D R.length (R.map φ)):=by
 have e:=oZ (n:=R.length+1) (h:=h) R [] (by simp;omega);rw[Fm,Fm]at e
 rw[<- e,iW (λx hx=>by
  obtain⟨r,_,rfl⟩:=Fe.mp hx;show h 0*r 0 + -(r 0)*h 0=0
  grind)]
 have e2:=vU (n:=R.length) (p:=p) (φ:=φ) R [] (by simp);rw[Fm,Fm]at e2;rw[<- e2,Fz]
 congr 2
 refine FE λr hr=>?_
 funext j
 show h 0*r (j+1) + -(r 0)*h (j+1)=p*φ r j;rw[hφ r hr j];grind
theorem nZ{f:List Rw->Int}{B F:Nat}{S:Rw->Prop}(hS:∀r,S r->(r 0).natAbs<=B):∀(rows pre:List Rw),(∀r∈pre,S r)->(∀r∈rows,S r)->(∀l:List Rw,l.length+1=pre.length+rows.length->(∀r∈l,S r)->(f l).natAbs<=F)->(lap f pre rows).natAbs<=rows.length*(B*F)
 | [],_,_,_,_=>by simp[lap]
 |r::rs,pre,h1,h2,h3=>by
  have a1:=hS r (h2 r (Fl ..));have a2:=h3 (pre++rs) (by rw[Fd,Ff];omega) (λx hx=>(Fq.mp hx).elim (h1 x) λz=>h2 x (Fi _ z));have a3:=nZ hS rs (pre++[r]) (λx hx=>(Fq.mp hx).elim (h1 x) λz=>by rw[Fv.mp z];exact h2 r (Fl ..)) (λx hx=>h2 x (Fi _ hx)) (λl hl=>h3 l (by rw[Fd]at hl;rw[Ff];have:([r]:List Rw).length=1:=rfl;omega));show(r 0*f (pre++rs)-lap f (pre++[r]) rs).natAbs<=(rs.length+1)*(B*F);have a4:(r 0*f (pre++rs)).natAbs<=B*F:=by rw[Fs];exact GR a1 a2
  have a5:(rs.length+1)*(B*F)=rs.length*(B*F)+B*F:=by rw[Nat.add_mul,Nat.one_mul]
  omega
theorem vW{b:Nat}:∀(n:Nat) (rows:List Rw),n<=16->rows.length=n->(∀r∈rows,∀j,(r j).natAbs<=2^b)->(D n rows).natAbs<=2^((b+4)*n)
 |0,_,_,_,_=>by show(1:Int).natAbs<=2^0;decide
 |n+1,rows,hn,hl,h=>by
  have:=nZ (f:=λm=>D n (m.map tl)) (B:=2^b) (F:=2^((b+4)*n)) (S:=λr=>∀j,(r j).natAbs<=2^b) (λr hr=>hr 0) rows [] (λr hr=>nomatch hr) h (λl hl2 hs=>vW n (l.map tl) (by omega) (by rw[Fc];rw[FI]at hl2;omega) (λr hr j=>by
   obtain⟨x,hx,rfl⟩:=Fe.mp hr
   exact hs x hx (j+1)))
  refine Fu this ?_;rw[hl];have e:(b+4)*(n+1)=4+(b+(b+4)*n):=by rw[Nat.mul_add];omega
  rw[e,Nat.pow_add 2 4,Nat.pow_add 2 b];exact Ga _ hn
noncomputable def sel(C:Nat->Nat)(r:Rw):Rw:=λj=>r (C j)
def DInv(left:List (List Int))(p:Int)(c k N:Nat):Prop:=∀(R:List Rw) (C:Nat->Nat),R≠[]->R.length+k<=N->(∀r∈R,∃x∈left,r=cf x)->∃M:Int,D R.length (R.map (sel C))=p^(R.length-1)*M/\M.natAbs<=2^(c*(R.length+k))
theorem DInv.start{xss:List (List Int)}{b n:Nat}(hn:n<=16)(h:∀x∈xss,∀j,(cf x j).natAbs<=2^b):DInv xss 1 (b+4) 0 n:=λR C _ hl hR=>by
 refine⟨D R.length (R.map (sel C)),by rw[Int.one_pow,FF],?_⟩
 exact vW R.length _ (by omega) (Fc _) λr hr j=>by obtain⟨r',hr',rfl⟩:=Fe.mp hr;obtain⟨x,hx,rfl⟩:=hR r' hr';exact h x hx _
theorem DInv.bits{left:List (List Int)}{p:Int}{c k N:Nat}(h:DInv left p c k N)(hk:1+k<=N){x:List Int}(hx:x∈left)(j:Nat):(cf x j).natAbs<=2^(c*(1+k)):=by
 obtain⟨M,e,hM⟩:=h [cf x] (λ_=>j) (by simp) hk (λr hr=>⟨x,hx,Fv.mp hr⟩)
 have e2:D 1 [sel (λ_=>j) (cf x)]=cf x j:=by show cf x j*1-0=_;omega
 have e3:cf x j=M:=by rw[<- e2];show D 1 [sel (λ_=>j) (cf x)]=M;have:D 1 [sel (λ_=>j) (cf x)]=p^0*M:=e;rw[this,Gg,FF]
 rw[e3];exact hM
noncomputable def phi(h:Rw)(p:Int)(r:Rw):Rw:=λj=>(h 0*r (j+1)-r 0*h (j+1)).fdiv p
theorem CZ{hs x:List Int}{p:Int}(hl:hs.length=x.length):cf (clr hs p x)=phi (cf hs) p (cf x):=by
 funext j
 unfold clr phi;rw[fB];by_cases hj:j<x.length-1
 ·rw[if_pos hj]
 ·rw[if_neg hj,aT (l:=x) (k:=j+1) (by omega),aT (l:=hs) (k:=j+1) (by omega)];simp
theorem DInv.exact{left:List (List Int)}{p:Int}{c k N:Nat}(h:DInv left p c k N)(hp:p≠0)(hk:2+k<=N){hs x:List Int}(h1:hs∈left)(h2:x∈left)(j:Nat):p*phi (cf hs) p (cf x) j=cf hs 0*cf x (j+1)-cf x 0*cf hs (j+1):=by
 obtain⟨M,e,_⟩:=h [cf hs,cf x] (λi=>if i=0 then 0 else j+1) (by simp) hk (λr hr=>by
  simp only[FC,List.not_mem_nil,or_false]at hr;rcases hr with rfl |rfl
  ·exact⟨hs,h1,rfl⟩
  ·exact⟨x,h2,rfl⟩)
 have e2:D 2 [sel (λi=>if i=0 then 0 else j+1) (cf hs),sel (λi=>if i=0 then 0 else j+1) (cf x)]=cf hs 0*cf x (j+1)-cf x 0*cf hs (j+1):=by show cf hs 0*(cf x (j+1)*1-0)-(cf x 0*(cf hs (j+1)*1-0)-0)=_;grind
 have e3:cf hs 0*cf x (j+1)-cf x 0*cf hs (j+1)=p*M:=by rw[<- e2];have:D 2 [sel (λi=>if i=0 then 0 else j+1) (cf hs),sel (λi=>if i=0 then 0 else j+1) (cf x)]=p^1*M:=e;rw[this,Fw,Gg,FF]
 unfold phi;rw[e3,Int.mul_fdiv_cancel_left _ hp]
theorem sK{P:Rw->Prop}{φ:Rw->Rw}:∀R':List Rw,(∀r'∈R',∃r,P r/\r'=φ r)->∃R:List Rw,R'=R.map φ/\∀r∈R,P r
 | [],_=>⟨[],rfl,λ_ h=>nomatch h⟩
 |x::R',h=>by
  obtain⟨r,hr,rfl⟩:=h x (Fl ..);obtain⟨R,rfl,hR⟩:=sK R' λy hy=>h y (Fi _ hy)
  exact⟨r::R,rfl,λy hy=>by
   rcases FC.mp hy with rfl |hy
   ·exact hr
   ·exact hR y hy⟩
noncomputable def upC(C:Nat->Nat):Nat->Nat
 |0=>0
 |j+1=>C j+1
theorem DInv.step{left others:List (List Int)}{p:Int}{c k N:Nat}(h:DInv left p c k N)(hp:p≠0){hs:List Int}(h1:hs∈left)(h0:cf hs 0≠0)(hsub:∀x∈others,x∈left)(hlen:∀x∈others,hs.length=x.length):DInv (others.map (clr hs p)) (cf hs 0) c (k+1) N:=λR' C hne hl hR'=>by
 obtain⟨R,rfl,hR⟩:=sK (P:=λr=>∃x∈others,r=cf x) (φ:=phi (cf hs) p) R' (λr' hr'=>by
  obtain⟨y,hy,rfl⟩:=hR' r' hr';obtain⟨x,hx,rfl⟩:=Fe.mp hy
  exact⟨cf x,⟨x,hx,rfl⟩,CZ (hlen x hx)⟩)
 rw[Fc]at hl ⊢
 obtain⟨M,e,hM⟩:=h (cf hs::R) (upC C) (by simp) (by rw[Ff];omega) (λr hr=>by
  rcases FC.mp hr with rfl |hr
  ·exact⟨hs,h1,rfl⟩
  ·obtain⟨x,hx,rfl⟩:=hR r hr
   exact⟨x,hsub x hx,rfl⟩)
 have hm:1<=R.length:=by
  have:R≠[]:=λz=>hne (by rw[z];rfl)
  have:=Fh.mpr this;omega
 have st:=Ds (h:=sel (upC C) (cf hs)) (R:=R.map (sel (upC C))) (p:=p) (φ:=phi (sel (upC C) (cf hs)) p) (λr hr j=>by
  obtain⟨r',hr',rfl⟩:=Fe.mp hr;obtain⟨x,hx,rfl⟩:=hR r' hr'
  exact h.exact hp (by omega) h1 (hsub x hx) (C j))
 rw[Fc,Fz]at st;have e':D (R.length+1) (sel (upC C) (cf hs)::R.map (sel (upC C)))=p^R.length*M:=e;rw[e']at st;have em:List.map (phi (sel (upC C) (cf hs)) p ∘ sel (upC C)) R=(R.map (phi (cf hs) p)).map (sel C):=by rw[Fz];rfl
 rw[em]at st;have hs0:sel (upC C) (cf hs) 0=cf hs 0:=rfl;rw[hs0]at st
 refine⟨M,?_,by rw[Ff]at hM;have e5:R.length+(k+1)=R.length+1+k:=by omega
                rw[e5];exact hM⟩
 generalize D R.length ((R.map (phi (cf hs) p)).map (sel C))=D' at st ⊢
 obtain⟨m,em⟩:∃m,R.length=m+1:=⟨R.length-1,by omega⟩;rw[em]at st ⊢;have hpm:p^(m+1)≠0:=G4 hp;show D'=cf hs 0^m*M;generalize p^(m+1)=q at st hpm
 rw[Fw]at st;generalize cf hs 0^m=x at st ⊢
 generalize cf hs 0=y at st h0
 have hyq:y*q≠0:=Ft h0 hpm;refine Ha hyq ?_;grind
noncomputable def sh(k:Nat)(r:Rw):Rw:=λj=>r (j+k)
noncomputable def dp:Nat->List Rw->Int
 |_,[]=>1
 |k,r::rs=>r k*dp (k+1) rs
theorem vT:∀(R:List Rw) (k:Nat),(∀(i:Nat) (r:Rw),R[i]?=some r->∀j,j<i->r (j+k)=0)->D R.length (R.map (sh k))=dp k R
 | [],_,_=>rfl
 |h::X,k,hz=>by
  have ih:=vT X (k+1) λi r hr j hj=>by
   have:=hz (i+1) r hr (j+1) (by omega);have e:j+1+k=j+(k+1):=by omega
   rw[e]at this;exact this
  show D (X.length+1) (sh k h::X.map (sh k))=h k*dp (k+1) X
  rw[iW (λx hx=>by
   obtain⟨y,hy,rfl⟩:=Fe.mp hx;obtain⟨i,hi,rfl⟩:=List.mem_iff_getElem.mp hy
   exact hz (i+1) X[i] (by rw[List.getElem?_cons_succ];exact List.getElem?_eq_getElem hi) 0 (by omega)),<- ih,Fz]
  have e0:sh k h 0=h k:=by show h (0+k)=h k;rw[GP]
  rw[e0]
  congr 2
  refine FE λr _=>?_
  funext j
  show r (j+1+k)=r (j+(k+1))
  congr 1;omega
variable {ι:Type}
noncomputable def bN(h:ι->Int)(f:List ι->Int):List ι->List ι->Int
 |_,[]=>0
 |pre,r::rs=>h r*f (pre++rs)-bN h f (pre++[r]) rs
theorem uk(F:ι->Rw)(f:List Rw->Int):∀rows pre:List ι,lap f (pre.map F) (rows.map F)=bN (λi=>F i 0) (λm=>f (m.map F)) pre rows
 | [],_=>rfl
 |r::rs,pre=>by show F r 0*f (pre.map F++rs.map F)-lap f (pre.map F++[F r]) (rs.map F)=F r 0*f ((pre++rs).map F)-bN _ _ (pre++[r]) rs;rw[<- uk F f rs (pre++[r]),Fk,Fk,Fo,Gz]
theorem fG(n:Nat)(F:ι->Rw)(l:List ι):D (n+1) (l.map F)=bN (λi=>F i 0) (λm=>D n (m.map λi=>tl (F i))) [] l:=by
 have:=uk F (λm=>D n (m.map tl)) l [];rw[Dr];rw[Gz]at this;rw[this]
 congr 1
 funext m
 rw[Fz];rfl
theorem uh(x y:Int)(h1 h2:ι->Int)(f:List ι->Int):∀rows pre:List ι,bN (λi=>x*h1 i+y*h2 i) f pre rows=x*bN h1 f pre rows+y*bN h2 f pre rows
 | [],_=>by simp[bN]
 |r::rs,pre=>by show(x*h1 r+y*h2 r)*f (pre++rs)-bN _ f (pre++[r]) rs=x*(h1 r*f (pre++rs)-bN h1 f (pre++[r]) rs)+y*(h2 r*f (pre++rs)-bN h2 f (pre++[r]) rs);rw[uh x y h1 h2 f rs (pre++[r])];grind
theorem ui(x y:Int)(h:ι->Int)(f f1 f2:List ι->Int)(hf:∀m,f m=x*f1 m+y*f2 m):∀rows pre:List ι,bN h f pre rows=x*bN h f1 pre rows+y*bN h f2 pre rows
 | [],_=>by simp[bN]
 |r::rs,pre=>by show h r*f (pre++rs)-bN h f (pre++[r]) rs=x*(h r*f1 (pre++rs)-bN h f1 (pre++[r]) rs)+y*(h r*f2 (pre++rs)-bN h f2 (pre++[r]) rs);rw[ui x y h f f1 f2 hf rs (pre++[r]),hf];grind
theorem uj{S:ι->Prop}{h1 h2:ι->Int}{f1 f2:List ι->Int}(hh:∀i,S i->h1 i=h2 i)(hf:∀m,(∀i∈m,S i)->f1 m=f2 m):∀rows pre:List ι,(∀i∈pre,S i)->(∀i∈rows,S i)->bN h1 f1 pre rows=bN h2 f2 pre rows
 | [],_,_,_=>rfl
 |r::rs,pre,hp,hr=>by
  show h1 r*f1 (pre++rs)-bN h1 f1 (pre++[r]) rs=h2 r*f2 (pre++rs)-bN h2 f2 (pre++[r]) rs
  rw[hh r (hr r (Fl ..)),hf (pre++rs) (λi hi=>(Fq.mp hi).elim (hp i) λz=>hr i (Fi _ z)),
   uj hh hf rs (pre++[r]) (λi hi=>(Fq.mp hi).elim (hp i) λz=>by rw[Fv.mp z];exact hr r (Fl ..)) (λi hi=>hr i (Fi _ hi))]
theorem v6:∀(n:Nat) (l:List ι) (g g':ι->Rw),(∀i∈l,∀j,j<n->g i j=g' i j)->D n (l.map g)=D n (l.map g')
 |0,_,_,_,_=>rfl
 |n+1,l,g,g',h=>by rw[fG,fG];refine uj (S:=λi=>∀j,j<n+1->g i j=g' i j) (λi hi=>hi 0 (by omega)) (λm hm=>?_) l [] (λ_ h=>nomatch h) h;exact v6 n m (λi=>tl (g i)) (λi=>tl (g' i)) λi hi j hj=>hm i hi (j+1) (by omega)
noncomputable def rc(k:Nat)(c:Int)(r:Rw):Rw:=λj=>if j=k then c else r j
theorem wR(k:Nat)(c:Int)(r:Rw):tl (rc (k+1) c r)=rc k c (tl r):=by
 funext j
 show(if j+1=k+1 then c else r (j+1))=if j=k then c else r (j+1)
 by_cases h:j=k
 ·rw[if_pos h,if_pos (by omega)]
 ·rw[if_neg h,if_neg (by omega)]
theorem wQ(c:Int)(r:Rw):tl (rc 0 c r)=tl r:=by
 funext j
 show(if j+1=0 then c else r (j+1))=r (j+1);rw[if_neg (by omega)]
theorem iX:∀(k n:Nat) (l:List ι) (g:ι->Rw) (c d:ι->Int) (x y:Int),k<n->D n (l.map λi=>rc k (x*c i+y*d i) (g i))=x*D n (l.map λi=>rc k (c i) (g i))+y*D n (l.map λi=>rc k (d i) (g i))
 |_,0,_,_,_,_,_,_,h=>by omega
 |0,n+1,l,g,c,d,x,y,_=>by
  rw[fG,fG,fG];simp only[wQ];have e:∀c:ι->Int,(λi=>rc 0 (c i) (g i) 0)=c:=λc=>by funext i;rfl
  rw[e (λi=>x*c i+y*d i),e c,e d];exact uh x y c d _ l []
 |k+1,n+1,l,g,c,d,x,y,h=>by
  rw[fG,fG,fG];simp only[wR];have e:∀c:ι->Int,(λi=>rc (k+1) (c i) (g i) 0)=λi=>g i 0:=λc=>by funext i;show(if 0=k+1 then _ else _)=_;rw[if_neg (by omega)]
  rw[e (λi=>x*c i+y*d i),e c,e d];exact ui x y _ _ _ _ (λm=>iX k n m (λi=>tl (g i)) c d x y (by omega)) l []
theorem Du{n:Nat}{rows:List Rw}(hn:rows.length=n)(h2:2<=n)(h:∀r∈rows,r 1=r 0):D n rows=0:=by
 by_cases hz:∀r∈rows,r 0=0
 ·obtain⟨m,rfl⟩:∃m,n=m+1:=⟨n-1,by omega⟩;exact kr hz
 ·obtain⟨hd,hmem,hne⟩:∃r,r∈rows/\r 0≠0:=by refine Classical.byContradiction λz=>hz λr hr=>Classical.byContradiction λz2=>z ⟨r,hr,z2⟩
  obtain⟨pre,post,rfl⟩:=He hmem;rw[Fd,Ff]at hn;have e:=iV (n:=n) (h:=hd) (post:=post) pre [] (by rw[FI];omega);rw[Fm,Fm,FA]at e;rw[e]
  have hR:∀r∈pre++post,r 1=r 0:=λr hr=>h r (by
   rcases Fq.mp hr with z |z
   ·exact Gq _ z
   ·exact FX _ (Fi _ z))
  have hd1:=h hd (by simp);have hl:(pre++post).length+1=n:=by rw[Fd];omega
  generalize pre++post=R at hR hl
  obtain⟨m,hm⟩:∃m,R.length=m+1:=⟨R.length-1,by omega⟩;have c:=oZ (n:=n) (h:=hd) R [] (by rw[FI];omega);rw[Fm,Fm]at c
  have z:D n (hd::R.map λr=>cmb (hd 0) r (-(r 0)) hd)=0:=by
   obtain⟨n',rfl⟩:∃n',n=n'+2:=⟨n-2,by omega⟩
   rw[iW (λx hx=>by
    obtain⟨r,_,rfl⟩:=Fe.mp hx;show hd 0*r 0 + -(r 0)*hd 0=0
    grind)]
   rw[kr (λx hx=>by
    obtain⟨y,hy,rfl⟩:=Fe.mp hx;obtain⟨r,hr,rfl⟩:=Fe.mp hy;show hd 0*r 1 + -(r 0)*hd 1=0;rw[hR r hr,hd1]
    grind),Fp]
  rw[z]at c;rcases Gh.mp c.symm with z1 |z1
  ·exact absurd z1 (G4 hne)
  ·rw[z1,Fp]
theorem nY{f:List Rw->Int}{S:Rw->Prop}:∀(rows pre:List Rw),(∀r∈pre,S r)->(∀r∈rows,S r)->(∀m:List Rw,m.length+1=pre.length+rows.length->(∀r∈m,S r)->f m=0)->lap f pre rows=0
 | [],_,_,_,_=>rfl
 |r::rs,pre,h1,h2,h3=>by
  show r 0*f (pre++rs)-lap f (pre++[r]) rs=0
  rw[h3 (pre++rs) (by rw[Fd,Ff];omega) (λx hx=>(Fq.mp hx).elim (h1 x) λz=>h2 x (Fi _ z)),
   nY rs (pre++[r]) (λx hx=>(Fq.mp hx).elim (h1 x) λz=>by rw[Fv.mp z];exact h2 r (Fl ..)) (λx hx=>h2 x (Fi _ hx)) (λm hm=>h3 m (by rw[Fd]at hm;rw[Ff];have:([r]:List Rw).length=1:=rfl;omega))]
  simp
theorem oY:∀(k n:Nat) (rows:List Rw),rows.length=n->k+2<=n->(∀r∈rows,r (k+1)=r k)->D n rows=0
 |0,n,rows,hl,hn,h=>Du hl hn h
 |k+1,0,rows,hl,hn,h=>by omega
 |k+1,n+1,rows,hl,hn,h=>by
  refine nY (S:=λr=>r (k+2)=r (k+1)) rows [] (λ_ z=>nomatch z) h (λm hm hS=>?_)
  exact oY k n (m.map tl) (by rw[Fc];rw[FI]at hm;omega) (by omega) (λr hr=>by
   obtain⟨x,hx,rfl⟩:=Fe.mp hr
   exact hS x hx)
noncomputable def tm2(a b:Int)(r:Rw):Rw:=λj=>b*r j-(if j=0 then 0 else a*r (j-1))
noncomputable def tp(a b:Int)(k:Nat)(r:Rw):Rw:=λj=>if k<=j then tm2 a b r j else r j
theorem oW:∀(n:Nat) (rows:List Rw),rows.length=n+1->(∀r∈rows,r n=0)->D (n+1) rows=0
 |0,rows,_,h=>kr h
 |n+1,rows,hl,h=>by
  refine nY (S:=λr=>r (n+1)=0) rows [] (λ_ z=>nomatch z) h (λm hm hS=>?_)
  exact oW n (m.map tl) (by rw[Fc];rw[FI]at hm;omega) (λr hr=>by
   obtain⟨x,hx,rfl⟩:=Fe.mp hr
   exact hS x hx)
theorem vX:∀(n:Nat) (rows:List Rw) (u:Rw),rows.length=n->(∀r∈rows,r n=0)->D (n+1) (rows++[u])=u n*D n rows
 |0,rows,u,hl,_=>by obtain rfl:=Gd.mp hl;show u 0*1-0=u 0*1;omega
 |n+1,rows,u,hl,h=>by
  have A:∀(rs pre:List Rw),pre.length+rs.length=n+1->(∀r∈pre,r (n+1)=0)->(∀r∈rs,r (n+1)=0)->lap (λm=>D (n+1) (m.map tl)) pre (rs++[u])=u (n+1)*lap (λm=>D n (m.map tl)) pre rs:=by
   intro rs
   induction rs with
   |nil =>
    intro pre hl' hp _;show u 0*D (n+1) ((pre++[]).map tl)-0=u (n+1)*0
    rw[Gy,oW n _ (by rw[Fc];simpa using hl') (λr hr=>by
     obtain⟨x,hx,rfl⟩:=Fe.mp hr
     exact hp x hx)]
    simp
   |cons x xs ih =>
    intro pre hl' hp hr;rw[Ff]at hl';have h1:=ih (pre++[x]) (by rw[Fd];show pre.length+1+xs.length=n+1;omega) (λr hr'=>(Fq.mp hr').elim (hp r) λz=>by rw[Fv.mp z];exact hr x (Fl ..)) (λr hr'=>hr r (Fi _ hr'))
    have h2:=vX n ((pre++xs).map tl) (tl u) (by rw[Fc,Fd];omega) (λr hr'=>by
     obtain⟨y,hy,rfl⟩:=Fe.mp hr';rcases Fq.mp hy with z |z
     ·exact hp y z
     ·exact hr y (Fi _ z))
    show x 0*D (n+1) ((pre++(xs++[u])).map tl)-lap _ (pre++[x]) (xs++[u])=u (n+1)*(x 0*D n ((pre++xs).map tl)-lap _ (pre++[x]) xs);rw[h1,<- Fy,Fk,Fo,Gz,h2];show x 0*(u (n+1)*_)-_=_;grind
  exact A rows [] (by simpa using hl) (λ_ z=>nomatch z) h
noncomputable def shr(k:Nat)(f:Rw):Rw:=λj=>if j<k then 0 else f (j-k)
noncomputable def aH(f:Rw)(n:Nat):List Rw:=(List.range n).map λk=>shr k f
noncomputable def syl(f g:Rw)(n m:Nat):List Rw:=aH f n++aH g m
theorem cx(f:Rw)(n:Nat):(aH f n).length=n:=by unfold aH;simp
noncomputable def trr(a b:Int):Rw->List Rw->List Rw
 |x,[]=>[x]
 |x,y::l=>cmb b x (-a) y::trr a b y l
noncomputable def wj(a b:Int)(h:Rw):Nat->Int
 |0=>h 0
 |j+1=>wj a b h j*a+h (j+1)*b^(j+1)
theorem wt(a b:Int)(f:Rw)(m:Nat):(∀j,j<m->wj a b (shr m f) j=0)/\∀t,wj a b (shr m f) (m+t)=b^m*wj a b f t:=by
 have z:∀j,j<m->wj a b (shr m f) j=0:=by
  intro j
  induction j with
  |zero=>intro h;show(if 0<m then 0 else f (0-m))=0;rw[if_pos h]
  |succ j ih =>intro h;show wj a b (shr m f) j*a+(if j+1<m then 0 else f (j+1-m))*b^(j+1)=0;rw[ih (by omega),if_pos h];simp
 refine⟨z,λt=>?_⟩
 induction t with
 |zero =>
  cases m with
  |zero=>show(if 0<0 then 0 else f (0-0))=b^0*f 0;simp
  |succ m =>show wj a b (shr (m+1) f) m*a+(if m+1<m+1 then 0 else f (m+1-(m+1)))*b^(m+1)=b^(m+1)*f 0;rw[z m (by omega),if_neg (by omega),GZ];grind
 |succ t ih =>
  show wj a b (shr m f) (m+t)*a+(if m+t+1<m then 0 else f (m+t+1-m))*b^(m+t+1)=b^m*(wj a b f t*a+f (t+1)*b^(t+1));rw[ih,if_neg (by omega)];have e1:m+t+1-m=t+1:=by omega
  have e2:m+t+1=m+(t+1):=by omega
  rw[e1,e2,G9];grind
theorem yk{c:Int}{n:Nat}{f g:Rw}(hf0:f 0=c)(hf:∀j,0<j->f j=0):D (n+0) (syl f g n 0)=c^n:=by
 have e:syl f g n 0=aH f n:=by unfold syl aH;simp
 rw[e]
 have e1:=vT (aH f n) 0 (λi r hr j hj=>by
  unfold aH at hr
  rw[List.getElem?_map]at hr;by_cases hi:i<n
  ·rw[List.getElem?_range hi]at hr;obtain rfl:=Option.some.inj hr;show(if j+0<i then 0 else f (j+0-i))=0;rw[if_pos (by omega)]
  ·rw[List.getElem?_eq_none_iff.mpr (by simp;omega)]at hr
   cases hr)
 have e2:(aH f n).map (sh 0)=aH f n:=by
  have:(aH f n).map (sh 0)=(aH f n).map id:=FE λx _=>rfl
  rw[this,GD]
 rw[e2,cx]at e1
 have e3:∀m k,dp k ((List.range' k m).map λk=>shr k f)=c^m:=by
  intro m
  induction m with
  |zero=>intro k;show(1:Int)=c^0;simp
  |succ m ih =>
   intro k;rw[List.range'_succ,Fo];show shr k f k*dp (k+1) _=_;rw[ih (k+1)];have:shr k f k=c:=by show(if k<k then 0 else f (k-k))=c;rw[if_neg (by omega),GZ,hf0]
   rw[this,Fw,FO]
 rw[Nat.add_zero,e1];unfold aH;rw[List.range_eq_range'];exact e3 n 0
theorem o0{n:Nat}:∀(B q A:List Rw),q.length+A.length+B.length=n->D n (q++A++B)=(-1)^(A.length*B.length)*D n (q++B++A)
 | [],q,A,_=>by simp
 |x::B,q,A,h=>by rw[Ff]at h;have e:=iV (n:=n) (h:=x) (post:=B) A q (by omega);have ih:=o0 (n:=n) B (q++[x]) A (by rw[Fd];show q.length+1+A.length+B.length=n;omega);simp only[Fy,FA,Fm]at e ih ⊢;rw[e,ih,Ff,Nat.mul_succ,G9];grind
theorem cN(l:List Int)(j:Nat):cf l.reverse j=if j<l.length then cf l (l.length-1-j)else 0:=by
 by_cases h:j<l.length
 ·rw[if_pos h,ce (by rw[Hi];exact h),List.getElem_reverse,ce (by omega)]
 ·rw[if_neg h,aT (by rw[Hi];omega)]
noncomputable def bj(p q:List Int):Int:=D (q.length-1+(p.length-1)) (syl (cf p.reverse) (cf q.reverse) (q.length-1) (p.length-1))
theorem iy{l:List Int}(j:Nat)(h:l.length-1<j):cf l.reverse j=0:=by rw[cN,if_neg (by omega)]
theorem ym(c:Int)(q:List Int):bj [c] q=c^(q.length-1):=by unfold bj;exact yk (f:=cf [c].reverse) rfl (λj hj=>iy j (by simpa using hj))
theorem mQ(p q:List Int):bj q p=(-1)^((p.length-1)*(q.length-1))*bj p q:=by unfold bj syl;have:=o0 (n:=p.length-1+(q.length-1)) (aH (cf p.reverse) (q.length-1)) [] (aH (cf q.reverse) (p.length-1)) (by rw[cx,cx];simp);rw[Fm,Fm,cx,cx]at this;rw[this,GA (q.length-1)]
structure AltF(n:Nat)(F:List Rw->Int):Prop where
 lin:∀(pre post:List Rw) (r s:Rw) (a b:Int),pre.length+1+post.length=n->F (pre++cmb a r b s::post)=a*F (pre++r::post)+b*F (pre++s::post)
 alt:∀(pre post:List Rw) (r:Rw),pre.length+2+post.length=n->F (pre++r::r::post)=0
theorem AltF.ofD(n:Nat):AltF n (D n):=⟨c7 n,gi n⟩
theorem AltF.swap{n:Nat}{F:List Rw->Int}(hF:AltF n F){pre post:List Rw}{r s:Rw}(h:pre.length+2+post.length=n):F (pre++r::s::post) =-F (pre++s::r::post):=by have e0:=hF.alt pre post (cmb 1 r 1 s) h;rw[hF.lin pre (cmb 1 r 1 s::post) r s 1 1 (by rw[Ff];omega)]at e0;have e1:=hF.lin (pre++[r]) post r s 1 1 (by rw[Fd];show pre.length+1+1+post.length=n;omega);have e2:=hF.lin (pre++[s]) post r s 1 1 (by rw[Fd];show pre.length+1+1+post.length=n;omega);simp only[Fy,FA,Fm]at e1 e2;have e3:=hF.alt pre post r h;have e4:=hF.alt pre post s h;rw[e1,e2,e3,e4]at e0;omega
theorem AltF.move{n:Nat}{F:List Rw->Int}(hF:AltF n F){h:Rw}{post:List Rw}:∀(pre q:List Rw),q.length+pre.length+1+post.length=n->F (q++pre++h::post)=(-1)^pre.length*F (q++h::pre++post)
 | [],q,_=>by simp
 |x::pre,q,hl=>by rw[Ff]at hl;have ih:=hF.move (h:=h) (post:=post) pre (q++[x]) (by rw[Fd];show q.length+1+pre.length+1+post.length=n;omega);have e:=hF.swap (pre:=q) (post:=pre++post) (r:=x) (s:=h) (by rw[Fd];omega);simp only[Fy,FA,Fm]at ih e ⊢;rw[ih,e,Ff,Fw];grind
theorem AltF.dup{n:Nat}{F:List Rw->Int}(hF:AltF n F){h:Rw}{q pre post:List Rw}(hl:q.length+pre.length+2+post.length=n):F (q++h::pre++h::post)=0:=by have e:=hF.move (h:=h) (post:=post) pre (q++[h]) (by rw[Fd];show q.length+1+pre.length+1+post.length=n;omega);have e2:=hF.alt q (pre++post) h (by rw[Fd];omega);simp only[Fy,FA,Fm]at e e2 ⊢;rw[e,e2,Fp]
theorem AltF.clear{n:Nat}{F:List Rw->Int}(hF:AltF n F){h:Rw}{c:Int}{d:Rw->Int}:∀(R q:List Rw),1+q.length+R.length=n->F (h::(q++R.map λr=>cmb c r (-(d r)) h))=c^R.length*F (h::(q++R))
 | [],q,_=>by simp
 |r::R,q,hl=>by rw[Ff]at hl;have e:=hF.lin (h::q) (R.map λr=>cmb c r (-(d r)) h) r h c (-(d r)) (by rw[Fc,Ff];omega);have e2:=hF.dup (h:=h) (q:=[]) (pre:=q) (post:=R.map λr=>cmb c r (-(d r)) h) (by rw[Fc,FI];omega);have ih:=hF.clear (h:=h) (c:=c) (d:=d) R (q++[r]) (by rw[Fd];show 1+(q.length+1)+R.length=n;omega);simp only[Fy,FA,Fm]at e e2 ih ⊢;rw[Fo,e,e2,ih,Ff,Fw];grind
theorem AltF.cons{n:Nat}{F:List Rw->Int}(hF:AltF (n+1) F)(h:Rw):AltF n (λR=>F (h::R)) :=
 ⟨λpre post r s a b hl=>hF.lin (h::pre) post r s a b (by rw[Ff];omega),λpre post r hl=>hF.alt (h::pre) post r (by rw[Ff];omega)⟩
theorem AltF.zero{n:Nat}{F:List Rw->Int}(hF:AltF n F){pre post:List Rw}{z:Rw}(hl:pre.length+1+post.length=n)(hz:∀j,z j=0):F (pre++z::post)=0:=by
 have e:=hF.lin pre post z z 0 0 hl;have e2:cmb 0 z 0 z=z:=by funext j;show 0*z j+0*z j=z j;rw[hz j];simp
 rw[e2]at e;omega
def Sup(k n:Nat)(r:Rw):Prop:=∀j,(j<k\/k+n<=j)->r j=0
theorem qj{k n:Nat}{h r:Rw}(hh:Sup k (n+1) h)(hr:Sup k (n+1) r):Sup (k+1) n (cmb (h k) r (-(r k)) h):=λj hj=>by
 show h k*r j + -(r k)*h j=0;by_cases e:j=k
 ·subst e;grind
 ·rw[hr j (by omega),hh j (by omega)];simp
theorem AltF.over:∀(n k:Nat) (F:List Rw->Int),AltF (n+1) F->∀rows:List Rw,rows.length=n+1->(∀r∈rows,Sup k n r)->F rows=0
 |0,k,F,hF,rows,hl,hS=>by obtain⟨r,rfl⟩:=HC.mp hl;exact hF.zero (pre:=[]) (post:=[]) (by simp) (λj=>hS r (by simp) j (by omega))
 |n+1,k,F,hF,rows,hl,hS=>by
  by_cases hz:∀r∈rows,r k=0
  ·obtain⟨h,R,rfl⟩:∃h R,rows=h::R:=by cases rows with
    |nil=>simp at hl
    |cons h R=>exact⟨h,R,rfl⟩
   refine AltF.over n (k+1) (λR=>F (h::R)) (hF.cons h) R (by simpa using hl) (λr hr j hj=>?_);by_cases e:j=k
   ·subst e;exact hz r (Fi _ hr)
   ·exact hS r (Fi _ hr) j (by omega)
  ·obtain⟨h,hmem,hne⟩:∃r,r∈rows/\r k≠0:=Classical.byContradiction λz=>hz λr hr=>Classical.byContradiction λz2=>z ⟨r,hr,z2⟩
   obtain⟨pre,post,rfl⟩:=He hmem;rw[Fd,Ff]at hl;have e:=hF.move (h:=h) (post:=post) pre [] (by rw[FI];omega);rw[Fm,Fm,FA]at e;rw[e]
   have hR:∀r∈pre++post,Sup k (n+1) r:=λr hr=>hS r (by
    rcases Fq.mp hr with z |z
    ·exact Gq _ z
    ·exact FX _ (Fi _ z))
   have hh:=hS h hmem;have hlR:(pre++post).length=n+1:=by rw[Fd];omega
   generalize pre++post=R at hR hlR
   have c:=hF.clear (h:=h) (c:=h k) (d:=λr=>r k) R [] (by rw[FI,hlR];omega);rw[Fm,Fm]at c
   have z:=AltF.over n (k+1) (λR=>F (h::R)) (hF.cons h) (R.map λr=>cmb (h k) r (-(r k)) h) (by rw[Fc,hlR]) (λr hr=>by
    obtain⟨x,hx,rfl⟩:=Fe.mp hr
    exact qj hh (hR x hx))
   rw[z]at c;rcases Gh.mp c.symm with z1 |z1
   ·exact absurd z1 (G4 hne)
   ·rw[z1,Fp]
noncomputable def aY(k:Nat):Rw:=λj=>if j=k then 1 else 0
noncomputable def units:Nat->Nat->List Rw
 |_,0=>[]
 |k,n+1=>aY k::units (k+1) n
theorem wP(k:Nat)(r:Rw):tl (sh k r)=sh (k+1) r:=by
 funext j
 show r (j+1+k)=r (j+(k+1))
 congr 1;omega
theorem AltF.uniq:∀(n k:Nat) (F:List Rw->Int),AltF n F->∀rows:List Rw,rows.length=n->(∀r∈rows,Sup k n r)->F rows=D n (rows.map (sh k))*F (units k n)
 |0,k,F,hF,rows,hl,hS=>by obtain rfl:=Gd.mp hl;show F []=1*F [];omega
 |n+1,k,F,hF,rows,hl,hS=>by
  by_cases hz:∀r∈rows,r k=0
  ·rw[AltF.over n (k+1) F hF rows hl (λr hr j hj=>by
    by_cases e:j=k
    ·subst e;exact hz r hr
    ·exact hS r hr j (by omega))]
   rw[kr (λx hx=>by
    obtain⟨r,hr,rfl⟩:=Fe.mp hx;show r (0+k)=0
    rw[GP];exact hz r hr),FY]
  ·obtain⟨h,hmem,hne⟩:∃r,r∈rows/\r k≠0:=Classical.byContradiction λz=>hz λr hr=>Classical.byContradiction λz2=>z ⟨r,hr,z2⟩
   obtain⟨pre,post,rfl⟩:=He hmem;rw[Fd,Ff]at hl;have e:=hF.move (h:=h) (post:=post) pre [] (by rw[FI];omega);have e':=(AltF.ofD (n+1)).move (h:=sh k h) (post:=post.map (sh k)) (pre.map (sh k)) [] (by rw[Fc,Fc,FI];omega);rw[Fm,Fm,FA]at e e';rw[Fk,Fo,e,e',Fc,<- Fk]
   have hR:∀r∈pre++post,Sup k (n+1) r:=λr hr=>hS r (by
    rcases Fq.mp hr with z |z
    ·exact Gq _ z
    ·exact FX _ (Fi _ z))
   have hh:=hS h hmem;have hlR:(pre++post).length=n:=by rw[Fd];omega
   generalize pre++post=R at hR hlR
   suffices hs:F (h::R)=D (n+1) (sh k h::R.map (sh k))*F (units k (n+1)) by rw[hs];grind
   have c:=hF.clear (h:=h) (c:=h k) (d:=λr=>r k) R [] (by rw[FI,hlR];omega);rw[Fm,Fm,hlR]at c;have c':=(AltF.ofD (n+1)).clear (h:=sh k h) (c:=h k) (d:=λr=>r 0) (R.map (sh k)) [] (by rw[FI,Fc,hlR];omega);rw[Fm,Fm,Fc,hlR,Fz]at c';have hpn:h k^n≠0:=G4 hne;refine Ha hpn ?_;rw[<- c,<- FM,<- c']
   have hR':∀r∈R.map (λr=>cmb (h k) r (-(r k)) h),Sup (k+1) n r:=λr hr=>by obtain⟨x,hx,rfl⟩:=Fe.mp hr;exact qj hh (hR x hx)
   have hmap:(R.map ((λr=>cmb (h k) r (-(r 0)) (sh k h)) ∘ sh k))=(R.map (λr=>cmb (h k) r (-(r k)) h)).map (sh k):=by
    rw[Fz];refine FE λr _=>?_
    funext j
    show h k*r (j+k) + -(r (0+k))*h (j+k)=h k*r (j+k) + -(r k)*h (j+k);rw[GP]
   rw[hmap];have hlR':(R.map (λr=>cmb (h k) r (-(r k)) h)).length=n:=by rw[Fc,hlR]
   generalize R.map (λr=>cmb (h k) r (-(r k)) h)=R' at hR' hlR'
   rw[iW (λx hx=>by
    obtain⟨r,hr,rfl⟩:=Fe.mp hx;show r (0+k)=0
    rw[GP];exact hR' r hr k (by omega)),Fz]
   have ht:R'.map (tl ∘ sh k)=R'.map (sh (k+1)):=FE λr _=>wP k r
   rw[ht];have hsh:sh k h 0=h k:=by show h (0+k)=h k;rw[GP]
   rw[hsh]
   have hd:h=cmb (h k) (aY k) 1 (rc k 0 h):=by
    funext j
    show h j=h k*(if j=k then 1 else 0)+1*(if j=k then 0 else h j);by_cases e:j=k
    ·subst e;rw[if_pos rfl,if_pos rfl];omega
    ·rw[if_neg e,if_neg e];omega
   have e1:=hF.lin [] R' (aY k) (rc k 0 h) (h k) 1 (by rw[FI,hlR'];omega);rw[<- hd,Fm,Fm,Fm]at e1
   have e2:=AltF.over n (k+1) F hF (rc k 0 h::R') (by rw[Ff,hlR']) (λr hr j hj=>by
    rcases FC.mp hr with rfl |hr
    ·show(if j=k then 0 else h j)=0;by_cases e:j=k
     ·rw[if_pos e]
     ·rw[if_neg e];exact hh j (by omega)
    ·exact hR' r hr j hj)
   have e3:=AltF.uniq n (k+1) (λR=>F (aY k::R)) (hF.cons (aY k)) R' hlR' hR';rw[e1,e2,e3];show _=_*F (aY k::units (k+1) n);grind
noncomputable def cvR:List Int->Rw->Rw
 | [],_=>λ_=>0
 |c::l,f=>λj=>c*f j+shr 1 (cvR l f) j
theorem rp(f:Rw):shr 0 f=f:=by funext j;show(if j<0 then 0 else f (j-0))=f j;rw[if_neg (by omega),GO]
theorem fM(a b:Nat)(f:Rw):shr a (shr b f)=shr (a+b) f:=by
 funext j
 show(if j<a then 0 else if j-a<b then 0 else f (j-a-b))=if j<a+b then 0 else f (j-(a+b))
 by_cases h1:j<a
 ·rw[if_pos h1,if_pos (show j<a+b by omega)]
 ·rw[if_neg h1];by_cases h2:j-a<b
  ·rw[if_pos h2,if_pos (show j<a+b by omega)]
  ·rw[if_neg h2,if_neg (show ¬j<a+b by omega)]
   congr 1;omega
theorem gv(k:Nat)(a:Int)(f:Rw)(b:Int)(g:Rw):shr k (cmb a f b g)=cmb a (shr k f) b (shr k g):=by
 funext j
 show(if j<k then 0 else a*f (j-k)+b*g (j-k))=a*(if j<k then 0 else f (j-k))+b*(if j<k then 0 else g (j-k));by_cases h:j<k
 ·rw[if_pos h,if_pos h,if_pos h];simp
 ·rw[if_neg h,if_neg h,if_neg h]
theorem d6(c:Int)(l:List Int)(f:Rw):cvR (c::l) f=cmb c f 1 (shr 1 (cvR l f)):=by
 funext j
 show c*f j+shr 1 (cvR l f) j=c*f j+1*shr 1 (cvR l f) j;omega
theorem ve(a:Int)(f:Rw)(b:Int)(g:Rw):∀l,cvR l (cmb a f b g)=cmb a (cvR l f) b (cvR l g)
 | []=>by funext j;show 0=a*0+b*0;simp
 |c::l=>by
  rw[d6,d6,d6,ve a f b g l,gv]
  funext j
  show c*(a*f j+b*g j)+1*(a*shr 1 (cvR l f) j+b*shr 1 (cvR l g) j)=a*(c*f j+1*shr 1 (cvR l f) j)+b*(c*g j+1*shr 1 (cvR l g) j);grind
theorem oC(k:Nat)(f:Rw):∀l,cvR l (shr k f)=shr k (cvR l f)
 | []=>by funext j;show 0=if j<k then 0 else 0;simp
 |c::l=>by rw[d6,d6,oC k f l,gv,fM,fM,GA]
theorem wA(k:Nat):aY k=shr k (aY 0):=by
 funext j
 show(if j=k then 1 else 0)=if j<k then 0 else if j-k=0 then 1 else 0
 by_cases h1:j<k
 ·rw[if_pos h1,if_neg (show ¬j=k by omega)]
 ·rw[if_neg h1];by_cases h2:j=k
  ·rw[if_pos h2,if_pos (show j-k=0 by omega)]
  ·rw[if_neg h2,if_neg (show ¬j-k=0 by omega)]
theorem vc:∀l,cvR l (aY 0)=cf l
 | []=>by funext j;show 0=cf [] j;rw[b6]
 |c::l=>by
  rw[d6,vc l]
  funext j
  show c*(if j=0 then 1 else 0)+1*(if j<1 then 0 else cf l (j-1))=cf (c::l) j;cases j with
  |zero=>rw[if_pos rfl,if_pos (by decide),oK];omega
  |succ j=>rw[if_neg (by omega),if_neg (by omega),j9];simp
theorem CD(l:List Int)(k:Nat):cvR l (aY k)=shr k (cf l):=by rw[wA,oC,vc]
theorem vf(f:Rw):∀p q:List Int,cvR (p++q) f=cmb 1 (cvR p f) 1 (shr p.length (cvR q f))
 | [],q=>by
  rw[Fm,FI,rp]
  funext j;show _=1*0+1*_;omega
 |c::p,q=>by
  rw[FA,d6,vf f p q,d6,gv,fM,Ff,GA 1]
  funext j
  show c*f j+1*(1*shr 1 (cvR p f) j+1*shr (p.length+1) (cvR q f) j)=1*(c*f j+1*shr 1 (cvR p f) j)+1*shr (p.length+1) (cvR q f) j;omega
theorem mO{b:List Int}(hb:b≠[]):∀a:List Int,a≠[]->cf (ac a b).reverse=cvR a.reverse (cf b.reverse)
 | [x],_=>by
  have e:ac [x] b=scL x b:=by
   apply cL
   ·rw[aX (by simp) hb,aP];simp
   ·intro k _;rw[ap,cw,aD]
  rw[e]
  funext j
  show _=x*cf b.reverse j+shr 1 (cvR [] (cf b.reverse)) j;have z:shr 1 (cvR [] (cf b.reverse)) j=0:=by show(if j<1 then 0 else 0)=(0:Int);simp
  rw[z,cN,cN,aP];by_cases h:j<b.length
  ·rw[if_pos h,if_pos h,aD];omega
  ·rw[if_neg h,if_neg h];simp
 |x::y::a,_=>by
  have ih:=mO hb (y::a) (by simp);have hbl:=Fh.mpr hb;have l1:=aX (a:=x::y::a) (b:=b) (by simp) hb;have l2:=aX (a:=y::a) (b:=b) (by simp) hb;rw[List.reverse_cons,vf,<- ih,Hi];generalize hA:y::a=A at *
  have hAl:1<=A.length:=by rw[<- hA,Ff];omega
  rw[Ff]at l1
  funext j
  show _=1*cf (ac A b).reverse j+1*shr A.length (cvR [x] (cf b.reverse)) j
  have e3:shr A.length (cvR [x] (cf b.reverse)) j=if j<A.length then 0 else x*cf b.reverse (j-A.length):=by show(if j<A.length then 0 else x*cf b.reverse (j-A.length)+(if j-A.length<1 then 0 else 0))=_;simp
  rw[e3,cN,cN,l1,l2];by_cases h:j<A.length+1+b.length-1
  ·rw[if_pos h,ap,cI]
   have e4:x*cf b (A.length+1+b.length-1-1-j)=if j<A.length then 0 else x*cf b.reverse (j-A.length):=by
    by_cases h1:j<A.length
    ·rw[if_pos h1,aT (l:=b) (by omega),Fp]
    ·rw[if_neg h1,cN,if_pos (show j-A.length<b.length by omega)]
     congr 2;omega
   rw[e4]
   have e5:up (ak A b) (A.length+1+b.length-1-1-j)=if j<A.length+b.length-1 then cf (ac A b) (A.length+b.length-1-1-j)else 0:=by
    unfold up;by_cases h2:j<A.length+b.length-1
    ·rw[if_pos h2,if_neg (show ¬A.length+1+b.length-1-1-j=0 by omega),ap]
     congr 1;omega
    ·rw[if_neg h2,if_pos (show A.length+1+b.length-1-1-j=0 by omega)]
   rw[e5];omega
  ·rw[if_neg h,if_neg (show ¬j<A.length+b.length-1 by omega),if_neg (show ¬j<A.length by omega),cN,if_neg (show ¬j-A.length<b.length by omega)];simp
theorem o4{n:Nat}{A rest:List Rw}{f:Rw}:∀(l:List Int) (k:Nat),A.length+1+rest.length=n->(∀i,i<l.length->shr (k+i) f∈A\/shr (k+i) f∈rest)->D n (A++shr k (cvR l f)::rest)=0
 | [],k,hl,_=>(AltF.ofD n).zero hl (λj=>by show(if j<k then 0 else 0)=(0:Int);simp)
 |c::l,k,hl,h=>by
  have e:shr k (cvR (c::l) f)=cmb c (shr k f) 1 (shr (k+1) (cvR l f)):=by rw[d6,gv,fM]
  rw[e,c7 n A rest _ _ c 1 hl,o4 l (k+1) hl (λi hi=>by have:=h (i+1) (by rw[Ff];omega);rw[show k+1+i=k+(i+1) by omega];exact this)]
  have z:D n (A++shr k f::rest)=0:=by
   rcases h 0 (by rw[Ff];omega)with h0 |h0
   ·obtain⟨p,q,rfl⟩:=He h0;rw[Nat.add_zero];have:=ku (n:=n) (h:=shr k f) (q:=p) (pre:=q) (post:=rest) (by rw[Fd,Ff]at hl;omega);simp only[Fy,FA]at this ⊢;exact this
   ·obtain⟨p,q,rfl⟩:=He h0;rw[Nat.add_zero];have:=ku (n:=n) (h:=shr k f) (q:=A) (pre:=p) (post:=q) (by rw[Fd,Ff]at hl;omega);simp only[Fy,FA]at this ⊢;exact this
  rw[z];omega
theorem xC(a k:Nat)(f:Rw):sh a (shr (a+k) f)=shr k f:=by
 funext j
 show(if j+a<a+k then 0 else f (j+a-(a+k)))=if j<k then 0 else f (j-k)
 by_cases h:j<k
 ·rw[if_pos h,if_pos (show j+a<a+k by omega)]
 ·rw[if_neg h,if_neg (show ¬j+a<a+k by omega)]
  congr 1;omega
theorem xo(f:Rw)(n:Nat):aH f (n+1)=f::(aH f n).map (shr 1):=by
 unfold aH;rw[List.range_succ_eq_map,Fo,Fz,Fz,rp]
 congr 1
 refine FE λk _=>?_
 show shr (k+1) f=shr 1 (shr k f);rw[fM,GA]
theorem wO(f:Rw):tl (shr 1 f)=f:=by
 funext j
 show(if j+1<1 then 0 else f (j+1-1))=f j;rw[if_neg (by omega)];rfl
theorem oX{f:Rw}{q:Nat}:∀(n:Nat) (X:List Rw),(∀x∈X,∀j,j<n->x j=0)->D (n+q) (aH f n++X)=f 0^n*D q (X.map (sh n))
 |0,X,_=>by
  have e:X.map (sh 0)=X:=by
   have:X.map (sh 0)=X.map id:=FE λx _=>rfl
   rw[this,GD]
  show D (0+q) ([]++X)=_;rw[Fm,GP,e];simp
 |n+1,X,h=>by
  rw[xo,FA];have hn:n+1+q=n+q+1:=by omega
  rw[hn,iW (λx hx=>by
   rcases Fq.mp hx with z |z
   ·obtain⟨y,_,rfl⟩:=Fe.mp z;rfl
   ·exact h x z 0 (by omega)),Fk,Fz]
  have e1:(aH f n).map (tl ∘ shr 1)=aH f n:=by
   have:(aH f n).map (tl ∘ shr 1)=(aH f n).map id:=FE λx _=>wO x
   rw[this,GD]
  rw[e1,oX n (X.map tl) (λx hx j hj=>by
   obtain⟨y,hy,rfl⟩:=Fe.mp hx
   exact h y hy (j+1) (by omega)),Fz]
  have e2:X.map (sh n ∘ tl)=X.map (sh (n+1)):=FE λx _=>by
   funext j
   show x (j+n+1)=x (j+(n+1))
   congr 1
  rw[e2,Fw];grind
noncomputable def cg(f:Rw)(a n:Nat):List Rw:=(List.range n).map λt=>shr (a+t) f
theorem jf(f:Rw)(a n:Nat):aH f (a+n)=aH f a++cg f a n:=by unfold aH cg;rw[List.range_add,Fk,Fz];rfl
theorem nV(f:Rw)(a n:Nat):(cg f a n).length=n:=by unfold cg;simp
theorem jg(f:Rw)(a n:Nat):(cg f a n).map (sh a)=aH f n:=by unfold cg aH;rw[Fz];exact FE λt _=>xC a t f
theorem rk(l:List Int)(f:Rw)(n:Nat):(aH f n).map (cvR l)=aH (cvR l f) n:=by unfold aH;rw[Fz];exact FE λk _=>oC k f l
theorem pN(l:List Int):∀(n k:Nat),(units k n).map (cvR l)=(List.range' k n).map λi=>shr i (cf l)
 |0,_=>rfl
 |n+1,k=>by show cvR l (aY k)::(units (k+1) n).map (cvR l)=_;rw[pN l n (k+1),CD,List.range'_succ,Fo]
theorem wz(l:List Int)(n:Nat):(units 0 n).map (cvR l)=aH (cf l) n:=by rw[pN];unfold aH;rw[List.range_eq_range']
theorem v7{l:List Int}{c:Int}{f:Rw}{N r:Nat}(hr:l.length=r){B:List Rw}:∀(n:Nat) (s:Nat),n+s+r+B.length=N->D N (aH (cvR (c::l) f) n++cg f n (s+r)++B)=c^n*D N (aH f (n+(s+r))++B)
 |0,s,_=>by rw[jf f 0 (s+r)];show D N ([]++cg f 0 (s+r)++B)=c^0*D N ([]++cg f 0 (s+r)++B);simp
 |n+1,s,hN=>by
  have e1:aH (cvR (c::l) f) (n+1)=aH (cvR (c::l) f) n++[shr n (cvR (c::l) f)]:=by rw[jf (cvR (c::l) f) n 1];rfl
  have e2:shr n (cvR (c::l) f)=cmb c (shr n f) 1 (shr (n+1) (cvR l f)):=by rw[d6,gv,fM]
  have ih:=v7 (l:=l) (c:=c) (f:=f) (N:=N) (r:=r) hr (B:=B) n (s+1) (by omega)
  have e3:cg f n (s+1+r)=shr n f::cg f (n+1) (s+r):=by
   unfold cg;rw[show s+1+r=(s+r)+1 by omega,List.range_succ_eq_map,Fo,Fz]
   congr 1
   refine FE λt _=>?_
   show shr (n+(t+1)) f=shr (n+1+t) f;rw[show n+(t+1)=n+1+t by omega]
  have ab:=o4 (n:=N) (A:=aH (cvR (c::l) f) n) (rest:=cg f (n+1) (s+r)++B) (f:=f) l (n+1) (by rw[cx,Fd,nV];omega) (λi hi=>.inr (Gq _ (Fe.mpr ⟨i,Gi.mpr (by omega),rfl⟩)));have li:=c7 N (aH (cvR (c::l) f) n) (cg f (n+1) (s+r)++B) (shr n f) (shr (n+1) (cvR l f)) c 1 (by rw[cx,Fd,nV];omega);rw[ab]at li;rw[e3]at ih;rw[e1,e2];simp only[Fy,FA,Fm]at ih li ⊢;rw[li,ih,Fw,show n+(s+1+r)=n+1+(s+r) by omega];grind
theorem AN{a b:List Int}:ac a b=ac b a:=by
 by_cases ha:a=[]
 ·subst ha;unfold ac;rw[if_pos (.inl rfl),if_pos (.inr rfl)]
 ·by_cases hb:b=[]
  ·subst hb;unfold ac;rw[if_pos (.inr rfl),if_pos (.inl rfl)]
  ·apply cL
   ·rw[aX ha hb,aX hb ha];omega
   ·intro k _;rw[ap,ap,cJ]
theorem yl{p q r:List Int}(hp:p≠[])(hq:q≠[])(hr:r≠[])(h0:aJ r≠0):bj p (ac q r)=bj p q*bj p r:=by
 have hpl:=Fh.mpr hp;have hql:=Fh.mpr hq;have hrl:=Fh.mpr hr;obtain⟨m,em⟩:∃m,p.length=m+1:=⟨p.length-1,by omega⟩;obtain⟨n,en⟩:∃n,q.length=n+1:=⟨q.length-1,by omega⟩;obtain⟨t,et⟩:∃t,r.length=t+1:=⟨r.length-1,by omega⟩;have hm:p.length-1=m:=by omega
 have hn:q.length-1=n:=by omega
 have ht:r.length-1=t:=by omega
 have hqr:(ac q r).length-1=n+t:=by rw[aX hq hr];omega
 obtain⟨c,l,el⟩:∃c l,r.reverse=c::l:=by
  cases e:r.reverse with
  |nil=>exact absurd (List.reverse_eq_nil_iff.mp e) hr
  |cons c l=>exact⟨c,l,rfl⟩
 have hc:c=aJ r:=by
  have e1:cf r.reverse 0=c:=by rw[el];rfl
  rw[<- e1,cN,if_pos (by omega)];rfl
 have hll:l.length=t:=by have:=congrArg List.length el;rw[Hi,Ff]at this;omega
 have hc0:c≠0:=by rw[hc];exact h0
 let N:=n+m+t
 let C:=cg (cf p.reverse) n t
 let F:List Rw->Int:=λus=>D N (us.map (cvR r.reverse)++C)
 have hCl:C.length=t:=nV _ _ _
 have hF:AltF (n+m) F:=⟨λpre post x y a b hl=>by
  show D N ((pre++cmb a x b y::post).map (cvR r.reverse)++C)=_;have:=c7 N (pre.map (cvR r.reverse)) (post.map (cvR r.reverse)++C) (cvR r.reverse x) (cvR r.reverse y) a b (by rw[Fc,Fd,Fc,hCl];show _=n+m+t;omega);rw[<- ve]at this;show _=a*D N ((pre++x::post).map (cvR r.reverse)++C)+b*D N ((pre++y::post).map (cvR r.reverse)++C);simp only[Fk,Fo,Fy,FA]at this ⊢;exact this,λpre post x hl=>by
  show D N ((pre++x::x::post).map (cvR r.reverse)++C)=0;have:=gi N (pre.map (cvR r.reverse)) (post.map (cvR r.reverse)++C) (cvR r.reverse x) (by rw[Fc,Fd,Fc,hCl];show _=n+m+t;omega);simp only[Fk,Fo,Fy,FA]at this ⊢
  exact this⟩
 have un:=AltF.uniq (n+m) 0 F hF (syl (cf p.reverse) (cf q.reverse) n m) (by unfold syl;rw[Fd,cx,cx]) (λx hx j hj=>by
  have hj':n+m<=j:=by omega
  rcases Fq.mp hx with z |z
  ·obtain⟨k,hk,rfl⟩:=Fe.mp z;have:=Gi.mp hk;show(if j<k then 0 else cf p.reverse (j-k))=0;rw[if_neg (by omega)];exact iy _ (by omega)
  ·obtain⟨k,hk,rfl⟩:=Fe.mp z;have:=Gi.mp hk;show(if j<k then 0 else cf q.reverse (j-k))=0
   rw[if_neg (by omega)];exact iy _ (by omega))
 have e0:(syl (cf p.reverse) (cf q.reverse) n m).map (sh 0)=syl (cf p.reverse) (cf q.reverse) n m:=by
  have:(syl (cf p.reverse) (cf q.reverse) n m).map (sh 0)=(syl (cf p.reverse) (cf q.reverse) n m).map id:=FE λx _=>rfl
  rw[this,GD]
 rw[e0]at un
 have eU:F (units 0 (n+m))=c^n*((-1)^(m*t)*bj p r):=by
  show D N ((units 0 (n+m)).map (cvR r.reverse)++C)=_;rw[wz,jf (cf r.reverse) n m,Fy];have hN:N=n+(m+t):=by show n+m+t=_;omega
  rw[hN,oX n _ (λx hx j hj=>by
   rcases Fq.mp hx with z |z
   ·obtain⟨k,_,rfl⟩:=Fe.mp z;show(if j<n+k then 0 else _)=(0:Int);rw[if_pos (by omega)]
   ·obtain⟨k,_,rfl⟩:=Fe.mp z;show(if j<n+k then 0 else _)=(0:Int)
    rw[if_pos (by omega)]),Fk,jg]
  have:(cg (cf p.reverse) n t).map (sh n)=aH (cf p.reverse) t:=jg _ _ _;rw[show C.map (sh n)=aH (cf p.reverse) t from this];have h1:cf r.reverse 0=c:=by rw[el];rfl
  rw[h1];have h2:D (m+t) (aH (cf r.reverse) m++aH (cf p.reverse) t)=bj r p:=by unfold bj syl;rw[hm,ht]
  rw[h2,mQ p r,hm,ht]
 have eV:F (syl (cf p.reverse) (cf q.reverse) n m)=(-1)^(m*t)*(c^n*bj p (ac q r)):=by
  show D N ((syl (cf p.reverse) (cf q.reverse) n m).map (cvR r.reverse)++C)=_;unfold syl;rw[Fk,rk,rk];have hqr2:cvR r.reverse (cf q.reverse)=cf (ac q r).reverse:=by rw[AN,mO hq r hr]
  rw[hqr2,el];have b1:=o0 (n:=N) C (aH (cvR (c::l) (cf p.reverse)) n) (aH (cf (ac q r).reverse) m) (by rw[cx,cx,hCl]);rw[cx,hCl]at b1;rw[b1];have b2:=v7 (l:=l) (c:=c) (f:=cf p.reverse) (N:=N) (r:=t) hll (B:=aH (cf (ac q r).reverse) m) n 0 (by rw[cx];show n+0+t+m=n+m+t;omega);rw[GP]at b2;rw[b2]
  have h3:D N (aH (cf p.reverse) (n+t)++aH (cf (ac q r).reverse) m)=bj p (ac q r):=by unfold bj syl;rw[hm,hqr];show D (n+m+t) _=_;rw[show n+m+t=n+t+m by omega]
  rw[h3]
 rw[eU,eV]at un;have h4:D (n+m) (syl (cf p.reverse) (cf q.reverse) n m)=bj p q:=by unfold bj;rw[hm,hn]
 rw[h4]at un;have hs:((-1:Int)^(m*t))≠0:=G4 (by decide);have hcn:c^n≠0:=G4 hc0;refine Ha (Ft hs hcn) ?_;grind
theorem vV{N:Nat}{A:List Rw}{u v:Nat->Rw}:∀(ks:List Nat) (q:List Rw),(∀k∈ks,∀q' post:List Rw,A.length+q'.length+1+post.length=N->D N (A++q'++u k::post)=0)->A.length+q.length+ks.length=N->D N (A++q++ks.map λk=>cmb 1 (u k) 1 (v k))=D N (A++q++ks.map v)
 | [],_,_,_=>rfl
 |k::ks,q,h,hl=>by rw[Ff]at hl;have e1:=c7 N (A++q) (ks.map λk=>cmb 1 (u k) 1 (v k)) (u k) (v k) 1 1 (by rw[Fd,Fc];omega);have e2:=h k (Fl ..) q (ks.map λk=>cmb 1 (u k) 1 (v k)) (by rw[Fc];omega);have ih:=vV (N:=N) (A:=A) (u:=u) (v:=v) ks (q++[v k]) (λk' hk'=>h k' (Fi _ hk')) (by rw[Fd];show A.length+(q.length+1)+ks.length=N;omega);rw[e2]at e1;rw[Fo,Fo,e1];simp only[Fy,FA,Fm]at ih ⊢;rw[ih];omega
theorem yn{p h low high:List Int}(hp:2<=p.length)(hh:h≠[])(hlow:low≠[])(hll:low.length<p.length)(hlen:high.length=(ac p h).length)(hcf:∀k,cf high k=ak p h k+cf low k):bj p high*aJ p^(low.length-1)=bj p low*aJ p^(high.length-1):=by
 have hp':p≠[]:=λz=>by rw[z]at hp;simp at hp
 have hhl:=Fh.mpr hh;have hlp:=Fh.mpr hlow;have hpl:=aX hp' hh;obtain⟨m,em⟩:∃m,p.length=m+1:=⟨p.length-1,by omega⟩;obtain⟨l,el⟩:∃l,low.length=l+1:=⟨low.length-1,by omega⟩;obtain⟨t,et⟩:∃t,h.length=t+1:=⟨h.length-1,by omega⟩;have hm:p.length-1=m:=by omega
 have hl:low.length-1=l:=by omega
 have hd:high.length=m+t+1:=by rw[hlen,hpl];omega
 have hd1:high.length-1=m+t:=by omega
 obtain⟨s,es⟩:∃s,m+t=s+l:=⟨m+t-l,by omega⟩
 have hf:cf high.reverse=cmb 1 (cvR h.reverse (cf p.reverse)) 1 (shr s (cf low.reverse)):=by
  rw[<- mO hp' h hh];have hl2:(ac h p).length=m+t+1:=by rw[aX hh hp'];omega
  funext j
  show _=1*cf (ac h p).reverse j+1*(if j<s then 0 else cf low.reverse (j-s));rw[cN,cN,hd,hl2];by_cases hj:j<m+t+1
  ·rw[if_pos hj,if_pos hj,hcf,ap,cJ];by_cases hs:j<s
   ·rw[if_pos hs,aT (l:=low) (by omega)];omega
   ·rw[if_neg hs,cN,if_pos (show j-s<low.length by omega)];have:low.length-1-(j-s)=m+t+1-1-j:=by omega
    rw[this];omega
  ·rw[if_neg hj,if_neg hj,if_neg (show ¬j<s by omega),cN,if_neg (show ¬j-s<low.length by omega)];simp
 have e1:bj p high=aJ p^s*bj p low:=by
  unfold bj syl;rw[hm,hd1,hl]
  have er:aH (cf high.reverse) m=(List.range m).map λk=>cmb 1 (shr k (cvR h.reverse (cf p.reverse))) 1 (shr (s+k) (cf low.reverse)):=by
   unfold aH;refine FE λk _=>?_
   rw[hf,gv,fM,GA]
  rw[er]
  have b:=vV (N:=m+t+m) (A:=aH (cf p.reverse) (m+t)) (u:=λk=>shr k (cvR h.reverse (cf p.reverse))) (v:=λk=>shr (s+k) (cf low.reverse)) (List.range m) [] (λk hk q' post hN=>by
   have hk':=Gi.mp hk;have:=o4 (n:=m+t+m) (A:=aH (cf p.reverse) (m+t)++q') (rest:=post) (f:=cf p.reverse) h.reverse k (by rw[Fd];omega) (λi hi=>.inl (Gq _ (Fe.mpr ⟨k+i,Gi.mpr (by rw[Hi]at hi;omega),rfl⟩)))
   exact this) (by rw[cx,Gk,FI];omega)
  rw[Gy]at b;rw[b];have e2:(List.range m).map (λk=>shr (s+k) (cf low.reverse))=cg (cf low.reverse) s m:=rfl
  rw[e2,es,jf (cf p.reverse) s l,Fy,show s+l+m=s+(l+m) by omega,oX s _ (λx hx j hj=>by
   rcases Fq.mp hx with z |z
   ·obtain⟨k,_,rfl⟩:=Fe.mp z;show(if j<s+k then 0 else _)=(0:Int);rw[if_pos (by omega)]
   ·obtain⟨k,_,rfl⟩:=Fe.mp z;show(if j<s+k then 0 else _)=(0:Int)
    rw[if_pos (by omega)]),Fk,jg,jg]
  have h1:cf p.reverse 0=aJ p:=by rw[cN,if_pos (by omega)];rfl
  rw[h1]
 rw[e1,hl,hd1,es,G9];grind
noncomputable def bb:Nat->Nat->Nat
 |0=>λ_=>1
 |t+1=>λi=>Nat.rec 1 (λi r=>bb t (i+1)+r) i
noncomputable def ff:Nat->Int->Int
 |0,_=>1
 |t+1,x=>ff t x*(x-t)
noncomputable def SF(t:Nat)(x:Int):List Int->Int
 | []=>0
 |c::cs=>c*ff t x+SF (t+1) x cs
noncomputable def dI(i t:Nat):List Int->List Int
 | []=>[]
 |c::cs=>c*(bb t i:Nat)::dI i (t+1) cs
noncomputable def iZ(i:Nat)(cs:List Int):List Int:=(List.range cs.length).map λj=>SF 0 (j:Nat) (dI i 0 cs)
noncomputable def nc:Nat->Nat->List Int->List Int
 |_,0,_=>[]
 |k,n+1,W=>ev (k:Nat) W::nc (k+1) n (syn (k:Nat) W)
theorem pF{a b:Int}{f g:Rw}:∀n,(∀j,j<=n->f j=g j)->wj a b f n=wj a b g n
 |0,h=>h 0 (Fg _)
 |n+1,h=>by show wj a b f n*a+f (n+1)*b^(n+1)=wj a b g n*a+g (n+1)*b^(n+1);rw[pF n λj hj=>h j (by omega),h (n+1) (Fg _)]
theorem kB(a b:Int):∀l:List Int,l≠[]->wj a b (cf l.reverse) (l.length-1)=lv a b l
 | [v],_=>by show v=v*b^0+a*0;simp
 |v::x::l,_=>by
  have ih:=kB a b (x::l) (by simp);generalize hA:x::l=A at *
  have hl:1<=A.length:=by rw[<- hA,Ff];omega
  obtain⟨n,hn⟩:∃n,A.length=n+1:=⟨A.length-1,by omega⟩;rw[Ff,hn];show wj a b (cf (v::A).reverse) n*a+cf (v::A).reverse (n+1)*b^(n+1)=v*b^A.length+a*lv a b A;rw[List.reverse_cons];have e1:wj a b (cf (A.reverse++[v])) n=wj a b (cf A.reverse) n:=pF n λj hj=>kf (by rw[Hi];omega)
  have e2:cf (A.reverse++[v]) (n+1)=v:=by
   have:n+1=A.reverse.length:=by rw[Hi,hn]
   rw[this];exact ga _ _
  have e3:A.length-1=n:=by omega
  rw[e3]at ih;rw[e1,e2,ih,hn,FO (lv a b A)];omega
noncomputable def z0(n:Nat)(r:Rw):Rw:=λj=>if j=n then 0 else r j
theorem pC(n:Nat)(r:Rw):r=cmb 1 (z0 n r) (r n) (aY n):=by
 funext j
 show r j=1*(if j=n then 0 else r j)+r n*(if j=n then 1 else 0);split
 ·next h=>rw[h];omega
 ·omega
theorem vR{N n:Nat}{pre:List Rw}:∀(ps mid:List Rw),pre.length+1+mid.length+ps.length=N->D N (pre++aY n::mid++ps)=D N (pre++aY n::mid++ps.map (z0 n))
 | [],mid,_=>by simp
 |p::ps,mid,hl=>by
  rw[Ff]at hl;have hA:(pre++aY n::mid).length+1+ps.length=N:=by rw[Fd,Ff];omega
  have e1:=c7 N (pre++aY n::mid) ps (z0 n p) (aY n) 1 (p n) hA;rw[<- pC]at e1;have e2:D N (pre++aY n::mid++aY n::ps)=0:=ku (q:=pre) (pre:=mid) (post:=ps) (by omega);rw[e1,e2,Fp,FT,FF];have ih:=vR (N:=N) (n:=n) (pre:=pre) ps (mid++[z0 n p]) (by rw[Fd];show pre.length+1+(mid.length+1)+ps.length=N;omega);have a1:pre++aY n::(mid++[z0 n p])++ps=pre++aY n::mid++z0 n p::ps:=by simp
  have a2:pre++aY n::(mid++[z0 n p])++ps.map (z0 n)=pre++aY n::mid++(p::ps).map (z0 n):=by simp
  rw[a1,a2]at ih;exact ih
theorem Dt{N:Nat}{pre post:List Rw}{h:Rw}(hl:pre.length+1+post.length=N):(D N (pre++h::post)).natAbs=(D N (pre++post++[h])).natAbs:=by
 have e:=iV (n:=N) (h:=h) (post:=[]) post pre (by rw[FI];omega);rw[e,Gy,Fs]
 have:((-1:Int)^post.length).natAbs=1:=by rw[GQ];show 1^post.length=1;exact Nat.one_pow _
 rw[this,Nat.one_mul]
def Zd(n:Nat)(rows:List Rw)(r:Rw):Prop:=r n=0/\∃r0∈rows,∀j,j<n->r j=r0 j
theorem kz{n:Nat}{rows:List Rw}{r:Rw}(h:r∈rows):Zd n rows (z0 n r):=⟨by show(if n=n then(0:Int)else _)=0;rw[if_pos rfl],r,h,λj hj=>by show(if j=n then(0:Int)else r j)=r j;rw[if_neg (by omega)]⟩
theorem vY{n B:Nat}{rows:List Rw}(hB:∀sub:List Rw,sub.length=n->(∀r∈sub,∃r0∈rows,∀j,j<n->r j=r0 j)->(D n sub).natAbs<=B):∀(post pre:List Rw),pre.length+post.length=n+1->(∀r∈pre,Zd n rows r)->(∀r∈post,r∈rows)->(D (n+1) (pre++post)).natAbs<=(post.map λr=>(r n).natAbs).sum*B
 | [],pre,hl,hp,_=>by rw[Gy,oW n pre (by simpa using hl) λr hr=>(hp r hr).1];simp
 |r::ps,pre,hl,hp,hr=>by
  rw[Ff]at hl;have e1:=c7 (n+1) pre ps (z0 n r) (aY n) 1 (r n) (by omega);rw[<- pC]at e1;have ih:=vY hB ps (pre++[z0 n r]) (by rw[Fd];show pre.length+1+ps.length=n+1;omega) (λx hx=>(Fq.mp hx).elim (hp x) λz=>by rw[Fv.mp z];exact kz (hr r (Fl ..))) λx hx=>hr x (Fi _ hx)
  have a1:pre++[z0 n r]++ps=pre++z0 n r::ps:=by simp
  rw[a1]at ih
  have e2:(D (n+1) (pre++aY n::ps)).natAbs<=B:=by
   have z:=vR (N:=n+1) (n:=n) (pre:=pre) ps [] (by rw[FI];omega);have a2:pre++aY n::[]++ps=pre++aY n::ps:=by simp
   have a3:pre++aY n::[]++ps.map (z0 n)=pre++aY n::ps.map (z0 n):=by simp
   rw[a2,a3]at z;rw[z,Dt (by rw[Fc];omega),vX n (pre++ps.map (z0 n)) (aY n) (by rw[Fd,Fc];omega) λx hx=>?_]
   ·have u1:aY n n=1:=by show(if n=n then(1:Int)else 0)=1;rw[if_pos rfl]
    rw[u1,FF];refine hB _ (by rw[Fd,Fc];omega) λx hx=>?_
    rcases Fq.mp hx with y |y
    ·exact(hp x y).2
    ·obtain⟨q,hq,rfl⟩:=Fe.mp y;exact(kz (hr q (Fi _ hq))).2
   ·rcases Fq.mp hx with y |y
    ·exact(hp x y).1
    ·obtain⟨q,hq,rfl⟩:=Fe.mp y;exact(kz (rows:=rows) (hr q (Fi _ hq))).1
  rw[e1,FF,Fo,Hd,Nat.add_mul];have e3:(r n*D (n+1) (pre++aY n::ps)).natAbs<=(r n).natAbs*B:=by rw[Fs];exact Gu _ e2
  have e4:=Int.natAbs_add_le (D (n+1) (pre++z0 n r::ps)) (r n*D (n+1) (pre++aY n::ps));omega
theorem dP(k:Nat)(c:Int)(r:Rw):rc k c r k=c:=by show(if k=k then c else _)=c;rw[if_pos rfl]
theorem db{k j:Nat}(c:Int)(r:Rw)(h:j≠k):rc k c r j=r j:=by show(if j=k then c else r j)=r j;rw[if_neg h]
theorem rT(k:Nat)(r:Rw):rc k (r k) r=r:=by
 funext j
 by_cases h:j=k
 ·rw[h,dP]
 ·rw[db _ _ h]
theorem yt{k l:Nat}(h:k≠l)(c d:Int)(r:Rw):rc k c (rc l d r)=rc l d (rc k c r):=by
 funext j
 by_cases h1:j=k
 ·subst h1;rw[dP,db _ _ h,dP]
 ·by_cases h2:j=l
  ·subst h2;rw[db _ _ h1,dP,dP]
  ·rw[db _ _ h1,db _ _ h2,db _ _ h2,db _ _ h1]
theorem Dq{n k:Nat}{rows:List Rw}(hl:rows.length=n)(hk:k+2<=n):D n (rows.map λr=>rc k (r (k+1)) (rc (k+1) (r k) r)) =-D n rows:=by
 have lin1:∀(c1 c2 d:Rw->Int),D n (rows.map λr=>rc k (c1 r+c2 r) (rc (k+1) (d r) r))=D n (rows.map λr=>rc k (c1 r) (rc (k+1) (d r) r))+D n (rows.map λr=>rc k (c2 r) (rc (k+1) (d r) r)):=λc1 c2 d=>by have e:=iX k n rows (λr=>rc (k+1) (d r) r) c1 c2 1 1 (by omega);simp only[FF]at e;exact e
 have lin2:∀(c d1 d2:Rw->Int),D n (rows.map λr=>rc k (c r) (rc (k+1) (d1 r+d2 r) r))=D n (rows.map λr=>rc k (c r) (rc (k+1) (d1 r) r))+D n (rows.map λr=>rc k (c r) (rc (k+1) (d2 r) r)):=λc d1 d2=>by
  have e:=iX (k+1) n rows (λr=>rc k (c r) r) d1 d2 1 1 (by omega);simp only[FF]at e;have cm:∀d:Rw->Int,(λr=>rc (k+1) (d r) (rc k (c r) r))=λr=>rc k (c r) (rc (k+1) (d r) r):=λd=>funext λr=>(yt (by omega) _ _ _).symm
  rw[cm d1,cm d2,cm λr=>d1 r+d2 r]at e;exact e
 have same:∀c:Rw->Int,D n (rows.map λr=>rc k (c r) (rc (k+1) (c r) r))=0:=λc=>by
  refine oY k n _ (by rw[Fc];exact hl) hk λx hx=>?_
  obtain⟨r,_,rfl⟩:=Fe.mp hx;rw[db _ _ (by omega),dP,dP]
 have s:=same λr=>r k+r (k+1)
 rw[lin1,lin2,lin2,same,same]at s;have own:(λr:Rw=>rc k (r k) (rc (k+1) (r (k+1)) r))=id:=funext λr=>by rw[rT,rT];rfl
 rw[own,GD]at s;omega
theorem vS:∀(d:Nat) {n k:Nat} {rows:List Rw},rows.length=n->k+d+2<=n->(∀r∈rows,r (k+d+1)=r k)->D n rows=0
 |0,n,k,rows,hl,hk,h=>oY k n rows hl hk h
 |d+1,n,k,rows,hl,hk,h=>by
  have e:=Dq (n:=n) (k:=k+d+1) hl (by omega)
  have z:=vS d (n:=n) (k:=k) (rows:=rows.map λr=>rc (k+d+1) (r (k+d+1+1)) (rc (k+d+1+1) (r (k+d+1)) r)) (by rw[Fc];exact hl) (by omega) λx hx=>by obtain⟨r,hr,rfl⟩:=Fe.mp hx;have hr':r (k+d+1+1)=r k:=h r hr;rw[dP,db _ _ (by omega),db _ _ (by omega)];exact hr'
  omega
theorem Do{n k:Nat}(rows:List Rw)(hl:rows.length=n+1)(hk:k+1<=n):D (n+1) (rows.map λr=>rc n (r k) (id r))=0:=by
 obtain⟨d,rfl⟩:∃d,n=k+d+1:=⟨n-k-1,by omega⟩;refine vS d (k:=k) (by rw[Fc];exact hl) (by omega) λx hx=>?_
 obtain⟨r,_,rfl⟩:=Fe.mp hx;rw[dP,db _ _ (by omega)];rfl
theorem v8{n:Nat}(rows:List Rw)(hl:rows.length=n+1)(w:Nat->Int):∀k,k<=n->D (n+1) (rows.map λr=>rc n (w n*r n+((List.range k).map λj=>w j*r j).sum) r)=w n*D (n+1) rows
 |0,_=>by
  have e:=iX n (n+1) rows id (λr=>r n) (λ_=>0) (w n) 0 (by omega)
  have a:∀r:Rw,rc n (r n) r=r:=λr=>by
   funext j
   show(if j=n then r n else r j)=r j;split
   ·next h=>rw[h]
   ·rfl
  have b:(λr:Rw=>rc n (w n*r n+((List.range 0).map λj=>w j*r j).sum) r)=λr=>rc n (w n*r n+0*0) (id r):=by funext r;simp
  rw[b,e,FY,FT]
  have c:(rows.map λr=>rc n (r n) (id r))=rows:=by
   have:(λr:Rw=>rc n (r n) (id r))=id:=funext λr=>a r
   rw[this,GD]
  rw[c]
 |k+1,hk=>by
  have ih:=v8 rows hl w k (by omega);have e:=iX n (n+1) rows id (λr=>w n*r n+((List.range k).map λj=>w j*r j).sum) (λr=>r k) 1 (w k) (by omega)
  have b:(λr:Rw=>rc n (w n*r n+((List.range (k+1)).map λj=>w j*r j).sum) r)=λr=>rc n (1*(w n*r n+((List.range k).map λj=>w j*r j).sum)+w k*r k) (id r):=by
   funext r
   rw[HR,Fk,Hw];show rc n (_+(_+(w k*r k+0))) r=rc n _ r
   congr 1
   omega
  rw[b,e,FF];have z:D (n+1) (rows.map λr=>rc n (r k) (id r))=0:=Do rows hl hk;rw[z,Fp,FT];exact ih
theorem qk(a:Int)(f:Nat->Int):∀l:List Nat,(l.map λj=>a*f j).sum=a*(l.map f).sum
 | []=>by simp
 |x::l=>by rw[Fo,Hd,Fo,Hd,qk a f l,Int.mul_add]
theorem pD(a b:Int)(r:Rw):∀n,b^n*r n+((List.range n).map λj=>a^(n-j)*b^j*r j).sum=wj a b r n
 |0=>by rw[Gg,FF];show r 0+0=r 0;omega
 |n+1=>by
  have ih:=pD a b r n;show _=wj a b r n*a+r (n+1)*b^(n+1);rw[<- ih,HR,Fk,Hw]
  have e1:((List.range n).map λj=>a^(n+1-j)*b^j*r j)=(List.range n).map λj=>a*(a^(n-j)*b^j*r j):=FE λj hj=>by have:j<n:=Gi.mp hj;rw[show n+1-j=n-j+1 by omega,Fw];grind
  rw[e1,qk];show _+(_+(a^(n+1-n)*b^n*r n+0))=_;rw[show n+1-n=1 by omega,Int.pow_one];grind
theorem pG{a b:Int}{h:Rw}{t:Nat}(hz:∀j,t<j->h j=0):∀e,wj a b h (t+e)=wj a b h t*a^e
 |0=>by rw[Gg,Int.mul_one];rfl
 |e+1=>by show wj a b h (t+e)*a+h (t+e+1)*b^(t+e+1)=_;rw[pG hz e,hz _ (by omega),FY,FT,Fw,FM]
theorem pE{a b:Int}{f:Rw}{m n k N:Nat}(hf:∀j,m<j->f j=0)(hk:k<n)(hN:N+1=n+m):wj a b (shr k f) N=b^k*wj a b f m*a^(n-1-k):=by
 have e:N=(k+m)+(n-1-k):=by omega
 rw[e,pG (λj hj=>?_),(wt a b f k).2 m];show(if j<k then 0 else f (j-k))=0;split
 ·rfl
 ·exact hf _ (by omega)
theorem yj{f g:Rw}{n m N B:Nat}(hN:N+1=n+m)(a b:Int)(hf:∀j,m<j->f j=0)(hg:∀j,n<j->g j=0)
 (hB:∀sub:List Rw,sub.length=N->(∀r∈sub,∃r0∈syl f g n m,∀j,j<N->r j=r0 j)->(D N sub).natAbs<=B) :
 (b^N).natAbs*(D (N+1) (syl f g n m)).natAbs<=(((List.range n).map λk=>(b^k*wj a b f m*a^(n-1-k)).natAbs).sum+((List.range m).map λk=>(b^k*wj a b g n*a^(m-1-k)).natAbs).sum)*B:=by
 have hl:(syl f g n m).length=N+1:=by unfold syl;rw[Fd,cx,cx];omega
 have e:=v8 (syl f g n m) hl (λj=>a^(N-j)*b^j) N (Fg _)
 have e0:(λr:Rw=>rc N (a^(N-N)*b^N*r N+((List.range N).map λj=>a^(N-j)*b^j*r j).sum) r)=λr=>rc N (wj a b r N) r:=funext λr=>by rw[GZ,Gg,FF,pD]
 rw[e0,GZ,Gg,FF]at e
 have q:=vY (n:=N) (B:=B) (rows:=(syl f g n m).map λr=>rc N (wj a b r N) r) (λsub h1 h2=>hB sub h1 λr hr=>by
  obtain⟨r0,hr0,hj⟩:=h2 r hr;obtain⟨r1,hr1,rfl⟩:=Fe.mp hr0
  exact⟨r1,hr1,λj hlt=>by rw[hj j hlt,db _ _ (by omega)]⟩) ((syl f g n m).map λr=>rc N (wj a b r N) r) [] (by rw[Fc,hl];simp) (λr h=>nomatch h) λr h=>h
 rw[Fm,e,Fs]at q;refine Fu q (Ga _ (GJ ?_));rw[Fz];have c:((λr:Rw=>(r N).natAbs) ∘ λr=>rc N (wj a b r N) r)=λr=>(wj a b r N).natAbs:=funext λr=>by show(rc N (wj a b r N) r N).natAbs=_;rw[dP]
 rw[c];unfold syl aH;rw[Fk,Hw,Fz,Fz]
 congr 1
 ·congr 1
  exact FE λk hk=>by show(wj a b (shr k f) N).natAbs=_;rw[pE hf (Gi.mp hk) hN]
 ·congr 1
  exact FE λk hk=>by show(wj a b (shr k g) N).natAbs=_;rw[pE hg (Gi.mp hk) (by omega)]
theorem A1{t n:Int}(hn:0<n){l:List Int}(hl:l≠[]):(lv t n l:Rat)=(n:Rat)^(l.length-1)*pv l ((t:Rat)/(n:Rat)):=by
 have h1:=jT (t:=t) hn l;rw[oi,FJ]at h1;obtain⟨k,ek⟩:∃k,l.length=k+1:=⟨l.length-1,by have:=Fh.mpr hl;omega⟩;have hN:(n:Rat)≠0:=by have:(0:Rat)<(n:Rat):=FK.mpr hn;grind
 rw[ek,FV]at h1;rw[ek,Nat.add_sub_cancel];generalize (lv t n l:Rat)=L at *
 generalize (n:Rat)^k=P at *
 generalize pv l ((t:Rat)/(n:Rat))=Q at *
 generalize (n:Rat)=y at *
 have h2:y*(L-P*Q)=0:=by grind
 rcases GF.mp h2 with z |z
 ·exact absurd z hN
 ·grind
theorem rX(x y:Rat):∀n:Nat,(x*y)^n=x^n*y^n
 |0=>by rw[Gw,Gw,Gw,Rat.mul_one]
 |n+1=>by rw[FV,FV,FV,rX x y n];grind
theorem jy(x:Rat)(m:Nat):∀n:Nat,x^(m+n)=x^m*x^n
 |0=>by rw[Gw,Rat.mul_one];rfl
 |n+1=>by rw[<- Nat.add_assoc,FV,FV,jy x m n,Rat.mul_assoc]
theorem Dl{z:Int}{c:Rat}(h:Bd c (z:Rat)):((z.natAbs:Nat):Rat)<=c:=by
 obtain⟨h1,h2⟩:=h;rcases Int.natAbs_eq z with e |e
 ·have:((z.natAbs:Nat):Rat)=(z:Rat):=by have q:((z.natAbs:Nat):Int)=z:=e.symm;rw[<- HW,q]
  grind
 ·have:((z.natAbs:Nat):Rat) = -(z:Rat):=by
   have q:((z.natAbs:Nat):Int) = -z:=by omega
   rw[<- HW,q,G3]
  grind
theorem kM{f:Nat->Nat}{c:Rat}:∀l:List Nat,(∀k∈l,(f k:Rat)<=c)->(((l.map f).sum:Nat):Rat)<=(l.length:Rat)*c
 | [],_=>by simp
 |k::l,h=>by
  have ih:=kM l λx hx=>h x (Fi _ hx)
  have h1:=h k (Fl ..);rw[Fo,Hd,Ff,Hu,Hu];have e:((1:Nat):Rat)=1:=rfl;rw[e];grind
theorem Bd.pow{M x:Rat}(hM:1<=M)(hx:Bd M x):∀{k n:Nat},k<=n->Bd (M^n) (x^k)
 |0,n,_=>by
  rw[Gw]
  have:(1:Rat)<=M^n:=by
   induction n with
   |zero=>rw[Gw];exact FS
   |succ n ih =>have ih:=ih (Fj _);rw[FV];have:=FH hM (show(0:Rat)<=M^n by grind);grind
  constructor<;>grind
 |k+1,0,h=>by omega
 |k+1,n+1,h=>by rw[FV,FV];exact(Bd.pow hM hx (Nat.le_of_succ_le_succ h)).mul hx
theorem w9{p q:List Int}{n m bt:Nat}(bp:∀j,(cf p j).natAbs<=2^bt)(bq:∀j,(cf q j).natAbs<=2^bt):∀r∈syl (cf p.reverse) (cf q.reverse) n m,∀j,(r j).natAbs<=2^bt:=by
 have rv:∀{l:List Int},(∀j,(cf l j).natAbs<=2^bt)->∀j,(cf l.reverse j).natAbs<=2^bt:=λ{l} h j=>by
  rw[cN];split
  ·exact h _
  ·show 0<=_;exact Fj _
 have sd:∀{f:Rw} {n:Nat},(∀j,(f j).natAbs<=2^bt)->∀r∈aH f n,∀j,(r j).natAbs<=2^bt:=λ{f n} h r hr j=>by
  unfold aH at hr
  obtain⟨k,_,rfl⟩:=Fe.mp hr;show(if j<k then(0:Int)else f (j-k)).natAbs<=_;split
  ·show 0<=_;exact Fj _
  ·exact h _
 intro r hr;rcases Fq.mp hr with h |h
 ·exact sd (rv bp) r h
 ·exact sd (rv bq) r h
noncomputable def fc:Nat->Nat
 |0=>1
 |n+1=>(n+1)*fc n
theorem vZ{b:Nat}:∀(n:Nat) (rows:List Rw),rows.length=n->(∀r∈rows,∀j,(r j).natAbs<=2^b)->(D n rows).natAbs<=fc n*2^(b*n)
 |0,_,_,_=>by show(1:Int).natAbs<=1*2^0;decide
 |n+1,rows,hl,h=>by
  have:=nZ (f:=λm=>D n (m.map tl)) (B:=2^b) (F:=fc n*2^(b*n)) (S:=λr=>∀j,(r j).natAbs<=2^b) (λr hr=>hr 0) rows [] (λr hr=>nomatch hr) h (λl hl2 hs=>vZ n (l.map tl) (by rw[Fc];rw[FI]at hl2;omega) (λr hr j=>by
   obtain⟨x,hx,rfl⟩:=Fe.mp hr
   exact hs x hx (j+1)))
  refine Fu this ?_;rw[hl];have e:b*(n+1)=b+b*n:=by rw[Nat.mul_add];omega
  show _<=(n+1)*fc n*2^(b*(n+1));rw[e,Nat.pow_add 2 b];exact GJ (by generalize 2^b=u;generalize 2^(b*n)=v;rw[Nat.mul_left_comm u,Nat.mul_assoc])
theorem AS{N bt:Nat}{rows sub:List Rw}(hr:∀r∈rows,∀j,(r j).natAbs<=2^bt)(hl:sub.length=N)(hs:∀r∈sub,∃r0∈rows,∀j,j<N->r j=r0 j):(D N sub).natAbs<=fc N*2^(bt*N):=by
 have e:=v6 N sub id (λr j=>if j<N then r j else 0) λr _ j hj=>by show r j=if j<N then r j else 0;rw[if_pos hj]
 rw[GD]at e;rw[e];refine vZ N _ (by rw[Fc];exact hl) λr hr' j=>?_
 obtain⟨r1,h1,rfl⟩:=Fe.mp hr';obtain⟨r0,h0,hj⟩:=hs r1 h1;show(if j<N then r1 j else 0).natAbs<=_;split
 ·next z=>rw[hj j z];exact hr r0 h0 j
 ·show 0<=_;exact Fj _
theorem pV{a b:Int}(hb:0<b){p:List Int}(hp:p≠[]){n N k:Nat}{M ε:Rat}(hM:1<=M)(hx:Bd M ((a:Rat)/(b:Rat)))(hε:Bd ε (pv p ((a:Rat)/(b:Rat))))(hk:k<n)(hN:N+1=n+(p.length-1)) :
 (((b^k*lv a b p*a^(n-1-k)).natAbs:Nat):Rat)<=(b:Rat)^N*(M^(n-1)*ε):=by
 refine Dl ?_;have B0:(0:Rat)<(b:Rat):=FK.mpr hb;rw[FJ,FJ,Hg,Hg,A1 hb hp];have ea:(a:Rat)=(a:Rat)/(b:Rat)*(b:Rat):=(FG (by grind)).symm;have bd:=(Bd.pow hM hx (show n-1-k<=n-1 by omega)).mul hε;generalize pv p ((a:Rat)/(b:Rat))=P at *
 rw[show(a:Rat)^(n-1-k)=((a:Rat)/(b:Rat))^(n-1-k)*(b:Rat)^(n-1-k) by rw[<- rX,<- ea]];generalize (a:Rat)/(b:Rat)=x at *
 have eN:N=k+(p.length-1)+(n-1-k):=by omega
 have e:(b:Rat)^k*((b:Rat)^(p.length-1)*P)*(x^(n-1-k)*(b:Rat)^(n-1-k))=(b:Rat)^N*(x^(n-1-k)*P):=by rw[eN,jy,jy];generalize (b:Rat)^k=u;generalize (b:Rat)^(p.length-1)=v;generalize (b:Rat)^(n-1-k)=w;generalize x^(n-1-k)=y;grind
 rw[e];have bp:(0:Rat)<=(b:Rat)^N:=Fn (GH B0);generalize (b:Rat)^N=W at *
 generalize x^(n-1-k)*P=z at *
 generalize M^(n-1)*ε=c at *
 obtain⟨b1,b2⟩:=bd;have m1:=FH b1 bp;have m2:=FH b2 bp;constructor
 ·have:W * -c = -(W*c):=by grind
  grind
 ·exact m2
theorem Dg{p q:List Int}{N bt:Nat}(hp:p≠[])(hq:q≠[])(hN:N+1=(q.length-1)+(p.length-1))(bp:∀j,(cf p j).natAbs<=2^bt)(bq:∀j,(cf q j).natAbs<=2^bt)(hR:bj p q≠0){x M ε δ:Rat}(hM:1<=M)(hx:Bd M x)(hε:Bd ε (pv p x))(hδ:Bd δ (pv q x)) :
 1<=(((q.length-1:Nat):Rat)*(M^(q.length-2)*ε)+((p.length-1:Nat):Rat)*(M^(p.length-2)*δ))*(fc N*2^(bt*N):Nat):=by
 have hb:(0:Int)<(x.den:Int):=by have:=x.den_pos;omega
 have ex:(x.num:Rat)/((x.den:Int):Rat)=x:=by rw[<- Rat.divInt_eq_div];exact Rat.num_divInt_den x
 generalize (x.den:Int)=b at hb ex
 generalize x.num=a at ex
 have v:=yj (f:=cf p.reverse) (g:=cf q.reverse) (n:=q.length-1) (m:=p.length-1) (N:=N) (B:=fc N*2^(bt*N)) hN a b (λj hj=>iy j hj) (λj hj=>iy j hj) λsub h1 h2=>AS (w9 bp bq) h1 h2
 rw[kB a b p hp,kB a b q hq]at v
 have hres:1<=(D (N+1) (syl (cf p.reverse) (cf q.reverse) (q.length-1) (p.length-1))).natAbs:=by
  have:bj p q=D (N+1) (syl (cf p.reverse) (cf q.reverse) (q.length-1) (p.length-1)):=by unfold bj;rw[hN]
  rw[<- this];exact Gm.mpr hR
 have B0:(0:Rat)<(b:Rat):=FK.mpr hb;rw[<- ex]at hx hε hδ;have s1:=kM (f:=λk=>(b^k*lv a b p*a^(q.length-1-1-k)).natAbs) (List.range (q.length-1)) λk hk=>pV (n:=q.length-1) (N:=N) hb hp hM hx hε (Gi.mp hk) hN
 have s2:=kM (f:=λk=>(b^k*lv a b q*a^(p.length-1-1-k)).natAbs) (List.range (p.length-1)) λk hk=>pV (n:=p.length-1) (N:=N) hb hq hM hx hδ (Gi.mp hk) (by omega)
 rw[Gk]at s1 s2;have v1:(b^N).natAbs*1<=_:=Fu (Gu _ hres) v;rw[Nat.mul_one]at v1;have v2:=Ht.mpr v1;rw[Rat.natCast_mul,Hu]at v2
 have eb:(((b^N).natAbs:Nat):Rat)=(b:Rat)^N:=by
  have h0:0<b^N:=Gb hb;have q:(((b^N).natAbs:Nat):Int)=b^N:=by omega
  rw[<- HW,q,Hg]
 rw[eb]at v2;have W0:(0:Rat)<(b:Rat)^N:=GH B0;have eq1:q.length-1-1=q.length-2:=by omega
 have eq2:p.length-1-1=p.length-2:=by omega
 rw[eq1]at s1 v2;rw[eq2]at s2 v2;have C0:(0:Rat)<=((fc N*2^(bt*N):Nat):Rat):=Rat.natCast_nonneg;generalize ((fc N*2^(bt*N):Nat):Rat)=Cc at *
 generalize (b:Rat)^N=W at *
 generalize (((List.range (q.length-1)).map λk=>(b^k*lv a b p*a^(q.length-2-k)).natAbs).sum:Nat)=S1 at *
 generalize (((List.range (p.length-1)).map λk=>(b^k*lv a b q*a^(p.length-2-k)).natAbs).sum:Nat)=S2 at *
 generalize ((q.length-1:Nat):Rat)=n1 at *
 generalize ((p.length-1:Nat):Rat)=n2 at *
 generalize M^(q.length-2)*ε=u at *
 generalize M^(p.length-2)*δ=w at *
 have h3:(S1:Rat)+(S2:Rat)<=W*(n1*u+n2*w):=by
  have e1:n1*(W*u)=W*(n1*u):=by grind
  have e2:n2*(W*w)=W*(n2*w):=by grind
  grind
 have h4:=FP h3 C0;refine Gp.mp λz=>?_
 have h5:=Hh z W0;have e3:W*(n1*u+n2*w)*Cc=W*((n1*u+n2*w)*Cc):=Rat.mul_assoc _ _ _;grind
theorem rP:∀(n:Nat) (p q:List Int),q.length<=n->q.length<p.length->Tr p->Tr q->q≠[]->Cop2 p q->bj p q≠0
 |0,p,q,h,_,_,_,hq,_=>absurd (Gd.mp (Nat.le_zero.mp h)) hq
 |n+1,p,q,hn,hlt,hp,htq,hq,hc=>by
  have ql:=Fh.mpr hq;have hpn:p≠[]:=λz=>by rw[z]at hlt;exact absurd hlt (HS _)
  by_cases h1:q.length=1
  ·obtain⟨c,rfl⟩:∃c,q=[c]:=by
    match q,h1 with
    | [c],_=>exact⟨c,rfl⟩
   have hc0:c≠0:=htq 0 rfl;have e:=mQ p [c];rw[ym]at e;intro z;rw[z,Fp]at e;exact absurd e (G4 hc0)
  ·have h2:2<=q.length:=by omega
   have lR:=d4 (a:=p) hq;have hQ:(bh p q).length+q.length=p.length+1:=by rw[j3 hq];unfold aW;omega
   have hQn:bh p q≠[]:=λz=>by rw[z,FI]at hQ;omega
   have hRn:aF p q≠[]:=λz=>by have:=hc q hq htq ⟨aS p q,bh p q,f8 hq htq,λk=>by rw[cW hq k,z];show _+0=_;omega⟩ (Dv.refl q);omega
   have tR:Tr (aF p q):=cV _ _;have cR:Cop2 q (aF p q):=λd dn dt d1 d2=>hc d dn dt (Dv.up (f8 (a:=p) hq htq) (λk=>cW hq k) d1 d2) d1
   have ih:=rP n q (aF p q) (by omega) lR htq tR hRn cR;have lq:aJ q≠0:=gY htq hq;have lm:(ac [aS p q] p).length=p.length:=by rw[aX (by simp) hpn];show 1+p.length-1=_;omega
   have ad:=yn (p:=q) (h:=bh p q) (low:=aF p q) (high:=ac [aS p q] p) h2 hQn hRn lR (by rw[lm,aX hq hQn];omega) λk=>by
    have e:=cW (a:=p) hq k;have e2:cf (ac [aS p q] p) k=aS p q*cf p k:=by rw[ap,cw]
    rw[e2,e,cJ]
   have nz:bj q (ac [aS p q] p)≠0:=λz=>by rw[z,FY]at ad;exact absurd ad.symm (Ft ih (G4 lq))
   rw[yl hq (by simp) hpn (gY hp hpn)]at nz;have nz2:bj q p≠0:=λz=>nz (by rw[z,Fp])
   intro z;have e:=mQ p q;rw[z,Fp]at e;exact nz2 e
noncomputable def iv(t:Int):List Int->Int
 | []=>0
 |c::l=>c+t*iv t l
theorem g6(t:Int):∀l:List Int,(iv t l:Rat)=pv l (t:Rat)
 | []=>rfl
 |c::l=>by show((c+t*iv t l:Int):Rat)=(c:Rat)+(t:Rat)*pv l (t:Rat);rw[Hb,FJ,g6 t l]
theorem Bm(t:Int){a b c:List Int}(h:∀n,cf c n=ak a b n):iv t c=iv t a*iv t b :=
 Hc.mp (by rw[FJ,g6,g6,g6];exact eY _ a b c h)
theorem Bn{l:List Int}(h6:l.length<=6)(hb:∀c∈l,-50<=c/\c<=50) :
 (-50<=iv 0 l/\iv 0 l<=50)/\(-300<=iv 1 l/\iv 1 l<=300)/\(-300<=iv (-1) l/\iv (-1) l<=300)/\(-3150<=iv 2 l/\iv 2 l<=3150)/\(-3150<=iv (-2) l/\iv (-2) l<=3150):=by
 match l,h6,hb with
 | [],_,_=>simp[iv]
 | [a],_,hb=>simp[iv]at hb ⊢;omega
 | [a,b],_,hb=>simp[iv]at hb ⊢;omega
 | [a,b,c],_,hb=>simp[iv]at hb ⊢;omega
 | [a,b,c,d],_,hb=>simp[iv]at hb ⊢;omega
 | [a,b,c,d,e],_,hb=>simp[iv]at hb ⊢;omega
 | [a,b,c,d,e,f],_,hb=>simp[iv]at hb ⊢;omega
 |_::_::_::_::_::_::_::_,h,_=>simp at h
theorem BX{l:List Int}(h5:l.length<=5)(h0 : -50<=iv 0 l/\iv 0 l<=50)(h1 : -300<=iv 1 l/\iv 1 l<=300)(h2 : -300<=iv (-1) l/\iv (-1) l<=300)(h3 : -3150<=iv 2 l/\iv 2 l<=3150)(h4 : -3150<=iv (-2) l/\iv (-2) l<=3150) :
 ∀c∈l,-925<=c/\c<=925:=by
 match l,h5 with
 | [],_=>simp
 | [a],_=>simp[iv]at *;omega
 | [a,b],_=>simp[iv]at *;omega
 | [a,b,c],_=>simp[iv]at *;omega
 | [a,b,c,d],_=>simp[iv]at *;omega
 | [a,b,c,d,e],_=>simp[iv]at *;omega
 |_::_::_::_::_::_::_,h=>simp at h
theorem iO{f g h:Int}{B:Int}(e:f=g*h)(hz:h=0->g=0)(hf : -B<=f/\f<=B)(hB:0<=B) : -B<=g/\g<=B:=by
 by_cases h0:h=0
 ·rw[hz h0];omega
 ·have h1:f.natAbs=g.natAbs*h.natAbs:=by rw[e,Fs]
  have h2:1<=h.natAbs:=Gm.mpr h0;have:=Gu g.natAbs h2;omega
theorem sx(a b:List Int)(x:Rat):pv (slopeL (ac a b)) x=pv (slopeL a) x*pv b x+pv a x*pv (slopeL b) x:=by
 have:=gN (a:=ac (slopeL a) b) (b:=ac a (slopeL b)) (c:=slopeL (ac a b)) (u:=1) (v:=1) x λn=>by rw[fL,ap,ap];omega
 rw[this,eY x (slopeL a) b _ (ap _ _),eY x a (slopeL b) _ (ap _ _)];show((1:Int):Rat)*_+((1:Int):Rat)*_=_;grind
theorem nD{f g:Rat->Rat}(hf:Nice f)(hg:Nice g):Nice λx=>f x-g x:=by
 have:=hf.add ((dE (-1)).mul hg);have e:(λx=>f x+(-1)*g x)=λx=>f x-g x:=funext λx=>by grind
 rwa [e]at this
theorem Az{f:Rat->Rat}(hf:Nice f){n:Rat}(h:∀x,x≠n->f x=0):f n=0:=by
 obtain⟨w,w0,hw⟩:=iS n;obtain⟨M,m0,_,m2⟩:=hf (w+1) (by grind)
 have key:∀e:Rat,0<e->e<=1->Bd (M*e) (f n):=λe e0 e1=>by
  have:=m2 n (n+e) ⟨by have:=hw.1;grind,by have:=hw.2;grind⟩ ⟨by have:=hw.1;grind,by have:=hw.2;grind⟩ (by grind);rw[h (n+e) (by grind)]at this;obtain⟨p,q⟩:=this;have ee:n+e-n=e:=by grind
  rw[ee]at p q;constructor<;>grind
 by_cases z:f n=0
 ·exact z
 ·exfalso
  obtain⟨v,v0,hv⟩:∃v:Rat,0<v/\¬Bd v (f n):=by
   rcases(show f n<0\/0<f n by grind)with q |q
   ·exact⟨-(f n)/2,by grind,λb=>by have:=b.1;grind⟩
   ·exact⟨f n/2,by grind,λb=>by have:=b.2;grind⟩
  have mp:0<M+1:=by grind
  have mvp:0<M+1+v:=by grind
  have ep:0<v/(M+1+v):=cQ v0 mvp;have em:v/(M+1+v)*(M+1+v)=v:=FG (by grind);refine hv ((key (v/(M+1+v)) ep ?_).mono ?_)
  ·refine Gp.mp λlt=>?_
   have:=G1 lt mvp;rw[em]at this;grind
  ·have p1:0<=v/(M+1+v)*(1+v):=Fx (by grind) (by grind);grind
theorem rO{H:List Int}{n:Int}(ht:Tr H)(hne:H≠[])(h:pv H (n:Rat)=0):∃(c:Int) (H1:List Int),c≠0/\Tr H1/\H1≠[]/\H1.length<H.length/\∀k,c*cf H k=ak H1 [-n,1] k:=by
 have sne:[-n,(1:Int)]≠[]:=by simp
 have str:Tr [-n,(1:Int)]:=λk hk=>by
  have:k=1:=by simp at hk;omega
  subst this;show(1:Int)≠0;decide
 have dne:=f8 (a:=H) sne str
 have hR:aF H [-n,1]=[]:=by
  have hl:(aF H [-n,1]).length<2:=d4 sne;by_cases z:aF H [-n,1]=[]
  ·exact z
  ·exfalso;obtain⟨c,ec⟩:=iN (by omega) z;have tr:=cV H [-n,1];rw[ec]at tr;have c0:c≠0:=tr 0 rfl
   have e:=gN (a:=ac (bh H [-n,1]) [-n,1]) (b:=aF H [-n,1]) (c:=scL (aS H [-n,1]) H) (u:=1) (v:=1) (n:Rat) λk=>by rw[aD,cW sne,ap];omega
   rw[cC (a:=H) (u:=aS H [-n,1]) _ (aD _ _),h,eY _ _ _ _ (ap _ _),ec,iE]at e
   have s0:pv [-n,1] (n:Rat)=0:=by show((-n:Int):Rat)+(n:Rat)*(((1:Int):Rat)+(n:Rat)*0)=0;rw[G3];show -(n:Rat)+(n:Rat)*(1+(n:Rat)*0)=0;grind
   rw[s0]at e
   have:(c:Rat)=0:=by have e1:((1:Int):Rat)=1:=rfl;rw[e1]at e;grind
   exact fu c0 this
 have h2:2<=H.length:=by
  have:=Fh.mpr hne;by_cases q:2<=H.length
  ·exact q
  ·exfalso;obtain⟨c,rfl⟩:=iN (by omega) hne;rw[iE]at h;exact fu (ht 0 rfl) h
 have hq:(bh H [-n,1]).length=H.length+1-2:=j3 sne;refine⟨aS H [-n,1],bh H [-n,1],dne,Cz sne ht str,λz=>?_,by omega,λk=>?_⟩
 ·rw[z]at hq;simp at hq;omega
 ·rw[cW sne,hR,b6,FT]
theorem rN{H H1:List Int}{c n:Int}(h:∀k,c*cf H k=ak H1 [-n,1] k)(x:Rat):(c:Rat)*pv H x=(x-(n:Rat))*pv H1 x/\(c:Rat)*pv (slopeL H) x=pv H1 x+(x-(n:Rat))*pv (slopeL H1) x:=by
 have s0:pv [-n,1] x=x-(n:Rat):=by show((-n:Int):Rat)+x*(((1:Int):Rat)+x*0)=_;rw[G3];show -(n:Rat)+x*(1+x*0)=_;grind
 have s1:pv (slopeL [-n,1]) x=1:=by show((((0:Nat):Int)+1)*1:Int)+x*0=(1:Rat);grind
 have e1:=eY x H1 [-n,1] (scL c H) λk=>by rw[aD,h]
 rw[cC (a:=H) (u:=c) _ (aD _ _),s0]at e1;have e2:=sx H1 [-n,1] x;rw[s0,s1]at e2
 have e3:=cC (a:=slopeL H) (c:=slopeL (ac H1 [-n,1])) (u:=c) x λk=>by rw[bH,bH,ap,<- h];grind
 rw[e3]at e2;exact⟨by rw[e1];grind,by rw[e2];grind⟩
theorem rz{n:Int}{g R:Rat->Rat}(ng:Nice g)(nR:Nice R)(hg:g (n:Rat)≠0):∀(m:Nat) (H:List Int),H.length<=m->Tr H->H≠[]->∀k:Rat,0<k->(∀x,g x*(k*pv H x+(x-(n:Rat))*pv (slopeL H) x)=R x*((x-(n:Rat))*pv H x))->False
 |0,H,hl,_,hne,_,_,_=>hne (GS (Nat.le_zero.mp hl))
 |m+1,H,hl,ht,hne,k,hk,h=>by
  have h0:=h (n:Rat);have e0:(n:Rat)-(n:Rat)=0:=by grind
  rw[e0]at h0
  have hz:pv H (n:Rat)=0:=by
   have p:g (n:Rat)*(k*pv H (n:Rat))=0:=by grind
   rcases GF.mp p with q |q
   ·exact absurd q hg
   ·rcases GF.mp q with q |q
    ·exact absurd q (by grind)
    ·exact q
  obtain⟨c,H1,hc,ht1,hne1,hl1,e⟩:=rO ht hne hz;have hcr:=fu hc;have nd:Nice λx=>x-(n:Rat):=nD nice_id (dE _)
  have nf:Nice λx=>g x*((k+1)*pv H1 x+(x-(n:Rat))*pv (slopeL H1) x)-R x*((x-(n:Rat))*pv H1 x) :=
   nD (ng.mul (((dE _).mul (cq _)).add (nd.mul (cq _)))) (nR.mul (nd.mul (cq _)))
  have beside:∀x,x≠(n:Rat)->g x*((k+1)*pv H1 x+(x-(n:Rat))*pv (slopeL H1) x)-R x*((x-(n:Rat))*pv H1 x)=0:=λx hx=>by
   obtain⟨a1,a2⟩:=rN e x;have hh:=h x
   have p:(x-(n:Rat))*(g x*((k+1)*pv H1 x+(x-(n:Rat))*pv (slopeL H1) x)-R x*((x-(n:Rat))*pv H1 x))=0:=by
    have b1:(c:Rat)*(g x*(k*pv H x+(x-(n:Rat))*pv (slopeL H) x))=g x*(k*((c:Rat)*pv H x)+(x-(n:Rat))*((c:Rat)*pv (slopeL H) x)):=by grind
    have b2:(c:Rat)*(R x*((x-(n:Rat))*pv H x))=R x*((x-(n:Rat))*((c:Rat)*pv H x)):=by grind
    rw[hh,b2,a1,a2]at b1;generalize x-(n:Rat)=d at *
    grind
   rcases GF.mp p with q |q
   ·exact absurd (show x=(n:Rat) by grind) hx
   ·exact q
  have at0:=Az nf beside;refine rz ng nR hg m H1 (by omega) ht1 hne1 (k+1) (by grind) λx=>?_
  by_cases hx:x=(n:Rat)
  ·subst hx;have:∀u v:Rat,u-v=0->u=v:=λu v q=>by grind
   exact this _ _ at0
  ·have:∀u v:Rat,u-v=0->u=v:=λu v q=>by grind
   exact this _ _ (beside x hx)
theorem xA{G H Q:List Int}{c n:Int}(ht:Tr H)(hne:H≠[])(hc:c≠0)(h:∀k,c*cf (slopeL (ac G H)) k=ak Q H k)(hz:pv H (n:Rat)=0):pv G (n:Rat)=0:=by
 by_cases hG:pv G (n:Rat)=0
 ·exact hG
 ·exfalso;obtain⟨d,H1,hd,ht1,hne1,hl1,e⟩:=rO ht hne hz;have hcr:=fu hc;refine rz (n:=n) (g:=λx=>(c:Rat)*pv G x) (R:=λx=>pv Q x-(c:Rat)*pv (slopeL G) x) ((dE _).mul (cq _)) (nD (cq _) ((dE _).mul (cq _))) ?_ _ H1 (Fg _) ht1 hne1 1 (by decide) λx=>?_
  ·intro z;rcases GF.mp z with q |q
   ·exact hcr q
   ·exact hG q
  ·obtain⟨a1,a2⟩:=rN e x;have e1:=eY x Q H (scL c (slopeL (ac G H))) λk=>by rw[aD,h]
   rw[cC (a:=slopeL (ac G H)) (u:=c) _ (aD _ _),sx]at e1;have b1:(d:Rat)*((c:Rat)*(pv (slopeL G) x*pv H x+pv G x*pv (slopeL H) x))=(c:Rat)*(pv (slopeL G) x*((d:Rat)*pv H x)+pv G x*((d:Rat)*pv (slopeL H) x)):=by grind
   have b2:(d:Rat)*(pv Q x*pv H x)=pv Q x*((d:Rat)*pv H x):=by grind
   rw[e1,b2,a1,a2]at b1;show(c:Rat)*pv G x*(1*pv H1 x+(x-(n:Rat))*pv (slopeL H1) x)=(pv Q x-(c:Rat)*pv (slopeL G) x)*((x-(n:Rat))*pv H1 x);generalize x-(n:Rat)=t at *
   grind
theorem BT{F G H Q:List Int}{c:Int}(h6:F.length<=6)(hb:∀v∈F,-50<=v/\v<=50)(h5:G.length<=5)(e:F=ac G H)(ht:Tr H)(hne:H≠[])(hc:c≠0)(h:∀k,c*cf (slopeL F) k=ak Q H k):∀v∈G,-925<=v/\v<=925:=by
 subst e
 have z:∀n:Int,iv n H=0->iv n G=0:=λn q=>by
  have q':pv H (n:Rat)=0:=by rw[<- g6,q];rfl
  have:=xA ht hne hc h q';rw[<- g6]at this;exact Hc.mp (by rw[this];rfl)
 have w:=Bn h6 hb;have m:=λn:Int=>Bm n (c:=ac G H) (ap G H)
 exact BX h5 (iO (m 0) (z 0) w.1 (by decide)) (iO (m 1) (z 1) w.2.1 (by decide)) (iO (m (-1)) (z (-1)) w.2.2.1 (by decide)) (iO (m 2) (z 2) w.2.2.2.1 (by decide)) (iO (m (-2)) (z (-2)) w.2.2.2.2 (by decide))
theorem jA(a b:Rat):∃R:Rat,0<=R/\∀z,a<=z->z<=b->Bd R z:=by
 obtain⟨u,u0,u1⟩:=iS a;obtain⟨v,v0,v1⟩:=iS b
 exact⟨u+v,by grind,λz h1 h2=>by
  obtain⟨p1,p2⟩:=u1;obtain⟨p3,p4⟩:=v1
  constructor<;>grind⟩
theorem ki{C:Rat->Rat->Prop}{a b:Rat}(hab:a<b)(hadd:∀x y z,a<=x->x<y->y<z->z<=b->C x y->C y z->C x z){δ:Rat}(hδ:0<δ)(h:∀x y,a<=x->y<=b->x<y->y-x<=δ->C x y):C a b:=by
 obtain⟨n,hn⟩:=kU hδ (b-a)
 exact kj (C:=λx y=>a<=x->y<=b->C x y) (λx y z h1 h2 c1 c2 g1 g2=>hadd x y z g1 h1 h2 g2 (c1 g1 (by grind)) (c2 (by grind) g2)) hδ (a:=a) (b:=b)
  (λx y hx hy hxy hd _ _=>h x y hx hy hxy hd) n a b FS FS hab hn FS FS
theorem vq(f:Rat->Rat)(x y:Rat):0<=chg f x y/\chg f x y<=1:=by unfold chg;split<;>omega
theorem CP{F0 F1:List Int}{r:List (List Int)}(h:SRow (F0::F1::r)){γ:Rat}(hγ:0<γ)(hd:∀x,pv (slopeL F0) x=γ*pv F1 x){a b:Rat}(hab:a<b):vrs (F0::F1::r) b<=vrs (F0::F1::r) a:=by
 obtain⟨R,hR,hB⟩:=jA a b;obtain⟨δ,hδ,hp⟩:=i9 h hγ hd hR;refine ki (C:=λx y=>vrs (F0::F1::r) y<=vrs (F0::F1::r) x) hab (λx y z _ _ _ _ h1 h2=>Int.le_trans h2 h1) hδ λx y hx hy hxy hyd=>?_
 have:=hp x y (hB x hx (by grind)) (hB y (by grind) hy) hxy hyd;have:=(vq (pv F0) x y).1;show _<=_;omega
theorem CN{F0 F1:List Int}{r:List (List Int)}(h:SRow (F0::F1::r)){γ:Rat}(hγ:0<γ)(hd:∀x,pv (slopeL F0) x=γ*pv F1 x){a b:Rat}(hab:a<b)
 (hs:∀x,a<=x->x<=b->sgR (pv F0 x)=sgR (pv F0 a)):vrs (F0::F1::r) b=vrs (F0::F1::r) a:=by
 obtain⟨R,hR,hB⟩:=jA a b;obtain⟨δ,hδ,hp⟩:=i9 h hγ hd hR;refine ki (C:=λx y=>vrs (F0::F1::r) y=vrs (F0::F1::r) x) hab (λx y z _ _ _ _ h1 h2=>h2.trans h1) hδ λx y hx hy hxy hyd=>?_
 have:=hp x y (hB x hx (by grind)) (hB y (by grind) hy) hxy hyd
 have e:chg (pv F0) x y=0:=by unfold chg;rw[if_neg λz=>z.2 (by rw[hs y (by grind) hy,hs x hx (by grind)])]
 show _=_;omega
theorem vn{F0 F1:List Int}{r:List (List Int)}(h:SRow (F0::F1::r)){γ:Rat}(hγ:0<γ)(hd:∀x,pv (slopeL F0) x=γ*pv F1 x){a b:Rat}(hab:a<b)
 (hm:(∀x y,a<=x->x<y->y<=b->pv F0 x<=pv F0 y)\/(∀x y,a<=x->x<y->y<=b->pv F0 y<=pv F0 x)):vrs (F0::F1::r) a<=vrs (F0::F1::r) b+1:=by
 obtain⟨R,hR,hB⟩:=jA a b;obtain⟨δ,hδ,hp⟩:=i9 h hγ hd hR
 have key:vrs (F0::F1::r) a-vrs (F0::F1::r) b=chg (pv F0) a b:=by
  refine ki (C:=λx y=>vrs (F0::F1::r) x-vrs (F0::F1::r) y=chg (pv F0) x y) hab (λx y z g1 g2 g3 g4 h1 h2=>?_) hδ λx y hx hy hxy hyd=>hp x y (hB x hx (by grind)) (hB y (by grind) hy) hxy hyd
  have e:chg (pv F0) x z=chg (pv F0) x y+chg (pv F0) y z:=by
   have hy:=λq=>hm.elim (λm=>Or.inl (m x y g1 g2 q)) (λm=>Or.inr (m x y g1 g2 q))
   rcases hm with m |m
   ·have m1:=m x y g1 g2 (by grind);have m2:=m y z (by grind) g3 g4;unfold chg;rcases aZ (pv F0 x)with⟨p1,p2⟩ |⟨p1,p2⟩ |⟨p1,p2⟩<;>rcases aZ (pv F0 y)with⟨q1,q2⟩ |⟨q1,q2⟩ |⟨q1,q2⟩<;>rcases aZ (pv F0 z)with⟨s1,s2⟩ |⟨s1,s2⟩ |⟨s1,s2⟩<;>rw[p2,q2,s2]<;>first |rfl | (exfalso;grind)
   ·have m1:=m x y g1 g2 (by grind);have m2:=m y z (by grind) g3 g4;unfold chg;rcases aZ (pv F0 x)with⟨p1,p2⟩ |⟨p1,p2⟩ |⟨p1,p2⟩<;>rcases aZ (pv F0 y)with⟨q1,q2⟩ |⟨q1,q2⟩ |⟨q1,q2⟩<;>rcases aZ (pv F0 z)with⟨s1,s2⟩ |⟨s1,s2⟩ |⟨s1,s2⟩<;>rw[p2,q2,s2]<;>first |rfl | (exfalso;grind)
  show vrs _ x-vrs _ z=_;rw[e,<- h1,<- h2];omega
 have:=(vq (pv F0) a b).2;omega
theorem rf(l:List Int){a b κ:Rat}(hab:a<b)(hκ:0<κ)(h:∀x,a<=x->x<=b->κ<=pv (slopeL l) x):pv l a<=pv l b:=by
 obtain⟨R,hR,hB⟩:=jA a b;obtain⟨M,m0,m1⟩:=mY l R hR;have hT:0<M+1:=by grind
 refine ki (C:=λx y=>pv l x<=pv l y) hab (λx y z _ _ _ _ h1 h2=>G0 h1 h2) (cQ hκ hT) λx y hx hy hxy hyd=>?_
 have h1:=(m1 x y (hB x hx (by grind)) (hB y (by grind) hy) (by grind)).1
 have h2:(y-x)*(M+1)<=κ:=by
  have:=FP hyd (Fn hT)
  rwa [FG (by grind)]at this
 have hyx:0<y-x:=by grind
 have h3:=FH h2 (Fn hyx);have h4:=FH (h x hx (by grind)) (Fn hyx);have h5:=Gn hyx hyx;show pv l x<=pv l y;generalize y-x=t at *
 grind
theorem xn(l:List Int){a b κ:Rat}(hab:a<b)(hκ:0<κ)(h:∀x,a<=x->x<=b->pv (slopeL l) x <= -κ):pv l b<=pv l a:=by
 have e:∀x,pv (scL (-1) l) x = -pv l x:=λx=>by rw[cC (a:=l) (u := -1) x (aD _ _)];show((-1:Int):Rat)*_=_;have:((-1:Int):Rat) = -1:=rfl;rw[this];grind
 have e':∀x,pv (slopeL (scL (-1) l)) x = -pv (slopeL l) x:=λx=>by rw[cC (a:=slopeL l) (u := -1) x (λk=>by rw[bH,bH,aD];grind)];have:((-1:Int):Rat) = -1:=rfl;rw[this];grind
 have:=rf (scL (-1) l) hab hκ λx hx hy=>by rw[e'];have:=h x hx hy;grind
 rw[e,e]at this;grind
theorem sJ{M B:Rat}(hM:1<=M)(hB:0<=B):∀(l:List Int) {x:Rat},(∀c∈l,Bd B (c:Rat))->Bd M x->Bd (B*(l.length:Rat)*M^l.length) (pv l x)
 | [],x,_,_=>by
  show Bd _ (0:Rat);have:B*(([]:List Int).length:Rat)*M^([]:List Int).length=0:=by show B*((0:Nat):Rat)*_=0;have:((0:Nat):Rat)=0:=rfl;rw[this];grind
  rw[this];constructor<;>grind
 |c::l,x,hl,hx=>by
  have ih:=sJ hM hB l (λv hv=>hl v (Fi _ hv)) hx;have:=(hl c Fl).add (hx.mul ih);refine Bd.mono this ?_;rw[Ff,FV];have e:(((l.length+1:Nat)):Rat)=(l.length:Rat)+1:=by rw[Hu];rfl
  rw[e]
  have p:(1:Rat)<=M^l.length*M:=by
   have:∀n:Nat,(1:Rat)<=M^n:=λn=>by
    induction n with
    |zero=>rw[Gw];grind
    |succ n ih=>rw[FV];have:=FH hM (show(0:Rat)<=M^n by grind);grind
   have:=this (l.length+1)
   rwa [FV]at this
  have:=FH p hB;generalize M^l.length=q at *
  generalize (l.length:Rat)=n at *
  grind
theorem iF{M:Rat}(hM:1<=M)(n:Nat):(1:Rat)<=M^n:=by
 induction n with
 |zero=>rw[Gw];grind
 |succ n ih=>rw[FV];have:=FH hM (show(0:Rat)<=M^n by grind);grind
theorem mZ{M B:Rat}(hM:1<=M)(hB:0<=B):∀(l:List Int) {x y:Rat},(∀c∈l,Bd B (c:Rat))->Bd M x->Bd M y->x<=y->Bd (B*((l.length:Rat)*(l.length:Rat))*M^l.length*(y-x)) (pv l y-pv l x)
 | [],x,y,_,_,_,_=>by
  have e:pv [] y-pv [] x=0:=by show(0:Rat)-0=0;grind
  rw[e]
  have:B*((([]:List Int).length:Rat)*(([]:List Int).length:Rat))*M^([]:List Int).length*(y-x)=0:=by show B*(((0:Nat):Rat)*((0:Nat):Rat))*_*_=0;have:((0:Nat):Rat)=0:=rfl;rw[this];grind
  rw[this];constructor<;>grind
 |c::l,x,y,hl,hx,hy,hxy=>by
  have ih:=mZ hM hB l (λv hv=>hl v (Fi _ hv)) hx hy hxy;have ib:=sJ hM hB l (λv hv=>hl v (Fi _ hv)) hy;have hz:Bd (y-x) (y-x):=⟨by grind,by grind⟩;have:=(hz.mul ib).add (hx.mul ih)
  have e2:(y-x)*pv l y+x*(pv l y-pv l x)=pv (c::l) y-pv (c::l) x:=by show _=((c:Rat)+y*pv l y)-((c:Rat)+x*pv l x);grind
  rw[e2]at this;refine Bd.mono this ?_;rw[Ff,FV];have e:(((l.length+1:Nat)):Rat)=(l.length:Rat)+1:=by rw[Hu];rfl
  rw[e];have p:=iF hM l.length;have n0:(0:Rat)<=(l.length:Rat):=by have:=Ht.mpr (Fj l.length);exact this
  have d0:0<=y-x:=by grind
  generalize M^l.length=q at *
  generalize (l.length:Rat)=n at *
  generalize y-x=d at *
  have q0:0<=B*q*d:=Fx (Fx hB (by grind)) d0;have q1:0<=B*q*d*n:=Fx q0 n0;have q2:B*q*d*n<=B*q*d*n*M:=by have:=FH hM q1;grind
  have q3:0<=B*q*d*M:=Fx q0 (by grind);have q4:0<=B*q*d*M*n:=Fx q3 n0;grind
theorem ub{l:List Int}{bt:Nat}(h:∀j,(cf l j).natAbs<=2^bt):∀c∈l,Bd ((2^bt:Nat):Rat) (c:Rat):=λc hc=>by
 obtain⟨i,hi,e⟩:=List.mem_iff_getElem.mp hc;have e':cf l i=c:=by unfold cf;rw[List.getD_eq_getElem?_getD,List.getElem?_eq_getElem hi,e];rfl
 have:=h i;rw[e']at this;have h1:c<=((2^bt:Nat):Int):=by omega
 have h2 : -((2^bt:Nat):Int)<=c:=by omega
 have k:(((2^bt:Nat):Int):Rat)=((2^bt:Nat):Rat):=HW _;have g1:=GG.mpr h1;have g2:=GG.mpr h2;rw[G3]at g2;rw[k]at g1 g2;exact⟨g2,g1⟩
theorem stay{f:Rat->Rat}{a b L:Rat}(hab:a<b)(hL:∀x,a<=x->x<=b->Bd (L*(b-a)) (f x-f a))(h:¬Bd (L*(b-a)) (f a)):∃κ:Rat,0<κ/\((∀x,a<=x->x<=b->κ<=f x)\/(∀x,a<=x->x<=b->f x <= -κ)):=by
 by_cases p:f a<=L*(b-a)
 ·have q:f a < -(L*(b-a)):=by refine Rat.not_le.mp λq=>h ⟨q,p⟩
  exact⟨-(L*(b-a))-f a,by grind,.inr λx h1 h2=>by have:=(hL x h1 h2).2;grind⟩
 ·have p:=Rat.not_le.mp p;exact⟨f a-L*(b-a),by grind,.inl λx h1 h2=>by have:=(hL x h1 h2).1;grind⟩
theorem xG{u v κ:Rat}(hκ:0<κ)(h:(κ<=u/\κ<=v)\/(u <= -κ/\v <= -κ)):sgR u=sgR v:=by rcases aZ u with⟨a1,a2⟩ |⟨a1,a2⟩ |⟨a1,a2⟩<;>rcases aZ v with⟨b1,b2⟩ |⟨b1,b2⟩ |⟨b1,b2⟩<;>rw[a2,b2]<;>(exfalso;grind)
theorem sS{M:Rat}(hM:1<=M){m n:Nat}(h:m<=n):M^m<=M^n:=by obtain⟨d,rfl⟩:=Nat.exists_eq_add_of_le h;rw[jy];have:=FH (iF hM d) (show(0:Rat)<=M^m by have:=iF hM m;grind);grind
theorem tM{F0 F1:List Int}{r:List (List Int)}(h:SRow (F0::F1::r)){γ:Rat}(hγ:0<γ)(hd:∀x,pv (slopeL F0) x=γ*pv F1 x){G:List Int}{c:Rat}(hc:c≠0)(hG:∀x,pv F0 x=c*pv G x){a b M:Rat}(hab:a<b)(hM:1<=M)(ha:Bd M a)(hb:Bd M b){N bt:Nat}(h3:3<=G.length)(hN:N+1=(G.length-2)+(G.length-1))
 (bp:∀j,(cf G j).natAbs<=2^bt) (bq:∀j,(cf (slopeL G) j).natAbs<=2^bt) (hR:bj G (slopeL G)≠0)
 (hw:(((G.length-2:Nat):Rat)*(M^(G.length-3)*(((2^bt:Nat):Rat)*((G.length:Rat)*(G.length:Rat))*M^G.length*(b-a)))+((G.length-1:Nat):Rat)*(M^(G.length-2)*(((2^bt:Nat):Rat)*((G.length:Rat)*(G.length:Rat))*M^G.length*(b-a))))*(fc N*2^(bt*N):Nat)<1) :
 vrs (F0::F1::r) a<=vrs (F0::F1::r) b+1:=by
 have hl:=dg G;have ne0:G≠[]:=λz=>by rw[z]at h3;simp at h3
 have ne1:slopeL G≠[]:=λz=>by rw[z]at hl;simp at hl;omega
 have B0:(0:Rat)<=((2^bt:Nat):Rat):=by have:=Ht.mpr (Fj (2^bt));exact this
 have hx:∀x,a<=x->x<=b->Bd M x:=λx h1 h2=>by obtain⟨p1,p2⟩:=ha;obtain⟨p3,p4⟩:=hb;constructor<;>grind
 have up:∀{k e x:Rat},0<=k->a<=x->x<=b->Bd (k*(x-a)) e->Bd (k*(b-a)) e:=λ{k e x} hk h1 h2 hbd=>hbd.mono (FH (by grind) hk)
 have n0:∀n:Nat,(0:Rat)<=(n:Rat):=λn=>by have:=Ht.mpr (Fj n);exact this
 have L0:(0:Rat)<=((2^bt:Nat):Rat)*((G.length:Rat)*(G.length:Rat))*M^G.length:=Fx (Fx B0 (Fx (n0 _) (n0 _))) (by have:=iF hM G.length;grind)
 have l0:∀x,a<=x->x<=b->Bd (((2^bt:Nat):Rat)*((G.length:Rat)*(G.length:Rat))*M^G.length*(b-a)) (pv G x-pv G a):=λx h1 h2 =>up L0 h1 h2 (mZ hM B0 G (ub bp) ha (hx x h1 h2) h1)
 have l1:∀x,a<=x->x<=b->Bd (((2^bt:Nat):Rat)*((G.length:Rat)*(G.length:Rat))*M^G.length*(b-a)) (pv (slopeL G) x-pv (slopeL G) a):=λx h1 h2=>by
  refine up L0 h1 h2 ((mZ hM B0 (slopeL G) (ub bq) ha (hx x h1 h2) h1).mono ?_);refine FP ?_ (by grind);have le:(slopeL G).length<=G.length:=by omega
  have c1:((slopeL G).length:Rat)<=(G.length:Rat):=Ht.mpr le;have c2:=FH c1 (n0 (slopeL G).length);have c3:=FP c1 (n0 G.length);have c4:=FH (G0 c2 c3) B0;have c5:=FP c4 (show(0:Rat)<=M^(slopeL G).length by have:=iF hM (slopeL G).length;grind);have c6:=FH (sS hM le) (Fx B0 (Fx (n0 G.length) (n0 G.length)));exact G0 c5 c6
 by_cases s0:Bd (((2^bt:Nat):Rat)*((G.length:Rat)*(G.length:Rat))*M^G.length*(b-a)) (pv G a)
 ·by_cases s1:Bd (((2^bt:Nat):Rat)*((G.length:Rat)*(G.length:Rat))*M^G.length*(b-a)) (pv (slopeL G) a)
  ·exfalso;have:=Dg (N:=N) ne0 ne1 (by rw[hl];omega) bp bq hR hM ha s0 s1;rw[hl,show G.length-1-1=G.length-2 by omega,show G.length-1-2=G.length-3 by omega]at this;exact Gp.mpr this hw
  ·obtain⟨κ,hκ,hs⟩:=stay hab l1 s1
   have mono:(∀x y,a<=x->x<y->y<=b->pv G x<=pv G y)\/(∀x y,a<=x->x<y->y<=b->pv G y<=pv G x):=by
    rcases hs with hs |hs
    ·exact .inl λx y h1 h2 h3=>rf G h2 hκ λz g1 g2=>hs z (by grind) (by grind)
    ·exact .inr λx y h1 h2 h3=>xn G h2 hκ λz g1 g2=>hs z (by grind) (by grind)
   refine vn h hγ hd hab ?_;rcases Go (a:=0) (b:=c)with z |z
   ·rcases mono with m |m
    ·exact .inl λx y h1 h2 h3=>by rw[hG,hG];exact FH (m x y h1 h2 h3) z
    ·exact .inr λx y h1 h2 h3=>by rw[hG,hG];exact FH (m x y h1 h2 h3) z
   ·have z':(0:Rat) <= -c:=by grind
    rcases mono with m |m
    ·exact .inr λx y h1 h2 h3=>by rw[hG,hG];have:=FH (m x y h1 h2 h3) z';grind
    ·exact .inl λx y h1 h2 h3=>by rw[hG,hG];have:=FH (m x y h1 h2 h3) z';grind
 ·obtain⟨κ,hκ,hs⟩:=stay hab l0 s0
  have same:∀x,a<=x->x<=b->sgR (pv F0 x)=sgR (pv F0 a):=λx h1 h2=>by
   have e:=xG hκ (hs.elim (λq=>.inl ⟨q x h1 h2,q a FS (Fn hab)⟩) λq=>.inr ⟨q x h1 h2,q a FS (Fn hab)⟩);rw[hG,hG];rcases(show c<0\/0<c by grind)with z |z
   ·have n:∀v:Rat,sgR (c*v) = -sgR v:=λv=>by have:=iq (p := -c) (v := -v) (by grind);rw[show -c * -v=c*v by grind]at this;rw[this];rcases aZ v with⟨p1,p2⟩ |⟨p1,p2⟩ |⟨p1,p2⟩<;>rcases aZ (-v)with⟨q1,q2⟩ |⟨q1,q2⟩ |⟨q1,q2⟩<;>rw[p2,q2]<;>first |rfl | (exfalso;grind)
    rw[n,n,e]
   ·rw[iq z,iq z,e]
  have:=CN h hγ hd hab same;omega
theorem AF{F0 F1:List Int}{r:List (List Int)}(h:SRow (F0::F1::r)){γ:Rat}(hγ:0<γ)(hd:∀x,pv (slopeL F0) x=γ*pv F1 x){a b:Rat}(hab:a<b)(h2:F0.length=2):vrs (F0::F1::r) a<=vrs (F0::F1::r) b+1:=by
 refine vn h hγ hd hab ?_
 match F0,h2 with
 | [c,d],_ =>
  have e:∀x,pv [c,d] x=(c:Rat)+x*(d:Rat):=λx=>by show(c:Rat)+x*((d:Rat)+x*0)=_;grind
  rcases Go (a:=0) (b:=(d:Rat))with z |z
  ·exact .inl λx y _ hxy _=>by rw[e,e];have:=FP (Fn hxy) z;grind
  ·exact .inr λx y _ hxy _=>by rw[e,e];have:=FP (Fn hxy) (show(0:Rat) <= -(d:Rat) by grind);grind
theorem AH{F0 F1:List Int}{r:List (List Int)}(h:SRow (F0::F1::r)){γ:Rat}(hγ:0<γ)(hd:∀x,pv (slopeL F0) x=γ*pv F1 x){G:List Int}{c:Rat}(hc:c≠0)(hG:∀x,pv F0 x=c*pv G x){a b:Rat}(hab:a<b)(ha:Bd (2^10) a)(hb:Bd (2^10) b)(h3:3<=G.length)(h5:G.length<=5)
 (bp:∀j,(cf G j).natAbs<=2^12) (bq:∀j,(cf (slopeL G) j).natAbs<=2^12) (hR:bj G (slopeL G)≠0) (hw:(b-a)*2^181<=1):vrs (F0::F1::r) a<=vrs (F0::F1::r) b+1:=by
 have wp:0<b-a:=by grind
 refine tM (N:=2*G.length-4) (bt:=12) (M:=2^10) h hγ hd hc hG hab (by decide +kernel) ha hb h3 (by omega) bp bq hR ?_;generalize b-a=w at *
 have h0:G.length=3\/G.length=4\/G.length=5:=by omega
 rcases h0 with e |e |e<;>rw[e]<;>clear e
 ·have k:((((3-2:Nat):Rat)*((2^10:Rat)^(3-3)*(((2^12:Nat):Rat)*(((3:Nat):Rat)*((3:Nat):Rat))*(2^10:Rat)^3*1))+((3-1:Nat):Rat)*((2^10:Rat)^(3-2)*(((2^12:Nat):Rat)*(((3:Nat):Rat)*((3:Nat):Rat))*(2^10:Rat)^3*1)))*((fc (2*3-4)*2^(12*(2*3-4)):Nat):Rat))<2^181:=by decide +kernel
  have:=Hh k wp;grind
 ·have k:((((4-2:Nat):Rat)*((2^10:Rat)^(4-3)*(((2^12:Nat):Rat)*(((4:Nat):Rat)*((4:Nat):Rat))*(2^10:Rat)^4*1))+((4-1:Nat):Rat)*((2^10:Rat)^(4-2)*(((2^12:Nat):Rat)*(((4:Nat):Rat)*((4:Nat):Rat))*(2^10:Rat)^4*1)))*((fc (2*4-4)*2^(12*(2*4-4)):Nat):Rat))<2^181:=by decide +kernel
  have:=Hh k wp;grind
 ·have k:((((5-2:Nat):Rat)*((2^10:Rat)^(5-3)*(((2^12:Nat):Rat)*(((5:Nat):Rat)*((5:Nat):Rat))*(2^10:Rat)^5*1))+((5-1:Nat):Rat)*((2^10:Rat)^(5-2)*(((2^12:Nat):Rat)*(((5:Nat):Rat)*((5:Nat):Rat))*(2^10:Rat)^5*1)))*((fc (2*5-4)*2^(12*(2*5-4)):Nat):Rat))<2^181:=by decide +kernel
  have:=Hh k wp;grind
theorem AG{F0 F1:List Int}{r:List (List Int)}(h:SRow (F0::F1::r)){γ:Rat}(hγ:0<γ)(hd:∀x,pv (slopeL F0) x=γ*pv F1 x){G:List Int}{c:Rat}(hc:c≠0)(hG:∀x,pv F0 x=c*pv G x){a b:Rat}(hab:a<b)(ha:Bd (2^6) a)(hb:Bd (2^6) b)(h6:G.length=6)
 (bp:∀j,(cf G j).natAbs<=2^8) (bq:∀j,(cf (slopeL G) j).natAbs<=2^8) (hR:bj G (slopeL G)≠0) (hw:(b-a)*2^181<=1):vrs (F0::F1::r) a<=vrs (F0::F1::r) b+1:=by
 have wp:0<b-a:=by grind
 refine tM (N:=2*G.length-4) (bt:=8) (M:=2^6) h hγ hd hc hG hab (by decide +kernel) ha hb (by omega) (by omega) bp bq hR ?_;generalize b-a=w at *
 rw[h6];have k:((((6-2:Nat):Rat)*((2^6:Rat)^(6-3)*(((2^8:Nat):Rat)*(((6:Nat):Rat)*((6:Nat):Rat))*(2^6:Rat)^6*1))+((6-1:Nat):Rat)*((2^6:Rat)^(6-2)*(((2^8:Nat):Rat)*(((6:Nat):Rat)*((6:Nat):Rat))*(2^6:Rat)^6*1)))*((fc (2*6-4)*2^(8*(2*6-4)):Nat):Rat))<2^181:=by decide +kernel
 have:=Hh k wp;grind
theorem iK{a a' b:List Int}{c:Int}{n:Nat}(h:∀k,cf a' k=c*cf a k):ak a' b n=c*ak a b n:=by
 have:=cD (a:=a) (b:=a) (c:=a') (q:=b) (x:=c) (y:=0) (n:=n) λk=>by rw[h k];omega
 rw[this];omega
theorem jD(l:List Int):∃e:Int,e*e=1/\∀n,cf (ae l) n=e*cf (aw l) n:=by
 unfold aw b7;split
 ·exact⟨-1,by decide,λn=>by
   have e:(ae l).map (λx => -x)=scL (-1) (ae l):=by unfold scL;exact FE λx _=>by omega
   rw[e,aD];omega⟩
 ·exact⟨1,by decide,λn=>by omega⟩
theorem iG{l:List Int}(h:Tr l)(hne:l≠[]):∃s:Int,s≠0/\∀n,cf l n=s*cf (aw l) n:=by obtain⟨g,_,_,e⟩:=cy h hne;obtain⟨e1,h1,h2⟩:=jD l;refine⟨(am l:Int)*e1,Ft (by omega) (λz=>by rw[z]at h1;simp at h1),λn=>?_⟩;rw[e n,h2 n,FM]
theorem x4{a b:List Int}(ha:Tr a)(hb:Tr b)(h:∀n,cf a n=cf b n):a=b:=by
 have hl:a.length=b.length:=by
  rcases Nat.lt_trichotomy a.length b.length with z |z |z
  ·exfalso;have:=hb (b.length-1) (by omega);rw[<- h]at this;exact this (by unfold cf;rw[List.getD_eq_getElem?_getD,List.getElem?_eq_none (by omega)];rfl)
  ·exact z
  ·exfalso;have:=ha (a.length-1) (by omega);rw[h]at this;exact this (by unfold cf;rw[List.getD_eq_getElem?_getD,List.getElem?_eq_none (by omega)];rfl)
 refine List.ext_getElem hl λi h1 h2=>?_
 have:=h i;unfold cf at this
 rw[List.getD_eq_getElem?_getD,List.getD_eq_getElem?_getD,List.getElem?_eq_getElem h1,List.getElem?_eq_getElem h2]at this;exact this
theorem BS{F C Q:List Int}{k:Int}(tF:Tr F)(nF:F≠[])(tC:Tr C)(nC:C≠[])(tQ:Tr Q)(nQ:Q≠[])(hk:k≠0)(e:∀n,k*cf F n=ak Q C n)(hs:Dv C (slopeL F)) :
 ∃(H:List Int) (c:Int) (Q':List Int),F=ac (ae Q) H/\Tr H/\H≠[]/\c≠0/\∀n,c*cf (slopeL F) n=ak Q' H n:=by
 obtain⟨sF,zF,eF⟩:=iG tF nF;obtain⟨sC,zC,eC⟩:=iG tC nC;obtain⟨sQ,zQ,eQ⟩:=iG tQ nQ;obtain⟨eg,g1,g2⟩:=jD Q;have pm:Pln (ac (aw Q) (aw C)):=(dD tQ nQ).mul (dD tC nC)
 have key:aw F=ac (aw Q) (aw C):=by
  rw[nh (a:=F) (b:=ac (aw Q) (aw C)) (x:=k) (y:=sQ*sC) hk (Ft zQ zC) tF pm.tr λn=>by rw[e n,iK eQ,cU eC,ap,FM],pm.plain]
 have ge:eg≠0:=λz=>by rw[z]at g1;simp at g1
 have zs:sF*eg≠0:=Ft zF ge;have tH:Tr (scL (sF*eg) (aw C)):=cP zs (dD tC nC).tr;obtain⟨c,q,hc,hq⟩:=hs;refine⟨scL (sF*eg) (aw C),sF*eg*c,scL sC q,?_,tH,?_,Ft zs hc,λn=>?_⟩
 ·refine x4 tF (fJ (c8 tQ) tH) λn=>?_
  rw[ap,cU (aD (sF*eg) (aw C)),iK g2,eF n,key,ap];generalize ak (aw Q) (aw C) n=v;have:sF*eg*(eg*v)=sF*(eg*eg)*v:=by grind
  rw[this,g1];grind
 ·intro z;have:=aP (sF*eg) (aw C);rw[z]at this;exact(dD tC nC).ne (GS this.symm)
 ·have h1:ak (scL sC q) (scL (sF*eg) (aw C)) n=sC*(sF*eg*ak q (aw C) n):=by rw[iK (aD sC q),cU (aD (sF*eg) (aw C))]
  have h2:=hq n;rw[cU eC]at h2;rw[h1];have:sF*eg*c*cf (slopeL F) n=sF*eg*(c*cf (slopeL F) n):=by grind
  rw[this,h2];grind
theorem BR{F C Q:List Int}{k:Int}(tF:Tr F)(nF:F≠[])(h6:F.length<=6)(hb:∀v∈F,-50<=v/\v<=50)(tC:Tr C)(nC:C≠[])(tQ:Tr Q)(nQ:Q≠[])(hk:k≠0)(e:∀n,k*cf F n=ak Q C n)(hs:Dv C (slopeL F))(h5:(ae Q).length<=5) :
 ∀v∈ae Q,-925<=v/\v<=925:=by
 obtain⟨H,c,Q',e1,tH,nH,hc,h⟩:=BS tF nF tC nC tQ nQ hk e hs;exact BT h6 hb h5 e1 tH nH hc h
theorem j2{a b c d:List Int}(h1:Dv a b)(h2:Dv c d):Dv (ac a c) (ac b d):=by
 obtain⟨c1,q1,z1,e1⟩:=h1;obtain⟨c2,q2,z2,e2⟩:=h2;refine⟨c1*c2,ac q1 q2,Ft z1 z2,λn=>?_⟩;have e:ac (ac q1 q2) (ac a c)=ac (ac q1 a) (ac q2 c):=by ac_rfl
 rw[<- ap,e,ap,ap,iK (a:=b) (a':=ac q1 a) (c:=c1) (λk=>by rw[ap,e1]),cU (b:=d) (b':=ac q2 c) (c:=c2) (λk=>by rw[ap,e2]),FM]
theorem uU(q d:List Int):Dv d (ac q d):=⟨1,q,by decide,λn=>by rw[ap];omega⟩
theorem uY{d a b c:List Int}{k:Int}(hk:k≠0)(h:∀n,k*cf c n=cf a n+cf b n)(h1:Dv d a)(h2:Dv d b):Dv d c :=
 Dv.up (f:=k) (q:=[1]) (b:=a) (r:=b) hk (λn=>by rw[h n,cw];omega) h1 h2
theorem yI{F O Q d:List Int}{k:Int}(hk:k≠0)(e:∀n,k*cf F n=ak Q O n)(hall:∀x,Dv x F->Dv x (slopeL F)->Dv x O)(h1:Dv d Q)(h2:Dv d (slopeL Q)){v:Nat}(hv:Dv (pw d v) O):Dv (pw d (v+1)) O:=by
 refine hall _ ?_ ?_
 ·exact Dv.prop_right (x:=k) (y:=1) hk (λn=>by rw[e n,ap];omega) (j2 h1 hv)
 have key:Dv (pw d (v+1)) (ac Q (slopeL O)):=by
  obtain⟨c1,q1,z1,e1⟩:=id hv;obtain⟨c2,q2,z2,e2⟩:=id h1;have p1:Dv (pw d (v+1)) (ac Q (ac (slopeL q1) (pw d v))):=j2 h1 (uU _ _)
  have p2:Dv (pw d (v+1)) (ac Q (ac q1 (slopeL (pw d v)))):=by
   cases v with
   |zero =>have:slopeL (pw d 0)=[]:=rfl;rw[this,dU,dU];exact Dv.nil _
   |succ u =>
    have d2:Dv d (ac q2 (slopeL d)):=by refine Dv.down (f:=c2) (a:=slopeL Q) (b:=d) (q:=slopeL q2) (λn=>?_) h2 (Dv.refl _);have s:=fL q2 d n;rw[bH]at s;rw[bH,ap];rw[ap,<- e2]at s;grind
    have d3:=j2 d2 (uU q1 (pw d (u+1)))
    have e3:ac (ac q2 (slopeL d)) (ac q1 (pw d (u+1)))=ac (ac q2 d) (ac q1 (ac (slopeL d) (pw d u))):=by
     show ac (ac q2 (slopeL d)) (ac q1 (ac d (pw d u)))=_
     ac_rfl
    rw[e3]at d3;refine Dv.prop_right (p:=ac (ac q2 d) (ac q1 (ac (slopeL d) (pw d u)))) (x:=c2) (y:=(u:Int)+1) z2 (λn=>?_) d3;rw[ap,ap,iK (a:=Q) (a':=ac q2 d) (c:=c2) (λk=>by rw[ap,e2]),cU (b:=ac q1 (ac (slopeL d) (pw d u))) (b':=ac q1 (slopeL (pw d (u+1)))) (c:=(u:Int)+1) (λk=>?_)]
    ·grind
    ·rw[ap,ap];exact cU (b:=ac (slopeL d) (pw d u)) (c:=(u:Int)+1) λj=>by rw[kX,ap]
  refine uY (k:=c1) z1 (λn=>?_) p1 p2;rw[ap,ap,ap]
  have s:∀j,c1*cf (slopeL O) j=cf (ac (slopeL q1) (pw d v)) j+cf (ac q1 (slopeL (pw d v))) j:=λj=>by have s:=fL q1 (pw d v) j;rw[bH,ap,<- e1]at s;rw[bH,ap,ap];grind
  have t:=nJ (q:=Q) (n:=n) (c:=scL c1 (slopeL O)) (a:=ac (slopeL q1) (pw d v)) (b:=ac q1 (slopeL (pw d v))) (x:=1) (y:=1) λj=>by rw[aD,s j];omega
  rw[cU (b:=slopeL O) (c:=c1) (aD c1 (slopeL O))]at t;omega
 refine uY (k:=k) hk (a:=ac (slopeL Q) O) (b:=ac Q (slopeL O)) (λn=>?_) (j2 h2 hv) key;have s:=fL Q O n;rw[bH,ap,<- e]at s;rw[bH,ap,ap];grind
theorem pU{d:List Int}(h:Tr d):∀v,Tr (pw d v)
 |0=>(tr_snoc (r:=[])).mpr (by decide)
 |v+1=>fJ h (pU h v)
theorem BV{F O Q:List Int}{k:Int}(hk:k≠0)(tO:Tr O)(nO:O≠[])(e:∀n,k*cf F n=ak Q O n)(hall:∀x,Dv x F->Dv x (slopeL F)->Dv x O):Cop2 Q (slopeL Q):=λd dn dt h1 h2=>by
 rcases GI 1 d.length with z |z
 ·exfalso
  have all:∀v,Dv (pw d v) O:=λv=>by
   induction v with
   |zero=>exact⟨1,O,by decide,λn=>by show 1*cf O n=ak O [1] n;rw[cJ,cw]⟩
   |succ v ih=>exact yI hk e hall h1 h2 ih
  obtain⟨l,ne⟩:=su dn O.length;have:O.length*1<=O.length*(d.length-1):=Gu _ (by omega);exact nO (Dv.short ne (pU dt _) tO (by omega) (all O.length))
 ·exact z
structure FlatP(r:List Int):Prop where
 tr:Tr r
 ne:r≠[]
 l6:r.length<=6
 cop:Cop2 r (slopeL r)
 small:r.length<=5->∀v∈r,-925<=v/\v<=925
 five:r.length=6->∀v∈r,-50<=v/\v<=50
theorem BW{F O Q:List Int}{k:Int}(tF:Tr F)(nF:F≠[])(h6:F.length<=6)(hb:∀v∈F,-50<=v/\v<=50)(hk:k≠0)(tO:Tr O)(nO:O≠[])(tQ:Tr Q)(nQ:Q≠[])(hl:Q.length+O.length=F.length+1)(e:∀n,k*cf F n=ak Q O n)(hs:Dv O (slopeL F))(hall:∀x,Dv x F->Dv x (slopeL F)->Dv x O):FlatP (ae Q):=by
 have lQ:(ae Q).length=Q.length:=by unfold ae;rw[Fc]
 have lO:=Fh.mpr nO;obtain⟨g0,t0,n0,e0⟩:=cy tQ nQ;have cop:=BV hk tO nO e hall;refine⟨t0,n0,by omega,λd dn dt h1 h2=>?_,λh5=>BR tF nF h6 hb tO nO tQ nQ hk e hs h5,λh=>?_⟩
 ·refine cop d dn dt (Dv.prop_right (x:=1) (y:=(am Q:Int)) (by decide) (λn=>by rw[e0 n];omega) h1) ?_;refine Dv.prop_right (x:=1) (y:=(am Q:Int)) (p:=slopeL (ae Q)) (by decide) (λn=>?_) h2;rw[bH,bH,e0 (n+1)];grind
 ·have o1:O.length=1:=by omega
  obtain⟨o,rfl⟩:∃o,O=[o]:=HC.mp o1;have ho:o≠0:=tr_snoc (r:=[]) |>.mp tO
  obtain⟨sQ,zQ,eQ⟩:=iG tQ nQ;obtain⟨sF,zF,eF⟩:=iG tF nF
  have pe:aw Q=aw F:=by
   refine nh (x:=o) (y:=k) ho hk tQ tF λn=>?_
   rw[e n,cJ,cw]
  obtain⟨e1,h1,h2⟩:=jD Q;obtain⟨e2,h3,h4⟩:=jD F;obtain⟨gF,_,_,eG⟩:=cy tF nF;intro v hv;obtain⟨n,hn,rfl⟩:=ua hv;have q:=h2 n;rw[pe]at q;have q2:=h4 n;have q3:=eG n;have nn:n<F.length:=by simp at hl;omega
  have bF:=hb (cf F n) (by rw[ce nn];exact Gs nn)
  have c1:e1=1\/e1 = -1:=by
   rcases Int.lt_trichotomy e1 0 with z |z |z
   ·right;have : -1<=e1:=Int.not_lt.mp λw=>by have:=Int.mul_lt_mul_of_neg_left w (show e1<0 by omega);omega
    omega
   ·rw[z]at h1;simp at h1
   ·left;have:e1<=1:=Int.not_lt.mp λw=>by have:=HZ w (show 0<e1 by omega);omega
    omega
  have c2:e2=1\/e2 = -1:=by
   rcases Int.lt_trichotomy e2 0 with z |z |z
   ·right;have : -1<=e2:=Int.not_lt.mp λw=>by have:=Int.mul_lt_mul_of_neg_left w (show e2<0 by omega);omega
    omega
   ·rw[z]at h3;simp at h3
   ·left;have:e2<=1:=Int.not_lt.mp λw=>by have:=HZ w (show 0<e2 by omega);omega
    omega
  have ab:(cf (ae Q) n).natAbs<=(cf F n).natAbs:=by
   have a1:(cf (ae Q) n).natAbs=(cf (ae F) n).natAbs:=by rw[q,q2];rcases c1 with rfl |rfl<;>rcases c2 with rfl |rfl<;>omega
   rw[a1,q3,Fs];exact Nat.le_mul_of_pos_left _ (by omega)
  omega
theorem pI:∀(l:List Int) (b:Int),0<=vr b l/\vr b l<=l.length
 | [],_=>⟨GM _,GM _⟩
 |s::r,b=>by have ih:=pI r (if s=0 then b else s);show 0<=(if s*b<0 then(1:Int)else 0)+_/\(if s*b<0 then(1:Int)else 0)+_<=_;rw[Ff];split<;>omega
noncomputable def cv(kp:List Int):List (List Int):=aI 9 (ae kp) (ae (slopeL kp))
noncomputable def vw(kp:List Int)(x:Rat):Int:=vrs (cv kp) x
theorem ww{kp:List Int}(h:(cv kp).length<=9)(x:Rat):0<=vw kp x/\vw kp x<=9:=by
 have:=pI (sgX (cv kp) x) 0;have l:(sgX (cv kp) x).length=(cv kp).length:=by unfold sgX;rw[Fc]
 show 0<=vr 0 _/\vr 0 _<=9;omega
theorem fH{kp:List Int}{t n:Int}(hn:0<n):vr 0 (sgv (cv kp) t n)=vw kp ((t:Rat)/(n:Rat)):=by rw[ld hn];rfl
structure Few(kp:List Int)(kb:Nat):Prop where
 mono:∀x y:Rat,x<y->vw kp y<=vw kp x
 few:∀x y:Rat,x<y -> -(2^kb)<=x->y<=2^kb->(y-x)*2^196<=2*2^kb->vw kp x<=vw kp y+1
theorem ii{m n:Nat}(h:m<=n):(2:Rat)^m<=2^n:=sS (by decide +kernel) h
theorem BU{r:List Int}(h:FlatP r)(h2:2<=r.length){c:Int}(hc:c≠0){kb:Nat}(hk:kb<=10)(hk5:r.length=6->kb<=6):Few (scL c r) kb:=by
 have hl:=aP c r;have h6:=h.l6;have tP:Tr (scL c r):=cP hc h.tr;have nP:scL c r≠[]:=λz=>by rw[z]at hl;simp at hl;omega
 have eS:∀n,cf (slopeL (scL c r)) n=c*cf (slopeL r) n:=λn=>by rw[bH,bH,aD];grind
 have cop:Cop2 (scL c r) (slopeL (scL c r)):=λd dn dt h1 h2 =>h.cop d dn dt (Dv.prop_right (x:=c) (y:=1) hc (λn=>by rw[aD];omega) h1) (Dv.prop_right (x:=c) (y:=1) hc (λn=>by rw[eS];omega) h2)
 generalize hP:scL c r=P at *
 have tS:=eK tP;have lS':=dg P;have hs:slopeL P≠[]:=λz=>by rw[z]at lS';simp at lS';omega
 obtain⟨g0,t0,n0,e0⟩:=cy tP nP;obtain⟨g1,t1,n1,e1⟩:=cy tS hs;have copS:=cop.shr tP nP tS;have lS:(ae (slopeL P)).length=P.length-1:=by unfold ae;rw[Fc,dg]
 have hst:=mM 8 (ae P) (ae (slopeL P)) (by omega) t0 n0 (c8 tS) copS
 have er:aI 9 (ae P) (ae (slopeL P))=ae P::ae (slopeL P)::aI 7 (nxt (ae P) (ae (slopeL P))) (nxt (ae (slopeL P)) (nxt (ae P) (ae (slopeL P)))):=by show(if ae P=[]then _ else ae P::(if ae (slopeL P)=[]then _ else _))=_;rw[if_neg n0,if_neg n1]
 rw[er]at hst;have ev:∀x,vw P x=vrs (ae P::ae (slopeL P)::aI 7 (nxt (ae P) (ae (slopeL P))) (nxt (ae (slopeL P)) (nxt (ae P) (ae (slopeL P))))) x:=λx=>by unfold vw cv;rw[er]
 have g0':(0:Rat)<((am P:Int):Rat):=FK.mpr g0;have g1':(0:Rat)<((am (slopeL P):Int):Rat):=FK.mpr g1
 have hd:∀x,pv (slopeL (ae P)) x=((am (slopeL P):Int):Rat)/((am P:Int):Rat)*pv (ae (slopeL P)) x:=λx=>by
  have h1:=cC (a:=slopeL (ae P)) (c:=slopeL P) (u:=(am P:Int)) x λk=>by rw[bH,bH,e0 (k+1)];grind
  have h2:=cC (a:=ae (slopeL P)) (c:=slopeL P) (u:=(am (slopeL P):Int)) x e1;have h3:((am (slopeL P):Int):Rat)/((am P:Int):Rat)*((am P:Int):Rat)=((am (slopeL P):Int):Rat):=FG (by grind);rw[h1]at h2
  have h4:((am P:Int):Rat)*pv (slopeL (ae P)) x=((am P:Int):Rat)*(((am (slopeL P):Int):Rat)/((am P:Int):Rat)*pv (ae (slopeL P)) x):=by
   rw[h2];generalize ((am (slopeL P):Int):Rat)/((am P:Int):Rat)=w at *
   rw[<- h3];grind
  generalize pv (slopeL (ae P)) x=u at *
  generalize ((am (slopeL P):Int):Rat)/((am P:Int):Rat)*pv (ae (slopeL P)) x=v at *
  have h5:((am P:Int):Rat)*(u-v)=0:=by grind
  rcases GF.mp h5 with z |z
  ·grind
  ·grind
 have hγ:=cQ g1' g0';have hC:(c:Rat)≠0:=fu hc
 have hG:∀x,pv (ae P) x=(c:Rat)/((am P:Int):Rat)*pv r x:=λx=>by
  have h1:=cC (a:=ae P) (c:=P) (u:=(am P:Int)) x e0;have h2:=cC (a:=r) (c:=P) (u:=c) x λk=>by rw[<- hP,aD]
  rw[h1]at h2;have h3:(c:Rat)/((am P:Int):Rat)*((am P:Int):Rat)=(c:Rat):=FG (by grind);generalize (c:Rat)/((am P:Int):Rat)=w at *
  have h5:((am P:Int):Rat)*(pv (ae P) x-w*pv r x)=0:=by grind
  rcases GF.mp h5 with z |z
  ·grind
  ·grind
 have hG0:(c:Rat)/((am P:Int):Rat)≠0:=λz=>by have h3:(c:Rat)/((am P:Int):Rat)*((am P:Int):Rat)=(c:Rat):=FG (by grind);rw[z]at h3;grind
 refine⟨λx y hxy=>by rw[ev,ev];exact CP hst hγ hd hxy,λx y hxy hx hy hw=>?_⟩;rw[ev,ev];have lP:(ae P).length=P.length:=by unfold ae;rw[Fc]
 rcases GI r.length 3 with z |z
 ·exact AF hst hγ hd hxy (by omega)
 have hcf:∀{m:Int} {j:Nat},(∀v∈r,-m<=v/\v<=m)->0<=m -> -m<=cf r j/\cf r j<=m:=λ{m j} hv hm=>by
  by_cases hj:j<r.length
  ·rw[ce hj];exact hv _ (Gs hj)
  ·rw[aT (by omega)];omega
 have rS:=dg r;have hR:bj r (slopeL r)≠0:=rP _ r (slopeL r) (Fg _) (by omega) h.tr (eK h.tr) (λq=>by rw[q]at rS;simp at rS;omega) h.cop
 have hsl:∀{j:Nat} {m:Int},(∀i,-m<=cf r i/\cf r i<=m)->0<=m->(cf (slopeL r) j).natAbs<=(r.length-1)*m.natAbs:=λ{j m} hv hm=>by
  by_cases hj:j+1<r.length
  ·rw[bH,Fs];have:=hv (j+1);exact GR (by omega) (by omega)
  ·rw[aT (by omega)];exact Fj _
 rcases GI r.length 6 with z6 |z6
 ·have hv:=h.small (by omega);have hv':∀i,-925<=cf r i/\cf r i<=925:=λi=>hcf hv (by decide)
  have k10:=ii hk;have bd:∀w:Rat,x<=w->w<=y->Bd (2^10) w:=λw g1 g2=>by constructor<;>grind
  refine AH hst hγ hd hG0 hG hxy (bd x FS (Fn hxy)) (bd y (Fn hxy) FS) z (by omega) (λj=>?_) (λj=>?_) hR ?_
  ·have:=hv' j;show _<=4096;omega
  ·have:=hsl (j:=j) hv' (by decide);have h4:(r.length-1)*(925:Int).natAbs<=4*925:=GR (by omega) (by decide);show _<=4096;omega
  ·have e:(2:Rat)^196=2^181*(2^4*(2*2^10)):=by decide +kernel
   rw[e]at hw;have p10:(0:Rat)<2^4*(2*2^10):=by decide +kernel
   have p11:2*(2:Rat)^10<=2^4*(2*2^10):=by decide +kernel
   generalize (2:Rat)^181=u at *
   generalize (2:Rat)^4*(2*2^10)=v4 at *
   generalize (2:Rat)^10=v at *
   refine Gp.mp λq=>?_
   have:=G1 q p10;grind
 ·have e6:r.length=6:=by omega
  have hv:=h.five e6;have hv':∀i,-50<=cf r i/\cf r i<=50:=λi=>hcf hv (by decide)
  have k6:=ii (hk5 e6);have bd:∀w:Rat,x<=w->w<=y->Bd (2^6) w:=λw g1 g2=>by constructor<;>grind
  refine AG hst hγ hd hG0 hG hxy (bd x FS (Fn hxy)) (bd y (Fn hxy) FS) e6 (λj=>?_) (λj=>?_) hR ?_
  ·have:=hv' j;show _<=256;omega
  ·have:=hsl (j:=j) hv' (by decide);have h4:(r.length-1)*(50:Int).natAbs<=5*50:=GR (by omega) (by decide);show _<=256;omega
  ·have e:(2:Rat)^196=2^181*(2^4*(2*2^10)):=by decide +kernel
   rw[e]at hw;have p10:(0:Rat)<2^4*(2*2^10):=by decide +kernel
   have p11:2*(2:Rat)^10<=2^4*(2*2^10):=by decide +kernel
   have k10:=ii (show kb<=10 by omega);generalize (2:Rat)^181=u at *
   generalize (2:Rat)^4*(2*2^10)=v4 at *
   generalize (2:Rat)^10=v at *
   refine Gp.mp λq=>?_
   have:=G1 q p10;grind
theorem qp{fs:List (List Int)}(hF:∀f∈fs,FacG f)(hnd:(fs.map ao).Nodup){c:Int}(hc:c≠0){kp:List Int}(hP:kp=ac [c] (av [1] (fs.map ao)))(hl:kp.length<=7){x y:Rat}(hxy:x<y):vw kp x-vw kp y=cnt ((aO fs).map sdR) x y:=by
 have:=oF (N:=8) hF hnd hc hP (by omega) (by omega) (cX x) (cX y) ((Rat.lt_iff x y).mp hxy);rw[<- j8 (cX x) (cX y),hJ,hJ]at this;have e:∀z:Rat,vr 0 (sgv (cv kp) z.num z.den)=vw kp z:=λz=>by rw[fH (cX z),hJ]
 rw[<- e,<- e];exact this
theorem xh{fs:List (List Int)}(hF:∀f∈fs,FacG f)(hnd:(fs.map ao).Nodup){c:Int}(hc:c≠0){kp:List Int}(hP:kp=ac [c] (av [1] (fs.map ao)))(hl:kp.length<=7){kb:Nat}(hk:kb<=152):Few kp kb:=by
 refine⟨λx y hxy=>?_,λx y hxy _ _ hw=>?_⟩
 ·have:=qp hF hnd hc hP hl hxy;have:=CO ((aO fs).map sdR) x y;omega
 ·have h1:=qp hF hnd hc hP hl hxy
  have hd:y-x<=1/2^40:=by
   have e:(2:Rat)^196=2^40*(2^156):=by decide +kernel
   rw[e]at hw;have k60:=ii hk;have q1:2*(2:Rat)^152<=2^156:=by decide +kernel
   have e5:(1:Rat)/2^40*2^40=1:=by decide +kernel
   have p1:(0:Rat)<2^40:=by decide +kernel
   have p2:(0:Rat)<2^156:=by decide +kernel
   clear e hnd;generalize (2:Rat)^156=u at *
   generalize (2:Rat)^152=u6 at *
   generalize (2:Rat)^kb=u7 at *
   generalize (1:Rat)/2^40=d at *
   generalize (2:Rat)^40=v at *
   refine Gp.mp λq=>?_
   have a1:=G1 q p1;have a2:=G1 a1 p2;rw[e5,Rat.mul_assoc]at a2;grind
  have h2:cnt ((aO fs).map sdR) x y<=1:=by refine oG ?_;rw[HN];exact(jb hF hnd).imp_of_mem λ{l l'} hl hl' h=>km (dz (λf hf=>(hF f hf).q) hl) (dz (λf hf=>(hF f hf).q) hl') h hxy hd
  omega
end RM
open PySem.W in
local macro_rules | `(tactic|walk_at "comp_ok")=>`(tactic|exact⟨by with_unfolding_all rfl,by decide +kernel,rfl,by decide +kernel,by repeat' (first |exact List.forall_mem_nil _ |refine List.forall_mem_cons.2 ⟨rfl,?_⟩),by rfl,by repeat' (first |exact .nil |refine .cons ⟨rfl,by first |exact Or.inl rfl |exact Or.inr rfl,rfl⟩ ?_)⟩)
namespace R26
open PySem L2 RM
noncomputable def top(i:Nat):Stmt:=PySem.Challenge.pw_rootspan_k26_whole_cells.main.body.getD i (.Pass ⟨0,0,0,0⟩)
abbrev lJ:Stmt:=top 6
abbrev lI:Stmt:=top 7
abbrev lD:Stmt:=top 8
abbrev gE:Stmt:=Bs (top 9) 0
abbrev lN:Stmt:=top 11
abbrev lY:Stmt:=top 12
abbrev lF:Stmt:=top 13
abbrev lZ:Stmt:=top 14
abbrev lG:Stmt:=top 15
abbrev jt:Stmt:=top 16
abbrev lE:Stmt:=top 17
abbrev lH:Stmt:=top 18
abbrev lX:Stmt:=top 20
abbrev lK:Stmt:=top 21
abbrev lV:Stmt:=top 22
abbrev lL:Stmt:=top 24
abbrev lM:Stmt:=top 25
abbrev ma:Stmt:=top 26
abbrev me:Stmt:=top 28
abbrev md:Stmt:=top 29
abbrev lU:Stmt:=top 30
abbrev mI:Stmt:=top 32
abbrev mf:Stmt:=top 33
abbrev mh:Stmt:=top 34
abbrev mz:Stmt:=top 35
abbrev mE:Stmt:=top 36
abbrev ju:Stmt:=top 37
abbrev mx:Stmt:=top 38
abbrev mG:Stmt:=top 39
abbrev mn:Stmt:=top 40
abbrev jv:Stmt:=top 41
abbrev mw:Stmt:=top 42
abbrev mi:Stmt:=top 43
abbrev ml:Stmt:=top 44
abbrev mr:Stmt:=top 45
abbrev mv:Stmt:=top 46
abbrev mj:Stmt:=top 47
abbrev my:Stmt:=top 48
abbrev mF:Stmt:=top 49
abbrev mq:Stmt:=top 50
abbrev mH:Stmt:=top 51
abbrev mK:Stmt:=top 52
abbrev mB:Stmt:=top 53
abbrev mC:Stmt:=top 54
abbrev mJ:Stmt:=top 55
abbrev mD:Stmt:=top 56
abbrev mt:Stmt:=top 57
abbrev lW:Stmt:=top 58
theorem scM{N P:List Str}{sc:Scope}(a:sc.kind=.function:=by rfl)(b:sc.isCoroutine=false:=by rfl)(c:sc.isGenerator=false:=by rfl)(e:N.Nodup:=by decide +kernel)(f:N.take P.length=P:=by rfl)(g:∀x∈P,sc.names.lookup x=some .local\/sc.names.lookup x=some .cell:=by decide +kernel)(h:∀y∈sc.names,y.2≠.free:=by decide +kernel):FnScope N P sc:=⟨a,b,c,e,f,g,h⟩
theorem jm:FnScope ["row","divisor","value"] ["row"] (aB lJ):=scM
theorem gB:FnScope ["one","other","greater","less","rest"] ["one","other"] (aB lI):=scM
theorem xO:FnScope ["value"] ["value"] (aB lD):=scM
theorem lC:FnScope ["self","top","bottom","divisor"] ["self","top","bottom"] (aB gE):=scM
theorem lu:FnScope ["row","length"] ["row"] (aB lN):=scM
theorem xV:FnScope ["row"] ["row"] (aB lY):=scM
theorem rE:FnScope ["first","second","length"] ["first","second"] (aB lF):=scM
theorem xW:FnScope ["row","place"] ["row","place"] (aB lZ):=scM
theorem xP:FnScope ["row"] ["row"] (aB lG):=scM
theorem rF:FnScope ["row","divisor"] ["row"] (aB jt):=scM
theorem gA:FnScope ["row","top","bottom","above","below","value"] ["row","top","bottom"] (aB lE):=scM
theorem xQ:FnScope ["row","ratio"] ["row","ratio"] (aB lH):=scM
theorem da:FnScope ["first","second","size","sign","steps","factor","quotient","rest","place","lead"] ["first","second"] (aB lX):=scM
theorem xR:FnScope ["row","factor"] ["row","factor"] (aB lK):=scM
theorem jn:FnScope ["row","second","place","lead","kept","k","value"] ["row","second","place","lead"] (aB lV):=scM
theorem xS:FnScope ["polynomial"] ["polynomial"] (aB lL):=scM
theorem fO:FnScope ["first","second","row","one","other","rest"] ["first","second"] (aB lM):=scM
theorem fQ:FnScope ["row","ratio","many","before","polynomial","sign"] ["row","ratio"] (aB ma):=scM
theorem iu:FnScope ["row","last","greatest","size"] ["row"] (aB me):=scM
theorem dM:FnScope ["row","chain","high","low","waiting","found","cell","many","cut","there"] ["row"] (aB md):=scM
theorem xU:FnScope ["low","high"] ["low","high"] (aB lU):=scM
theorem x3:FnScope ["_law_script","_law_k"] ["_law_script","_law_k"] (aB mI):=scM
theorem xX:FnScope ["_law_found"] ["_law_found"] (aB mf):=scM
theorem lw:FnScope ["_law_row_here","_law_size"] ["_law_row_here"] (aB mh):=scM
theorem sc__law_mul:FnScope ["_law_kp","_law_kq","_law_made","_law_i","_law_one","_law_j","_law_other"] ["_law_kp","_law_kq"] (aB mz):=scM
theorem gC:FnScope ["_law_a","_law_b","_law_rest_here"] ["_law_a","_law_b"] (aB mE):=scM
theorem jo:FnScope ["_law_kp","_law_most","_law_one"] ["_law_kp"] (aB ju):=scM
theorem rG:FnScope ["_law_kp","_law_made"] ["_law_kp"] (aB mx):=scM
theorem ix:FnScope ["_law_cell","_law_most","_law_u","_law_b","_law_n","_law_e"] ["_law_cell","_law_most"] (aB mG):=scM
theorem ly:FnScope ["_law_factor","_law_u","_law_b"] ["_law_factor"] (aB mn):=scM
theorem fR:FnScope ["_law_drawn","_law_most","_law_room","_law_made","_law_shapes","_law_cell","_law_one","_law_shape_here"] ["_law_drawn","_law_most","_law_room"] (aB jv):=scM
theorem jq:FnScope ["_law_factors","_law_made","_law_one"] ["_law_factors"] (aB mw):=scM
theorem xY:FnScope ["_law_square","_law_due"] ["_law_square","_law_due"] (aB mi):=scM
theorem lx:FnScope ["_law_spot","_law_top","_law_bottom","_law_due","_law_square"] ["_law_spot","_law_top","_law_bottom"] (aB ml):=scM
theorem lA:FnScope ["_law_factors","_law_made","_law_one"] ["_law_factors"] (aB mr):=scM
theorem sc__law_rest:FnScope ["_law_kp","_law_kq","_law_left","_law_gap","_law_top","_law_k","_law_one"] ["_law_kp","_law_kq"] (aB mv):=scM
theorem xZ:FnScope ["_law_kp"] ["_law_kp"] (aB mj):=scM
theorem sc__law_part:FnScope ["_law_kp","_law_kq","_law_left","_law_found","_law_k","_law_j","_law_one"] ["_law_kp","_law_kq"] (aB my):=scM
theorem sc__law_flat:FnScope ["_law_kp","_law_one","_law_other"] ["_law_kp"] (aB mF):=scM
theorem sc__law_row:FnScope ["_law_kp","_law_row_here","_law_other"] ["_law_kp"] (aB mq):=scM
theorem dA:FnScope ["_law_row_here","_law_spot","_law_many_here","_law_last","_law_kp","_law_total","_law_scale","_law_one"] ["_law_row_here","_law_spot"] (aB mH):=scM
theorem gD:FnScope ["_law_cell","_law_row_here","_law_left","_law_k"] ["_law_cell"] (aB mK):=scM
theorem iw:FnScope ["_law_spots","_law_low","_law_high","_law_many_here","_law_spot","_law_first"] ["_law_spots","_law_low","_law_high"] (aB mB):=scM
theorem x0:FnScope ["_law_found"] ["_law_found"] (aB mC):=scM
theorem jr:FnScope ["_law_kp","_law_due","_law_one"] ["_law_kp"] (aB mJ):=scM
theorem eu:FnScope ["_law_low","_law_high","_law_wide","_law_spots","_law_pieces","_law_k","_law_width","_law_ahead","_law_at","_law_start","_law_end"] ["_law_low","_law_high","_law_wide","_law_spots"] (aB mD):=scM
theorem jp:FnScope ["_law_found","_law_k","_law_last","_law_start"] ["_law_found"] (aB mt):=scM
theorem sc_law:FnScope ["_law_script","_law_factors","_law_lead","_law_kp","_law_spots","_law_many_here","_law_far","_law_handed","_law_found","_law_one","_law_low","_law_high"] ["_law_script"] (aB lW):=scM
structure Txt(K:PySem.W.Frag)(mg:Str->Option Value):Prop where
 abs_:mg "abs"=none
 len_:mg "len"=none
 max_:mg "max"=none
 range_:mg "range"=none
 reversed_:mg "reversed"=none
 list_:mg "list"=none
 enumerate_:mg "enumerate"=none
 isinstance_:mg "isinstance"=none
 int_:mg "int"=none
 bool_:mg "bool"=none
 tuple_:mg "tuple"=none
def jd(K:PySem.W.Frag):Sp:=λvs H Q _=>∃(a:Addr) (ns:List Int),vs=[.ref a]/\SqL K H a (ns.map V.int)/\ns.length<=63/\∀H',Q (.bl true) H'
section
variable {P:Program}{w:World}{K:PySem.W.Frag}{mg:Str->Option Value}{base:Heap}
theorem yo(n:Nat):(List.replicate n [V.int 0]).flatten=(List.replicate n (0:Int)).map V.int:=by
 induction n with
 |zero=>rfl
 |succ n ih=>rw[GV,Hy,ih,GV];rfl
theorem gZ{n j:Nat}{i:Int}(e:i=j)(h:j<n):ixN n i=some j:=by subst e;unfold ixN;rw[if_pos (Hr _),if_pos (by omega)];simp
theorem gX(l:List Int)(j:Nat)(x:Int):(l.map V.int).set j (.int x)=(l.set j x).map V.int:=by rw[List.map_set]
theorem gd{l:List Int}{j:Nat}{i:Int}(e:i=j)(h:j<l.length):atI (l.map V.int) i=some (.int (cf l j)):=by subst e;exact fE (by rw[List.getElem?_map,dX h];rfl)
def SameB(p:Addr)(H H':Hp):Prop:=∀b o,b≠p->H b=some o->H' b=some o
theorem SameB.refl(p:Addr)(H:Hp):SameB p H H:=λ_ _ _ h=>h
theorem SameB.then_new{p q:Addr}{H H1:Hp}{o:HO}(s:SameB p H H1)(h:H1 q=none):SameB p H (upd H1 q o):=λb u n e=>by rw[upd_ne (aN (s b u n e) h)];exact s b u n e
theorem SameB.then_upd{p:Addr}{H H1:Hp}{o:HO}(s:SameB p H H1):SameB p H (upd H1 p o):=λb u n e=>by rw[upd_ne n];exact s b u n e
def AllB(k:Nat)(l:List Int):Prop:=∀x∈l,Bits k x
theorem AllB.cf{k:Nat}{l:List Int}(h:AllB k l)(n:Nat):Bits k (cf l n):=by
 by_cases hn:n<l.length
 ·rw[ce hn];exact h _ (Gs hn)
 ·rw[aT (GW hn)];exact Bits.zero
theorem cT{H H2:Hp}{p:Addr}{o:HO}(s:Same H H2)(hp:H p=none):Same H (upd H2 p o):=λb u e=>by rw[upd_ne (aN e hp)];exact s b u e
theorem AW(l:List Int)(x:Int):l.map V.int++[V.int x]=(l++[x]).map V.int:=by rw[Fk];rfl
noncomputable def b5(ms:List Int)(lo hi:Option Int):List Int:=(ms.drop (HT.sIx ms.length 0 lo)).take (HT.sIx ms.length ms.length hi-HT.sIx ms.length 0 lo)
theorem ia(ms:List Int)(lo hi:Option Int):d7 (ms.map V.int) lo hi=(b5 ms lo hi).map V.int:=by unfold d7 b5;rw[Fc,<- List.map_drop,<- List.map_take]
theorem CG{ms:List Int}{lo hi:Option Int}{x:Int}(h:x∈b5 ms lo hi):x∈ms:=List.mem_of_mem_drop (Hj h)
theorem CH(ms:List Int)(lo hi:Option Int):(b5 ms lo hi).length<=ms.length:=by unfold b5;rw[FW,Hm];omega
theorem AllB.cut{k:Nat}{ms:List Int}{lo hi:Option Int}(h:AllB k ms):AllB k (b5 ms lo hi):=λx hx=>h x (CG hx)
theorem AllB.app{k:Nat}{l r:List Int}(h1:AllB k l)(h2:AllB k r):AllB k (l++r):=λx hx=>(Fq.mp hx).elim (h1 x) (h2 x)
theorem AllB.zeros{k n:Nat}:AllB k (List.replicate n 0):=λx hx=>by rw[List.eq_of_mem_replicate hx];exact Bits.zero
theorem AllB.mono{j k:Nat}{l:List Int}(h:AllB j l)(hk:j<=k:=by decide):AllB k l:=λx hx=>(h x hx).mono hk
theorem AllB.nil{k:Nat}:AllB k []:=λ_ h=>nomatch h
theorem AllB.snoc{k:Nat}{l:List Int}{x:Int}(h:AllB k l)(hx:Bits k x):AllB k (l++[x]):=h.app λy hy=>by rw[Fv.mp hy];exact hx
theorem tZ{l:List Int}{x:Int}(h:x∈trim l):x∈l:=by
 unfold trim at h
 rw[List.mem_reverse]at h;exact List.mem_reverse.mp ((List.dropWhile_sublist _).subset h)
theorem AllB.trim{k:Nat}{l:List Int}(h:AllB k l):AllB k (trim l):=λx hx=>h x (tZ hx)
theorem cK{l:List Int}{i:Nat}{x:V}(h:(l.map V.int)[i]?=some x):∃c,l[i]?=some c/\x=.int c/\c∈l/\l.take (i+1)=l.take i++[c]:=by
 rw[List.getElem?_map]at h;cases e:l[i]? with
 |none=>rw[e]at h;cases h
 |some c=>rw[e]at h;exact⟨c,rfl,(Option.some.inj h).symm,List.mem_of_getElem? e,by rw[Gj,e];rfl⟩
def mkL(H:Hp)(Q:VK)(r:List Int):Prop:=∀(p:Addr) (H':Hp),Same H H'->H p=none->H' p=some (.lst (r.map V.int))->Q (.ref p) H'
def gs(K:PySem.W.Frag):Sp:=λvs H Q _=>∃(a:Addr) (ns:List Int),vs=[.ref a]/\SqL K H a (ns.map V.int)/\mkL H Q (trim ns)
def je(K:PySem.W.Frag):Sp:=λvs H Q _=>∃(a:Addr) (ns:List Int) (k:Nat),vs=[.ref a,.int k]/\SqL K H a (ns.map V.int)/\Q (.int (ns.getD k 0)) H
def qV(K:PySem.W.Frag)(g:List Int->List Int->List Int):Sp:=λvs H Q _=>∃(a b:Addr) (xs ys:List Int),vs=[.ref a,.ref b]/\SqL K H a (xs.map V.int)/\SqL K H b (ys.map V.int)/\xs.length<=1000000/\ys.length<=1000000/\mkL H Q (g xs ys)
theorem AT(i j:Nat):(if((j:Nat):Int)>((i:Nat):Int)then((j:Nat):Int)else((i:Nat):Int))=((max i j:Nat):Int):=by split<;>omega
theorem qX{n:Nat}(h:n<=sizeLine) : -(2^62)<=((n:Nat):Int)/\((n:Nat):Int)<2^62:=by have:=sizeLine_eq;omega
def RwH(H:Hp)(ps:List Addr)(xss:List (List Int)):Prop:=ps.length=xss.length/\∀(i:Nat) (p:Addr) (xs:List Int),ps[i]?=some p->xss[i]?=some xs->H p=some (.lst (xs.map V.int))
theorem RwH.nil{H:Hp}:RwH H [] []:=⟨rfl,λi p xs h=>by simp at h⟩
theorem RwH.same{H H':Hp}{ps:List Addr}{xss:List (List Int)}(h:RwH H ps xss)(s:Same H H'):RwH H' ps xss:=⟨h.1,λi p xs a b=>s _ _ (h.2 i p xs a b)⟩
theorem RwH.snoc{H:Hp}{ps:List Addr}{xss:List (List Int)}{p:Addr}{xs:List Int}(h:RwH H ps xss)(hp:H p=some (.lst (xs.map V.int))):RwH H (ps++[p]) (xss++[xs]):=by
 refine⟨by rw[Fd,Fd,h.1];rfl,λi q ys a b=>?_⟩;by_cases hi:i<ps.length
 ·rw[List.getElem?_append_left hi]at a;rw[List.getElem?_append_left (by rw[<- h.1];exact hi)]at b;exact h.2 i q ys a b
 ·rw[List.getElem?_append_right (by omega)]at a;rw[List.getElem?_append_right (by rw[<- h.1];omega),<- h.1]at b;by_cases h0:i-ps.length=0
  ·rw[h0]at a b;obtain rfl:p=q:=by simpa using a
   obtain rfl:xs=ys:=by simpa using b
   exact hp
  ·rw[List.getElem?_eq_none_iff.mpr (by simp;omega)]at a;cases a
theorem RwH.get{H:Hp}{ps:List Addr}{xss:List (List Int)}{i:Nat}(h:RwH H ps xss)(hi:i<xss.length):∃p,ps[i]?=some p/\H p=some (.lst ((xss.getD i []).map V.int)):=by
 have hi':i<ps.length:=by rw[h.1];exact hi
 refine⟨ps[i],List.getElem?_eq_getElem hi',h.2 i _ _ (List.getElem?_eq_getElem hi') ?_⟩;rw[List.getElem?_eq_getElem hi];simp[List.getD,hi]
theorem RwH.of_get{H:Hp}{ps:List Addr}{xss:List (List Int)}{i:Nat}{x:V}(h:RwH H ps xss)(hx:(ps.map V.ref)[i]?=some x):∃p xs,x=.ref p/\ps[i]?=some p/\xss[i]?=some xs/\H p=some (.lst (xs.map V.int))/\i<xss.length:=by
 rw[List.getElem?_map]at hx;cases e:ps[i]? with
 |none=>rw[e]at hx;cases hx
 |some p =>
  rw[e]at hx;have hi:i<ps.length:=(List.getElem?_eq_some_iff.mp e).1;have hi':i<xss.length:=by rw[<- h.1];exact hi
  exact⟨p,xss[i],(Option.some.inj hx).symm,rfl,List.getElem?_eq_getElem hi',h.2 i p _ e (List.getElem?_eq_getElem hi'),hi'⟩
theorem fY(ps:List Addr)(p:Addr):ps.map V.ref++[V.ref p]=(ps++[p]).map V.ref:=by rw[Fk];rfl
theorem gI{i:Nat}{v:V}{σ:St}{H:Hp}{Q:St->Hp->Prop}(h:Q (σ.set i (some v)) H):dH i v σ H Q:=h
def TuH(H:Hp)(ps:List Addr)(xss:List (List Int)):Prop:=ps.length=xss.length/\∀(i:Nat) (p:Addr) (xs:List Int),ps[i]?=some p->xss[i]?=some xs->H p=some (.tup (xs.map V.int))
theorem TuH.nil{H:Hp}:TuH H [] []:=⟨rfl,λi p xs h=>by simp at h⟩
theorem TuH.same{H H':Hp}{ps:List Addr}{xss:List (List Int)}(h:TuH H ps xss)(s:Same H H'):TuH H' ps xss:=⟨h.1,λi p xs a b=>s _ _ (h.2 i p xs a b)⟩
theorem TuH.snoc{H:Hp}{ps:List Addr}{xss:List (List Int)}{p:Addr}{xs:List Int}(h:TuH H ps xss)(hp:H p=some (.tup (xs.map V.int))):TuH H (ps++[p]) (xss++[xs]):=by
 refine⟨by rw[Fd,Fd,h.1];rfl,λi q ys a b=>?_⟩;by_cases hi:i<ps.length
 ·rw[List.getElem?_append_left hi]at a;rw[List.getElem?_append_left (by rw[<- h.1];exact hi)]at b;exact h.2 i q ys a b
 ·rw[List.getElem?_append_right (by omega)]at a;rw[List.getElem?_append_right (by rw[<- h.1];omega),<- h.1]at b;by_cases h0:i-ps.length=0
  ·rw[h0]at a b;obtain rfl:p=q:=by simpa using a
   obtain rfl:xs=ys:=by simpa using b
   exact hp
  ·rw[List.getElem?_eq_none_iff.mpr (by simp;omega)]at a;cases a
theorem TuH.of_get{H:Hp}{ps:List Addr}{xss:List (List Int)}{i:Nat}{x:V}(h:TuH H ps xss)(hx:(ps.map V.ref)[i]?=some x):∃p xs,x=.ref p/\ps[i]?=some p/\xss[i]?=some xs/\H p=some (.tup (xs.map V.int))/\i<xss.length:=by
 rw[List.getElem?_map]at hx;cases e:ps[i]? with
 |none=>rw[e]at hx;cases hx
 |some p =>
  rw[e]at hx;have hi:i<ps.length:=(List.getElem?_eq_some_iff.mp e).1;have hi':i<xss.length:=by rw[<- h.1];exact hi
  exact⟨p,xss[i],(Option.some.inj hx).symm,rfl,List.getElem?_eq_getElem hi',h.2 i p _ e (List.getElem?_eq_getElem hi'),hi'⟩
theorem TuH.upd_lst{H:Hp}{ps:List Addr}{xss:List (List Int)}{a:Addr}{vs:List V}{o:HO}(h:TuH H ps xss)(ha:H a=some (.lst vs)):TuH (upd H a o) ps xss:=⟨h.1,λi p xs e1 e2=>by
 have e3:=h.2 i p xs e1 e2
 rw[L2.upd_ne (λz=>by rw[z,ha]at e3;cases e3)];exact e3⟩
theorem RwH.upd_no{H:Hp}{ps:List Addr}{xss:List (List Int)}{a:Addr}{o:HO}(h:RwH H ps xss)(hn:∀p∈ps,p≠a):RwH (upd H a o) ps xss:=⟨h.1,λi p xs e1 e2=>by rw[L2.upd_ne (hn p (List.mem_of_getElem? e1))];exact h.2 i p xs e1 e2⟩
def sp2:Sp:=λvs H Q _=>∃a b:Int,vs=[.int a,.int b]/\Q (.int (Nat.gcd a.natAbs b.natAbs:Nat)) H
theorem du(i:Int):(if i<0 then -i else i)=(i.natAbs:Int):=by split<;>omega
theorem zx(F:Fun K "shared_by_two" "shared_by_two" lI f fd)(T:Txt K mg):FnOk P w K mg base CX0 1 f fd ["one","other"] sp2:=by
 refine F.ok gB (λvs H Q E h=>?_) (λcdv A outer s H vs Q E hr h=>?_)
 ·obtain⟨a,b,rfl,_⟩:=h;rfl
 ·obtain⟨a,b,rfl,k⟩:=h
  refine⟨_,(ah (aj 2 gB (bZ dq (by rfl) T.abs_ PyProof.Rows.boot_abs (aa (pv 0) ag)))
   (ah (aj 3 gB (bZ dq (by rfl) T.abs_ PyProof.Rows.boot_abs (aa (pv 1) ag)))
   (ah (dB PassesOwn.never (aG fW (pv 3) af)
     (ah (aj 4 gB (ai cb (pv 2) (pv 3)))
       (ah (aj 2 gB (pv 3))
       (al (aj 3 gB (pv 4))))))
   (al (aA (pv 2)))))),?_⟩
  refine⟨_,rfl,_,rfl,?_⟩;refine⟨_,rfl,_,rfl,?_⟩;refine⟨λm σ' H'=>∃(x y:Int) (z:Option V),σ'=[some (.int a),some (.int b),some (.int x),some (.int y),z]/\H=H'/\0<=x/\0<=y/\y.natAbs=m/\Nat.gcd x.natAbs y.natAbs=Nat.gcd a.natAbs b.natAbs,⟨_,_,_,none,rfl,rfl,?_,?_,rfl,?_⟩,?_⟩
  ·rw[du];exact Hr _
  ·rw[du];exact Hr _
  ·rw[du,du,FU,FU]
  ·rintro m σ' H' ⟨x,y,z,rfl,rfl,hx,hy,rfl,hg⟩;refine⟨_,rfl,_,_,rfl,rfl,_,rfl,?_⟩;refine dN (λhn=>?_) (λh0=>?_)
   ·have hp:0<y:=by have:y≠0:=hn;omega
    refine⟨_,λ_ _ h=>h,?_⟩;refine⟨_,rfl,_,rfl,_,_,rfl,rfl,hp,?_⟩;refine⟨_,rfl,?_⟩;refine⟨_,rfl,?_⟩;have h1:=Int.emod_nonneg x (Gc hp);have h2:=Int.emod_lt_of_pos x hp;exact⟨(x%y).natAbs,by omega,y,x%y,_,rfl,rfl,hy,h1,rfl,by rw[uw hx hp];exact hg⟩
   ·refine⟨_,rfl,?_⟩;have e:(y:Int)=0:=h0;subst e
    have e2:(x:Int)=((Nat.gcd a.natAbs b.natAbs:Nat):Int):=by rw[<- hg];show x=((Nat.gcd x.natAbs 0:Nat):Int);rw[Nat.gcd_zero_right];omega
    rw[e2];exact k
def qw(K:PySem.W.Frag):Sp:=λvs H Q _=>∃(a:Addr) (ns:List Int),vs=[.ref a]/\SqL K H a (ns.map V.int)/\Q (.int (am ns:Nat)) H
theorem zy(F:Fun K "shared" "shared" lJ f fd)(T:Txt K mg)(o7:Cal P w K mg base 1 "shared_by_two" ["one","other"] sp2 Cg B1):FnOk P w K mg base CX0 2 f fd ["row"] (qw K):=by
 refine F.ok jm (λvs H Q E h=>?_) (λcdv A outer s H vs Q E hr h=>?_)
 ·obtain⟨a,ns,rfl,_⟩:=h;rfl
 ·obtain⟨a,ns,rfl,hS,k⟩:=h
  refine⟨_,(ah (aj 1 jm af)
   (ah (bM PassesOwn.never rfl (bY (K:=K) rfl (pv 0)) (bE 2 jm)
     (al (aj 1 jm (au o7 hr (aa (pv 1) (aa (pv 2) ag))))))
   (al (aA (pv 1))))),?_⟩
  refine⟨_,rfl,a,rfl,⟨_,hS⟩,dY (K:=K) (a:=a) (xs:=ns.map V.int) (λi σ' H'=>∃z:Option V,σ'=[some (.ref a),some (.int (am (ns.take i):Nat)),z]/\H=H') ⟨none,rfl,rfl⟩ (λi σ' H' _ ⟨z,_,e⟩=>by rw[<- e];exact hS) ?_ ?_⟩
  ·rintro i y σ' H' hi ⟨z,rfl,rfl⟩;rw[List.getElem?_map]at hi;cases e:ns[i]? with
   |none=>rw[e]at hi;cases hi
   |some n =>
    rw[e]at hi;obtain rfl:=Option.some.inj hi;refine⟨_,rfl,_,rfl,_,_,rfl,?_⟩;have e3:ns.take (i+1)=ns.take i++[n]:=by rw[Gj,e];rfl
    refine⟨some (.int n),?_,rfl⟩;rw[e3,ux,FU];rfl
  ·rintro σ' H' ⟨z,rfl,rfl⟩;refine⟨_,rfl,?_⟩;rw[Fc,FQ];exact k
def gt:Sp:=λvs H Q _=>∃(a:Addr) (ns:List Int),vs=[.ref a]/\H a=some (.lst (ns.map V.int))/\Tr ns/\ns.length<=1000000/\mkL H Q (ae ns)
theorem oq{ns:List Int}(ht:Tr ns)(hne:ns≠[]):0<(am ns:Int):=by
 obtain⟨r,x,rfl⟩:=(bX ns).resolve_left hne;have hx:x≠0:=tr_snoc.mp ht;have hm:x∈r++[x]:=by simp
 have h1:0<am (r++[x]):=Nat.pos_of_dvd_of_pos (jX hm) (Gm.mpr hx);omega
theorem zw(F:Fun K "shrunk" "shrunk" jt f fd)(T:Txt K mg)(hNS:base.NoSeer)(hTr:P.given.tree=none)(DB:Cal P w K mg base 2 "shared" ["row"] (qw K) ED D3):FnOk P w K mg base CX0 33 f fd ["row"] gt:=by
 refine F.ok rF (λvs H Q E h=>?_) (λcdv A outer s H vs Q E hr h=>?_)
 ·obtain⟨a,ns,rfl,_⟩:=h;rfl
 ·obtain⟨a,ns,rfl,hA,ht,hn,k⟩:=h;have big:=sizeLine_eq;have hdp:(A.deeper (PyProof.Rows.envOfC (Str.ofString "shrunk") (aB jt) s.heap.objs.size f cdv)).depth+100<recursionLimit:=by have:=hr.dp;omega
  refine⟨_,(ah (aj 1 rF (au DB hr (aa (pv 0) ag)))
   (al (aA (fi (own:=["value"]) (fr:=["divisor"]) (js:=[1]) (by walk_at "comp_ok") rfl (bY (K:=K) rfl (pv 0)) (λ_ _ _ _=>(cj (i:=0) (show List.Nodup (["value","divisor"]:List Str)from by decide +kernel) rfl (Or.inl rfl))) (λ_ _ _ _=>(ai (tq hNS hTr hdp rfl rfl rfl rfl rfl) (pv 0) (pv 1))))))),?_⟩
  refine ar ⟨_,rfl,a,ns,rfl,SqL.of hA,?_⟩;refine cz ⟨_,rfl,a,rfl,⟨_,SqL.of hA⟩,d8 (K:=K) (a:=a) (xs:=ns.map V.int) (λi ys σ' H'=>∃(z0:Option V),σ'=[z0,some (.int (am ns:Nat))]/\ys=((ns.take i).map λx=>x/(am ns:Int)).map V.int/\H=H') (by rw[Fc];omega) ⟨none,rfl,rfl,rfl⟩ ?_ ?_ ?_⟩
  ·rintro i ys σ' H' _ ⟨z0,rfl,rfl,rfl⟩;exact⟨SqL.of hA,by rw[Fc,Fc,FW];exact Gx _ _⟩
  ·rintro i x ys σ' H' hi ⟨z0,rfl,rfl,rfl⟩;rw[List.getElem?_map]at hi;cases e:ns[i]? with
   |none=>rw[e]at hi;cases hi
   |some c =>rw[e]at hi;obtain rfl:=Option.some.inj hi;have g1:=oq ht (λz=>by rw[z]at e;simp at e);refine⟨_,rfl,_,rfl,_,_,rfl,rfl,g1,_,rfl,?_,rfl⟩;rw[Gj,e];simp
  ·rintro ys σ' H' p ⟨z0,rfl,rfl,rfl⟩ hp;refine k p _ (Same.upd_new hp) hp ?_;rw[aq,Fc,FQ];rfl
def qH:Sp:=λvs H Q _=>∃(a:Addr) (ns:List Int),vs=[.ref a]/\H a=some (.lst (ns.map V.int))/\Tr ns/\ns.length<=1000000/\mkL H Q (aw ns)
theorem Di(r:List Int)(x:Int):atI ((r++[x]).map V.int) (-1)=some (.int x):=by rw[Fk];exact oR _ _
noncomputable def f6(t b:Int):List (Str×V):=ca "bottom" (.int b) (ca "top" (.int t) [])
theorem wT:¬(("top":Str)="bottom"):=by decide +kernel
theorem dk(t b:Int):(f6 t b).lookup ("bottom":Str)=some (.int b):=by unfold f6;rw[iM,if_pos rfl]
theorem eI(t b:Int):(f6 t b).lookup ("top":Str)=some (.int t):=by unfold f6;rw[iM,if_neg wT,iM,if_pos rfl]
structure RCI(K:PySem.W.Frag)(mg:Str->Option Value)(C:Addr):Prop where
 cl:Cls K C
 nT:NoAttr K C "top"
 nB:NoAttr K C "bottom"
 mg:mg "Ratio"=some (.ref C)
 ha:PySem.W.findIn K (.ref C) "__class__"=some (some (.builtin "object.__class__"))
 hn:PySem.W.specialIn K (.builtin "object.__class__") "__get__"=some (some (.builtin "getset_descriptor.__get__"))
 ht:PySem.W.takesIn K (.builtin "object.__class__")=some true
 hm:PySem.W.mroIn K C (.type "object")=some true
def RA(C:Addr)(H:Hp)(p:Addr)(t b:Int):Prop:=∃dx,H p=some (.ins C dx (f6 t b))
theorem RA.same{C:Addr}{H H':Hp}{p:Addr}{t b:Int}(h:RA C H p t b)(s:Same H H'):RA C H' p t b:=let⟨dx,e⟩:=h;⟨dx,s _ _ e⟩
def mkR(C:Addr)(H:Hp)(Q:VK)(t b:Int):Prop:=∀(x:Addr) (H':Hp),Same H H'->H x=none->RA C H' x (rt t b) (rb t b)->Q (.ref x) H'
def im(C:Addr):Sp:=λvs H Q _=>∃(p dx:Addr) (t b:Int),vs=[.ref p,.int t,.int b]/\H p=some (.ins C dx [])/\b≠0/\Bits 9000 b/\Q .non (upd H p (.ins C dx (f6 (rt t b) (rb t b))))
theorem nS{C:Addr}{H1:Hp}{q:Addr->Hp->Prop}{E:XK}{t b:Int}(hb:b≠0)(bb:Bits 9000 b)(h:∀(x:Addr) (H':Hp),Same H1 H'->H1 x=none->RA C H' x (rt t b) (rb t b)->q x H'):∀x dx:Addr,H1 x=none->H1 dx=none->dx≠x->im C (.ref x::([.int t,.int b]++[])) (upd (upd H1 dx (.own x)) x (.ins C dx [])) (λv H2=>v=.non/\q x H2) E:=λx dx nx ndx ne=>by
 refine⟨x,dx,t,b,rfl,aq,hb,bb,rfl,?_⟩;rw[pM]
 have s0:Same H1 (upd (upd H1 dx (.own x)) x (.ins C dx (f6 (rt t b) (rb t b)))):=λc o e=>by rw[upd_ne (aN e nx),upd_ne (aN e ndx)];exact e
 exact h x _ s0 nx ⟨dx,aq⟩
theorem uX{t b:Int}(hb:b≠0)(bb:Bits 9000 b):Bits 9000 (dv t b):=bb.of_le (by rw[iR];exact Nat.le_of_dvd (Gm.mpr hb) (Ho _ _))
theorem Aq(F:FunD K "__init__" "Ratio.__init__" gE dV f fd)(T:Txt K mg)(R:RCI K mg C)(o7:Cal P w K mg base 1 "shared_by_two" ["one","other"] sp2 Cg B1):FnOk P w K mg base CX0 2 f fd ["self","top","bottom"] (im C):=by
 refine F.ok lC (λvs H Q E h=>?_) (λcdv A outer s H vs Q E hr h=>?_)
 ·obtain⟨p,dx,t,b,rfl,_⟩:=h;rfl
 ·obtain⟨p,dx,t,b,rfl,hp,hb,bb,k⟩:=h
  refine⟨_,(ah (aR (aG cp (pv 2) af)
   (al sL)
   aQ)
   (ah (aj 3 lC (au o7 hr (aa (pv 1) (aa (pv 2) ag))))
   (ah (aR (aG cH (pv 2) af)
     (al (aj 3 lC (bJ bI (pv 3))))
     aQ)
   (ah (sM (pv 0) (ai nr (pv 1) (pv 3)) rfl)
   (al (sM (pv 0) (ai nr (pv 2) (pv 3)) rfl)))))),?_⟩
  refine bQ ⟨_,rfl,_,_,rfl,rfl,_,rfl,aM (λh=>absurd h hb) (λ_=>?_)⟩;refine ar ⟨_,rfl,_,rfl,t,b,rfl,?_⟩;refine dO (λσ' H'=>H=H'/\σ'=[some (.ref p),some (.int t),some (.int b),some (.int (dv t b))]) ?_ ?_
  ·rintro σ' H' ⟨rfl,rfl⟩;refine⟨_,rfl,_,rfl,_,_,rfl,rfl,⟨j1 hb,uX hb bb⟩,_,rfl,p,C,dx,_,rfl,hp,R.cl,R.nT,by show 0<1000;decide,?_⟩;refine⟨_,rfl,_,rfl,_,_,rfl,rfl,⟨j1 hb,uX hb bb⟩,_,rfl,p,C,dx,_,rfl,aq,R.cl,R.nB,by show 1<1000;decide,?_⟩;show Q .non (upd (upd H p _) p _);rw[pM];exact k
  ·intro rest;refine⟨_,rfl,_,_,rfl,rfl,_,rfl,?_⟩;refine aM (λh=>?_) (λh=>?_)
   ·refine⟨_,rfl,_,rfl,rest _ _ ⟨rfl,?_⟩⟩;have e:dv t b = -((Nat.gcd t.natAbs b.natAbs:Nat):Int):=by unfold dv;rw[if_pos h]
    rw[e];rfl
   ·refine rest _ _ ⟨rfl,?_⟩;have e:dv t b=((Nat.gcd t.natAbs b.natAbs:Nat):Int):=by unfold dv;rw[if_neg h]
    rw[e];rfl
def kQ:Sp:=λvs H Q _=>∃x:Int,vs=[.int x]/\Q (.int (sg x)) H
theorem zq(F:Fun K "whole_sign" "whole_sign" lD f fd)(T:Txt K mg):FnOk P w K mg base CX0 1 f fd ["value"] kQ:=by
 refine F.ok xO (λvs H Q E h=>?_) (λcdv A outer s H vs Q E hr h=>?_)
 ·obtain⟨x,rfl,_⟩:=h;rfl
 ·obtain⟨x,rfl,k⟩:=h
  refine⟨_,(ah (aR (aG cH (pv 0) af)
   (al (aA (bJ bI af)))
   aQ)
   (ah (aR (aG b8 (pv 0) af)
     (al (aA af))
     aQ)
   (al (aA af)))),?_⟩
  refine bQ ⟨_,rfl,_,_,rfl,rfl,_,rfl,aM (λh=>?_) (λh=>?_)⟩
  ·have e:sg x = -1:=by unfold sg;rw[if_pos h]
   rw[e]at k;exact⟨_,rfl,k⟩
  refine bQ ⟨_,rfl,_,_,rfl,rfl,_,rfl,aM (λh'=>?_) (λh'=>?_)⟩
  ·have e:sg x=1:=by unfold sg;rw[if_neg h,if_pos h']
   rw[e]at k;exact k
  ·have e:sg x=0:=by unfold sg;rw[if_neg h,if_neg h']
   rw[e]at k;exact k
theorem zD(F:Fun K "poly" "poly" lN f fd)(T:Txt K mg):FnOk P w K mg base CX0 1 f fd ["row"] (gs K):=by
 refine F.ok lu (λvs H Q E h=>?_) (λcdv A outer s H vs Q E hr h=>?_)
 ·obtain⟨a,ns,rfl,_⟩:=h;rfl
 ·obtain⟨a,ns,rfl,hS,k⟩:=h
  refine⟨_,(ah (aj 1 lu (ba K T.len_ (aa (pv 0) ag)))
   (ah (dB PassesOwn.never (PW.pt (gM (aG b8 (pv 1) af) (gL (aG cp (bD K (pv 0) (ai aU (pv 1) af)) af))))
     (al (aj 1 lu (ai aU (pv 1) af))))
   (al (aA (fh (eR (K:=K) rfl) (pv 0) fe (fb (pv 1))))))),?_⟩
  refine⟨_,rfl,a,_,rfl,.inl hS,?_⟩;refine⟨λm σ' H'=>∃n:Nat,n<=ns.length/\σ'=[some (.ref a),some (.int n)]/\H=H'/\n=m/\trim (ns.take n)=trim ns,⟨_,ns.length,Fg _,?_,rfl,rfl,?_⟩,?_⟩
  ·rw[Fc];rfl
  ·rw[FQ]
  ·rintro m σ' H' ⟨n,hn,rfl,rfl,rfl,ht⟩
   have fin:trim (ns.take n)=ns.take n->∃v,([some (V.ref a),some (V.int n)]:St)[0]?=some (some v)/\∃v_1,([some (V.ref a),some (V.int n)]:St)[1]?=some (some v_1)/\∃i,v_1=V.int i/\jB K v none (some i) H Q:=λh=>by
    refine⟨_,rfl,_,rfl,n,rfl,a,_,rfl,hS,λp hp=>k p _ (Same.upd_new hp) hp ?_⟩;rw[aq,<- ht,h]
    have e:d7 (ns.map V.int) none (some (n:Int))=(ns.take n).map V.int:=by unfold d7;rw[HT.sIx_none,HT.sIx_nat,Hx,GO,Fc,Nat.min_eq_left hn,List.map_take]
    rw[e]
   refine⟨_,rfl,_,_,rfl,rfl,_,rfl,?_⟩;refine aM (λhp=>?_) (λhp=>?_)
   ·obtain⟨j,rfl⟩:∃j,n=j+1:=⟨n-1,by have:(0:Int)<n:=hp;omega⟩;have hj:j<ns.length:=hn;refine⟨_,rfl,_,rfl,_,_,rfl,rfl,a,_,j,.int (cf ns j),rfl,?_,hS,fE ?_,_,_,rfl,rfl,_,rfl,?_⟩
    ·show V.int (((j+1:Nat):Int)-1)=V.int j
     congr 1;omega
    ·rw[List.getElem?_map,dX hj];rfl
    refine aM (λh0=>?_) (λh0=>?_)
    ·refine⟨_,λ_ _ h=>h,?_⟩;refine⟨_,rfl,_,_,rfl,rfl,j,GK _,j,G5 hj,?_,rfl,rfl,?_⟩
     ·show[some (V.ref a),some (V.int (((j+1:Nat):Int)-1))]=[some (V.ref a),some (V.int j)]
      congr 4;omega
     ·rw[<- ht,kG hj h0]
    ·exact fin (pQ hj h0)
   ·obtain rfl:n=0:=by have:¬(0:Int)<n:=hp;omega
    exact fin (by rw[List.take_zero];rfl)
theorem zK(F:Fun K "coefficient" "coefficient" lZ f fd)(T:Txt K mg):FnOk P w K mg base CX0 1 f fd ["row","place"] (je K):=by
 refine F.ok xW (λvs H Q E h=>?_) (λcdv A outer s H vs Q E hr h=>?_)
 ·obtain⟨a,ns,k,rfl,_⟩:=h;rfl
 ·obtain⟨a,ns,n,rfl,hS,k⟩:=h
  refine⟨_,(ah (aR (aG cH (pv 1) (ba K T.len_ (aa (pv 0) ag)))
   (al (aA (bD K (pv 0) (pv 1))))
   aQ)
   (al (aA af))),?_⟩
  refine⟨_,rfl,_,rfl,a,_,rfl,.inl hS,_,_,rfl,rfl,_,rfl,?_⟩;refine aM (λh1=>?_) (λh1=>?_)
  ·rw[Fc]at h1;have h2:n<ns.length:=by omega
   refine⟨_,rfl,_,rfl,a,_,_,_,rfl,rfl,hS,fE (v:=.int (ns.getD n 0)) ?_,k⟩;rw[List.getElem?_map,List.getElem?_eq_getElem h2];simp[List.getD,h2]
  ·rw[Fc]at h1;have h2:ns.length<=n:=by omega
   have e:ns.getD n 0=0:=by simp[List.getD,List.getElem?_eq_none_iff.mpr h2]
   rw[e]at k;exact k
theorem zt(F:Fun K "taken" "taken" lF f fd)(T:Txt K mg)(o8:Cal P w K mg base 1 "poly" ["row"] (gs K) Ch B2)(wa:Cal P w K mg base 1 "coefficient" ["row","place"] (je K) EK Ea):FnOk P w K mg base CX0 2 f fd ["first","second"] (qV K bP):=by
 refine F.ok rE (λvs H Q E h=>?_) (λcdv A outer s H vs Q E hr h=>?_)
 ·obtain⟨a,b,xs,ys,rfl,_⟩:=h;rfl
 ·obtain⟨a,b,xs,ys,rfl,hA,hB,hx,hy,k⟩:=h
  refine⟨_,(ah (aj 2 rE (bZ (Da rfl) (by rfl) T.max_ PyProof.Rows.boot_max (aa (ba K T.len_ (aa (pv 0) ag)) (aa (ba K T.len_ (aa (pv 1) ag)) ag))))
   (al (aA (au o8 hr (aa (fi (own:=["k"]) (fr:=["first","second"]) (js:=[0,1]) (by walk_at "comp_ok") rfl (iH rfl T.range_ (aa (pv 2) ag)) (λ_ _ _ _=>(cj (i:=0) (show List.Nodup (["k","first","second"]:List Str)from by decide +kernel) rfl (Or.inl rfl))) (λ_ _ _ _=>(ai aU (au wa hr (aa (pv 1) (aa (pv 0) ag))) (au wa hr (aa (pv 2) (aa (pv 0) ag)))))) ag))))),?_⟩
  refine⟨_,rfl,a,_,rfl,.inl hA,_,rfl,b,_,rfl,.inl hB,_,_,rfl,?_⟩;rw[AT,Fc,Fc];have hz:max xs.length ys.length<=sizeLine:=by have:=sizeLine_eq;omega
  refine⟨_,rfl,_,rfl,(qX hz).1,(qX hz).2,j7 (lo:=0) (n:=max xs.length ys.length) (λi zs σ' H'=>∃z:Option V,σ'=[z,some (.ref a),some (.ref b)]/\zs=((List.range i).map λk=>V.int (cf xs k-cf ys k))/\H=H') hz ⟨none,rfl,rfl,rfl⟩ ?_ ?_ ?_⟩
  ·rintro i zs σ' H' _ ⟨z,rfl,rfl,rfl⟩;simp
  ·rintro i zs σ' H' hi ⟨z,rfl,rfl,rfl⟩;refine⟨_,rfl,_,rfl,a,xs,i,?_,hA,_,rfl,_,rfl,b,ys,i,?_,hB,_,_,rfl,rfl,_,rfl,?_,rfl⟩
   ·show[V.ref a,V.int (0+(i:Int))]=_;rw[GN]
   ·show[V.ref b,V.int (0+(i:Int))]=_;rw[GN]
   ·rw[HR,Fk];rfl
  ·rintro zs σ' H' p ⟨z,rfl,rfl,rfl⟩ hp;refine⟨p,(List.range (max xs.length ys.length)).map λk=>cf xs k-cf ys k,rfl,SqL.of ?_,?_⟩
   ·rw[aq,Fz];rfl
   ·intro p' H' sm hp' e;refine k p' H' ((Same.upd_new hp).trans sm) ((Same.upd_new hp).free hp') ?_;rw[e,xb]
def sp1(g:List Int->List Int):Sp:=λvs H Q _=>∃(a:Addr) (ns:List Int),vs=[.ref a]/\H a=some (.lst (ns.map V.int))/\ns.length<=100000/\AllB 100000 ns/\mkL H Q (g ns)
theorem AD{k:Nat}{n:Nat}(h:n<2^k):Bits k (n:Int):=by show((n:Int)).natAbs<2^k;rw[FU];exact h
theorem qW{n:Nat}(h:n<=1000000):Bits 1000000 (n:Int):=(AD (k:=20) (Gf h (by decide))).mono
theorem yz(f:Nat->V)(i:Nat):(List.range i).map f++[f i]=(List.range (i+1)).map f:=by rw[HR,Fk];rfl
theorem zu(F:Fun K "slope" "slope" lG f fd)(T:Txt K mg):FnOk P w K mg base CX0 1 f fd ["row"] (sp1 slopeL):=by
 refine F.ok xP (λvs H Q E h=>?_) (λcdv A outer s H vs Q E hr h=>?_)
 ·obtain⟨a,ns,rfl,_⟩:=h;rfl
 ·obtain⟨a,ns,rfl,hA,hn,hb,k⟩:=h;have big:=sizeLine_eq;refine⟨_,(al (aA (fi (own:=["k"]) (fr:=["row"]) (js:=[0]) (by walk_at "comp_ok") rfl (sW rfl T.range_ (aa af (aa (ba K T.len_ (aa (pv 0) ag)) ag))) (λ_ _ _ _=>(cj (i:=0) (show List.Nodup (["k","row"]:List Str)from by decide +kernel) rfl (Or.inl rfl))) (λ_ _ _ _=>(ai aE (pv 0) (bD K (pv 1) (pv 0))))))),?_⟩;have hl:(ns.map V.int).length=ns.length:=Fc _;refine cz ⟨_,rfl,a,_,rfl,.inl (SqL.of hA),1,_,rfl,⟨by decide,by decide,by rw[hl];omega,by rw[hl];omega⟩,j7 (lo:=1) (λi ys σ' H'=>∃z:Option V,σ'=[z,some (.ref a)]/\ys=((List.range i).map λ(j:Nat)=>V.int (((j:Int)+1)*cf ns (j+1)))/\H=H') (by rw[hl];omega) ⟨none,rfl,rfl,rfl⟩ ?_ ?_ ?_⟩
  ·rintro i ys σ' H' _ ⟨z,rfl,rfl,rfl⟩;simp
  ·rintro i ys σ' H' hi ⟨z,rfl,rfl,rfl⟩;rw[hl]at hi;have hi':i+1<ns.length:=by omega
   have e0:(1:Int)+(i:Int)=((i+1:Nat):Int):=by omega
   refine⟨_,rfl,_,rfl,_,rfl,a,_,_,_,rfl,rfl,SqL.of hA,gd e0 hi',_,_,rfl,rfl,⟨by rw[e0];exact qW (by omega),(hb.cf _).mono⟩,_,rfl,?_,rfl⟩;rw[<- yz];show _++[V.int ((1+(i:Int))*cf ns (i+1))]=_;rw[Int.add_comm 1]
  ·rintro ys σ' H' p ⟨z,rfl,rfl,rfl⟩ hp;refine k p _ (Same.upd_new hp) hp ?_;have en:(((ns.map V.int).length:Int)-1).toNat=ns.length-1:=by rw[hl];omega
   rw[aq,en];unfold RM.slopeL;rw[Fz];rfl
def kT:Sp:=λvs H Q _=>∃(a:Addr) (xs:List V),vs=[.ref a]/\H a=some (.lst xs)/\Q (.int ((xs.length:Int)-1)) H
theorem zJ(F:Fun K "degree" "degree" lY f fd)(T:Txt K mg):FnOk P w K mg base CX0 1 f fd ["row"] kT:=by
 refine F.ok xV (λvs H Q E h=>?_) (λcdv A outer s H vs Q E hr h=>?_)
 ·obtain⟨a,xs,rfl,_⟩:=h;rfl
 ·obtain⟨a,xs,rfl,hA,k⟩:=h;refine⟨_,(al (aA (ai aU (ba K T.len_ (aa (pv 0) ag)) af))),?_⟩;exact⟨_,rfl,a,_,rfl,.inl (SqL.of hA),_,_,rfl,rfl,k⟩
def qx:Sp:=λvs H Q _=>∃(a:Addr) (xs:List Int) (c:Int),vs=[.ref a,.int c]/\H a=some (.lst (xs.map V.int))/\xs.length<=1000000/\Bits 1000000 c/\AllB 1000000 xs/\mkL H Q (scL c xs)
theorem zz(F:Fun K "scaled" "scaled" lK f fd)(T:Txt K mg):FnOk P w K mg base CX0 1 f fd ["row","factor"] qx:=by
 refine F.ok xR (λvs H Q E h=>?_) (λcdv A outer s H vs Q E hr h=>?_)
 ·obtain⟨a,xs,c,rfl,_⟩:=h;rfl
 ·obtain⟨a,xs,c,rfl,hA,hn,bc,bx,k⟩:=h;have big:=sizeLine_eq;refine⟨_,(al (aA (fi (own:=["value"]) (fr:=["factor"]) (js:=[1]) (by walk_at "comp_ok") rfl (bY (K:=K) rfl (pv 0)) (λ_ _ _ _=>(cj (i:=0) (show List.Nodup (["value","factor"]:List Str)from by decide +kernel) rfl (Or.inl rfl))) (λ_ _ _ _=>(ai aE (pv 1) (pv 0)))))),?_⟩;refine cz ⟨_,rfl,a,rfl,⟨_,SqL.of hA⟩,d8 (K:=K) (a:=a) (xs:=xs.map V.int) (λi ys σ' H'=>∃(z0:Option V),σ'=[z0,some (.int c)]/\ys=(scL c (xs.take i)).map V.int/\H=H') (by rw[Fc];omega) ⟨none,rfl,rfl,rfl⟩ ?_ ?_ ?_⟩
  ·rintro i ys σ' H' _ ⟨z0,rfl,rfl,rfl⟩;exact⟨SqL.of hA,by rw[Fc,aP,FW];exact Gx _ _⟩
  ·rintro i x ys σ' H' hi ⟨z0,rfl,rfl,rfl⟩;obtain⟨y,_,rfl,hm,et⟩:=cK hi;refine⟨_,rfl,_,rfl,_,_,rfl,rfl,⟨bc,bx y hm⟩,_,rfl,?_,rfl⟩;rw[et];simp[scL]
  ·rintro ys σ' H' p ⟨z0,rfl,rfl,rfl⟩ hp;refine k p _ (Same.upd_new hp) hp ?_;rw[aq,Fc,FQ]
theorem vh(ms:List Int):b5 ms none (some (-1))=ms.take (ms.length-1):=by
 unfold b5;rw[HT.sIx_none,Hx,GO]
 congr 1
 show(if(-1:Int)<0 then((-1:Int)+(ms.length:Int)).toNat else min (-1:Int).toNat ms.length)=_;rw[if_pos (by decide)];omega
theorem vB{ms:List Int}{n k:Nat}:cf (ms.take n) k=if k<n then cf ms k else 0:=by
 unfold cf;by_cases h:k<n
 ·rw[if_pos h];simp[List.getD,List.getElem?_take,h]
 ·rw[if_neg h];simp[List.getD,List.getElem?_take,h]
def qJ:Sp:=λvs H Q _=>∃(a b:Addr) (rs ys:List Int) (p:Nat) (l:Int),vs=[.ref a,.ref b,.int p,.int l]/\H a=some (.lst (rs.map V.int))/\H b=some (.lst (ys.map V.int))/\rs.length=p+ys.length/\ys≠[]/\Bits 1000000 l/\AllB 1000000 ys/\mkL H Q (fZ rs ys p l)
theorem zG(F:Fun K "lowered" "lowered" lV f fd)(T:Txt K mg):FnOk P w K mg base CX0 1 f fd ["row","second","place","lead"] qJ:=by
 refine F.ok jn (λvs H Q E h=>?_) (λcdv A outer s H vs Q E hr h=>?_)
 ·obtain⟨a,b,rs,ys,p,l,rfl,_⟩:=h;rfl
 ·obtain⟨a,b,rs,ys,p,l,rfl,hA,hB,hl,hy,bl,by',k⟩:=h;have hyl:=Fh.mpr hy
  refine⟨_,(ah (aj 4 jn (fh (eR (K:=K) rfl) (pv 0) fe (fb (bJ bI af))))
   (ah (bM PassesOwn.never rfl (gP rfl T.enumerate_ (aa (fh (eR (K:=K) rfl) (pv 1) fe (fb (bJ bI af))) ag)) (gR rfl (de (bE 5 jn) (de (bE 6 jn) gQ)))
     (al (gO (ai aU (bD K (pv 4) (ai bC (pv 2) (pv 5))) (ai aE (pv 3) (pv 6))) (gS (pv 4) (ai bC (pv 2) (pv 5)) gz))))
   (al (aA (pv 4))))),?_⟩
  refine ar ⟨_,rfl,_,rfl,_,rfl,a,_,rfl,SqL.of hA,λkp hkp=>?_⟩;rw[ia,vh];have s1:=Same.upd_new (o:=.lst ((rs.take (rs.length-1)).map V.int)) hkp;have nkb:b≠kp:=aN hB hkp;refine⟨_,rfl,_,rfl,_,rfl,b,_,rfl,SqL.of (s1 _ _ hB),λp2 hp2=>?_⟩;rw[ia,vh];have n2:kp≠p2:=aN aq hp2;generalize hH2:upd (upd H kp (.lst ((rs.take (rs.length-1)).map V.int))) p2 (.lst ((ys.take (ys.length-1)).map V.int))=H2;have hk2:H2 kp=some (.lst ((rs.take (rs.length-1)).map V.int)):=by rw[<- hH2,upd_ne n2,aq]
  have hq2:H2 p2=some (.lst ((ys.take (ys.length-1)).map V.int)):=by rw[<- hH2,aq]
  have s2:Same H H2:=by rw[<- hH2];exact s1.then_new hp2
  have lt:(rs.take (rs.length-1)).length=rs.length-1:=by rw[FW];omega
  have lty:(ys.take (ys.length-1)).length=ys.length-1:=by rw[FW];omega
  refine⟨p2,rfl,⟨_,SqL.of hq2⟩,iQ (K:=K) (a:=p2) (xs:=(ys.take (ys.length-1)).map V.int) (λi σ' H'=>∃(acc:List Int) (z5 z6:Option V),σ'=[some (.ref a),some (.ref b),some (.int p),some (.int l),some (.ref kp),z5,z6]/\SameB kp H2 H'/\H' kp=some (.lst (acc.map V.int))/\acc.length=rs.length-1/\∀n,n<acc.length->cf acc n=cf rs n-(if p<=n/\n-p<i then l*cf ys (n-p)else 0))
   ⟨_,none,none,rfl,SameB.refl _ _,hk2,lt,λn hn=>by rw[vB,if_pos (by omega),if_neg (by omega)];omega⟩ ?_ ?_ ?_⟩
  ·rintro i σ' H' _ ⟨acc,z5,z6,rfl,sb,_⟩;exact SqL.of (sb _ _ (Ne.symm n2) hq2)
  ·rintro i x σ' H' q hi ⟨acc,z5,z6,rfl,sb,hpa,hal,hac⟩ hq
   have hil:i<ys.length-1:=by apply Classical.byContradiction;intro hn;rw[List.getElem?_eq_none_iff.mpr (by rw[Fc,lty];omega)]at hi;cases hi
   rw[List.getElem?_map,dX (by rw[lty];exact hil),vB,if_pos hil]at hi;obtain rfl:=Option.some.inj hi;refine⟨q,_,rfl,SqT.of aq,rfl,_,_,rfl,_,_,rfl,rfl,?_⟩;have nqp:kp≠q:=aN hpa hq;have hpa':upd H' q (.tup [.int i,.int (cf ys i)]) kp=some (.lst (acc.map V.int)):=by rw[upd_ne nqp];exact hpa
   have hpi:p+i<acc.length:=by omega
   have epi:((p:Nat):Int)+((i:Nat):Int)=((p+i:Nat):Int):=by omega
   refine⟨_,rfl,_,rfl,_,rfl,_,_,rfl,rfl,kp,_,_,_,rfl,rfl,SqL.of hpa',gd epi hpi,_,rfl,_,rfl,_,_,rfl,rfl,⟨bl,by'.cf i⟩,_,_,rfl,rfl,_,rfl,_,rfl,_,rfl,_,_,rfl,rfl,kp,_,_,p+i,rfl,rfl,hpa',gZ epi (by rw[Fc];exact hpi),?_⟩;refine⟨acc.set (p+i) (cf acc (p+i)-l*cf ys i),_,_,rfl,(sb.then_new hq).then_upd,by rw[aq,gX],by rw[Gr];exact hal,λn hn=>?_⟩;rw[Gr]at hn;rw[fz hpi];by_cases e:n=p+i
   ·subst e;rw[if_pos rfl,hac _ hpi,if_neg (by omega),if_pos (by omega),HU];omega
   ·rw[if_neg e,hac n hn];by_cases h1:p<=n/\n-p<i
    ·rw[if_pos h1,if_pos (by omega)]
    ·rw[if_neg h1,if_neg (by omega)]
  ·rintro σ' H' ⟨acc,z5,z6,rfl,sb,hpa,hal,hac⟩;rw[Fc,lty]at hac;refine⟨_,rfl,k kp H' (λb' o e=>sb b' o (aN e hkp) (s2 b' o e)) hkp ?_⟩;rw[hpa]
   have e:acc=fZ rs ys p l:=by
    apply cL
    ·rw[hal,ue]
    ·intro n hn;have hn':n<rs.length-1:=by omega
     rw[hac n hn,kd,if_pos hn'];by_cases h1:p<=n
     ·have h2:p<=n/\n-p<ys.length-1:=⟨h1,by omega⟩;rw[if_pos h1,if_pos h2]
     ·have h2:¬(p<=n/\n-p<ys.length-1):=λz=>h1 z.1
      rw[if_neg h1,if_neg h2]
   rw[e]
theorem AllB.of_cf{k:Nat}{l:List Int}(h:∀n,Bits k (RM.cf l n)):AllB k l:=λx hx=>by
 obtain⟨i,hi,rfl⟩:=List.mem_iff_getElem.mp hx;have:=h i
 rwa [ce hi]at this
theorem iT{k:Nat}{x:Int}(h:Bits k x):Bits k ((x.natAbs:Nat):Int):=h.of_le (by rw[FU];exact Fg _)
theorem sg_bits{x:Int}:Bits 1 (sg x):=by show(sg x).natAbs<2^1;unfold sg;split<;>(try split)<;>decide
theorem fN{k:Nat}{x y:Int}(h:Bits k y):Bits k (sg x*y):=h.of_le (by
 rw[Fs];have h2:(sg x).natAbs<=1:=by unfold sg;split<;>(try split)<;>decide
 calc (sg x).natAbs*y.natAbs<=1*y.natAbs:=Ga _ h2
  _=y.natAbs:=Nat.one_mul _)
theorem u4{xs ys:List Int}{b:Nat}(hx:AllB b xs)(hy:AllB b ys):∀i,AllB (b+i*(b+1)) (aL xs ys i).1/\AllB (b+i*(b+1)) (aL xs ys i).2
 |0=>by rw[Nat.zero_mul];exact⟨AllB.zeros,hx⟩
 |i+1=>by
  obtain⟨h1,h2⟩:=u4 hx hy i;have e:b+(i+1)*(b+1)=b+i*(b+1)+b+1:=by rw[G6];omega
  have hs:Bits b (((RM.cf ys (ys.length-1)).natAbs:Nat):Int):=iT (hy.cf _);rw[e];show AllB _ (cc ys (aL xs ys i) _).1/\AllB _ (cc ys (aL xs ys i) _).2;unfold cc;dsimp only
  constructor
  ·intro x hx;rcases List.mem_or_eq_of_mem_set hx with h |rfl
   ·obtain⟨y,hy',rfl⟩:=Fe.mp h;have:=hs.mul (h1 y hy');exact this.mono (by omega)
   ·exact(fN (h2.cf _)).mono (by omega)
  ·refine AllB.of_cf λn=>?_
   rw[kd];by_cases hn:n<(scL (((RM.cf ys (ys.length-1)).natAbs:Nat):Int) (aL xs ys i).2).length-1
   ·rw[if_pos hn,aD]
    have m1:Bits (b+i*(b+1)+b) ((((RM.cf ys (ys.length-1)).natAbs:Nat):Int)*RM.cf (aL xs ys i).2 n):=by have:=hs.mul (h2.cf n);rwa [GA]at this
    refine m1.sub ?_;by_cases hp:(xs.length+1-ys.length-1-i)<=n
    ·rw[if_pos hp];exact(fN (h2.cf _)).mul (hy.cf _)
    ·rw[if_neg hp];exact Bits.zero
   ·rw[if_neg hn];exact Bits.zero
theorem gb{k:Nat}{b:Int}(h:Bits k b):∀n,Bits (k*n+1) (b^n)
 |0=>by show((b^0:Int)).natAbs<2^(k*0+1);rw[Gg,Nat.mul_zero];decide
 |n+1=>by rw[Fw];have:=(gb h n).mul h;exact this.mono (by rw[Nat.mul_succ];omega)
def AR(H:Hp)(Q:VK)(xs ys:List Int):Prop:=∀(t q r:Addr) (H':Hp),Same H H'->H t=none->H q=none->H r=none->q≠r->q≠t->r≠t->H' t=some (.tup [.int (aS xs ys),.ref q,.ref r])->H' q=some (.lst ((bh xs ys).map V.int))->H' r=some (.lst ((aF xs ys).map V.int))->Q (.ref t) H'
def qQ:Sp:=λvs H Q _=>∃(a b:Addr) (xs ys:List Int) (n:Nat),vs=[.ref a,.ref b]/\H a=some (.lst (xs.map V.int))/\H b=some (.lst (ys.map V.int))/\ys≠[]/\AllB n xs/\AllB n ys/\(xs.length+2)*(n+1)<=1000000/\ys.length<=1000000/\AR H Q xs ys
theorem eJ{l:List Int}(h:l≠[]):atI (l.map V.int) (-1)=some (.int (cf l (l.length-1))):=by
 obtain⟨r,x,rfl⟩:=(bX l).resolve_left h;have e:(r++[x]).length-1=r.length:=by simp
 rw[e,ga,Fk];exact oR _ _
theorem zI(F:Fun K "divided" "divided" lX f fd)(T:Txt K mg)(o5:Cal P w K mg base 1 "whole_sign" ["value"] kQ Cf BZ)(kx:Cal P w K mg base 1 "degree" ["row"] kT Ci B3)(v9:Cal P w K mg base 1 "scaled" ["row","factor"] qx EE D4)(DG:Cal P w K mg base 1 "lowered" ["row","second","place","lead"] qJ EI D8)(o8:Cal P w K mg base 1 "poly" ["row"] (gs K) Ch B2):FnOk P w K mg base CX0 2 f fd ["first","second"] qQ:=by
 refine F.ok da (λvs H Q E h=>?_) (λcdv A outer s H vs Q E hr h=>?_)
 ·obtain⟨a,b,xs,ys,n,rfl,_⟩:=h;rfl
 ·obtain⟨a,b,xs,ys,nb,rfl,hA,hB,hy,bx,by',hsz,hyn,k⟩:=h;have big:=sizeLine_eq;have hu:=hr.units;have hyl:=Fh.mpr hy
  have hxl:xs.length<=1000000:=by have:=Gu (xs.length+2) (show 1<=nb+1 by omega);omega
  have bsz:∀i,i<=xs.length->nb+i*(nb+1)<=1000000:=λi hi=>by have h1:=Ga (nb+1) hi;rw[Nat.add_mul]at hsz;omega
  have hnb:nb<=1000000:=by have:=bsz 0 (Fj _);omega
  refine⟨_,(ah (aR (aG (tu (K:=K) rfl hu) (pv 1) (bK ag))
   (al sL)
   aQ)
   (ah (aj 2 da (bZ dq (by rfl) T.abs_ PyProof.Rows.boot_abs (aa (bD K (pv 1) (bJ bI af)) ag)))
   (ah (aj 3 da (au o5 hr (aa (bD K (pv 1) (bJ bI af)) ag)))
   (ah (aj 4 da (ai bC (ai aU (au kx hr (aa (pv 0) ag)) (au kx hr (aa (pv 1) ag))) af))
   (ah (aj 5 da af)
   (ah (aj 6 da (ai zi (bK (aa af ag)) (pv 4)))
   (ah (aj 7 da (fj (kg (K:=K) rfl) (by rfl) T.list_ PyProof.Rows.boot_list (aa (pv 0) ag)))
   (ah (bM PassesOwn.never rfl (yY rfl T.range_ (aa (ai aU (pv 4) af) (aa (bJ bI af) (aa (bJ bI af) ag)))) (bE 8 da)
     (ah (aj 9 da (ai aE (pv 3) (bD K (pv 7) (bJ bI af))))
       (ah (aj 5 da (ai aE (pv 5) (pv 2)))
       (ah (aj 6 da (au v9 hr (aa (pv 6) (aa (pv 2) ag))))
       (ah (gO (pv 9) (gS (pv 6) (pv 8) gz))
       (al (aj 7 da (au DG hr (aa (au v9 hr (aa (pv 7) (aa (pv 2) ag))) (aa (pv 1) (aa (pv 8) (aa (pv 9) ag))))))))))))
   (al (aA (ck (aa (pv 5) (aa (pv 6) (aa (au o8 hr (aa (pv 7) ag)) ag)))))))))))))),?_⟩
  refine bQ ⟨_,rfl,Fj _,λp1 hp1=>?_⟩;have s1:Same H (upd H p1 (.lst [])):=Same.upd_new hp1;refine⟨b,p1,ys,[],rfl,rfl,SqL.of (s1 _ _ hB),SqL.of aq,_,rfl,aM (λh0=>absurd h0 hy) (λ_=>?_)⟩;generalize upd H p1 (.lst [])=H1 at s1 ⊢
  refine ar ⟨_,rfl,_,rfl,b,_,_,_,rfl,rfl,SqL.of (s1 _ _ hB),eJ hy,_,rfl,?_⟩;rw[du];refine ar ⟨_,rfl,_,rfl,b,_,_,_,rfl,rfl,SqL.of (s1 _ _ hB),eJ hy,_,rfl,?_⟩;refine ar ⟨_,rfl,a,_,rfl,s1 _ _ hA,_,rfl,b,_,rfl,s1 _ _ hB,_,_,rfl,rfl,_,_,rfl,rfl,?_⟩;dsimp only
  rw[Fc,Fc];have est:((xs.length:Int)-1-((ys.length:Int)-1)+1).toNat=aW xs ys:=by unfold aW;omega
  generalize hst:((xs.length:Int)-1-((ys.length:Int)-1)+1)=st at est ⊢
  refine ar ?_;refine ar ⟨by show 1<=sizeLine;decide,λp2 hp2=>⟨_,rfl,p2,_,_,rfl,rfl,aq,by omega,by omega,by show 1*_<=_;omega,λq hq=>?_⟩⟩;rw[est,yo];have s2:=s1.then_new (o:=.lst [V.int 0]) hp2;have s3:=s2.then_new (o:=.lst ((List.replicate (aW xs ys) (0:Int)).map V.int)) hq;have fq:H q=none:=s2.free hq;refine ar ⟨_,rfl,a,_,rfl,.inl (SqL.of (s3 _ _ hA)),λr hr'=>?_⟩;have hq3:upd (upd H1 p2 (.lst [V.int 0])) q (.lst ((List.replicate (aW xs ys) (0:Int)).map V.int)) q=some (.lst ((List.replicate (aW xs ys) (0:Int)).map V.int)):=aq;have s4:=s3.then_new (o:=.lst (xs.map V.int)) hr';have fr:H r=none:=s3.free hr';have nqr:q≠r:=aN hq3 hr';generalize hH4:upd (upd (upd H1 p2 (.lst [V.int 0])) q (.lst ((List.replicate (aW xs ys) (0:Int)).map V.int))) r (.lst (xs.map V.int))=H4 at s4 ⊢
  have hq4:H4 q=some (.lst ((List.replicate (aW xs ys) (0:Int)).map V.int)):=by rw[<- hH4,upd_ne nqr];exact hq3
  have hr4:H4 r=some (.lst (xs.map V.int)):=by rw[<- hH4,aq]
  have hs:Bits nb (((cf ys (ys.length-1)).natAbs:Nat):Int):=iT (by'.cf _);refine⟨_,rfl,_,_,rfl,rfl,_,rfl,_,rfl,st-1,-1,rfl,by omega,?_⟩;have en:(st-1 - -1).toNat=aW xs ys:=by rw[<- est];congr 1;omega
  rw[en]
  refine uC (λi σ' H'=>∃(q r:Addr) (z8 z9:Option V),σ'=[some (.ref a),some (.ref b),some (.int ((cf ys (ys.length-1)).natAbs:Nat)),some (.int (sg (cf ys (ys.length-1)))),some (.int st),some (.int (((cf ys (ys.length-1)).natAbs:Int)^i)),some (.ref q),some (.ref r),z8,z9]/\Same H H'/\H q=none/\H r=none/\q≠r/\H' q=some (.lst ((aL xs ys i).1.map V.int))/\H' r=some (.lst ((aL xs ys i).2.map V.int)))
   ⟨q,r,none,none,rfl,s4,fq,fr,nqr,hq4,hr4⟩ ?_ ?_
  ·rintro i σ' H' hi ⟨q,r,z8,z9,rfl,sm,fq,fr,nqr,hq',hr'⟩;obtain⟨lq,lr,low,_⟩:=f7 (a:=xs) hy i (G5 hi);obtain⟨bq,br⟩:=u4 bx by' i;have hix:i<xs.length:=by unfold aW at hi;omega
   have bi:=bsz i (G5 hix);have rne:(aL xs ys i).2≠[]:=λz=>by rw[z]at lr;simp at lr;omega
   have ep:st-1+(i:Int) * -1=((xs.length+1-ys.length-1-i:Nat):Int):=by unfold aW at hi est;omega
   refine ar ⟨_,rfl,_,rfl,_,rfl,r,_,_,_,rfl,rfl,SqL.of hr',eJ rne,_,_,rfl,rfl,⟨sg_bits.mono,(br.cf _).mono bi⟩,?_⟩
   have bpow:Bits 1000000 (((cf ys (ys.length-1)).natAbs:Int)^i):=(gb hs i).mono (by
    have:=Ga i (show nb<=nb+1 by omega);rw[Hn (nb+1) i]at this;have h2:=bsz (i+1) hix;rw[G6]at h2
    omega)
   refine ar ⟨_,rfl,_,rfl,_,_,rfl,rfl,⟨bpow,hs.mono hnb⟩,?_⟩;dsimp only
   rw[<- Fw];refine ar ⟨_,rfl,_,rfl,q,_,_,rfl,hq',by rw[lq];omega,hs.mono hnb,bq.mono bi,λq1 H2 sm2 hq1 eq1=>?_⟩;have fq1:H q1=none:=sm.free hq1;have sm2':=sm.trans sm2;have hpl:xs.length+1-ys.length-1-i<(scL ((cf ys (ys.length-1)).natAbs:Int) (aL xs ys i).1).length:=by rw[aP,lq];unfold aW at hi;omega
   refine⟨_,rfl,_,rfl,_,rfl,q1,_,_,_,rfl,rfl,eq1,gZ ep (by rw[Fc];exact hpl),?_⟩;rw[gX];have sm3:Same H (upd H2 q1 (.lst (((scL ((cf ys (ys.length-1)).natAbs:Int) (aL xs ys i).1).set (xs.length+1-ys.length-1-i) (sg (cf ys (ys.length-1))*cf (aL xs ys i).2 ((aL xs ys i).2.length-1))).map V.int))):=cT sm2' fq1;have nq1r:q1≠r:=λz=>by rw[z,hr']at hq1;cases hq1
   have hr3:upd H2 q1 (.lst (((scL ((cf ys (ys.length-1)).natAbs:Int) (aL xs ys i).1).set (xs.length+1-ys.length-1-i) (sg (cf ys (ys.length-1))*cf (aL xs ys i).2 ((aL xs ys i).2.length-1))).map V.int)) r=some (.lst ((aL xs ys i).2.map V.int)):=by rw[upd_ne (Ne.symm nq1r)];exact sm2 _ _ hr'
   have hq3:upd H2 q1 (.lst (((scL ((cf ys (ys.length-1)).natAbs:Int) (aL xs ys i).1).set (xs.length+1-ys.length-1-i) (sg (cf ys (ys.length-1))*cf (aL xs ys i).2 ((aL xs ys i).2.length-1))).map V.int)) q1=some (.lst (((scL ((cf ys (ys.length-1)).natAbs:Int) (aL xs ys i).1).set (xs.length+1-ys.length-1-i) (sg (cf ys (ys.length-1))*cf (aL xs ys i).2 ((aL xs ys i).2.length-1))).map V.int)):=aq;generalize upd H2 q1 (.lst (((scL ((cf ys (ys.length-1)).natAbs:Int) (aL xs ys i).1).set (xs.length+1-ys.length-1-i) (sg (cf ys (ys.length-1))*cf (aL xs ys i).2 ((aL xs ys i).2.length-1))).map V.int))=H3 at sm3 hr3 hq3 ⊢
   refine⟨_,rfl,_,rfl,r,_,_,rfl,hr3,by rw[lr];omega,hs.mono hnb,br.mono bi,λr1 H5 sm5 hr1 er1=>?_⟩;have sm35:=sm3.trans sm5;refine⟨_,rfl,_,rfl,_,rfl,r1,b,_,_,(xs.length+1-ys.length-1-i),sg (cf ys (ys.length-1))*cf (aL xs ys i).2 ((aL xs ys i).2.length-1),?_,er1,sm35 _ _ hB,?_,hy,(fN (br.cf _)).mono bi,by'.mono hnb,λr2 H6 sm6 hr2 er2=>?_⟩
   ·rw[<- ep];rfl
   ·rw[aP,lr];unfold aW at hi;omega
   ·have nqr2:q1≠r2:=λz=>by rw[<- z,sm5 _ _ hq3]at hr2;cases hr2
    exact⟨q1,r2,_,_,rfl,sm35.trans sm6,fq1,sm35.free hr2,nqr2,sm6 _ _ (sm5 _ _ hq3),er2⟩
  ·rintro σ' H' ⟨q,r,z8,z9,rfl,sm,fq,fr,nqr,hq',hr'⟩;refine⟨_,rfl,_,rfl,_,rfl,r,_,rfl,SqL.of hr',λr1 H2 sm2 hr1 er1=>⟨by show 3<=sizeLine;decide,λt ht=>?_⟩⟩;have nqr1:q≠r1:=λz=>by rw[<- z,hq']at hr1;cases hr1
   have ntq:q≠t:=aN (sm2 _ _ hq') ht;have ntr:r1≠t:=aN er1 ht;refine k t q r1 _ ((sm.trans sm2).then_new ht) ((sm.trans sm2).free ht) fq (sm.free hr1) nqr1 ntq ntr aq ?_ ?_
   ·rw[upd_ne ntq];exact sm2 _ _ hq'
   ·rw[upd_ne ntr];exact er1
theorem Df{k:Nat}{z B:Int}(h0:0<=z)(h:z<=B)(hb:Bits k B):Bits k z:=hb.of_le (by omega)
def Fit(one other:List Int):Prop:=Tr one/\Tr other/\∃n,AllB n one/\AllB n other/\(one.length+2)*(n+1)<=1000000/\other.length<=1000000
noncomputable def Run:Nat->List Int->List Int->Prop
 |0,one,_=>one=[]
 |n+1,one,other=>one=[]\/(Fit one other/\Run n other (nxt one other))
def tX(H:Hp)(Q:VK)(xss:List (List Int)):Prop:=∀(l:Addr) (ps:List Addr) (H':Hp),Same H H'->H l=none->(∀p∈ps,H p=none/\p≠l)->H' l=some (.lst (ps.map V.ref))->RwH H' ps xss->Q (.ref l) H'
theorem RwH.upd_ne{H:Hp}{ps:List Addr}{xss:List (List Int)}{a:Addr}{o:HO}(h:RwH H ps xss)(hn:∀p∈ps,p≠a):RwH (upd H a o) ps xss:=⟨h.1,λi p xs e1 e2=>by rw[L2.upd_ne (hn p (List.mem_of_getElem? e1))];exact h.2 i p xs e1 e2⟩
def qA:Sp:=λvs H Q _=>∃(a b:Addr) (xs ys:List Int) (n:Nat),vs=[.ref a,.ref b]/\H a=some (.lst (xs.map V.int))/\H b=some (.lst (ys.map V.int))/\Tr xs/\Tr ys/\xs.length<=1000/\ys.length<=1000/\n<=1000/\Run n (ae xs) (ae ys)/\tX H Q (aI n (ae xs) (ae ys))
theorem zB(F:Fun K "row_from" "row_from" lM f fd)(T:Txt K mg)(o6:Cal P w K mg base 33 "shrunk" ["row"] gt EC D2)(DH:Cal P w K mg base 2 "divided" ["first","second"] qQ EJ D9)(Dy:Cal P w K mg base 2 "taken" ["first","second"] (qV K bP) Ez DY):FnOk P w K mg base CX0 34 f fd ["first","second"] qA:=by
 refine F.ok fO (λvs H Q E h=>?_) (λcdv A outer s H vs Q E hr h=>?_)
 ·obtain⟨a,b,xs,ys,n,rfl,_⟩:=h;rfl
 ·obtain⟨a,b,xs,ys,n,rfl,hA,hB,xtr,ytr,hx,hy,hn,hrun,k⟩:=h;have big:=sizeLine_eq;have hu:=hr.units
  refine⟨_,(ah (aj 2 fO (bK ag))
   (ah (aj 3 fO (au o6 hr (aa (pv 0) ag)))
   (ah (aj 4 fO (au o6 hr (aa (pv 1) ag)))
   (ah (dB PassesOwn.never (aG (sZ (K:=K) rfl hu) (pv 3) (bK ag))
     (ah (dQ (dS (pv 2) (aa (pv 3) ag)))
       (ah (aj 5 fO (y9 (aG (tu (K:=K) rfl hu) (pv 4) (bK ag)) (bK ag) (aK K (au DH hr (aa (pv 3) (aa (pv 4) ag))) af)))
       (ah (aj 3 fO (pv 4))
       (al (aj 4 fO (au o6 hr (aa (au Dy hr (aa (bK ag) (aa (pv 5) ag))) ag))))))))
   (al (aA (pv 2))))))),?_⟩
  refine ar ⟨Fj _,λl hl=>?_⟩;have s1:=Same.upd_new (o:=.lst []) hl;have hl1:upd H l (.lst []) l=some (.lst (([]:List Addr).map V.ref)):=aq;generalize upd H l (.lst [])=H1 at s1 hl1 ⊢
  refine ar ⟨_,rfl,a,xs,rfl,s1 _ _ hA,xtr,by omega,λp1 H2 sm2 hp1 e1=>?_⟩;have s2:=s1.trans sm2;refine ar ⟨_,rfl,b,ys,rfl,s2 _ _ hB,ytr,by omega,λp2 H3 sm3 hp2 e2=>?_⟩;have s3:=s2.trans sm3;have n1l:p1≠l:=λz=>by rw[z,hl1]at hp1;cases hp1
  have n2l:p2≠l:=λz=>by rw[z,sm2 _ _ hl1]at hp2;cases hp2
  generalize ae xs=one' at hrun k e1
  generalize ae ys=other at hrun k e2
  refine⟨λm σ' H'=>∃(po pt:Addr) (one other':List Int) (ps:List Addr) (acc:List (List Int)) (z5:Option V),σ'=[some (.ref a),some (.ref b),some (.ref l),some (.ref po),some (.ref pt),z5]/\Same H H'/\H' l=some (.lst (ps.map V.ref))/\RwH H' ps acc/\(∀p∈ps,H p=none/\p≠l)/\H' po=some (.lst (one.map V.int))/\H' pt=some (.lst (other'.map V.int))/\H po=none/\H pt=none/\po≠l/\pt≠l/\Run m one other'/\acc++aI m one other'=aI n one' other/\ps.length+m<=1000,
   ⟨_,p1,p2,one',other,[],[],none,rfl,s3,sm3 _ _ (sm2 _ _ hl1),RwH.nil,(λp hp=>nomatch hp),sm3 _ _ e1,e2,s1.free hp1,s2.free hp2,n1l,n2l,hrun,rfl,by show 0+n<=1000;omega⟩,?_⟩
  rintro m σ' H4 ⟨po,pt,one,other',ps,acc,z5,rfl,s4,hl4,hR4,hf4,ho4,ht4,fo,ft,nol,ntl,hrun4,hacc,hlen⟩;refine⟨_,rfl,Fj _,λq hq=>?_⟩;have t5:=Same.upd_new (o:=.lst []) hq;refine⟨po,q,one,[],rfl,rfl,SqL.of (t5 _ _ ho4),SqL.of aq,_,rfl,dN (λhne=>?_) (λhe=>?_)⟩
  rotate_left
  ·have he':one=[]:=he;subst he';rw[gG,Gy]at hacc;refine⟨_,rfl,k l ps _ (s4.trans t5) hl hf4 (t5 _ _ hl4) ?_⟩;rw[<- hacc];exact hR4.same t5
  have hne':one≠[]:=hne
  obtain⟨m1,rfl⟩:∃m1,m=m1+1:=by
   cases m with
   |zero=>exact absurd hrun4 hne'
   |succ m1=>exact⟨m1,rfl⟩
  obtain⟨⟨otr,ttr,nb,bo,bt,hsz,htl⟩,hrun5⟩:=(show one=[]\/(Fit one other'/\Run m1 other' (nxt one other'))from hrun4).resolve_left hne'
  have hacc5:(acc++[one])++aI m1 other' (nxt one other')=aI n one' other:=by rw[<- hacc];show _=acc++(if one=[]then[]else one::aI m1 other' (nxt one other'));rw[if_neg hne',Fy];rfl
  generalize hH5:upd H4 q (.lst [])=H5 at t5 ⊢
  refine⟨_,λ_ _ h=>h,?_⟩;have hl5:=t5 _ _ hl4;refine gH ⟨_,rfl,.inl ⟨rfl,_,SqL.of hl5⟩,_,rfl,l,_,_,rfl,rfl,hl5,by rw[Fc];omega,?_⟩;rw[fY];have s6:Same H (upd H5 l (.lst ((ps++[po]).map V.ref))):=cT (s4.trans t5) hl;have hl6:upd H5 l (.lst ((ps++[po]).map V.ref)) l=some (.lst ((ps++[po]).map V.ref)):=aq
  have hf6:∀p∈ps++[po],H p=none/\p≠l:=λp hp=>by
   rcases Fq.mp hp with h |h
   ·exact hf4 p h
   ·rw[Fv.mp h];exact⟨fo,nol⟩
  have hR6:RwH (upd H5 l (.lst ((ps++[po]).map V.ref))) (ps++[po]) (acc++[one]):=((hR4.same t5).snoc (t5 _ _ ho4)).upd_ne λp hp=>(hf6 p hp).2
  have ho6:upd H5 l (.lst ((ps++[po]).map V.ref)) po=some (.lst (one.map V.int)):=by rw[L2.upd_ne nol];exact t5 _ _ ho4
  have ht6:upd H5 l (.lst ((ps++[po]).map V.ref)) pt=some (.lst (other'.map V.int)):=by rw[L2.upd_ne ntl];exact t5 _ _ ht4
  generalize upd H5 l (.lst ((ps++[po]).map V.ref))=H6 at s6 hl6 hR6 ho6 ht6 ⊢
  refine iB (λσ' H'=>∃pr:Addr,σ'=[some (.ref a),some (.ref b),some (.ref l),some (.ref po),some (.ref pt),some (.ref pr)]/\Same H6 H'/\H' pr=some (.lst ((rst one other').map V.int))) ?_ ?_
  case refine_2 =>
   intro rest;refine ci (yr ⟨_,rfl,Fj _,λq2 hq2=>?_⟩);have t7:=Same.upd_new (o:=.lst []) hq2;refine⟨pt,q2,other',[],rfl,rfl,SqL.of (t7 _ _ ht6),SqL.of aq,_,rfl,aM (λh0=>?_) (λh0=>?_)⟩
   ·have h0':other'=[]:=h0;refine⟨Fj _,λq3 hq3=>rest _ _ ⟨q3,rfl,t7.then_new hq3,?_⟩⟩;rw[aq];unfold rst;rw[if_pos h0'];rfl
   ·have h0':other'≠[]:=h0;refine⟨_,rfl,_,rfl,po,pt,one,other',nb,rfl,t7 _ _ ho6,t7 _ _ ht6,h0',bo,bt,hsz,htl,λt q' r H8 sm8 _ _ _ _ _ _ et _ er=>?_⟩;refine⟨t,_,_,_,rfl,rfl,SqT.of et,rfl,rest _ _ ⟨r,rfl,t7.trans sm8,?_⟩⟩;rw[er];unfold rst;rw[if_neg h0']
  rintro σ' H8 ⟨pr,rfl,t8,hr8⟩;refine ar ⟨_,rfl,?_⟩;refine ci ⟨Fj _,λq hq=>?_⟩;have t9:=t8.then_new (o:=.lst []) hq
  have hrl:(rst one other').length<=1000000:=by
   unfold rst;split
   ·exact Fj _
   ·rename_i h0
    have:=d4 (a:=one) h0;omega
  refine⟨_,rfl,q,pr,[],rst one other',rfl,SqL.of aq,SqL.of (by rw[L2.upd_ne (aN hr8 hq)];exact hr8),Fj _,hrl,λp9 H9 sm9 hp9 e9=>?_⟩;have hsl:(bP [] (rst one other')).length<=1000000:=Fu (jS _) (by unfold cE;rw[Fc,Gk];exact Nat.max_le.mpr ⟨Fj _,hrl⟩);refine⟨p9,_,rfl,e9,dw _,hsl,λp10 H10 sm10 hp10 e10=>?_⟩;have t10:Same H6 H10:=(t9.trans sm9).trans sm10;have f10:H6 p10=none:=(t9.trans sm9).free hp10;refine⟨m1,GK _,pt,p10,other',nxt one other',ps++[po],acc++[one],_,rfl,s6.trans t10,t10 _ _ hl6,hR6.same t10,hf6,t10 _ _ ht6,e10,ft,s6.free f10,ntl,(λz=>by rw[z,hl6]at f10;cases f10),hrun5,hacc5,by rw[Fd];show ps.length+1+m1<=1000;omega⟩
def qz:Sp:=λvs H Q _=>∃(a:Addr) (xs:List Int) (n:Nat),vs=[.ref a]/\H a=some (.lst (xs.map V.int))/\Tr xs/\AllB 90000 xs/\xs.length<=1000/\n<=1000/\Run n (ae xs) (ae (slopeL xs))/\tX H Q (aI n (ae xs) (ae (slopeL xs)))
theorem pS{xs:List Int}(h:Tr xs):Tr (slopeL xs):=by
 intro n hn;unfold slopeL at *
 rw[Fc,Gk]at hn;rw[fB,if_pos (by omega)];exact Ft (by omega) (h (n+1) (by omega))
theorem zA(F:Fun K "row_of" "row_of" lL f fd)(T:Txt K mg)(DE:Cal P w K mg base 34 "row_from" ["first","second"] qA EG D6)(Dz:Cal P w K mg base 1 "slope" ["row"] (sp1 slopeL) EA DZ):FnOk P w K mg base CX0 35 f fd ["polynomial"] qz:=by
 refine F.ok xS (λvs H Q E h=>?_) (λcdv A outer s H vs Q E hr h=>?_)
 ·obtain⟨a,xs,n,rfl,_⟩:=h;rfl
 ·obtain⟨a,xs,n,rfl,hA,xtr,bx,hx,hn,hrun,k⟩:=h;refine⟨_,(al (aA (au DE hr (aa (pv 0) (aa (au Dz hr (aa (pv 0) ag)) ag))))),?_⟩;refine cz ⟨_,rfl,_,rfl,a,xs,rfl,hA,by omega,bx.mono,λp H1 s1 hp e1=>?_⟩;have hsl:(slopeL xs).length<=1000:=by unfold slopeL;rw[Fc,Gk];omega
  exact⟨a,p,xs,slopeL xs,n,rfl,s1 _ _ hA,e1,xtr,pS xtr,hx,hsl,hn,hrun,λl ps H' sm hl hf e r=>k l ps H' (s1.trans sm) (s1.free hl) (λp hp=>⟨s1.free (hf p hp).1,(hf p hp).2⟩) e r⟩
def Vp(C:Addr)(H:Hp)(vs:List V)(a r:Addr)(ns:List Int)(t b:Int):Prop:=vs=[.ref a,.ref r]/\H a=some (.lst (ns.map V.int))/\RA C H r t b/\ns.length<=20/\AllB 95000 ns/\Bits 5000 t/\Bits 5000 b
def VpI(H:Hp)(vs:List V)(a:Addr)(ns:List Int)(t b:Int):Prop:=vs=[.ref a,.int t,.int b]/\H a=some (.lst (ns.map V.int))/\ns.length<=20/\AllB 95000 ns/\Bits 5000 t/\Bits 5000 b
def qt:Sp:=λvs H Q _=>∃(a:Addr) (ns:List Int) (t b:Int),VpI H vs a ns t b/\∀(p:Addr) (H':Hp),Same H H'->H p=none->H' p=some (.tup [.int (hv t b ns),.int (b^ns.length)])->Q (.ref p) H'
theorem uv{t b:Int}(bt:Bits 5000 t)(bb:Bits 5000 b):∀{l:List Int},AllB 95000 l->Bits (95000+1+(5000+1)*l.length) (hv t b l)
 | [],_=>by refine Bits.mono (j:=1) ?_ (by omega);show(0:Int).natAbs<2^1;decide
 |v::l,h=>by
  rw[di];have h1:=h v (Fl ..);have h2:=uv bt bb (l:=l) λx hx=>h x (Fi _ hx)
  have e1:=(h1.mul (gb bb (l.length+1))).mono (k:=95000+1+(5000+1)*l.length+5000) (by omega);have e2:=(bt.mul h2).mono (k:=95000+1+(5000+1)*l.length+5000) (by omega);exact(e1.add e2).mono (by rw[Ff];omega)
theorem zr(F:Fun K "value_parts" "value_parts" lE f fd)(T:Txt K mg):FnOk P w K mg base CX0 1 f fd ["row","top","bottom"] qt:=by
 refine F.ok gA (λvs H Q E h=>?_) (λcdv A outer s H vs Q E hr h=>?_)
 ·obtain⟨a,ns,t,b,⟨rfl,_⟩,_⟩:=h;rfl
 ·obtain⟨a,ns,t,b,⟨rfl,hA,hn,hb,bt,bb⟩,k⟩:=h
  refine⟨_,(ah (aj 3 gA af)
   (ah (aj 4 gA af)
   (ah (bM PassesOwn.never rfl (sV rfl T.reversed_ (aa (pv 0) ag)) (bE 5 gA)
     (ah (aj 4 gA (ai aE (pv 4) (pv 2)))
       (al (aj 3 gA (ai bC (ai aE (pv 3) (pv 1)) (ai aE (pv 5) (pv 4)))))))
   (al (aA (ck (aa (pv 3) (aa (pv 4) ag)))))))),?_⟩
  have hl:(ns.map V.int).length=ns.length:=Fc _;refine ar ?_;refine ar ?_;refine⟨_,rfl,a,_,rfl,SqL.of hA,uB (K:=K) (a:=a) (xs:=ns.map V.int) (λi σ' H'=>∃z:Option V,σ'=[some (.ref a),some (.int t),some (.int b),some (.int (hv t b (ns.drop (ns.length-i)))),some (.int (b^i)),z]/\H=H') ⟨none,?_,rfl⟩ ?_ ?_ ?_⟩
  ·rw[GO,List.drop_length,Gg];rfl
  ·rintro i σ' H' _ ⟨z,rfl,rfl⟩;exact SqL.of hA
  ·rintro i x σ' H' hi hx ⟨z,rfl,rfl⟩;rw[hl]at hi hx;obtain⟨c,ec,rfl,hc,_⟩:=cK hx;have hi':i<ns.length:=hi;have e1:ns.length-(i+1)=ns.length-1-i:=by omega
   have hd:=Cy t b (l:=ns) (n:=ns.length-1-i) (by omega);have e2:ns.length-1-i+1=ns.length-i:=by omega
   have e3:ns.length-(ns.length-1-i)=i+1:=by omega
   rw[e2,e3,oM ec]at hd;have bs:=uv bt bb (l:=ns.drop (ns.length-i)) λx hx=>hb x (List.mem_of_mem_drop hx)
   rw[Hm]at bs;have bp:=gb bb i;have bq:=gb bb (i+1);refine⟨_,rfl,_,rfl,_,_,rfl,rfl,⟨bp.mono (by omega),bb.mono⟩,?_⟩;refine⟨_,rfl,_,rfl,_,_,rfl,rfl,⟨bs.mono (by omega),bt.mono⟩,_,rfl,_,rfl,_,_,rfl,rfl,⟨(hb c hc).mono,?_⟩,_,_,rfl,rfl,?_⟩
   ·show Bits 1000000 (b^i*b);rw[<- Fw];exact bq.mono (by omega)
   refine⟨some (.int c),?_,rfl⟩;rw[e1,hd,Fw b i,Int.add_comm,FO t];rfl
  ·rintro σ' H' ⟨z,rfl,rfl⟩;rw[hl,GZ,Hx];exact⟨_,rfl,_,rfl,by show 2<=sizeLine;decide,λp hp=>k p _ (Same.upd_new hp) hp aq⟩
def qy(C:Addr):Sp:=λvs H Q _=>∃(a r:Addr) (ns:List Int) (t b:Int),Vp C H vs a r ns t b/\∀H',Same H H'->Q (.int (sg (hv t b ns))) H'
theorem zv(F:Fun K "sign_at" "sign_at" lH f fd)(T:Txt K mg)(R:RCI K mg C)(Dx:Cal P w K mg base 1 "value_parts" ["row","top","bottom"] qt Ey DX)(o5:Cal P w K mg base 1 "whole_sign" ["value"] kQ Cf BZ):FnOk P w K mg base CX0 2 f fd ["row","ratio"] (qy C):=by
 refine F.ok xQ (λvs H Q E h=>?_) (λcdv A outer s H vs Q E hr h=>?_)
 ·obtain⟨a,r,ns,t,b,⟨rfl,_⟩,_⟩:=h;rfl
 ·obtain⟨a,r,ns,t,b,hV,k⟩:=h;obtain⟨rfl,hA,⟨dx,hR⟩,hn,hbs,bt,bb⟩:=hV;refine⟨_,(al (aA (au o5 hr (aa (aK K (au Dx hr (aa (pv 0) (aa (bU (K:=K) rfl (pv 1) rfl) (aa (bU (K:=K) rfl (pv 1) rfl) ag)))) af) ag)))),?_⟩;refine⟨_,rfl,_,rfl,r,C,dx,_,_,rfl,hR,R.cl,R.nT,eI _ _,_,rfl,r,C,dx,_,_,rfl,hR,R.cl,R.nB,dk _ _,a,ns,t,b,⟨rfl,hA,hn,hbs,bt,bb⟩,λp H1 s1 hp e1=>?_⟩;exact⟨p,_,_,_,rfl,rfl,SqT.of e1,rfl,_,rfl,k H1 s1⟩
noncomputable def sgs(t b:Int)(xss:List (List Int)):List Int:=xss.map λp=>sg (hv t b p)
def qR(C:Addr):Sp:=λvs H Q _=>∃(l r:Addr) (ps:List Addr) (xss:List (List Int)) (t b:Int),vs=[.ref l,.ref r]/\H l=some (.lst (ps.map V.ref))/\RwH H ps xss/\RA C H r t b/\Bits 5000 t/\Bits 5000 b/\(∀xs∈xss,xs.length<=20/\AllB 95000 xs)/\xss.length<=1000000/\∀H',Same H H'->Q (.int (chS (sgs t b xss)).1) H'
theorem xF(t b:Int)(xss:List (List Int)):∀s∈sgs t b xss,s.natAbs<=1:=λs hs=>by obtain⟨x,_,rfl⟩:=Fe.mp hs;exact lg _
theorem xE{t b:Int}{xss:List (List Int)}{i:Nat}{xs:List Int}(h:xss[i]?=some xs):sgs t b (xss.take (i+1))=sgs t b (xss.take i)++[sg (hv t b xs)]:=by unfold sgs;rw[Gj,h,Fk];rfl
theorem nu{x:Int}(h:x.natAbs<=1):Bits 1000000 x:=Bits.mono (j:=1) (Gf h (by decide)) (by decide)
theorem zL(F:Fun K "changes" "changes" ma f fd)(T:Txt K mg)(R:RCI K mg C)(DA:Cal P w K mg base 2 "sign_at" ["row","ratio"] (qy C) EB D1):FnOk P w K mg base CX0 3 f fd ["row","ratio"] (qR C):=by
 refine F.ok fQ (λvs H Q E h=>?_) (λcdv A outer s H vs Q E hr h=>?_)
 ·obtain⟨l,r,ps,xss,t,b,rfl,_⟩:=h;rfl
 ·obtain⟨l,r,ps,xss,t,b,rfl,hL,hR,hRA,bt,bb,hb,hn,k⟩:=h
  refine⟨_,(ah (aj 2 fQ af)
   (ah (aj 3 fQ af)
   (ah (bM PassesOwn.never rfl (bY (K:=K) rfl (pv 0)) (bE 4 fQ)
     (ah (aj 5 fQ (au DA hr (aa (pv 4) (aa (pv 1) ag))))
       (ah (aR (aG cH (ai aE (pv 5) (pv 3)) af)
         (al (aj 2 fQ (ai bC (pv 2) af)))
         aQ)
       (al (aR (aG fW (pv 5) af)
         (al (aj 3 fQ (pv 5)))
         aQ)))))
   (al (aA (pv 2)))))),?_⟩
  have hpl:(ps.map V.ref).length=xss.length:=by rw[Fc,hR.1]
  refine ar ?_;refine ar ?_;refine⟨_,rfl,l,rfl,⟨_,SqL.of hL⟩,dY (K:=K) (a:=l) (xs:=ps.map V.ref) (λi σ' H'=>∃(z4 z5:Option V),σ'=[some (.ref l),some (.ref r),some (.int (chS (sgs t b (xss.take i))).1),some (.int (chS (sgs t b (xss.take i))).2),z4,z5]/\Same H H') ⟨none,none,rfl,λ_ _ e=>e⟩ ?_ ?_ ?_⟩
  ·rintro i σ' H' _ ⟨z4,z5,rfl,sm⟩;exact SqL.of (sm _ _ hL)
  ·rintro i x σ' H1 hi ⟨z4,z5,rfl,s1⟩;obtain⟨p,xs,rfl,ep,ex,hp,hlt⟩:=hR.of_get hi;obtain⟨hx1,hx2⟩:=hb xs (List.mem_of_getElem? ex);show bV (eO _ (dH 5)) _ _ _ _;refine ar ⟨_,rfl,_,rfl,p,r,xs,t,b,⟨rfl,s1 _ _ hp,hRA.same s1,hx1,hx2,bt.mono,bb.mono⟩,λH2 sm2=>?_⟩;have s2:=s1.trans sm2;obtain⟨c1,c2,c3⟩:=vy _ (xF t b (xss.take i));rw[xE ex,oJ];have hs:=lg (hv t b xs);generalize sg (hv t b xs)=s at hs ⊢
   generalize chS (sgs t b (xss.take i))=z at c1 ⊢
   obtain⟨m,bf⟩:=z;dsimp only
   refine dO (λσ' H'=>σ'=[some (.ref l),some (.ref r),some (.int (if s*bf<0 then m+1 else m)),some (.int bf),some (.ref p),some (.int s)]/\H2=H') ?_ ?_
   case refine_2 =>
    intro rest;refine⟨_,rfl,_,rfl,_,_,rfl,rfl,⟨nu hs,nu c1⟩,_,_,rfl,rfl,_,rfl,aM (λh1=>?_) (λh1=>?_)⟩
    ·refine ci ⟨_,rfl,_,_,rfl,rfl,rest _ _ ⟨?_,rfl⟩⟩;rw[if_pos h1];rfl
    ·refine rest _ _ ⟨?_,rfl⟩;rw[if_neg h1];rfl
   rintro σ' H' ⟨rfl,rfl⟩;refine⟨_,rfl,_,_,rfl,rfl,_,rfl,dN (λh1=>?_) (λh1=>?_)⟩
   ·refine ci ⟨_,rfl,some (.ref p),some (.int s),?_,s2⟩;unfold chF;have h1':¬s=0:=h1;rw[if_neg h1'];rfl
   ·refine⟨some (.ref p),some (.int s),?_,s2⟩;unfold chF;have h1':s=0:=h1;rw[if_pos h1']
  ·rintro σ' H' ⟨z4,z5,rfl,sm⟩;rw[hpl,FQ];exact⟨_,rfl,k H' sm⟩
theorem kn(i:Int):(if i<0 then -i else i)=(i.natAbs:Int):=by split<;>omega
theorem vK{l:List Int}(h:l≠[]):atI (l.map V.int) (-1)=some (.int (aJ l)):=by obtain⟨r,x,rfl⟩:=(bX l).resolve_left h;rw[cu,Fk];exact oR _ _
theorem vg{l:List Int}:b5 l none (some (-1))=l.take (l.length-1):=by
 unfold b5;rw[HT.sIx_none]
 have e:HT.sIx l.length l.length (some (-1))=l.length-1:=by unfold HT.sIx;simp;omega
 rw[e,Hx,GO]
def isB(os:List Int)(l k:Nat):Prop:=(∀x∈os,x.natAbs<=(2^k-1)*l)/\∀j,j<k->∃x∈os,(2^j-1)*l<x.natAbs
def qT(K:PySem.W.Frag):Sp:=λvs H Q _=>∃(a:Addr) (ns:List Int),vs=[.ref a]/\SqL K H a (ns.map V.int)/\Tr ns/\ns≠[]/\ns.length<=100000/\AllB 100000 ns /\
 ∀(k:Nat) (H':Hp),k<=100000->isB (ns.take (ns.length-1)) (aJ ns).natAbs k->Same H H'->Q (.int ((2^k:Nat):Int)) H'
theorem yG{os:List Int}{F:Int->Prop}(h:∀g:Nat,(∀x∈os,x.natAbs<=g)->(g=0\/∃x∈os,x.natAbs=g)->F g) :
 (∀M,M∈os.map (λx=>(x.natAbs:Int))->(∀a∈os.map (λx=>(x.natAbs:Int)),a<=M)->F M)/\(os.map (λx=>(x.natAbs:Int))=[]->F 0):=by
 constructor
 ·intro M hM ha;obtain⟨x,hx,rfl⟩:=Fe.mp hM;exact h x.natAbs (λy hy=>Int.ofNat_le.mp (ha _ (Fe.mpr ⟨y,hy,rfl⟩))) (.inr ⟨x,hx,rfl⟩)
 ·intro e;have:os=[]:=List.map_eq_nil_iff.mp e;subst this;exact h 0 (λx hx=>nomatch hx) (.inl rfl)
theorem zN(F:Fun K "bound" "bound" me f fd)(T:Txt K mg):FnOk P w K mg base CX0 1 f fd ["row"] (qT K):=by
 refine F.ok iu (λvs H Q E h=>?_) (λcdv A outer s H vs Q E hr h=>?_)
 ·obtain⟨a,ns,rfl,_⟩:=h;rfl
 ·obtain⟨a,ns,rfl,hA,ht,hne,hn,hb,k⟩:=h;have big:=sizeLine_eq
  refine⟨_,(ah (aj 1 iu (bZ dq (by rfl) T.abs_ PyProof.Rows.boot_abs (aa (bD K (pv 0) (bJ bI af)) ag)))
   (ah (aj 2 iu (y8 (K:=K) rfl rfl (by rfl) T.max_ (fi (own:=["value"]) (fr:=[]) (js:=[]) (by walk_at "comp_ok") rfl (bY (K:=K) rfl (fh (eR (K:=K) rfl) (pv 0) fe (fb (bJ bI af)))) (λ_ _ _ _=>(cj (i:=0) (show List.Nodup (["value"]:List Str)from by decide +kernel) rfl (Or.inl rfl))) (λ_ _ _ _=>(bZ dq (by rfl) T.abs_ PyProof.Rows.boot_abs (aa (pv 0) ag)))) af))
   (ah (aj 3 iu af)
   (ah (dB PassesOwn.never (aG cH (ai aE (ai aU (pv 3) af) (pv 1)) (pv 2))
     (al (aj 3 iu (ai aE af (pv 3)))))
   (al (aA (pv 3))))))),?_⟩
  refine ar ⟨_,rfl,_,rfl,a,_,_,_,rfl,rfl,hA,vK hne,_,rfl,?_⟩;rw[kn]
  have hl0:aJ ns≠0:=by obtain⟨r,x,rfl⟩:=(bX ns).resolve_left hne;rw[cu];exact tr_snoc.mp ht
  generalize hL:(aJ ns).natAbs=L at k ⊢
  have hL1:1<=L:=by omega
  have bL:Bits 100000 (L:Int):=by obtain⟨r,x,rfl⟩:=(bX ns).resolve_left hne;rw[cu]at hL;exact(hb x (by simp)).of_le (by omega)
  refine ar ⟨_,rfl,_,rfl,_,rfl,a,_,rfl,hA,λp1 hp1=>?_⟩;rw[ia,vg];have s1:Same H (upd H p1 (.lst ((ns.take (ns.length-1)).map V.int))):=Same.upd_new hp1;have q1:upd H p1 (.lst ((ns.take (ns.length-1)).map V.int)) p1=some (.lst ((ns.take (ns.length-1)).map V.int)):=aq;generalize hO:ns.take (ns.length-1)=os at k s1 q1 ⊢
  generalize upd H p1 (.lst (os.map V.int))=H1 at s1 q1 ⊢
  have bO:AllB 100000 os:=λx hx=>hb x (Hj (hO ▸ hx))
  have lO:os.length<=100000:=by rw[<- hO,FW];omega
  refine⟨p1,rfl,⟨_,SqL.of q1⟩,d8 (K:=K) (a:=p1) (xs:=os.map V.int) (λi ys σ' H'=>∃(z0:Option V),σ'=[z0]/\ys=((os.take i).map λx=>(x.natAbs:Int)).map V.int/\H1=H') (by rw[Fc];omega) ⟨none,rfl,rfl,rfl⟩ ?_ ?_ ?_⟩
  ·rintro i ys σ' H' _ ⟨z0,rfl,rfl,rfl⟩;exact⟨SqL.of q1,by rw[Fc,Fc,FW];exact Gx _ _⟩
  ·rintro i x ys σ' H' hi ⟨z0,rfl,rfl,rfl⟩;rw[List.getElem?_map]at hi;cases e:os[i]? with
   |none=>rw[e]at hi;cases hi
   |some c =>rw[e]at hi;obtain rfl:=Option.some.inj hi;refine⟨_,rfl,_,rfl,_,rfl,?_,rfl⟩;rw[Gj,e,kn];simp
  ·rintro ys σ' H' p ⟨z0,rfl,rfl,rfl⟩ hp;rw[Fc,FQ];have s2:Same H (upd H1 p (.lst ((os.map λx=>(x.natAbs:Int)).map V.int))):=s1.then_new hp;refine⟨p,_,rfl,SqL.of aq,?_⟩;generalize upd H1 p (.lst ((os.map λx=>(x.natAbs:Int)).map V.int))=H2 at s2 ⊢
   refine And.symm (yG λg hg1 hg2=>?_)
   have bg:g<2^100000:=by
    rcases hg2 with rfl |⟨x,hx,rfl⟩
    ·exact GY (by decide)
    ·exact bO x hx
   refine ar ?_;refine⟨λm σ' H'=>∃k0:Nat,σ'=[some (.ref a),some (.int L),some (.int g),some (.int ((2^k0:Nat):Int))]/\H2=H'/\2*g+2-2^k0=m/\2^k0<=2*g+1/\∀j,j<k0->(2^j-1)*L<g,⟨_,0,rfl,rfl,rfl,by omega,λj hj=>absurd hj (HS _)⟩,?_⟩;rintro m σ' H' ⟨k0,rfl,rfl,rfl,h2,h3⟩
   have hk0:k0<=100000:=by
    have e:2^k0<2^100001:=by rw[GC 2 100000];omega
    have:=(Hk (a:=2) (by decide)).mp e;omega
   have hp:1<=2^k0:=GY (by decide)
   have bk:Bits 100002 ((2^k0:Nat):Int):=by show((2^k0:Nat):Int).natAbs<_;rw[FU];exact(Hk (a:=2) (by decide)).mpr (by omega)
   have bk1:Bits 100002 (((2^k0:Nat):Int)-1):=bk.of_le (by omega)
   have cast:(((2^k0:Nat):Int)-1)*(L:Int)=(((2^k0-1)*L:Nat):Int):=by rw[Hq,Int.natCast_sub hp];rfl
   refine⟨_,rfl,_,_,rfl,rfl,_,rfl,_,_,rfl,rfl,⟨bk1.mono,bL.mono⟩,_,rfl,_,_,rfl,rfl,_,rfl,?_⟩;rw[cast];refine aM (λhlt=>?_) (λhge=>?_)
   ·have hlt':(2^k0-1)*L<g:=by exact Int.ofNat_lt.mp hlt
    have h4:2^k0-1<g:=Gf (Nat.le_mul_of_pos_right _ hL1) hlt';refine⟨_,λ_ _ h=>h,?_⟩;refine⟨_,rfl,_,_,rfl,rfl,⟨Bits.mono (j:=2) (by show(2:Int).natAbs<2^2;decide) (by decide),bk.mono⟩,?_⟩;have e2:(2:Int)*((2^k0:Nat):Int)=((2^(k0+1):Nat):Int):=by rw[GC];omega
    have e3:2^(k0+1)=2*2^k0:=by rw[GC];omega
    refine⟨2*g+2-2^(k0+1),by omega,k0+1,by rw[<- e2];rfl,rfl,rfl,by omega,λj hj=>?_⟩;by_cases ej:j=k0
    ·subst ej;exact hlt'
    ·exact h3 j (by omega)
   ·have hge':¬(2^k0-1)*L<g:=λz=>hge (Int.ofNat_lt.mpr z)
    refine⟨_,rfl,k k0 H2 hk0 ⟨λx hx=>Fu (hg1 x hx) (by omega),λj hj=>?_⟩ s2⟩;have h5:=h3 j hj;rcases hg2 with rfl |⟨x,hx,e⟩
    ·exact absurd h5 (HS _)
    ·exact⟨x,hx,by rw[e];exact h5⟩
theorem oz{xs ys:List Int}{x y:Nat}(hx:AllB x xs)(hy:AllB y ys):∀i,AllB (x+i*(y+1)) (aL xs ys i).1/\AllB (x+i*(y+1)) (aL xs ys i).2
 |0=>by rw[Nat.zero_mul];exact⟨AllB.zeros,hx⟩
 |i+1=>by
  obtain⟨h1,h2⟩:=oz hx hy i;have e:x+(i+1)*(y+1)=x+i*(y+1)+y+1:=by rw[G6];omega
  have hs:Bits y (((RM.cf ys (ys.length-1)).natAbs:Nat):Int):=iT (hy.cf _);rw[e];show AllB _ (cc ys (aL xs ys i) _).1/\AllB _ (cc ys (aL xs ys i) _).2;unfold cc;dsimp only
  constructor
  ·intro v hv;rcases List.mem_or_eq_of_mem_set hv with h |rfl
   ·obtain⟨u,hu,rfl⟩:=Fe.mp h;exact(hs.mul (h1 u hu)).mono (by omega)
   ·exact(fN (h2.cf _)).mono (by omega)
  ·refine AllB.of_cf λn=>?_
   rw[kd];by_cases hn:n<(scL (((RM.cf ys (ys.length-1)).natAbs:Nat):Int) (aL xs ys i).2).length-1
   ·rw[if_pos hn,aD]
    have m1:Bits (x+i*(y+1)+y) ((((RM.cf ys (ys.length-1)).natAbs:Nat):Int)*RM.cf (aL xs ys i).2 n):=by have:=hs.mul (h2.cf n);rwa [GA]at this
    refine m1.sub ?_;by_cases hp:(xs.length+1-ys.length-1-i)<=n
    ·rw[if_pos hp];exact(fN (h2.cf _)).mul (hy.cf _)
    ·rw[if_neg hp];exact Bits.zero
   ·rw[if_neg hn];exact Bits.zero
theorem ji{n:Nat}{l:List Int}(h:AllB n l):AllB n (ae l):=by
 intro y hy;obtain⟨x,hx,rfl⟩:=Fe.mp hy;obtain⟨d,hd⟩:=g9 hx;by_cases hg:(am l:Int)=0
 ·rw[hg,Int.ediv_zero];exact Bits.zero
 ·have e:x/(am l:Int)=d:=by rw[hd];exact Int.mul_ediv_cancel_left d hg
  rw[e];refine(h x hx).of_le ?_;rw[hd,Fs];exact Nat.le_mul_of_pos_left _ (Gm.mpr hg)
theorem gu(l:List Int):(ae l).length=l.length:=Fc _
theorem rJ(n:Nat)(o:List Int):Run n [] o:=by cases n with |zero=>rfl |succ n=>exact .inl rfl
theorem uR(n:Nat)(o:List Int):RM.Ends n [] o:=by cases n with |zero=>rfl |succ n=>exact .inl rfl
theorem gr8:gr 540 6=91260:=by decide
def Okr(xs:List Int):Prop:=Tr xs/\AllB 91260 xs/\xs.length<=7
theorem rH:∀(n:Nat) (one other:List Int) (x y s:Nat),one.length=s+1->s<=6->other.length<=s->s<n->Tr one->Tr other->AllB x one->AllB y other->x+1<=gr 540 (6-s)->y+1<=gr 540 (6-s+1)->Run n one other/\RM.Ends n one other/\∀xs∈aI n one other,Okr xs
 |0,one,other,x,y,s,_,_,_,h,_,_,_,_,_,_=>absurd h (HS _)
 |m+1,one,other,x,y,s,hl,hs8,hol,hsm,t1,t2,b1,b2,g1,g2=>by
  have hne:one≠[]:=λz=>by rw[z]at hl;simp at hl
  have m1:gr 540 (6-s)<=91260:=by rw[<- gr8];exact dG 540 (by omega)
  have bo1:AllB 91260 one:=b1.mono (by omega)
  have bo2:AllB 91260 other:=by
   by_cases ho:other=[]
   ·rw[ho];exact AllB.nil
   ·have:=Fh.mpr ho;have m2:gr 540 (6-s+1)<=91260:=by rw[<- gr8];exact dG 540 (by omega)
    exact b2.mono (by omega)
  have fit:Fit one other:=⟨t1,t2,91260,bo1,bo2,by rw[hl];omega,by omega⟩
  have eS:aI (m+1) one other=one::aI m other (nxt one other):=by show(if one=[]then[]else one::aI m other (nxt one other))=_;rw[if_neg hne]
  have ok1:Okr one:=⟨t1,bo1,by omega⟩;by_cases ho:other=[]
  ·subst ho;refine⟨.inr ⟨fit,rJ _ _⟩,.inr (uR _ _),λxs hx=>?_⟩;rw[eS,gG]at hx;rw[Fv.mp hx];exact ok1
  ·have hop:=Fh.mpr ho;obtain⟨d,hd⟩:∃d,other.length=d+1:=⟨other.length-1,by omega⟩;have hN:aW one other=(s-d-1)+2:=by unfold aW;omega
   have e6:6-s+2+(s-d-1)=6-d+1:=by omega
   have rb:AllB (x+aW one other*(y+1)) (aF one other):=((oz b1 b2 (aW one other)).2).trim
   have nb:AllB (x+aW one other*(y+1)) (nxt one other):=by
    unfold nxt rst;rw[if_neg ho,ik (cV _ _)];refine ji λv hv=>?_
    obtain⟨u,hu,rfl⟩:=Fe.mp hv;have:=(rb u hu).neg
    rwa [show -1*u = -u by omega]
   have nl:(nxt one other).length<=d:=by unfold nxt rst;rw[if_neg ho,ik (cV _ _),gu,aP];have:=d4 (a:=one) ho;omega
   have nt:Tr (nxt one other):=c8 (dw _);have jump:=ol 540 (6-s) (s-d-1);rw[e6]at jump;have mm:=Gu (s-d-1+2) g2;obtain⟨r1,r2,r3⟩:=rH m other (nxt one other) y (x+aW one other*(y+1)) d hd (by omega) nl (by omega) t2 nt b2 nb (Fu g2 (dG 540 (by omega))) (by rw[hN];omega);refine⟨.inr ⟨fit,r1⟩,.inr r2,λxs hx=>?_⟩;rw[eS]at hx;rcases FC.mp hx with rfl |hx
   ·exact ok1
   ·exact r3 xs hx
theorem vL{H:Hp}{ps:List Addr}{r:List (List Int)}{i:Nat}(h:RwH H ps r)(hi:0<i)(hi2:i<=r.length):∃p,atI (ps.map V.ref) (-(i:Int))=some (.ref p)/\H p=some (.lst ((r.getD (r.length-i) []).map V.int)):=by
 obtain⟨p,ep,hp⟩:=h.get (i:=r.length-i) (by omega);refine⟨p,?_,hp⟩;have hl:(ps.map V.ref).length=r.length:=by rw[Fc,h.1]
 have e:ixN (ps.map V.ref).length (-(i:Int))=some (r.length-i):=by
  unfold ixN;rw[hl,if_neg (by omega),if_pos (by omega)]
  congr 1;omega
 unfold atI;rw[e];show(ps.map V.ref)[r.length-i]?=_;rw[List.getElem?_map,ep];rfl
theorem AB(l:List Int):l.map (λv=>0-v)=scL (-1) l:=by unfold scL;exact FE λv _=>by omega
theorem rM:∀(n:Nat) (one other:List Int),(aI n one other).length<=n
 |0,_,_=>Fg _
 |n+1,one,other=>by
  show(if one=[]then[]else one::aI n other (nxt one other)).length<=n+1;split
  ·exact Fj _
  ·have:=rM n other (nxt one other);rw[Ff];omega
theorem rj{n:Nat}{xs:List Int}(h:AllB n xs)(hl:xs.length<=9):AllB (n+4) (slopeL xs):=by intro x hx;obtain⟨k,hk,rfl⟩:=Fe.mp hx;have hk':k<xs.length-1:=Gi.mp hk;have b1:Bits 4 ((k:Int)+1):=Gf (show((k:Int)+1).natAbs<=8 by omega) (by decide);exact(b1.mul (h.cf (k+1))).mono (by omega)
theorem xm(xs:List Int):(slopeL xs).length=xs.length-1:=by unfold slopeL;rw[Fc,Gk]
theorem mN{kps:List Int}(ktr:Tr kps)(kb:AllB 530 kps)(kl:kps.length<=7):Run 9 (ae kps) (ae (slopeL kps))/\RM.Ends 9 (ae kps) (ae (slopeL kps))/\∀xs∈aI 9 (ae kps) (ae (slopeL kps)),Okr xs:=by
 by_cases h0:kps=[]
 ·subst h0
  exact⟨rJ _ _,uR _ _,λxs hx=>by
   have e:ae []=[]:=rfl;rw[e,gG]at hx
   exact nomatch hx⟩
 ·have hl:=Fh.mpr h0;obtain⟨s,hs⟩:∃s,kps.length=s+1:=⟨kps.length-1,by omega⟩;refine rH 9 (ae kps) (ae (slopeL kps)) 530 534 s (by rw[gu,hs]) (by omega) (by rw[gu,xm,hs];omega) (by omega) (c8 ktr) (c8 (pS ktr)) (ji kb) (ji (rj kb (by omega))) ?_ ?_
  ·exact Fu (show 531<=gr 540 0 by decide) (dG 540 (Fj _))
  ·exact Fu (show 535<=gr 540 1 by decide) (dG 540 (by omega))
theorem uV(t:Int):dv t 1=1:=by unfold dv;rw[if_neg (by decide)];show((Nat.gcd t.natAbs 1:Nat):Int)=1;rw[Nat.gcd_one_right];rfl
theorem mT{Q:Hp->Prop}{H1 H2:Hp}(e:H1=H2)(h:Q H2):Q H1:=by rw[e];exact h
theorem b1k{k:Nat}(h:1<=k):Bits k (1:Int):=Bits.mono (j:=1) (by show(1:Int).natAbs<2^1;decide) h
theorem rK(t:Int):rt t 1=t:=by have h:=mL (t:=t) (b:=1) (by decide);rw[uV,FF]at h;exact h
theorem rV(t:Int):rb t 1=1:=by have h:=jx (t:=t) (b:=1) (by decide);rw[uV,FF]at h;exact h
def qI(C:Addr):Sp:=λvs H Q _=>∃(p q:Addr) (t b u d:Int),vs=[.ref p,.ref q]/\RA C H p t b/\RA C H q u d/\Bits 900 t/\Bits 900 b/\Bits 900 u/\Bits 900 d/\0<b/\0<d/\mkR C H Q (t*d+u*b) (2*b*d)
theorem zE(F:Fun K "middle" "middle" lU f fd)(T:Txt K mg)(R:RCI K mg C)(pB:KCal P w K mg base 2 C "Ratio" ["self","top","bottom"] (im C) Cq Cb Cv [.int 1]):FnOk P w K mg base CX0 4 f fd ["low","high"] (qI C):=by
 obtain⟨kq,ko,jO,vJ,oQ,oB⟩:=pB;refine F.ok xU (λvs H Q E h=>?_) (λcdv A outer s H vs Q E hr h=>?_)
 ·obtain⟨p,q,t,b,u,d,rfl,_⟩:=h;rfl
 ·obtain⟨p,q,t,b,u,d,rfl,⟨dx,hp⟩,⟨dy,hq⟩,bt,bb,bu,bd,hb,hd,k⟩:=h;have b2:Bits 2 (2:Int):=by show(2:Int).natAbs<2^2;decide
  have b2b:Bits 902 (2*b):=b2.mul bb |>.mono
  refine⟨_,(al (aA (nj ko kq (hr.mono) rfl jO vJ .nil jG (aa (ai bC (ai aE (bU (K:=K) rfl (pv 0) rfl) (bU (K:=K) rfl (pv 1) rfl)) (ai aE (bU (K:=K) rfl (pv 1) rfl) (bU (K:=K) rfl (pv 0) rfl))) (aa (ai aE (ai aE af (bU (K:=K) rfl (pv 0) rfl)) (bU (K:=K) rfl (pv 1) rfl)) ag))))),?_⟩;refine⟨_,rfl,p,C,dx,_,_,rfl,hp,R.cl,R.nT,eI _ _,_,rfl,q,C,dy,_,_,rfl,hq,R.cl,R.nB,dk _ _,_,_,rfl,rfl,⟨bt.mono,bd.mono⟩,?_⟩;refine⟨_,rfl,q,C,dy,_,_,rfl,hq,R.cl,R.nT,eI _ _,_,rfl,p,C,dx,_,_,rfl,hp,R.cl,R.nB,dk _ _,_,_,rfl,rfl,⟨bu.mono,bb.mono⟩,_,_,rfl,rfl,?_⟩;refine⟨_,rfl,p,C,dx,_,_,rfl,hp,R.cl,R.nB,dk _ _,_,_,rfl,rfl,⟨b2.mono,bb.mono⟩,_,rfl,q,C,dy,_,_,rfl,hq,R.cl,R.nB,dk _ _,_,_,rfl,rfl,⟨b2b.mono,bd.mono⟩,?_⟩;exact nS (Gc (FD (by omega) hd)) ((b2b.mul bd).mono) k
theorem n8{os:List Int}{l j k:Nat}(h1:isB os l j)(h2:isB os l k):j=k:=by
 rcases Nat.lt_trichotomy j k with z |z |z
 ·obtain⟨x,hx,h⟩:=h2.2 j z;have:=h1.1 x hx;omega
 ·exact z
 ·obtain⟨x,hx,h⟩:=h1.2 k z;have:=h2.1 x hx;omega
def NL(H H':Hp):Prop:=∀c o,H c=some o->(∀xs,o≠.lst xs)->H' c=some o
theorem NL.of{H H':Hp}(s:Same H H'):NL H H':=λc o e _=>s c o e
theorem NL.upd{H:Hp}{p:Addr}{xs:List V}{o:HO}(hp:H p=some (.lst xs)):NL H (upd H p o):=λc o' e hn=>by
 have:c≠p:=λz=>by rw[z,hp]at e;exact hn xs (Option.some.inj e).symm
 rw[upd_ne this];exact e
theorem NL.trans{H1 H2 H3:Hp}(a:NL H1 H2)(b:NL H2 H3):NL H1 H3:=λc o e hn=>b c o (a c o e hn) hn
theorem RA.nl{C:Addr}{H H':Hp}{p:Addr}{t b:Int}(h:RA C H p t b)(s:NL H H'):RA C H' p t b:=let⟨dx,e⟩:=h;⟨dx,s _ _ e (λ_=>by simp)⟩
noncomputable def loR(l1 l2:Int):Rat:=(l1:Rat)/(l2:Rat)
structure Cel where
 q:Addr
 lo:Addr
 hi:Addr
 l1:Int
 l2:Int
 h1:Int
 h2:Int
 d:Nat
noncomputable def VV(kp:List Int)(t n:Int):Int:=(chS (sgs t n (cv kp))).1
noncomputable def Cel.a(x:Cel):Rat:=loR x.l1 x.l2
noncomputable def Cel.b(x:Cel):Rat:=loR x.h1 x.h2
noncomputable def Cel.cn(x:Cel)(kp:List Int):Int:=vw kp x.a-vw kp x.b
theorem vO{kp:List Int}{t n:Int}(hn:0<n):VV kp t n=vw kp (loR t n):=by unfold VV loR;rw[vz];exact fH hn
def Par(kp:List Int)(B:Int)(d:Nat)(l1 l2 h1 h2:Int):Prop:=d=0\/∃m:Int,0<=m/\(l1*2^d=(4*m*B-B*2^d)*l2\/h1*2^d=(4*(m+1)*B-B*2^d)*h2)/\2<=vw kp (loR (4*m*B-B*2^d) (2^d))-vw kp (loR (4*(m+1)*B-B*2^d) (2^d))
structure WtH(C:Addr)(H:Hp)(kp:List Int)(kb:Nat)(x:Cel):Prop where
 tup:H x.q=some (.tup [.ref x.lo,.ref x.hi,.int (VV kp x.l1 x.l2),.int (VV kp x.h1 x.h2)])
 lo:RA C H x.lo x.l1 x.l2
 hi:RA C H x.hi x.h1 x.h2
 dy:Dya (2^kb) x.d x.l1 x.l2 x.h1 x.h2
 dd:x.d<=196
 par:Par kp (2^kb) x.d x.l1 x.l2 x.h1 x.h2
theorem WtH.nl{C:Addr}{H H':Hp}{kp:List Int}{kb:Nat}{x:Cel}(h:WtH C H kp kb x)(s:NL H H'):WtH C H' kp kb x:=⟨s _ _ h.tup (λ_=>by simp),h.lo.nl s,h.hi.nl s,h.dy,h.dd,h.par⟩
structure FdH(C:Addr)(H:Hp)(kp:List Int)(kb:Nat)(x:Cel):Prop where
 tup:H x.q=some (.tup [.ref x.lo,.ref x.hi])
 lo:RA C H x.lo x.l1 x.l2
 hi:RA C H x.hi x.h1 x.h2
 dy:Dya (2^kb) x.d x.l1 x.l2 x.h1 x.h2
 dd:x.d<=196
 par:Par kp (2^kb) x.d x.l1 x.l2 x.h1 x.h2
 one:x.cn kp=1
theorem FdH.nl{C:Addr}{H H':Hp}{kp:List Int}{kb:Nat}{x:Cel}(h:FdH C H kp kb x)(s:NL H H'):FdH C H' kp kb x:=⟨s _ _ h.tup (λ_=>by simp),h.lo.nl s,h.hi.nl s,h.dy,h.dd,h.par,h.one⟩
theorem ox{kb d:Nat}{l1 l2 h1 h2:Int}(h:Dya (2^kb) d l1 l2 h1 h2)(hk:kb<=152)(hd:d<=196):Bits 710 l1/\Bits 710 l2/\Bits 710 h1/\Bits 710 h2:=by obtain⟨⟨a,b⟩,c,e⟩:=h.bits;have hp:2^(kb+d)<2^710:=(Hk (by decide)).mpr (by omega);exact⟨Gf a hp,Gf b hp,Gf c hp,Gf e hp⟩
structure Wk(kp:List Int):Prop where
 tr:Tr kp
 l2:2<=kp.length
 l7:kp.length<=7
 bits:AllB 530 kp
 few:∀kb,isB (kp.take (kp.length-1)) (aJ kp).natAbs kb->kb<=152/\Few kp kb
noncomputable def tot(kp:List Int)(ws:List Cel):Int:=(ws.map λx=>x.cn kp).sum
theorem kI(kp:List Int)(ws:List Cel)(x:Cel):tot kp (ws++[x])=tot kp ws+x.cn kp:=by unfold tot;rw[Fk,Hw];simp
theorem jZ{kb d:Nat}{l1 l2 h1 h2:Int}(h:Dya (2^kb) d l1 l2 h1 h2):loR l1 l2<loR h1 h2:=(jz h.l2p h.h2p).mpr (h.lt (Gb (by decide)))
theorem jP{t n:Int}(hn:0<n):loR t n*(n:Rat)=(t:Rat):=FG (Rat.ne_of_gt (FK.mpr hn))
theorem kF(k:Nat):(((2:Int)^k:Int):Rat)=2^k:=Hg 2 k
theorem oI{kp:List Int}{kb:Nat}(F:Few kp kb){x:Cel}(h:Dya (2^kb) x.d x.l1 x.l2 x.h1 x.h2):0<=x.cn kp:=by have:=F.mono _ _ (jZ h);unfold Cel.cn Cel.a Cel.b;omega
theorem jQ{t n t' n':Int}(hn:0<n)(hn':0<n')(e:t*n'=t'*n):loR t n=loR t' n':=by
 have p:(0:Rat)<(n:Rat):=FK.mpr hn;have p':(0:Rat)<(n':Rat):=FK.mpr hn';have a:=jP (t:=t) hn;have b:=jP (t:=t') hn';have e':(t:Rat)*(n':Rat)=(t':Rat)*(n:Rat):=by rw[<- FJ,<- FJ,e]
 rw[<- a,<- b]at e';generalize loR t n=u at *
 generalize loR t' n'=v at *
 have q:=Gn p p';have:((n:Rat)*(n':Rat))*(u-v)=0:=by grind
 rcases GF.mp this with z |z
 ·grind
 ·grind
theorem Cs{kb d:Nat}{l1 l2 h1 h2:Int}(h:Dya (2^kb) d l1 l2 h1 h2) : -(2^kb)<=loR l1 l2/\loR h1 h2<=2^kb/\(loR h1 h2-loR l1 l2)*2^d=2*2^kb:=by
 obtain⟨l2p,h2p,gl,gh,m,m0,m1,e1,e2⟩:=h;have D0:(0:Int)<2^d:=Gb (by decide);rw[jQ l2p D0 e1,jQ h2p D0 e2];have q1:=jP (t:=2*m*2^kb-2^kb*2^d) D0;have q2:=jP (t:=2*(m+1)*2^kb-2^kb*2^d) D0;have D0':(0:Rat)<2^d:=GH (by decide);have B0':(0:Rat)<2^kb:=GH (by decide);have m0':(0:Rat)<=(m:Rat):=GG.mpr m0
 have m1':(m:Rat)+1<=2^d:=by have:=GG.mpr m1;rw[Hb,kF]at this;exact this
 rw[Rat.intCast_sub,FJ,FJ,FJ,kF,kF]at q1 q2;rw[Hb]at q2;have c1:((1:Int):Rat)=1:=rfl;have c2:((2:Int):Rat)=2:=rfl;rw[c2]at q1 q2;rw[c1]at q2;generalize loR (2*m*2^kb-2^kb*2^d) (2^d)=u at *
 generalize loR (2*(m+1)*2^kb-2^kb*2^d) (2^d)=v at *
 generalize (2:Rat)^d=D at *
 generalize (2:Rat)^kb=B at *
 generalize (m:Rat)=n at *
 have r1:=Fx m0' (Fn B0');have r2:=FP m1' (Fn B0');refine⟨Gp.mp λz=>?_,Gp.mp λz=>?_,by grind⟩
 ·have:=G1 z D0';grind
 ·have:=G1 z D0';grind
theorem CU{kp:List Int}{kb:Nat}(F:Few kp kb){x:Cel}(h:Dya (2^kb) x.d x.l1 x.l2 x.h1 x.h2)(hd:196<=x.d):x.cn kp<=1:=by
 obtain⟨a,b,c⟩:=Cs h;have l:=(jZ h)
 have:=F.few _ _ l a b (by
  have u:=ii hd;have q:=FH u (show 0<=loR x.h1 x.h2-loR x.l1 x.l2 by grind)
  grind)
 unfold Cel.cn Cel.a Cel.b;omega
theorem zh{kp:List Int}{kb d:Nat}{l1 l2 h1 h2 c1 c2:Int}(h:Dya (2^kb) d l1 l2 h1 h2)(hv:2<=vw kp (loR l1 l2)-vw kp (loR h1 h2)):Par kp (2^kb) (d+1) l1 l2 c1 c2/\Par kp (2^kb) (d+1) c1 c2 h1 h2:=by
 obtain⟨l2p,h2p,gl,gh,m,m0,m1,e1,e2⟩:=h;have D0:(0:Int)<2^(d+1):=Gb (by decide);have f1:l1*2^(d+1)=(4*m*2^kb-2^kb*2^(d+1))*l2:=by rw[Fw];grind
 have f2:h1*2^(d+1)=(4*(m+1)*2^kb-2^kb*2^(d+1))*h2:=by rw[Fw];grind
 rw[jQ l2p D0 f1,jQ h2p D0 f2]at hv;exact⟨.inr ⟨m,m0,.inl f1,hv⟩,.inr ⟨m,m0,.inr f2,hv⟩⟩
noncomputable def wgt(kp:List Int)(kb:Nat)(x:Cel):Nat:=1+2*((x.cn kp).toNat*(196-x.d))
noncomputable def dL(kp:List Int)(kb:Nat)(ws:List Cel):Nat:=(ws.map (wgt kp kb)).sum
theorem gk(kp:List Int)(kb:Nat)(ws:List Cel)(x:Cel):dL kp kb (ws++[x])=dL kp kb ws+wgt kp kb x:=by unfold dL;rw[Fk,Hw];simp
theorem kA(kp:List Int)(kb:Nat):∀ws:List Cel,ws.length<=dL kp kb ws
 | []=>Fg _
 |x::ws=>by have:=kA kp kb ws;show ws.length+1<=wgt kp kb x+dL kp kb ws;unfold wgt;omega
noncomputable def qs(ws:List Cel):List V:=ws.map λx=>V.ref x.q
theorem jC(ws:List Cel)(x:Cel):qs (ws++[x])=qs ws++[V.ref x.q]:=by unfold qs;rw[Fk];rfl
def cO(xs:List Cel):Prop:=xs.Pairwise λx y=>x.b<=y.a
theorem yd{ys B:List Cel}{x:Cel}(h:cO (ys++x::B)):cO (ys++B):=List.Pairwise.sublist (List.Sublist.append_left (List.sublist_cons_self _ _) _) h
theorem yc{ys B:List Cel}{x x':Cel}(h1:x.a=x'.a)(h2:x.b=x'.b)(h:cO (ys++x::B)):cO (ys++x'::B):=by
 obtain⟨a,b,c⟩:=HP.mp h;obtain⟨b1,b2⟩:=Hf.mp b;refine HP.mpr ⟨a,Hf.mpr ⟨λz hz=>by rw[<- h2];exact b1 z hz,b2⟩,λy hy z hz=>?_⟩;rcases FC.mp hz with e |e
 ·rw[e,<- h1];exact c y hy x (Fl ..)
 ·exact c y hy z (Fi _ e)
theorem ye{ys B:List Cel}{x l r:Cel}(h1:l.a=x.a)(h2:l.b=r.a)(h3:r.b=x.b)(h4:l.a<=l.b)(h5:r.a<=r.b)(h:cO (ys++x::B)):cO (ys++l::r::B):=by
 obtain⟨a,b,c⟩:=HP.mp h;obtain⟨b1,b2⟩:=Hf.mp b;refine HP.mpr ⟨a,Hf.mpr ⟨λz hz=>?_,Hf.mpr ⟨λz hz=>by rw[h3];exact b1 z hz,b2⟩⟩,λy hy z hz=>?_⟩
 ·rcases FC.mp hz with e |e
  ·rw[e,h2];exact FS
  ·rw[h2];exact G0 h5 (by rw[h3];exact b1 z e)
 ·have hx:=c y hy x (Fl ..);rcases FC.mp hz with e |e
  ·rw[e,h1];exact hx
  rcases FC.mp e with e |e
  ·rw[e,<- h2];exact G0 hx (by rw[<- h1];exact h4)
  ·exact c y hy z (Fi _ e)
def qS(C:Addr):Sp:=λvs H Q _=>(∃(a:Addr) (kp:List Int),vs=[.ref a]/\H a=some (.lst (kp.map V.int))/\Wk kp /\
 ∀(kb:Nat) (p:Addr) (ys:List Cel) (H':Hp),isB (kp.take (kp.length-1)) (aJ kp).natAbs kb->Same H H'->H p=none->H' p=some (.lst (qs ys))->(∀y∈ys,FdH C H' kp kb y)->(ys.length:Int)=vw kp (loR (-(2^kb)) 1)-vw kp (loR (2^kb) 1)->ys.length<=12000->cO ys->Q (.ref p) H')\/(∃(a:Addr) (ns:List Int),vs=[.ref a]/\H a=some (.lst (ns.map V.int))/\ns.length<=1/\mkL H Q [])
theorem zM(F:Fun K "cells" "cells" md f fd)(T:Txt K mg)(R:RCI K mg C)(kx:Cal P w K mg base 1 "degree" ["row"] kT Ci B3)(DC:Cal P w K mg base 35 "row_of" ["polynomial"] qz EF D5)(pB:KCal P w K mg base 2 C "Ratio" ["self","top","bottom"] (im C) Cq Cb Cv [.int 1])(wb:Cal P w K mg base 1 "bound" ["row"] (qT K) EQ Ed)(o9:Cal P w K mg base 3 "changes" ["row","ratio"] (qR C) EN Eb)(DF:Cal P w K mg base 4 "middle" ["low","high"] (qI C) EH D7):FnOk P w K mg base CX0 36 f fd ["row"] (qS C):=by
 obtain⟨kq,ko,jO,vJ,oQ,oB⟩:=pB;refine F.ok dM (λvs H Q E h=>?_) (λcdv A outer s H vs Q E hr h=>?_)
 ·rcases h with⟨a,kp,rfl,_⟩ |⟨a,ns,rfl,_⟩<;>rfl
 ·obtain⟨a,rfl⟩:∃a,vs=[.ref a]:=by rcases h with⟨a,kp,rfl,_⟩ |⟨a,ns,rfl,_⟩<;>exact⟨_,rfl⟩
  have big:=sizeLine_eq
  refine⟨_,(ah (aR (aG cH (au kx hr (aa (pv 0) ag)) af)
   (al (aA (bK ag)))
   aQ)
   (ah (aj 1 dM (au DC hr (aa (pv 0) ag)))
   (ah (aj 2 dM (nj ko kq (hr.mono) rfl jO oQ oB jG (aa (au wb hr (aa (pv 0) ag)) ag)))
   (ah (aj 3 dM (nj ko kq (hr.mono) rfl jO oQ oB jG (aa (bJ bI (au wb hr (aa (pv 0) ag))) ag)))
   (ah (aj 4 dM (bK (aa (ck (aa (pv 3) (aa (pv 2) (aa (au o9 hr (aa (pv 1) (aa (pv 3) ag))) (aa (au o9 hr (aa (pv 1) (aa (pv 2) ag))) ag))))) ag)))
   (ah (aj 5 dM (bK ag))
   (ah (dB PassesOwn.never (aG b8 (ba K T.len_ (aa (pv 4) ag)) af)
     (ah (aj 6 dM (ze PySem.F.plainAttrs_list PySem.F.slot_list_pop PySem.F.type_list_pop AO (pv 4)))
       (ah (aj 7 dM (ai aU (aK K (pv 6) af) (aK K (pv 6) af)))
       (ah (aR (aG cp (pv 7) af)
         (al (dQ (dS (pv 5) (aa (ck (aa (aK K (pv 6) af) (aa (aK K (pv 6) af) ag))) ag))))
         aQ)
       (al (aR (aG b8 (pv 7) af)
         (ah (aj 8 dM (au DF hr (aa (aK K (pv 6) af) (aa (aK K (pv 6) af) ag))))
           (ah (aj 9 dM (au o9 hr (aa (pv 1) (aa (pv 8) ag))))
           (ah (dQ (dS (pv 4) (aa (ck (aa (pv 8) (aa (aK K (pv 6) af) (aa (pv 9) (aa (aK K (pv 6) af) ag))))) ag)))
           (al (dQ (dS (pv 4) (aa (ck (aa (aK K (pv 6) af) (aa (pv 8) (aa (aK K (pv 6) af) (aa (pv 9) ag))))) ag)))))))
         aQ))))))
   (al (aA (pv 5)))))))))),?_⟩
  rcases h with⟨a',kp,ea,hA,hW,k⟩ |⟨a',ns,ea,hA,hl1,k⟩
  rotate_left
  ·cases ea;refine bQ ⟨_,rfl,a,_,rfl,hA,_,_,rfl,rfl,_,rfl,aM (λ_=>?_) (λh0=>absurd (show((ns.map V.int).length:Int)-1<1 by rw[Fc];omega) h0)⟩;exact cz ⟨Fj _,λp hp=>k p _ (Same.upd_new hp) hp aq⟩
  cases ea;have hF:=hW.tr;have l7:=hW.l7;have l2':=hW.l2;have hne:kp≠[]:=λz=>by rw[z]at l2';simp at l2'
  have hml:(kp.map V.int).length=kp.length:=Fc _
  obtain⟨rn,rx,rl⟩:Run 9 (ae kp) (ae (slopeL kp))/\(∀xs∈cv kp,xs.length<=20/\AllB 95000 xs)/\(cv kp).length<=9:=by obtain⟨r1,_,r3⟩:=mN hF hW.bits l7;refine⟨r1,λxs hx=>?_,rM 9 _ _⟩;obtain⟨_,b,l⟩:=r3 xs hx;exact⟨by omega,b.mono⟩
  have vl:=ww rl;have rl:(cv kp).length<=1000000:=by omega
  refine bQ ⟨_,rfl,a,_,rfl,hA,_,_,rfl,rfl,_,rfl,aM (λh0=>absurd (show((kp.map V.int).length:Int)-1<1 from h0) (by rw[hml];omega)) (λ_=>?_)⟩;refine ar ⟨_,rfl,a,kp,9,rfl,hA,hF,hW.bits.mono,by omega,by decide,rn,λpc ps H1 s1 hpc hnew ec hR=>?_⟩;have hR':RwH H1 ps (cv kp):=hR;refine ar ⟨_,rfl,a,kp,rfl,SqL.of (s1 _ _ hA),hF,hne,by omega,hW.bits.mono,λkb H2 hkb hB s2=>nS (t:=((2^kb:Nat):Int)) (b:=1) (by decide) (b1k (by decide)) λph H3 s3 hph hRh=>?_⟩;rw[rK,rV]at hRh;have t3:=(s1.trans s2).trans s3;refine ar ⟨_,rfl,a,kp,rfl,SqL.of (t3 _ _ hA),hF,hne,by omega,hW.bits.mono,λkb' H4 hkb' hB' s4=>?_⟩;obtain rfl:=n8 hB hB';refine⟨_,rfl,nS (t := -((2^kb:Nat):Int)) (b:=1) (by decide) (b1k (by decide)) λpl H5 s5 hpl hRl=>?_⟩;rw[rK,rV]at hRl;obtain⟨hk,hFew⟩:=hW.few kb hB;have eB:((2^kb:Nat):Int)=(2:Int)^kb:=by rw[Hv];rfl
  rw[eB]at hRh hRl;have B0:(0:Int)<2^kb:=Gb (by decide);have t5:=(t3.trans s4).trans s5;have u5:=(s2.trans s3).trans (s4.trans s5);have ec5:=u5 _ _ ec;have hR5:=hR'.same u5;have hRh5:=hRh.same (s4.trans s5);have dy0:Dya (2^kb) 0 (-(2^kb)) 1 (2^kb) 1:=Dya.start;obtain⟨b1,b2,b3,b4⟩:=ox dy0 hk (by omega);refine ar ⟨_,rfl,_,rfl,_,rfl,_,rfl,pc,pl,ps,cv kp,_,_,rfl,ec5,hR5,hRl,b1.mono,b2.mono,rx,rl,λH6 s6=>?_⟩;refine⟨_,rfl,_,rfl,pc,ph,ps,cv kp,_,_,rfl,s6 _ _ ec5,hR5.same s6,hRh5.same s6,b3.mono,b4.mono,rx,rl,λH7 s7=>⟨by show 4<=sizeLine;omega,λq0 hq0=>⟨by show 1<=sizeLine;omega,λpw hpw=>?_⟩⟩⟩;have u7:=s6.trans s7;have ec7:=u7 _ _ ec5;have hR7:=hR5.same u7;have hRl7:=hRl.same u7;have hRh7:=hRh5.same u7;have t7:=t5.trans u7;have w7:Same H7 (upd H7 q0 (.tup [.ref pl,.ref ph,.int (VV kp (-(2^kb)) 1),.int (VV kp (2^kb) 1)])):=Same.upd_new hq0;have e8:upd H7 q0 (.tup [.ref pl,.ref ph,.int (VV kp (-(2^kb)) 1),.int (VV kp (2^kb) 1)]) q0=some (.tup [.ref pl,.ref ph,.int (VV kp (-(2^kb)) 1),.int (VV kp (2^kb) 1)]):=aq;have hpw':upd H7 q0 (.tup [.ref pl,.ref ph,.int (VV kp (-(2^kb)) 1),.int (VV kp (2^kb) 1)]) pw=none:=hpw;refine ar ⟨Fj _,λpf hpf=>?_⟩;have hpf':upd (upd H7 q0 (.tup [.ref pl,.ref ph,.int (VV kp (-(2^kb)) 1),.int (VV kp (2^kb) 1)])) pw (.lst [V.ref q0]) pf=none:=hpf;show bV _ _ _ _ _;refine mU (λσ' H'=>σ'=[some (.ref a),some (.ref pc),some (.ref ph),some (.ref pl),some (.ref pw),some (.ref pf),none,none,none,none]/\upd (upd (upd H7 q0 (.tup [.ref pl,.ref ph,.int (VV kp (-(2^kb)) 1),.int (VV kp (2^kb) 1)])) pw (.lst [V.ref q0])) pf (.lst [])=H') ⟨rfl,rfl⟩ ?_;rintro σ' H10 ⟨rfl,eH10⟩;generalize upd H7 q0 (.tup [.ref pl,.ref ph,.int (VV kp (-(2^kb)) 1),.int (VV kp (2^kb) 1)])=H8 at w7 e8 hpw' hpf' eH10
  have sw:Same H8 (upd H8 pw (.lst [V.ref q0])):=Same.upd_new hpw';have sf:Same (upd H8 pw (.lst [V.ref q0])) H10:=by rw[<- eH10];exact Same.upd_new hpf'
  have s810:=sw.trans sf;have fw:H8 pw=none:=hpw';have ff:H8 pf=none:=sw.free hpf';have nwf:pw≠pf:=aN (aq (H:=H8) (o:=.lst [V.ref q0])) hpf';have ew10:H10 pw=some (.lst [V.ref q0]):=sf _ _ aq;have ef10:H10 pf=some (.lst []):=by rw[<- eH10];exact aq
  have x0w:WtH C H10 kp kb ⟨q0,pl,ph,-(2^kb),1,2^kb,1,0⟩:=⟨s810 _ _ e8,hRl7.same (w7.trans s810),hRh7.same (w7.trans s810),dy0,Fj _,.inl rfl⟩;clear eH10 sw sf
  have hm0:dL kp kb [⟨q0,pl,ph,-(2^kb),1,2^kb,1,0⟩]<=11000:=by
   show wgt kp kb _+0<=11000;unfold wgt;have v1:=vl (Cel.mk q0 pl ph (-(2^kb)) 1 (2^kb) 1 0).a;have v2:=vl (Cel.mk q0 pl ph (-(2^kb)) 1 (2^kb) 1 0).b;have h2:(Cel.cn ⟨q0,pl,ph,-(2^kb),1,2^kb,1,0⟩ kp).toNat<=9:=by unfold Cel.cn;omega
   have h3:=GR h2 (show 196-0<=196 by omega);have h4:(196-(Cel.mk q0 pl ph (-(2^kb)) 1 (2^kb) 1 0).d)=196-0:=rfl;rw[h4];omega
  refine⟨λm σ' H'=>∃(ws ys:List Cel) (z6 z7 z8 z9:Option V),m=dL kp kb ws/\σ'=[some (.ref a),some (.ref pc),some (.ref ph),some (.ref pl),some (.ref pw),some (.ref pf),z6,z7,z8,z9]/\Same H8 H'/\H' pw=some (.lst (qs ws))/\H' pf=some (.lst (qs ys))/\(∀x∈ws,WtH C H' kp kb x)/\(∀y∈ys,FdH C H' kp kb y)/\(ys.length:Int)+tot kp ws=vw kp (loR (-(2^kb)) 1)-vw kp (loR (2^kb) 1)/\ys.length+m<=11000/\cO (ys++ws.reverse),
   ⟨_,[⟨q0,pl,ph,-(2^kb),1,2^kb,1,0⟩],[],none,none,none,none,rfl,rfl,s810,ew10,ef10,λx hx=>by rw[Fv.mp hx];exact x0w,(λy hy=>nomatch hy),(by show(0:Int)+((vw kp (loR (-(2^kb)) 1)-vw kp (loR (2^kb) 1))+0)=_;omega),by show 0+_<=_;omega,by show cO [_];exact List.pairwise_singleton _ _⟩,?_⟩
  clear hm0 x0w ew10 ef10 s810;rintro m σ' H' ⟨ws,ys,z6,z7,z8,z9,rfl,rfl,sm,ew,ef,hws,hys,hcov,hlen,hri⟩;have hwl:=kA kp kb ws;have hql:(qs ws).length=ws.length:=Fc _;refine⟨_,rfl,pw,_,rfl,.inl (SqL.of ew),_,_,rfl,rfl,_,rfl,aM (λhgt=>?_) (λhle=>?_)⟩
  rotate_left
  ·
   have h0:ws=[]:=Gd.mp (by have:¬((qs ws).length:Int)>0:=hle;rw[hql]at this;omega);subst h0;refine⟨_,rfl,k kb pf ys H' hB (t7.trans (w7.trans sm)) ((t7.trans w7).free ff) ef hys (by have:tot kp []=0:=rfl;omega) (by omega) (by rw[List.reverse_nil,Gy]at hri;exact hri)⟩
  ·have hnw:ws≠[]:=λz=>by rw[z]at hql;have:((qs ws).length:Int)>0:=hgt;rw[z]at this;exact absurd this (by decide)
   obtain⟨ws',x,rfl⟩:∃ws' x,ws=ws'++[x]:=⟨ws.dropLast,ws.getLast hnw,(List.dropLast_concat_getLast hnw).symm⟩;rw[gk]at hlen;rw[kI]at hcov
   replace hri:cO (ys++x::ws'.reverse):=by rw[HA]at hri;exact hri
   rw[jC]at ew;have hx:=hws x (by simp);have hw':∀y∈ws',WtH C H' kp kb y:=λy hy=>hws y (by simp[hy])
   clear hws hql hgt hnw;have hwl:=kA kp kb ws';refine⟨_,λ_ _ h=>h,?_⟩;rw[gk];refine ar ⟨_,rfl,.inl ⟨rfl,_,SqL.of ew⟩,pw,_,V.ref x.q,rfl,rfl,ew,by rw[Fd];simp,?_⟩;rw[List.dropLast_concat];have ew1:upd H' pw (.lst (qs ws')) pw=some (.lst (qs ws')):=aq;have ef1:upd H' pw (.lst (qs ws')) pf=some (.lst (qs ys)):=by rw[upd_ne (Ne.symm nwf)];exact ef
   have n1:NL H' (upd H' pw (.lst (qs ws'))):=NL.upd ew;have sm1:Same H8 (upd H' pw (.lst (qs ws'))):=cT sm fw;generalize upd H' pw (.lst (qs ws'))=K1 at ew1 ef1 n1 sm1 ⊢
   have hx1:=hx.nl n1;have hw1:∀y∈ws',WtH C K1 kp kb y:=λy hy=>(hw' y hy).nl n1
   have hy1:∀y∈ys,FdH C K1 kp kb y:=λy hy=>(hys y hy).nl n1
   clear hw' hys ew ef sm n1 hx;refine ar ⟨_,rfl,x.q,_,_,_,rfl,rfl,SqT.of hx1.tup,rfl,_,rfl,x.q,_,_,_,rfl,rfl,SqT.of hx1.tup,rfl,_,_,rfl,rfl,?_⟩;have ecn:VV kp x.l1 x.l2-VV kp x.h1 x.h2=x.cn kp:=by rw[vO hx1.dy.l2p,vO hx1.dy.h2p];rfl
   dsimp only
   rw[ecn];have cn0:0<=x.cn kp:=oI hFew hx1.dy;refine dO (λσ' H'=>∃ys:List Cel,σ'=[some (.ref a),some (.ref pc),some (.ref ph),some (.ref pl),some (.ref pw),some (.ref pf),some (.ref x.q),some (.int (x.cn kp)),z8,z9]/\Same H8 H'/\H' pw=some (.lst (qs ws'))/\H' pf=some (.lst (qs ys))/\WtH C H' kp kb x/\(∀y∈ws',WtH C H' kp kb y)/\(∀y∈ys,FdH C H' kp kb y)/\(ys.length:Int)+(tot kp ws'+(if x.cn kp=1 then 0 else x.cn kp))=vw kp (loR (-(2^kb)) 1)-vw kp (loR (2^kb) 1)/\ys.length+dL kp kb ws'+(if x.cn kp=1 then 0 else wgt kp kb x)<=11000/\(x.cn kp≠1->cO (ys++x::ws'.reverse))/\cO (ys++ws'.reverse)) ?_ ?_
   case refine_2 =>
    intro rest;refine⟨_,rfl,_,_,rfl,rfl,_,rfl,aM (λh1=>?_) (λh1=>?_)⟩
    ·have h1':x.cn kp=1:=h1;refine jw ⟨_,rfl,.inl ⟨rfl,_,SqL.of ef1⟩,_,rfl,x.q,_,_,_,rfl,rfl,SqT.of hx1.tup,rfl,_,rfl,x.q,_,_,_,rfl,rfl,SqT.of hx1.tup,rfl,by show 2<=sizeLine;omega,λp hp=>?_⟩;have s2:Same K1 (upd K1 p (.tup [V.ref x.lo,V.ref x.hi])):=Same.upd_new hp;have e2:upd K1 p (.tup [V.ref x.lo,V.ref x.hi]) p=some (.tup [V.ref x.lo,V.ref x.hi]):=aq;generalize upd K1 p (.tup [V.ref x.lo,V.ref x.hi])=K2 at s2 e2 ⊢
     have ef2:=s2 _ _ ef1;have hyl:(qs ys).length=ys.length:=Fc _;refine⟨pf,_,_,rfl,rfl,ef2,by rw[hyl];omega,?_⟩;have n3:NL K1 (upd K2 pf (.lst (qs ys++[V.ref p]))):=(NL.of s2).trans (NL.upd ef2);have n4:NL K2 (upd K2 pf (.lst (qs ys++[V.ref p]))):=NL.upd ef2;refine rest _ _ ⟨ys++[⟨p,x.lo,x.hi,x.l1,x.l2,x.h1,x.h2,x.d⟩],rfl,cT (sm1.trans s2) ff,by rw[upd_ne nwf];exact s2 _ _ ew1,by rw[aq,jC],hx1.nl n3,λy hy=>(hw1 y hy).nl n3,λy hy=>?_,by rw[if_pos h1',Fd];show((ys.length+1:Nat):Int)+_=_;omega,?_,λz=>absurd h1' z,?_⟩
     ·rcases Fq.mp hy with z |z
      ·exact(hy1 y z).nl n3
      ·rw[Fv.mp z];exact⟨n4 _ _ e2 (λ_=>by simp),hx1.lo.nl n3,hx1.hi.nl n3,hx1.dy,hx1.dd,hx1.par,h1'⟩
     ·rw[if_pos h1',Fd];show ys.length+1+_+0<=_;have:1<=wgt kp kb x:=by unfold wgt;omega
      omega
     ·rw[Fy];exact yc (x:=x) rfl rfl hri
    ·have h1':¬x.cn kp=1:=h1;exact rest _ _ ⟨ys,rfl,sm1,ew1,ef1,hx1,hw1,hy1,by rw[if_neg h1'];omega,by rw[if_neg h1'];omega,λ_=>hri,yd hri⟩
   clear hcov hlen hri hy1 hw1 hx1 ef1 ew1 sm1 ys;rintro σ' K3 ⟨ys,rfl,sm1,ew1,ef1,hx1,hw1,hy1,hcov,hlen,hri1,hri2⟩;refine⟨_,rfl,_,_,rfl,rfl,_,rfl,aM (λh2=>?_) (λh2=>?_)⟩
   rotate_left
   ·
    have h2':¬x.cn kp>1:=h2;exact⟨dL kp kb ws',by unfold wgt;omega,ws',ys,_,_,_,_,rfl,rfl,sm1,ew1,ef1,hw1,hy1,by split at hcov<;>omega,by split at hlen<;>omega,hri2⟩
   have h2':x.cn kp>1:=h2;rw[if_neg (show ¬x.cn kp=1 by omega)]at hlen hcov
   have hdl:x.d<196:=Nat.not_le.mp λz=>by have:x.cn kp<=1:=CU hFew hx1.dy z;omega
   obtain⟨c1,c2,c3,c4⟩:=ox hx1.dy hk hx1.dd;refine ar ⟨_,rfl,x.q,_,_,_,rfl,rfl,SqT.of hx1.tup,rfl,_,rfl,x.q,_,_,_,rfl,rfl,SqT.of hx1.tup,rfl,x.lo,x.hi,_,_,_,_,rfl,hx1.lo,hx1.hi,c1.mono,c2.mono,c3.mono,c4.mono,hx1.dy.l2p,hx1.dy.h2p,λpm K4 s4 hpm hRm=>?_⟩;have n0:2*x.l2*x.h2≠0:=Gc (FD (by have:=hx1.dy.l2p;omega) hx1.dy.h2p);obtain⟨dl,dr⟩:=hx1.dy.half (yu n0) (yB n0) (yC n0);obtain⟨pl',pr'⟩:=zh (c1:=rt (x.l1*x.h2+x.h1*x.l2) (2*x.l2*x.h2)) (c2:=rb (x.l1*x.h2+x.h1*x.l2) (2*x.l2*x.h2)) hx1.dy (show 2<=x.cn kp by omega);generalize rt (x.l1*x.h2+x.h1*x.l2) (2*x.l2*x.h2)=m1 at hRm dl dr pl' pr'
   generalize rb (x.l1*x.h2+x.h1*x.l2) (2*x.l2*x.h2)=m2 at hRm dl dr pl' pr'
   have hx4:=hx1.nl (NL.of s4);obtain⟨g1,g2,g3,g4⟩:=ox dl hk (by omega);have sm4:=sm1.trans s4;refine ar ⟨_,rfl,_,rfl,pc,pm,ps,cv kp,m1,m2,rfl,sm4 _ _ (w7 _ _ ec7),hR7.same (w7.trans sm4),hRm,g3.mono,g4.mono,rx,rl,λK5 s5=>?_⟩;have hx5:=hx4.nl (NL.of s5);have u5:=s4.trans s5;refine gH ⟨_,rfl,.inl ⟨rfl,_,SqL.of (u5 _ _ ew1)⟩,_,rfl,_,rfl,x.q,_,_,_,rfl,rfl,SqT.of hx5.tup,rfl,_,rfl,_,rfl,x.q,_,_,_,rfl,rfl,SqT.of hx5.tup,rfl,by show 4<=sizeLine;omega,λq1 hq1=>?_⟩;have s6:Same K5 (upd K5 q1 (.tup [V.ref pm,V.ref x.hi,V.int (VV kp m1 m2),V.int (VV kp x.h1 x.h2)])):=Same.upd_new hq1;have e6:upd K5 q1 (.tup [V.ref pm,V.ref x.hi,V.int (VV kp m1 m2),V.int (VV kp x.h1 x.h2)]) q1=some (.tup [V.ref pm,V.ref x.hi,V.int (VV kp m1 m2),V.int (VV kp x.h1 x.h2)]):=aq;refine mT (H2:=upd K5 q1 (.tup [V.ref pm,V.ref x.hi,V.int (VV kp m1 m2),V.int (VV kp x.h1 x.h2)])) rfl ?_;generalize upd K5 q1 (.tup [V.ref pm,V.ref x.hi,V.int (VV kp m1 m2),V.int (VV kp x.h1 x.h2)])=K6 at s6 e6 ⊢
   have u6:=u5.trans s6;have ew6:=u6 _ _ ew1;have ef6:=u6 _ _ ef1;have hql:(qs ws').length=ws'.length:=Fc _;refine⟨pw,_,_,rfl,rfl,ew6,by rw[hql];omega,?_⟩;have ew7:upd K6 pw (.lst (qs ws'++[V.ref q1])) pw=some (.lst (qs ws'++[V.ref q1])):=aq;have ef7:upd K6 pw (.lst (qs ws'++[V.ref q1])) pf=some (.lst (qs ys)):=by rw[upd_ne (Ne.symm nwf)];exact ef6
   have n7:NL K6 (upd K6 pw (.lst (qs ws'++[V.ref q1]))):=NL.upd ew6;have sm7:Same H8 (upd K6 pw (.lst (qs ws'++[V.ref q1]))):=cT (sm1.trans u6) fw;generalize upd K6 pw (.lst (qs ws'++[V.ref q1]))=K7 at ew7 ef7 n7 sm7 ⊢
   have m5:NL K5 K7:=(NL.of s6).trans n7;have hx7:=hx5.nl m5;refine jw ⟨_,rfl,.inl ⟨rfl,_,SqL.of ew7⟩,_,rfl,x.q,_,_,_,rfl,rfl,SqT.of hx7.tup,rfl,_,rfl,_,rfl,x.q,_,_,_,rfl,rfl,SqT.of hx7.tup,rfl,_,rfl,by show 4<=sizeLine;omega,λq2 hq2=>?_⟩;have s8:Same K7 (upd K7 q2 (.tup [V.ref x.lo,V.ref pm,V.int (VV kp x.l1 x.l2),V.int (VV kp m1 m2)])):=Same.upd_new hq2;have e8':upd K7 q2 (.tup [V.ref x.lo,V.ref pm,V.int (VV kp x.l1 x.l2),V.int (VV kp m1 m2)]) q2=some (.tup [V.ref x.lo,V.ref pm,V.int (VV kp x.l1 x.l2),V.int (VV kp m1 m2)]):=aq;refine mT (H2:=upd K7 q2 (.tup [V.ref x.lo,V.ref pm,V.int (VV kp x.l1 x.l2),V.int (VV kp m1 m2)])) rfl ?_;generalize upd K7 q2 (.tup [V.ref x.lo,V.ref pm,V.int (VV kp x.l1 x.l2),V.int (VV kp m1 m2)])=K8 at s8 e8' ⊢
   have ew8:=s8 _ _ ew7;have hql8:(qs ws'++[V.ref q1]).length=ws'.length+1:=by rw[Fd,hql];rfl
   refine⟨pw,_,_,rfl,rfl,ew8,by rw[hql8];omega,?_⟩;have n9:NL K8 (upd K8 pw (.lst ((qs ws'++[V.ref q1])++[V.ref q2]))):=NL.upd ew8;have m7:NL K7 (upd K8 pw (.lst ((qs ws'++[V.ref q1])++[V.ref q2]))):=(NL.of s8).trans n9;have m6:=n7.trans m7;have mm5:=m5.trans m7;have m3:=(NL.of u5).trans mm5;have ladd:x.cn kp=(Cel.mk q2 x.lo pm x.l1 x.l2 m1 m2 (x.d+1)).cn kp+(Cel.mk q1 pm x.hi m1 m2 x.h1 x.h2 (x.d+1)).cn kp:=by unfold Cel.cn Cel.a Cel.b;dsimp only;omega
   have wl:wgt kp kb ⟨q1,pm,x.hi,m1,m2,x.h1,x.h2,x.d+1⟩+wgt kp kb ⟨q2,x.lo,pm,x.l1,x.l2,m1,m2,x.d+1⟩<wgt kp kb x:=by
    have p1:0<=(Cel.mk q2 x.lo pm x.l1 x.l2 m1 m2 (x.d+1)).cn kp:=oI hFew (by assumption);have p2:0<=(Cel.mk q1 pm x.hi m1 m2 x.h1 x.h2 (x.d+1)).cn kp:=oI hFew (by assumption);unfold wgt;show 1+2*(_*(196-(x.d+1)))+(1+2*(_*(196-(x.d+1))))<_;generalize (Cel.mk q2 x.lo pm x.l1 x.l2 m1 m2 (x.d+1)).cn kp=A at *
    generalize (Cel.mk q1 pm x.hi m1 m2 x.h1 x.h2 (x.d+1)).cn kp=B at *
    obtain⟨A,rfl⟩:=HB p1;obtain⟨B,rfl⟩:=HB p2;obtain⟨t,ht⟩:∃t,196-x.d=t+1:=⟨196-x.d-1,by omega⟩;have ht':196-(x.d+1)=t:=by omega
    have hc:(x.cn kp).toNat=A+B:=by omega
    rw[hc,ht,ht'];show 1+2*(B*t)+(1+2*(A*t))<1+2*((A+B)*(t+1));have e1:(A+B)*(t+1)=A*t+B*t+(A+B):=by rw[Nat.mul_succ,Nat.add_mul]
    rw[e1];omega
   refine⟨dL kp kb (ws'++[⟨q1,pm,x.hi,m1,m2,x.h1,x.h2,x.d+1⟩]++[⟨q2,x.lo,pm,x.l1,x.l2,m1,m2,x.d+1⟩]),by rw[gk,gk];omega,_,ys,_,_,_,_,rfl,rfl,cT (sm7.trans s8) fw,by rw[aq,jC,jC],by rw[upd_ne (Ne.symm nwf)];exact s8 _ _ ef7,λy hy=>?_,λy hy=>(hy1 y hy).nl m3,by rw[kI,kI];omega,by rw[gk,gk];omega,?_⟩
   ·rcases Fq.mp hy with z |z
    ·rcases Fq.mp z with z |z
     ·exact(hw1 y z).nl m3
     ·rw[Fv.mp z];exact⟨m6 _ _ e6 (λ_=>by simp),(hRm.same s5).nl mm5,hx5.hi.nl mm5,dr,by show x.d+1<=_;omega,pr'⟩
    ·rw[Fv.mp z];exact⟨n9 _ _ e8' (λ_=>by simp),hx5.lo.nl mm5,(hRm.same s5).nl mm5,dl,by show x.d+1<=_;omega,pl'⟩
   ·rw[HA,HA];exact ye (x:=x) rfl rfl rfl (Fn (jZ dl)) (Fn (jZ dr)) (hri1 (by omega))
theorem An(F:Fun K "_law_cell_at" "_law_cell_at" mI f fd)(T:Txt K mg):FnOk P w K mg base CX0 1 f fd ["_law_script","_law_k"] (je K):=by
 refine F.ok x3 (λvs H Q E h=>?_) (λcdv A outer s H vs Q E hr h=>?_)
 ·obtain⟨a,ns,k,rfl,_⟩:=h;rfl
 ·obtain⟨a,ns,n,rfl,hS,k⟩:=h
  refine⟨_,(ah (aR (aG cH (pv 1) (ba K T.len_ (aa (pv 0) ag)))
   (al (aA (bD K (pv 0) (pv 1))))
   aQ)
   (al (aA af))),?_⟩
  refine⟨_,rfl,_,rfl,a,_,rfl,.inl hS,_,_,rfl,rfl,_,rfl,?_⟩;refine aM (λh1=>?_) (λh1=>?_)
  ·rw[Fc]at h1;have h2:n<ns.length:=by omega
   refine⟨_,rfl,_,rfl,a,_,_,_,rfl,rfl,hS,fE (v:=.int (ns.getD n 0)) ?_,k⟩;rw[List.getElem?_map,List.getElem?_eq_getElem h2];simp[List.getD,h2]
  ·rw[Fc]at h1;have h2:ns.length<=n:=by omega
   have e:ns.getD n 0=0:=by simp[List.getD,List.getElem?_eq_none_iff.mpr h2]
   rw[e]at k;exact k
def qr:Sp:=λvs H Q _=>∃i:Int,vs=[.int i]/\Q (.bl true) H
theorem zO(F:Fun K "_law_whole" "_law_whole" mf f fd)(T:Txt K mg):FnOk P w K mg base CX0 1 f fd ["_law_found"] qr:=by
 refine F.ok xX (λvs H Q E h=>?_) (λcdv A outer s H vs Q E hr h=>?_)
 ·obtain⟨i,rfl,_⟩:=h;rfl
 ·obtain⟨i,rfl,k⟩:=h;refine⟨_,(al (aA (nq (bZ (ic (K:=K) rfl) (by rfl) T.isinstance_ PyProof.Rows.boot_isinstance (aa (pv 0) (aa (iI (v:=.ty "int") (by rfl) T.int_ PyProof.Rows.boot_int (by rfl)) ag))) (jF (y7 (bZ (ic (K:=K) rfl) (by rfl) T.isinstance_ PyProof.Rows.boot_isinstance (aa (pv 0) (aa (iI (v:=.ty "bool") (by rfl) T.bool_ PyProof.Rows.boot_bool (by rfl)) ag)))))))),?_⟩;refine cz (mV (fS ⟨_,rfl,g7 (.int i) (k:=true) (by rfl) ⟨_,rfl,ez ?_⟩⟩));refine yq (fS ⟨_,rfl,g7 (.int i) (k:=false) (by rfl) ⟨_,rfl,?_⟩⟩);exact k
theorem zP(F:Fun K "_law_trim" "_law_trim" mh f fd)(T:Txt K mg):FnOk P w K mg base CX0 1 f fd ["_law_row_here"] (gs K):=by
 refine F.ok lw (λvs H Q E h=>?_) (λcdv A outer s H vs Q E hr h=>?_)
 ·obtain⟨a,ns,rfl,_⟩:=h;rfl
 ·obtain⟨a,ns,rfl,hS,k⟩:=h
  refine⟨_,(ah (aj 1 lw (ba K T.len_ (aa (pv 0) ag)))
   (ah (dB PassesOwn.never (PW.pt (gM (aG b8 (pv 1) af) (gL (aG cp (bD K (pv 0) (ai aU (pv 1) af)) af))))
     (al (aj 1 lw (ai aU (pv 1) af))))
   (al (aA (fh (eR (K:=K) rfl) (pv 0) fe (fb (pv 1))))))),?_⟩
  refine⟨_,rfl,a,_,rfl,.inl hS,?_⟩;refine⟨λm σ' H'=>∃n:Nat,n<=ns.length/\σ'=[some (.ref a),some (.int n)]/\H=H'/\n=m/\trim (ns.take n)=trim ns,⟨_,ns.length,Fg _,?_,rfl,rfl,?_⟩,?_⟩
  ·rw[Fc];rfl
  ·rw[FQ]
  ·rintro m σ' H' ⟨n,hn,rfl,rfl,rfl,ht⟩
   have fin:trim (ns.take n)=ns.take n->∃v,([some (V.ref a),some (V.int n)]:St)[0]?=some (some v)/\∃v_1,([some (V.ref a),some (V.int n)]:St)[1]?=some (some v_1)/\∃i,v_1=V.int i/\jB K v none (some i) H Q:=λh=>by
    refine⟨_,rfl,_,rfl,n,rfl,a,_,rfl,hS,λp hp=>k p _ (Same.upd_new hp) hp ?_⟩;rw[aq,<- ht,h]
    have e:d7 (ns.map V.int) none (some (n:Int))=(ns.take n).map V.int:=by unfold d7;rw[HT.sIx_none,HT.sIx_nat,Hx,GO,Fc,Nat.min_eq_left hn,List.map_take]
    rw[e]
   refine⟨_,rfl,_,_,rfl,rfl,_,rfl,?_⟩;refine aM (λhp=>?_) (λhp=>?_)
   ·obtain⟨j,rfl⟩:∃j,n=j+1:=⟨n-1,by have:(0:Int)<n:=hp;omega⟩;have hj:j<ns.length:=hn;refine⟨_,rfl,_,rfl,_,_,rfl,rfl,a,_,j,.int (cf ns j),rfl,?_,hS,fE ?_,_,_,rfl,rfl,_,rfl,?_⟩
    ·show V.int (((j+1:Nat):Int)-1)=V.int j
     congr 1;omega
    ·rw[List.getElem?_map,dX hj];rfl
    refine aM (λh0=>?_) (λh0=>?_)
    ·refine⟨_,λ_ _ h=>h,?_⟩;refine⟨_,rfl,_,_,rfl,rfl,j,GK _,j,G5 hj,?_,rfl,rfl,?_⟩
     ·show[some (V.ref a),some (V.int (((j+1:Nat):Int)-1))]=[some (V.ref a),some (V.int j)]
      congr 4;omega
     ·rw[<- ht,kG hj h0]
    ·exact fin (pQ hj h0)
   ·obtain rfl:n=0:=by have:¬(0:Int)<n:=hp;omega
    exact fin (by rw[List.take_zero];rfl)
def kS:Sp:=λvs H Q _=>∃(a b:Addr) (xs ys:List Int),vs=[.ref a,.ref b]/\H a=some (.lst (xs.map V.int))/\H b=some (.lst (ys.map V.int))/\xs.length<=1000000/\ys.length<=1000000/\AllB 1000000 xs/\AllB 1000000 ys/\mkL H Q (ac xs ys)
theorem Ad(F:Fun K "_law_mul" "_law_mul" mz f fd)(T:Txt K mg):FnOk P w K mg base CX0 1 f fd ["_law_kp","_law_kq"] kS:=by
 refine F.ok sc__law_mul (λvs H Q E h=>?_) (λcdv A outer s H vs Q E hr h=>?_)
 ·obtain⟨a,b,xs,ys,rfl,_⟩:=h;rfl
 ·obtain⟨a,b,xs,ys,rfl,hA,hB,hx,hy,bx,by',k⟩:=h
  refine⟨_,(ah (aR (PW.pt (eX (aG cp (ba K T.len_ (aa (pv 0) ag)) af) (gK (aG cp (ba K T.len_ (aa (pv 1) ag)) af))))
   (al (aA (bK ag)))
   aQ)
   (ah (fT (i:=2) sc__law_mul.nd rfl (Or.inl rfl) (own:=["_law_k"]) (fr:=[]) (js:=[]) (by walk_at "comp_ok") rfl (iH rfl T.range_ (aa (ai aU (ai bC (ba K T.len_ (aa (pv 0) ag)) (ba K T.len_ (aa (pv 1) ag))) af) ag)) (λ_ _ _ _=>(cj (i:=0) (show List.Nodup (["_law_k"]:List Str)from by decide +kernel) rfl (Or.inl rfl))) (λ_ _ _ _=>af) (by rfl))
   (ah (bM PassesOwn.never rfl (gP rfl T.enumerate_ (aa (pv 0) ag)) (gR rfl (de (bE 3 sc__law_mul) (de (bE 4 sc__law_mul) gQ)))
     (al (bM PassesOwn.never rfl (gP rfl T.enumerate_ (aa (pv 1) ag)) (gR rfl (de (bE 5 sc__law_mul) (de (bE 6 sc__law_mul) gQ)))
       (al (gO (ai bC (bD K (pv 2) (ai bC (pv 3) (pv 5))) (ai aE (pv 4) (pv 6))) (gS (pv 2) (ai bC (pv 3) (pv 5)) gz))))))
   (al (aA (pv 2)))))),?_⟩
  have none':(xs=[]\/ys=[])->∀p,H p=none->Q (.ref p) (upd H p (.lst [])):=λh p hp=>k p _ (Same.upd_new hp) hp (by rw[aq];unfold ac;rw[if_pos h];rfl)
  have hlx:(xs.map V.int).length=xs.length:=Fc _;have hly:(ys.map V.int).length=ys.length:=Fc _;refine bQ (eT ⟨_,rfl,a,_,rfl,.inl (SqL.of hA),_,_,rfl,rfl,_,rfl,aM (λh0=>?_) (λh0=>?_)⟩)
  ·exact ez ⟨Fj _,λp hp=>none' (.inl (Gd.mp (by rw[hlx]at h0;omega))) p hp⟩
  refine⟨_,rfl,b,_,rfl,.inl (SqL.of hB),_,_,rfl,rfl,_,rfl,aM (λh1=>?_) (λh1=>?_)⟩
  ·exact⟨Fj _,λp hp=>none' (.inr (Gd.mp (by rw[hly]at h1;omega))) p hp⟩
  rw[hlx]at h0;rw[hly]at h1;have hx0:xs≠[]:=λz=>h0 (by rw[z];rfl)
  have hy0:ys≠[]:=λz=>h1 (by rw[z];rfl)
  obtain⟨la,ea⟩:∃la,xs.length=la+1:=⟨xs.length-1,by have:=Fh.mpr hx0;omega⟩;obtain⟨lb,eb⟩:∃lb,ys.length=lb+1:=⟨ys.length-1,by have:=Fh.mpr hy0;omega⟩;have big:=sizeLine_eq;have en:((xs.map V.int).length:Int)+((ys.map V.int).length:Int)-1=((la+lb+1:Nat):Int):=by rw[hlx,hly];omega
  refine⟨_,rfl,a,_,rfl,.inl (SqL.of hA),_,rfl,b,_,rfl,.inl (SqL.of hB),_,_,rfl,rfl,_,_,rfl,rfl,?_⟩;dsimp only
  rw[en];refine⟨_,rfl,by omega,by omega,j7 (lo:=0) (n:=la+lb+1) (λi zs σ' H'=>∃z:Option V,σ'=[z]/\zs=(List.replicate i (0:Int)).map V.int/\H=H') (by omega) ⟨none,rfl,rfl,rfl⟩ ?_ ?_ ?_⟩
  ·rintro i zs σ' H' _ ⟨z,rfl,rfl,rfl⟩;simp
  ·rintro i zs σ' H' hi ⟨z,rfl,rfl,rfl⟩;refine⟨_,rfl,?_,rfl⟩;rw[List.replicate_succ',Fk];rfl
  rintro zs σ' H' p ⟨z,rfl,rfl,rfl⟩ hp;have s4:=Same.upd_new (o:=.lst ((List.replicate (la+lb+1) (0:Int)).map V.int)) hp;have npa:a≠p:=aN hA hp;have npb:b≠p:=aN hB hp;have hp4:upd H p (.lst ((List.replicate (la+lb+1) (0:Int)).map V.int)) p=some (.lst ((List.replicate (la+lb+1) (0:Int)).map V.int)):=aq;generalize upd H p (.lst ((List.replicate (la+lb+1) (0:Int)).map V.int))=H4 at s4 hp4 ⊢
  refine⟨_,rfl,a,rfl,⟨_,SqL.of (s4 _ _ hA)⟩,iQ (K:=K) (a:=a) (xs:=xs.map V.int) (λj σ' H'=>∃(acc:List Int) (z3 z4 z5 z6:Option V),σ'=[some (.ref a),some (.ref b),some (.ref p),z3,z4,z5,z6]/\SameB p H4 H'/\H' p=some (.lst (acc.map V.int))/\acc.length=la+lb+1/\∀n,n<acc.length->cf acc n=sm xs ys n j)
   ⟨List.replicate (la+lb+1) 0,none,none,none,none,rfl,SameB.refl _ _,hp4,by simp,λn _=>by rw[fA];rfl⟩ ?_ ?_ ?_⟩
  ·rintro j σ' H' _ ⟨acc,z3,z4,z5,z6,rfl,sb,_⟩;exact SqL.of (sb _ _ npa (s4 _ _ hA))
  ·rintro j x σ' H' q hj ⟨acc,z3,z4,z5,z6,rfl,sb,hpa,hal,hac⟩ hq;rw[List.getElem?_map]at hj
   have hjl:j<xs.length:=by apply Classical.byContradiction;intro hn;rw[List.getElem?_eq_none_iff.mpr (GW hn)]at hj;cases hj
   rw[dX hjl]at hj;obtain rfl:=Option.some.inj hj;refine⟨q,_,rfl,SqT.of aq,rfl,_,_,rfl,_,_,rfl,rfl,?_⟩;have nqp:p≠q:=aN hpa hq;have sb1:SameB p H4 (upd H' q (.tup [.int j,.int (cf xs j)])):=sb.then_new hq
   refine⟨_,rfl,b,rfl,⟨_,SqL.of (sb1 _ _ npb (s4 _ _ hB))⟩,iQ (K:=K) (a:=b) (xs:=ys.map V.int) (λi σ' H'=>∃(acc:List Int) (z5 z6:Option V),σ'=[some (.ref a),some (.ref b),some (.ref p),some (.int j),some (.int (cf xs j)),z5,z6]/\SameB p H4 H'/\H' p=some (.lst (acc.map V.int))/\acc.length=la+lb+1/\∀n,n<acc.length->cf acc n=sm xs ys n j+(if j<=n/\n-j<i then tm xs ys n j else 0))
    ⟨acc,z5,z6,rfl,sb1,by rw[upd_ne nqp];exact hpa,hal,AK hac⟩ ?_ ?_ ?_⟩
   ·rintro i σ' H' _ ⟨acc,z5,z6,rfl,sb,_⟩;exact SqL.of (sb _ _ npb (s4 _ _ hB))
   ·rintro i x σ' H' q hi ⟨acc,z5,z6,rfl,sb,hpa,hal,hac⟩ hq;rw[List.getElem?_map]at hi
    have hil:i<ys.length:=by apply Classical.byContradiction;intro hn;rw[List.getElem?_eq_none_iff.mpr (GW hn)]at hi;cases hi
    rw[dX hil]at hi;obtain rfl:=Option.some.inj hi;refine⟨q,_,rfl,SqT.of aq,rfl,_,_,rfl,_,_,rfl,rfl,?_⟩;have nqp:p≠q:=aN hpa hq;have hpa':upd H' q (.tup [.int i,.int (cf ys i)]) p=some (.lst (acc.map V.int)):=by rw[upd_ne nqp];exact hpa
    have hji:j+i<acc.length:=by omega
    have eji:((j:Nat):Int)+((i:Nat):Int)=((j+i:Nat):Int):=by omega
    refine⟨_,rfl,_,rfl,_,rfl,_,_,rfl,rfl,p,_,_,_,rfl,rfl,SqL.of hpa',gd eji hji,_,rfl,_,rfl,_,_,rfl,rfl,⟨bx.cf j,by'.cf i⟩,_,_,rfl,rfl,_,rfl,_,rfl,_,rfl,_,_,rfl,rfl,p,_,_,j+i,rfl,rfl,hpa',gZ eji (by rw[Fc];exact hji),?_⟩;refine⟨acc.set (j+i) (cf acc (j+i)+cf xs j*cf ys i),_,_,rfl,(sb.then_new hq).then_upd,by rw[aq,gX],by rw[Gr];exact hal,AJ hjl hil hji hac⟩
   ·rintro σ' H' ⟨acc,z5,z6,rfl,sb,hpa,hal,hac⟩;rw[Fc]at hac;exact⟨acc,_,_,_,_,rfl,sb,hpa,hal,AL hac⟩
  ·rintro σ' H' ⟨acc,z3,z4,z5,z6,rfl,sb,hpa,hal,hac⟩;rw[Fc]at hac;refine⟨_,rfl,k p H' (λb' o e=>sb b' o (aN e hp) (s4 b' o e)) hp ?_⟩;rw[hpa]
   have e:acc=ac xs ys:=by
    apply cL
    ·rw[hal];unfold ac;rw[if_neg (by intro z;exact z.elim hx0 hy0),Fc,Gk];omega
    ·intro n _;rw[ap,AM (by omega) hac]
   rw[e]
theorem Ah(F:Fun K "_law_gcd" "_law_gcd" mE f fd)(T:Txt K mg):FnOk P w K mg base CX0 1 f fd ["_law_a","_law_b"] sp2:=by
 refine F.ok gC (λvs H Q E h=>?_) (λcdv A outer s H vs Q E hr h=>?_)
 ·obtain⟨a,b,rfl,_⟩:=h;rfl
 ·obtain⟨a,b,rfl,k⟩:=h
  refine⟨_,(ah (aj 0 gC (bZ dq (by rfl) T.abs_ PyProof.Rows.boot_abs (aa (pv 0) ag)))
   (ah (aj 1 gC (bZ dq (by rfl) T.abs_ PyProof.Rows.boot_abs (aa (pv 1) ag)))
   (ah (dB PassesOwn.never (aG b8 (pv 1) af)
     (ah (aj 2 gC (ai cb (pv 0) (pv 1)))
       (ah (aj 0 gC (pv 1))
       (al (aj 1 gC (pv 2))))))
   (al (aA (pv 0)))))),?_⟩
  refine⟨_,rfl,_,rfl,?_⟩;refine⟨_,rfl,_,rfl,?_⟩;refine⟨λm σ' H'=>∃(x y:Int) (z:Option V),σ'=[some (.int x),some (.int y),z]/\H=H'/\0<=x/\0<=y/\y.natAbs=m/\Nat.gcd x.natAbs y.natAbs=Nat.gcd a.natAbs b.natAbs,⟨_,_,_,none,rfl,rfl,?_,?_,rfl,?_⟩,?_⟩
  ·rw[du];exact Hr _
  ·rw[du];exact Hr _
  ·rw[du,du,FU,FU]
  ·rintro m σ' H' ⟨x,y,z,rfl,rfl,hx,hy,rfl,hg⟩;refine⟨_,rfl,_,_,rfl,rfl,_,rfl,?_⟩;refine aM (λhn=>?_) (λh0=>?_)
   ·have hp:0<y:=hn;refine⟨_,λ_ _ h=>h,?_⟩;refine⟨_,rfl,_,rfl,_,_,rfl,rfl,hp,?_⟩;refine⟨_,rfl,?_⟩;refine⟨_,rfl,?_⟩;have h1:=Int.emod_nonneg x (Gc hp);have h2:=Int.emod_lt_of_pos x hp;exact⟨(x%y).natAbs,by omega,y,x%y,_,rfl,rfl,hy,h1,rfl,by rw[uw hx hp];exact hg⟩
   ·refine⟨_,rfl,?_⟩;have e:(y:Int)=0:=by have:¬(0:Int)<y:=h0;omega
    subst e
    have e2:(x:Int)=((Nat.gcd a.natAbs b.natAbs:Nat):Int):=by rw[<- hg];show x=((Nat.gcd x.natAbs 0:Nat):Int);rw[Nat.gcd_zero_right];omega
    rw[e2];exact k
theorem zU(F:Fun K "_law_shrunk" "_law_shrunk" ju f fd)(T:Txt K mg)(hNS:base.NoSeer)(hTr:P.given.tree=none)(pA:Cal P w K mg base 1 "_law_gcd" ["_law_a","_law_b"] sp2 Cp Ca):FnOk P w K mg base CX0 33 f fd ["_law_kp"] gt:=by
 refine F.ok jo (λvs H Q E h=>?_) (λcdv A outer s H vs Q E hr h=>?_)
 ·obtain⟨a,ns,rfl,_⟩:=h;rfl
 ·obtain⟨a,ns,rfl,hA,ht,hn,k⟩:=h;have big:=sizeLine_eq;have hdp:(A.deeper (PyProof.Rows.envOfC (Str.ofString "_law_shrunk") (aB ju) s.heap.objs.size f cdv)).depth+100<recursionLimit:=by have:=hr.dp;omega
  refine⟨_,(ah (aj 1 jo af)
   (ah (bM PassesOwn.never rfl (bY (K:=K) rfl (pv 0)) (bE 2 jo)
     (al (aj 1 jo (au pA hr (aa (pv 1) (aa (pv 2) ag))))))
   (ah (aR (aG cp (pv 1) af)
     (al (aA (bK ag)))
     aQ)
   (al (aA (fi (own:=["_law_one"]) (fr:=["_law_most"]) (js:=[1]) (by walk_at "comp_ok") rfl (bY (K:=K) rfl (pv 0)) (λ_ _ _ _=>(cj (i:=0) (show List.Nodup (["_law_one","_law_most"]:List Str)from by decide +kernel) rfl (Or.inl rfl))) (λ_ _ _ _=>(ai (tq hNS hTr hdp rfl rfl rfl rfl rfl) (pv 0) (pv 1))))))))),?_⟩
  refine ar ?_;refine⟨_,rfl,a,rfl,⟨_,SqL.of hA⟩,dY (K:=K) (a:=a) (xs:=ns.map V.int) (λi σ' H'=>∃z:Option V,σ'=[some (.ref a),some (.int (am (ns.take i):Nat)),z]/\H=H') ⟨none,rfl,rfl⟩ (λi σ' H' _ ⟨z,_,e⟩=>by rw[<- e];exact SqL.of hA) ?_ ?_⟩
  ·rintro i y σ' H' hi ⟨z,rfl,rfl⟩;obtain⟨n,e,rfl,_,et⟩:=cK hi;refine⟨_,rfl,_,rfl,_,_,rfl,?_⟩;refine⟨some (.int n),?_,rfl⟩;rw[et,ux,FU];rfl
  ·rintro σ' H' ⟨z,rfl,rfl⟩;rw[Fc,FQ];dsimp only
   refine bQ ⟨_,rfl,_,_,rfl,rfl,_,rfl,aM (λh0=>?_) (λh0=>?_)⟩
   ·have hnil:ns=[]:=Classical.byContradiction λhne=>by have g1:=oq ht hne;have:((am ns:Nat):Int)=0:=h0;omega
    subst hnil;exact⟨Fj _,λp hp=>k p _ (Same.upd_new hp) hp (by rw[aq];rfl)⟩
   ·have hne:ns≠[]:=λz=>h0 (by rw[z];rfl)
    have g1:=oq ht hne;refine cz ⟨_,rfl,a,rfl,⟨_,SqL.of hA⟩,d8 (K:=K) (a:=a) (xs:=ns.map V.int) (λi ys σ' H'=>∃(z0:Option V),σ'=[z0,some (.int (am ns:Nat))]/\ys=((ns.take i).map λx=>x/(am ns:Int)).map V.int/\H=H') (by rw[Fc];omega) ⟨none,rfl,rfl,rfl⟩ ?_ ?_ ?_⟩
    ·rintro i ys σ' H' _ ⟨z0,rfl,rfl,rfl⟩;exact⟨SqL.of hA,by rw[Fc,Fc,FW];exact Gx _ _⟩
    ·rintro i x ys σ' H' hi ⟨z0,rfl,rfl,rfl⟩;obtain⟨c,e,rfl,_,et⟩:=cK hi;refine⟨_,rfl,_,rfl,_,_,rfl,rfl,g1,_,rfl,?_,rfl⟩;rw[et];simp
    ·rintro ys σ' H' p ⟨z0,rfl,rfl,rfl⟩ hp;refine k p _ (Same.upd_new hp) hp ?_;rw[aq,Fc,FQ];rfl
theorem Ab(F:Fun K "_law_plain" "_law_plain" mx f fd)(T:Txt K mg)(ig:Cal P w K mg base 33 "_law_shrunk" ["_law_kp"] gt uL uI):FnOk P w K mg base CX0 34 f fd ["_law_kp"] qH:=by
 refine F.ok rG (λvs H Q E h=>?_) (λcdv A outer s H vs Q E hr h=>?_)
 ·obtain⟨a,ns,rfl,_⟩:=h;rfl
 ·obtain⟨a,ns,rfl,hA,ht,hn,k⟩:=h;have big:=sizeLine_eq
  refine⟨_,(ah (aj 1 rG (au ig hr (aa (pv 0) ag)))
   (ah (aR (PW.pt (gM (aG b8 (ba K T.len_ (aa (pv 1) ag)) af) (gL (aG cH (bD K (pv 1) (bJ bI af)) af))))
     (al (aA (fi (own:=["_law_one"]) (fr:=[]) (js:=[]) (by walk_at "comp_ok") rfl (bY (K:=K) rfl (pv 1)) (λ_ _ _ _=>(cj (i:=0) (show List.Nodup (["_law_one"]:List Str)from by decide +kernel) rfl (Or.inl rfl))) (λ_ _ _ _=>(ai aU af (pv 0))))))
     aQ)
   (al (aA (pv 1))))),?_⟩
  refine ar ⟨_,rfl,a,ns,rfl,hA,ht,hn,λp H1 s1 hp e1=>?_⟩;have hsl:(ae ns).length=ns.length:=Fc _;refine dO (λσ' H'=>σ'=[some (.ref a),some (.ref p)]/\H1=H'/\b7 (ae ns)=ae ns) ?_ ?_
  ·rintro σ' H' ⟨rfl,rfl,e3⟩;exact⟨_,rfl,k p H1 s1 hp (by rw[e1];show _=some (HO.lst ((b7 (ae ns)).map V.int));rw[e3])⟩
  intro rest;refine iC ⟨_,rfl,p,_,rfl,.inl (SqL.of e1),_,_,rfl,rfl,_,rfl,aM (λh0=>?_) (λh0=>?_)⟩
  ·rw[Fc]at h0;have hne:ae ns≠[]:=λz=>by rw[z]at h0;exact absurd h0 (by decide)
   obtain⟨r,x,er⟩:=(bX (ae ns)).resolve_left hne;refine⟨_,rfl,_,rfl,p,_,_,.int x,rfl,rfl,SqL.of e1,(by rw[er];exact Di r x),_,_,rfl,rfl,_,rfl,?_⟩;have elast:aJ (ae ns)=x:=by rw[er,cu]
   refine aM (λhx=>?_) (λhx=>?_)
   ·have hx':x<0:=hx;have epos:b7 (ae ns)=(ae ns).map λx => -x:=by unfold b7;rw[elast,if_pos hx']
    refine cz ⟨_,rfl,p,rfl,⟨_,SqL.of e1⟩,d8 (K:=K) (a:=p) (xs:=(ae ns).map V.int) (λi ys σ' H'=>∃(z0:Option V),σ'=[z0]/\ys=(((ae ns).take i).map λx => -x).map V.int/\H1=H') (by rw[Fc,hsl];omega) ⟨none,rfl,rfl,rfl⟩ ?_ ?_ ?_⟩
    ·rintro i ys σ' H' _ ⟨z0,rfl,rfl,rfl⟩;exact⟨SqL.of e1,by rw[Fc,Fc,FW];exact Gx _ _⟩
    ·rintro i x ys σ' H' hi ⟨z0,rfl,rfl,rfl⟩;obtain⟨c,e,rfl,_,et⟩:=cK hi;refine⟨_,rfl,_,_,rfl,rfl,_,rfl,?_,rfl⟩;rw[et];simp
    ·rintro ys σ' H' p' ⟨z0,rfl,rfl,rfl⟩ hp';refine k p' _ (s1.then_new hp') (s1.free hp') ?_;rw[aq,Fc,FQ];show _=some (HO.lst ((b7 (ae ns)).map V.int));rw[epos]
   ·exact rest _ _ ⟨rfl,rfl,by unfold b7;rw[elast,if_neg hx]⟩
  ·rw[Fc]at h0;have he':ae ns=[]:=Gd.mp (by omega);exact rest _ _ ⟨rfl,rfl,by rw[he'];rfl⟩
theorem two9:Bits 9000 2:=Bits.mono (j:=2) (by show(2:Int).natAbs<2^2;decide) (by decide)
theorem re{i j:Nat}{a b:List Int}{n:Nat}(ha:AllB i a)(hb:AllB j b):∀m,Bits (i+j+m) (sm a b n m)
 |0=>Bits.zero
 |m+1=>by
  rw[sm];refine(re ha hb m).add ?_;unfold tm;split
  ·exact((ha.cf m).mul (hb.cf _)).mono (by omega)
  ·exact Bits.zero
theorem tW{i j k:Nat}{a b:List Int}(ha:AllB i a)(hb:AllB j b)(hk:i+j+a.length<=k):AllB k (ac a b):=AllB.of_cf λn=>by rw[ap];exact(re ha hb a.length).mono hk
theorem tV{c:Int}{l:List Int}(h:l≠[]):(ac [c] l).length=l.length:=by unfold ac;rw[if_neg (λz=>z.elim (λy=>nomatch y) h),Fc,Gk];show 1+l.length-1=l.length;omega
def Fac(m:Int)(l:List Int):Prop:=∃u e b:Int,l=[u,e,b] /\ -m<=u/\u<=m /\ -36<e/\e<36/\1<=b/\b<=3/\NS e
def qP:Sp:=λvs H Q _=>∃c m:Int,vs=[.int c,.int m]/\0<=m/\∀(p:Addr) (l:List Int),H p=none->Fac m l->Q (.ref p) (upd H p (.tup (l.map V.int)))
theorem fm{x m:Int}(h:0<m):0<=x%m/\x%m<m:=⟨Int.emod_nonneg _ (Gc h),Int.emod_lt_of_pos _ h⟩
theorem Ak(F:Fun K "_law_factor_by" "_law_factor_by" mG f fd)(T:Txt K mg):FnOk P w K mg base CX0 1 f fd ["_law_cell","_law_most"] qP:=by
 refine F.ok ix (λvs H Q E h=>?_) (λcdv A outer s H vs Q E hr h=>?_)
 ·obtain⟨c,m,rfl,_⟩:=h;rfl
 ·obtain⟨c,m,rfl,hm,k⟩:=h
  refine⟨_,(ah (aj 2 ix (ai aU (ai cb (ai fX (pv 0) af) (ai bC (ai gT af (pv 1)) af)) (pv 1)))
   (ah (aj 3 ix (ai bC af (ai cb (ai cb (ai gT (pv 0) af) af) af)))
   (ah (aj 4 ix (ai bC af (ai cb (ai cb (ai gT (pv 0) af) af) af)))
   (ah (aj 5 ix (ai bC (ai bC (ai gT (pv 4) (pv 4)) af) (ai cb (ai cb (ai gT (pv 0) af) af) (ai gT af (pv 4)))))
   (ah (aR (aG cp (ai cb (pv 0) af) af)
     (al (aA (ck (aa (pv 2) (aa (pv 5) (aa (pv 3) ag))))))
     aQ)
   (ah (aR (aG cp (ai cb (pv 0) af) af)
     (al (aA (ck (aa (pv 2) (aa (ai aU af (pv 5)) (aa (pv 3) ag))))))
     aQ)
   (al (aA (ck (aa (pv 2) (aa af (aa (pv 3) ag)))))))))))),?_⟩
  refine ar ⟨_,rfl,_,_,rfl,rfl,⟨by decide,Bits.mono (j:=3) (by show(4:Int).natAbs<2^3;decide) (by decide)⟩,_,rfl,_,_,rfl,rfl,.inl ⟨by decide,by decide⟩,_,_,rfl,rfl,_,_,rfl,rfl,(by show(0:Int)<2*m+1;omega),_,rfl,_,_,rfl,rfl,?_⟩;obtain⟨u1,u2⟩:=fm (x:=c/4) (m:=2*m+1) (by omega);dsimp only
  generalize hu:c/4%(2*m+1)-m=u;have hu1 : -m<=u:=by omega
  have hu2:u<=m:=by omega
  refine ar ⟨_,rfl,_,_,rfl,rfl,.inr ⟨by decide,by decide⟩,_,_,rfl,rfl,(by show(0:Int)<10007;decide),_,_,rfl,rfl,(by show(0:Int)<3;decide),_,_,rfl,rfl,?_⟩;obtain⟨b1,b2⟩:=fm (x:=c*48271%10007) (m:=3) (by omega);dsimp only
  generalize hb:1+c*48271%10007%3=b;have hb1:1<=b:=by omega
  have hb2:b<=3:=by omega
  refine ar ⟨_,rfl,_,_,rfl,rfl,.inr ⟨by decide,by decide⟩,_,_,rfl,rfl,(by show(0:Int)<10009;decide),_,_,rfl,rfl,(by show(0:Int)<5;decide),_,_,rfl,rfl,?_⟩;obtain⟨n1,n2⟩:=fm (x:=c*69621%10009) (m:=5) (by omega);dsimp only
  generalize hn:1+c*69621%10009%5=n;have hn1:1<=n:=by omega
  have hn2:n<=5:=by omega
  refine ar ⟨_,rfl,_,rfl,_,_,rfl,rfl,.inl ⟨by show -(2^64)<n;omega,by show n<2^64;omega⟩,_,_,rfl,rfl,_,rfl,_,_,rfl,rfl,.inr ⟨by decide,by decide⟩,_,_,rfl,rfl,(by show(0:Int)<10037;decide),_,rfl,_,_,rfl,rfl,.inl ⟨by decide,by decide⟩,_,_,rfl,rfl,(by show(0:Int)<2*n;omega),_,_,rfl,rfl,?_⟩;obtain⟨e1,e2⟩:=fm (x:=c*16807%10037) (m:=2*n) (by omega);dsimp only
  generalize he:n*n+1+c*16807%10037%(2*n)=e;have hnn:0<=n*n:=FZ (by omega) (by omega);have he0:0<e:=by omega
  have hns:n*n<e/\e<(n+1)*(n+1):=by
   have:(n+1)*(n+1)=n*n+2*n+1:=by rw[Int.add_mul,Int.mul_add];omega
   omega
  have he2:e<36:=by
   have h1:n=1\/n=2\/n=3\/n=4\/n=5:=by omega
   rcases h1 with rfl |rfl |rfl |rfl |rfl<;>omega
  refine bQ ⟨_,rfl,_,_,rfl,rfl,(by show(0:Int)<4;decide),_,_,rfl,rfl,_,rfl,aM (λ_=>?_) (λ_=>?_)⟩
  ·exact⟨_,rfl,_,rfl,_,rfl,by show 3<=sizeLine;decide,λp hp=>k p [u,e,b] hp ⟨u,e,b,rfl,hu1,hu2,by omega,he2,hb1,hb2,.inr ⟨n,by omega,hns.1,hns.2⟩⟩⟩
  refine bQ ⟨_,rfl,_,_,rfl,rfl,(by show(0:Int)<4;decide),_,_,rfl,rfl,_,rfl,aM (λ_=>?_) (λ_=>?_)⟩
  ·exact⟨_,rfl,_,rfl,_,_,rfl,rfl,_,rfl,by show 3<=sizeLine;decide,λp hp=>k p [u,0-e,b] hp ⟨u,0-e,b,rfl,hu1,hu2,by omega,by omega,hb1,hb2,.inl (by omega)⟩⟩
  exact⟨_,rfl,_,rfl,by show 3<=sizeLine;decide,λp hp=>k p [u,0,b] hp ⟨u,0,b,rfl,hu1,hu2,by omega,by omega,hb1,hb2,.inl (GM _)⟩⟩
def kP:Sp:=λvs H Q _=>∃(p:Addr) (l:List Int),vs=[.ref p]/\H p=some (.tup (l.map V.int))/\Fac 11 l/\mkL H Q (ao l)
theorem pT{u e b:Int}(hb:0<b):Tr (aC u e b)/\aC u e b≠[]:=by obtain⟨tr,l2⟩:=eL (u:=u) (e:=e) (b:=b) (by omega);exact⟨tr,λz=>by rw[z]at l2;simp at l2⟩
theorem rW{u e b:Int}(h1 : -11<=u)(h2:u<=11)(h3 : -36<e)(h4:e<36)(h5:1<=b)(h6:b<=3):AllB 10 (aC u e b):=by
 have q1:(u*u).natAbs<=11*11:=b9 (by omega) (by omega);have q2:(b*u).natAbs<=3*11:=b9 (by omega) (by omega);have q3:(b*b).natAbs<=3*3:=b9 (by omega) (by omega);have q4 : -2*b*u = -2*(b*u):=by grind
 unfold aC;split
 ·intro x hx;simp only[FC,List.not_mem_nil,or_false]at hx;rcases hx with rfl |rfl
  ·show(-u).natAbs<1024;omega
  ·show x.natAbs<1024;omega
 ·intro x hx;simp only[FC,List.not_mem_nil,or_false]at hx;rcases hx with rfl |rfl |rfl
  ·show(u*u-e).natAbs<1024;omega
  ·rw[q4];show(-2*(b*u)).natAbs<1024;omega
  ·show(b*b).natAbs<1024;omega
theorem zV(F:Fun K "_law_shape" "_law_shape" mn f fd)(T:Txt K mg)(wf:Cal P w K mg base 34 "_law_plain" ["_law_kp"] qH EY El):FnOk P w K mg base CX0 35 f fd ["_law_factor"] kP:=by
 refine F.ok ly (λvs H Q E h=>?_) (λcdv A outer s H vs Q E hr h=>?_)
 ·obtain⟨p,l,rfl,_⟩:=h;rfl
 ·obtain⟨p,l,rfl,hP,⟨u,e,b,rfl,h1,h2,h3,h4,h5,h6,h7⟩,k⟩:=h;have hb:=rW h1 h2 h3 h4 h5 h6;obtain⟨tr,hne⟩:=pT (u:=u) (e:=e) (b:=b) (by omega)
  replace k:mkL H Q (aw (aC u e b)):=k
  have bu:Bits 31 u:=by show u.natAbs<2147483648;omega
  have bb:Bits 2 b:=by show b.natAbs<4;omega
  refine⟨_,(ah (aj 1 ly (aK K (pv 0) af))
   (ah (aj 2 ly (aK K (pv 0) af))
   (ah (aR (aG cp (aK K (pv 0) af) af)
     (al (aA (au wf hr (aa (bK (aa (ai aU af (pv 1)) (aa (pv 2) ag))) ag))))
     aQ)
   (al (aA (au wf hr (aa (bK (aa (ai aU (ai aE (pv 1) (pv 1)) (aK K (pv 0) af)) (aa (ai aE (ai aE (bJ bI af) (pv 2)) (pv 1)) (aa (ai aE (pv 2) (pv 2)) ag)))) ag))))))),?_⟩
  refine ar ⟨_,rfl,p,_,_,_,rfl,rfl,SqT.of hP,rfl,?_⟩;refine ar ⟨_,rfl,p,_,_,_,rfl,rfl,SqT.of hP,rfl,?_⟩;refine bQ ⟨_,rfl,p,_,_,_,rfl,rfl,SqT.of hP,rfl,_,_,rfl,rfl,_,rfl,aM (λh0=>?_) (λh0=>?_)⟩
  ·have h0':e=0:=h0;subst h0';have er:aC u 0 b=[0-u,b]:=by unfold aC;rw[if_pos rfl,Int.zero_sub]
   rw[er]at hb tr k;refine⟨_,rfl,_,_,rfl,rfl,_,rfl,by show 2<=sizeLine;decide,λq hq=>?_⟩;refine⟨q,[0-u,b],rfl,aq,tr,by show 2<=1000000;decide,λp' H' sm hp' e'=>k p' H' ((Same.upd_new hq).trans sm) ((Same.upd_new hq).free hp') e'⟩
  ·have h0':¬e=0:=h0;have er:aC u e b=[u*u-e,-2*b*u,b*b]:=by unfold aC;rw[if_neg h0']
   rw[er]at hb tr k;refine cz ⟨_,rfl,_,rfl,_,_,rfl,rfl,⟨bu.mono,bu.mono⟩,_,rfl,p,_,_,_,rfl,rfl,SqT.of hP,rfl,_,_,rfl,rfl,?_⟩;refine⟨_,rfl,_,rfl,_,_,rfl,rfl,⟨Bits.mono (j:=2) (by show(-2:Int).natAbs<2^2;decide) (by decide),bb.mono⟩,_,rfl,_,_,rfl,rfl,⟨Bits.mono (j:=4) (Bits.mul (j:=2) (k:=2) (by show(-2:Int).natAbs<2^2;decide) bb) (by decide),bu.mono⟩,?_⟩;refine⟨_,rfl,_,rfl,_,_,rfl,rfl,⟨bb.mono,bb.mono⟩,by show 3<=sizeLine;decide,λq hq=>?_⟩;refine⟨q,[u*u-e,-2*b*u,b*b],rfl,aq,tr,by show 3<=1000000;decide,λp' H' sm hp' e'=>k p' H' ((Same.upd_new hq).trans sm) ((Same.upd_new hq).free hp') e'⟩
theorem gw{l:List Int}(h:Fac 11 l):Tr (ao l)/\ao l≠[]/\AllB 10 (ao l)/\2<=(ao l).length/\(ao l).length<=3:=by
 obtain⟨u,e,b,rfl,h1,h2,h3,h4,h5,h6,h7⟩:=h;have hb:=rW h1 h2 h3 h4 h5 h6;obtain⟨tr,hne⟩:=pT (u:=u) (e:=e) (b:=b) (by omega);have hl:(aC u e b).length=2\/(aC u e b).length=3:=by unfold aC;split;exact .inl rfl;exact .inr rfl
 show Tr (aw (aC u e b))/\aw (aC u e b)≠[]/\AllB 10 (aw (aC u e b))/\2<=(aw (aC u e b)).length/\(aw (aC u e b)).length<=3;have pl:=RM.plain_len (aC u e b);refine⟨gq tr,λz=>by rw[z]at pl;simp at pl;omega,AllB.of_cf λn=>?_,by omega,by omega⟩;obtain⟨g,hg,eg⟩:=fV tr;have h7:=hb.cf n;rw[eg n]at h7;refine h7.of_le ?_;rw[Fs];exact Nat.le_mul_of_pos_left _ (Gm.mpr hg)
noncomputable def dm:List (List Int)->Nat
 | []=>0
 |s::ss=>(s.length-1)+dm ss
theorem va(s:List Int):∀ss,dm (ss++[s])=dm ss+(s.length-1)
 | []=>by simp[dm]
 |x::ss=>by rw[FA,dm,dm,va s ss];omega
def qN(K:PySem.W.Frag):Sp:=λvs H Q _=>∃(a:Addr) (ns:List Int) (mo:Int) (room:Nat),vs=[.ref a,.int mo,.int room]/\0<=mo/\mo<=11/\SqL K H a (ns.map V.int)/\ns.length<=100/\∀(p:Addr) (H':Hp) (qs:List Addr) (fs:List (List Int)),Same H H'->H p=none->H' p=some (.lst (qs.map V.ref))->TuH H' qs fs->(∀l∈fs,Fac 11 l)->(fs.map ao).Nodup->dm (fs.map ao)<=room->Q (.ref p) H'
theorem Aj(F:Fun K "_law_factors_by" "_law_factors_by" jv f fd)(T:Txt K mg)(DR:Cal P w K mg base 1 "_law_factor_by" ["_law_cell","_law_most"] qP E7 Es)(pi:Cal P w K mg base 35 "_law_shape" ["_law_factor"] kP Cl B6):FnOk P w K mg base CX0 36 f fd ["_law_drawn","_law_most","_law_room"] (qN K):=by
 refine F.ok fR (λvs H Q E h=>?_) (λcdv A outer s H vs Q E hr h=>?_)
 ·obtain⟨a,ns,mo,room,rfl,_⟩:=h;rfl
 ·obtain⟨a,ns,mo,room,rfl,hmo0,hmo1,hA,hn,k⟩:=h;have big:=sizeLine_eq;have hu2:(A.deeper (PyProof.Rows.envOfC (Str.ofString "_law_factors_by") (aB jv) s.heap.objs.size f cdv)).units+66<cLine:=by have:=hr.un;omega
  refine⟨_,(ah (aj 3 fR (bK ag))
   (ah (aj 4 fR (bK ag))
   (ah (bM PassesOwn.never rfl (bY (K:=K) rfl (pv 0)) (bE 5 fR)
     (ah (aj 6 fR (au DR hr (aa (pv 5) (aa (pv 1) ag))))
       (ah (aj 7 fR (au pi hr (aa (pv 6) ag)))
       (al (aR (PW.pt (gM (aG (zk (K:=K) rfl hu2) (pv 7) (pv 4) (by rfl)) (gL (aG tf (ai aU (ba K T.len_ (aa (pv 7) ag)) af) (pv 2)))))
         (ah (dQ (dS (pv 3) (aa (pv 6) ag)))
           (ah (dQ (dS (pv 4) (aa (pv 7) ag)))
           (al (aj 2 fR (ai bC (ai aU (pv 2) (ba K T.len_ (aa (pv 7) ag))) af)))))
         aQ)))))
   (al (aA (pv 3)))))),?_⟩
  refine ar ⟨Fj _,λpm hpm=>?_⟩;have s1:Same H (upd H pm (.lst [])):=Same.upd_new hpm;have q1:upd H pm (.lst []) pm=some (.lst []):=aq;generalize upd H pm (.lst [])=H1 at s1 q1 ⊢
  refine ar ⟨Fj _,λpz hpz=>?_⟩;have npz:pm≠pz:=aN q1 hpz;have s2:Same H (upd H1 pz (.lst [])):=s1.then_new hpz;have q2:upd H1 pz (.lst []) pz=some (.lst []):=aq;have q3:upd H1 pz (.lst []) pm=some (.lst []):=by rw[upd_ne npz];exact q1
  have hz0:H pz=none:=s1.free hpz;generalize upd H1 pz (.lst [])=H2 at s2 q2 q3 ⊢
  refine⟨_,rfl,a,rfl,⟨_,s2.seq hA⟩,dY (K:=K) (a:=a) (xs:=ns.map V.int) (λi σ' H'=>∃(z5 z6 z7:Option V) (qs rs:List Addr) (fs:List (List Int)) (left:Nat),σ'=[some (.ref a),some (.int mo),some (.int left),some (.ref pm),some (.ref pz),z5,z6,z7]/\Same H H'/\H' pm=some (.lst (qs.map V.ref))/\H' pz=some (.lst (rs.map V.ref))/\TuH H' qs fs/\RwH H' rs (fs.map ao)/\(∀p∈rs,p≠pm/\p≠pz)/\(∀l∈fs,Fac 11 l)/\(fs.map ao).Nodup/\dm (fs.map ao)+left=room/\fs.length<=i) ⟨none,none,none,[],[],[],room,rfl,s2,q3,q2,TuH.nil,RwH.nil,(λ_ h=>nomatch h),(λ_ h=>nomatch h),List.nodup_nil,GP _,Fg _⟩ ?_ ?_ ?_⟩
  ·rintro i σ' H' _ ⟨z5,z6,z7,qs,rs,fs,left,rfl,sm,_⟩;exact sm.seq hA
  ·rintro i x σ' H' hi ⟨z5,z6,z7,qs,rs,fs,left,rfl,sm,eqm,eqz,hT,hR,hno,hF,hnd,hdg,hle⟩
   have hin:i<100:=by have:=(List.getElem?_eq_some_iff.mp hi).1;rw[Fc]at this;omega
   obtain⟨c,_,rfl,_,_⟩:=cK hi;refine ar ⟨_,rfl,_,rfl,c,mo,rfl,hmo0,λp l hp hl0=>?_⟩
   have hl:Fac 11 l:=by obtain⟨u,e,b,rfl,h1,h2,h3,h4,h5,h6,h7⟩:=hl0;exact⟨u,e,b,rfl,by omega,by omega,h3,h4,h5,h6,h7⟩
   have s3:Same H' (upd H' p (.tup (l.map V.int))):=Same.upd_new hp;have e3:upd H' p (.tup (l.map V.int)) p=some (.tup (l.map V.int)):=aq;generalize upd H' p (.tup (l.map V.int))=H3 at s3 e3 ⊢
   refine ar ⟨_,rfl,p,l,rfl,e3,hl,λq H4 s4 hq e4=>?_⟩;have t4:=s3.trans s4;have eqm4:=t4 _ _ eqm;have eqz4:=t4 _ _ eqz;have hT4:=hT.same t4;have hR4:=hR.same t4;have nqm:q≠pm:=λz=>by rw[z,s3 _ _ eqm]at hq;cases hq
   have nqz:q≠pz:=λz=>by rw[z,s3 _ _ eqz]at hq;cases hq
   obtain⟨g1,g2,g3,g4,g5⟩:=gw hl;dsimp only
   refine iA (iC ⟨_,rfl,_,rfl,pz,q,rs,fs.map ao,ao l,rfl,rfl,e4,SqL.of eqz4,hR4.1,hR4.2,_,rfl,dN (λhni=>?_) (λ_=>?_)⟩)
   ·refine⟨_,rfl,q,_,rfl,.inl (SqL.of e4),_,_,rfl,rfl,_,rfl,_,_,rfl,rfl,_,rfl,aM (λhlen=>?_) (λ_=>?_)⟩
    ·rw[Fc]at hlen;have hlq:qs.length=fs.length:=hT.1;have hlr:rs.length=fs.length:=by have:=hR.1;rwa [Fc]at this
     refine gH ⟨_,rfl,.inl ⟨rfl,_,SqL.of eqm4⟩,_,rfl,pm,_,_,rfl,rfl,eqm4,by rw[Fc];omega,?_⟩;have eqz5:upd H4 pm (.lst (qs.map V.ref++[V.ref p])) pz=some (.lst (rs.map V.ref)):=by rw[upd_ne (Ne.symm npz)];exact eqz4
     refine gH ⟨_,rfl,.inl ⟨rfl,_,SqL.of eqz5⟩,_,rfl,pz,_,_,rfl,rfl,eqz5,by rw[Fc];omega,?_⟩;rw[fY,fY];rw[fY]at eqz5;refine ci ⟨_,rfl,_,rfl,q,_,rfl,.inl (SqL.of (by rw[upd_ne nqz,upd_ne nqm];exact e4)),_,_,rfl,rfl,_,_,rfl,rfl,?_⟩;dsimp only
     rw[Fc];have hfl:(left:Int)-(ao l).length+1=((left-((ao l).length-1):Nat):Int):=by omega
     rw[hfl];refine⟨_,_,_,qs++[p],rs++[q],fs++[l],left-((ao l).length-1),rfl,cT (cT (sm.trans t4) hpm) hz0,?_,aq,?_,?_,?_,?_,?_,?_,?_⟩
     ·rw[upd_ne npz,aq]
     ·exact((hT4.snoc (s4 _ _ e3)).upd_lst eqm4).upd_lst eqz5
     ·rw[show(fs++[l]).map ao=fs.map ao++[ao l]from by rw[Fk];rfl];have hR5:=hR4.snoc e4
      have hno5:∀x∈rs++[q],x≠pm/\x≠pz:=λx hx=>by
       rcases Fq.mp hx with h |h
       ·exact hno x h
       ·rw[Fv.mp h];exact⟨nqm,nqz⟩
      exact(hR5.upd_no λx hx=>(hno5 x hx).1).upd_no λx hx=>(hno5 x hx).2
     ·intro x hx;rcases Fq.mp hx with h |h
      ·exact hno x h
      ·rw[Fv.mp h];exact⟨nqm,nqz⟩
     ·intro x hx;rcases Fq.mp hx with h |h
      ·exact hF x h
      ·rw[Fv.mp h];exact hl
     ·rw[Fk,Fo,Gz];refine List.nodup_append.mpr ⟨hnd,by simp,λx hx y hy=>?_⟩;rw[Fv.mp hy]
      exactλz=>hni (z ▸ hx)
     ·rw[Fk,Fo,Gz,va];omega
     ·rw[Fd];show fs.length+1<=i+1;omega
    ·exact⟨_,_,_,qs,rs,fs,left,rfl,sm.trans t4,eqm4,eqz4,hT4,hR4,hno,hF,hnd,hdg,by omega⟩
   ·exact cS ⟨_,_,_,qs,rs,fs,left,rfl,sm.trans t4,eqm4,eqz4,hT4,hR4,hno,hF,hnd,hdg,by omega⟩
  ·rintro σ' H' ⟨z5,z6,z7,qs,rs,fs,left,rfl,sm,eqm,eqz,hT,hR,hno,hF,hnd,hdg,hle⟩;exact⟨_,rfl,k pm H' qs fs sm hpm eqm hT hF hnd (by omega)⟩
def qG:Sp:=λvs H Q _=>∃(a:Addr) (qs:List Addr) (fs:List (List Int)),vs=[.ref a]/\H a=some (.lst (qs.map V.ref))/\TuH H qs fs/\(∀l∈fs,Fac 11 l)/\fs.length<=8/\mkL H Q (av [1] (fs.map ao))
theorem m8{fs:List (List Int)}(hF:∀l∈fs,Fac 11 l):∀n,n<=fs.length->n<=8->AllB (2+30*n) (av [1] ((fs.take n).map ao))/\(av [1] ((fs.take n).map ao)).length<=1+2*n
 |0,_,_=>⟨λx hx=>by
  rw[List.take_zero]at hx;have:x=1:=by simpa[av]using hx
  rw[this];show(1:Int).natAbs<2^2;decide,by rw[List.take_zero];decide⟩
 |n+1,h,h'=>by
  obtain⟨i1,i2⟩:=m8 hF n (by omega) (by omega);have e:fs.take (n+1)=fs.take n++[fs[n]]:=by rw[Gj,List.getElem?_eq_getElem (by omega)];rfl
  obtain⟨g1,g2,g3,g4,g5⟩:=gw (hF fs[n] (Gs _));rw[e,Fk,Fo,Gz,sO];refine⟨tW i1 g3 (by omega),?_⟩;unfold ac;split
  ·exact Fj _
  ·rw[Fc,Gk];omega
theorem Aa(F:Fun K "_law_product" "_law_product" mw f fd)(T:Txt K mg)(pp:Cal P w K mg base 1 "_law_mul" ["_law_kp","_law_kq"] kS Cn B8)(pi:Cal P w K mg base 35 "_law_shape" ["_law_factor"] kP Cl B6):FnOk P w K mg base CX0 36 f fd ["_law_factors"] qG:=by
 refine F.ok jq (λvs H Q E h=>?_) (λcdv A outer s H vs Q E hr h=>?_)
 ·obtain⟨a,qs,fs,rfl,_⟩:=h;rfl
 ·obtain⟨a,qs,fs,rfl,hA,hT,hF,hn,k⟩:=h
  refine⟨_,(ah (aj 1 jq (bK (aa af ag)))
   (ah (bM PassesOwn.never rfl (bY (K:=K) rfl (pv 0)) (bE 2 jq)
     (al (aj 1 jq (au pp hr (aa (pv 1) (aa (au pi hr (aa (pv 2) ag)) ag))))))
   (al (aA (pv 1))))),?_⟩
  refine ar ⟨by show 1<=sizeLine;decide,λp0 hp0=>?_⟩;have s1:Same H (upd H p0 (.lst [V.int 1])):=Same.upd_new hp0;have q1:upd H p0 (.lst [V.int 1]) p0=some (.lst (([1]:List Int).map V.int)):=aq;generalize upd H p0 (.lst [V.int 1])=H1 at s1 q1 ⊢
  have hpl:(qs.map V.ref).length=fs.length:=by rw[Fc,hT.1]
  refine⟨_,rfl,a,rfl,⟨_,SqL.of (s1 _ _ hA)⟩,dY (K:=K) (a:=a) (xs:=qs.map V.ref) (λi σ' H'=>∃(z2:Option V) (p:Addr),σ'=[some (.ref a),some (.ref p),z2]/\Same H H'/\H p=none/\H' p=some (.lst ((av [1] ((fs.take i).map ao)).map V.int))) ⟨none,p0,rfl,s1,hp0,q1⟩ ?_ ?_ ?_⟩
  ·rintro i σ' H' _ ⟨z2,p,rfl,sm,_⟩;exact SqL.of (sm _ _ hA)
  ·rintro i x σ' H' hi ⟨z2,p,rfl,sm,hp,ep⟩;obtain⟨q,l,rfl,eq,el,hq,hlt⟩:=(hT.same sm).of_get hi;have hl:=hF l (List.mem_of_getElem? el);obtain⟨g1,g2,g3,g4,g5⟩:=gw hl;obtain⟨i1,i2⟩:=m8 hF i (by omega) (by omega);refine⟨_,rfl,_,rfl,q,l,rfl,hq,hl,λr H3 s3 hr3 e3=>?_⟩;refine⟨p,r,av [1] ((fs.take i).map ao),ao l,rfl,s3 _ _ ep,e3,by omega,by omega,i1.mono (by omega),g3.mono,λr2 H4 s4 hr4 e4=>?_⟩;have t4:=sm.trans (s3.trans s4);refine⟨_,r2,rfl,t4,(sm.trans s3).free hr4,?_⟩;rw[e4,Gj,el];show _=some (HO.lst ((av [1] ((fs.take i++[l]).map ao)).map V.int));rw[Fk,Fo,Gz,sO]
  ·rintro σ' H' ⟨z2,p,rfl,sm,hp,ep⟩;rw[hpl,FQ]at ep;exact⟨_,rfl,k p H' sm hp ep⟩
def SpB(l:List Int):Prop:=∃u e b s:Int,l=[u,e,b,s] /\ -11<=u/\u<=11/\0<=e/\e<36/\1<=b/\b<=3
def qu:Sp:=λvs H Q _=>∃sq due:Int,vs=[.int sq,.int due]/\Bits 400000 due/\Q (.int (bz sq due)) H
theorem zR(F:Fun K "_law_sure" "_law_sure" mi f fd)(T:Txt K mg):FnOk P w K mg base CX0 1 f fd ["_law_square","_law_due"] qu:=by
 refine F.ok xY (λvs H Q E h=>?_) (λcdv A outer s H vs Q E hr h=>?_)
 ·obtain⟨sq,due,rfl,_⟩:=h;rfl
 ·obtain⟨sq,due,rfl,hb,k⟩:=h
  refine⟨_,(ah (aR (PW.pt (eX (aG cH (pv 1) af) (gK (aG b8 (pv 0) (ai aE (pv 1) (pv 1))))))
   (al (aA af))
   aQ)
   (al (aA (ai aU af (fj kh (by rfl) T.int_ PyProof.Rows.boot_int (aa (eE cH (pv 0) (ai aE (pv 1) (pv 1))) ag)))))),?_⟩
  refine dO (λσ' H'=>σ'=[some (.int sq),some (.int due)]/\H=H'/\¬(due<0\/due*due<sq)) ?_ ?_
  case refine_2 =>
   intro rest;refine eT ⟨_,rfl,_,_,rfl,rfl,_,rfl,aM (λh1=>?_) (λh1=>?_)⟩
   ·refine ez ?_;unfold bz at k
    rw[if_pos (.inl h1)]at k;exact k
   ·refine⟨_,rfl,_,rfl,_,rfl,_,_,rfl,rfl,⟨hb.mono,hb.mono⟩,_,_,rfl,rfl,_,rfl,aM (λh2=>?_) (λh2=>?_)⟩
    ·unfold bz at k
     rw[if_pos (.inr h2)]at k;exact k
    ·exact rest _ _ ⟨rfl,rfl,λz=>z.elim h1 h2⟩
  rintro σ' H' ⟨rfl,rfl,hn⟩;refine cz ⟨_,rfl,_,rfl,_,rfl,_,_,rfl,rfl,⟨hb.mono,hb.mono⟩,_,_,rfl,rfl,.inr ⟨_,rfl,_,_,rfl,rfl,?_⟩⟩;unfold bz at k
  rw[if_neg hn]at k;by_cases h3:sq<due*due
  ·rw[if_pos h3]at k;rw[decide_eq_true h3];exact k
  ·rw[if_neg h3]at k;rw[decide_eq_false h3];exact k
def qv:Sp:=λvs H Q _=>∃(p:Addr) (l:List Int) (t n:Int),vs=[.ref p,.int t,.int n]/\H p=some (.tup (l.map V.int))/\SpB l/\Bits 100000 t/\Bits 100000 n/\Q (.int (aV l t n)) H
theorem zT(F:Fun K "_law_side" "_law_side" ml f fd)(T:Txt K mg)(wd:Cal P w K mg base 1 "_law_sure" ["_law_square","_law_due"] qu ES Ef):FnOk P w K mg base CX0 2 f fd ["_law_spot","_law_top","_law_bottom"] qv:=by
 refine F.ok lx (λvs H Q E h=>?_) (λcdv A outer s H vs Q E hr h=>?_)
 ·obtain⟨p,l,t,n,rfl,_⟩:=h;rfl
 ·obtain⟨p,l,t,n,rfl,hP,⟨u,e,b,s,rfl,h1,h2,h3,h4,h5,h6⟩,bt,bn,k⟩:=h;have bu:Bits 28 u:=by show u.natAbs<268435456;omega
  have bb:Bits 6 b:=by show b.natAbs<64;omega
  have be:Bits 6 e:=by show e.natAbs<64;omega
  have bd:Bits 100030 (b*t-u*n):=Bits.sub (k:=100029) ((bb.mul bt).mono) ((bu.mul bn).mono)
  refine⟨_,(ah (aj 3 lx (ai aU (ai aE (aK K (pv 0) af) (pv 1)) (ai aE (aK K (pv 0) af) (pv 2))))
   (ah (aj 4 lx (ai aE (ai aE (aK K (pv 0) af) (pv 2)) (pv 2)))
   (ah (aR (aG b8 (aK K (pv 0) af) af)
     (al (aA (au wd hr (aa (pv 4) (aa (pv 3) ag)))))
     aQ)
   (al (aA (ai aU af (au wd hr (aa (pv 4) (aa (ai aU af (pv 3)) ag))))))))),?_⟩
  refine ar ⟨_,rfl,p,_,_,_,rfl,rfl,SqT.of hP,rfl,_,rfl,_,_,rfl,rfl,⟨bb.mono,bt.mono⟩,_,rfl,p,_,_,_,rfl,rfl,SqT.of hP,rfl,_,rfl,_,_,rfl,rfl,⟨bu.mono,bn.mono⟩,_,_,rfl,rfl,?_⟩;refine ar ⟨_,rfl,p,_,_,_,rfl,rfl,SqT.of hP,rfl,_,rfl,_,_,rfl,rfl,⟨be.mono,bn.mono⟩,_,rfl,_,_,rfl,rfl,⟨(be.mul bn).mono,bn.mono⟩,?_⟩;refine bQ ⟨_,rfl,p,_,_,_,rfl,rfl,SqT.of hP,rfl,_,_,rfl,rfl,_,rfl,aM (λhs=>?_) (λhs=>?_)⟩
  ·refine⟨_,rfl,_,rfl,_,_,rfl,bd.mono,?_⟩;have hs':0<cf [u,e,b,s] 3:=hs;unfold aV at k
   rw[if_pos hs']at k;exact k
  ·have hs':¬0<cf [u,e,b,s] 3:=hs;refine cz ⟨_,rfl,_,rfl,_,_,rfl,rfl,_,_,rfl,?_,_,_,rfl,rfl,?_⟩
   ·have:=bd.neg;rw[<- Int.zero_sub]at this;exact this.mono
   unfold aV at k
   rw[if_neg hs']at k;exact k
theorem Ce{f l:List Int}(h:Fac 11 f)(hl:l∈spF f):SpB l:=by obtain⟨u,e,b,rfl,h1,h2,h3,h4,h5,h6,h7⟩:=h;obtain⟨_,s,rfl,he,_⟩:=jc rfl h5 hl;exact⟨u,e,b,s,rfl,h1,h2,he,h4,h5,h6⟩
theorem xj{fs:List (List Int)}(hF:∀f∈fs,Fac 11 f):∀l∈aO fs,SpB l:=λl hl=>by obtain⟨f,hf,hm⟩:=List.mem_flatMap.mp hl;exact Ce (hF f hf) hm
theorem xk(f:List Int):(spF f).length<=2:=by unfold spF;split<;>split<;>simp
theorem qq:∀fs:List (List Int),(aO fs).length<=2*fs.length
 | []=>Fg _
 |f::fs=>by
  have e1:aO (f::fs)=spF f++aO fs:=by unfold aO;rw[List.flatMap_cons]
  have h1:=xk f;have h2:=qq fs;rw[e1,Fd,Ff];omega
theorem xf{fs:List (List Int)}{i:Nat}{f:List Int}(h:fs[i]?=some f):aO (fs.take (i+1))=aO (fs.take i)++spF f:=by unfold aO;rw[Gj,h,List.flatMap_append];show _++List.flatMap spF [f]=_;rw[List.flatMap_singleton]
def qC:Sp:=λvs H Q _=>∃(a:Addr) (qs:List Addr) (fs:List (List Int)),vs=[.ref a]/\H a=some (.lst (qs.map V.ref))/\TuH H qs fs/\(∀l∈fs,Fac 11 l)/\fs.length<=100/\∀(p:Addr) (H':Hp) (ws:List Addr),Same H H'->H p=none->H' p=some (.lst (ws.map V.ref))->TuH H' ws (aO fs)->Q (.ref p) H'
theorem zX(F:Fun K "_law_roots_of" "_law_roots_of" mr f fd)(T:Txt K mg):FnOk P w K mg base CX0 1 f fd ["_law_factors"] qC:=by
 refine F.ok lA (λvs H Q E h=>?_) (λcdv A outer s H vs Q E hr h=>?_)
 ·obtain⟨a,qs,fs,rfl,_⟩:=h;rfl
 ·obtain⟨a,qs,fs,rfl,hA,hT,hF,hn,k⟩:=h;have big:=sizeLine_eq
  refine⟨_,(ah (aj 1 lA (bK ag))
   (ah (bM PassesOwn.never rfl (bY (K:=K) rfl (pv 0)) (bE 2 lA)
     (ah (aR (aG tj (aK K (pv 2) af) af)
       (al (dQ (dS (pv 1) (aa (ck (aa (aK K (pv 2) af) (aa (aK K (pv 2) af) (aa (aK K (pv 2) af) (aa af ag))))) ag))))
       aQ)
       (al (aR (aG b8 (aK K (pv 2) af) af)
         (al (dQ (dS (pv 1) (aa (ck (aa (aK K (pv 2) af) (aa (aK K (pv 2) af) (aa (aK K (pv 2) af) (aa (bJ bI af) ag))))) ag))))
         aQ))))
   (al (aA (pv 1))))),?_⟩
  refine ar ⟨Fj _,λpm hpm=>?_⟩;have s1:Same H (upd H pm (.lst [])):=Same.upd_new hpm;have q1:upd H pm (.lst []) pm=some (.lst []):=aq;generalize upd H pm (.lst [])=H1 at s1 q1 ⊢
  have hpl:(qs.map V.ref).length=fs.length:=by rw[Fc,hT.1]
  refine⟨_,rfl,a,rfl,⟨_,SqL.of (s1 _ _ hA)⟩,dY (K:=K) (a:=a) (xs:=qs.map V.ref) (λi σ' H'=>∃(z2:Option V) (ws:List Addr),σ'=[some (.ref a),some (.ref pm),z2]/\Same H H'/\H' pm=some (.lst (ws.map V.ref))/\TuH H' ws (aO (fs.take i))) ⟨none,[],rfl,s1,q1,TuH.nil⟩ ?_ ?_ ?_⟩
  ·rintro i σ' H' _ ⟨z2,ws,rfl,sm,_⟩;exact SqL.of (sm _ _ hA)
  ·rintro i x σ' H' hi ⟨z2,ws,rfl,sm,em,hW⟩;obtain⟨q,l,rfl,eq,el,hq,hlt⟩:=(hT.same sm).of_get hi;have hmem:=List.mem_of_getElem? el;obtain⟨u,e,b,rfl,h1,h2,h3,h4,h5,h6,h7⟩:=hF l hmem;have hd:spF [u,e,b]=(if 0<=e then[[u,e,b,1]]else[])++(if 0<e then[[u,e,b,-1]]else[]):=rfl
   have hwl:ws.length<=200:=by rw[hW.1];have:=qq (fs.take i);rw[FW]at this;omega
   rw[xf el,hd];dsimp only
   refine dO (λσ' H'=>∃(ws:List Addr),σ'=[some (.ref a),some (.ref pm),some (.ref q)]/\Same H H'/\H' pm=some (.lst (ws.map V.ref))/\TuH H' ws (aO (fs.take i)++(if 0<=e then[[u,e,b,1]]else[]))/\ws.length<=201) ?_ ?_
   case refine_2 =>
    intro rest;refine⟨_,rfl,q,_,_,_,rfl,rfl,SqT.of hq,rfl,_,_,rfl,rfl,_,rfl,aM (λh0=>?_) (λh0=>?_)⟩
    ·have h0':0<=e:=h0;refine jw ⟨_,rfl,.inl ⟨rfl,_,SqL.of em⟩,_,rfl,q,_,_,_,rfl,rfl,SqT.of hq,rfl,_,rfl,q,_,_,_,rfl,rfl,SqT.of hq,rfl,_,rfl,q,_,_,_,rfl,rfl,SqT.of hq,rfl,by show 4<=sizeLine;decide,λp hp=>?_⟩;have s3:Same H' (upd H' p (.tup ([u,e,b,1].map V.int))):=Same.upd_new hp;have e3:upd H' p (.tup ([u,e,b,1].map V.int)) p=some (.tup ([u,e,b,1].map V.int)):=aq;have em3:=s3 _ _ em;refine⟨pm,_,_,rfl,rfl,em3,by rw[Fc];omega,?_⟩;refine rest _ _ ⟨ws++[p],rfl,cT (sm.trans s3) hpm,by rw[aq,fY],?_,by rw[Fd];show ws.length+1<=_;omega⟩;rw[if_pos h0'];exact((hW.same s3).snoc e3).upd_lst em3
    ·have h0':¬0<=e:=h0;refine rest _ _ ⟨ws,rfl,sm,em,?_,by omega⟩;rw[if_neg h0',Gy];exact hW
   clear em hW hwl ws sm hq;rintro σ' H3 ⟨ws,rfl,sm,em,hW,hwl⟩;obtain⟨q',l',ee,eq',el',hq,_⟩:=(hT.same sm).of_get hi;rw[eq]at eq';rw[el]at el';obtain rfl:=Option.some.inj eq';obtain rfl:=Option.some.inj el';refine iA ⟨_,rfl,q,_,_,_,rfl,rfl,SqT.of hq,rfl,_,_,rfl,rfl,_,rfl,aM (λh0=>?_) (λh0=>?_)⟩
   ·have h0':0<e:=h0;refine jw ⟨_,rfl,.inl ⟨rfl,_,SqL.of em⟩,_,rfl,q,_,_,_,rfl,rfl,SqT.of hq,rfl,_,rfl,q,_,_,_,rfl,rfl,SqT.of hq,rfl,_,rfl,q,_,_,_,rfl,rfl,SqT.of hq,rfl,_,rfl,by show 4<=sizeLine;decide,λp hp=>?_⟩;have s3:Same H3 (upd H3 p (.tup ([u,e,b,-1].map V.int))):=Same.upd_new hp;have e3:upd H3 p (.tup ([u,e,b,-1].map V.int)) p=some (.tup ([u,e,b,-1].map V.int)):=aq;have em3:=s3 _ _ em;refine⟨pm,_,_,rfl,rfl,em3,by rw[Fc];omega,?_⟩;refine⟨_,ws++[p],rfl,cT (sm.trans s3) hpm,by rw[aq,fY],?_⟩;rw[if_pos h0',<- Fy];exact((hW.same s3).snoc e3).upd_lst em3
   ·have h0':¬0<e:=h0;refine⟨_,ws,rfl,sm,em,?_⟩;rw[if_neg h0',Gy];exact hW
  ·rintro σ' H' ⟨z2,ws,rfl,sm,em,hW⟩;rw[hpl,FQ]at hW;exact⟨_,rfl,k pm H' ws sm hpm em hW⟩
def qE(C:Addr):Sp:=λvs H Q _=>∃(r:Addr) (t b:Int),vs=[.ref r]/\RA C H r t b/\0<b/\Nat.gcd t.natAbs b.natAbs=1/\Q (.bl true) H
theorem Af(F:Fun K "_law_is_ratio" "_law_is_ratio" mC f fd)(T:Txt K mg)(R:RCI K mg C)(wc:Cal P w K mg base 1 "_law_whole" ["_law_found"] qr ER Ee)(pA:Cal P w K mg base 1 "_law_gcd" ["_law_a","_law_b"] sp2 Cp Ca):FnOk P w K mg base CX0 2 f fd ["_law_found"] (qE C):=by
 refine F.ok x0 (λvs H Q E h=>?_) (λcdv A outer s H vs Q E hr h=>?_)
 ·obtain⟨r,t,b,rfl,_⟩:=h;rfl
 ·obtain⟨p,t,b,rfl,⟨dx,hp⟩,hb,hg,k⟩:=h
  refine⟨_,(ah (aR (PW.pt (eX (eZ (eD (bZ (ic (K:=K) rfl) (by rfl) T.isinstance_ PyProof.Rows.boot_isinstance (aa (pv 0) (aa (za (v:=.ref C) rfl R.mg rfl) ag))))) (eX (eZ (eD (au wc hr (aa (bU (K:=K) rfl (pv 0) rfl) ag)))) (gK (eZ (eD (au wc hr (aa (bU (K:=K) rfl (pv 0) rfl) ag))))))))
   (al (aA dR))
   aQ)
   (al (aA (nq (eE b8 (bU (K:=K) rfl (pv 0) rfl) af) (jF (eE cp (au pA hr (aa (bU (K:=K) rfl (pv 0) rfl) (aa (bU (K:=K) rfl (pv 0) rfl) ag))) af)))))),?_⟩
  refine bQ (eT (eW (iD (fS ⟨_,rfl,Bp (.ins hp R.cl R.ha R.hn R.ht R.hm) (k:=true) (by unfold PySem.W.kitOne;rw[if_pos (by simp)]) ⟨_,rfl,cS ?_⟩⟩))));refine eT (eW ⟨_,rfl,p,C,dx,_,_,rfl,hp,R.cl,R.nT,eI _ _,_,rfl,_,rfl,cS ?_⟩);refine eW ⟨_,rfl,p,C,dx,_,_,rfl,hp,R.cl,R.nB,dk _ _,_,rfl,_,rfl,cS ?_⟩;refine cz (mV ⟨_,rfl,p,C,dx,_,_,rfl,hp,R.cl,R.nB,dk _ _,_,_,rfl,rfl,_,rfl,?_⟩);rw[decide_eq_true (show b>0 from hb)];refine ez ⟨_,rfl,p,C,dx,_,_,rfl,hp,R.cl,R.nT,eI _ _,_,rfl,p,C,dx,_,_,rfl,hp,R.cl,R.nB,dk _ _,t,b,rfl,?_⟩;rw[hg];exact⟨_,_,rfl,rfl,k⟩
theorem CY(g:Nat)(t:Int)(k:Nat):cf (List.replicate g 0++[t]) k=if k=g then t else 0:=by
 by_cases h:k<g
 ·rw[kf (by simpa using h),fA,if_neg (by omega)]
 ·rw[ke (by simpa using h),GL];by_cases e:k=g
  ·rw[if_pos e,e,GZ];rfl
  ·rw[if_neg e];exact aT (by show 1<=k-g;omega)
theorem AI(g:Nat)(t:Int)(ys:List Int)(n:Nat):ak (List.replicate g 0++[t]) ys n=if g<=n then t*cf ys (n-g)else 0:=by have h:=nK (q:=List.replicate (g+1) 0) (q':=List.replicate g 0++[t]) (b:=ys) (c:=0) (l:=t) (p:=g) (n:=n) (by simp) (by simp) (λk=>by rw[CY,fA];omega);rw[h,FY,GN]
theorem wG{l:List Int}{m:Nat}(hl:l.length=m+1)(h:cf l m=0):(trim l).length<=m:=by
 have e:trim l=trim (l.take m):=by have h1:=kG (l:=l) (n:=m) (by omega) h;rw[<- h1,<- hl,FQ]
 rw[e];exact Fu (jS _) (by rw[FW];exact Gx _ _)
def oV(xs ys r:List Int):Prop:=Tr r/\r.length<ys.length/\∃(f:Int) (q:List Int),0<f/\∀n,f*cf xs n=ak q ys n+cf r n
def kR:Sp:=λvs H Q _=>∃(a b:Addr) (xs ys:List Int) (x y:Nat),vs=[.ref a,.ref b]/\H a=some (.lst (xs.map V.int))/\H b=some (.lst (ys.map V.int))/\ys≠[]/\Tr xs/\Tr ys/\AllB x xs/\AllB y ys/\x+xs.length*(y+1)<=1000000/\xs.length<=1000000/\y<=1000000/\ys.length<=1000000/\∀r,oV xs ys r->mkL H Q r
theorem zZ(F:Fun K "_law_rest" "_law_rest" mv f fd)(T:Txt K mg)(pb:Cal P w K mg base 1 "_law_trim" ["_law_row_here"] (gs K) Cj B4):FnOk P w K mg base CX0 2 f fd ["_law_kp","_law_kq"] kR:=by
 refine F.ok sc__law_rest (λvs H Q E h=>?_) (λcdv A outer s H vs Q E hr h=>?_)
 ·obtain⟨a,b,xs,ys,x,y,rfl,_⟩:=h;rfl
 ·obtain⟨a,b,xs,ys,x,y,rfl,hA,hB,hy,xtr,ytr,bx,by',hsz,hxl,hyb,hyn,k⟩:=h;have big:=sizeLine_eq;have hyl:=Fh.mpr hy
  refine⟨_,(ah (aj 2 sc__law_rest (fj (kg (K:=K) rfl) (by rfl) T.list_ PyProof.Rows.boot_list (aa (pv 0) ag)))
   (ah (dB PassesOwn.never (aG tj (ba K T.len_ (aa (pv 2) ag)) (ba K T.len_ (aa (pv 1) ag)))
     (ah (aj 3 sc__law_rest (ai aU (ba K T.len_ (aa (pv 2) ag)) (ba K T.len_ (aa (pv 1) ag))))
       (ah (aj 4 sc__law_rest (bD K (pv 2) (bJ bI af)))
       (ah (aR (aG cH (bD K (pv 1) (bJ bI af)) af)
         (al (aj 4 sc__law_rest (ai aU af (pv 4))))
         aQ)
       (ah (fT (i:=2) sc__law_rest.nd rfl (Or.inl rfl) (own:=["_law_one"]) (fr:=["_law_kq"]) (js:=[1]) (by walk_at "comp_ok") rfl (bY (K:=K) rfl (pv 2)) (λ_ _ _ _=>(cj (i:=0) (show List.Nodup (["_law_one","_law_kq"]:List Str)from by decide +kernel) rfl (Or.inl rfl))) (λ_ _ _ _=>(ai aE (pv 0) (bZ dq (by rfl) T.abs_ PyProof.Rows.boot_abs (aa (bD K (pv 1) (bJ bI af)) ag)))) (by rfl))
       (ah (bM PassesOwn.never rfl (gP rfl T.enumerate_ (aa (pv 1) ag)) (gR rfl (de (bE 5 sc__law_rest) (de (bE 6 sc__law_rest) gQ)))
         (al (gO (ai aU (bD K (pv 2) (ai bC (pv 3) (pv 5))) (ai aE (pv 4) (pv 6))) (gS (pv 2) (ai bC (pv 3) (pv 5)) gz))))
       (al (aj 2 sc__law_rest (au pb hr (aa (pv 2) ag))))))))))
   (al (aA (pv 2))))),?_⟩
  refine ar ⟨_,rfl,a,_,rfl,.inl (SqL.of hA),λl0 hl0=>?_⟩;have s0:=Same.upd_new (o:=.lst (xs.map V.int)) hl0;have h0:upd H l0 (.lst (xs.map V.int)) l0=some (.lst (xs.map V.int)):=aq;generalize upd H l0 (.lst (xs.map V.int))=H0 at s0 h0 ⊢
  refine⟨λm σ' H'=>∃(pl:Addr) (L:List Int) (i:Nat) (z3 z4 z5 z6:Option V),σ'=[some (.ref a),some (.ref b),some (.ref pl),z3,z4,z5,z6]/\Same H H'/\H' pl=some (.lst (L.map V.int))/\H pl=none/\Tr L/\L.length=m/\AllB (x+i*(y+1)) L/\L.length+i<=xs.length/\∃(f:Int) (q:List Int),0<f/\∀n,f*cf xs n=ak q ys n+cf L n,
   ⟨_,l0,xs,0,none,none,none,none,rfl,s0,h0,hl0,xtr,rfl,by rw[Nat.zero_mul];exact bx,Fg _,1,[],by decide,λn=>by rw[FF];show _=0+_;rw[GN]⟩,?_⟩
  rintro m σ' H1 ⟨pl,L,i,z3,z4,z5,z6,rfl,s1,h1,fpl,Ltr,rfl,bL,hLi,f,q,hf,heq⟩;have hB1:=s1 _ _ hB
  have bi:x+i*(y+1)<=1000000:=by have:=Ga (y+1) (show i<=xs.length by omega);omega
  refine⟨_,rfl,pl,_,rfl,.inl (SqL.of h1),_,rfl,b,_,rfl,.inl (SqL.of hB1),_,_,rfl,rfl,_,rfl,aM (λhge=>?_) (λhlt=>?_)⟩
  rotate_left
  ·have hlt':¬(((ys.map V.int).length:Nat):Int)<=(((L.map V.int).length:Nat):Int):=hlt;rw[Fc,Fc]at hlt';have h9:L.length<ys.length:=Int.ofNat_lt.mp (Int.not_le.mp hlt');exact⟨_,rfl,k L ⟨Ltr,h9,f,q,hf,heq⟩ pl H1 s1 fpl h1⟩
  rw[Fc,Fc]at hge;have hge':ys.length<=L.length:=by omega
  have hLne:L≠[]:=λz=>by have h9:=FN hyl hge';rw[z]at h9;exact absurd h9 (Ge _)
  refine⟨_,λ_ _ h=>h,?_⟩;refine ar ⟨_,rfl,pl,_,rfl,.inl (SqL.of h1),_,rfl,b,_,rfl,.inl (SqL.of hB1),_,_,rfl,rfl,?_⟩;have eg:((L.map V.int).length:Int)-((ys.map V.int).length:Int)=((L.length-ys.length:Nat):Int):=by rw[Fc,Fc];omega
  dsimp only
  rw[eg];refine ar ⟨_,rfl,_,rfl,pl,_,_,_,rfl,rfl,SqL.of h1,eJ hLne,?_⟩;have hlc:=ytr (ys.length-1) (by omega);refine dO (λσ' H'=>σ'=[some (.ref a),some (.ref b),some (.ref pl),some (.int ((L.length-ys.length:Nat):Int)),some (.int (sg (cf ys (ys.length-1))*cf L (L.length-1))),z5,z6]/\H1=H') ?_ ?_
  case refine_2 =>
   intro rest;refine⟨_,rfl,_,rfl,b,_,_,_,rfl,rfl,SqL.of hB1,eJ hy,_,_,rfl,rfl,_,rfl,aM (λhn=>?_) (λhn=>?_)⟩
   ·refine ci ⟨_,rfl,_,_,rfl,rfl,rest _ _ ⟨?_,rfl⟩⟩
    have e:sg (cf ys (ys.length-1))*cf L (L.length-1)=0-cf L (L.length-1):=by
     have:sg (cf ys (ys.length-1)) = -1:=by unfold sg;rw[if_pos hn]
     rw[this];omega
    rw[e];rfl
   ·refine rest _ _ ⟨?_,rfl⟩;have hn':¬cf ys (ys.length-1)<0:=hn
    have e:sg (cf ys (ys.length-1))*cf L (L.length-1)=cf L (L.length-1):=by
     have:sg (cf ys (ys.length-1))=1:=by unfold sg;rw[if_neg hn',if_pos (by omega)]
     rw[this];omega
    rw[e];rfl
  rintro σ' H' ⟨rfl,rfl⟩;have bt:Bits (x+i*(y+1)) (sg (cf ys (ys.length-1))*cf L (L.length-1)):=fN (bL.cf _);have hA':Bits y (((cf ys (ys.length-1)).natAbs:Nat):Int):=iT (by'.cf _)
  have hzero:(((cf ys (ys.length-1)).natAbs:Nat):Int)*cf L (L.length-1)=sg (cf ys (ys.length-1))*cf L (L.length-1)*cf ys (ys.length-1):=by have:=jj (cf ys (ys.length-1));grind
  have hApos:0<(((cf ys (ys.length-1)).natAbs:Nat):Int):=by omega
  generalize sg (cf ys (ys.length-1))*cf L (L.length-1)=tp at bt hzero ⊢
  generalize hgp:L.length-ys.length=gp;refine⟨_,rfl,pl,rfl,⟨_,SqL.of h1⟩,d8 (K:=K) (a:=pl) (xs:=L.map V.int) (λi ms σ' H'=>∃z0:Option V,σ'=[z0,some (.ref b)]/\ms=(scL (((cf ys (ys.length-1)).natAbs:Nat):Int) (L.take i)).map V.int/\H1=H') (by rw[Fc];omega) ⟨none,rfl,rfl,rfl⟩ ?_ ?_ ?_⟩
  ·rintro i ms σ' H' _ ⟨z0,rfl,rfl,rfl⟩;exact⟨SqL.of h1,by rw[Fc,aP,FW];exact Gx _ _⟩
  ·rintro j v ms σ' H' hi ⟨z0,rfl,rfl,rfl⟩;obtain⟨c,_,rfl,hm,et⟩:=cK hi;refine⟨_,rfl,_,rfl,_,rfl,b,_,_,_,rfl,rfl,SqL.of hB1,eJ hy,_,rfl,?_⟩;rw[du];refine⟨_,_,rfl,rfl,⟨(bL c hm).mono bi,hA'.mono hyb⟩,_,rfl,?_,rfl⟩;rw[et];unfold scL;rw[Fk,Fk];show _++[V.int (c*_)]=_++[V.int (_*c)];rw[FO]
  rintro ms σ' H' p2 ⟨z0,rfl,rfl,rfl⟩ hp2;rw[Fc,FQ];have t2:=Same.upd_new (o:=.lst ((scL (((cf ys (ys.length-1)).natAbs:Nat):Int) L).map V.int)) hp2;have h22:upd H1 p2 (.lst ((scL (((cf ys (ys.length-1)).natAbs:Nat):Int) L).map V.int)) p2=some (.lst ((scL (((cf ys (ys.length-1)).natAbs:Nat):Int) L).map V.int)):=aq;generalize upd H1 p2 (.lst ((scL (((cf ys (ys.length-1)).natAbs:Nat):Int) L).map V.int))=H2 at t2 h22 ⊢
  have hB2:=t2 _ _ hB1;have nb2:b≠p2:=aN hB1 hp2;refine gI ?_
  refine⟨_,rfl,b,rfl,⟨_,SqL.of hB2⟩,iQ (K:=K) (a:=b) (xs:=ys.map V.int) (λj σ' H'=>∃(acc:List Int) (z5 z6:Option V),σ'=[some (.ref a),some (.ref b),some (.ref p2),some (.int (gp:Int)),some (.int tp),z5,z6]/\SameB p2 H2 H'/\H' p2=some (.lst (acc.map V.int))/\acc.length=L.length/\∀n,n<acc.length->cf acc n=(((cf ys (ys.length-1)).natAbs:Nat):Int)*cf L n-(if gp<=n/\n-gp<j then tp*cf ys (n-gp)else 0))
   ⟨_,z5,z6,rfl,SameB.refl _ _,h22,aP _ _,λn _=>by rw[aD,if_neg (by omega)];omega⟩ ?_ ?_ ?_⟩
  ·rintro j σ' H' _ ⟨acc,z5,z6,rfl,sb,_⟩;exact SqL.of (sb _ _ nb2 hB2)
  ·rintro j v σ' H' q' hj ⟨acc,z5,z6,rfl,sb,hpa,hal,hac⟩ hq
   have hjl:j<ys.length:=by apply Classical.byContradiction;intro hn;rw[List.getElem?_eq_none_iff.mpr (by rw[Fc];omega)]at hj;cases hj
   rw[List.getElem?_map,dX hjl]at hj;obtain rfl:=Option.some.inj hj;refine⟨q',_,rfl,SqT.of aq,rfl,_,_,rfl,_,_,rfl,rfl,?_⟩;have nqp:p2≠q':=aN hpa hq;have hpa':upd H' q' (.tup [.int j,.int (cf ys j)]) p2=some (.lst (acc.map V.int)):=by rw[upd_ne nqp];exact hpa
   have hpi:gp+j<acc.length:=by omega
   have epi:((gp:Nat):Int)+((j:Nat):Int)=((gp+j:Nat):Int):=by omega
   refine⟨_,rfl,_,rfl,_,rfl,_,_,rfl,rfl,p2,_,_,_,rfl,rfl,SqL.of hpa',gd epi hpi,_,rfl,_,rfl,_,_,rfl,rfl,⟨bt.mono bi,(by'.cf j).mono hyb⟩,_,_,rfl,rfl,_,rfl,_,rfl,_,rfl,_,_,rfl,rfl,p2,_,_,gp+j,rfl,rfl,hpa',gZ epi (by rw[Fc];exact hpi),?_⟩;refine⟨acc.set (gp+j) (cf acc (gp+j)-tp*cf ys j),_,_,rfl,(sb.then_new hq).then_upd,by rw[aq,gX],by rw[Gr];exact hal,λn hn=>?_⟩;rw[Gr]at hn;rw[fz hpi];by_cases e:n=gp+j
   ·subst e;rw[if_pos rfl,hac _ hpi,if_neg (by omega),if_pos (by omega),HU];omega
   ·rw[if_neg e,hac n hn];by_cases h1:gp<=n/\n-gp<j
    ·rw[if_pos h1,if_pos (by omega)]
    ·rw[if_neg h1,if_neg (by omega)]
  rintro σ' H3 ⟨acc,z5,z6,rfl,sb,hpa,hal,hac⟩;rw[Fc]at hac;have s3:Same H H3:=λb' o e=>sb b' o (aN (s1 b' o e) hp2) (t2 b' o (s1 b' o e))
  dsimp only
  refine ci ⟨_,rfl,p2,acc,rfl,SqL.of hpa,λp4 H4 sm4 hp4 e4=>?_⟩
  have hcfa:∀n,cf acc n=(((cf ys (ys.length-1)).natAbs:Nat):Int)*cf L n-(if gp<=n then tp*cf ys (n-gp)else 0):=by
   intro n;by_cases hn:n<acc.length
   ·rw[hac n hn];by_cases h1:gp<=n
    ·have h2:gp<=n/\n-gp<ys.length:=⟨h1,by omega⟩;rw[if_pos h1,if_pos h2]
    ·have h2:¬(gp<=n/\n-gp<ys.length):=λz=>h1 z.1
     rw[if_neg h1,if_neg h2]
   ·rw[aT (by omega),aT (l:=L) (by omega)];by_cases h1:gp<=n
    ·have hn3:ys.length<=n-gp:=by omega
     rw[if_pos h1,aT (l:=ys) hn3];simp
    ·rw[if_neg h1];simp
  have hLl:=Fh.mpr hLne
  have hsh:(trim acc).length<=L.length-1:=wG (by omega) (by
   have c9:gp<=L.length-1:=by omega
   rw[hcfa,if_pos c9];have e:L.length-1-gp=ys.length-1:=by omega
   rw[e,hzero];omega)
  refine⟨(trim acc).length,by omega,p4,trim acc,i+1,_,_,_,_,rfl,s3.trans sm4,e4,s3.free hp4,dw _,rfl,?_,by omega,(((cf ys (ys.length-1)).natAbs:Nat):Int)*f,cE 1 (scL (((cf ys (ys.length-1)).natAbs:Nat):Int) q) (List.replicate gp 0++[tp]),FD hApos hf,λn=>?_⟩
  ·refine AllB.of_cf λn=>?_
   rw[d9,hcfa];have e:x+(i+1)*(y+1)=x+i*(y+1)+y+1:=by rw[G6];omega
   rw[e]
   have m1:Bits (x+i*(y+1)+y) ((((cf ys (ys.length-1)).natAbs:Nat):Int)*cf L n):=by have:=hA'.mul (bL.cf n);rwa [GA]at this
   refine m1.sub ?_;by_cases h1:gp<=n
   ·rw[if_pos h1];exact bt.mul (by'.cf _)
   ·rw[if_neg h1];exact Bits.zero
  ·rw[d9,hcfa,cD (a:=q) (b:=List.replicate gp 0++[tp]) (x:=(((cf ys (ys.length-1)).natAbs:Nat):Int)) (y:=1) (λk=>by rw[fC,aD]),AI,FM,heq n];grind
def kO:Sp:=λvs H Q _=>∃(a:Addr) (ns:List Int),vs=[.ref a]/\H a=some (.lst (ns.map V.int))/\ns.length<=1000/\AllB 90000 ns/\mkL H Q (slopeL ns)
theorem CW(l:List Int)(n k:Nat):cf (l.take n) k=if k<n then cf l k else 0:=by
 unfold cf;by_cases h:k<n
 ·rw[if_pos h];simp[List.getD,List.getElem?_take,h]
 ·rw[if_neg h];simp[List.getD,List.getElem?_take,h]
theorem zS(F:Fun K "_law_slope" "_law_slope" mj f fd)(T:Txt K mg):FnOk P w K mg base CX0 1 f fd ["_law_kp"] kO:=by
 refine F.ok xZ (λvs H Q E h=>?_) (λcdv A outer s H vs Q E hr h=>?_)
 ·obtain⟨a,ns,rfl,_⟩:=h;rfl
 ·obtain⟨pk,kps,rfl,hK,kl,kb,k⟩:=h;have big:=sizeLine_eq;refine⟨_,(al (aA (fh (eR (K:=K) rfl) (fi (own:=["_law_k","_law_one"]) (fr:=[]) (js:=[]) (by walk_at "comp_ok") rfl (gP rfl T.enumerate_ (aa (pv 0) ag)) (λ_ _ _ _=>(y0 (K:=K) (n:=2) rfl rfl (de (cj (i:=0) (show List.Nodup (["_law_k","_law_one"]:List Str)from by decide +kernel) rfl (Or.inl rfl) (Or.inr rfl)) (de (cj (i:=1) (show List.Nodup (["_law_k","_law_one"]:List Str)from by decide +kernel) rfl (Or.inl rfl) (Or.inr rfl)) gQ rfl) rfl) rfl rfl)) (λ_ _ _ _=>(ai aE (pv 0) (pv 1)))) (fb af) fe))),?_⟩;have hkl:(kps.map V.int).length=kps.length:=Fc _;refine cz ⟨_,rfl,pk,rfl,⟨_,SqL.of hK⟩,CI (K:=K) (a:=pk) (xs:=kps.map V.int) (λi ys σ' H'=>∃z y:Option V,σ'=[z,y]/\ys=((List.range i).map λ(j:Nat)=>(j:Int)*cf kps j).map V.int/\Same H H') (by rw[hkl];omega) ⟨none,none,rfl,rfl,λ_ _ e=>e⟩ ?_ ?_ ?_⟩
  ·rintro i ys σ' H' _ ⟨z,y,rfl,rfl,sm⟩;exact⟨SqL.of (sm _ _ hK),by simp⟩
  ·rintro i v ys σ' H' q hi ⟨z,y,rfl,rfl,sm⟩ hq;obtain⟨c,ec,rfl,hcm,_⟩:=cK hi;have hc:cf kps i=c:=oM ec;have hil:i<kps.length:=(List.getElem?_eq_some_iff.mp ec).1;refine⟨q,_,rfl,SqT.of aq,rfl,_,_,rfl,_,_,rfl,rfl,?_⟩;refine⟨_,rfl,_,rfl,_,_,rfl,rfl,⟨qW (by omega),(kb c hcm).mono⟩,_,_,rfl,?_,sm.then_new hq⟩;rw[HR,Fk,Fk,<- hc];rfl
  rintro ys σ' H1 p1 ⟨z,y,rfl,rfl,s1⟩ hp1;have t1:=s1.then_new (o:=.lst (((List.range (kps.map V.int).length).map λ(j:Nat)=>(j:Int)*cf kps j).map V.int)) hp1;refine⟨1,rfl,p1,_,rfl,SqL.of aq,λp2 hp2=>?_⟩;rw[ia]
  have est:b5 ((List.range (kps.map V.int).length).map λ(j:Nat)=>(j:Int)*cf kps j) (some 1) none=slopeL kps:=by
   rw[hkl];refine cL ?_ λn hn=>?_
   ·unfold b5 slopeL;rw[HT.sIx_none,show(some (1:Int))=some ((1:Nat):Int)from rfl,HT.sIx_nat];simp;omega
   ·unfold b5 slopeL;rw[HT.sIx_none,show(some (1:Int))=some ((1:Nat):Int)from rfl,HT.sIx_nat]
    have hn':n<kps.length-1:=by
     unfold b5 at hn
     rw[HT.sIx_none,show(some (1:Int))=some ((1:Nat):Int)from rfl,HT.sIx_nat]at hn;simp at hn
     omega
    rw[fB,if_pos hn',CW,Fc,Gk];have hm:min 1 kps.length=1:=by omega
    rw[hm,if_pos (by omega)]
    have e3:cf (List.drop 1 ((List.range kps.length).map λ(j:Nat)=>(j:Int)*cf kps j)) n=cf ((List.range kps.length).map λ(j:Nat)=>(j:Int)*cf kps j) (n+1):=by unfold cf;simp[List.getD,List.getElem?_drop,GA]
    rw[e3,fB,if_pos (by omega)];show((n+1:Nat):Int)*_=_;rw[Int.natCast_add];rfl
  rw[est];exact k p2 _ (t1.then_new hp2) (t1.free hp2) aq
def qF:Sp:=λvs H Q _=>∃(a b:Addr) (xs ys:List Int) (x y:Nat),vs=[.ref a,.ref b]/\H a=some (.lst (xs.map V.int))/\H b=some (.lst (ys.map V.int))/\ys≠[]/\Tr ys/\ys.length<=xs.length/\xs.length<=1000/\AllB x xs/\AllB y ys/\y<=9000/\x+(xs.length+1)*(y+1)<=900000 /\
 ∀g:List Int,g.length=xs.length-ys.length+1->(∃(f:Int) (r:List Int),0<f/\(∀n,ys.length<=n+1->cf r n=0)/\∀n,f*cf xs n=ak g ys n+cf r n)->mkL H Q g
theorem BY{v l:Int}(h:l≠0):Int.fdiv (v*(l.natAbs:Int)) l=sg l*v:=by
 have h1:=jj l;have h2:(l.natAbs:Int)=sg l*l:=h1.symm;have e:v*(l.natAbs:Int)=(sg l*v)*l:=by rw[h2];grind
 rw[e];exact Int.mul_fdiv_cancel _ h
theorem Ac(F:Fun K "_law_part" "_law_part" my f fd)(T:Txt K mg):FnOk P w K mg base CX0 1 f fd ["_law_kp","_law_kq"] qF:=by
 refine F.ok sc__law_part (λvs H Q E h=>?_) (λcdv A outer s H vs Q E hr h=>?_)
 ·obtain⟨a,b,xs,ys,x,y,rfl,_⟩:=h;rfl
 ·obtain⟨a,b,xs,ys,x,y,rfl,hA,hB,hy,ytr,hyx,hxl,bx,by',hy9,hsz,k⟩:=h;have big:=sizeLine_eq;have hyl:=Fh.mpr hy
  refine⟨_,(ah (aj 2 sc__law_part (fj (kg (K:=K) rfl) (by rfl) T.list_ PyProof.Rows.boot_list (aa (pv 0) ag)))
   (ah (fT (i:=3) sc__law_part.nd rfl (Or.inl rfl) (own:=["_law_k"]) (fr:=[]) (js:=[]) (by walk_at "comp_ok") rfl (iH rfl T.range_ (aa (ai bC (ai aU (ba K T.len_ (aa (pv 0) ag)) (ba K T.len_ (aa (pv 1) ag))) af) ag)) (λ_ _ _ _=>(cj (i:=0) (show List.Nodup (["_law_k"]:List Str)from by decide +kernel) rfl (Or.inl rfl))) (λ_ _ _ _=>af) (by rfl))
   (ah (bM PassesOwn.never rfl (yX rfl T.reversed_ rfl T.range_ (aa (ba K T.len_ (aa (pv 3) ag)) ag)) (bE 4 sc__law_part)
     (ah (fT (i:=2) sc__law_part.nd rfl (Or.inl rfl) (own:=["_law_one"]) (fr:=["_law_kq"]) (js:=[1]) (by walk_at "comp_ok") rfl (bY (K:=K) rfl (pv 2)) (λ_ _ _ _=>(cj (i:=0) (show List.Nodup (["_law_one","_law_kq"]:List Str)from by decide +kernel) rfl (Or.inl rfl))) (λ_ _ _ _=>(ai aE (pv 0) (bZ dq (by rfl) T.abs_ PyProof.Rows.boot_abs (aa (bD K (pv 1) (bJ bI af)) ag)))) (by rfl))
       (ah (fT (i:=3) sc__law_part.nd rfl (Or.inl rfl) (own:=["_law_one"]) (fr:=["_law_kq"]) (js:=[1]) (by walk_at "comp_ok") rfl (bY (K:=K) rfl (pv 3)) (λ_ _ _ _=>(cj (i:=0) (show List.Nodup (["_law_one","_law_kq"]:List Str)from by decide +kernel) rfl (Or.inl rfl))) (λ_ _ _ _=>(ai aE (pv 0) (bZ dq (by rfl) T.abs_ PyProof.Rows.boot_abs (aa (bD K (pv 1) (bJ bI af)) ag)))) (by rfl))
       (ah (gO (ai nr (bD K (pv 2) (ai aU (ai bC (pv 4) (ba K T.len_ (aa (pv 1) ag))) af)) (bD K (pv 1) (bJ bI af))) (gS (pv 3) (pv 4) gz))
       (al (bM PassesOwn.never rfl (gP rfl T.enumerate_ (aa (pv 1) ag)) (gR rfl (de (bE 5 sc__law_part) (de (bE 6 sc__law_part) gQ)))
         (al (gO (ai aU (bD K (pv 2) (ai bC (pv 4) (pv 5))) (ai aE (bD K (pv 3) (pv 4)) (pv 6))) (gS (pv 2) (ai bC (pv 4) (pv 5)) gz)))))))))
   (al (aA (pv 3)))))),?_⟩
  refine ar ⟨_,rfl,a,_,rfl,.inl (SqL.of hA),λl0 hl0=>?_⟩;have s0:=Same.upd_new (o:=.lst (xs.map V.int)) hl0;have h0:upd H l0 (.lst (xs.map V.int)) l0=some (.lst (xs.map V.int)):=aq;generalize upd H l0 (.lst (xs.map V.int))=H0 at s0 h0 ⊢
  have hm:((xs.map V.int).length:Int)-((ys.map V.int).length:Int)+1=((xs.length-ys.length+1:Nat):Int):=by rw[Fc,Fc];omega
  generalize hM:xs.length-ys.length+1=M at hm
  refine iz ⟨_,rfl,a,_,rfl,.inl (SqL.of (s0 _ _ hA)),_,rfl,b,_,rfl,.inl (SqL.of (s0 _ _ hB)),_,_,rfl,rfl,_,_,rfl,rfl,?_⟩;dsimp only
  rw[hm];refine⟨_,rfl,by omega,by omega,j7 (lo:=0) (n:=(M:Int).toNat) (λi ys' σ' H'=>∃z0:Option V,σ'=[z0]/\ys'=(List.replicate i (0:Int)).map V.int/\H0=H') (by omega) ⟨none,rfl,rfl,rfl⟩ ?_ ?_ ?_⟩
  ·rintro i ys' σ' H' hi ⟨z0,rfl,rfl,rfl⟩;simp
  ·rintro i ys' σ' H' hi ⟨z0,rfl,rfl,rfl⟩;refine⟨_,rfl,?_,rfl⟩;rw[List.replicate_succ',Fk];rfl
  rintro ys' σ' H' g0 ⟨z0,rfl,rfl,rfl⟩ hg0;rw[Int.toNat_natCast];have s1:=s0.then_new (o:=.lst ((List.replicate M (0:Int)).map V.int)) hg0;have n0:l0≠g0:=aN h0 hg0;have h1:upd H0 g0 (.lst ((List.replicate M (0:Int)).map V.int)) l0=some (.lst (xs.map V.int)):=by rw[upd_ne n0];exact h0
  have g1:upd H0 g0 (.lst ((List.replicate M (0:Int)).map V.int)) g0=some (.lst ((List.replicate M (0:Int)).map V.int)):=aq;have fg0:H g0=none:=s0.free hg0;generalize upd H0 g0 (.lst ((List.replicate M (0:Int)).map V.int))=H1 at s1 h1 g1 ⊢
  refine gI ?_;have hlc:=ytr (ys.length-1) (by omega);have bS:Bits y (((cf ys (ys.length-1)).natAbs:Nat):Int):=iT (by'.cf _);refine⟨_,rfl,g0,_,rfl,.inl (SqL.of g1),_,rfl,by rw[Fc,GL];omega,by rw[Fc,GL];omega,?_⟩;rw[Fc,GL,Int.toNat_natCast]
  refine uC (λi σ' H'=>∃(pl pg:Addr) (L G:List Int) (z4 z5 z6:Option V),σ'=[some (.ref a),some (.ref b),some (.ref pl),some (.ref pg),z4,z5,z6]/\Same H H'/\H pl=none/\H pg=none/\H' pl=some (.lst (L.map V.int))/\H' pg=some (.lst (G.map V.int))/\L.length=xs.length/\G.length=M/\AllB (x+i*(y+1)) L/\AllB (x+i*(y+1)) G/\(∀n,xs.length<=n+i->cf L n=0)/\(∀n,n+i<M->cf G n=0)/\∃f:Int,0<f/\∀n,f*cf xs n=ak G ys n+cf L n)
   ⟨l0,g0,xs,List.replicate M 0,none,none,none,rfl,s1,hl0,fg0,h1,g1,rfl,GL,by rw[Nat.zero_mul];exact bx,AllB.zeros,λn hn=>aT (by omega),λn _=>fA _ _,1,by decide,λn=>by rw[FF,iJ (fA _)];omega⟩ ?_ ?_
  ·rintro i σ' H2 hi ⟨pl,pg,L,G,z4,z5,z6,rfl,s2,fl,fg,hl,hg,hLl,hGl,bL,bG,hLz,hGz,f,hf,heq⟩;have hB2:=s2 _ _ hB
   have bi:x+(i+1)*(y+1)<=900000:=by have:=Ga (y+1) (show i+1<=xs.length+1 by omega);omega
   have e1:x+(i+1)*(y+1)=x+i*(y+1)+y+1:=by rw[G6];omega
   have ek:((M:Int)-1)+(i:Int) * -1=((M-1-i:Nat):Int):=by omega
   dsimp only
   rw[ek];generalize hk:M-1-i=kk;generalize hS:(((cf ys (ys.length-1)).natAbs:Nat):Int)=S at bS
   refine iz ⟨_,rfl,pl,rfl,⟨_,SqL.of hl⟩,d8 (K:=K) (a:=pl) (xs:=L.map V.int) (λj ms σ' H'=>∃z0:Option V,σ'=[z0,some (.ref b)]/\ms=(scL S (L.take j)).map V.int/\H2=H') (by rw[Fc];omega) ⟨none,rfl,rfl,rfl⟩ ?_ ?_ ?_⟩
   ·rintro j ms σ' H' _ ⟨z0,rfl,rfl,rfl⟩;exact⟨SqL.of hl,by rw[Fc,aP,FW];exact Gx _ _⟩
   ·rintro j v ms σ' H' hj ⟨z0,rfl,rfl,rfl⟩;obtain⟨c,_,rfl,hmc,et⟩:=cK hj;refine⟨_,rfl,_,rfl,_,rfl,b,_,_,_,rfl,rfl,SqL.of hB2,eJ hy,_,rfl,?_⟩;rw[du,hS];refine⟨_,_,rfl,rfl,⟨(bL c hmc).mono (by omega),bS.mono (by omega)⟩,_,rfl,?_,rfl⟩;rw[et];unfold scL;rw[Fk,Fk];show _++[V.int (c*_)]=_++[V.int (_*c)];rw[FO]
   rintro ms σ' H' p2 ⟨z0,rfl,rfl,rfl⟩ hp2;rw[Fc,FQ];have t2:=Same.upd_new (o:=.lst ((scL S L).map V.int)) hp2;have e2:upd H2 p2 (.lst ((scL S L).map V.int)) p2=some (.lst ((scL S L).map V.int)):=aq;have n2:pg≠p2:=aN hg hp2;have hg3:=t2 _ _ hg;generalize upd H2 p2 (.lst ((scL S L).map V.int))=H3 at t2 e2 hg3 ⊢
   have hB3:=t2 _ _ hB2;refine gI ?_;dsimp only
   refine iz ⟨_,rfl,pg,rfl,⟨_,SqL.of hg3⟩,d8 (K:=K) (a:=pg) (xs:=G.map V.int) (λj ms σ' H'=>∃z0:Option V,σ'=[z0,some (.ref b)]/\ms=(scL S (G.take j)).map V.int/\H3=H') (by rw[Fc];omega) ⟨none,rfl,rfl,rfl⟩ ?_ ?_ ?_⟩
   ·rintro j ms σ' H' _ ⟨z0,rfl,rfl,rfl⟩;exact⟨SqL.of hg3,by rw[Fc,aP,FW];exact Gx _ _⟩
   ·rintro j v ms σ' H' hj ⟨z0,rfl,rfl,rfl⟩;obtain⟨c,_,rfl,hmc,et⟩:=cK hj;refine⟨_,rfl,_,rfl,_,rfl,b,_,_,_,rfl,rfl,SqL.of hB3,eJ hy,_,rfl,?_⟩;rw[du,hS];refine⟨_,_,rfl,rfl,⟨(bG c hmc).mono (by omega),bS.mono (by omega)⟩,_,rfl,?_,rfl⟩;rw[et];unfold scL;rw[Fk,Fk];show _++[V.int (c*_)]=_++[V.int (_*c)];rw[FO]
   rintro ms σ' H' p3 ⟨z0,rfl,rfl,rfl⟩ hp3;rw[Fc,FQ];have n3:p2≠p3:=aN e2 hp3;have t3:=t2.then_new (o:=.lst ((scL S G).map V.int)) hp3;have e3:upd H3 p3 (.lst ((scL S G).map V.int)) p3=some (.lst ((scL S G).map V.int)):=aq;have e2':upd H3 p3 (.lst ((scL S G).map V.int)) p2=some (.lst ((scL S L).map V.int)):=by rw[upd_ne n3];exact e2
   have f2:H p2=none:=s2.free hp2;have f3:H p3=none:=(s2.trans t2).free hp3;generalize upd H3 p3 (.lst ((scL S G).map V.int))=H4 at t3 e3 e2' ⊢
   have hB4:=t3 _ _ hB2;have nb2:b≠p2:=λz=>by rw[z]at hB;rw[hB]at f2;cases f2
   have nb3:b≠p3:=λz=>by rw[z]at hB;rw[hB]at f3;cases f3
   refine gI ?_;dsimp only
   have hkG:kk<G.length:=by omega
   have hkL:kk+ys.length-1<L.length:=by omega
   have ekl:(kk:Int)+((ys.map V.int).length:Int)-1=((kk+ys.length-1:Nat):Int):=by rw[Fc];omega
   have btop:Bits (x+i*(y+1)) (sg (cf ys (ys.length-1))*cf L (kk+ys.length-1)):=fN (bL.cf _);refine iz ⟨_,rfl,_,rfl,_,rfl,b,_,rfl,.inl (SqL.of hB4),_,_,rfl,rfl,_,_,rfl,rfl,p2,_,_,_,rfl,rfl,SqL.of e2',gd (l:=scL S L) ekl (by rw[aP];exact hkL),_,rfl,_,rfl,b,_,_,_,rfl,rfl,SqL.of hB4,eJ hy,_,_,rfl,rfl,⟨hlc,(by'.cf _).mono hy9⟩,_,rfl,_,rfl,p3,_,_,kk,rfl,rfl,e3,gZ rfl (by rw[Fc,aP];exact hkG),?_⟩
   have etop:Int.fdiv (cf (scL S L) (kk+ys.length-1)) (cf ys (ys.length-1))=sg (cf ys (ys.length-1))*cf L (kk+ys.length-1):=by rw[aD,<- hS,FO];exact BY hlc
   refine mT (H2:=upd H4 p3 (.lst (((scL S G).set kk (sg (cf ys (ys.length-1))*cf L (kk+ys.length-1))).map V.int))) ?_ ?_
   ·show upd H4 p3 (.lst (((scL S G).map V.int).set kk (.int (Int.fdiv (cf (scL S L) (kk+ys.length-1)) (cf ys (ys.length-1))))))=_;rw[etop,gX]
   have e3':upd H4 p3 (.lst (((scL S G).set kk (sg (cf ys (ys.length-1))*cf L (kk+ys.length-1))).map V.int)) p3=some (.lst (((scL S G).set kk (sg (cf ys (ys.length-1))*cf L (kk+ys.length-1))).map V.int)):=aq;have e2'':upd H4 p3 (.lst (((scL S G).set kk (sg (cf ys (ys.length-1))*cf L (kk+ys.length-1))).map V.int)) p2=some (.lst ((scL S L).map V.int)):=by rw[upd_ne n3];exact e2'
   have hB5:upd H4 p3 (.lst (((scL S G).set kk (sg (cf ys (ys.length-1))*cf L (kk+ys.length-1))).map V.int)) b=some (.lst (ys.map V.int)):=by rw[upd_ne nb3];exact hB4
   have s5:Same H (upd H4 p3 (.lst (((scL S G).set kk (sg (cf ys (ys.length-1))*cf L (kk+ys.length-1))).map V.int))):=cT (s2.trans t3) f3
   have hzero:S*cf L (kk+ys.length-1)=sg (cf ys (ys.length-1))*cf L (kk+ys.length-1)*cf ys (ys.length-1):=by have:=jj (cf ys (ys.length-1));rw[<- hS];grind
   generalize sg (cf ys (ys.length-1))*cf L (kk+ys.length-1)=tp at btop hzero e3' e2'' hB5 s5 ⊢
   generalize hG2:(scL S G).set kk tp=G2 at e3' e2'' hB5 s5 ⊢
   have hcG:∀n,cf G2 n=S*cf G n+(if n=kk then tp else 0):=λn=>by
    rw[<- hG2,fz (by rw[aP];exact hkG),aD];by_cases z:n=kk
    ·rw[if_pos z,if_pos z,z,hGz kk (by omega)];omega
    ·rw[if_neg z,if_neg z];omega
   have hG2l:G2.length=M:=by rw[<- hG2,Gr,aP];exact hGl
   generalize upd H4 p3 (.lst (G2.map V.int))=H5 at e3' e2'' hB5 s5 ⊢
   have bG2:AllB (x+(i+1)*(y+1)) G2:=AllB.of_cf λn=>by
    rw[hcG];by_cases z:n=kk
    ·rw[if_pos z,z,hGz kk (by omega),Fp,GN];exact btop.mono (by omega)
    ·rw[if_neg z,FT];exact(bS.mul (bG.cf n)).mono (by omega)
   refine⟨_,rfl,b,rfl,⟨_,SqL.of hB5⟩,iQ (K:=K) (a:=b) (xs:=ys.map V.int) (λj σ' H'=>∃(acc:List Int) (z5 z6:Option V),σ'=[some (.ref a),some (.ref b),some (.ref p2),some (.ref p3),some (.int (kk:Int)),z5,z6]/\SameB p2 H5 H'/\H' p2=some (.lst (acc.map V.int))/\acc.length=L.length/\∀n,n<acc.length->cf acc n=S*cf L n-(if kk<=n/\n-kk<j then tp*cf ys (n-kk)else 0))
    ⟨_,z5,z6,rfl,SameB.refl _ _,e2'',aP _ _,λn _=>by rw[aD,if_neg (by omega)];omega⟩ ?_ ?_ ?_⟩
   ·rintro j σ' H' _ ⟨acc,z5,z6,rfl,sb,_⟩;exact SqL.of (sb _ _ nb2 hB5)
   ·rintro j v σ' H' q' hj ⟨acc,z5,z6,rfl,sb,hpa,hal,hac⟩ hq
    have hjl:j<ys.length:=by apply Classical.byContradiction;intro hn;rw[List.getElem?_eq_none_iff.mpr (by rw[Fc];omega)]at hj;cases hj
    rw[List.getElem?_map,dX hjl]at hj;obtain rfl:=Option.some.inj hj;refine⟨q',_,rfl,SqT.of aq,rfl,_,_,rfl,_,_,rfl,rfl,?_⟩;have nqp:p2≠q':=aN hpa hq;have hpa':upd H' q' (.tup [.int j,.int (cf ys j)]) p2=some (.lst (acc.map V.int)):=by rw[upd_ne nqp];exact hpa
    have hG5:H' p3=some (.lst (G2.map V.int)):=sb _ _ (Ne.symm n3) e3';have nq3:p3≠q':=aN hG5 hq;have hG6:upd H' q' (.tup [.int j,.int (cf ys j)]) p3=some (.lst (G2.map V.int)):=by rw[upd_ne nq3];exact hG5
    have ekj:(kk:Int)+(j:Int)=((kk+j:Nat):Int):=by omega
    have hkj:kk+j<acc.length:=by omega
    have etp:cf G2 kk=tp:=by rw[hcG,if_pos rfl,hGz kk (by omega)];omega
    refine⟨_,rfl,_,rfl,_,rfl,_,_,rfl,rfl,p2,_,_,_,rfl,rfl,SqL.of hpa',gd ekj hkj,_,rfl,_,rfl,p3,_,_,_,rfl,rfl,SqL.of hG6,gd (l:=G2) (j:=kk) rfl (by omega),_,rfl,_,_,rfl,rfl,?_⟩;rw[etp];refine⟨⟨btop.mono (by omega),(by'.cf j).mono (by omega)⟩,_,_,rfl,rfl,_,rfl,_,rfl,_,rfl,_,_,rfl,rfl,p2,_,_,kk+j,rfl,rfl,hpa',gZ ekj (by rw[Fc];exact hkj),?_⟩;refine⟨acc.set (kk+j) (cf acc (kk+j)-tp*cf ys j),_,_,rfl,(sb.then_new hq).then_upd,by rw[aq,gX],by rw[Gr];exact hal,λn hn=>?_⟩;rw[Gr]at hn;rw[fz hkj];by_cases z:n=kk+j
    ·rw[if_pos z,z,hac (kk+j) hkj,if_neg (by omega),if_pos (by omega)];have:kk+j-kk=j:=by omega
     rw[this];omega
    ·rw[if_neg z,hac n hn];by_cases z2:kk<=n/\n-kk<j
     ·rw[if_pos z2,if_pos (by omega)]
     ·rw[if_neg z2,if_neg (by omega)]
   ·rintro σ' H6 ⟨acc,z5,z6,rfl,sb,hpa,hal,hac⟩;rw[Fc]at hac;have s6:Same H H6:=λc o e=>sb c o (λz=>by rw[z]at e;rw[e]at f2;cases f2) (s5 _ _ e)
    have hG7:H6 p3=some (.lst (G2.map V.int)):=sb _ _ (Ne.symm n3) e3'
    have hcA:∀n,cf acc n=S*cf L n-(if kk<=n then tp*cf ys (n-kk)else 0):=λn=>by
     by_cases hn:n<acc.length
     ·rw[hac n hn];by_cases z:kk<=n
      ·rw[if_pos z];by_cases z2:n-kk<ys.length
       ·rw[if_pos ⟨z,z2⟩]
       ·rw[if_neg (by omega),aT (l:=ys) (by omega),Fp]
      ·rw[if_neg z,if_neg (by omega)]
     ·rw[aT (l:=acc) (by omega),aT (l:=L) (by omega),Fp];split
      ·rw[aT (l:=ys) (by omega),Fp];rfl
      ·rfl
    have bA:AllB (x+(i+1)*(y+1)) acc:=AllB.of_cf λn=>by
     rw[hcA,e1];refine Bits.sub ((bS.mul (bL.cf n)).mono (by omega)) ?_;split
     ·exact(btop.mul (by'.cf _)).mono (by omega)
     ·exact Bits.zero
    refine⟨p2,p3,acc,G2,_,_,_,rfl,s6,f2,f3,hpa,hG7,by omega,hG2l,bA,bG2,λn hn=>?_,λn hn=>?_,S*f,?_,λn=>?_⟩
    ·rw[hcA];by_cases z:xs.length<=n+i
     ·rw[hLz n z,Fp];split
      ·rw[aT (l:=ys) (by omega),Fp];rfl
      ·rfl
     ·have en:n=kk+ys.length-1:=by omega
      rw[if_pos (by omega),en,hzero];have:kk+ys.length-1-kk=ys.length-1:=by omega
      rw[this];omega
    ·rw[hcG,if_neg (by omega),hGz n (by omega)];omega
    ·have:0<S:=by rw[<- hS];omega
     exact FD this hf
    ·have h9:=nK (q:=G) (q':=G2) (b:=ys) (c:=S) (l:=tp) (p:=kk) (n:=n) (by omega) (by omega) hcG;rw[h9,hcA,FM,heq n];split
     ·grind
     ·grind
  ·rintro σ' H2 ⟨pl,pg,L,G,z4,z5,z6,rfl,s2,fl,fg,hl,hg,hLl,hGl,bL,bG,hLz,hGz,f,hf,heq⟩;exact⟨_,rfl,k G (by omega) ⟨f,L,hf,λn hn=>hLz n (by omega),heq⟩ pg H2 s2 fg hg⟩
theorem xw{xs ys r:List Int}(hy:ys≠[])(hyt:Tr ys)(h:oV xs ys r):ae r=ae (aF xs ys):=by obtain⟨tr,hl,f,q,hf,he⟩:=h;have h1:=mP hy hyt hl he;exact rq (j4 (a:=xs) hy hyt) hf tr (cV _ _) λk=>(h1 k).symm
theorem zg{ns O g:List Int}(tn:Tr ns)(nn:ns≠[])(tO:Tr O)(nO:O≠[])(hd:Dv O ns)(hlen:O.length<=ns.length)(hg:g.length=ns.length-O.length+1)(h:∃(f:Int) (r:List Int),0<f/\(∀n,O.length<=n+1->cf r n=0)/\∀n,f*cf ns n=ak g O n+cf r n) :
 Tr g/\g≠[]/\∃k:Int,k≠0/\∀n,k*cf ns n=ak g O n:=by
 obtain⟨f,r,hf,hr,he⟩:=h;have hOl:=Fh.mpr nO;have hnl:=Fh.mpr nn
 have tl:(trim r).length<O.length:=by
  rcases GI (trim r).length O.length with z |z
  ·exact z
  ·exfalso;have h1:=dw r ((trim r).length-1) (by omega);rw[d9]at h1;exact h1 (hr _ (by omega))
 have h2:=mP nO tO tl (xs:=ns) (q:=g) (f:=f) λn=>by rw[d9];exact he n
 have h3:aF ns O=[]:=Dv.rest nO tO hd;have hF:=j4 (a:=ns) nO tO
 have hr0:∀n,cf r n=0:=λn=>by
  have:=h2 n;rw[h3,b6,Fp,d9]at this;rcases Gh.mp this.symm with z |z
  ·omega
  ·exact z
 have he':∀n,f*cf ns n=ak g O n:=λn=>by rw[he n,hr0 n];omega
 have gl:g.length=(ns.length-O.length)+1:=hg;have top:=jH (a:=g) (b:=O) (la:=ns.length-O.length) (lb:=O.length-1) gl (by omega);have e1:ns.length-O.length+(O.length-1)=ns.length-1:=by omega
 rw[e1,<- he' (ns.length-1)]at top;have hn1:=tn (ns.length-1) (by omega);have hne:f*cf ns (ns.length-1)≠0:=Ft (by omega) hn1;have gne:cf g (ns.length-O.length)≠0:=λz=>by rw[z,FY]at top;exact hne top
 refine⟨λn hn=>?_,λz=>by rw[z]at gl;simp at gl,f,by omega,he'⟩;have:n=ns.length-O.length:=by omega
 rw[this];exact gne
def qO:Sp:=λvs H Q _=>∃(a:Addr) (ns:List Int),vs=[.ref a]/\H a=some (.lst (ns.map V.int))/\Tr ns/\ns≠[]/\ns.length<=6/\(∀v∈ns,-50<=v/\v<=50)/\∀r:List Int,FlatP r->mkL H Q r
theorem gr5:gr 14 6=2366:=by decide
theorem Ai(F:Fun K "_law_flat" "_law_flat" mF f fd)(T:Txt K mg)(pd:Cal P w K mg base 1 "_law_slope" ["_law_kp"] kO Ck B5)(ig:Cal P w K mg base 33 "_law_shrunk" ["_law_kp"] gt uL uI)(pj:Cal P w K mg base 2 "_law_rest" ["_law_kp","_law_kq"] kR Cm B7)(DN:Cal P w K mg base 1 "_law_part" ["_law_kp","_law_kq"] qF EZ Em):FnOk P w K mg base CX0 34 f fd ["_law_kp"] qO:=by
 refine F.ok sc__law_flat (λvs H Q E h=>?_) (λcdv A outer s H vs Q E hr h=>?_)
 ·obtain⟨a,ns,rfl,_⟩:=h;rfl
 ·obtain⟨a,ns,rfl,hA,tn,nn,hl6,bn50,k⟩:=h;have bn:AllB 7 ns:=λv hv=>by have:=bn50 v hv;show v.natAbs<128;omega
  have hnl:=Fh.mpr nn
  refine⟨_,(ah (aj 1 sc__law_flat (pv 0))
   (ah (aj 2 sc__law_flat (au pd hr (aa (pv 0) ag)))
   (ah (dB PassesOwn.never (aG b8 (ba K T.len_ (aa (pv 2) ag)) af)
     (al (yM (i:=1) (j:=2) rfl sc__law_flat.nd rfl rfl (by decide) rfl rfl (aa (pv 2) (aa (au ig hr (aa (au pj hr (aa (pv 1) (aa (pv 2) ag))) ag)) ag)) (by rfl))))
   (al (aA (au ig hr (aa (au DN hr (aa (pv 0) (aa (pv 1) ag))) ag))))))),?_⟩
  refine ar ⟨_,rfl,?_⟩;refine ar ⟨_,rfl,a,ns,rfl,hA,by omega,bn.mono,λp1 H1 s1 hp1 e1=>?_⟩;have lS:=dg ns
  refine⟨λm σ' H'=>∃(po pt:Addr) (O T:List Int) (x y s:Nat),σ'=[some (.ref a),some (.ref po),some (.ref pt)]/\Same H H'/\H' po=some (.lst (O.map V.int))/\H' pt=some (.lst (T.map V.int))/\Tr O/\Tr T/\O.length=s+1/\s<=5/\T.length<=s/\AllB x O/\AllB y T/\x+1<=gr 14 (5-s)/\y+1<=gr 14 (5-s+1)/\m=T.length/\(∀d,Dv d O->Dv d T->Dv d ns/\Dv d (slopeL ns))/\∀d,Dv d ns->Dv d (slopeL ns)->Dv d O/\Dv d T,
   ⟨_,a,p1,ns,slopeL ns,7,11,ns.length-1,rfl,s1,s1 _ _ hA,e1,tn,eK tn,by omega,by omega,by omega,bn,rj bn (by omega),Fu (show 7+1<=gr 14 0 by decide) (dG 14 (Fj _)),Fu (show 11+1<=gr 14 1 by decide) (dG 14 (by omega)),rfl,λd h h'=>⟨h,h'⟩,λd h h'=>⟨h,h'⟩⟩,?_⟩
  rintro m σ' H2 ⟨po,pt,O,T,x,y,s,rfl,s2,eo,et,tO,tT,lO,hs5,lT,bO,bT,gx,gy,rfl,hdv,hup⟩;have nO:O≠[]:=λz=>by rw[z]at lO;simp at lO
  have gx2:gr 14 (5-s)<=2366:=by rw[<- gr5];exact dG 14 (by omega)
  have gy2:gr 14 (5-s+1)<=2366:=by rw[<- gr5];exact dG 14 (by omega)
  refine⟨_,rfl,pt,_,rfl,.inl (SqL.of et),_,_,rfl,rfl,_,rfl,aM (λhgt=>?_) (λhle=>?_)⟩
  ·have hgt':0<((T.map V.int).length:Int):=hgt;rw[Fc]at hgt';have nT:T≠[]:=λz=>by rw[z]at hgt';simp at hgt'
   have hTl:=Fh.mpr nT;refine⟨_,λ_ _ h=>h,?_⟩;refine⟨_,rfl,_,rfl,_,rfl,po,pt,O,T,x,y,rfl,eo,et,nT,tO,tT,bO,bT,?_,by omega,by omega,by omega,λr hr p3 H3 s3 hp3 e3=>?_⟩
   ·have:O.length*(y+1)<=6*2366:=GR (by omega) (by omega);omega
   obtain⟨tr,lr,f',q',hf',he'⟩:=id hr;refine⟨p3,r,rfl,e3,tr,by omega,λp4 H4 s4 hp4 e4=>?_⟩;have t4:=s2.trans (s3.trans s4);refine⟨_,_,rfl,?_⟩;obtain⟨d,hd⟩:∃d,T.length=d+1:=⟨T.length-1,by omega⟩;have esh:=xw nT tT hr;have hN:aW O T=(s-d-1)+2:=by unfold aW;omega
   have bR:AllB (x+aW O T*(y+1)) (ae r):=by rw[esh];refine ji ?_;unfold aF;exact AllB.trim (oz bO bT _).2
   refine⟨(ae r).length,by rw[gu];exact lr,pt,p4,T,ae r,y,x+aW O T*(y+1),d,rfl,t4,(s3.trans s4) _ _ et,e4,tT,c8 tr,hd,by omega,by rw[gu];omega,bT,bR,Fu gy (dG 14 (by omega)),?_,rfl,λz hz1 hz2=>?_,λz hz1 hz2=>?_⟩
   ·have e8:5-s+2+(s-d-1)=5-d+1:=by omega
    have gj:=ol 14 (5-s) (s-d-1);rw[e8]at gj;rw[hN];have h9:((s-d-1)+2)*(y+1)<=((s-d-1)+2)*gr 14 (5-s+1):=Gu _ gy;omega
   ·refine hdv z ?_ hz1;refine Dv.up (f:=f') (q:=q') (r:=r) (by omega) he' hz1 ?_;by_cases hr0:r=[]
    ·rw[hr0];exact Dv.nil _
    ·obtain⟨g0,_,_,ec⟩:=cy tr hr0;exact Dv.prop_right (x:=1) (y:=(am r:Int)) (by decide) (λn=>by rw[ec n];omega) hz2
   ·obtain⟨y1,y2⟩:=hup z hz1 hz2;have y3:Dv z r:=Dv.down he' y1 y2;refine⟨y2,?_⟩;by_cases hr0:r=[]
    ·rw[hr0];exact Dv.nil _
    ·obtain⟨g0,_,_,ec⟩:=cy tr hr0;exact Dv.prop_right (x:=(am r:Int)) (y:=1) (by omega) (λn=>by rw[ec n];omega) y3
  ·have hT0:T=[]:=by have hle':¬0<((T.map V.int).length:Int):=hle;rw[Fc]at hle';exact GS (by omega)
   subst hT0;obtain⟨hdO,hdS⟩:=hdv O (Dv.refl _) (Dv.nil _)
   have hlen:O.length<=ns.length:=by
    rcases GI ns.length O.length with z |z
    ·exact absurd (Dv.short nO tO tn z hdO) nn
    ·exact z
   have hA2:=s2 _ _ hA;refine⟨_,rfl,_,rfl,a,po,ns,O,7,x,rfl,hA2,eo,nO,tO,hlen,by omega,bn,bO,by omega,?_,λg hg hpf p3 H3 s3 hp3 e3=>?_⟩
   ·have:(ns.length+1)*(x+1)<=7*2366:=GR (by omega) (by omega);omega
   obtain⟨tg,gn,kk,hkk,ekk⟩:=zg tn nn tO nO hdO hlen hg hpf;refine⟨p3,g,rfl,e3,tg,by omega,λp4 H4 s4 hp4 e4=>?_⟩;have hOl:=Fh.mpr nO;exact k (ae g) (BW tn nn hl6 bn50 hkk tO nO tg gn (by omega) ekk hdS λx h1 h2=>(hup x h1 h2).1) p4 H4 (s2.trans (s3.trans s4)) ((s2.trans s3).free hp4) e4
def qB:Sp:=λvs H Q _=>∃(a:Addr) (kp:List Int),vs=[.ref a]/\H a=some (.lst (kp.map V.int))/\Tr kp/\kp≠[]/\kp.length<=7/\AllB 530 kp /\
 ∀(l:Addr) (ps:List Addr) (H':Hp),Same H H'->H l=none->H' l=some (.lst (ps.map V.ref))->RwH H' ps (kp::aI 8 (ae (slopeL kp)) (nxt (ae kp) (ae (slopeL kp))))->Q (.ref l) H'
theorem Aw{prev A c r:List Int}{g:Int}(hg:0<g)(hA:∀n,cf prev n=g*cf A n)(hc:c≠[])(tc:Tr c)(h:oV prev c r):nxt A c=ae (scL (-1) r):=by
 obtain⟨tr,hl,f,q,hf,he⟩:=h;refine Ax (f:=f*g) (q:=q) (FD hf hg) hc tc hl tr λn=>?_
 rw[FM,<- hA n];exact he n
theorem BH{r:List (List Int)}{c:List Int}:(r++[c]).getD ((r++[c]).length-1) []=c:=by rw[Fd];show(r++[c]).getD (r.length+1-1) []=c;simp[List.getD]
theorem BG{r:List (List Int)}{b c:List Int}:(r++[b]++[c]).getD ((r++[b]++[c]).length-2) []=b:=by
 rw[Fd,Fd];show(r++[b]++[c]).getD (r.length+1+1-2) []=b;have:r.length+1+1-2=r.length:=by omega
 rw[this];simp[List.getD]
theorem wK{r:List Int}(h:Tr r):Tr (scL (-1) r):=λn hn=>by rw[aP]at hn;rw[aD];have:=h n hn;omega
theorem zW(F:Fun K "_law_row" "_law_row" mq f fd)(T:Txt K mg)(pd:Cal P w K mg base 1 "_law_slope" ["_law_kp"] kO Ck B5)(ig:Cal P w K mg base 33 "_law_shrunk" ["_law_kp"] gt uL uI)(pj:Cal P w K mg base 2 "_law_rest" ["_law_kp","_law_kq"] kR Cm B7):FnOk P w K mg base CX0 34 f fd ["_law_kp"] qB:=by
 refine F.ok sc__law_row (λvs H Q E h=>?_) (λcdv A outer s H vs Q E hr h=>?_)
 ·obtain⟨a,kp,rfl,_⟩:=h;rfl
 ·obtain⟨a,kp,rfl,hA,tk,nk,hl7,bk,k⟩:=h;have big:=sizeLine_eq;have hkl:=Fh.mpr nk
  refine⟨_,(ah (aj 1 sc__law_row (bK (aa (pv 0) ag)))
   (ah (aj 2 sc__law_row (au pd hr (aa (pv 0) ag)))
   (ah (dB PassesOwn.never (aG b8 (ba K T.len_ (aa (pv 2) ag)) af)
     (ah (dQ (dS (pv 1) (aa (au ig hr (aa (pv 2) ag)) ag)))
       (al (fT (i:=2) sc__law_row.nd rfl (Or.inl rfl) (own:=["_law_one"]) (fr:=[]) (js:=[]) (by walk_at "comp_ok") rfl (bY (K:=K) rfl (au pj hr (aa (bD K (pv 1) (bJ bI af)) (aa (bD K (pv 1) (bJ bI af)) ag)))) (λ_ _ _ _=>(cj (i:=0) (show List.Nodup (["_law_one"]:List Str)from by decide +kernel) rfl (Or.inl rfl))) (λ_ _ _ _=>(ai aU af (pv 0))) (by rfl)))))
   (al (aA (pv 1)))))),?_⟩
  refine ar ⟨_,rfl,by show 1<=sizeLine;decide,λpl hpl=>?_⟩;have s0:Same H (upd H pl (.lst (([a]:List Addr).map V.ref))):=Same.upd_new hpl;have e0:upd H pl (.lst (([a]:List Addr).map V.ref)) pl=some (.lst (([a]:List Addr).map V.ref)):=aq;show bV _ _ _ _ _;refine mU (λσ' H'=>σ'=[some (.ref a),some (.ref pl),none]/\H'=upd H pl (.lst (([a]:List Addr).map V.ref))) ⟨rfl,rfl⟩ ?_;rintro σ' H0 ⟨rfl,hH0⟩;rw[<- hH0]at s0 e0;clear hH0;refine ar ⟨_,rfl,a,kp,rfl,s0 _ _ hA,by omega,bk.mono,λp1 H1 s1 hp1 e1=>?_⟩;obtain⟨hrun,hends,hok⟩:=mN tk bk hl7;obtain⟨g0,tF,nF,ecF⟩:=cy tk nk;have dJ:aI 9 (ae kp) (ae (slopeL kp))=ae kp::aI 8 (ae (slopeL kp)) (nxt (ae kp) (ae (slopeL kp))):=by show(if ae kp=[]then _ else _)=_;rw[if_neg nF]
  have lS:=dg kp;have na1:a≠pl:=λz=>by rw[z,hpl]at hA;cases hA
  refine⟨λm σ' H'=>∃(M:Nat) (pt:Addr) (ps:List Addr) (done:List (List Int)) (prev AA o:List Int) (g:Int),σ'=[some (.ref a),some (.ref pl),some (.ref pt)]/\Same H H'/\H' pl=some (.lst (ps.map V.ref))/\RwH H' ps (done++[prev])/\(∀p∈ps,p≠pl)/\H' pt=some (.lst (o.map V.int))/\m=o.length/\Tr o/\Tr prev/\prev≠[]/\0<g/\(∀n,cf prev n=g*cf AA n)/\o.length<prev.length/\prev.length<=7/\AllB 91260 prev/\kp::aI 8 (ae (slopeL kp)) (nxt (ae kp) (ae (slopeL kp)))=done++[prev]++aI M (ae o) (nxt AA (ae o))/\o.length<=M/\done.length+1+M=9,
   ⟨_,8,p1,[a],[],kp,ae kp,slopeL kp,(am kp:Int),rfl,s0.trans s1,s1 _ _ e0,RwH.nil.snoc ((s0.trans s1) _ _ hA),(λp hp=>by rw[Fv.mp hp];exact na1),e1,rfl,eK tk,tk,nk,g0,ecF,by omega,hl7,bk.mono,rfl,by omega,rfl⟩,?_⟩
  rintro m σ' H2 ⟨M,pt,ps,done,prev,AA,o,g,rfl,s2,el,hR,hno,et,rfl,to,tp,np,hg,ecp,hol,hpl7,bp,heq,hoM,hdM⟩;refine⟨_,rfl,pt,_,rfl,.inl (SqL.of et),_,_,rfl,rfl,_,rfl,aM (λhgt=>?_) (λhle=>?_)⟩
  ·have hgt':0<((o.map V.int).length:Int):=hgt;rw[Fc]at hgt';have no:o≠[]:=λz=>by rw[z]at hgt';simp at hgt'
   have hol1:=Fh.mpr no;obtain⟨go,tc,nc,eco⟩:=cy to no;refine⟨_,λ_ _ h=>h,?_⟩;refine gH ⟨_,rfl,.inl ⟨rfl,_,SqL.of el⟩,_,rfl,pt,o,rfl,et,to,by omega,λp3 H3 s3 hp3 e3=>?_⟩;have el3:=s3 _ _ el;have n3:p3≠pl:=λz=>by rw[z,el]at hp3;cases hp3
   refine⟨pl,_,_,rfl,rfl,el3,by rw[Fc,hR.1,Fd];show done.length+1<_;omega,?_⟩;rw[fY];have t3:Same H (upd H3 pl (.lst ((ps++[p3]).map V.ref))):=cT (s2.trans s3) hpl;have el4:upd H3 pl (.lst ((ps++[p3]).map V.ref)) pl=some (.lst ((ps++[p3]).map V.ref)):=aq
   have hno4:∀p∈ps++[p3],p≠pl:=λp hp=>by
    rcases Fq.mp hp with z |z
    ·exact hno p z
    ·rw[Fv.mp z];exact n3
   have hR4:RwH (upd H3 pl (.lst ((ps++[p3]).map V.ref))) (ps++[p3]) (done++[prev]++[ae o]):=((hR.same s3).snoc e3).upd_no hno4;generalize upd H3 pl (.lst ((ps++[p3]).map V.ref))=H4 at t3 el4 hR4 ⊢
   obtain⟨M',rfl⟩:∃M',M=M'+1:=⟨M-1,by omega⟩;have eM:aI (M'+1) (ae o) (nxt AA (ae o))=ae o::aI M' (nxt AA (ae o)) (nxt (ae o) (nxt AA (ae o))):=by show(if ae o=[]then _ else _)=_;rw[if_neg nc]
   rw[eM]at heq
   have hmem:ae o∈aI 9 (ae kp) (ae (slopeL kp)):=by
    rw[dJ];refine Fi _ ?_;have h1:aI 8 (ae (slopeL kp)) (nxt (ae kp) (ae (slopeL kp)))=(kp::aI 8 (ae (slopeL kp)) (nxt (ae kp) (ae (slopeL kp)))).tail:=rfl;rw[h1,heq];cases done with
    |nil=>exact Fl ..
    |cons x xs=>simp
   obtain⟨_,bc,lc⟩:=hok _ hmem;have lco:(ae o).length=o.length:=gu o;obtain⟨q2,a2,hq2⟩:=vL (i:=2) hR4 (by decide) (by rw[Fd,Fd];show 2<=done.length+1+1;omega);obtain⟨q1,a1,hq1⟩:=vL (i:=1) hR4 (by decide) (by rw[Fd];show 1<=_+1;omega);rw[BG]at hq2;rw[BH]at hq1;refine⟨_,rfl,_,rfl,pl,_,_,_,rfl,rfl,SqL.of el4,a2,_,rfl,_,rfl,pl,_,_,_,rfl,rfl,SqL.of el4,a1,q2,q1,prev,ae o,91260,91260,rfl,hq2,hq1,nc,tp,tc,bp,bc,by have:prev.length*(91260+1)<=7*91261:=GR (by omega) (Fg _);omega,by omega,by omega,by omega,λr hr p5 H5 s5 hp5 e5=>?_⟩;have hnx:=Aw hg ecp nc tc hr;obtain⟨trr,lr,_⟩:=id hr;refine⟨p5,rfl,⟨_,SqL.of e5⟩,d8 (K:=K) (a:=p5) (xs:=r.map V.int) (λj ms σ' H'=>∃z0:Option V,σ'=[z0]/\ms=((r.take j).map λv=>0-v).map V.int/\H5=H') (by rw[Fc];omega) ⟨none,rfl,rfl,rfl⟩ ?_ ?_ ?_⟩
   ·rintro j ms σ' H' _ ⟨z0,rfl,rfl,rfl⟩;exact⟨SqL.of e5,by rw[Fc,Fc,FW];exact Gx _ _⟩
   ·rintro j v ms σ' H' hj ⟨z0,rfl,rfl,rfl⟩;obtain⟨c,_,rfl,_,et'⟩:=cK hj;refine⟨_,rfl,_,_,rfl,rfl,_,rfl,?_,rfl⟩;rw[et',Fk,Fk];rfl
   rintro ms σ' H' p6 ⟨z0,rfl,rfl,rfl⟩ hp6;rw[Fc,FQ,AB];have s6:Same H5 (upd H5 p6 (.lst ((scL (-1) r).map V.int))):=Same.upd_new hp6;refine gI ?_;refine⟨(scL (-1) r).length,by rw[aP];omega,M',p6,ps++[p3],done++[prev],ae o,ae o,scL (-1) r,1,rfl,(t3.trans s5).trans s6,s6 _ _ (s5 _ _ el4),(hR4.same s5).same s6,hno4,aq,rfl,wK trr,tc,nc,by decide,λn=>by omega,by rw[aP];exact lr,by omega,bc,?_,by rw[aP];omega,by rw[Fd];show done.length+1+1+M'=9;omega⟩;rw[heq,<- hnx];simp
  ·have ho0:o=[]:=by have hle':¬0<((o.map V.int).length:Int):=hle;rw[Fc]at hle';exact GS (by omega)
   subst ho0;have e9:aI M (ae []) (nxt AA (ae []))=[]:=gG M _;rw[e9,Gy]at heq;rw[<- heq]at hR;exact⟨_,rfl,k pl ps H2 s2 hpl el hR⟩
theorem kW{k:Int}(h0:0<=k)(h:k<2^12):Bits 9000 k:=Bits.mono (j:=12) (by show k.natAbs<2^12;omega) (by decide)
noncomputable def lsg(t b:Int)(xss:List (List Int)):List Int:=xss.map λp=>sg (lv t b p)
theorem A3{t b:Int}{xss:List (List Int)}{i:Nat}{xs:List Int}(h:xss[i]?=some xs):lsg t b (xss.take (i+1))=lsg t b (xss.take i)++[sg (lv t b xs)]:=by unfold lsg;rw[Gj,h,Fk];rfl
theorem A4(t b:Int)(xss:List (List Int)):∀s∈lsg t b xss,s.natAbs<=1:=λs hs=>by obtain⟨x,_,rfl⟩:=Fe.mp hs;exact lg _
theorem nU{t b:Int}(bt:Bits 400 t)(bb:Bits 400 b):∀{l:List Int},AllB 95000 l->Bits (95001+401*l.length) (lv t b l)
 | [],_=>by refine Bits.mono (j:=1) ?_ (by omega);show(0:Int).natAbs<2^1;decide
 |v::l,h=>by
  show Bits _ (v*b^l.length+t*lv t b l);have h1:=h v (Fl ..);have h2:=nU bt bb (l:=l) λx hx=>h x (Fi _ hx)
  have e1:=(h1.mul (gb bb l.length)).mono (k:=95001+401*l.length+400) (by omega);have e2:=(bt.mul h2).mono (k:=95001+401*l.length+400) (by omega);exact(e1.add e2).mono (by rw[Ff];omega)
theorem xI{b y:Int}(hb:b=1\/b=0\/b = -1):b*y<0↔sg y*b<0:=by rcases rC y with⟨a1,a2⟩ |⟨a1,a2⟩ |⟨a1,a2⟩<;>rcases hb with rfl |rfl |rfl<;>rw[a2]<;>omega
def qK:Sp:=λvs H Q _=>∃(l p:Addr) (ps:List Addr) (xss:List (List Int)) (t b:Int),vs=[.ref l,.ref p]/\H l=some (.lst (ps.map V.ref))/\H p=some (.tup ([t,b].map V.int))/\RwH H ps xss/\Bits 400 t/\Bits 400 b/\(∀xs∈xss,xs.length<=20/\AllB 95000 xs)/\Q (.int (chS (lsg t b xss)).1) H
theorem Am(F:Fun K "_law_changes" "_law_changes" mH f fd)(T:Txt K mg):FnOk P w K mg base CX0 1 f fd ["_law_row_here","_law_spot"] qK:=by
 refine F.ok dA (λvs H Q E h=>?_) (λcdv A outer s H vs Q E hr h=>?_)
 ·obtain⟨l,p,ps,xss,t,b,rfl,_⟩:=h;rfl
 ·obtain⟨l,sp,ps,xss,t,b,rfl,hL,hP,hR,bt,bb,hb,k⟩:=h
  refine⟨_,(ah (aj 2 dA af)
   (ah (aj 3 dA af)
   (ah (bM PassesOwn.never rfl (bY (K:=K) rfl (pv 0)) (bE 4 dA)
     (ah (aj 5 dA af)
       (ah (aj 6 dA af)
       (ah (bM PassesOwn.never rfl (sV rfl T.reversed_ (aa (pv 4) ag)) (bE 7 dA)
         (ah (aj 5 dA (ai bC (ai aE (pv 5) (aK K (pv 1) af)) (ai aE (pv 7) (pv 6))))
           (al (aj 6 dA (ai aE (pv 6) (aK K (pv 1) af))))))
       (ah (aj 2 dA (ai bC (pv 2) (fj kh (by rfl) T.int_ PyProof.Rows.boot_int (aa (eE cH (ai aE (pv 3) (pv 5)) af) ag))))
       (al (aR (aG fW (pv 5) af)
         (al (aj 3 dA (ai aU (fj kh (by rfl) T.int_ PyProof.Rows.boot_int (aa (eE b8 (pv 5) af) ag)) (fj kh (by rfl) T.int_ PyProof.Rows.boot_int (aa (eE cH (pv 5) af) ag)))))
         aQ)))))))
   (al (aA (pv 2)))))),?_⟩
  have hpl:(ps.map V.ref).length=xss.length:=by rw[Fc,hR.1]
  refine ar ?_;refine ar ?_;refine⟨_,rfl,l,rfl,⟨_,SqL.of hL⟩,dY (K:=K) (a:=l) (xs:=ps.map V.ref) (λi σ' H'=>∃(z4 z5 z6 z7:Option V),σ'=[some (.ref l),some (.ref sp),some (.int (chS (lsg t b (xss.take i))).1),some (.int (chS (lsg t b (xss.take i))).2),z4,z5,z6,z7]/\H=H') ⟨none,none,none,none,rfl,rfl⟩ ?_ ?_ ?_⟩
  ·rintro i σ' H' _ ⟨z4,z5,z6,z7,rfl,rfl⟩;exact SqL.of hL
  ·rintro i x σ' H1 hi ⟨z4,z5,z6,z7,rfl,rfl⟩;obtain⟨p,xs,rfl,ep,ex,hp,hlt⟩:=hR.of_get hi;obtain⟨hx1,hx2⟩:=hb xs (List.mem_of_getElem? ex);have hl:(xs.map V.int).length=xs.length:=Fc _;show bV (eO _ (dH 5)) _ _ _ _;refine ar ?_;refine ar ?_;refine iB (λσ' H'=>∃z7:Option V,σ'=[some (.ref l),some (.ref sp),some (.int (chS (lsg t b (xss.take i))).1),some (.int (chS (lsg t b (xss.take i))).2),some (.ref p),some (.int (lv t b xs)),some (.int (b^xs.length)),z7]/\H=H') ?_ ?_
   case refine_2 =>
    intro rest;refine⟨_,rfl,p,_,rfl,SqL.of hp,uB (K:=K) (a:=p) (xs:=xs.map V.int) (λj σ' H'=>∃z:Option V,σ'=[some (.ref l),some (.ref sp),some (.int (chS (lsg t b (xss.take i))).1),some (.int (chS (lsg t b (xss.take i))).2),some (.ref p),some (.int (lv t b (xs.drop (xs.length-j)))),some (.int (b^j)),z]/\H=H') ⟨z7,?_,rfl⟩ ?_ ?_ ?_⟩
    ·rw[GO,List.drop_length,Gg];rfl
    ·rintro j σ' H' _ ⟨z,rfl,rfl⟩;exact SqL.of hp
    ·rintro j v σ' H' hj hv ⟨z,rfl,rfl⟩;rw[hl]at hj hv;obtain⟨c,ec,rfl,hc,_⟩:=cK hv;have hj':j<xs.length:=hj;have e1:xs.length-(j+1)=xs.length-1-j:=by omega
     have hd:=Cw t b (l:=xs) (n:=xs.length-1-j) (by omega);have e2:xs.length-1-j+1=xs.length-j:=by omega
     have e3:xs.length-(xs.length-j)=j:=by omega
     rw[e2,e3,oM ec]at hd;have bs:=nU bt bb (l:=xs.drop (xs.length-j)) λy hy=>hx2 y (List.mem_of_mem_drop hy)
     rw[Hm]at bs;have bp:=gb bb j;show bV _ _ _ _ _;refine ar ⟨_,rfl,_,rfl,sp,_,_,_,rfl,rfl,SqT.of hP,rfl,_,_,rfl,rfl,⟨bs.mono (by omega),bt.mono⟩,_,rfl,_,rfl,_,_,rfl,rfl,⟨(hx2 c hc).mono,bp.mono (by omega)⟩,_,_,rfl,rfl,?_⟩;refine ci ⟨_,rfl,_,rfl,sp,_,_,_,rfl,rfl,SqT.of hP,rfl,_,_,rfl,rfl,⟨bp.mono (by omega),bb.mono⟩,?_⟩;refine⟨some (.int c),?_,rfl⟩;rw[e1,hd,Fw b j,Int.add_comm,FO t];rfl
    ·rintro σ' H' ⟨z,rfl,rfl⟩;rw[hl,GZ,Hx];exact rest _ _ ⟨z,rfl,rfl⟩
   rintro σ' H' ⟨z7',rfl,rfl⟩;have bv:=nU bt bb hx2;obtain⟨c1,c2,c3⟩:=vy _ (A4 t b (xss.take i));rw[A3 ex,oJ];generalize lv t b xs=here at bv ⊢
   generalize chS (lsg t b (xss.take i))=z at c1 ⊢
   obtain⟨m,bf⟩:=z;have hbf:bf=1\/bf=0\/bf = -1:=by have:bf.natAbs<=1:=c1;omega
   unfold chF;dsimp only
   have bbf:Bits 1000000 bf:=nu c1;have hsl:=xI (y:=here) hbf;refine iB (λσ' H'=>σ'=[some (.ref l),some (.ref sp),some (.int (if sg here*bf<0 then m+1 else m)),some (.int bf),some (.ref p),some (.int here),some (.int (b^xs.length)),z7']/\H=H') ?_ ?_
   case refine_2 =>
    intro rest;refine ci ⟨_,rfl,_,rfl,_,rfl,_,_,rfl,rfl,⟨bbf,bv.mono (by omega)⟩,_,_,rfl,rfl,.inr ⟨_,rfl,_,_,rfl,rfl,rest _ _ ⟨?_,rfl⟩⟩⟩;by_cases hc:bf*here<0
    ·rw[decide_eq_true hc,if_pos (hsl.mp hc)];rfl
    ·rw[decide_eq_false hc,if_neg (λz=>hc (hsl.mpr z))];show[some (V.ref l),some (V.ref sp),some (V.int (m+0)),some (V.int bf),some (V.ref p),some (V.int here),some (V.int (b^xs.length)),z7']=_;rw[FT]
   rintro σ' H' ⟨rfl,rfl⟩;refine iA ⟨_,rfl,_,_,rfl,rfl,_,rfl,dN (λh1=>?_) (λh1=>?_)⟩
   ·have h1':¬here=0:=h1;have hz:¬sg here=0:=λz=>h1' ((rA here).mp z)
    refine ci ⟨_,rfl,_,_,rfl,rfl,.inr ⟨_,rfl,_,rfl,_,_,rfl,rfl,.inr ⟨_,rfl,_,_,rfl,rfl,?_⟩⟩⟩;refine⟨some (.ref p),some (.int here),some (.int (b^xs.length)),z7',?_,rfl⟩;rw[if_neg hz];rcases rC here with⟨a1,a2⟩ |⟨a1,a2⟩ |⟨a1,a2⟩
    ·rw[decide_eq_false (show ¬here>0 by omega),decide_eq_true (show here<0 by omega),a2];rfl
    ·exact absurd a1 h1'
    ·rw[decide_eq_true (show here>0 by omega),decide_eq_false (show ¬here<0 by omega),a2];rfl
   ·have h1':here=0:=h1;have hz:sg here=0:=(rA here).mpr h1';refine⟨some (.ref p),some (.int here),some (.int (b^xs.length)),z7',?_,rfl⟩;rw[if_pos hz]
  ·rintro σ' H' ⟨z4,z5,z6,z7,rfl,rfl⟩;rw[hpl,FQ];exact⟨_,rfl,k⟩
def qU:Sp:=λvs H Q _=>∃c:Int,vs=[.int c]/\∀r:List Int,(r=[]\/FlatP r)->mkL H Q r
theorem Ap(F:Fun K "_law_any" "_law_any" mK f fd)(T:Txt K mg)(pb:Cal P w K mg base 1 "_law_trim" ["_law_row_here"] (gs K) Cj B4)(DP:Cal P w K mg base 34 "_law_flat" ["_law_kp"] qO E5 Ep):FnOk P w K mg base CX0 35 f fd ["_law_cell"] qU:=by
 refine F.ok gD (λvs H Q E h=>?_) (λcdv A outer s H vs Q E hr h=>?_)
 ·obtain⟨c,rfl,_⟩:=h;rfl
 ·obtain⟨c,rfl,k⟩:=h;have big:=sizeLine_eq
  refine⟨_,(ah (aj 1 gD (bK ag))
   (ah (aj 2 gD (ai fX (pv 0) af))
   (ah (bM PassesOwn.never rfl (iH rfl T.range_ (aa (ai bC af (ai cb (pv 0) af)) ag)) (bE 3 gD)
     (ah (dQ (dS (pv 1) (aa (ai aU (ai cb (pv 2) af) af) ag)))
       (al (aj 2 gD (ai fX (pv 2) af)))))
   (ah (aj 1 gD (au pb hr (aa (pv 1) ag)))
   (ah (aR (aG cp (ba K T.len_ (aa (pv 1) ag)) af)
     (al (aA (bK ag)))
     aQ)
   (al (aA (au DP hr (aa (pv 1) ag))))))))),?_⟩
  refine ar ⟨Fj _,λpm hpm=>?_⟩;have s1:Same H (upd H pm (.lst [])):=Same.upd_new hpm;have q1:upd H pm (.lst []) pm=some (.lst []):=aq;generalize upd H pm (.lst [])=H1 at s1 q1 ⊢
  refine ar ⟨_,rfl,_,_,rfl,rfl,⟨by show(0:Int)<6;decide,kW (by decide) (by decide)⟩,?_⟩;obtain⟨m1,m2⟩:=fm (x:=c) (m:=6) (by decide);refine iB (λσ' H'=>∃(ms:List Int) (z2 z3:Option V),σ'=[some (.int c),some (.ref pm),z2,z3]/\Same H H'/\H' pm=some (.lst (ms.map V.int))/\ms.length<=6/\∀v∈ms,-50<=v/\v<=50) ?_ ?_
  case refine_2 =>
   intro rest;refine⟨_,rfl,_,_,rfl,rfl,(by show(0:Int)<6;decide),_,_,rfl,rfl,_,rfl,by omega,by omega,ou (lo:=0) (λi σ' H'=>∃(ms:List Int) (lf:Int) (z3:Option V),σ'=[some (.int c),some (.ref pm),some (.int lf),z3]/\Same H H'/\H' pm=some (.lst (ms.map V.int))/\ms.length=i/\∀v∈ms,-50<=v/\v<=50) ⟨[],c/6,none,rfl,s1,q1,rfl,(λv hv=>nomatch hv)⟩ ?_ ?_⟩
   ·rintro i σ' H' hi ⟨ms,lf,z3,rfl,sm,em,hml,bm⟩;obtain⟨d1,d2⟩:=fm (x:=lf) (m:=101) (by decide);show bV _ _ _ _ _;refine gH ⟨_,rfl,.inl ⟨rfl,_,SqL.of em⟩,_,rfl,_,_,rfl,rfl,(by show(0:Int)<101;decide),_,_,rfl,rfl,pm,_,_,rfl,rfl,em,by rw[Fc];omega,?_⟩;refine ci ⟨_,rfl,_,_,rfl,rfl,⟨by show(0:Int)<101;decide,kW (by decide) (by decide)⟩,?_⟩
    refine⟨ms++[lf%101-50],lf/101,_,rfl,cT sm hpm,?_,by rw[Fd];show ms.length+1=_;omega,λv hv=>by
     rcases Fq.mp hv with z |z
     ·exact bm v z
     ·rw[Fv.mp z];omega⟩
    rw[aq,AW]
   ·rintro σ' H' ⟨ms,lf,z3,rfl,sm,em,hml,bm⟩;exact rest _ _ ⟨ms,_,_,rfl,sm,em,by omega,bm⟩
  rintro σ' H2 ⟨ms,z2,z3,rfl,s2,em,hml,bm⟩;refine ar ⟨_,rfl,pm,ms,rfl,SqL.of em,λp3 H3 s3 hp3 e3=>?_⟩;have t3:=s2.trans s3;have lt:=jS ms;refine bQ ⟨_,rfl,p3,_,rfl,.inl (SqL.of e3),_,_,rfl,rfl,_,rfl,aM (λh0=>?_) (λh0=>?_)⟩
  ·refine⟨Fj _,λp4 hp4=>?_⟩;exact k [] (.inl rfl) p4 _ (t3.then_new hp4) (t3.free hp4) aq
  ·have hne:trim ms≠[]:=λz=>by refine h0 ?_;rw[z];rfl
   refine cz ⟨_,rfl,p3,trim ms,rfl,e3,dw ms,hne,by omega,λv hv=>bm v (tZ hv),λr hr p4 H4 s4 hp4 e4=>?_⟩;exact k r (.inr hr) p4 H4 (t3.trans s4) (t3.free hp4) e4
theorem CQ{ls:List (List Int)}{i:Nat}{l:List Int}{t n t' n':Int}(h:ls[i]?=some l):cG (ls.take (i+1)) t n t' n'=cG (ls.take i) t n t' n'+(if 0<aV l t n/\aV l t' n'<=0 then 1 else 0):=by unfold cG;rw[Gj,h,Fk,Hw];simp
def eP:Sp:=λvs H Q _=>∃(a pl ph:Addr) (ws:List Addr) (t n t' n':Int),vs=[.ref a,.ref pl,.ref ph]/\H pl=some (.tup ([t,n].map V.int))/\H ph=some (.tup ([t',n'].map V.int))/\H a=some (.lst (ws.map V.ref))/\Bits 400 t/\Bits 400 n/\Bits 400 t'/\Bits 400 n' /\
 ((∃ls:List (List Int),TuH H ws ls/\(∀l∈ls,SpB l)/\Q (.int (cG ls t n t' n')) H)\/(∃xss:List (List Int),RwH H ws xss/\xss≠[]/\(∀xs∈xss,xs.length<=20/\AllB 95000 xs)/\Q (.int ((chS (lsg t n xss)).1-(chS (lsg t' n' xss)).1)) H))
theorem Ae(F:Fun K "_law_many" "_law_many" mB f fd)(T:Txt K mg)(wk:Cal P w K mg base 1 "_law_changes" ["_law_row_here","_law_spot"] qK E8 Et)(we:Cal P w K mg base 2 "_law_side" ["_law_spot","_law_top","_law_bottom"] qv ET Eg):FnOk P w K mg base CX0 3 f fd ["_law_spots","_law_low","_law_high"] eP:=by
 refine F.ok iw (λvs H Q E h=>?_) (λcdv A outer s H vs Q E hr h=>?_)
 ·obtain⟨a,pl,ph,ws,t,n,t',n',rfl,_⟩:=h;rfl
 ·obtain⟨a,pl,ph,ws,t,n,t',n',rfl,hPl,hPh,hA,bt,bn,bt',bn',hc⟩:=h
  refine⟨_,(ah (aR (PW.pt (gM (aG b8 (ba K T.len_ (aa (pv 0) ag)) af) (gL (eD (bZ (ic (K:=K) rfl) (by rfl) T.isinstance_ PyProof.Rows.boot_isinstance (aa (bD K (pv 0) af) (aa (iI (v:=.ty "list") (by rfl) T.list_ PyProof.Rows.boot_list (by rfl)) ag)))))))
   (al (aA (ai aU (au wk hr (aa (pv 0) (aa (pv 1) ag))) (au wk hr (aa (pv 0) (aa (pv 2) ag))))))
   aQ)
   (ah (aj 3 iw af)
   (ah (bM PassesOwn.never rfl (bY (K:=K) rfl (pv 0)) (bE 4 iw)
     (ah (aj 5 iw (au we hr (aa (pv 4) (aa (aK K (pv 1) af) (aa (aK K (pv 1) af) ag)))))
       (al (aR (PW.pt (gM (aG b8 (pv 5) af) (gL (aG tf (au we hr (aa (pv 4) (aa (aK K (pv 2) af) (aa (aK K (pv 2) af) ag)))) af))))
         (al (aj 3 iw (ai bC (pv 3) af)))
         aQ))))
   (al (aA (pv 3)))))),?_⟩
  rcases hc with⟨ls,hT,hF,k⟩ |⟨xss,hR,hne,hb,k⟩
  ·
   have hpl:(ws.map V.ref).length=ls.length:=by rw[Fc,hT.1]
   refine dO (λσ' H'=>σ'=[some (.ref a),some (.ref pl),some (.ref ph),none,none,none]/\H=H') ?_ ?_
   case refine_2 =>
    intro rest;refine iC ⟨_,rfl,a,_,rfl,.inl (SqL.of hA),_,_,rfl,rfl,_,rfl,aM (λh0=>?_) (λ_=>?_)⟩
    ·have h0':0<((ws.map V.ref).length:Int):=h0;have h1:0<ws.length:=by rw[Fc]at h0';omega
     have h2:0<ls.length:=by rw[<- hT.1];exact h1
     have hq:=hT.2 0 ws[0] ls[0] (List.getElem?_eq_getElem h1) (List.getElem?_eq_getElem h2);have e0:atI (ws.map V.ref) 0=some (.ref ws[0]):=(show atI _ ((0:Nat):Int)=_ from fE (by rw[List.getElem?_map,List.getElem?_eq_getElem h1];rfl));refine iD (fS ⟨_,rfl,a,_,_,_,rfl,rfl,SqL.of hA,e0,g7 (.tup hq) (k:=false) (by rfl) ⟨_,rfl,rest _ _ ⟨rfl,rfl⟩⟩⟩)
    ·exact cS (rest _ _ ⟨rfl,rfl⟩)
   rintro σ' H' ⟨rfl,rfl⟩;refine ar ?_;refine⟨_,rfl,a,rfl,⟨_,SqL.of hA⟩,dY (K:=K) (a:=a) (xs:=ws.map V.ref) (λi σ' H'=>∃(z4 z5:Option V),σ'=[some (.ref a),some (.ref pl),some (.ref ph),some (.int (cG (ls.take i) t n t' n')),z4,z5]/\H=H') ⟨none,none,rfl,rfl⟩ ?_ ?_ ?_⟩
   ·rintro i σ' H' _ ⟨z4,z5,rfl,rfl⟩;exact SqL.of hA
   ·rintro i x σ' H' hi ⟨z4,z5,rfl,rfl⟩;obtain⟨q,l,rfl,eq,el,hq,hlt⟩:=hT.of_get hi;have hl:=hF l (List.mem_of_getElem? el);rw[CQ el];show bV _ _ _ _ _;refine ar ⟨_,rfl,_,rfl,pl,_,_,_,rfl,rfl,SqT.of hPl,rfl,_,rfl,pl,_,_,_,rfl,rfl,SqT.of hPl,rfl,q,l,t,n,rfl,hq,hl,bt.mono,bn.mono,?_⟩;refine iA (iC ⟨_,rfl,_,_,rfl,rfl,_,rfl,aM (λc1=>?_) (λc1=>?_)⟩)
    ·refine⟨_,rfl,_,rfl,ph,_,_,_,rfl,rfl,SqT.of hPh,rfl,_,rfl,ph,_,_,_,rfl,rfl,SqT.of hPh,rfl,q,l,t',n',rfl,hq,hl,bt'.mono,bn'.mono,_,_,rfl,rfl,_,rfl,aM (λc2=>?_) (λc2=>?_)⟩
     ·refine ci ⟨_,rfl,_,_,rfl,rfl,some (.ref q),some (.int (aV l t n)),?_,rfl⟩;rw[if_pos ⟨c1,c2⟩];rfl
     ·refine⟨some (.ref q),some (.int (aV l t n)),?_,rfl⟩;rw[if_neg (λz=>c2 z.2),FT];rfl
    ·refine cS ⟨some (.ref q),some (.int (aV l t n)),?_,rfl⟩;rw[if_neg (λz=>c1 z.1),FT];rfl
   ·rintro σ' H' ⟨z4,z5,rfl,rfl⟩;rw[hpl,FQ];exact⟨_,rfl,k⟩
  ·
   have h1:0<ws.length:=by rw[hR.1];exact Fh.mpr hne
   have h2:0<xss.length:=Fh.mpr hne;have hq:=hR.2 0 ws[0] xss[0] (List.getElem?_eq_getElem h1) (List.getElem?_eq_getElem h2);have e0:atI (ws.map V.ref) 0=some (.ref ws[0]):=(show atI _ ((0:Nat):Int)=_ from fE (by rw[List.getElem?_map,List.getElem?_eq_getElem h1];rfl));refine bQ (iC ⟨_,rfl,a,_,rfl,.inl (SqL.of hA),_,_,rfl,rfl,_,rfl,aM (λ_=>?_) (λh0=>absurd (show((ws.map V.ref).length:Int)>0 by rw[Fc];omega) h0)⟩);refine iD (fS ⟨_,rfl,a,_,_,_,rfl,rfl,SqL.of hA,e0,g7 (.lst hq) (k:=true) (by rfl) ⟨_,rfl,ez ?_⟩⟩);exact⟨_,rfl,_,rfl,a,pl,ws,xss,t,n,rfl,hA,hPl,hR,bt,bn,hb,_,rfl,_,rfl,a,ph,ws,xss,t',n',rfl,hA,hPh,hR,bt',bn',hb,_,_,rfl,rfl,k⟩
def qL:Sp:=λvs H Q _=>∃(a:Addr) (ns:List Int),vs=[.ref a]/\H a=some (.lst (ns.map V.int))/\Tr ns/\ns≠[]/\ns.length<=100/\AllB 530 ns /\
 ∀(k:Nat) (H':Hp),isB (ns.take (ns.length-1)) (aJ ns).natAbs k->k<=531->Same H H'->Q (.int ((2^k:Nat):Int)) H'
theorem Ao(F:Fun K "_law_bound" "_law_bound" mJ f fd)(T:Txt K mg):FnOk P w K mg base CX0 1 f fd ["_law_kp"] qL:=by
 refine F.ok jr (λvs H Q E h=>?_) (λcdv A outer s H vs Q E hr h=>?_)
 ·obtain⟨a,ns,rfl,_⟩:=h;rfl
 ·obtain⟨a,ns,rfl,hA,ht,hne,hn,hb,k⟩:=h;have big:=sizeLine_eq
  refine⟨_,(ah (aj 1 jr af)
   (ah (bM PassesOwn.never rfl (bY (K:=K) rfl (fh (eR (K:=K) rfl) (pv 0) fe (fb (bJ bI af)))) (bE 2 jr)
     (al (dB PassesOwn.never (aG cH (ai aE (ai aU (pv 1) af) (bZ dq (by rfl) T.abs_ PyProof.Rows.boot_abs (aa (bD K (pv 0) (bJ bI af)) ag))) (bZ dq (by rfl) T.abs_ PyProof.Rows.boot_abs (aa (pv 2) ag)))
       (al (aj 1 jr (ai aE af (pv 1)))))))
   (al (aA (pv 1))))),?_⟩
  have hl0:aJ ns≠0:=by obtain⟨r,x,rfl⟩:=(bX ns).resolve_left hne;rw[cu];exact tr_snoc.mp ht
  have atl:=vK hne
  have bL:Bits 530 (((aJ ns).natAbs:Nat):Int):=by obtain⟨r,x,rfl⟩:=(bX ns).resolve_left hne;rw[cu];exact(hb x (by simp)).of_le (by omega)
  generalize aJ ns=ll at atl k hl0 bL
  generalize hL:ll.natAbs=L at k bL
  have hL1:1<=L:=by omega
  refine ar ?_;refine⟨_,rfl,_,rfl,_,rfl,a,_,rfl,SqL.of hA,λp1 hp1=>?_⟩;rw[ia,vg];have s1:Same H (upd H p1 (.lst ((ns.take (ns.length-1)).map V.int))):=Same.upd_new hp1;have q1:upd H p1 (.lst ((ns.take (ns.length-1)).map V.int)) p1=some (.lst ((ns.take (ns.length-1)).map V.int)):=aq;have bO:AllB 530 (ns.take (ns.length-1)):=λx hx=>hb x (Hj hx)
  generalize ns.take (ns.length-1)=os at k s1 q1 bO ⊢
  generalize upd H p1 (.lst (os.map V.int))=H1 at s1 q1 ⊢
  have hA1:=s1 _ _ hA
  have small:∀(j:Nat) (x:Int),x∈os->(2^j-1)*L<x.natAbs->j<=530:=λj x hx h=>by
   have h1:2^j-1<=(2^j-1)*L:=Nat.le_mul_of_pos_right _ hL1;have h2:x.natAbs<2^530:=bO x hx;have h3:2^j<2^531:=by rw[GC 2 530];omega
   have:=(Hk (a:=2) (by decide)).mp h3;omega
  refine⟨p1,rfl,⟨_,SqL.of q1⟩,dY (K:=K) (a:=p1) (xs:=os.map V.int) (λi σ' H'=>∃(k0:Nat) (z2:Option V),σ'=[some (.ref a),some (.int ((2^k0:Nat):Int)),z2]/\H1=H'/\isB (os.take i) L k0) ⟨0,none,rfl,rfl,(λx hx=>by simp at hx),λj hj=>absurd hj (HS _)⟩ ?_ ?_ ?_⟩
  ·rintro i σ' H' _ ⟨k0,z2,rfl,rfl,_⟩;exact SqL.of q1
  ·rintro i x σ' H' hi ⟨k0,z2,rfl,rfl,hB⟩;obtain⟨c,ec,rfl,hc,et⟩:=cK hi;have bc:=bO c hc;refine⟨λm σ' H'=>∃k1:Nat,σ'=[some (.ref a),some (.int ((2^k1:Nat):Int)),some (.int c)]/\H1=H'/\532-k1=m/\(∀x∈os.take i,x.natAbs<=(2^k1-1)*L)/\∀j,j<k1->∃x∈os.take i++[c],(2^j-1)*L<x.natAbs,⟨_,k0,rfl,rfl,rfl,hB.1,λj hj=>by obtain⟨x,hx,h⟩:=hB.2 j hj;exact⟨x,Gq _ hx,h⟩⟩,?_⟩;rintro m σ' H' ⟨k1,rfl,rfl,rfl,h1,h2⟩
   have hk1:k1<=531:=by
    rcases HQ k1 with z |z
    ·omega
    ·obtain⟨x,hx,h⟩:=h2 (k1-1) (by omega)
     have:x∈os:=by
      rcases Fq.mp hx with w |w
      ·exact Hj w
      ·rw[Fv.mp w];exact hc
     have:=small _ x this h;omega
   have hp:1<=2^k1:=GY (by decide)
   have bk:Bits 540 ((2^k1:Nat):Int):=by show((2^k1:Nat):Int).natAbs<_;rw[FU];exact(Hk (a:=2) (by decide)).mpr (by omega)
   have bk1:Bits 540 (((2^k1:Nat):Int)-1):=bk.of_le (by omega)
   have cast:(((2^k1:Nat):Int)-1)*(L:Int)=(((2^k1-1)*L:Nat):Int):=by rw[Hq,Int.natCast_sub hp];rfl
   refine⟨_,rfl,_,_,rfl,rfl,_,rfl,_,rfl,a,_,_,_,rfl,rfl,SqL.of hA1,atl,_,rfl,?_⟩;rw[kn,hL];refine⟨_,_,rfl,rfl,⟨bk1.mono,bL.mono⟩,_,rfl,_,rfl,?_⟩;rw[kn];refine⟨_,_,rfl,rfl,_,rfl,?_⟩;rw[cast];refine aM (λhlt=>?_) (λhge=>?_)
   ·have hlt':(2^k1-1)*L<c.natAbs:=Int.ofNat_lt.mp hlt;have hk2:=small k1 c hc hlt';refine⟨_,λ_ _ h=>h,?_⟩;refine⟨_,rfl,_,_,rfl,rfl,⟨Bits.mono (j:=2) (by show(2:Int).natAbs<2^2;decide) (by decide),bk.mono⟩,?_⟩;have e2:(2:Int)*((2^k1:Nat):Int)=((2^(k1+1):Nat):Int):=by rw[GC];omega
    refine⟨532-(k1+1),by omega,k1+1,by rw[<- e2];rfl,rfl,rfl,λx hx=>Fu (h1 x hx) (Ga _ (by rw[GC];omega)),λj hj=>?_⟩;by_cases ej:j=k1
    ·subst ej;exact⟨c,by simp,hlt'⟩
    ·exact h2 j (by omega)
   ·have hge':¬(2^k1-1)*L<c.natAbs:=λz=>hge (Int.ofNat_lt.mpr z)
    refine⟨k1,_,rfl,rfl,λx hx=>?_,λj hj=>?_⟩
    ·rw[et]at hx;rcases Fq.mp hx with z |z
     ·exact h1 x z
     ·rw[Fv.mp z];omega
    ·rw[et];exact h2 j hj
  ·rintro σ' H' ⟨k0,z2,rfl,rfl,hB⟩;rw[Fc,FQ]at hB;refine⟨_,rfl,k k0 H1 hB ?_ s1⟩;rcases HQ k0 with z |z
   ·omega
   ·obtain⟨x,hx,h⟩:=hB.2 (k0-1) (by omega);have:=small _ x hx h;omega
def SpotsOk(H:Hp)(ps:Addr)(kp:List Int):Prop:=∃ws:List Addr,H ps=some (.lst (ws.map V.ref)) /\
 ((∃ls:List (List Int),TuH H ws ls/\(∀l∈ls,SpB l)/\∀t n t' n':Int,0<n->0<n'->t*n'<t'*n->cG ls t n t' n'=vw kp (loR t n)-vw kp (loR t' n'))\/(∃xss:List (List Int),RwH H ws xss/\xss≠[]/\(∀xs∈xss,xs.length<=20/\AllB 95000 xs)/\∀t n:Int,0<n->(chS (lsg t n xss)).1=vw kp (loR t n)))
theorem SpotsOk.same{H H':Hp}{ps:Addr}{kp:List Int}(h:SpotsOk H ps kp)(s:Same H H'):SpotsOk H' ps kp:=by
 obtain⟨ws,e,h⟩:=h;refine⟨ws,s _ _ e,?_⟩;rcases h with⟨ls,a,b⟩ |⟨xss,a,b⟩
 ·exact .inl ⟨ls,a.same s,b⟩
 ·exact .inr ⟨xss,a.same s,b⟩
theorem SpotsOk.ask{H:Hp}{ps pl ph:Addr}{kp:List Int}{t n t' n':Int}{Q:VK}{E:XK}(h:SpotsOk H ps kp)(hl:H pl=some (.tup ([t,n].map V.int)))(hh:H ph=some (.tup ([t',n'].map V.int)))(b1:Bits 400 t)(b2:Bits 400 n)(b3:Bits 400 t')(b4:Bits 400 n')(hn:0<n)(hn':0<n')(lt:t*n'<t'*n)(q:Q (.int (vw kp (loR t n)-vw kp (loR t' n'))) H):eP [.ref ps,.ref pl,.ref ph] H Q E:=by
 obtain⟨ws,e,h⟩:=h;refine⟨ps,pl,ph,ws,t,n,t',n',rfl,hl,hh,e,b1,b2,b3,b4,?_⟩;rcases h with⟨ls,a,b,c⟩ |⟨xss,a,b,c,d⟩
 ·exact .inl ⟨ls,a,b,by rw[c t n t' n' hn hn' lt];exact q⟩
 ·exact .inr ⟨xss,a,b,c,by rw[d t n hn,d t' n' hn'];exact q⟩
theorem oy{kb d:Nat}{l1 l2 h1 h2:Int}(h:Dya (2^kb) d l1 l2 h1 h2)(hk:kb<=152)(hd:d<=196):Bits 350 l1/\Bits 350 l2/\Bits 350 h1/\Bits 350 h2:=by obtain⟨⟨a,b⟩,c,e⟩:=h.bits;have hp:2^(kb+d)<2^350:=(Hk (by decide)).mpr (by omega);exact⟨Gf a hp,Gf b hp,Gf c hp,Gf e hp⟩
theorem m9{k n:Nat}(h:k<n):Bits n ((2:Int)^k):=by show((2:Int)^k).natAbs<2^n;rw[GQ];exact(Hk (by decide)).mpr h
def qM:Sp:=λvs H Q _=>∃(pl ph ps:Addr) (kp:List Int) (kb d:Nat) (l1 l2 h1 h2:Int),vs=[.ref pl,.ref ph,.int ((2^kb:Nat):Int),.ref ps]/\H pl=some (.tup ([l1,l2].map V.int))/\H ph=some (.tup ([h1,h2].map V.int))/\SpotsOk H ps kp/\kb<=152/\Dya (2^kb) d l1 l2 h1 h2/\d<=196/\Par kp (2^kb) d l1 l2 h1 h2/\vw kp (loR l1 l2)-vw kp (loR h1 h2)=1/\∀H',Same H H'->Q (.bl true) H'
theorem Ag(F:Fun K "_law_is_cell" "_law_is_cell" mD f fd)(T:Txt K mg)(ky:Cal P w K mg base 3 "_law_many" ["_law_spots","_law_low","_law_high"] eP Co B9):FnOk P w K mg base CX0 4 f fd ["_law_low","_law_high","_law_wide","_law_spots"] qM:=by
 refine F.ok eu (λvs H Q E h=>?_) (λcdv A outer s H vs Q E hr h=>?_)
 ·obtain⟨pl,ph,ps,kp,kb,d,l1,l2,h1,h2,rfl,_⟩:=h;rfl
 ·obtain⟨pl,ph,ps,kp,kb,d,l1,l2,h1,h2,rfl,hL,hH,hS,hk,dy,hd,hpar,hone,k⟩:=h;have big:=sizeLine_eq;have eB:((2^kb:Nat):Int)=(2:Int)^kb:=by rw[Hv];rfl
  rw[eB];obtain⟨b1,b2,b3,b4⟩:=oy dy hk hd;have B0:(0:Int)<2^kb:=Gb (by decide);have bB:Bits 153 ((2:Int)^kb):=m9 (by omega);have b22:Bits 3 (2:Int):=by show(2:Int).natAbs<2^3;decide
  have b4':Bits 3 (4:Int):=by show(4:Int).natAbs<2^3;decide
  refine⟨_,(ah (aR (aG fW (au ky hr (aa (pv 3) (aa (pv 0) (aa (pv 1) ag)))) af)
   (al (aA dR))
   aQ)
   (ah (aj 4 eu af)
   (ah (bM PassesOwn.never rfl (iH rfl T.range_ (aa af ag)) (bE 5 eu)
     (ah (aj 6 eu (ai aU (ai aE (aK K (pv 1) af) (aK K (pv 0) af)) (ai aE (aK K (pv 0) af) (aK K (pv 1) af))))
       (ah (aR (aG cp (ai aE (pv 6) (pv 4)) (ai aE (ai aE (ai aE af (pv 2)) (aK K (pv 0) af)) (aK K (pv 1) af)))
         (ah (aj 7 eu (ai aE (ai bC (aK K (pv 0) af) (ai aE (pv 2) (aK K (pv 0) af))) (pv 4)))
           (ah (aR (aG fW (ai cb (pv 7) (ai aE (ai aE af (pv 2)) (aK K (pv 0) af))) af)
             (al (aA dR))
             aQ)
           (ah (aj 8 eu (ai fX (pv 7) (ai aE (ai aE af (pv 2)) (aK K (pv 0) af))))
           (ah (aj 9 eu (ck (aa (ai aU (ai aE (ai aE af (pv 2)) (ai fX (pv 8) af)) (ai aE (pv 2) (pv 4))) (aa (pv 4) ag))))
           (ah (aj 10 eu (ck (aa (ai bC (aK K (pv 9) af) (ai aE af (pv 2))) (aa (pv 4) ag))))
           (al (aA (y6 (nq (eE cp (pv 5) af) (jF (eE cp (pv 8) af))) (jF (eE b8 (au ky hr (aa (pv 3) (aa (pv 9) (aa (pv 10) ag)))) af))))))))))
         aQ)
       (al (aj 4 eu (ai aE af (pv 4)))))))
   (al (aA dR))))),?_⟩
  refine bQ ⟨_,rfl,_,rfl,_,rfl,mS ?_⟩;change eP [.ref ps,.ref pl,.ref ph] H _ _;refine hS.ask hL hH (b1.mono) (b2.mono) (b3.mono) (b4.mono) dy.l2p dy.h2p (dy.lt B0) ?_;rw[hone];refine⟨_,_,rfl,rfl,_,rfl,dN (λh=>absurd rfl h) (λ_=>?_)⟩;refine ar ?_;have w:=dy.width;have wp:0<h1*l2-l1*h2:=by have:=dy.lt B0;omega
  have bw:Bits 702 (h1*l2-l1*h2):=Bits.sub (k:=701) ((b3.mul b2).mono) ((b1.mul b4).mono);refine⟨_,rfl,by omega,by omega,ou (lo:=0) (λi σ' H'=>∃z5 z6 z7 z8 z9 z10:Option V,σ'=[some (.ref pl),some (.ref ph),some (.int (2^kb)),some (.ref ps),some (.int ((2:Int)^i)),z5,z6,z7,z8,z9,z10]/\H=H'/\i<=d) ⟨none,none,none,none,none,none,rfl,rfl,Fj _⟩ ?_ ?_⟩
  ·rintro i σ' H' hi ⟨z5,z6,z7,z8,z9,z10,rfl,rfl,hid⟩;have bi:Bits 197 ((2:Int)^i):=m9 (by omega);show bV _ _ _ _ _;refine ar ⟨_,rfl,ph,_,_,_,rfl,rfl,SqT.of hH,rfl,_,rfl,pl,_,_,_,rfl,rfl,SqT.of hL,rfl,_,_,rfl,rfl,⟨b3.mono,b2.mono⟩,_,rfl,pl,_,_,_,rfl,rfl,SqT.of hL,rfl,_,rfl,ph,_,_,_,rfl,rfl,SqT.of hH,rfl,_,_,rfl,rfl,⟨b1.mono,b4.mono⟩,_,_,rfl,rfl,?_⟩;have b2B:Bits 156 (2*(2:Int)^kb):=(b22.mul bB).mono;have b2Bl:Bits 506 (2*(2:Int)^kb*l2):=(b2B.mul b2).mono;refine bQ ⟨_,rfl,_,rfl,_,_,rfl,rfl,⟨bw.mono,bi.mono⟩,_,rfl,_,_,rfl,rfl,⟨b22.mono,bB.mono⟩,_,rfl,pl,_,_,_,rfl,rfl,SqT.of hL,rfl,_,_,rfl,rfl,⟨b2B.mono,b2.mono⟩,_,rfl,ph,_,_,_,rfl,rfl,SqT.of hH,rfl,_,_,rfl,rfl,⟨b2Bl.mono,b4.mono⟩,_,_,rfl,rfl,_,rfl,aM (λheq=>?_) (λhne=>?_)⟩
   ·
    have ed:i=d:=by
     have heq':(h1*l2-l1*h2)*2^i=2*2^kb*l2*h2:=heq;rw[FM (2*2^kb),<- w]at heq';have e:=Ha (Gc wp) heq'
     have e2:(2:Nat)^i=2^d:=by have:=congrArg Int.natAbs e;rw[GQ,GQ]at this;exact this
     exact(Nat.pow_right_inj (by decide)).mp e2
    subst ed;obtain⟨l2p,h2p,gl,gh,m,m0,m1,e1,e2⟩:=id dy;have D0:(0:Int)<2^i:=Gb (by decide);have div0:0<2*2^kb*l2:=FD (by omega) l2p;have ea:(l1+2^kb*l2)*2^i=m*(2*2^kb*l2):=by grind
    have bm:Bits 197 m:=bi.of_le (by omega);have bBl:Bits 504 (2^kb*l2):=(bB.mul b2).mono;have bs1:Bits 505 (l1+2^kb*l2):=Bits.add (k:=504) (b1.mono) bBl;refine ar ⟨_,rfl,pl,_,_,_,rfl,rfl,SqT.of hL,rfl,_,rfl,_,rfl,pl,_,_,_,rfl,rfl,SqT.of hL,rfl,_,_,rfl,rfl,⟨bB.mono,b2.mono⟩,_,_,rfl,rfl,_,rfl,_,_,rfl,rfl,⟨bs1.mono,bi.mono⟩,?_⟩;refine bQ ⟨_,rfl,_,rfl,_,_,rfl,rfl,⟨b22.mono,bB.mono⟩,_,rfl,pl,_,_,_,rfl,rfl,SqT.of hL,rfl,_,_,rfl,rfl,⟨b2B.mono,b2.mono⟩,_,_,rfl,rfl,div0,_,_,rfl,rfl,_,rfl,dN (λh=>absurd (show(l1+2^kb*l2)*2^i%(2*2^kb*l2)=0 by rw[ea];exact Int.mul_emod_left _ _) h) (λ_=>?_)⟩;refine ar ⟨_,rfl,_,rfl,_,_,rfl,rfl,⟨b22.mono,bB.mono⟩,_,rfl,pl,_,_,_,rfl,rfl,SqT.of hL,rfl,_,_,rfl,rfl,⟨b2B.mono,b2.mono⟩,_,_,rfl,rfl,⟨div0,b2Bl.mono⟩,?_⟩;have em:(l1+2^kb*l2)*2^i/(2*2^kb*l2)=m:=by rw[ea];exact Int.mul_ediv_cancel _ (Gc div0)
    dsimp only
    rw[em];have bm2:Bits 197 (m/2):=bm.of_le (by omega);have b4B:Bits 156 (4*(2:Int)^kb):=(b4'.mul bB).mono;have bst:Bits 356 (4*2^kb*(m/2)-2^kb*2^i):=Bits.sub (k:=355) ((b4B.mul bm2).mono) ((bB.mul bi).mono);refine ar ⟨_,rfl,_,_,rfl,rfl,⟨b4'.mono,bB.mono⟩,_,rfl,_,_,rfl,rfl,⟨by decide,b22.mono⟩,_,_,rfl,rfl,⟨b4B.mono,bm2.mono⟩,_,rfl,_,rfl,_,_,rfl,rfl,⟨bB.mono,bi.mono⟩,_,_,rfl,rfl,_,rfl,by show 2<=sizeLine;omega,λp1 hp1=>?_⟩;have s1:Same H (upd H p1 (.tup [V.int (4*2^kb*(m/2)-2^kb*2^i),V.int (2^i)])):=Same.upd_new hp1;have q1:upd H p1 (.tup [V.int (4*2^kb*(m/2)-2^kb*2^i),V.int (2^i)]) p1=some (.tup ([4*2^kb*(m/2)-2^kb*2^i,2^i].map V.int)):=aq;generalize upd H p1 (.tup [V.int (4*2^kb*(m/2)-2^kb*2^i),V.int (2^i)])=H1 at s1 q1 ⊢
    refine ar ⟨_,rfl,p1,_,_,_,rfl,rfl,SqT.of q1,rfl,_,rfl,_,_,rfl,rfl,⟨b4'.mono,bB.mono⟩,_,_,rfl,rfl,_,rfl,by show 2<=sizeLine;omega,λp2 hp2=>?_⟩;have s2:Same H1 (upd H1 p2 (.tup [V.int (4*2^kb*(m/2)-2^kb*2^i+4*2^kb),V.int (2^i)])):=Same.upd_new hp2;have q2:upd H1 p2 (.tup [V.int (4*2^kb*(m/2)-2^kb*2^i+4*2^kb),V.int (2^i)]) p2=some (.tup ([4*2^kb*(m/2)-2^kb*2^i+4*2^kb,2^i].map V.int)):=aq;generalize upd H1 p2 (.tup [V.int (4*2^kb*(m/2)-2^kb*2^i+4*2^kb),V.int (2^i)])=H2 at s2 q2 ⊢
    have t2:=s1.trans s2;refine cz (yp ?_);refine mV ⟨_,rfl,_,_,rfl,rfl,_,rfl,?_⟩;rcases hpar with rfl |⟨m',hm',hlr,hv⟩
    ·have em0:m=0:=by rw[Gg]at m1;omega
     rw[decide_eq_true (show(0:Int)+((0:Nat):Int)=0 by decide)];refine ez ⟨_,rfl,_,_,rfl,rfl,_,rfl,?_⟩;rw[decide_eq_true em0];exact ez (k _ t2)
    ·have emm:m/2=m':=by
      rcases hlr with z |z
      ·have q:(2*m*2^kb-2^kb*2^i)*l2=(4*m'*2^kb-2^kb*2^i)*l2:=by rw[<- e1,<- z]
       have q:=Ia (Gc l2p) q;have q2:(2*m-4*m')*2^kb=0:=by grind
       rcases Gh.mp q2 with y |y<;>omega
      ·have q:(2*(m+1)*2^kb-2^kb*2^i)*h2=(4*(m'+1)*2^kb-2^kb*2^i)*h2:=by rw[<- e2,<- z]
       have q:=Ia (Gc h2p) q;have q2:(2*(m+1)-4*(m'+1))*2^kb=0:=by grind
       rcases Gh.mp q2 with y |y<;>omega
     have es:4*m'*2^kb-2^kb*2^i=4*2^kb*(m/2)-2^kb*2^i:=by rw[emm];grind
     have ee:4*(m'+1)*2^kb-2^kb*2^i=4*2^kb*(m/2)-2^kb*2^i+4*2^kb:=by rw[emm];grind
     rw[es,ee]at hv
     have ask:∀(K':VK) (E':XK),K' (.int (vw kp (loR (4*2^kb*(m/2)-2^kb*2^i) (2^i))-vw kp (loR (4*2^kb*(m/2)-2^kb*2^i+4*2^kb) (2^i)))) H2->eP [.ref ps,.ref p1,.ref p2] H2 K' E':=λK' E' hK=>by refine SpotsOk.ask (hS.same t2) (s2 _ _ q1) q2 (bst.mono) (bi.mono) ((Bits.add (k:=356) bst (b4B.mono)).mono) (bi.mono) D0 D0 ?_ hK;exact HL (by omega) D0
     rcases HQ i with hi0 |hi0
     ·subst hi0;have em0:m=0:=by rw[Gg]at m1;omega
      rw[decide_eq_true (show(0:Int)+((0:Nat):Int)=0 by decide)];refine ez ⟨_,rfl,_,_,rfl,rfl,_,rfl,?_⟩;rw[decide_eq_true em0];exact ez (k _ t2)
     ·rw[decide_eq_false (show ¬(0:Int)+(i:Int)=0 by omega)];refine cS ⟨_,rfl,cS ?_⟩;refine⟨_,rfl,_,rfl,_,rfl,mS ?_⟩;change eP [.ref ps,.ref p1,.ref p2] H2 _ _;refine ask _ _ ⟨_,_,rfl,rfl,?_⟩;have hv':=Int.lt_of_lt_of_le (by decide:(1:Int)<2) hv;show Q (.bl (decide (_>(1:Int)))) H2;rw[decide_eq_true (show _>(1:Int)from hv')];exact k _ t2
   ·have hid':i<d:=by
     rcases GI i d with z |z
     ·exact z
     ·have:i=d:=by omega
      subst this;exact absurd (show(h1*l2-l1*h2)*2^i=2*2^kb*l2*h2 by rw[w,FM (2*2^kb)]) hne
    refine ci ⟨_,rfl,_,_,rfl,rfl,⟨b22.mono,bi.mono⟩,some (.int (0+(i:Int))),some (.int (h1*l2-l1*h2)),z7,z8,z9,z10,?_,rfl,hid'⟩;rw[show(2:Int)^(i+1)=2*2^i by rw[Fw,FO]];rfl
  ·rintro σ' H' ⟨z5,z6,z7,z8,z9,z10,rfl,rfl,hid⟩;exfalso;have:(200:Int).toNat<=d:=hid;have e:(200:Int).toNat=200:=rfl;omega
def qD(C:Addr):Sp:=λvs H Q _=>∃(p:Addr) (kp:List Int) (kb:Nat) (ys:List Cel),vs=[.ref p]/\H p=some (.lst (qs ys))/\kb<=152/\(∀y∈ys,FdH C H kp kb y)/\ys.length<=12000/\cO ys/\Q (.bl true) H
theorem zY(F:Fun K "_law_rising" "_law_rising" mt f fd)(T:Txt K mg)(R:RCI K mg C):FnOk P w K mg base CX0 1 f fd ["_law_found"] (qD C):=by
 refine F.ok jp (λvs H Q E h=>?_) (λcdv A outer s H vs Q E hr h=>?_)
 ·obtain⟨p,kp,kb,ys,rfl,_⟩:=h;rfl
 ·obtain⟨p,kp,kb,ys,rfl,hp,hk,hy,hl,hri,k⟩:=h;have hq:(qs ys).length=ys.length:=Fc _
  refine⟨_,(ah (bM PassesOwn.never rfl (sW rfl T.range_ (aa af (aa (ba K T.len_ (aa (pv 0) ag)) ag))) (bE 1 jp)
   (ah (aj 2 jp (aK K (bD K (pv 0) (ai aU (pv 1) af)) af))
     (ah (aj 3 jp (aK K (bD K (pv 0) (pv 1)) af))
     (al (aR (aG b8 (ai aE (bU (K:=K) rfl (pv 2) rfl) (bU (K:=K) rfl (pv 3) rfl)) (ai aE (bU (K:=K) rfl (pv 3) rfl) (bU (K:=K) rfl (pv 2) rfl)))
       (al (aA dR))
       aQ)))))
   (al (aA dR))),?_⟩
  refine⟨_,rfl,p,_,rfl,.inl (SqL.of hp),_,_,rfl,⟨by decide,by decide,by rw[hq];omega,by rw[hq];omega⟩,ou (lo:=1) (λi σ' H'=>∃z1 z2 z3:Option V,σ'=[some (.ref p),z1,z2,z3]/\H=H') ⟨none,none,none,rfl,rfl⟩ ?_ ?_⟩
  ·rintro i σ' H' hi ⟨z1,z2,z3,rfl,rfl⟩;have hi':i+1<ys.length:=by rw[hq]at hi;omega
   have at1:∀j:Nat,j<ys.length->∀v:Int,v=(j:Int)->∃y∈ys,ys[j]?=some y/\atI (qs ys) v=some (.ref y.q):=λj hj v e=>by subst e;exact⟨ys[j],Gs hj,List.getElem?_eq_getElem hj,fE (by unfold qs;rw[List.getElem?_map,List.getElem?_eq_getElem hj];rfl)⟩
   obtain⟨x,hx,ex,ax⟩:=at1 i (by omega) (1+(i:Int)-1) (by omega);obtain⟨y,hy',ey,ay⟩:=at1 (i+1) hi' (1+(i:Int)) (by omega);have fx:=hy x hx;have fy:=hy y hy';obtain⟨_,_,c3,c4⟩:=oy fx.dy hk fx.dd;obtain⟨d1,d2,_,_⟩:=oy fy.dy hk fy.dd;obtain⟨dx,hhi⟩:=fx.hi;obtain⟨dy,hlo⟩:=fy.lo
   have cr:x.h1*y.l2<=y.l1*x.h2:=by
    have hb:x.b<=y.a:=by obtain⟨h1,e1⟩:=List.getElem?_eq_some_iff.mp ex;obtain⟨h2,e2⟩:=List.getElem?_eq_some_iff.mp ey;have:=List.pairwise_iff_getElem.mp hri i (i+1) h1 h2 (by omega);rw[e1,e2]at this;exact this
    exact Int.not_lt.mp λz=>absurd hb (Rat.not_le.mpr ((jz fy.dy.l2p fx.dy.h2p).mpr z))
   show bV _ _ _ _ _;refine ar ⟨_,rfl,_,rfl,_,_,rfl,rfl,p,_,_,_,rfl,rfl,SqL.of hp,ax,x.q,_,_,_,rfl,rfl,SqT.of fx.tup,rfl,?_⟩;refine ar ⟨_,rfl,_,rfl,p,_,_,_,rfl,rfl,SqL.of hp,ay,y.q,_,_,_,rfl,rfl,SqT.of fy.tup,rfl,?_⟩;refine⟨_,rfl,x.hi,C,dx,_,_,rfl,hhi,R.cl,R.nT,eI _ _,_,rfl,y.lo,C,dy,_,_,rfl,hlo,R.cl,R.nB,dk _ _,_,_,rfl,rfl,⟨c3.mono,d2.mono⟩,_,rfl,y.lo,C,dy,_,_,rfl,hlo,R.cl,R.nT,eI _ _,_,rfl,x.hi,C,dx,_,_,rfl,hhi,R.cl,R.nB,dk _ _,_,_,rfl,rfl,⟨d1.mono,c4.mono⟩,_,_,rfl,rfl,_,rfl,aM (λh=>absurd (show x.h1*y.l2>y.l1*x.h2 from h) (by omega)) (λ_=>?_)⟩;exact⟨_,_,_,rfl,rfl⟩
  ·rintro σ' H' ⟨z1,z2,z3,rfl,rfl⟩;exact k
theorem kY:∀ss:List (List Int),(∀s∈ss,s≠[])->sl ss=dm ss+ss.length
 | [],_=>rfl
 |s::ss,h=>by
  have h1:=Fh.mpr (h s (Fl ..));have h2:=kY ss λx hx=>h x (Fi _ hx)
  show s.length+sl ss=(s.length-1)+dm ss+(ss.length+1);omega
theorem oA:∀ss:List (List Int),(∀s∈ss,2<=s.length)->ss.length<=dm ss
 | [],_=>Fg _
 |s::ss,h=>by
  have h1:=h s (Fl ..);have h2:=oA ss λx hx=>h x (Fi _ hx)
  rw[Ff,dm];omega
theorem uJ{f:List Int}(h:Fac 11 f):FacG f:=by obtain⟨u,e,b,rfl,h1,h2,h3,h4,h5,h6,h7⟩:=h;exact⟨u,e,b,rfl,by omega,by omega,by omega,by omega,h5,by omega,h7⟩
theorem lj{t b:Int}(hb:0<b)(l:List Int):sg (hv t b l)=sg (lv t b l):=by rw[oi,ei hb]
theorem xD{t b:Int}(hb:0<b)(xss:List (List Int)):sgv xss t b=lsg t b xss:=FE λx _=>lj hb x
theorem ya{kp:List Int}(tk:Tr kp)(nk:kp≠[]){t n:Int}(hn:0<n):(chS (lsg t n (kp::aI 8 (ae (slopeL kp)) (nxt (ae kp) (ae (slopeL kp)))))).1=vw kp (loR t n):=by
 obtain⟨g0,tF,nF,ecF⟩:=cy tk nk;have dJ:aI 9 (ae kp) (ae (slopeL kp))=ae kp::aI 8 (ae (slopeL kp)) (nxt (ae kp) (ae (slopeL kp))):=by show(if ae kp=[]then _ else _)=_;rw[if_neg nF]
 have key:lsg t n (aI 9 (ae kp) (ae (slopeL kp)))=lsg t n (kp::aI 8 (ae (slopeL kp)) (nxt (ae kp) (ae (slopeL kp)))):=by
  rw[dJ];show sg (lv t n (ae kp))::_=sg (lv t n kp)::_
  have e:sg (lv t n kp)=sg (lv t n (ae kp)):=by
   rw[<- lj hn,<- lj hn]
   have e2:hv t n kp=(am kp:Int)*hv t n (ae kp):=by
    calc hv t n kp=hv t n (scL (am kp:Int) (ae kp)):=by rw[jh]
     _=_:=oh _ _ _ _
   rw[e2,ei g0]
  rw[e]
 rw[<- key,vz,<- xD hn];exact fH hn
theorem xT(c:Int){l:List Int}(h:l≠[]):ac [c] l=scL c l:=by
 refine cL ?_ λk _=>?_
 ·rw[aX (by simp) h,aP];simp
 ·rw[ap,cw,aD]
theorem A9{c:Int}{l:List Int}(h:l≠[]):aJ (scL c l)=c*aJ l:=by obtain⟨r,x,rfl⟩:=(bX l).resolve_left h;unfold scL;rw[Fk,Fo,Gz,cu,cu]
theorem oa{c:Int}(hc:c≠0){l:List Int}(h:l≠[]){kb:Nat}(hB:isB ((scL c l).take ((scL c l).length-1)) (aJ (scL c l)).natAbs kb):isB (l.take (l.length-1)) (aJ l).natAbs kb:=by
 rw[aP,A9 h,Fs]at hB;have et:(scL c l).take (l.length-1)=scL c (l.take (l.length-1)):=by unfold scL;rw[List.map_take]
 rw[et]at hB;have c0:0<c.natAbs:=Gm.mpr hc;refine⟨λx hx=>?_,λj hj=>?_⟩
 ·have:=hB.1 (c*x) (by unfold scL;exact Fe.mpr ⟨x,hx,rfl⟩);rw[Fs,Nat.mul_left_comm]at this;exact HV this c0
 ·obtain⟨y,hy,q⟩:=hB.2 j hj;unfold scL at hy
  obtain⟨x,hx,rfl⟩:=Fe.mp hy;rw[Fs,Nat.mul_left_comm]at q;exact⟨x,hx,Nat.lt_of_mul_lt_mul_left q⟩
theorem oe{l:List Int}{L n kb:Nat}(hL:1<=L)(hb:∀x∈l,x.natAbs<=2^n-1)(hB:isB l L kb):kb<=n:=by
 rcases GI n kb with z |z
 ·obtain⟨x,hx,q⟩:=hB.2 n z;have:=hb x hx;have h5:2^n-1<=(2^n-1)*L:=Nat.le_mul_of_pos_right _ hL;omega
 ·exact z
theorem wo{fs:List (List Int)}(hF:∀f∈fs,Fac 11 f)(hnd:(fs.map ao).Nodup){c:Int}(hc:c≠0){kp:List Int}(hP:kp=ac [c] (av [1] (fs.map ao)))(hl:kp.length<=7)(h2:2<=kp.length)(tk:Tr kp)(bk:AllB 530 kp)(bp:AllB 152 (av [1] (fs.map ao)))(tp:Tr (av [1] (fs.map ao)))(np:av [1] (fs.map ao)≠[]) :
 Wk kp/\∀kb,isB (kp.take (kp.length-1)) (aJ kp).natAbs kb->((aO fs).length:Int)=vw kp (loR (-(2^kb)) 1)-vw kp (loR (2^kb) 1):=by
 have hG:∀f∈fs,FacG f:=λf hf=>uJ (hF f hf)
 have es:kp=scL c (av [1] (fs.map ao)):=by rw[hP,xT c np]
 have hl1:1<=(aJ (av [1] (fs.map ao))).natAbs:=by have:=gY tp np;omega
 have hBp:∀kb,isB (kp.take (kp.length-1)) (aJ kp).natAbs kb->isB ((av [1] (fs.map ao)).take ((av [1] (fs.map ao)).length-1)) (aJ (av [1] (fs.map ao))).natAbs kb:=λkb hB=>oa hc np (by rw[<- es];exact hB)
 have h152:∀kb,isB (kp.take (kp.length-1)) (aJ kp).natAbs kb->kb<=152:=λkb hB=>oe hl1 (λx hx=>by
  have:x.natAbs<2^152:=bp x (Hj hx)
  omega) (hBp kb hB)
 refine⟨⟨tk,h2,hl,bk,λkb hB=>⟨h152 kb hB,xh hG hnd hc hP hl (h152 kb hB)⟩⟩,λkb hB=>?_⟩;have B0:(0:Int)<2^kb:=Gb (by decide);have e:=oF (N:=8) hG hnd hc hP (by omega) (by omega) (show(0:Int)<1 by decide) (show(0:Int)<1 by decide) (t := -(2^kb)) (t':=2^kb) (by omega)
 have e':vw kp (loR (-(2^kb)) 1)-vw kp (loR (2^kb) 1)=cG (aO fs) (-(2^kb)) 1 (2^kb) 1:=by have a1:=fH (kp:=kp) (t := -(2^kb)) (n:=1) (by decide);have a2:=fH (kp:=kp) (t:=2^kb) (n:=1) (by decide);unfold loR;rw[<- a1,<- a2];exact e
 rw[e'];have eB:((2^kb:Nat):Int)=(2:Int)^kb:=by rw[Hv];rfl
 have all:∀l∈aO fs,0<aV l (-(2^kb)) 1/\aV l (2^kb) 1<=0:=λl hlm=>by obtain⟨z1,z2⟩:=xi hG hnd (B:=2^kb) (GY (by decide)) (hBp kb hB).1 hlm;rw[eB]at z1 z2;exact⟨z2,FB z1⟩
 generalize aO fs=ls at all
 clear e e'
 induction ls with
 |nil=>rfl
 |cons l ls ih =>rw[CT,if_pos (all l (Fl ..)),<- ih λx hx=>all x (Fi _ hx),Ff];omega
theorem xg{fs:List (List Int)}(hF:∀f∈fs,Fac 11 f)(hnd:(fs.map ao).Nodup){c:Int}(hc:c≠0){kp:List Int}(hP:kp=ac [c] (av [1] (fs.map ao)))(hl:kp.length<=7){H:Hp}{ps:Addr}{ws:List Addr}(e:H ps=some (.lst (ws.map V.ref)))(hT:TuH H ws (aO fs)):SpotsOk H ps kp:=by
 have hG:∀f∈fs,FacG f:=λf hf=>uJ (hF f hf)
 refine⟨ws,e,.inl ⟨aO fs,hT,xj hF,λt n t' n' hn hn' lt=>?_⟩⟩;have:=oF (N:=8) hG hnd hc hP (by omega) (by omega) hn hn' lt;have a1:=fH (kp:=kp) (t:=t) hn;have a2:=fH (kp:=kp) (t:=t') hn';unfold loR;rw[<- a1,<- a2];exact this.symm
theorem wq{r:List Int}(h:FlatP r)(h2:2<=r.length){c:Int}(hc:c≠0)(bc:Bits 75 c):Wk (scL c r):=by
 have hl:=aP c r;have h6:=h.l6;have hl1:1<=(aJ r).natAbs:=by have:=gY h.tr h.ne;omega
 have bv:∀v∈r,v.natAbs<=925:=λv hv=>by
  rcases GI r.length 6 with z |z
  ·have:=h.small (by omega) v hv;omega
  ·have:=h.five (by omega) v hv;omega
 have bb:AllB 530 (scL c r):=λx hx=>by
  unfold scL at hx
  obtain⟨v,hv,rfl⟩:=Fe.mp hx;have b1:Bits 10 v:=by have:=bv v hv;show v.natAbs<1024;omega
  exact(bc.mul b1).mono
 have k10:∀kb,isB ((scL c r).take ((scL c r).length-1)) (aJ (scL c r)).natAbs kb->kb<=10:=λkb hB=>oe (n:=10) hl1 (λx hx=>by
  have:=bv x (Hj hx);show _<=1023
  omega) (oa hc h.ne hB)
 refine⟨cP hc h.tr,by omega,by omega,bb,λkb hB=>⟨by have:=k10 kb hB;omega,BU h h2 hc (k10 kb hB) λe6=>oe (n:=6) hl1 (λx hx=>?_) (oa hc h.ne hB)⟩⟩;have:=h.five e6 x (Hj hx);show _<=63;omega
def Good(H:Hp)(ps:Addr)(kp:List Int)(m:Int):Prop:=(kp.length<=1/\m=0)\/(Wk kp/\SpotsOk H ps kp/\∀kb,isB (kp.take (kp.length-1)) (aJ kp).natAbs kb->m=vw kp (loR (-(2^kb)) 1)-vw kp (loR (2^kb) 1))
theorem Good.same{H H':Hp}{ps:Addr}{kp:List Int}{m:Int}(h:Good H ps kp m)(s:Same H H'):Good H' ps kp m:=by
 rcases h with h |⟨a,b,c⟩
 ·exact .inl h
 ·exact .inr ⟨a,b.same s,c⟩
theorem zH(F:Fun K "law" "law" lW f fd)(T:Txt K mg)(R:RCI K mg C)(iY:Cal P w K mg base 1 "_law_cell_at" ["_law_script","_law_k"] (je K) E9 Eu)(DQ:Cal P w K mg base 36 "_law_factors_by" ["_law_drawn","_law_most","_law_room"] (qN K) E6 Er)(pp:Cal P w K mg base 1 "_law_mul" ["_law_kp","_law_kq"] kS Cn B8)(DM:Cal P w K mg base 36 "_law_product" ["_law_factors"] qG EX Ek)(DK:Cal P w K mg base 1 "_law_roots_of" ["_law_factors"] qC EV Ei)(DS:Cal P w K mg base 35 "_law_any" ["_law_cell"] qU Fb Ew)(DJ:Cal P w K mg base 34 "_law_row" ["_law_kp"] qB EU Eh)(wm:Cal P w K mg base 1 "_law_bound" ["_law_kp"] qL Fa Ev)(ky:Cal P w K mg base 3 "_law_many" ["_law_spots","_law_low","_law_high"] eP Co B9)(DI:Cal P w K mg base 36 "cells" ["row"] (qS C) EO Ec)(wg:Cal P w K mg base 2 "_law_is_ratio" ["_law_found"] (qE C) E3 En)(DO:Cal P w K mg base 4 "_law_is_cell" ["_law_low","_law_high","_law_wide","_law_spots"] qM E4 Eo)(DL:Cal P w K mg base 1 "_law_rising" ["_law_found"] (qD C) EW Ej):FnOk P w K mg base CX0 37 f fd ["_law_script"] (jd K):=by
 refine F.ok sc_law (λvs H Q E h=>?_) (λcdv A outer s H vs Q E hr h=>?_)
 ·obtain⟨a,ns,rfl,_⟩:=h;rfl
 ·obtain⟨a,ns,rfl,hS,hlen,k⟩:=h;have big:=sizeLine_eq;have hu:=hr.units;have two9:Bits 9000 2:=Bits.mono (j:=2) (by show(2:Int).natAbs<2^2;decide) (by decide)
  refine⟨_,(ah (aj 1 sc_law (au DQ hr (aa (fh (eR (K:=K) rfl) (pv 0) (fb af) fe) (aa af (aa af ag)))))
   (ah (aj 2 sc_law (ai aE (ai bC af (ai cb (ai fX (au iY hr (aa (pv 0) (aa af ag))) af) (ai zj af af))) (ai aU af (ai aE af (ai cb (au iY hr (aa (pv 0) (aa af ag))) af)))))
   (ah (aj 3 sc_law (au pp hr (aa (bK (aa (pv 2) ag)) (aa (au DM hr (aa (pv 1) ag)) ag))))
   (ah (aj 4 sc_law (au DK hr (aa (pv 1) ag)))
   (ah (aR (aG cp (ai cb (au iY hr (aa (pv 0) (aa af ag))) af) af)
     (ah (aj 3 sc_law (bK ag))
       (al (aj 4 sc_law (bK ag))))
     aQ)
   (ah (aj 5 sc_law (ba K T.len_ (aa (pv 4) ag)))
   (ah (aR (aG cp (ai cb (ai fX (au iY hr (aa (pv 0) (aa af ag))) af) af) af)
     (ah (fT (i:=3) sc_law.nd rfl (Or.inl rfl) (own:=["_law_one"]) (fr:=["_law_lead"]) (js:=[2]) (by walk_at "comp_ok") rfl (bY (K:=K) rfl (au DS hr (aa (au iY hr (aa (pv 0) (aa af ag))) ag))) (λ_ _ _ _=>(cj (i:=0) (show List.Nodup (["_law_one","_law_lead"]:List Str)from by decide +kernel) rfl (Or.inl rfl))) (λ_ _ _ _=>(ai aE (pv 0) (pv 1))) (by rfl))
       (ah (aj 4 sc_law (bK ag))
       (ah (aj 5 sc_law af)
       (al (aR (aG b8 (ba K T.len_ (aa (pv 3) ag)) af)
         (ah (aj 4 sc_law (au DJ hr (aa (pv 3) ag)))
           (ah (aj 6 sc_law (au wm hr (aa (pv 3) ag)))
           (al (aj 5 sc_law (au ky hr (aa (pv 4) (aa (ck (aa (ai aU af (pv 6)) (aa af ag))) (aa (ck (aa (pv 6) (aa af ag))) ag))))))))
         aQ)))))
     aQ)
   (ah (aj 7 sc_law (fj (kg (K:=K) rfl) (by rfl) T.list_ PyProof.Rows.boot_list (aa (pv 3) ag)))
   (ah (aj 8 sc_law (au DI hr (aa (pv 7) ag)))
   (ah (aR (PW.pt (eX (eZ (eD (bZ (ic (K:=K) rfl) (by rfl) T.isinstance_ PyProof.Rows.boot_isinstance (aa (pv 8) (aa (iI (v:=.ty "list") (by rfl) T.list_ PyProof.Rows.boot_list (by rfl)) ag))))) (eX (aG fW (ba K T.len_ (aa (pv 8) ag)) (pv 5)) (gK (aG (sZ (K:=K) rfl hu) (pv 7) (pv 3))))))
     (al (aA dR))
     aQ)
   (ah (bM PassesOwn.never rfl (bY (K:=K) rfl (pv 8)) (bE 9 sc_law)
     (ah (aR (PW.pt (eX (eZ (eD (bZ (ic (K:=K) rfl) (by rfl) T.isinstance_ PyProof.Rows.boot_isinstance (aa (pv 9) (aa (iI (v:=.ty "tuple") (by rfl) T.tuple_ PyProof.Rows.boot_tuple (by rfl)) ag))))) (gK (aG fW (ba K T.len_ (aa (pv 9) ag)) af))))
       (al (aA dR))
       aQ)
       (ah (aR (PW.pt (eX (eZ (eD (au wg hr (aa (aK K (pv 9) af) ag)))) (gK (eZ (eD (au wg hr (aa (aK K (pv 9) af) ag)))))))
         (al (aA dR))
         aQ)
       (ah (aj 10 sc_law (ck (aa (bU (K:=K) rfl (aK K (pv 9) af) rfl) (aa (bU (K:=K) rfl (aK K (pv 9) af) rfl) ag))))
       (ah (aj 11 sc_law (ck (aa (bU (K:=K) rfl (aK K (pv 9) af) rfl) (aa (bU (K:=K) rfl (aK K (pv 9) af) rfl) ag))))
       (al (aR (eZ (eD (au DO hr (aa (pv 10) (aa (pv 11) (aa (au wm hr (aa (pv 3) ag)) (aa (pv 4) ag)))))))
         (al (aA dR))
         aQ)))))))
   (al (aA (au DL hr (aa (pv 8) ag))))))))))))))),?_⟩
  refine ar ⟨_,rfl,2,rfl,a,_,rfl,hS,λp5 hp5=>?_⟩;rw[ia];have t5:Same H (upd H p5 (.lst ((b5 ns (some 2) none).map V.int))):=Same.upd_new hp5;have h55:upd H p5 (.lst ((b5 ns (some 2) none).map V.int)) p5=some (.lst ((b5 ns (some 2) none).map V.int)):=aq;generalize upd H p5 (.lst ((b5 ns (some 2) none).map V.int))=H5 at t5 h55 ⊢
  have hcs:(b5 ns (some 2) none).length<=ns.length:=CH ns _ _;generalize b5 ns (some 2) none=cs at h55 hcs ⊢
  refine⟨p5,cs,11,5,rfl,by decide,by decide,SqL.of h55,by omega,λpg H6 qs' fs s6 hpg eg hT hF hnd hdg=>?_⟩;have t6:=t5.trans s6
  have hfl:fs.length<=5:=by
   have:=oA (fs.map ao) λx hx=>by obtain⟨y,hy,rfl⟩:=Fe.mp hx;exact(gw (hF y hy)).2.2.2.1
   rw[Fc]at this;omega
  obtain⟨c1,c2⟩:=fm (x:=ns.getD 0 0/2) (m:=10^20) (by decide +kernel);obtain⟨c3,c4⟩:=fm (x:=ns.getD 0 0) (m:=2) (by decide);have b20:Bits 70 ((10:Int)^20):=by show((10:Int)^20).natAbs<2^70;decide +kernel
  have bt:Bits 2 (ns.getD 0 0%2):=by show(ns.getD 0 0%2).natAbs<4;omega
  have bs:Bits 4 (1-2*(ns.getD 0 0%2)):=by show(1-2*(ns.getD 0 0%2)).natAbs<16;omega
  have bl:Bits 71 (1+ns.getD 0 0/2%10^20):=Bits.add (k:=70) (Bits.mono (j:=1) (by show(1:Int).natAbs<2^1;decide) (by decide)) (Df c1 (FB c2) b20);refine ar ⟨_,rfl,a,ns,0,rfl,t6.seq hS,_,_,rfl,rfl,⟨by decide,two9⟩,_,_,rfl,rfl,⟨by decide,by decide,by decide⟩,_,_,rfl,rfl,(by show(0:Int)<10^20;decide +kernel),_,_,rfl,rfl,_,rfl,a,ns,0,rfl,t6.seq hS,_,_,rfl,rfl,(by show(0:Int)<2;decide),_,_,rfl,rfl,⟨two9.mono,bt.mono⟩,_,_,rfl,rfl,_,_,rfl,rfl,⟨bl.mono,bs.mono⟩,?_⟩;show bV _ _ _ _ _;refine mU (λσ' H'=>∃last:Int,σ'=[some (.ref a),some (.ref pg),some (.int last),none,none,none,none,none,none,none,none,none]/\H6=H'/\last≠0/\Bits 75 last) ⟨_,rfl,rfl,Ft ?_ ?_,bl.mul bs⟩ ?_
  ·show 1+ns.getD 0 0/2%10^20≠0;omega
  ·show 1-2*(ns.getD 0 0%2)≠0;omega
  clear bl bs bt c1 c2 c3 c4;rintro σ' H' ⟨last,rfl,rfl,hl0,bl⟩;refine ar ⟨_,rfl,by show 1<=sizeLine;decide,λp7 hp7=>?_⟩;have s7:Same H6 (upd H6 p7 (.lst [V.int last])):=Same.upd_new hp7;have e7:upd H6 p7 (.lst [V.int last]) p7=some (.lst (([last]:List Int).map V.int)):=aq;generalize upd H6 p7 (.lst [V.int last])=H7 at s7 e7 ⊢
  refine⟨_,rfl,pg,qs',fs,rfl,s7 _ _ eg,hT.same s7,hF,by omega,λp8 H8 s8 hp8 e8=>?_⟩;obtain⟨b1,b2⟩:=m8 hF fs.length (Fg _) (by omega);rw[FQ]at b1 b2;have b1':AllB 152 (av [1] (fs.map ao)):=b1.mono (by omega)
  have hss:∀s∈fs.map ao,s≠[]/\Tr s:=λs h=>by obtain⟨x,hx,rfl⟩:=Fe.mp h;obtain⟨a,b,_⟩:=gw (hF x hx);exact⟨b,a⟩
  obtain⟨p1,p2,p3⟩:=fU (fs.map ao) [1] (by simp) ((tr_snoc (r:=[])).mpr (by decide)) hss;have bl1:AllB 75 [last]:=λx hx=>by rw[Fv.mp hx];exact bl
  refine⟨p7,p8,[last],av [1] (fs.map ao),rfl,s8 _ _ e7,e8,by show 1<=1000000;decide,by omega,bl1.mono,b1.mono (by omega),λpk H9 s9 hpk ek=>?_⟩;have u9:=s7.trans (s8.trans s9);have t9:=t6.trans u9;have hkT:Tr (ac [last] (av [1] (fs.map ao))):=fJ ((tr_snoc (r:=[])).mpr hl0) p2
  have hkl:(ac [last] (av [1] (fs.map ao))).length<=7:=by
   have h1:=kY (fs.map ao) λs hs=>(hss s hs).1
   rw[tV p1];have h2:([1]:List Int).length=1:=rfl;omega
  have hk1:(ac [last] (av [1] (fs.map ao))).length<=1->aO fs=[]:=λh=>by
   rw[tV p1]at h;cases fs with
   |nil=>rfl
   |cons f fs =>
    exfalso;have h1:=kY ((f::fs).map ao) λs hs=>(hss s hs).1
    have h2:([1]:List Int).length=1:=rfl
    have h3:=oA ((f::fs).map ao) λx hx=>by obtain⟨y,hy,rfl⟩:=Fe.mp hx;exact(gw (hF y hy)).2.2.2.1
    simp only[Fc,Ff]at h1 h3 p3;omega
  have bk:AllB 530 (ac [last] (av [1] (fs.map ao))):=tW bl1 b1 (by show 75+(2+30*fs.length)+1<=530;omega)
  have hwk:∀m:Int,m=((aO fs).length:Int)->∀(H':Hp) (ps:Addr) (ws:List Addr),H' ps=some (.lst (ws.map V.ref))->TuH H' ws (aO fs)->Good H' ps (ac [last] (av [1] (fs.map ao))) m:=λm em H' ps ws e hW=>by
   by_cases h:(ac [last] (av [1] (fs.map ao))).length<=1
   ·refine .inl ⟨h,?_⟩;rw[em,hk1 h];rfl
   ·obtain⟨w1,w2⟩:=wo hF hnd hl0 rfl hkl (by omega) hkT bk b1' p2 p1;exact .inr ⟨w1,xg hF hnd hl0 rfl hkl e hW,λkb hB=>by rw[em];exact w2 kb hB⟩
  generalize ac [last] (av [1] (fs.map ao))=kp0 at hkT hkl bk ek hwk
  clear hk1 b1 b1' p1 p2 p3;refine ar ⟨_,rfl,pg,qs',fs,rfl,u9 _ _ eg,hT.same u9,hF,by omega,λpr HD ws sD hpr er hW=>?_⟩;have u10:=u9.trans sD;have ek10:=sD _ _ ek;show bV _ _ _ _ _;refine dO (λσ' H'=>∃(pk ps:Addr) (kp:List Int) (ws:List Addr),σ'=[some (.ref a),some (.ref pg),some (.int last),some (.ref pk),some (.ref ps),none,none,none,none,none,none,none]/\Same HD H'/\H' pk=some (.lst (kp.map V.int))/\H' ps=some (.lst (ws.map V.ref))/\Tr kp/\kp.length<=7/\AllB 530 kp/\Good H' ps kp (ws.length:Int)) ?_ ?_
  case refine_2 =>
   intro rest;refine⟨_,rfl,a,ns,1,rfl,(t6.trans u10).seq hS,_,_,rfl,rfl,(by show(0:Int)<9;decide),_,_,rfl,rfl,_,rfl,aM (λ_=>?_) (λ_=>rest _ _ ⟨pk,pr,kp0,ws,rfl,Same.refl _,ek10,er,hkT,hkl,bk,hwk _ (by rw[hW.1]) _ _ _ er hW⟩)⟩;refine ar ⟨Fj _,λq1 hq1=>?_⟩;have s1:Same HD (upd HD q1 (.lst [])):=Same.upd_new hq1;have e1:upd HD q1 (.lst []) q1=some (.lst (([]:List Int).map V.int)):=aq;generalize upd HD q1 (.lst [])=K1 at s1 e1 ⊢
   refine ci ⟨Fj _,λq2 hq2=>?_⟩;have s2:Same K1 (upd K1 q2 (.lst [])):=Same.upd_new hq2;exact rest _ _ ⟨q1,q2,[],[],rfl,s1.trans s2,s2 _ _ e1,aq,kH,by decide,AllB.nil,.inl ⟨by decide,rfl⟩⟩
  clear hwk ek10 ek hkT hkl bk hW er sD hpr;rintro σ' H11 ⟨pk,ps,kp,ws,rfl,s11,ek,er,tk,kl,bk,hG⟩;have u11:=u10.trans s11;refine ar ⟨_,rfl,ps,_,rfl,.inl (SqL.of er),?_⟩;have ewl:((ws.map V.ref).length:Int)=(ws.length:Int):=by rw[Fc]
  rw[ewl];generalize (ws.length:Int)=m0 at hG
  show bV _ _ _ _ _;refine dO (λσ' H'=>∃(pk ps:Addr) (kp:List Int) (m:Int) (z6:Option V),σ'=[some (.ref a),some (.ref pg),some (.int last),some (.ref pk),some (.ref ps),some (.int m),z6,none,none,none,none,none]/\Same H11 H'/\H' pk=some (.lst (kp.map V.int))/\Tr kp/\kp.length<=7/\AllB 530 kp/\Good H' ps kp m) ?_ ?_
  case refine_2 =>
   intro rest;refine⟨_,rfl,a,ns,1,rfl,(t6.trans u11).seq hS,_,_,rfl,rfl,⟨by show(0:Int)<9;decide,kW (by decide) (by decide)⟩,_,_,rfl,rfl,(by show(0:Int)<2;decide),_,_,rfl,rfl,_,rfl,aM (λ_=>?_) (λ_=>rest _ _ ⟨pk,ps,kp,m0,none,rfl,Same.refl _,ek,tk,kl,bk,hG⟩)⟩;refine iz ⟨_,rfl,a,ns,2,rfl,(t6.trans u11).seq hS,_,rfl,λr hr' pr2 HE sE hpr2 er2=>?_⟩
   have br:AllB 60 r:=λv hv=>by
    rcases hr' with rfl |h
    ·cases hv
    ·show v.natAbs<1152921504606846976;rcases GI r.length 6 with z |z
     ·have:=h.small (by omega) v hv;omega
     ·have:=h.five (by have:=h.l6;omega) v hv;omega
   have rl:r.length<=6:=by rcases hr' with rfl |h;exact Fj _;exact h.l6
   refine⟨pr2,rfl,⟨_,SqL.of er2⟩,d8 (K:=K) (a:=pr2) (xs:=r.map V.int) (λj ms σ' H'=>∃z0:Option V,σ'=[z0,some (.int last)]/\ms=(scL last (r.take j)).map V.int/\HE=H') (by rw[Fc];omega) ⟨none,rfl,rfl,rfl⟩ ?_ ?_ ?_⟩
   ·rintro j ms σ' H' _ ⟨z0,rfl,rfl,rfl⟩;exact⟨SqL.of er2,by rw[Fc,aP,FW];exact Gx _ _⟩
   ·rintro j v ms σ' H' hj ⟨z0,rfl,rfl,rfl⟩;obtain⟨c,_,rfl,hmc,et⟩:=cK hj;refine⟨_,rfl,_,rfl,_,_,rfl,rfl,⟨(br c hmc).mono,bl.mono⟩,_,rfl,?_,rfl⟩;rw[et];unfold scL;rw[Fk,Fk];show _++[V.int (c*_)]=_++[V.int (_*c)];rw[FO]
   rintro ms σ' H' p2 ⟨z0,rfl,rfl,rfl⟩ hp2;rw[Fc,FQ];have t2:=Same.upd_new (o:=.lst ((scL last r).map V.int)) hp2;have e2:upd HE p2 (.lst ((scL last r).map V.int)) p2=some (.lst ((scL last r).map V.int)):=aq;generalize upd HE p2 (.lst ((scL last r).map V.int))=HF at t2 e2 ⊢
   have v2:=sE.trans t2;refine gI ?_;dsimp only
   refine ar ⟨Fj _,λq1 hq1=>?_⟩;have s3:Same HF (upd HF q1 (.lst [])):=Same.upd_new hq1;generalize upd HF q1 (.lst [])=HG at s3 ⊢
   have e3:=s3 _ _ e2;have v3:=v2.trans s3;refine ar ?_;have sl:=aP last r;have hmp:((scL last r).map V.int).length=r.length:=by rw[Fc,sl]
   refine⟨_,rfl,p2,_,rfl,.inl (SqL.of e3),_,_,rfl,rfl,_,rfl,aM (λhgt=>?_) (λhle=>?_)⟩
   rotate_left
   ·have hle':r.length<=1:=by have:¬(((scL last r).map V.int).length:Int)>1:=hle;omega
    refine rest _ _ ⟨p2,q1,scL last r,0,none,rfl,v3,e3,?_,by omega,?_,.inl ⟨by omega,rfl⟩⟩
    ·rcases hr' with rfl |h
     ·exact kH
     ·exact cP hl0 h.tr
    ·refine AllB.of_cf λn=>?_
     rw[aD];exact(bl.mul (br.cf n)).mono
   have hgt':2<=r.length:=by have:(((scL last r).map V.int).length:Int)>1:=hgt;omega
   have hfp:FlatP r:=by rcases hr' with rfl |h;simp at hgt';exact h
   have W:=wq hfp hgt' hl0 bl;have Wn:scL last r≠[]:=λz=>by rw[z]at sl;simp at sl;omega
   refine ar ⟨_,rfl,p2,scL last r,rfl,e3,W.tr,Wn,W.l7,W.bits,λlr rs HH sH hlr elr hRr=>?_⟩;refine ar ⟨_,rfl,p2,scL last r,rfl,sH _ _ e3,W.tr,Wn,by omega,W.bits,λkb HI hB hkb sI=>?_⟩;have v4:=v3.trans (sH.trans sI);obtain⟨hkb2,_⟩:=W.few kb hB;have eB:((2^kb:Nat):Int)=(2:Int)^kb:=by rw[Hv];rfl
   rw[eB];have B0:(0:Int)<2^kb:=Gb (by decide);have bB:Bits 153 ((2:Int)^kb):=m9 (by omega);obtain⟨_,_,hok⟩:=mN W.tr W.bits W.l7
   have hall:∀xs∈scL last r::aI 8 (ae (slopeL (scL last r))) (nxt (ae (scL last r)) (ae (slopeL (scL last r)))),xs.length<=20/\AllB 95000 xs:=λxs hx=>by
    rcases FC.mp hx with rfl |hx
    ·exact⟨by have:=W.l7;omega,W.bits.mono⟩
    ·obtain⟨g0,tF,nF,ecF⟩:=cy W.tr Wn
     have hm:xs∈aI 9 (ae (scL last r)) (ae (slopeL (scL last r))):=by
      have:aI 9 (ae (scL last r)) (ae (slopeL (scL last r)))=ae (scL last r)::aI 8 (ae (slopeL (scL last r))) (nxt (ae (scL last r)) (ae (slopeL (scL last r)))):=by show(if ae (scL last r)=[]then _ else _)=_;rw[if_neg nF]
      rw[this];exact Fi _ hx
     obtain⟨_,o2,o3⟩:=hok xs hm;exact⟨by omega,o2.mono⟩
   have SO:SpotsOk HH lr (scL last r):=⟨rs,elr,.inr ⟨_,hRr,by simp,hall,λt n hn=>ya W.tr Wn hn⟩⟩;refine ci ⟨_,rfl,_,rfl,_,_,rfl,rfl,by show 2<=sizeLine;omega,λq2 hq2=>⟨_,rfl,by show 2<=sizeLine;omega,λq3 hq3=>mS ?_⟩⟩;have s5:Same HI (upd HI q2 (.tup [V.int (0-2^kb),V.int 1])):=Same.upd_new hq2;have e5:upd HI q2 (.tup [V.int (0-2^kb),V.int 1]) q2=some (.tup ([0-2^kb,1].map V.int)):=aq;have hq3':upd HI q2 (.tup [V.int (0-2^kb),V.int 1]) q3=none:=hq3;change eP [.ref lr,.ref q2,.ref q3] (upd (upd HI q2 (.tup [V.int (0-2^kb),V.int 1])) q3 (.tup [V.int (2^kb),V.int 1])) _ _;generalize upd HI q2 (.tup [V.int (0-2^kb),V.int 1])=HJ at s5 e5 hq3' ⊢
   have s6:Same HJ (upd HJ q3 (.tup [V.int (2^kb),V.int 1])):=Same.upd_new hq3';have e6:upd HJ q3 (.tup [V.int (2^kb),V.int 1]) q3=some (.tup ([2^kb,1].map V.int)):=aq;generalize upd HJ q3 (.tup [V.int (2^kb),V.int 1])=HK at s6 e6 ⊢
   have v5:=sI.trans (s5.trans s6);have b1k':Bits 400 (1:Int):=b1k (by decide);refine(SO.same v5).ask (s6 _ _ e5) e6 ((bB.of_le (by omega)).mono) b1k' (bB.mono) b1k' (by decide) (by decide) (by omega) ?_;refine rest _ _ ⟨p2,lr,scL last r,_,_,rfl,v3.trans (sH.trans v5),(sH.trans v5) _ _ e3,W.tr,W.l7,W.bits,.inr ⟨W,SO.same v5,λkb' hB'=>?_⟩⟩;obtain rfl:=n8 hB hB';rw[show(0:Int)-2^kb = -(2^kb) by omega]
  clear hG ek er tk kl bk s11 m0 ewl;rintro σ' HE ⟨pk,ps,kp,m,z6,rfl,sE,ek,tk,kl,bk,hG⟩;refine ar ⟨_,rfl,pk,_,rfl,.inl (SqL.of ek),λpq hpq=>?_⟩;have s14:Same HE (upd HE pq (.lst (kp.map V.int))):=Same.upd_new hpq;have e14:upd HE pq (.lst (kp.map V.int)) pq=some (.lst (kp.map V.int)):=aq;generalize upd HE pq (.lst (kp.map V.int))=HF at s14 e14 ⊢
  refine iB (λσ' H'=>∃(p:Addr) (ys:List Cel) (kb:Nat),σ'=[some (.ref a),some (.ref pg),some (.int last),some (.ref pk),some (.ref ps),some (.int m),z6,some (.ref pq),some (.ref p),none,none,none]/\Same HF H'/\H' p=some (.lst (qs ys))/\(∀y∈ys,FdH C H' kp kb y)/\(ys.length:Int)=m/\ys.length<=12000/\cO ys/\kb<=152/\(ys≠[]->SpotsOk H' ps kp/\kp≠[]/\isB (kp.take (kp.length-1)) (aJ kp).natAbs kb)) ?_ ?_
  case refine_2 =>
   intro rest;rcases hG with⟨h1,rfl⟩ |⟨W,SO,hm⟩
   ·refine ci ⟨_,rfl,.inr ⟨pq,kp,rfl,e14,h1,λp H' sm hp e=>?_⟩⟩;exact rest _ _ ⟨p,[],0,rfl,sm,e,(λy hy=>nomatch hy),rfl,Fj _,List.Pairwise.nil,Fj _,λz=>absurd rfl z⟩
   ·refine ci ⟨_,rfl,.inl ⟨pq,kp,rfl,e14,W,λkb p ys H' hB sm hp e hy hn hl hri=>?_⟩⟩;obtain⟨hkb,_⟩:=W.few kb hB;exact rest _ _ ⟨p,ys,kb,rfl,sm,e,hy,by rw[hn,hm kb hB],hl,hri,hkb,λ_=>⟨SO.same (s14.trans sm),λz=>by have:=W.l2;rw[z]at this;simp at this,hB⟩⟩
  rintro σ' HG ⟨p,ys,kb,rfl,sG,ep,hy,hn,hl,hri,hkb,hso⟩;have ekG:=(s14.trans sG) _ _ ek;have eqG:=sG _ _ e14;have hql:(qs ys).length=ys.length:=Fc _;refine bQ (eT (eW (iD (fS ⟨_,rfl,g7 (.lst ep) (k:=true) (by rfl) ⟨_,rfl,cS ?_⟩⟩))));refine eT ⟨_,rfl,p,_,rfl,.inl (SqL.of ep),_,rfl,_,_,rfl,rfl,_,rfl,dN (λh=>absurd (show((qs ys).length:Int)=m by rw[hql];exact hn) h) (λ_=>?_)⟩;refine⟨_,rfl,_,rfl,pq,pk,kp,kp,rfl,rfl,SqL.of eqG,SqL.of ekG,_,rfl,dN (λh=>absurd rfl h) (λ_=>?_)⟩;refine⟨_,rfl,p,rfl,⟨_,SqL.of ep⟩,dY (K:=K) (a:=p) (xs:=qs ys) (λi σ' H'=>∃z9 z10 z11:Option V,σ'=[some (.ref a),some (.ref pg),some (.int last),some (.ref pk),some (.ref ps),some (.int m),z6,some (.ref pq),some (.ref p),z9,z10,z11]/\Same HG H') ⟨none,none,none,rfl,Same.refl _⟩ ?_ ?_ ?_⟩
  ·rintro i σ' H' _ ⟨z9,z10,z11,rfl,sm⟩;exact SqL.of (sm _ _ ep)
  ·rintro i v σ' H' hi ⟨z9,z10,z11,rfl,sm⟩
   obtain⟨y,hym,rfl⟩:∃y∈ys,v=.ref y.q:=by
    unfold qs at hi
    rw[List.getElem?_map]at hi;obtain⟨y,ey,rfl⟩:=Option.map_eq_some_iff.mp hi;exact⟨y,List.mem_of_getElem? ey,rfl⟩
   obtain⟨so,nk,hB⟩:=hso λz=>by rw[z]at hym;cases hym
   have fy:=(hy y hym).nl (NL.of sm);have ekH:=sm _ _ ekG;obtain⟨dx,hlo⟩:=fy.lo;obtain⟨dh,hhi⟩:=fy.hi;show bV _ _ _ _ _;refine bQ (eT (eW (iD (fS ⟨_,rfl,g7 (.tup fy.tup) (k:=true) (by rfl) ⟨_,rfl,cS ?_⟩⟩))));refine⟨_,rfl,y.q,_,rfl,.inr (SqT.of fy.tup),_,_,rfl,rfl,_,rfl,dN (λh=>absurd rfl h) (λ_=>?_)⟩;refine bQ (eT (eW ⟨_,rfl,y.q,_,_,_,rfl,rfl,SqT.of fy.tup,rfl,y.lo,y.l1,y.l2,rfl,fy.lo,fy.dy.l2p,fy.dy.gl,_,rfl,cS ?_⟩));refine eW ⟨_,rfl,y.q,_,_,_,rfl,rfl,SqT.of fy.tup,rfl,y.hi,y.h1,y.h2,rfl,fy.hi,fy.dy.h2p,fy.dy.gh,_,rfl,cS ?_⟩;refine ar ⟨_,rfl,y.q,_,_,_,rfl,rfl,SqT.of fy.tup,rfl,y.lo,C,dx,_,_,rfl,hlo,R.cl,R.nT,eI _ _,_,rfl,y.q,_,_,_,rfl,rfl,SqT.of fy.tup,rfl,y.lo,C,dx,_,_,rfl,hlo,R.cl,R.nB,dk _ _,by show 2<=sizeLine;omega,λpl hpl=>?_⟩;have s1:Same H' (upd H' pl (.tup [V.int y.l1,V.int y.l2])):=Same.upd_new hpl;have e1:upd H' pl (.tup [V.int y.l1,V.int y.l2]) pl=some (.tup ([y.l1,y.l2].map V.int)):=aq;generalize upd H' pl (.tup [V.int y.l1,V.int y.l2])=K1 at s1 e1 ⊢
   have hhi1:=s1 _ _ hhi;have tup1:=s1 _ _ fy.tup;refine ar ⟨_,rfl,y.q,_,_,_,rfl,rfl,SqT.of tup1,rfl,y.hi,C,dh,_,_,rfl,hhi1,R.cl,R.nT,eI _ _,_,rfl,y.q,_,_,_,rfl,rfl,SqT.of tup1,rfl,y.hi,C,dh,_,_,rfl,hhi1,R.cl,R.nB,dk _ _,by show 2<=sizeLine;omega,λph hph=>?_⟩;have s2:Same K1 (upd K1 ph (.tup [V.int y.h1,V.int y.h2])):=Same.upd_new hph;have e2:upd K1 ph (.tup [V.int y.h1,V.int y.h2]) ph=some (.tup ([y.h1,y.h2].map V.int)):=aq;generalize upd K1 ph (.tup [V.int y.h1,V.int y.h2])=K2 at s2 e2 ⊢
   have v2:=s1.trans s2;refine iA (eW ⟨_,rfl,_,rfl,_,rfl,pk,kp,rfl,v2 _ _ ekH,tk,nk,by omega,bk,λkb' K3 hB' _ s3=>?_⟩);obtain rfl:=n8 hB hB';refine⟨_,rfl,pl,ph,ps,kp,kb,y.d,y.l1,y.l2,y.h1,y.h2,rfl,(s2.trans s3) _ _ e1,s3 _ _ e2,so.same (sm.trans (v2.trans s3)),hkb,fy.dy,fy.dd,fy.par,fy.one,λK4 s4=>⟨_,rfl,cS ?_⟩⟩;exact⟨_,_,_,rfl,sm.trans (v2.trans (s3.trans s4))⟩
  ·rintro σ' H' ⟨z9,z10,z11,rfl,sm⟩;exact⟨_,rfl,p,kp,kb,ys,rfl,sm _ _ ep,hkb,λy h=>(hy y h).nl (NL.of sm),hl,hri,k _⟩
end
def FnL(K:PySem.W.Frag)(n:Str)(st:Stmt):Prop:=∃f fd,PySem.W.nsIn K mainGlobals n=some (some (.ref f))/\Fun K n n st f fd
def MtL(K:PySem.W.Frag)(C:Addr)(n q:Str)(st:Stmt):Prop:=∃f fd,PySem.W.findIn K (.ref C) n=some (some (.ref f))/\PySem.W.isFn K (.ref f)=true/\Fun K n q st f fd
structure ClL(K:PySem.W.Frag)(n:Str)(C:Addr):Prop where
 a:PySem.W.nsIn K mainGlobals n=some (some (.ref C))
 pg:PySem.W.plainGet K C Str.empty=true
 hd:PySem.W.hasDictIn K C=true
 po:PySem.W.plainOver K C=true
 sa:PySem.W.findIn K (.ref C) "__setattr__"=some (some (.builtin "object.__setattr__"))
 mkr:PySem.W.makesIn K C=true
 kc:PySem.W.keepIn K (.ref C)=true
 ha:PySem.W.findIn K (.ref C) "__class__"=some (some (.builtin "object.__class__"))
 hn:PySem.W.specialIn K (.builtin "object.__class__") "__get__"=some (some (.builtin "getset_descriptor.__get__"))
 ht:PySem.W.takesIn K (.builtin "object.__class__")=some true
 hm:PySem.W.mroIn K C (.type "object")=some true
section
variable {P:Program}{w:World}{K:PySem.W.Frag}{mg:Str->Option Value}{h base:Heap}{n q:Str}{st:Stmt}{f C:Addr}{oc kV dc pm cd ct:Value}{od an:Option Addr}{sl:Array (Option Value)}{fd:FuncData}{k:Nat}{ps:List Str}{sp:Sp}
theorem fnL(a:PySem.W.nsIn K mainGlobals n=some (some (.ref f)))(l:K.lookup f=some ⟨oc,od,.func (PySem.W.fnOf n n (cY st) (cF st) (aB st) .none kV dc pm an cd ct),sl⟩)(c:PySem.W.codeIn K cd n=true)(k:PySem.W.keepIn K (.ref f)=true):FnL K n st:=⟨_,_,a,uA l c k⟩
theorem mtL(a:PySem.W.findIn K (.ref C) n=some (some (.ref f)))(i:PySem.W.isFn K (.ref f)=true)(l:K.lookup f=some ⟨oc,od,.func (PySem.W.fnOf n q (cY st) (cF st) (aB st) .none kV dc pm an cd ct),sl⟩)(c:PySem.W.codeIn K cd q=true)(k:PySem.W.keepIn K (.ref f)=true):MtL K C n q st:=⟨_,_,a,i,uA l c k⟩
def Bx(P:Program)(w:World)(base:Heap):Prop:=P=P/\w=w/\base=base
def BdR(n q:Str)(st:Stmt)(ps:List Str):Prop:=∀(kV doc pm:Value) (an:Option Addr) (cdv ct:Value) (us:List Value),us.length=ps.length->bindArgs (PySem.W.fnOf n q (cY st) (cF st) (aB st) .none kV doc pm an cdv ct) ⟨us,[]⟩=pure (ps.zip us)
theorem cal(_:Bx P w base)(X:K.In h)(G:h.Ns mainGlobals mg)(a:PySem.W.nsIn K mainGlobals n=some (some (.ref f)))(F:Fun K n n st f fd)(o:FnOk P w K mg base CX0 k f fd ps sp)(b:BdR n n st ps):Cal P w K mg base k n ps sp f fd:=⟨o,PySem.W.mg_of X G a,F.kp,F.binds b⟩
theorem us1{A:List Value->Prop}(h:∀a,A [a]):∀us:List Value,us.length=1->A us
 | [a],_=>h a
theorem us2{A:List Value->Prop}(h:∀a b,A [a,b]):∀us:List Value,us.length=2->A us
 | [a,b],_=>h a b
theorem us3{A:List Value->Prop}(h:∀a b c,A [a,b,c]):∀us:List Value,us.length=3->A us
 | [a,b,c],_=>h a b c
theorem us4{A:List Value->Prop}(h:∀a b c d,A [a,b,c,d]):∀us:List Value,us.length=4->A us
 | [a,b,c,d],_=>h a b c d
end
theorem all_mk{l:PySem.W.OpenLaw}{w:World}{K:PySem.W.Frag}{h:Heap}{mg:Str->Option Value}{fa CC1 f4 dt4:Addr}(X:K.In h)(G:h.Ns mainGlobals mg)(hfa:mg "law"=some (.ref fa))
 {od4 an4 odt4:Option Addr} {sl4 slt4:Array (Option Value)} {oc4 kV4 dc4 pm4 cd4 ct4 oct4:Value} {nt4:Nat} {tk4_0:Tok}
 (cc1:ClL K "Ratio" CC1)
 (n1_top:PySem.W.findIn K (.ref CC1) "top"=some none)
 (n1_bottom:PySem.W.findIn K (.ref CC1) "bottom"=some none)
 (a4:PySem.W.findIn K (.ref CC1) "__init__"=some (some (.ref f4))) (i4:PySem.W.isFn K (.ref f4)=true)
 (l4:K.lookup f4=some ⟨oc4,od4,.func (PySem.W.fnOf "__init__" "Ratio.__init__" (cY gE) (cF gE) (aB gE) (.ref dt4) kV4 dc4 pm4 an4 cd4 ct4),sl4⟩) (c4:PySem.W.codeIn K cd4 "Ratio.__init__"=true) (k4:PySem.W.keepIn K (.ref f4)=true)
 (t4:K.lookup dt4=some ⟨oct4,odt4,.seq #[.int 1 tk4_0] nt4,slt4⟩)
 (z0:PySem.W.nsIn K mainGlobals "abs"=some none)
 (z1:PySem.W.nsIn K mainGlobals "len"=some none)
 (z2:PySem.W.nsIn K mainGlobals "max"=some none)
 (z3:PySem.W.nsIn K mainGlobals "range"=some none)
 (z4:PySem.W.nsIn K mainGlobals "reversed"=some none)
 (z5:PySem.W.nsIn K mainGlobals "list"=some none)
 (z6:PySem.W.nsIn K mainGlobals "enumerate"=some none)
 (z7:PySem.W.nsIn K mainGlobals "isinstance"=some none)
 (z8:PySem.W.nsIn K mainGlobals "int"=some none)
 (z9:PySem.W.nsIn K mainGlobals "bool"=some none)
 (z10:PySem.W.nsIn K mainGlobals "tuple"=some none)
 (l1:FnL K "shared_by_two" lI)
 (l2:FnL K "shared" lJ)
 (l3:FnL K "whole_sign" lD)
 (l5:FnL K "poly" lN)
 (l6:FnL K "degree" lY)
 (l7:FnL K "coefficient" lZ)
 (l8:FnL K "taken" lF)
 (l9:FnL K "slope" lG)
 (l10:FnL K "shrunk" jt)
 (l11:FnL K "scaled" lK)
 (l12:FnL K "lowered" lV)
 (l13:FnL K "divided" lX)
 (l14:FnL K "row_from" lM)
 (l15:FnL K "row_of" lL)
 (l16:FnL K "value_parts" lE)
 (l17:FnL K "sign_at" lH)
 (l18:FnL K "changes" ma)
 (l19:FnL K "bound" me)
 (l20:FnL K "middle" lU)
 (l21:FnL K "cells" md)
 (l22:FnL K "_law_cell_at" mI)
 (l23:FnL K "_law_whole" mf)
 (l24:FnL K "_law_trim" mh)
 (l25:FnL K "_law_mul" mz)
 (l26:FnL K "_law_gcd" mE)
 (l27:FnL K "_law_is_ratio" mC)
 (l28:FnL K "_law_shrunk" ju)
 (l29:FnL K "_law_plain" mx)
 (l30:FnL K "_law_factor_by" mG)
 (l31:FnL K "_law_shape" mn)
 (l32:FnL K "_law_factors_by" jv)
 (l33:FnL K "_law_product" mw)
 (l34:FnL K "_law_sure" mi)
 (l35:FnL K "_law_side" ml)
 (l36:FnL K "_law_roots_of" mr)
 (l37:FnL K "_law_rest" mv)
 (l38:FnL K "_law_slope" mj)
 (l39:FnL K "_law_part" my)
 (l40:FnL K "_law_flat" mF)
 (l41:FnL K "_law_row" mq)
 (l42:FnL K "_law_changes" mH)
 (l43:FnL K "_law_any" mK)
 (l44:FnL K "_law_many" mB)
 (l45:FnL K "_law_bound" mJ)
 (l46:FnL K "_law_is_cell" mD)
 (l47:FnL K "_law_rising" mt)
 (l48:FnL K "law" lW)
 (hTr:l.prog.given.tree=none)
 : ∃fd:FuncData,(∀(s:Shared) (v:Value),BindsTo s fd ⟨[v],[]⟩ [("_law_script",v)])/\∀base:Heap,K.In base->base.Ns mainGlobals mg->base.NoSeer->FnOk l.prog w K mg base CX0 37 fa fd ["_law_script"] (jd K):=by
 obtain⟨_,_,a1,F1⟩:=l1;obtain⟨_,_,a2,F2⟩:=l2;obtain⟨_,_,a3,F3⟩:=l3;obtain⟨_,_,a5,F5⟩:=l5;obtain⟨_,_,a6,F6⟩:=l6;obtain⟨_,_,a7,F7⟩:=l7;obtain⟨_,_,a8,F8⟩:=l8;obtain⟨_,_,a9,F9⟩:=l9;obtain⟨_,_,a10,F10⟩:=l10;obtain⟨_,_,a11,F11⟩:=l11;obtain⟨_,_,a12,F12⟩:=l12;obtain⟨_,_,a13,F13⟩:=l13;obtain⟨_,_,a14,F14⟩:=l14;obtain⟨_,_,a15,F15⟩:=l15;obtain⟨_,_,a16,F16⟩:=l16;obtain⟨_,_,a17,F17⟩:=l17;obtain⟨_,_,a18,F18⟩:=l18;obtain⟨_,_,a19,F19⟩:=l19;obtain⟨_,_,a20,F20⟩:=l20;obtain⟨_,_,a21,F21⟩:=l21;obtain⟨_,_,a22,F22⟩:=l22;obtain⟨_,_,a23,F23⟩:=l23;obtain⟨_,_,a24,F24⟩:=l24;obtain⟨_,_,a25,F25⟩:=l25;obtain⟨_,_,a26,F26⟩:=l26;obtain⟨_,_,a27,F27⟩:=l27;obtain⟨_,_,a28,F28⟩:=l28;obtain⟨_,_,a29,F29⟩:=l29;obtain⟨_,_,a30,F30⟩:=l30;obtain⟨_,_,a31,F31⟩:=l31;obtain⟨_,_,a32,F32⟩:=l32;obtain⟨_,_,a33,F33⟩:=l33;obtain⟨_,_,a34,F34⟩:=l34;obtain⟨_,_,a35,F35⟩:=l35;obtain⟨_,_,a36,F36⟩:=l36;obtain⟨_,_,a37,F37⟩:=l37;obtain⟨_,_,a38,F38⟩:=l38;obtain⟨_,_,a39,F39⟩:=l39;obtain⟨_,_,a40,F40⟩:=l40;obtain⟨_,_,a41,F41⟩:=l41;obtain⟨_,_,a42,F42⟩:=l42;obtain⟨_,_,a43,F43⟩:=l43;obtain⟨_,_,a44,F44⟩:=l44;obtain⟨_,_,a45,F45⟩:=l45;obtain⟨_,_,a46,F46⟩:=l46;obtain⟨_,_,a47,F47⟩:=l47;obtain⟨_,fdL,a48,F48⟩:=l48;cases hfa.symm.trans (PySem.W.mg_of X G a48);have T:Txt K mg:=⟨PySem.W.mg_none_of X G z0,PySem.W.mg_none_of X G z1,PySem.W.mg_none_of X G z2,PySem.W.mg_none_of X G z3,PySem.W.mg_none_of X G z4,PySem.W.mg_none_of X G z5,PySem.W.mg_none_of X G z6,PySem.W.mg_none_of X G z7,PySem.W.mg_none_of X G z8,PySem.W.mg_none_of X G z9,PySem.W.mg_none_of X G z10⟩;have R1:RCI K mg CC1:=⟨⟨cc1.pg,cc1.hd,cc1.po,cc1.sa⟩,n1_top,n1_bottom,PySem.W.mg_of X G cc1.a,cc1.ha,cc1.hn,cc1.ht,cc1.hm⟩;have F4:=BQ (st:=gE) l4 c4 k4;have b4:=FunD.bindsD (ps:=["self","top","bottom"]) (ds:=[]) (tup:=[.int 1 tk4_0]) 3 F4 t4 rfl rfl λ_ _ _ _ _ _=>us3 λ_ _ _=>⟨_,rfl,rfl⟩
 have bD4:=FunD.bindsD (ps:=["self","top","bottom"]) (ds:=[.int 1 tk4_0]) (tup:=[.int 1 tk4_0]) 2 F4 t4 rfl rfl λ_ _ _ _ _ _=>us2 λ_ _=>⟨_,rfl,rfl⟩
 obtain⟨_,_,_,_,_,_,_,_,_,e,_,_⟩:=F48.ex;refine⟨fdL,λs v=>.of_eq (by rw[e];rfl),λbase KB GB hNS=>?_⟩;have Z:Bx l.prog w base:=⟨rfl,rfl,rfl⟩;have C1:=cal Z X G a1 F1 (zx F1 T) λ_ _ _ _ _ _=>us2 λ_ _=>rfl
 have C2:=cal Z X G a2 F2 (zy F2 T C1) λ_ _ _ _ _ _=>us1 λ_=>rfl
 have C3:=cal Z X G a3 F3 (zq F3 T) λ_ _ _ _ _ _=>us1 λ_=>rfl
 have K1:KCal l.prog w K mg base 2 CC1 "Ratio" ["self","top","bottom"] (im CC1) _ _ _ [.int 1]:=⟨Aq F4 T R1 C1,⟨cc1.mkr,a4,i4,cc1.kc⟩,PySem.W.mg_of X G cc1.a,b4,bD4,.cons ⟨_,rfl⟩ .nil⟩;have C5:=cal Z X G a5 F5 (zD F5 T) λ_ _ _ _ _ _=>us1 λ_=>rfl
 have C6:=cal Z X G a6 F6 (zJ F6 T) λ_ _ _ _ _ _=>us1 λ_=>rfl
 have C7:=cal Z X G a7 F7 (zK F7 T) λ_ _ _ _ _ _=>us2 λ_ _=>rfl
 have C8:=cal Z X G a8 F8 (zt F8 T C5 C7) λ_ _ _ _ _ _=>us2 λ_ _=>rfl
 have C9:=cal Z X G a9 F9 (zu F9 T) λ_ _ _ _ _ _=>us1 λ_=>rfl
 have C10:=cal Z X G a10 F10 (zw F10 T hNS hTr C2) λ_ _ _ _ _ _=>us1 λ_=>rfl
 have C11:=cal Z X G a11 F11 (zz F11 T) λ_ _ _ _ _ _=>us2 λ_ _=>rfl
 have C12:=cal Z X G a12 F12 (zG F12 T) λ_ _ _ _ _ _=>us4 λ_ _ _ _=>rfl
 have C13:=cal Z X G a13 F13 (zI F13 T C3 C6 C11 C12 C5) λ_ _ _ _ _ _=>us2 λ_ _=>rfl
 have C14:=cal Z X G a14 F14 (zB F14 T C10 C13 C8) λ_ _ _ _ _ _=>us2 λ_ _=>rfl
 have C15:=cal Z X G a15 F15 (zA F15 T C14 C9) λ_ _ _ _ _ _=>us1 λ_=>rfl
 have C16:=cal Z X G a16 F16 (zr F16 T) λ_ _ _ _ _ _=>us3 λ_ _ _=>rfl
 have C17:=cal Z X G a17 F17 (zv F17 T R1 C16 C3) λ_ _ _ _ _ _=>us2 λ_ _=>rfl
 have C18:=cal Z X G a18 F18 (zL F18 T R1 C17) λ_ _ _ _ _ _=>us2 λ_ _=>rfl
 have C19:=cal Z X G a19 F19 (zN F19 T) λ_ _ _ _ _ _=>us1 λ_=>rfl
 have C20:=cal Z X G a20 F20 (zE F20 T R1 K1) λ_ _ _ _ _ _=>us2 λ_ _=>rfl
 have C21:=cal Z X G a21 F21 (zM F21 T R1 C6 C15 K1 C19 C18 C20) λ_ _ _ _ _ _=>us1 λ_=>rfl
 have C22:=cal Z X G a22 F22 (An F22 T) λ_ _ _ _ _ _=>us2 λ_ _=>rfl
 have C23:=cal Z X G a23 F23 (zO F23 T) λ_ _ _ _ _ _=>us1 λ_=>rfl
 have C24:=cal Z X G a24 F24 (zP F24 T) λ_ _ _ _ _ _=>us1 λ_=>rfl
 have C25:=cal Z X G a25 F25 (Ad F25 T) λ_ _ _ _ _ _=>us2 λ_ _=>rfl
 have C26:=cal Z X G a26 F26 (Ah F26 T) λ_ _ _ _ _ _=>us2 λ_ _=>rfl
 have C27:=cal Z X G a27 F27 (Af F27 T R1 C23 C26) λ_ _ _ _ _ _=>us1 λ_=>rfl
 have C28:=cal Z X G a28 F28 (zU F28 T hNS hTr C26) λ_ _ _ _ _ _=>us1 λ_=>rfl
 have C29:=cal Z X G a29 F29 (Ab F29 T C28) λ_ _ _ _ _ _=>us1 λ_=>rfl
 have C30:=cal Z X G a30 F30 (Ak F30 T) λ_ _ _ _ _ _=>us2 λ_ _=>rfl
 have C31:=cal Z X G a31 F31 (zV F31 T C29) λ_ _ _ _ _ _=>us1 λ_=>rfl
 have C32:=cal Z X G a32 F32 (Aj F32 T C30 C31) λ_ _ _ _ _ _=>us3 λ_ _ _=>rfl
 have C33:=cal Z X G a33 F33 (Aa F33 T C25 C31) λ_ _ _ _ _ _=>us1 λ_=>rfl
 have C34:=cal Z X G a34 F34 (zR F34 T) λ_ _ _ _ _ _=>us2 λ_ _=>rfl
 have C35:=cal Z X G a35 F35 (zT F35 T C34) λ_ _ _ _ _ _=>us3 λ_ _ _=>rfl
 have C36:=cal Z X G a36 F36 (zX F36 T) λ_ _ _ _ _ _=>us1 λ_=>rfl
 have C37:=cal Z X G a37 F37 (zZ F37 T C24) λ_ _ _ _ _ _=>us2 λ_ _=>rfl
 have C38:=cal Z X G a38 F38 (zS F38 T) λ_ _ _ _ _ _=>us1 λ_=>rfl
 have C39:=cal Z X G a39 F39 (Ac F39 T) λ_ _ _ _ _ _=>us2 λ_ _=>rfl
 have C40:=cal Z X G a40 F40 (Ai F40 T C38 C28 C37 C39) λ_ _ _ _ _ _=>us1 λ_=>rfl
 have C41:=cal Z X G a41 F41 (zW F41 T C38 C28 C37) λ_ _ _ _ _ _=>us1 λ_=>rfl
 have C42:=cal Z X G a42 F42 (Am F42 T) λ_ _ _ _ _ _=>us2 λ_ _=>rfl
 have C43:=cal Z X G a43 F43 (Ap F43 T C24 C40) λ_ _ _ _ _ _=>us1 λ_=>rfl
 have C44:=cal Z X G a44 F44 (Ae F44 T C42 C35) λ_ _ _ _ _ _=>us3 λ_ _ _=>rfl
 have C45:=cal Z X G a45 F45 (Ao F45 T) λ_ _ _ _ _ _=>us1 λ_=>rfl
 have C46:=cal Z X G a46 F46 (Ag F46 T C44) λ_ _ _ _ _ _=>us4 λ_ _ _ _=>rfl
 have C47:=cal Z X G a47 F47 (zY F47 T R1) λ_ _ _ _ _ _=>us1 λ_=>rfl
 exact zH F48 T R1 C22 C32 C25 C33 C36 C43 C41 C45 C44 C21 C27 C46 C47
theorem walk{l:PySem.W.OpenLaw}{q:Program}{loose:List Str}{XP:(Str->Option Value)->Heap->Prop}{YP:World->Heap->Prop}{d:DefRec}{K:Params->PySem.W.Frag}(hi:PyProof.Rows.importsNone q=true)(hn:l.most=some 63)(hdf:d.params.defaults=[])
 (hY:∀(w:World) (h:Heap),YP w h->(K w.params).In h)
 (F:∀(w:World) (mg:Str->Option Value) (fa:Addr) (h:Heap),(K w.params).In h->h.Ns mainGlobals mg->mg d.name=some (.ref fa) ->
   ∃fd:FuncData,(∀(s:Shared) (u:Value),BindsTo s fd ⟨[u],[]⟩ [("_law_script",u)])/\∀base:Heap,(K w.params).In base->base.Ns mainGlobals mg->base.NoSeer->FnOk l.prog w (K w.params) mg base CX0 37 fa fd ["_law_script"] (jd (K w.params))) :
 PySem.W.WalkO q loose XP YP l.row.toRowW d [] (λf vs=>PySem.call f vs) :=
 L2.walk_ofS (n:=63) (k:=37) (x:="_law_script") (CX:=λ_=>CX0) (sp:=λw=>jd (K w.params)) hi hn (by decide) hdf ⟨rfl,by decide,by decide⟩ hY F (λ_ _ a ns hl _ hS=>⟨a,ns,rfl,hS,hl,λ_=>rfl⟩) λ_ _ _ _ _ z=>z
section
end
end R26
open PySem PySem.W PyProof.Rows
set_option maxRecDepth 100000 in
set_option maxHeartbeats 0 in
theorem PySem.Challenge.cw_rootspan_k26_whole_cells_holds : PySem.Challenge.rw_rootspan_k26_whole_cells.Holds := by
 w_on;o_law;k_head;(case hw=>w_witness2)
 k_fill
 refine R26.walk (l:=PySem.Challenge.rw_rootspan_k26_whole_cells) (by decide +kernel) rfl rfl (λw h Y=>PySem.W.kIn_of Y) ?F
 case F =>
  intro w mg fa h KX G hmg
  refine' R26.all_mk KX G hmg ?cc1 ?n1_top ?n1_bottom ?a4 ?i4 ?l4 ?c4 ?k4 ?t4 ?_ ?_ ?_ ?_ ?_ ?_ ?_ ?_ ?_ ?_ ?_ ?_ ?_ ?_ ?_ ?_ ?_ ?_ ?_ ?_ ?_ ?_ ?_ ?_ ?_ ?_ ?_ ?_ ?_ ?_ ?_ ?_ ?_ ?_ ?_ ?_ ?_ ?_ ?_ ?_ ?_ ?_ ?_ ?_ ?_ ?_ ?_ ?_ ?_ ?_ ?_ ?_ ?_ ?_ ?_ ?_ ?_ ?_ rfl
  (case cc1=>apply R26.ClL.mk<;>k_is)
  (case n1_top=>k_is)
  (case n1_bottom=>k_is)
  (case a4=>k_is)
  (case i4=>k_is)
  (case l4=>k_is)
  (case c4=>k_is)
  (case k4=>k_is)
  (case t4=>k_is)
  all_goals first | (apply R26.fnL<;>k_is) | (apply R26.mtL<;>k_is) |k_is
