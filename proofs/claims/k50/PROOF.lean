import PyProof.Rows.All
import Wide.All
import OpenK.AllK
import Wide.FinOn
import Lean
import PyProof.EqAt
import PyProof.EqKinds
import PyProof.TupleCall
import PySem.Challenge.RW_rootspan_k50_least_polynomials
set_option Elab.async false
set_option linter.all false
set_option maxRecDepth 100000
local macro_rules | `(tactic|omega)=>`(tactic|first |lia |omega (splitDisjunctions:=true))
noncomputable section
namespace Al
def MC:=@List.length_map
def MD:=@Rat.intCast_mul
def ME:=@Rat.le_refl
def MF:=@Rat.le_of_lt
def MG:=@List.mem_cons
def MH:=@List.mem_singleton
def MI:=@Nat.le_refl
def MJ:=@Rat.mul_nonneg
def MK:=@Nat.zero_le
def ML:=@Rat.mul_pos
def MM:=@Rat.le_total
def MN:=@Rat.div_mul_cancel
def MO:=@Int.mul_pos
def MP:=@Rat.intCast_lt_intCast
def MQ:=@Rat.mul_eq_zero
def MR:=@List.length_pos_iff
def MS:=@List.mem_append
def MT:=@List.not_mem_nil
def MU:=@Nat.le_trans
def MV:=@List.mem_cons_of_mem
def MW:=@Int.natAbs_mul
def MX:=@Rat.le_trans
def MY:=@List.length_append
def MZ:=@Rat.mul_le_mul_of_nonneg_left
def M0:=@List.mem_cons_self
def M5:=@List.size_toArray
def M6:=@Int.pow_succ
def M7:=@Int.ne_of_gt
def M8:=@List.mem_map
def M9:=@Int.one_mul
def Na:=@Int.mul_ne_zero
def Nb:=@Nat.ne_of_lt
def Nc:=@List.map_append
def Nd:=@Int.le_of_lt
def Nf:=@Nat.lt_of_lt_of_le
def Ng:=@List.length_cons
def Nh:=@Rat.intCast_le_intCast
def Ni:=@Rat.intCast_add
def Nj:=@Rat.not_lt
def Nk:=@Int.mul_zero
def Nl:=@Int.mul_one
def Nn:=@List.mem_append_right
def No:=@Int.mul_comm
def Np:=@List.pairwise_cons
def Nq:=@Int.pow_zero
def Nt:=@Int.natAbs_natCast
def Nu:=@Nat.lt_of_le_of_lt
def Nv:=@Int.add_zero
def Nw:=@Rat.mul_le_mul_of_nonneg_right
def Nx:=@Rat.not_le
def Ny:=@List.length_range
def Nz:=@Int.mul_nonneg
def NB:=@Rat.mul_lt_mul_of_pos_right
def NC:=@Int.zero_add
def ND:=@Rat.intCast_inj
def NE:=@Rat.intCast_neg
def NF:=@Nat.lt_irrefl
def NG:=@List.take_add_one
def NH:=@Rat.intCast_sub
def NI:=@Rat.mul_lt_mul_of_pos_left
def NJ:=@Nat.mul_le_mul_right
def NK:=@List.length_take
def NM:=@List.getElem_mem
def NN:=@Int.zero_mul
def NO:=@Nat.sub_zero
def NP:=@List.map_map
def NQ:=@Int.pow_pos
def NR:=@Nat.lt_succ_self
def NS:=@List.length_drop
def NT:=@Nat.le_of_not_lt
def NU:=@List.take_length
def NV:=@List.eq_nil_of_length_eq_zero
def NW:=@Rat.pow_succ
def NX:=@Rat.one_mul
def NY:=@List.pairwise_singleton
def NZ:=@Int.le_refl
def N0:=@Nat.sub_self
def N3:=@Int.natAbs_pos
def N4:=@Nat.gcd_dvd_left
def N5:=@Nat.le_mul_of_pos_left
def N6:=@List.map_congr_left
def N7:=@Rat.pow_pos
def N8:=@List.pairwise_append
def N9:=@Nat.mul_le_mul
def Oa:=@Rat.ne_of_gt
def Ob:=@List.mem_append_left
def Oc:=@List.map_cons
def Oe:=@Nat.le_of_eq
def Of:=@List.append_nil
def Og:=@List.lookup_cons
def Oh:=@Nat.add_mul
def Oi:=@Nat.mul_le_mul_left
def Oj:=@Int.mul_le_mul
def Ol:=@List.drop_zero
def Om:=@Nat.le_of_lt
def On:=@Bool.false_ne_true
def Oo:=@List.length_set
def Op:=@List.replicate_succ
def Os:=@List.append_assoc
def Ot:=@Int.natAbs_neg
def Ou:=@Nat.pow_pos
def Ov:=@Nat.gcd_dvd_right
def Ox:=@Int.ofNat_dvd_left
def Oy:=@Nat.one_mul
def Oz:=@Rat.pow_zero
def OA:=@Int.natAbs_sub_le
def OB:=@Nat.not_lt_zero
def OC:=@Int.ofNat_lt
def OD:=@Int.mul_assoc
def OE:=@Nat.dvd_trans
def OF:=@Int.mul_le_mul_of_nonneg_right
def OG:=@Int.eq_of_mul_eq_mul_left
def OH:=@Nat.gcd_zero_left
def OI:=@List.countP_eq_length
def OJ:=@Nat.pow_lt_pow_iff_right
def OK:=@List.flatten_cons
def OL:=@List.nil_append
def OM:=@List.reverse_append
def ON:=@List.length_eq_zero_iff
def OO:=@Int.natAbs_dvd_natAbs
def OP:=@Int.eq_ofNat_of_zero_le
def OQ:=@Int.natCast_pow
def OR:=@Nat.le_mul_of_pos_right
def OS:=@List.mem_iff_getElem
def OT:=@Nat.min_le_left
def OU:=@List.drop_length
def OV:=@List.drop_eq_getElem_cons
def OW:=@Int.natCast_nonneg
def OX:=@Nat.eq_zero_or_pos
def OY:=@Rat.intCast_natCast
def OZ:=@List.mem_singleton_self
def O0:=@Int.emod_lt_of_pos
def O1:=@List.mem_of_mem_drop
def O2:=@List.mem_of_mem_take
def O3:=@Nat.eq_of_mul_eq_mul_left
def O4:=@Int.eq_of_mul_eq_mul_right
def O5:=@Int.lt_of_mul_lt_mul_left
def O6:=@Int.natAbs_ediv_le_natAbs
end Al
open Al
abbrev Ex:=List Int
namespace PySem.W
structure Fast:Prop where(tw9442366993249906597 tw1390715084220266994 tw143794422906385522 tw13156555462306779409 tw17804424200440377811 tw16868279365449436042 tw5408516170568635191 tw7705364943131947723 tw17218236731436816368 tw5410269253840131353 tw4401659589821705597 tw10780570904267271158 tw8848319243109192435 tw3936589058859742083 tw12689678822191877757 tw9063411490883092645 tw15043781494930349535 tw1665201376844805346 tw13064790457102942158 tw6624123394075416434 tw8052394515863423328 tw13905286850346533311 tw5615831468400806897 tw534605149780954760 tw17567258616553224625 tw16989347168324485086 tw12447953002617269634 tw4194317869323423016 tw2859718598402843377 tw9352038700416365909 tw10155225819391568707 tw15392880970748200549 tw10365210626318241591 tw6769503435996629185 tw10798359413774299901 tw7752145628635651158 tw753744817526470924 tw6454149861798059500 tw10676431112610571170 tw10966699733153547683 tw277399097515609696 tw11860796899234682149 tw16288937997046367064 tw7524549037586551949 tw10425497949101546199 tw5587306524427515226 tw15180300738682809106 tw8795063121589128142 tw1495734811016565630 tw15659389645139059029 tw9989588597458540460 tw13759563301131192531 tw4928283693842328198 tw4857418375431955119 tw9417239136992919812 tw2916599048251610308 tw1379067514091096593 tw506842901685282457 tw12078399162415184938 tw2796363730379145887 tw5267228038853740378 tw18132922559413337503 tw11772889062602914989 tw18044980270313108034 tw911844878969519384 tw14273115897250947715 tw7987498746074947694 tw14034820158719338573 tw9878397675878011193 tw12830266662542867742 tw8222419406077732560 tw13020949270150823963 tw112819625856418749 tw8679688311762606643 tw4588807966220737860 tw5109987501902196617 tw6605502211331688054 tw1845687698299083481 tw995276625011026983 tw4838616207631865539 tw14957779056212727845 tw7185276822981618168 tw2283656467511036076 tw7774149951683994344 tw14647082798778044708 tw14517317693899838293 tw5240806007684870633 tw9761178686051059544 tw12920716270205820586 tw4421338353708199729 tw852094488769522404 tw17351254455492732453 tw2757437075030275077 tw16011841715664071482 tw405025151521892690 tw9659647569896664907 tw2601518662301458356 tw13825384059714877443 tw10313783973498938887 tw5014479951949393250 tw18139844978964923686 tw8331229505232728934 tw4284049369792765667 tw4488874837349748998 tw7048568265823176806 tw14558902931527591194 tw18290137471384765412 tw5879786164486100282 tw16781966717658745148 tw502898861966258820 tw7673952442110121343 tw5853626184614438139 tw2698953840410531697 tw4125647318163643214 tw8265842168998453895 tw8313688023158540827 tw11696529965352556286 tw733945521779223447 tw356113619126027138 tw1649408205926168723 tw18404816734707465750 tw2305815542206783679 tw16129602538885066680 tw2266316035282770839 tw12076971203517791126 tw8801142080158398769 tw6697771850929901595 tw14375395212862207920 tw8459552011015148289 tw8498533818537045030 tw11455967124525438118 tw15755210573146401037 tw15192807348567225405 tw14312473610395224975 tw3431982586373833616 tw837744107776216200 tw1107523428263090969 tw16176333652877062056 tw5168592861883245 tw14427772792094052139 tw12044937671174240792 tw9632567041148739452 tw11737445805066099721 tw18204555073160878694 tw5292884255019058213 tw12150190588385620279 tw18417085094558908690 tw1288572791267077238 tw15900648030521476566 tw1883951617324683256 tw16005818343972267328 tw10526743181883103067 tw14777600779439820590 tw10603889252328964607 tw6763608312372853912 tw6065268573043521716 tw7109717388630495288 tw8984715452620917436 tw17348794276164938815 tw2890758328474870447 tw9577431964759620277 tw14644078654325250335 tw10621447813766551555 tw16940826699928184219 tw15474539403630416991 tw16660929863688152191 tw6444746462718642498 tw11732680022063759328 tw9420250835623829051 tw13829192843443091501 tw211014222130202421 tw11393042422093057830 tw15074628979992597649 tw13916519340941175930 tw1128383957539963086 tw5745035148681587099 tw5839836297658012842 tw13763964942330992944 tw15549961297733964752 tw5636447865147645543 tw16464463658666454923 tw6081815720656384133 tw8507460610713350380 tw7642923170599101306 tw2977813341397472039 tw2354113504728378394 tw7050252911911638214 tw17313726105354603253 tw2690805121909085700 tw7508581780932000402 tw1291196615541634931 tw1163354820846984477 tw17781276410746183576 tw2511157657504348045 tw8590478275917308123 tw14721001565180266282 tw9483626525816235074 tw12561200434466737367 tw9704386771895578718 tw11195783051646932291 tw11071077203743180017 tw9704488582397795047 tw13273494012373803460 tw16917301493585427499 tw17615961077304024154 tw18372102859506964529 tw2992782386368571330 tw9793215420427177987 tw16760196488571705913 tw3507276762124038464 tw1099492529295553799:True)
end PySem.W
namespace L2
open PySem PySem.Spec PyProof.Rows
abbrev Key:=Sum Int Str
noncomputable def zy:Key->Value->Bool
 |.inl k,v=>Value.isInt k v
 |.inr x,v=>Value.isStrOf x v
noncomputable def Hi(w:World):Key->Int
 |.inl k=>hashInt k
 |.inr x=>hashStr w x
theorem gM:∀{k:Key} {v:Value},zy k v=true->(∃i t,k=Sum.inl i/\v=Value.int i t)\/(∃x t,k=Sum.inr x/\v=Value.str x t)
 |.inl i,v,h=>by obtain⟨t,e⟩:=Value.isInt_shape (k:=i) (v:=v) h;exact .inl ⟨i,t,rfl,e⟩
 |.inr x,v,h=>by obtain⟨t,e⟩:=Value.isStrOf_shape (x:=x) (v:=v) h;exact .inr ⟨x,t,rfl,e⟩
def Hh(a b:Int):decide ((Sum.inl a:Key)=Sum.inl b)=(a == b):=by
 by_cases e:a=b
 ·subst e;simp
 ·have h:¬(Sum.inl a:Key)=Sum.inl b:=λq=>e (Sum.inl.inj q)
  rw[decide_eq_false h];exact(beq_eq_false_iff_ne.mpr e).symm
def He(a b:Str):decide ((Sum.inr a:Key)=Sum.inr b)=decide (a=b):=by
 by_cases e:a=b
 ·subst e;simp
 ·have h:¬(Sum.inr a:Key)=Sum.inr b:=λq=>e (Sum.inr.inj q)
  rw[decide_eq_false h,decide_eq_false e]
def Hg(a:Int)(b:Str):decide ((Sum.inl a:Key)=Sum.inr b)=false:=decide_eq_false (λq=>nomatch q)
def Hf(a:Str)(b:Int):decide ((Sum.inr a:Key)=Sum.inl b)=false:=decide_eq_false (λq=>nomatch q)
noncomputable def tV(prog:Program)(w:World):PySem.KeyKind prog w Key where
 is:=zy
 hash:=Hi w
 inj:=λv a b ha hb=>by
  rcases gM ha with⟨i,t,rfl,rfl⟩ |⟨x,t,rfl,rfl⟩
  ·rcases gM hb with⟨j,u,rfl,e⟩ |⟨y,u,rfl,e⟩
   ·injection e with e1 _;rw[e1]
   ·exact nomatch e
  ·rcases gM hb with⟨j,u,rfl,e⟩ |⟨y,u,rfl,e⟩
   ·exact nomatch e
   ·injection e with e1 _;rw[e1]
 byValue:=λk v h=>by rcases gM h with⟨i,t,rfl,rfl⟩ |⟨x,t,rfl,rfl⟩<;>rfl
 pyHash:=λhv h=>by
  rcases gM hv with⟨i,t,rfl,rfl⟩ |⟨x,t,rfl,rfl⟩
  ·exact wpAny_pyHash_int h
  ·exact wpAny_pyHash_str h
 eqBool:=λhu hv h=>by
  rcases gM hu with⟨i,t,rfl,rfl⟩ |⟨x,t,rfl,rfl⟩
  ·rcases gM hv with⟨j,u,rfl,rfl⟩ |⟨y,u,rfl,rfl⟩
   ·rw[Hh]at h;exact wpAny_eqBool_int h
   ·rw[Hg]at h;exact SeqAt.EqAt.int_str i t y u _ _ _ _ h
  ·rcases gM hv with⟨j,u,rfl,rfl⟩ |⟨y,u,rfl,rfl⟩
   ·rw[Hf]at h;exact SeqAt.EqAt.str_int x t j u _ _ _ _ h
   ·rw[He]at h;exact wpAny_eqBool_str h
 «strs»:=λk x t v h=>by
  rcases gM h with⟨i,u,rfl,e⟩ |⟨y,u,rfl,e⟩
  ·exact nomatch e
  ·injection e with e1 _
   subst e1;cases v<;>rfl
inductive V where
 |non |bl (b:Bool) |int (i:Int) |str (x:Str) |byt (b:Array UInt8) |flt (b:UInt64) |ref (a:Addr) |ty (n:String)
 deriving DecidableEq
noncomputable def RelV:V->Value->Prop
 |.non,u=>u=Value.none
 |.bl b,u=>u=Value.bool b
 |.int i,u=>∃t,u=Value.int i t
 |.str x,u=>∃t,u=Value.str x t
 |.byt b,u=>∃t,u=Value.bytes b t
 |.flt b,u=>∃t,u=Value.float b t
 |.ref a,u=>u=Value.ref a
 |.ty n,u=>u=Value.type n
abbrev Vals:List V->List Value->Prop:=Paired RelV
def Vals.length{xs:List V}{us:List Value}(r:Vals xs us):xs.length=us.length:=Paired.length r
theorem Vals.get:∀{xs:List V} {us:List Value} {i:Nat} {x:V},Vals xs us->xs[i]?=some x->∃u,us[i]?=some u/\RelV x u
 |_,_,_,_,.nil,e=>by simp at e
 |_,_,0,_,.cons r _,e=>by simp at e;subst e;exact⟨_,rfl,r⟩
 |_,_,i+1,x,.cons _ t,e=>by obtain⟨u,h1,h2⟩:=Vals.get (i:=i) (x:=x) t (by simpa using e);exact⟨u,by simpa using h1,h2⟩
theorem Vals.set{x:V}{u:Value}(r:RelV x u):∀{xs:List V} {us:List Value} (i:Nat),Vals xs us->Vals (xs.set i x) (us.set i u)
 |_,_,_,.nil=>.nil
 |_,_,0,.cons _ t=>.cons r t
 |_,_,i+1,.cons q t=>.cons q (Vals.set r i t)
theorem Vals.append:∀{xs ys:List V} {us ws:List Value},Vals xs us->Vals ys ws->Vals (xs++ys) (us++ws)
 |_,_,_,_,.nil,s=>s
 |_,_,_,_,.cons r t,s=>.cons r (Vals.append t s)
theorem Vals.take:∀{xs:List V} {us:List Value} (n:Nat),Vals xs us->Vals (xs.take n) (us.take n)
 |_,_,0,_=>.nil
 |_,_,_+1,.nil=>.nil
 |_,_,n+1,.cons r t=>.cons r (Vals.take n t)
theorem Vals.drop:∀{xs:List V} {us:List Value} (n:Nat),Vals xs us->Vals (xs.drop n) (us.drop n)
 |_,_,0,r=>r
 |_,_,_+1,.nil=>.nil
 |_,_,n+1,.cons _ t=>Vals.drop n t
noncomputable def RelO:Option V->Option Value->Prop
 |some v,some u=>RelV v u
 |none,none=>True
 |_,_=>False
noncomputable def KV{κ:Type}:List (κ×V)->List (κ×Value)->Prop:=Paired λ(p:κ×V) (q:κ×Value)=>p.1=q.1/\RelV p.2 q.2
noncomputable def kV:Key->V
 |.inl i=>.int i
 |.inr x=>.str x
inductive HO where
 |lst (xs:List V)
 |tup (xs:List V)
 |dK (kvs:List (Key×V)) |dT (kvs:List (List Key×V))
 |set (S:Int->Bool) (n:Nat)
 |ins (C dx:Addr) (fs:List (Str×V))
 |own (x:Addr)
 |xd (fs:List (Str×V))
 |met (f x:Addr)
 |rng (lo hi:Int)
 |frz (o:Obj) (u:HO)
 |tbl (ps:Array Value)
 |ext (φ:Heap->Prop)
abbrev Hp:=Addr->Option HO
noncomputable def upd(H:Hp)(a:Addr)(o:HO):Hp:=λb=>if b=a then some o else H b
def ar{H:Hp}{a:Addr}{o:HO}:upd H a o a=some o:=by unfold upd;rw[if_pos rfl]
def upd_ne{H:Hp}{a b:Addr}{o:HO}(h:b≠a):upd H a o b=H b:=by unfold upd;rw[if_neg h]
def mD{H:Hp}{a:Addr}{o u:HO}:upd (upd H a o) a u=upd H a u:=by funext b;unfold upd;split<;>rfl
def bh{H:Hp}{a b:Addr}{o:HO}(h:H a=some o)(h':H b=none):a≠b:=by intro e;subst e;rw[h]at h';cases h'
section
variable (P:Program)(w:World)
noncomputable def ObjOk(H:Hp)(h:Heap)(a:Addr):HO->Prop
 |.lst xs=>xs.length<=sizeLine/\∃(its:List Value) (n:Nat),Vals xs its/\h.get? a=some { cls:=.type "list",data:=.seq its.toArray n }
 |.tup xs=>xs.length<=sizeLine/\∃its:List Value,Vals xs its/\IsTup h a its.toArray
 |.dK kvs=>kvs.length<=sizeLine/\(a == sysModules)=false/\∃vs,KV kvs vs/\h.DictOf (tV P w) a vs
 |.dT kvs=>kvs.length<=sizeLine/\(a == sysModules)=false/\∃xs:List (List Key×Addr×Value),
  Paired (λ(p:List Key×V) (q:List Key×Addr×Value)=>p.1=q.1/\H q.2.1=some (.tup (p.1.map kV))/\RelV p.2 q.2.2) kvs xs /\
  ∃o es ep,h.get? a=some o/\o.ExactDict/\o.data=.dict es ep/\es.toList=xs.map (entryOfKey (tupleKind (tV P w)))/\(xs.map (·.1)).Nodup
 |.set S n=>h.SetOf (intKind P w) a S n
 |.ins C dx fs=>H dx=some (.own a)/\fs.length<=1000/\dx≠a/\h.get? a=some (PySem.W.instObj C dx) /\
  ∃mA,h.Ns1 dx mA/\(∀f,RelO (fs.lookup f) (mA f))/\PySem.Within mA (fs.map (·.1))
 |.own _=>∃o,h.get? a=some o
 |.xd fs=>∃mA,h.Ns1 a mA/\∀f,RelO (fs.lookup f) (mA f)
 |.rng lo hi=>∃t u v,h.get? a=some { cls:=.type "range",data:=.fields #[.int lo t,.int hi u,.int 1 v] }
 |.frz o u=>h.get? a=some o/\ObjOk H h a u
 |.tbl ps=>h.get? a=some { cls:=.none,data:=.fields ps }
 |.met f x=>h.get? a=some (PySem.W.methodObj (.ref f) (.ref x))
 |.ext φ=>φ h/\(∃o,h.get? a=some o)/\∀h1 h2:Heap,φ h1->(∀o,h1.get? a=some o->h2.get? a=some o)->φ h2
def HOk(H:Hp)(h:Heap):Prop:=∀a o,H a=some o->ObjOk P w H h a o
end
section
variable {P:Program}{w:World}{H H':Hp}{h h':Heap}{a:Addr}{o:HO}
def ObjOk.lt(x:ObjOk P w H h a o):a<h.objs.size:=by
 cases o with
 |lst xs=>obtain⟨_,_,_,_,e⟩:=x;exact Heap.lt_size e
 |tup xs=>obtain⟨_,_,_,p⟩:=x;exact p.lt
 |dK kvs=>obtain⟨_,_,_,_,o,_,_,e,_⟩:=x;exact Heap.lt_size e
 |dT kvs=>obtain⟨_,_,_,_,o,_,_,e,_⟩:=x;exact Heap.lt_size e
 |set S n=>obtain⟨o,_,_,_,e,_⟩:=x;exact Heap.lt_size e
 |ins C dx fs=>obtain⟨_,_,_,e,_⟩:=x;exact Heap.lt_size e
 |own y=>obtain⟨_,e⟩:=x;exact Heap.lt_size e
 |xd fs=>obtain⟨_,⟨_,_,_,e,_⟩,_⟩:=x;exact Heap.lt_size e
 |rng lo hi=>obtain⟨_,_,_,e⟩:=x;exact Heap.lt_size e
 |frz ob u=>obtain⟨e,_⟩:=x;exact Heap.lt_size e
 |tbl ps=>exact Heap.lt_size (show h.get? a=some _ from x)
 |met f y=>exact Heap.lt_size (show h.get? a=some _ from x)
 |ext φ=>obtain⟨_,⟨_,e⟩,_⟩:=x;exact Heap.lt_size e
theorem Paired.mapP{α β:Type}{F G:α->β->Prop}:∀{l₁:List α} {l₂:List β},Paired F l₁ l₂->(∀a b,F a b->G a b)->Paired G l₁ l₂
 |_,_,.nil,_=>.nil
 |_,_,.cons r t,f=>.cons (f _ _ r) (Paired.mapP t f)
theorem ObjOk.stay(x:ObjOk P w H h a o)(k:∀b u,(b=a\/H b=some (.own a))->h.get? b=some u->h'.get? b=some u)
 (ho:∀b,H b=some (.own a)->H' b=some (.own a)) (ht:∀b xs,H b=some (.tup xs)->H' b=some (.tup xs)):ObjOk P w H' h' a o:=by
 induction o with
 |lst xs=>obtain⟨z,its,n,r,e⟩:=x;exact⟨z,its,n,r,k _ _ (.inl rfl) e⟩
 |tup xs=>obtain⟨z,its,r,ob,e,c⟩:=x;exact⟨z,its,r,ob,k _ _ (.inl rfl) e,c⟩
 |dK kvs=>obtain⟨z,y,vs,r,ob,es,ep,e,c⟩:=x;exact⟨z,y,vs,r,ob,es,ep,k _ _ (.inl rfl) e,c⟩
 |dT kvs =>obtain⟨z,y,xs,r,ob,es,ep,e,c⟩:=x;exact⟨z,y,xs,Paired.mapP r λp q z=>⟨z.1,ht _ _ z.2.1,z.2.2⟩,ob,es,ep,k _ _ (.inl rfl) e,c⟩
 |set S n=>obtain⟨ob,es,ep,t,e,c⟩:=x;exact⟨ob,es,ep,t,k _ _ (.inl rfl) e,c⟩
 |ins C dx fs =>obtain⟨d,z,ne,e,mA,⟨od,es,ep,e2,c⟩,r⟩:=x;exact⟨ho _ d,z,ne,k _ _ (.inl rfl) e,mA,⟨od,es,ep,k _ _ (.inr d) e2,c⟩,r⟩
 |own y=>obtain⟨ob,e⟩:=x;exact⟨ob,k _ _ (.inl rfl) e⟩
 |xd fs=>obtain⟨mA,⟨od,es,ep,e,c⟩,r⟩:=x;exact⟨mA,⟨od,es,ep,k _ _ (.inl rfl) e,c⟩,r⟩
 |rng lo hi=>obtain⟨t,u,v,e⟩:=x;exact⟨t,u,v,k _ _ (.inl rfl) e⟩
 |frz ob u ih=>obtain⟨e,q⟩:=x;exact⟨k _ _ (.inl rfl) e,ih q⟩
 |tbl ps =>have e:h.get? a=some { cls:=.none,data:=.fields ps }:=x;show h'.get? a=some { cls:=.none,data:=.fields ps };exact k a _ (.inl rfl) e
 |met f y =>have e:h.get? a=some (PySem.W.methodObj (.ref f) (.ref y)):=x;show h'.get? a=some (PySem.W.methodObj (.ref f) (.ref y));exact k a _ (.inl rfl) e
 |ext φ=>obtain⟨p,⟨o,e⟩,st⟩:=x;exact⟨st _ _ p λo q=>k _ _ (.inl rfl) q,⟨o,k _ _ (.inl rfl) e⟩,st⟩
def HOk.lt(x:HOk P w H h)(e:H a=some o):a<h.objs.size:=(x a o e).lt
def HOk.fresh(x:HOk P w H h)(e:h.objs.size<=a):H a=none:=by
 cases q:H a with
 |none=>rfl
 |some u=>exact absurd (Nf (x.lt q) e) (NF _)
def HOk.kept(x:HOk P w H h)(k:∀b u,h.get? b=some u->h'.get? b=some u):HOk P w H h':=λa o e =>(x a o e).stay (λb u _ q=>k b u q) (λ_ q=>q) λ_ _ q=>q
def HOk.laid(x:HOk P w H h)(k:∀b u,h.get? b=some u->h'.get? b=some u)(hp:h.objs.size<=a)(new:ObjOk P w (upd H a o) h' a o):HOk P w (upd H a o) h':=λb u e=>by
 have hn:=x.fresh hp;by_cases hb:b=a
 ·subst hb;rw[ar]at e;cases e;exact new
 ·rw[upd_ne hb]at e;exact(x b u e).stay (λc v _ q=>k c v q) (λc q=>by rw[upd_ne (bh q hn)];exact q) λc xs q=>by rw[upd_ne (bh q hn)];exact q
end
def Rd(H:Hp)(a:Addr)(u:HO):Prop:=H a=some u\/∃o,H a=some (.frz o u)
def Rd.of{H:Hp}{a:Addr}{u:HO}(h:H a=some u):Rd H a u:=.inl h
def Rd.ok{P:Program}{w:World}{H:Hp}{h:Heap}{a:Addr}{u:HO}(r:Rd H a u)(x:HOk P w H h):ObjOk P w H h a u:=by
 rcases r with r |⟨o,r⟩
 ·exact x a u r
 ·obtain⟨_,q⟩:=x a _ r;exact q
noncomputable def Mut:Option HO->Prop
 |some (.lst _)=>True
 |some (.dK _)=>True
 |some (.dT _)=>True
 |some (.set _ _)=>True
 |some (.ins _ _ _)=>True
 |some (.ext _)=>True
 |_=>False
section
variable {P:Program}{w:World}{H:Hp}{h h':Heap}{x e:Addr}{o':HO}
def HOk.write(ok:HOk P w H h)(mu:Mut (H x))(he:e=x\/H e=some (.own x))(k:∀b u,b≠e->h.get? b=some u->h'.get? b=some u)(heo:∃u,h'.get? e=some u)
 (new:ObjOk P w (upd H x o') h' x o'):HOk P w (upd H x o') h':=λb u q=>by
 have nown:∀c y,H c=some (.own y)->c≠x:=λc y r z=>by subst z;rw[r]at mu;exact mu
 have ntup:∀c xs,H c=some (.tup xs)->c≠x:=λc xs r z=>by subst z;rw[r]at mu;exact mu
 by_cases hb:b=x
 ·subst hb;rw[ar]at q;cases q;exact new
 ·rw[upd_ne hb]at q;by_cases hbe:b=e
  ·have q':H b=some (.own x):=by
    rcases he with z |z
    ·exact absurd (hbe.trans z) hb
    ·rw[hbe];exact z
   rw[q]at q';cases q';obtain⟨v,hv⟩:=heo;exact⟨v,by rw[hbe];exact hv⟩
  ·refine(ok b u q).stay (λc v hc r=>k c v ?_ r) (λc r=>by rw[upd_ne (nown c b r)];exact r) λc xs r=>by rw[upd_ne (ntup c xs r)];exact r
   rcases hc with rfl |hc
   ·exact hbe
   ·rintro rfl;rcases he with z |z
    ·exact nown c b hc z
    ·rw[hc]at z;cases z;exact hb rfl
end
structure Un(fs ex:List Addr)(H H':Hp)(h h':Heap):Prop where
 keep:∀b o,h.get? b=some o->H b=none->b∉fs->b∉ex->h'.get? b=some o
 slot:∀b o,h.get? b=some o->H b=none->b∈fs->b∉ex->∃sl,h'.get? b=some { o with slots:=sl }
 free:∀b o,h.get? b=some o->H b=none->b∉ex->H' b=none
 there:∀b o,h.get? b=some o->b∉ex->∃o',h'.get? b=some o'
 tups:∀b xs,H b=some (.tup xs)->H' b=some (.tup xs)
 frzs:∀b o u,H b=some (.frz o u)->H' b=some (.frz o u)
 tbls:∀b ps,H b=some (.tbl ps)->∃more,H' b=some (.tbl (ps++more))
section
variable {fs fs' ex ex':List Addr}{H H1 H2:Hp}{h h1 h2 h':Heap}{a x e:Addr}{o:HO}
def Un.any(u:Un fs ex H H1 h h1){b:Addr}{ob:Obj}(q:h.get? b=some ob)(n:H b=none)(hx:b∉ex):∃sl,h1.get? b=some { ob with slots:=sl }:=by
 by_cases hb:b∈fs
 ·exact u.slot b ob q n hb hx
 ·exact⟨ob.slots,u.keep b ob q n hb hx⟩
def Un.kept(k:∀b u,h.get? b=some u->h'.get? b=some u):Un fs ex H H h h' :=
 ⟨λb ob q _ _ _=>k b ob q,λb ob q _ _ _=>⟨ob.slots,k b ob q⟩,λ_ _ _ n _=>n,λb ob q _=>⟨ob,k b ob q⟩,λ_ _ q=>q,λ_ _ _ q=>q,λ_ ps q=>⟨#[],by rw[q];simp⟩⟩
def Un.refl:Un fs ex H H h h:=Un.kept λ_ _ q=>q
def Un.laid(k:∀b u,h.get? b=some u->h'.get? b=some u)(hp:h.objs.size<=a)(hn:H a=none):Un fs ex H (upd H a o) h h' where
 keep:=λb u q _ _ _=>k b u q
 slot:=λb u q _ _ _=>⟨u.slots,k b u q⟩
 free:=λb u q n _=>by rw[upd_ne (Nb (Nf (Heap.lt_size q) hp))];exact n
 there:=λb u q _=>⟨u,k b u q⟩
 tups:=λb xs q=>by rw[upd_ne (bh q hn)];exact q
 frzs:=λb u xs q=>by rw[upd_ne (bh q hn)];exact q
 tbls:=λb ps q=>⟨#[],by rw[upd_ne (bh q hn),q];simp⟩
def Un.write(mu:Mut (H x))(he:e=x\/H e=some (.own x))(k:∀b u,b≠e->h.get? b=some u->h'.get? b=some u)(heo:∃u,h'.get? e=some u):Un fs ex H (upd H x o) h h':=by
 have hx:∀b,H b=none->b≠x:=λb n z=>by subst z;rw[n]at mu;exact mu
 have hb:∀b,H b=none->b≠e:=λb n z=>by
  subst z;rcases he with r |r
  ·exact hx b n r
  ·rw[n]at r;cases r
 have hm:∀b u,H b=some u->¬Mut (some u)->b≠x:=λb u q nm z=>by subst z;rw[q]at mu;exact nm mu
 refine⟨λb u q n _ _=>k b u (hb b n) q,λb u q n _ _=>⟨u.slots,k b u (hb b n) q⟩,λb u q n _=>by rw[upd_ne (hx b n)];exact n,λb u q _=>?_,
  λb xs q=>by rw[upd_ne (hm b _ q λz=>z)];exact q,λb u xs q=>by rw[upd_ne (hm b _ q λz=>z)];exact q,λb ps q=>⟨#[],by rw[upd_ne (hm b _ q λz=>z),q];simp⟩⟩
 by_cases hbe:b=e
 ·subst hbe;exact heo
 ·exact⟨u,k b u hbe q⟩
end
noncomputable def trk(h:Heap)(H:Hp):List Addr:=(List.range h.objs.size).filter λa=>(H a).isSome
noncomputable def gg(h:Heap)(H:Hp):Heap:=PySem.W.hideAll h (trk h H)
def HE(h:Heap)(H:Hp):(gg h H).objs.size=h.objs.size:=PySem.W.hideAll_size _ _
def HF{h:Heap}{H:Hp}{b:Addr}{o:Obj}(e:h.get? b=some o)(n:H b=none):(gg h H).get? b=some o :=
 PySem.W.hideAll_get _ e λhm=>by have q:(H b).isSome=true:=(List.mem_filter.mp hm).2;rw[n]at q;simp at q
def Gi{h:Heap}{H:Hp}{b:Addr}{o:Obj}(e:(gg h H).get? b=some o):h.get? b=some o/\H b=none:=by
 have e':h.get? b=some o:=PySem.W.of_hideAll (trk h H) e;refine⟨e',?_⟩;cases q:H b with
 |none=>rfl
 |some x =>have hm:b∈trk h H:=List.mem_filter.mpr ⟨List.mem_range.mpr (Heap.lt_size e'),by simp[q]⟩;have z:(gg h H).get? b=none:=PySem.W.hideAll_none (trk h H) hm;rw[z]at e;cases e
noncomputable def Kh(g h:Heap)(L:Addr):List (Addr×Obj):=(List.range h.objs.size).filterMap λa=>if a=L\/(g.get? a).isSome=true then none else(h.get? a).map λo=>(a,o)
noncomputable def rest(g h:Heap)(L d:Addr):List (Addr×Obj):=(Kh g h L).filter λp=>decide (p.1≠d)
structure Mod(K:PySem.W.Frag)(mg:Str->Option Value)(base:Heap):Prop where
 kin:K.In base
 glob:base.Ns mainGlobals mg
 blt:∃mb,base.Ns builtinsNs mb/\∀x:Str,x≠"__name__"->mb x=bootBuiltins x
 nolimit:base.NoLimit
structure Cx where
 prog:Program
 w:World
 K:PySem.W.Frag
 mg:Str->Option Value
 base:Heap
 A:Around
 N:List Str
 s₀:Shared
 H₀:Hp
 env:Env
 outer:List Env
 stack:List Env
 ex:List Addr
 fn:Str->Bool
 calm:Bool
 pn:List (Addr×Obj)
 xe:Value->Shared->Prop
noncomputable def frs(l:List Env):List Addr:=l.filterMap (·.frame)
abbrev Cx.fs(X:Cx):List Addr:=frs X.outer
def Vis(sc:Scope)(x:Str):Prop:=sc.names.lookup x=some .local\/sc.names.lookup x=some .cell\/sc.names.lookup x=some .free
def Loc(sc:Scope)(x:Str):Prop:=sc.names.lookup x=some .local\/sc.names.lookup x=some .cell
noncomputable def Km(env:Env)(h:Heap)(m:Str->Option Value)(x:Str)(u:Value):Prop :=
 (env.kindOf x=some .local/\m x=some u)\/((env.kindOf x=some .cell\/env.kindOf x=some .free)/\∃c,env.cells.lookup x=some c/\h.IsCell c (some u))
structure Cx.Ok(X:Cx):Prop where
 mod:Mod X.K X.mg X.base
 kind:X.env.scope.kind=.function
 glob:X.env.globals=mainGlobals
 blt:X.env.builtins=builtinsNs
 above:X.s₀.heap.objs.size<=X.env.locals
 inj:∀x y c,X.env.cells.lookup x=some c->X.env.cells.lookup y=some c->x=y
 has:∀x,(X.env.kindOf x=some .cell\/X.env.kindOf x=some .free)->∃c,X.env.cells.lookup x=some c
 cab:∀x c,X.fn x=true->X.env.cells.lookup x=some c->X.s₀.heap.objs.size<=c
 hd:X.calm=true->X.A.handled=none
 frames:X.A.frames=some X.stack
 stk:X.stack=X.outer\/(X.stack=X.env::X.outer/\X.env.frame=some X.env.locals)
 exf:∀b∈X.ex,b≠X.env.locals/\∀x c,X.env.cells.lookup x=some c->c≠b
 bs:∀b o,X.base.get? b=some o->X.s₀.heap.get? b=some o/\X.H₀ b=none
 bsz:X.base.objs.size<=X.s₀.heap.objs.size
 noex:∀b o,X.base.get? b=some o->b∉X.ex
 exfs:∀b∈X.ex,b∉X.fs
 funs:X.s₀.heap.FunFrames X.base X.outer
 frf:∀b∈X.fs,X.H₀ b=none
structure Inv(X:Cx)(pins:List (Addr×Obj))(σ:List (Option V))(H:Hp)(s:Shared):Prop where
 ok:X.Ok
 os:s.os=X.s₀.os
 bare:AllBare s.gens
 base:Un X.fs X.ex X.H₀ H X.s₀.heap s.heap
 loc:∃m,s.heap.Ns X.env.locals m/\∀(i:Nat) (x:Str) (v:V),X.N[i]?=some x->σ[i]?=some (some v)->Vis X.env.scope x->∃u,RelV v u/\Km X.env s.heap m x u
 cell:∀x c,X.env.cells.lookup x=some c->∃v,s.heap.IsCell c v
 free:H X.env.locals=none
 freeC:∀x c,X.env.cells.lookup x=some c->H c=none
 pin:∀p∈X.pn++pins,s.heap.get? p.1=some p.2/\H p.1=none/\p.1≠X.env.locals/\p.1∉X.fs/\∀v,p.2.data≠.cell v
 hok:HOk X.prog X.w H s.heap
 len:σ.length=X.N.length
section
variable {X:Cx}{pins:List (Addr×Obj)}{σ:List (Option V)}{H H':Hp}{s:Shared}{h':Heap}
def Cx.Ok.nofr(ok:X.Ok){b:Addr}{o:Obj}(e:X.base.get? b=some o):b∉X.fs:=λhb=>by have:=(ok.funs.mem hb).1;rw[e]at this;cases this
def Inv.bs(I:Inv X pins σ H s):∀b o,X.base.get? b=some o->s.heap.get? b=some o/\H b=none:=λb o e =>⟨I.base.keep b o (I.ok.bs b o e).1 (I.ok.bs b o e).2 (I.ok.nofr e) (I.ok.noex b o e),I.base.free b o (I.ok.bs b o e).1 (I.ok.bs b o e).2 (I.ok.noex b o e)⟩
def Inv.bk(I:Inv X pins σ H s):∀b o,X.base.get? b=some o->s.heap.get? b=some o:=λb o e=>(I.bs b o e).1
def Inv.mod(I:Inv X pins σ H s):Mod X.K X.mg X.base:=I.ok.mod
def Inv.kIn(I:Inv X pins σ H s):X.K.In s.heap:=I.ok.mod.kin.keeps I.bk
def Inv.nolimit(I:Inv X pins σ H s):s.heap.NoLimit:=I.ok.mod.nolimit.keeps I.bk
def Inv.lt(I:Inv X pins σ H s):X.env.locals<s.heap.objs.size:=let⟨_,hn,_⟩:=I.loc;hn.lt
def Inv.sz(I:Inv X pins σ H s):X.s₀.heap.objs.size<=s.heap.objs.size:=MU I.ok.above (Om I.lt)
def Inv.nofs(I:Inv X pins σ H s){a:Addr}(h:s.heap.objs.size<=a):a∉X.fs:=λhb=>by obtain⟨_,o,ho,_⟩:=I.ok.funs.mem hb;exact absurd (Nf (Heap.lt_size ho) (MU I.sz h)) (NF _)
def Inv.cne(I:Inv X pins σ H s):∀x c,X.env.cells.lookup x=some c->c≠X.env.locals:=λx c e z=>by obtain⟨v,o,ho,hd⟩:=I.cell x c e;obtain⟨m,⟨o',es,ep,ho',hd',_⟩,_⟩:=I.loc;rw[z,ho']at ho;cases ho;rw[hd']at hd;cases hd
def Inv.funs(I:Inv X pins σ H s):s.heap.FunFrames X.base X.outer:=by
 have all:∀(l:List Env),(∀b∈frs l,b∈X.fs)->X.s₀.heap.FunFrames X.base l->s.heap.FunFrames X.base l:=by
  intro l
  induction l with
  |nil=>intro _ _;trivial
  |cons env r ih =>
   intro hs hl;obtain⟨hk,⟨L,o,hf,hn,ho,hd⟩,hr⟩:=hl;have hL:L∈X.fs:=hs L (by unfold frs;rw[List.filterMap_cons,hf];exact M0);obtain⟨sl,e⟩:=I.base.slot L o ho (I.ok.frf L hL) hL λz=>I.ok.exfs L z hL
   exact⟨hk,⟨L,_,hf,hn,e,hd⟩,ih (λb hb=>hs b (by unfold frs;rw[List.filterMap_cons,hf];exact MV _ hb)) hr⟩
 exact all X.outer (λ_ hb=>hb) I.ok.funs
def Inv.stack(I:Inv X pins σ H s):s.heap.FunFrames X.base X.stack:=by
 rcases I.ok.stk with e |⟨e,hf⟩
 ·rw[e];exact I.funs
 ·rw[e];obtain⟨m,hn,_⟩:=I.loc;refine .cons (by rw[I.ok.kind];decide) hf hn ?_ I.funs;exact Heap.get?_none_of_le (MU I.ok.bsz I.ok.above)
def Inv.stkSub(I:Inv X pins σ H s):∀b∈frs X.stack,b∈X.env.locals::X.fs:=λb hb=>by
 rcases I.ok.stk with e |⟨e,hf⟩
 ·rw[e]at hb;exact MV _ hb
 ·rw[e]at hb;unfold frs at hb
  rw[List.filterMap_cons,hf]at hb;exact hb
def Inv.stkFree(I:Inv X pins σ H s):∀b∈frs X.stack,H b=none:=λb hb=>by
 rcases MG.mp (I.stkSub b hb)with e |hb
 ·rw[e];exact I.free
 ·obtain⟨_,o,ho,_⟩:=I.ok.funs.mem hb;exact I.base.free b o ho (I.ok.frf b hb) λz=>I.ok.exfs b z hb
def Inv.step{g':Array GenState}{t':Nat}{d':Drawn}{ch:List Addr}(I:Inv X pins σ H s)
 (hch:∀b∈ch,(b∈X.ex\/X.s₀.heap.objs.size<=b)/\b≠X.env.locals/\(∀x c,X.env.cells.lookup x=some c->c≠b)/\∀p∈X.pn++pins,p.1≠b)
 (keep:∀b o,b≠X.env.locals->b∉X.fs->b∉ch->s.heap.get? b=some o->H b=none->h'.get? b=some o)
 (slot:∀b o,b≠X.env.locals->b∈X.fs->b∉ch->s.heap.get? b=some o->H b=none->∃sl,h'.get? b=some { o with slots:=sl }) (free:∀b o,b∉ch->s.heap.get? b=some o->H b=none->H' b=none)
 (there:∀b o,b∉ch->s.heap.get? b=some o->∃o',h'.get? b=some o')
 (tups:∀b xs,H b=some (.tup xs)->H' b=some (.tup xs)) (frzs:∀b o u,H b=some (.frz o u)->H' b=some (.frz o u)) (tbls:∀b ps,H b=some (.tbl ps)->∃more,H' b=some (.tbl (ps++more)))
 (ns:∀m,s.heap.Ns X.env.locals m->h'.Ns X.env.locals m) (hok:HOk X.prog X.w H' h') (hg:AllBare g') :
 Inv X pins σ H' { s with heap:=h',gens:=g',drawn:=d',toks:=t' }:=by
 have neL:∀b o,X.s₀.heap.get? b=some o->b≠X.env.locals:=λb o e=>Nb (Nf (Heap.lt_size e) I.ok.above)
 have neC:∀b o,X.s₀.heap.get? b=some o->b∉X.ex->b∉ch:=λb o e hx hb=>by
  rcases(hch b hb).1 with z |z
  ·exact hx z
  ·exact absurd (Nf (Heap.lt_size e) z) (NF _)
 have cellK:∀x c,X.env.cells.lookup x=some c->∀v,s.heap.IsCell c v->h'.IsCell c v:=λx c e v ⟨o,ho,hd⟩=>by
  have nch:c∉ch:=λz=>(hch c z).2.2.1 x c e rfl
  by_cases hc:c∈X.fs
  ·obtain⟨sl,q⟩:=slot c o (I.cne x c e) hc nch ho (I.freeC x c e);exact⟨_,q,hd⟩
  ·exact⟨o,keep c o (I.cne x c e) hc nch ho (I.freeC x c e),hd⟩
 refine⟨I.ok,I.os,hg,⟨λb o e n hb hx=>?_,λb o e n hb hx=>?_,λb o e n hx=>?_,λb o e hx=>?_,λb xs e=>tups b xs (I.base.tups b xs e),λb o xs e=>frzs b o xs (I.base.frzs b o xs e),λb ps e=>?_⟩,?_,λx c e=>?_,?_,λx c e=>?_,λp hp=>?_,hok,I.len⟩
 ·exact keep b o (neL b o e) hb (neC b o e hx) (I.base.keep b o e n hb hx) (I.base.free b o e n hx)
 ·obtain⟨sl,e1⟩:=I.base.slot b o e n hb hx;obtain⟨sl',e2⟩:=slot b _ (neL b o e) hb (neC b o e hx) e1 (I.base.free b o e n hx);exact⟨sl',e2⟩
 ·obtain⟨o',e1⟩:=I.base.there b o e hx;exact free b o' (neC b o e hx) e1 (I.base.free b o e n hx)
 ·obtain⟨o',e1⟩:=I.base.there b o e hx;exact there b o' (neC b o e hx) e1
 ·obtain⟨m1,e1⟩:=I.base.tbls b ps e;obtain⟨m2,e2⟩:=tbls b _ e1;exact⟨m1++m2,by rw[e2,Array.append_assoc]⟩
 ·obtain⟨m,hn,hl⟩:=I.loc;refine⟨m,ns m hn,λi x v e1 e2 e3=>?_⟩;obtain⟨u,r,l⟩:=hl i x v e1 e2 e3;refine⟨u,r,?_⟩;rcases l with l |⟨k,c,e,z⟩
  ·exact .inl l
  ·exact .inr ⟨k,c,e,cellK x c e _ z⟩
 ·obtain⟨v,z⟩:=I.cell x c e;exact⟨v,cellK x c e v z⟩
 ·obtain⟨m,⟨o,_,_,ho,_⟩,_⟩:=I.loc;exact free _ o (λz=>(hch _ z).2.1 rfl) ho I.free
 ·obtain⟨v,o,ho,hd⟩:=I.cell x c e;exact free c o (λz=>(hch c z).2.2.1 x c e rfl) ho (I.freeC x c e)
 ·obtain⟨e,n,ne,nf,d⟩:=I.pin p hp;have nch:p.1∉ch:=λz=>(hch p.1 z).2.2.2 p hp rfl
  exact⟨keep p.1 p.2 ne nf nch e n,free p.1 p.2 nch e n,ne,nf,d⟩
def Inv.un{t':Nat}(I:Inv X pins σ H s)(u:Un X.fs [] H H' s.heap h')(hok:HOk X.prog X.w H' h'):Inv X pins σ H' { s with heap:=h',toks:=t' }:=by
 obtain⟨m,⟨o,es,ep,ho,r⟩,_⟩:=id I.loc;obtain⟨sl,hL⟩:=u.any ho I.free (by simp)
 exact I.step (g':=s.gens) (d':=s.drawn) (ch:=[]) (λ_ z=>nomatch z) (λb o _ hb _ e n=>u.keep b o e n hb (by simp)) (λb o _ hb _ e n=>u.slot b o e n hb (by simp)) (λb o _ e n=>u.free b o e n (by simp)) (λb o _ e=>u.there b o e (by simp)) u.tups u.frzs u.tbls (λm' hm=>by
  obtain⟨o',es',ep',ho',r'⟩:=hm;rw[ho]at ho';cases ho'
  exact⟨_,es',ep',hL,r'⟩) hok I.bare
def Inv.call{g':Array GenState}{t':Nat}{d':Drawn}{ch:List Addr}(I:Inv X pins σ H s)(u:Un (frs X.stack) ch H H' s.heap h')(hok:HOk X.prog X.w H' h')(hg:AllBare g')
 (hch:∀b∈ch,(b∈X.ex\/X.s₀.heap.objs.size<=b)/\b≠X.env.locals/\(∀x c,X.env.cells.lookup x=some c->c≠b)/\∀p∈X.pn++pins,p.1≠b) :
 Inv X pins σ H' { s with heap:=h',gens:=g',drawn:=d',toks:=t' }:=by
 obtain⟨m,⟨o,es,ep,ho,r⟩,_⟩:=id I.loc;obtain⟨sl,hL⟩:=u.any ho I.free λz=>(hch _ z).2.1 rfl
 exact I.step (ch:=ch) hch (λb o hL hb hc e n=>u.keep b o e n (λz=>(MG.mp (I.stkSub b z)).elim hL hb) hc) (λb o _ _ hc e n=>u.any e n hc) (λb o hc e n=>u.free b o e n hc) (λb o hc e=>u.there b o e hc) u.tups u.frzs u.tbls (λm' hm=>by
  obtain⟨o',es',ep',ho',r'⟩:=hm;rw[ho]at ho';cases ho'
  exact⟨_,es',ep',hL,r'⟩) hok hg
def Inv.turned{t':Nat}{it:Addr}(I:Inv X pins σ H s)(k:∀b o,b≠it->s.heap.get? b=some o->h'.get? b=some o)(hn:H it=none)(hL:it≠X.env.locals)
 (h1:it∈X.ex\/X.s₀.heap.objs.size<=it) (h2:∀x c,X.env.cells.lookup x=some c->c≠it) (h3:∀p∈X.pn++pins,p.1≠it):Inv X pins σ H { s with heap:=h',toks:=t' }:=by
 have nit:∀b u,H b=some u->b≠it:=λb u e z=>by rw[z,hn]at e;cases e
 refine I.step (g':=s.gens) (d':=s.drawn) (ch:=[it]) (λb hb=>?_) (λb o _ _ hc e _=>k b o (λz=>hc (by simp[z])) e) (λb o _ _ hc e _=>⟨o.slots,k b o (λz=>hc (by simp[z])) e⟩) (λ_ _ _ _ n=>n)
  (λb o hc e=>⟨o,k b o (λz=>hc (by simp[z])) e⟩) (λ_ _ e=>e) (λ_ _ _ e=>e) (λb ps e=>⟨#[],by rw[e];simp⟩) (λm hm=>?_) (λb u e=>?_) I.bare
 ·have e:b=it:=by simpa using hb
  subst e;exact⟨h1,hL,h2,h3⟩
 ·obtain⟨o,es,ep,ho,r⟩:=hm;exact⟨o,es,ep,k _ o (Ne.symm hL) ho,r⟩
 ·refine(I.hok b u e).stay (λc v hc q=>k c v ?_ q) (λ_ q=>q) λ_ _ q=>q
  rcases hc with z |z
  ·rw[z];exact nit b u e
  ·exact nit c _ z
def Inv.tok(I:Inv X pins σ H s)(t:Nat):Inv X pins σ H { s with toks:=t }:=I.un (h':=s.heap) (t':=t) Un.refl I.hok
def Inv.kept{t':Nat}(I:Inv X pins σ H s)(k:∀b u,s.heap.get? b=some u->h'.get? b=some u):Inv X pins σ H { s with heap:=h',toks:=t' }:=I.un (Un.kept k) (I.hok.kept k)
def Inv.laid{a:Addr}{o:HO}{t':Nat}(I:Inv X pins σ H s)(k:∀b u,s.heap.get? b=some u->h'.get? b=some u)(hp:s.heap.objs.size<=a)(new:ObjOk X.prog X.w (upd H a o) h' a o) :
 Inv X pins σ (upd H a o) { s with heap:=h',toks:=t' }:=I.un (Un.laid k hp (I.hok.fresh hp)) (I.hok.laid k hp new)
def Inv.write{x e:Addr}{o:HO}{t':Nat}(I:Inv X pins σ H s)(mu:Mut (H x))(he:e=x\/H e=some (.own x))(k:∀b u,b≠e->s.heap.get? b=some u->h'.get? b=some u)(heo:∃u,h'.get? e=some u)
 (new:ObjOk X.prog X.w (upd H x o) h' x o):Inv X pins σ (upd H x o) { s with heap:=h',toks:=t' }:=I.un (Un.write mu he k heo) (I.hok.write mu he k heo new)
def Inv.pins_of{pins':List (Addr×Obj)}(I:Inv X pins σ H s)(h:∀p∈pins',s.heap.get? p.1=some p.2/\H p.1=none/\p.1≠X.env.locals/\p.1∉X.fs/\∀v,p.2.data≠.cell v):Inv X pins' σ H s :=
 ⟨I.ok,I.os,I.bare,I.base,I.loc,I.cell,I.free,I.freeC,λp hp=>(MS.mp hp).elim (λz=>I.pin p (Ob _ z)) (h p),I.hok,I.len⟩
def yS{N:List Str}(hN:N.Nodup){i j:Nat}{x:Str}(a:N[i]?=some x)(b:N[j]?=some x):i=j:=by obtain⟨h1,e1⟩:=List.getElem?_eq_some_iff.mp a;obtain⟨h2,e2⟩:=List.getElem?_eq_some_iff.mp b;exact(List.getElem_inj hN).mp (e1.trans e2.symm)
def Cd{M:Model}{A:Around}{E:Value->Shared->Prop}{i:Nat}{x:Str}{v:V}{u:Value}{Q:Unit->Shared->Prop}(I:Inv X pins σ H s)(hN:X.N.Nodup)(hi:X.N[i]?=some x)(hx:Loc X.env.scope x)(r:RelV v u)
 (h:∀s',Inv X pins (σ.set i (some v)) H s'->(∃a,Heap.SameBut a s.heap s'.heap/\(a=X.env.locals\/X.env.cells.lookup x=some a))->Q () s') (hf:X.fn x=true\/X.env.scope.names.lookup x=some .local:=by first |exact .inl rfl |exact .inr rfl |assumption):wpAny M A (storeName X.env x u) Q E s:=by
 obtain⟨m,hn,hl⟩:=id I.loc;have hcls:(X.env.scope.kind == .class || (X.env.scope.kind == .module&&X.env.locals != X.env.globals))=false:=by rw[I.ok.kind];rfl
 have hiσ:i<σ.length:=by rw[I.len];exact(List.getElem?_eq_some_iff.mp hi).1
 have cne:=I.cne
 have tracked:∀{a:Addr} {h':Heap},(∃o,s.heap.get? a=some o/\H a=none)->Heap.SameBut a s.heap h'->HOk X.prog X.w H h':=λ{a h'} ha hs b ob e=>by
  obtain⟨_,_,hfree⟩:=ha;refine(I.hok b ob e).stay (λc w' hc q=>(hs.2 c ?_).trans q) (λ_ q=>q) λ_ _ q=>q
  rintro rfl;rcases hc with rfl |hc
  ·rw[hfree]at e;cases e
  ·rw[hfree]at hc;cases hc
 rcases hx with hk |hk
 ·refine wpAny_storeName_local hk hn (λh' hn' hs=>?_) hcls;obtain⟨oL,_,_,hoL,_⟩:=id hn;refine h _ ⟨I.ok,I.os,I.bare,⟨λb o e n hb hx=>?_,λb o e n hb hx=>?_,I.base.free,λb o e hx=>?_,I.base.tups,I.base.frzs,I.base.tbls⟩,⟨_,hn',λj y v' e1 e2 e3=>?_⟩,λy c e=>?_,I.free,I.freeC,λp hp=>?_,tracked ⟨oL,hoL,I.free⟩ hs,by simpa using I.len⟩ ⟨_,hs,.inl rfl⟩
  ·exact(hs.2 b (Nb (Nf (Heap.lt_size e) I.ok.above))).trans (I.base.keep b o e n hb hx)
  ·obtain⟨sl,e1⟩:=I.base.slot b o e n hb hx;exact⟨sl,(hs.2 b (Nb (Nf (Heap.lt_size e) I.ok.above))).trans e1⟩
  ·obtain⟨o',e1⟩:=I.base.there b o e hx;exact⟨o',(hs.2 b (Nb (Nf (Heap.lt_size e) I.ok.above))).trans e1⟩
  ·by_cases hj:j=i
   ·subst hj;rw[hi]at e1;cases e1;rw[List.getElem?_set_self hiσ]at e2;cases e2;exact⟨u,r,.inl ⟨hk,by simp⟩⟩
   ·rw[List.getElem?_set_ne (Ne.symm hj)]at e2;obtain⟨u',r',q⟩:=hl j y v' e1 e2 e3;refine⟨u',r',?_⟩;rcases q with⟨k,e⟩ |⟨k,c,e,z⟩
    ·refine .inl ⟨k,?_⟩;have:y≠x:=λe=>hj (yS hN e1 (e ▸ hi))
     simp[this,e]
    ·exact .inr ⟨k,c,e,z.sameBut hs (cne y c e)⟩
  ·obtain⟨w',z⟩:=I.cell y c e;exact⟨w',z.sameBut hs (cne y c e)⟩
  ·obtain⟨e,n,ne,nf,d⟩:=I.pin p hp;exact⟨(hs.2 p.1 ne).trans e,n,ne,nf,d⟩
 ·have hfn:X.fn x=true:=by
   rcases hf with z |z
   ·exact z
   ·rw[z]at hk;cases hk
  obtain⟨c,hc⟩:=I.ok.has x (.inl hk);obtain⟨w',z⟩:=I.cell x c hc;refine wpAny_storeName_cell I.ok.kind hk hc z (λh' hc' hs=>?_);obtain⟨oc,hoc,hocd⟩:=id z;refine h { s with heap:=h' } ⟨I.ok,I.os,I.bare,⟨λb o e n hb hx=>?_,λb o e n hb hx=>?_,I.base.free,λb o e hx=>?_,I.base.tups,I.base.frzs,I.base.tbls⟩,⟨m,hn.sameBut hs (Ne.symm (cne x c hc)),λj y v' e1 e2 e3=>?_⟩,λy c' e=>?_,I.free,I.freeC,λp hp=>?_,tracked ⟨oc,hoc,I.freeC x c hc⟩ hs,by simpa using I.len⟩ ⟨c,hs,.inr hc⟩
  ·exact(hs.2 b (Nb (Nf (Heap.lt_size e) (I.ok.cab x c hfn hc)))).trans (I.base.keep b o e n hb hx)
  ·obtain⟨sl,e1⟩:=I.base.slot b o e n hb hx;exact⟨sl,(hs.2 b (Nb (Nf (Heap.lt_size e) (I.ok.cab x c hfn hc)))).trans e1⟩
  ·obtain⟨o',e1⟩:=I.base.there b o e hx;exact⟨o',(hs.2 b (Nb (Nf (Heap.lt_size e) (I.ok.cab x c hfn hc)))).trans e1⟩
  ·by_cases hj:j=i
   ·subst hj;rw[hi]at e1;cases e1;rw[List.getElem?_set_self hiσ]at e2;cases e2;exact⟨u,r,.inr ⟨.inl hk,c,hc,hc'⟩⟩
   ·rw[List.getElem?_set_ne (Ne.symm hj)]at e2;obtain⟨u',r',q⟩:=hl j y v' e1 e2 e3;refine⟨u',r',?_⟩;rcases q with q |⟨k,c',e,z'⟩
    ·exact .inl q
    ·refine .inr ⟨k,c',e,z'.sameBut hs ?_⟩;rintro rfl;exact hj (yS hN e1 (I.ok.inj _ _ _ e hc ▸ hi))
  ·by_cases hcc:c'=c
   ·subst hcc;exact⟨_,hc'⟩
   ·obtain⟨w2,z2⟩:=I.cell y c' e;exact⟨w2,z2.sameBut hs hcc⟩
  ·obtain⟨e,n,ne,nf,d⟩:=I.pin p hp;refine⟨(hs.2 p.1 ?_).trans e,n,ne,nf,d⟩;intro q;rw[q,hoc]at e;have q':oc=p.2:=Option.some.inj e;exact d w' (by rw[<- q'];exact hocd)
def wI{M:Model}{A:Around}{E:Value->Shared->Prop}{i:Nat}{x:Str}{v:V}{u:Value}{Q:Unit->Shared->Prop}(I:Inv X pins σ H s)(hN:X.N.Nodup)(hi:X.N[i]?=some x)(hx:Loc X.env.scope x)(r:RelV v u)
 (h:∀s',Inv X pins (σ.set i (some v)) H s'->Q () s') (hf:X.fn x=true\/X.env.scope.names.lookup x=some .local:=by first |exact .inl rfl |exact .inr rfl |assumption):wpAny M A (storeName X.env x u) Q E s :=
 Cd I hN hi hx r (λs' I' _=>h s' I') hf
def Inv.call'{s':Shared}{ch:List Addr}(I:Inv X pins σ H s)(ho:s'.os=s.os)(u:Un (frs X.stack) ch H H' s.heap s'.heap)(hok:HOk X.prog X.w H' s'.heap)(hg:AllBare s'.gens)
 (hch:∀b∈ch,(b∈X.ex\/X.s₀.heap.objs.size<=b)/\b≠X.env.locals/\(∀x c,X.env.cells.lookup x=some c->c≠b)/\∀p∈X.pn++pins,p.1≠b):Inv X pins σ H' s':=by
 obtain⟨h',g',d',t',o'⟩:=s';have e:o'=s.os:=ho;subst e;exact I.call (g':=g') (t':=t') (d':=d') u hok hg hch
end
abbrev XK:=Value->Option Addr->Hp->Prop
abbrev St:=List (Option V)
abbrev VK:=V->Hp->Prop
abbrev TE:=St->Hp->VK->Prop
abbrev TT:=St->Hp->(Bool->Hp->Prop)->Prop
abbrev TA:=St->Hp->(List V->Hp->Prop)->Prop
structure Ends where
 nx:St->Hp->Prop
 rt:VK
 bk:St->Hp->Prop:=λ_ _=>False
 ct:St->Hp->Prop:=λ_ _=>False
abbrev TS:=Ends->St->Hp->Prop
def EP(X:Cx)(pins:List (Addr×Obj))(σ:St)(Q:VK)(u:Value)(s':Shared):Prop:=∃v H',Inv X pins σ H' s'/\RelV v u/\Q v H'
def TP(X:Cx)(pins:List (Addr×Obj))(σ:St)(Q:Bool->Hp->Prop)(b:Bool)(s':Shared):Prop:=∃H',Inv X pins σ H' s'/\Q b H'
def AP(X:Cx)(pins:List (Addr×Obj))(σ:St)(Q:List V->Hp->Prop)(us:List Value)(s':Shared):Prop:=∃vs H',Inv X pins σ H' s'/\Vals vs us/\Q vs H'
noncomputable def SP(X:Cx)(pins:List (Addr×Obj))(D:Ends)(f:Flow)(s':Shared):Prop :=
 match f with
 |.next=>∃Q2 H',Inv X pins Q2 H' s'/\D.nx Q2 H'
 |.brk=>∃Q2 H',Inv X pins Q2 H' s'/\D.bk Q2 H'
 |.cont=>∃Q2 H',Inv X pins Q2 H' s'/\D.ct Q2 H'
 |.ret u=>∃v Q2 H',Inv X pins Q2 H' s'/\RelV v u/\D.rt v H'
noncomputable def PE(X:Cx)(e:Expr)(t:TE):Prop :=
 ∀(pins:List (Addr×Obj)) (s:Shared) (σ:St) (H:Hp) (Q:VK),Inv X pins σ H s->t σ H Q->wpAny (model X.prog X.w) X.A (eval e X.env) (EP X pins σ Q) X.xe s
noncomputable def PT(X:Cx)(e:Expr)(t:TT):Prop :=
 ∀(pins:List (Addr×Obj)) (s:Shared) (σ:St) (H:Hp) (Q:Bool->Hp->Prop),Inv X pins σ H s->t σ H Q->wpAny (model X.prog X.w) X.A (isTrue e X.env (eval e X.env)) (TP X pins σ Q) X.xe s
noncomputable def PW(X:Cx)(e:Expr)(t:TT):Prop :=
 ∀(whole:Sem Value) (pins:List (Addr×Obj)) (s:Shared) (σ:St) (H:Hp) (Q:Bool->Hp->Prop),Inv X pins σ H s->t σ H Q->wpAny (model X.prog X.w) X.A (isTrue e X.env whole) (TP X pins σ Q) X.xe s
def PW.pt{X:Cx}{e:Expr}{t:TT}(h:PW X e t):PT X e t:=h _
noncomputable def PA(X:Cx)(es:List Expr)(t:TA):Prop :=
 ∀(pos:Pos) (pins:List (Addr×Obj)) (s:Shared) (σ:St) (H:Hp) (Q:List V->Hp->Prop),Inv X pins σ H s->t σ H Q->wpAny (model X.prog X.w) X.A (spliced (backTo pos (starEach es X.env))) (AP X pins σ Q) X.xe s
noncomputable def PS(X:Cx)(st:Stmt)(t:TS):Prop :=
 ∀(pins:List (Addr×Obj)) (s:Shared) (σ:St) (H:Hp) (D:Ends),Inv X pins σ H s->t D σ H->wpAny (model X.prog X.w) X.A (exec st X.env) (SP X pins D) X.xe s
noncomputable def PSs(X:Cx)(st:List Stmt)(t:TS):Prop :=
 ∀(pins:List (Addr×Obj)) (s:Shared) (σ:St) (H:Hp) (D:Ends),Inv X pins σ H s->t D σ H->wpAny (model X.prog X.w) X.A (execs st X.env) (SP X pins D) X.xe s
def aK{α:Type}{t:Sem α}{Q Q':α->Shared->Prop}{M:Model}{A:Around}{E:Value->Shared->Prop}{s:Shared}(h:wpAny M A t Q E s)(hQ:∀a s,Q a s->Q' a s):wpAny M A t Q' E s:=wpAny_mono h hQ λ_ _ x=>x
section
variable {X:Cx}
def kq(i:Nat):TE:=λσ H Q=>∃v,σ[i]?=some (some v)/\Q v H
def tC(v:V):TE:=λ_ H Q=>Q v H
def EA{i:Nat}{x:Str}{pos:Pos}(hN:X.N[i]?=some x)(hv:Vis X.env.scope x)(hd:(x == ("__debug__":Str))=false:=by decide)(hcd:(x == ("__classdict__":Str))=false:=by decide):PE X (.Name x pos) (kq i):=by
 intro pins s σ H Q I h;obtain⟨v,e,h⟩:=h;obtain⟨m,hn,hl⟩:=I.loc;obtain⟨u,r,l⟩:=hl i x v hN e hv;have fin:EP X pins σ Q u s:=⟨v,H,I,r,h⟩;rcases l with⟨hk,hm⟩ |⟨hk,c,hc,hcell⟩
 ·exact wpAny_Name (wpAny_loadName_local I.ok.kind hk hn hm fin) hd
 ·rcases hk with hk |hk
  ·exact wpAny_Name (wpAny_loadName_cell I.ok.kind hk hc hcell fin) hd
  ·exact wpAny_Name (wpAny_loadName_free I.ok.kind hk hc hcell fin hcd) hd
def ae{i j pos}:PE X (.Constant (.int i) j pos) (tC (.int i)):=λ_ _ _ H _ I h=>wpAny_Constant_int ⟨.int i,H,I.tok _,⟨_,rfl⟩,h⟩
def f9{b j pos}:PE X (.Constant (.bool b) j pos) (tC (.bl b)):=λ_ _ _ H _ I h=>Constant_bool ⟨.bl b,H,I,rfl,h⟩
def yB{j pos}:PE X (.Constant .none j pos) (tC .non):=λ_ _ _ H _ I h=>Constant_none ⟨.non,H,I,rfl,h⟩
def Gl(X:Cx)(x:Str):Prop:=X.env.kindOf x=some .globalImplicit
def ud{E:Value->Shared->Prop}{pins:List (Addr×Obj)}{s:Shared}{σ:St}{H:Hp}{x:Str}{u:Value}{pos:Pos}{Q:Value->Shared->Prop}(I:Inv X pins σ H s)(hg:Gl X x)(hm:X.mg x=some u)(h:Q u s)
 (hd:(x == ("__debug__":Str))=false:=by decide):wpAny (model X.prog X.w) X.A (eval (.Name x pos) X.env) Q E s :=
 Calls.Name_function_global I.ok.kind hg (Calls.loadGlobal_global (by rw[I.ok.glob];exact I.mod.glob.keeps I.bk) hm h) hd
def gL{E:Value->Shared->Prop}{pins:List (Addr×Obj)}{s:Shared}{σ:St}{H:Hp}{x:Str}{u:Value}{pos:Pos}{Q:Value->Shared->Prop}(I:Inv X pins σ H s)(hg:Gl X x)(hm:X.mg x=none)(hv:bootBuiltins x=some u)(h:Q u s)
 (hn:x≠"__name__":=by decide) (hd:(x == ("__debug__":Str))=false:=by decide):wpAny (model X.prog X.w) X.A (eval (.Name x pos) X.env) Q E s:=by
 obtain⟨mb,h1,h2⟩:=I.mod.blt;exact Calls.Name_function_global I.ok.kind hg (Calls.loadGlobal_builtin (by rw[I.ok.glob];exact I.mod.glob.keeps I.bk) hm (by rw[I.ok.blt];exact h1.keeps I.bk) ((h2 x hn).trans hv) h) hd
def yC{x:Str}{v:V}{u:Value}{pos:Pos}(hg:Gl X x)(hm:X.mg x=some u)(r:RelV v u)(hd:(x == ("__debug__":Str))=false:=by decide):PE X (.Name x pos) (tC v) :=
 λ_ _ _ H _ I h=>ud I hg hm ⟨v,H,I,r,h⟩ hd
def og{x:Str}{v:V}{u:Value}{pos:Pos}(hg:Gl X x)(hm:X.mg x=none)(hv:bootBuiltins x=some u)(r:RelV v u)(hn:x≠"__name__":=by decide)(hd:(x == ("__debug__":Str))=false:=by decide):PE X (.Name x pos) (tC v) :=
 λ_ _ _ H _ I h=>gL I hg hm hv ⟨v,H,I,r,h⟩ hn hd
variable {a b:Expr}{ta tb:TE}{pos:Pos}
def tB(t:TE):TT:=λσ H Q=>t σ H λx H1=>∃c,x=.bl c/\Q c H1
def gC{e:Expr}{t:TE}(h:PE X e t)(he:∀whole,isTrue e X.env whole=(do let v <- whole;standAt e.pos;holding [v] (truthy v)):=by intro _;rfl):PT X e (tB t):=by intro pins s σ H Q I hw;refine isTrue_plain (aK (h pins s σ H _ I hw) ?_) (he _);rintro v s1 ⟨x,H1,I1,r1,q1⟩;obtain⟨d,rfl,q⟩:=q1;cases r1;exact wpAny_truthy_bool ⟨H1,I1,q⟩
variable {tA tB':TT}{rest:List Expr}
def wC(t u:TT):TT:=λσ H Q=>t σ H λc H1=>if c=true then u σ H1 Q else Q false H1
def tOr(t u:TT):TT:=λσ H Q=>t σ H λc H1=>if c=true then Q true H1 else u σ H1 Q
def wq(t:TT):TT:=λσ H Q=>t σ H λc H1=>Q (!c) H1
def g6(ha:PT X a tA):PW X (.BoolOp .And [a] pos) tA:=by
 intro wh pins s σ H Q I h;refine isTrue_and (aK (ha pins s σ H Q I h) λc s1 e=>?_);cases c with
 |true=>exact isTrue_and_nil e
 |false=>exact e
def nQ(ha:PT X a tA):PW X (.BoolOp .Or [a] pos) tA:=by
 intro wh pins s σ H Q I h;refine isTrue_or (aK (ha pins s σ H Q I h) λc s1 e=>?_);cases c with
 |false=>exact isTrue_or_nil e
 |true=>exact e
def g7(ha:PT X a tA)(hb:PW X (.BoolOp .And (b::rest) pos) tB'):PW X (.BoolOp .And (a::b::rest) pos) (wC tA tB'):=by
 intro wh pins s σ H Q I h;refine isTrue_and (aK (ha pins s σ H _ I h) ?_);rintro c s1 ⟨H1,I1,q1⟩;cases c with
 |true=>exact hb wh pins s1 σ H1 Q I1 q1
 |false=>exact⟨H1,I1,q1⟩
def iI(ha:PT X a tA)(hb:PW X (.BoolOp .Or (b::rest) pos) tB'):PW X (.BoolOp .Or (a::b::rest) pos) (tOr tA tB'):=by
 intro wh pins s σ H Q I h;refine isTrue_or (aK (ha pins s σ H _ I h) ?_);rintro c s1 ⟨H1,I1,q1⟩;cases c with
 |true=>exact⟨H1,I1,q1⟩
 |false=>exact hb wh pins s1 σ H1 Q I1 q1
def g8(ha:PT X a tA):PT X (.UnaryOp .Not a pos) (wq tA):=by intro pins s σ H Q I h;exact isTrue_not (ha pins s σ H (λc H1=>Q (!c) H1) I h)
def wB(ta tb:TE):TE:=λσ H Q=>ta σ H λx H1=>∃c,x=.bl c/\if c=true then tb σ H1 Q else Q (.bl false) H1
def wp(ta:TE):TE:=λσ H Q=>ta σ H λx H1=>∃c,x=.bl c/\Q (.bl (!c)) H1
def yA{op}{t:TE}(h:PE X a t):PE X (.BoolOp op [a] pos) t:=λpins s σ H Q I hw=>BoolOp_one (h pins s σ H Q I hw)
def yF(ha:PE X a ta)(hb:PE X (.BoolOp .And (b::rest) pos) tb):PE X (.BoolOp .And (a::b::rest) pos) (wB ta tb):=by
 intro pins s σ H Q I h;refine BoolOp_and (aK (ha pins s σ H _ I h) ?_);rintro v s1 ⟨x,H1,I1,r1,q1⟩;obtain⟨c,rfl,q1⟩:=q1;cases r1;refine wpAny_truthy_bool ?_;cases c with
 |true=>exact hb pins s1 σ H1 Q I1 q1
 |false=>exact⟨.bl false,H1,I1,rfl,q1⟩
def EB(ha:PE X a ta):PE X (.UnaryOp .Not a pos) (wp ta):=by intro pins s σ H Q I h;refine UnaryOp_ (aK (ha pins s σ H _ I h) ?_);rintro v s1 ⟨x,H1,I1,r1,q1⟩;obtain⟨c,rfl,q1⟩:=q1;cases r1;exact not_of (wpAny_truthy_bool ⟨.bl (!c),H1,I1,rfl,q1⟩)
def tIf(t:TT)(ta tb:TE):TE:=λσ H Q=>t σ H λc H1=>if c=true then ta σ H1 Q else tb σ H1 Q
def sX{c:Expr}(hc:PT X c tA)(ha:PE X a ta)(hb:PE X b tb):PE X (.IfExp c a b pos) (tIf tA ta tb):=by
 intro pins s σ H Q I h;refine wpAny_IfExp (aK (hc pins s σ H _ I h) ?_);rintro d s1 ⟨H1,I1,q1⟩;cases d with
 |true=>exact ha pins s1 σ H1 Q I1 q1
 |false=>exact hb pins s1 σ H1 Q I1 q1
end
noncomputable def SqL(K:PySem.W.Frag)(H:Hp)(a:Addr)(xs:List V):Prop :=
 Rd H a (.lst xs) \/
  ∃(o:Obj) (its:Array Value) (n:Nat),K.lookup a=some o/\o.cls=.type "list"/\o.dict=none/\o.data=.seq its n/\its.size<=sizeLine/\Vals xs its.toList
noncomputable def SqT(K:PySem.W.Frag)(H:Hp)(a:Addr)(xs:List V):Prop :=
 Rd H a (.tup xs) \/
  ∃(o:Obj) (its:Array Value) (n:Nat),K.lookup a=some o/\o.cls=.type "tuple"/\o.data=.seq its n/\its.size<=sizeLine/\Vals xs its.toList
noncomputable def Kj:Value->Option V
 |.none=>some .non
 |.bool b=>some (.bl b)
 |.int i _=>some (.int i)
 |.str x _=>some (.str x)
 |.bytes b _=>some (.byt b)
 |.float b _=>some (.flt b)
 |.ref a=>some (.ref a)
 |.type n=>some (.ty n)
 |_=>none
def RelV.abs{x:V}{u:Value}(r:RelV x u):Kj u=some x:=by
 cases x with
 |non=>cases r;rfl
 |bl _=>cases r;rfl
 |int _=>obtain⟨t,rfl⟩:=r;rfl
 |str _=>obtain⟨t,rfl⟩:=r;rfl
 |byt _=>obtain⟨t,rfl⟩:=r;rfl
 |flt _=>obtain⟨t,rfl⟩:=r;rfl
 |ref _=>cases r;rfl
 |ty _=>cases r;rfl
def RelV.inj{x y:V}{u:Value}(r:RelV x u)(q:RelV y u):x=y:=Option.some.inj (r.abs.symm.trans q.abs)
theorem Vals.inj:∀{xs ys:List V} {us:List Value},Vals xs us->Vals ys us->xs=ys
 |_,_,_,.nil,.nil=>rfl
 |_,_,_,.cons r t,.cons r' t'=>by rw[r.inj r',Vals.inj t t']
section
variable {X:Cx}{pins:List (Addr×Obj)}{σ:St}{H:Hp}{s:Shared}{a:Addr}{xs ys:List V}
def SqL.of{K:PySem.W.Frag}(h:H a=some (.lst xs)):SqL K H a xs:=.inl (.inl h)
def SqT.of{K:PySem.W.Frag}(h:H a=some (.tup xs)):SqT K H a xs:=.inl (.inl h)
def Inv.list(I:Inv X pins σ H s)(h:SqL X.K H a xs):∃its:List Value,Vals xs its/\PlainL s.heap a its.toArray/\xs.length<=sizeLine:=by
 rcases h with h |⟨o,its,n,hk,hc,hd,hs,hz,r⟩
 ·obtain⟨z,its,n,r,e⟩:=h.ok I.hok;exact⟨its,r,⟨_,n,e,rfl,rfl,rfl⟩,z⟩
 ·refine⟨its.toList,r,⟨o,n,I.kIn a o hk,hc,hd,by simpa using hs⟩,?_⟩;have e:=r.length;simp only[Array.length_toList]at e;omega
def Inv.tuple(I:Inv X pins σ H s)(h:SqT X.K H a xs):∃its:List Value,Vals xs its/\IsTup s.heap a its.toArray/\xs.length<=sizeLine:=by
 rcases h with h |⟨o,its,n,hk,hc,hs,hz,r⟩
 ·obtain⟨z,its,r,p⟩:=h.ok I.hok;exact⟨its,r,p,z⟩
 ·refine⟨its.toList,r,⟨o,I.kIn a o hk,hc,n,by simpa using hs⟩,?_⟩;have e:=r.length;simp only[Array.length_toList]at e;omega
def Inv.list_inj(I:Inv X pins σ H s)(h:SqL X.K H a xs)(h':SqL X.K H a ys):xs=ys:=by
 obtain⟨its,r,⟨o,n,e,_,_,d⟩,_⟩:=I.list h;obtain⟨its',r',⟨o',n',e',_,_,d'⟩,_⟩:=I.list h';rw[e]at e';cases e';rw[d]at d'
 injection d' with d1 _
 have:its=its':=by simpa using congrArg Array.toList d1
 subst this;exact r.inj r'
def Inv.tuple_inj(I:Inv X pins σ H s)(h:SqT X.K H a xs)(h':SqT X.K H a ys):xs=ys:=by
 obtain⟨its,r,⟨o,e,_,n,d⟩,_⟩:=I.tuple h;obtain⟨its',r',⟨o',e',_,n',d'⟩,_⟩:=I.tuple h';rw[e]at e';cases e';rw[d]at d'
 injection d' with d1 _
 have:its=its':=by simpa using congrArg Array.toList d1
 subst this;exact r.inj r'
end
abbrev Cx.wish(X:Cx)(E:Value->Shared->Prop):Cx:={ X with xe:=E }
abbrev Cx.nox(X:Cx):Cx:=X.wish λ_ _=>False
def Cx.Ok.wish{X:Cx}(ok:X.Ok)(E:Value->Shared->Prop):(X.wish E).Ok :=
 ⟨ok.mod,ok.kind,ok.glob,ok.blt,ok.above,ok.inj,ok.has,ok.cab,ok.hd,ok.frames,ok.stk,ok.exf,ok.bs,ok.bsz,ok.noex,ok.exfs,ok.funs,ok.frf⟩
def Cx.Ok.unwish{X:Cx}{E:Value->Shared->Prop}(ok:(X.wish E).Ok):X.Ok :=
 ⟨ok.mod,ok.kind,ok.glob,ok.blt,ok.above,ok.inj,ok.has,ok.cab,ok.hd,ok.frames,ok.stk,ok.exf,ok.bs,ok.bsz,ok.noex,ok.exfs,ok.funs,ok.frf⟩
section
variable {X:Cx}{pins:List (Addr×Obj)}{σ:St}{H:Hp}{s:Shared}{E:Value->Shared->Prop}
def Inv.wish(I:Inv X pins σ H s)(E:Value->Shared->Prop):Inv (X.wish E) pins σ H s:=⟨I.ok.wish E,I.os,I.bare,I.base,I.loc,I.cell,I.free,I.freeC,I.pin,I.hok,I.len⟩
def Inv.unwish(I:Inv (X.wish E) pins σ H s):Inv X pins σ H s:=⟨I.ok.unwish,I.os,I.bare,I.base,I.loc,I.cell,I.free,I.freeC,I.pin,I.hok,I.len⟩
def SP.unwish{D:Ends}{f:Flow}{s':Shared}(h:SP (X.wish E) pins D f s'):SP X pins D f s':=by
 cases f with
 |next=>obtain⟨Q2,H',I,q⟩:=h;exact⟨Q2,H',I.unwish,q⟩
 |brk=>obtain⟨Q2,H',I,q⟩:=h;exact⟨Q2,H',I.unwish,q⟩
 |cont=>obtain⟨Q2,H',I,q⟩:=h;exact⟨Q2,H',I.unwish,q⟩
 |ret u=>obtain⟨v,Q2,H',I,r,q⟩:=h;exact⟨v,Q2,H',I.unwish,r,q⟩
def PSs.nox{st:List Stmt}{t:TS}(h:PSs X.nox st t):PSs X st t:=λpins s σ H D I hw =>wpAny_mono (h pins s σ H D (I.wish _) hw) (λ_ _ q=>q.unwish) λ_ _ z=>False.elim z
end
section
variable {X:Cx}{st:Stmt}{rest:List Stmt}{t u:TS}{e:Expr}{te:TE}{pos:Pos}
def wu:TS:=λD σ H=>D.nx σ H
def cx(t u:TS):TS:=λD σ H=>t { D with nx:=u D } σ H
def aR:PSs X [] wu:=λ_ _ σ H _ I h=>wpAny_execs_nil ⟨σ,H,I,h⟩
def ah(h1:PS X st t)(h2:PSs X rest u):PSs X (st::rest) (cx t u):=by
 intro pins s σ H D I h;refine wpAny_execs_cons (aK (h1 pins s σ H { D with nx:=u D } I h) λf s1 q=>?_);cases f with
 |next =>obtain⟨Q2,H',I',q⟩:=q;exact h2 pins s1 Q2 H' D I' q
 |ret v=>exact q
 |brk=>exact q
 |cont=>exact q
def ai(h1:PS X st t):PSs X [st] t:=by
 intro pins s σ H D I h;refine wpAny_execs_cons (aK (h1 pins s σ H D I h) λf s1 q=>?_);cases f with
 |next=>exact wpAny_execs_nil q
 |ret v=>exact q
 |brk=>exact q
 |cont=>exact q
def Inv.quiet{pins:List (Addr×Obj)}{σ:St}{H:Hp}{s:Shared}(I:Inv X pins σ H s):interactive X.env=false:=by simp[interactive,I.ok.kind]
def mJ(te:TE):TS:=λD σ H=>te σ H λ_ H1=>D.nx σ H1
def dU(he:PE X e te)(hs:swapsWith e none pos.line X.env=pure false:=by rfl):PS X (.Expr e pos) (mJ te):=by intro pins s σ H D I h;exact wpAny_Expr_any (aK (he pins s σ H _ I h) λv s1 ⟨x,H1,I1,r1,q1⟩=>⟨σ,H1,I1,q1⟩) I.quiet hs
def mI(te:TE):TS:=λD σ H=>te σ H D.rt
def aB(he:PE X e te):PS X (.Return (some e) pos) (mI te):=by intro pins s σ H D I h;exact wpAny_Return_some (aK (he pins s σ H _ I h) λv s1 ⟨x,H1,I1,r1,q1⟩=>⟨x,σ,H1,I1,r1,q1⟩)
def fH(c:TT)(t u:TS):TS:=λD σ H=>c σ H λb H1=>if b=true then t D σ H1 else u D σ H1
def aP{c:Expr}{a b:List Stmt}{tc:TT}(hc:PT X c tc)(ha:PSs X a t)(hb:PSs X b u):PS X (.If c a b pos) (fH tc t u):=by
 intro pins s σ H D I h;refine wpAny_If (aK (hc pins s σ H _ I h) ?_);rintro d s1 ⟨H1,I1,q1⟩;cases d with
 |true=>exact ha pins s1 σ H1 D I1 q1
 |false=>exact hb pins s1 σ H1 D I1 q1
def BZ:TS:=λ_ _ _=>False
def iK:PS X st BZ:=λ_ _ _ _ _ _ h=>h.elim
end
abbrev TG:=V->St->Hp->(St->Hp->Prop)->Prop
abbrev TGs:=List V->St->Hp->(St->Hp->Prop)->Prop
noncomputable def PG(X:Cx)(target:Expr)(t:TG):Prop :=
 ∀(pins:List (Addr×Obj)) (s:Shared) (σ:St) (H:Hp) (v:V) (u:Value) (Q:St->Hp->Prop),Inv X pins σ H s->RelV v u->t v σ H Q ->
  wpAny (model X.prog X.w) X.A (assign target X.env u) (λ_ s'=>∃Q2 H',Inv X pins Q2 H' s'/\Q Q2 H') X.xe s
noncomputable def PGs(X:Cx)(ts:List Expr)(t:TGs):Prop :=
 ∀(pins:List (Addr×Obj)) (s:Shared) (σ:St) (H:Hp) (vs:List V) (us:List Value) (Q:St->Hp->Prop),Inv X pins σ H s->Vals vs us->t vs σ H Q ->
  wpAny (model X.prog X.w) X.A (assignInOrder ((assignEach ts X.env).map (·.2)) us) (λ_ s'=>∃Q2 H',Inv X pins Q2 H' s'/\Q Q2 H') X.xe s
abbrev vF:=V->V->V->Hp->(Hp->Prop)->Prop
noncomputable def Ba(X:Cx)(t:vF):Prop :=
 ∀(pins:List (Addr×Obj)) (s:Shared) (σ:St) (H:Hp) (o i v:V) (ov iv u:Value) (Q:Hp->Prop),Inv X pins σ H s->RelV o ov->RelV i iv->RelV v u->t o i v H Q ->
  wpAny (model X.prog X.w) X.A (setItem ov iv u) (λ_ s'=>∃H',Inv X pins σ H' s'/\Q H') X.xe s
section
variable {X:Cx}{pos:Pos}
def fU(i:Nat):TG:=λv σ H Q=>Q (σ.set i (some v)) H
def fM{i:Nat}{x:Str}(hN:X.N.Nodup)(hi:X.N[i]?=some x)(hx:Loc X.env.scope x)(hf:X.fn x=true\/X.env.scope.names.lookup x=some .local:=by first |exact .inl rfl |exact .inr rfl |assumption):PG X (.Name x pos) (fU i):=by intro pins s σ H v u Q I r h;exact wpAny_assign_Name (wI I hN hi hx r (λs' I'=>⟨_,H,I',h⟩) hf)
noncomputable def Ia:TGs:=λvs σ H Q=>vs=[]/\Q σ H
noncomputable def Ib(t:TG)(u:TGs):TGs:=λvs σ H Q=>∃v r,vs=v::r/\t v σ H λQ2 H'=>u r Q2 H' Q
def gG:PGs X [] Ia:=by intro pins s σ H vs us Q I r h;obtain⟨e,h⟩:=h;subst e;cases r;exact assignInOrder_nil ⟨σ,H,I,h⟩
theorem cy{e:Expr}{es:List Expr}{t:TG}{u:TGs}(h1:PG X e t)(h2:PGs X es u)
 (hs:(assignEach (e::es) X.env).map (·.2)=assign e X.env::(assignEach es X.env).map (·.2):=by rfl):PGs X (e::es) (Ib t u):=by
 intro pins s σ H vs us Q I r h;obtain⟨v,vr,e1,h⟩:=h;subst e1;cases r with
 |cons r rr =>rw[hs];refine assignInOrder_cons (aK (h1 pins s σ H _ _ _ I r h) ?_);rintro _ s1 ⟨Q8,H1,I1,q1⟩;exact h2 pins s1 Q8 H1 _ _ Q I1 rr q1
def HY(K:PySem.W.Frag)(n:Nat)(t:TGs):TG:=λv σ H Q=>∃a xs,v=.ref a/\SqT K H a xs/\xs.length=n/\t xs σ H Q
def gH{es:List Expr}{k:Nat}{t:TGs}{n:Nat}(hc:X.calm=true)(h:PGs X es t)
 (hn:(assignEach es X.env).length=n:=by rfl) (hst:(assignEach es X.env).findIdx? (·.1)=none:=by rfl):PG X (.Tuple es k pos) (HY X.K n t):=by
 intro pins s σ H v u Q I r hw;obtain⟨a,xs,e1,hq,hl,hw⟩:=hw;subst e1;cases r;obtain⟨its,rv,ht,hz⟩:=I.tuple hq;refine assign_Tuple_tuple (I.ok.hd hc) ht (by simp[hn,<- hl,rv.length]) hst λh' hx=>?_
 have I1:Inv X pins σ H { s with heap:=h' }:=I.kept (t':=s.toks) λb o e=>hx b o (Nb (Heap.lt_size e)) e
 exact h pins _ σ H xs _ Q I1 (by simpa using rv) hw
def HZ(to ti:TE)(t:vF):TG:=λv σ H Q=>to σ H λo H1=>ti σ H1 λi H2=>t o i v H2 λH3=>Q σ H3
def jP{o i:Expr}{to ti:TE}{t:vF}(ho:PE X o to)(hi:PE X i ti)(hs:Ba X t)
 (ha:∀v,assign (.Subscript o i pos) X.env v=(do
   let ov <- holding [v] (eval o X.env)
   let iv <- holding [v,ov] (eval i X.env)
   standAt pos
   holding [v,ov,iv] (setItem ov iv v)
   release [v,ov,iv] []):=by intro _;rfl):PG X (.Subscript o i pos) (HZ to ti t):=by
 intro pins s σ H v u Q I r h;rw[ha];refine wpAny_bind (wpAny_holding (aK (ho pins s σ H _ I h) ?_));rintro ov s1 ⟨x,H1,I1,r1,q1⟩;refine wpAny_bind (wpAny_holding (aK (hi pins s1 σ H1 _ I1 q1) ?_));rintro iv s2 ⟨y,H2,I2,r2,q2⟩;refine wpAny_bind (wpAny_standAt (wpAny_bind (wpAny_holding (aK (hs pins s2 σ H2 x y v ov iv u _ I2 r1 r2 r q2) ?_))));rintro _ s3 ⟨H3,I3,q3⟩;exact wpAny_release ⟨σ,H3,I3,q3⟩
def dS(te:TE)(g:TG):TS:=λD σ H=>te σ H λx H1=>g x σ H1 D.nx
def eZ{tg e:Expr}{te:TE}{g:TG}(he:PE X e te)(hg:PG X tg g)(hs:swapsWithSole [tg] e pos.line X.env=pure false:=by rfl)(hw:swappedStores [tg] e X.env=pure none:=by rfl)
 (h1:(assignEach [tg] X.env).map (·.2)=[assign tg X.env]:=by rfl):PS X (.Assign [tg] e pos) (dS te g):=by
 intro pins s σ H D I h;refine wpAny_Assign_stores (aK (he pins s σ H _ I h) ?_) hs hw;rintro v s1 ⟨x,H1,I1,r1,q1⟩;rw[h1];exact aK (hg pins s1 σ H1 x v _ I1 r1 q1) λ_ s2 q=>q
def Ec{i:Nat}{x:Str}{e:Expr}{te:TE}{pos':Pos}(hN:X.N.Nodup)(hi:X.N[i]?=some x)(hx:Loc X.env.scope x)(he:PE X e te)(hs:swapsWith e (some (.Name x pos')) pos.line X.env=pure false:=by rfl)(hf:X.fn x=true\/X.env.scope.names.lookup x=some .local:=by first |exact .inl rfl |exact .inr rfl |assumption) :
 PS X (.Assign [.Name x pos'] e pos) (dS te (fU i)):=by
 intro pins s σ H D I h;refine wpAny_Assign_Name (aK (he pins s σ H _ I h) ?_) hs;rintro v s1 ⟨y,H1,I1,r1,q1⟩;exact wI I1 hN hi hx r1 (λs2 I2=>⟨_,H1,I2,q1⟩) hf
end
section
variable {X:Cx}{pos:Pos}
def BW(c:TT)(tb:TS):TS:=λD σ H=>∃W:Nat->St->Hp->Prop,(∃m,W m σ H)/\∀m σ H,W m σ H ->
 c σ H λb H1=>if b=true then ∃N:St->Hp->Prop,(∀Q2 H',N Q2 H'->∃m',m'<m/\W m' Q2 H')/\tb { D with nx:=N,ct:=N,bk:=D.nx } σ H1 else D.nx σ H1
def gD{c:Expr}{body:List Stmt}{tc:TT}{tb:TS}(hp:PassesOwn (model X.prog X.w) X.A X.env X.xe)(hc:PT X c tc)(hb:PSs X body tb):PS X (.While c body [] pos) (BW tc tb):=by
 intro pins s σ H D I h;obtain⟨W,⟨m0,w0⟩,turn⟩:=h;refine wpAny_While (codeAny_whileLoop (λn s'=>∃Q2 H',Inv X pins Q2 H' s'/\W n Q2 H') ?_ m0 ⟨σ,H,I,w0⟩);rintro n s1 ⟨Q8,H1,I1,w1⟩;refine wpAny_passesOwn hp (aK (hc pins s1 Q8 H1 _ I1 (turn n Q8 H1 w1)) ?_);rintro b s2 ⟨H2,I2,q2⟩;cases b with
 |true =>
  obtain⟨N,hN,q2⟩:=q2;rw[if_pos rfl];refine wpAny_passesOwn hp (aK (hb pins s2 Q8 H2 _ I2 q2) λf s3 q3=>?_);cases f with
  |next =>obtain⟨Q4,H3,I3,n3⟩:=q3;obtain⟨m',hm,w3⟩:=hN Q4 H3 n3;exact⟨m',hm,Q4,H3,I3,w3⟩
  |cont =>obtain⟨Q4,H3,I3,n3⟩:=q3;obtain⟨m',hm,w3⟩:=hN Q4 H3 n3;exact⟨m',hm,Q4,H3,I3,w3⟩
  |brk=>exact q3
  |ret v=>exact q3
 |false =>rw[if_neg On];exact wpAny_execs_nil ⟨Q8,H2,I2,q2⟩
end
structure It where
 go:Nat->Hp->Prop
 yld:Nat->Hp->V->Hp->Prop
 stop:Nat->Hp->Prop
noncomputable def gt(X:Cx)(pins:List (Addr×Obj))(H:Hp)(b:Addr):Prop :=
 H b=none/\b≠X.env.locals/\b∉X.fs/\(b∈X.ex\/X.s₀.heap.objs.size<=b)/\(∀x c,X.env.cells.lookup x=some c->c≠b)/\∀p∈X.pn++pins,p.1≠b
def Inv.fpOk{X:Cx}{pins:List (Addr×Obj)}{σ:St}{H H':Hp}{s:Shared}{b:Addr}(I:Inv X pins σ H s)(hb:s.heap.objs.size<=b)(hn:H' b=none):gt X pins H' b:=by
 refine⟨hn,Nat.ne_of_gt (Nf I.lt hb),I.nofs hb,.inr (MU I.sz hb),λx c e z=>?_,λp hp z=>?_⟩
 ·obtain⟨v,q⟩:=I.cell x c e;exact absurd (Nf q.lt (by rw[z];exact hb)) (NF _)
 ·exact absurd (Nf (Heap.lt_size (I.pin p hp).1) (by rw[z];exact hb)) (NF _)
structure Turn(P:Program)(w:World)(K:PySem.W.Frag)(tg:Expr)(J:It)(fp:List Addr)(it:Addr)(tn:Nat->Heap->Prop):Prop where
 mem:it∈fp
 obj:∀i h,tn i h->∀b∈fp,∃o,h.get? b=some o/\∀v,o.data≠.cell v
 keep:∀i h h',tn i h->(∀b∈fp,∀o,h.get? b=some o->h'.get? b=some o)->tn i h'
 item:∀(X:Cx),X.prog=P->X.w=w->X.K=K->X.calm=true->∀(i:Nat) (pins:List (Addr×Obj)) (s:Shared) (σ:St) (H:Hp) (E:Value->Shared->Prop),Inv X pins σ H s->(∀b∈fp,gt X pins H b)->tn i s.heap->J.go i H ->
  wpAny (model P w) X.A (pyNext (.ref it)) (λr s1=>∃u,r=some u /\
   wpAny (model P w) X.A (letOwnedTupleGo tg (.ref it) u) (λ_ s2=>∃x H',Inv X pins σ H' s2/\RelV x u/\J.yld i H x H'/\tn (i+1) s2.heap/\∀b∈fp,H' b=none) E s1) E s
 done:∀(X:Cx),X.prog=P->X.w=w->X.K=K->X.calm=true->∀(i:Nat) (pins:List (Addr×Obj)) (s:Shared) (σ:St) (H:Hp) (E:Value->Shared->Prop),Inv X pins σ H s->(∀b∈fp,gt X pins H b)->tn i s.heap->J.stop i H ->
  wpAny (model P w) X.A (pyNext (.ref it)) (λr s1=>r=none/\Inv X pins σ H s1) E s
 self:∀(A:Around) (i:Nat) (s:Shared) (Q:Value->Shared->Prop) (E:Value->Shared->Prop),tn i s.heap->Q (.ref it) s->wpAny (model P w) A (pyIter (.ref it)) Q E s
abbrev TI:=St->Hp->(It->Hp->Prop)->Prop
noncomputable def PIE(X:Cx)(pins:List (Addr×Obj))(σ:St)(tg:Expr)(R:It->Hp->Prop)(itv:Value)(s2:Shared):Prop :=
 ∃(it:Addr) (fp:List Addr) (tn:Nat->Heap->Prop) (J:It) (H':Hp),itv=.ref it/\Inv X pins σ H' s2/\Turn X.prog X.w X.K tg J fp it tn/\tn 0 s2.heap/\(∀b∈fp,gt X pins H' b)/\R J H'
noncomputable def PI(X:Cx)(tg iter:Expr)(wi:TI):Prop :=
 ∀(pins:List (Addr×Obj)) (s:Shared) (σ:St) (H:Hp) (R:It->Hp->Prop),Inv X pins σ H s->wi σ H R ->
  wpAny (model X.prog X.w) X.A (eval iter X.env) (λv s1=>wpAny (model X.prog X.w) X.A (pyIter v) (PIE X pins σ tg R) X.xe s1) X.xe s
theorem lT{M:Model}{A:Around}{E:Value->Shared->Prop}{s:Shared}{tg:Expr}{it:Addr}{u:Value}{o:Obj}{n:String}{vs:Array Value}{Q:Unit->Shared->Prop}(ho:s.heap.get? it=some o)(hc:o.cls=.type n)(hd:o.data=.fields vs)
 (hn:["enumerate","zip","dict_itemiterator","dict_reverseitemiterator","odict_iterator","itertools.zip_longest","itertools.pairwise"].contains n=false) (hQ:Q () s):wpAny M A (letOwnedTupleGo tg (.ref it) u) Q E s:=by
 unfold letOwnedTupleGo
 cases tg<;>first
  |exact wpAny_pure hQ
  | (cases u<;>first
      |exact wpAny_pure hQ
      | (refine wpAny_bind (wpAny_load ho ?_)
         rw[hc,hd];show wpAny M A (if(["enumerate","zip","dict_itemiterator","dict_reverseitemiterator","odict_iterator","itertools.zip_longest","itertools.pairwise"].contains n&&vs[0]? == some (rawInt _))=true then _ else _) Q E s;rw[if_neg (by intro h;rw[hn,Bool.false_and]at h;cases h)]
         exact wpAny_pure hQ))
noncomputable def Itl(K:PySem.W.Frag)(a:Addr):It :=
 ⟨λi H=>∃xs x,SqL K H a xs/\xs[i]?=some x,λi H x H'=>H'=H/\∀xs,SqL K H a xs->xs[i]?=some x,λi H=>∃xs,SqL K H a xs/\xs.length<=i⟩
noncomputable def Itt(K:PySem.W.Frag)(a:Addr):It :=
 ⟨λi H=>∃xs x,SqT K H a xs/\xs[i]?=some x,λi H x H'=>H'=H/\∀xs,SqT K H a xs->xs[i]?=some x,λi H=>∃xs,SqT K H a xs/\xs.length<=i⟩
noncomputable def Itr(lo:Int)(n:Nat):It:=⟨λi _=>i<n,λi H x H'=>H'=H/\x=.int (lo+i),λi _=>n<=i⟩
def BH{P:Program}{w:World}{K:PySem.W.Frag}{tg:Expr}(a it:Addr):Turn P w K tg (Itl K a) [it] it (λi h=>h.IsListIter it a i) where
 mem:=by simp
 obj:=λi h st b hb=>by
  have e:b=it:=by simpa using hb
  subst e;obtain⟨o,e,c,d⟩:=st;exact⟨o,e,λv z=>by rw[d]at z;cases z⟩
 keep:=λi h h' st k=>st.at λo e=>k it (by simp) o e
 item:=by
  intro X hP hw hK hc i pins s σ H E I hf st hg;subst hP hw hK;obtain⟨xs,x,hq,hx⟩:=hg;obtain⟨its,rv,p,hz⟩:=I.list hq;obtain⟨u,hu,ru⟩:=rv.get hx;obtain⟨f0,f1,f2,f3,f4,f5⟩:=hf it (by simp);refine wpAny_pyNext_list_item st p.isList (x:=u) (by simpa using hu) λh' st' sb=>?_
  have I1:Inv X pins σ H { s with heap:=h' }:=I.turned (t':=s.toks) (λb o hb e=>(sb.2 b hb).trans e) f0 f1 f3 f4 f5;obtain⟨o,e,c,d⟩:=id st';exact⟨u,rfl,lT (s:={ s with heap:=h' }) e c d (by decide) ⟨x,H,I1,ru,⟨rfl,λys hy=>by rw[I.list_inj hy hq];exact hx⟩,st',λb hb=>(hf b hb).1⟩⟩
 done:=by intro X hP hw hK hc i pins s σ H E I hf st hg;subst hP hw hK;obtain⟨xs,hq,hx⟩:=hg;obtain⟨its,rv,p,hz⟩:=I.list hq;obtain⟨f0,f1,f2,f3,f4,f5⟩:=hf it (by simp);have hl:=rv.length;exact wpAny_pyNext_list_end (I.ok.hd hc) st p.isList (by simp;omega) λh' eb=>⟨rfl,I.turned (t':=s.toks) (λb o hb e=>eb b o hb e) f0 f1 f3 f4 f5⟩
 self:=λ_ _ _ _ _ st h=>wpAny_pyIter_listiter st h
def BC{P:Program}{w:World}{K:PySem.W.Frag}{tg:Expr}(a it:Addr):Turn P w K tg (Itt K a) [it] it (λi h=>h.IsTupleIter it a i) where
 mem:=by simp
 obj:=λi h st b hb=>by
  have e:b=it:=by simpa using hb
  subst e;obtain⟨o,e,c,d⟩:=st;exact⟨o,e,λv z=>by rw[d]at z;cases z⟩
 keep:=λi h h' st k=>st.at λo e=>k it (by simp) o e
 item:=by
  intro X hP hw hK hc i pins s σ H E I hf st hg;subst hP hw hK;obtain⟨xs,x,hq,hx⟩:=hg;obtain⟨its,rv,p,hz⟩:=I.tuple hq;obtain⟨u,hu,ru⟩:=rv.get hx;obtain⟨f0,f1,f2,f3,f4,f5⟩:=hf it (by simp);refine wpAny_pyNext_tuple_item st (show s.heap.IsTuple a its.toArray from p) (x:=u) (by simpa using hu) λh' st' sb=>?_
  have I1:Inv X pins σ H { s with heap:=h' }:=I.turned (t':=s.toks) (λb o hb e=>(sb.2 b hb).trans e) f0 f1 f3 f4 f5;obtain⟨o,e,c,d⟩:=id st';exact⟨u,rfl,lT (s:={ s with heap:=h' }) e c d (by decide) ⟨x,H,I1,ru,⟨rfl,λys hy=>by rw[I.tuple_inj hy hq];exact hx⟩,st',λb hb=>(hf b hb).1⟩⟩
 done:=by intro X hP hw hK hc i pins s σ H E I hf st hg;subst hP hw hK;obtain⟨xs,hq,hx⟩:=hg;obtain⟨its,rv,p,hz⟩:=I.tuple hq;obtain⟨f0,f1,f2,f3,f4,f5⟩:=hf it (by simp);have hl:=rv.length;exact wpAny_pyNext_tuple_end (I.ok.hd hc) st (show s.heap.IsTuple a its.toArray from p) (by simp;omega) λh' eb=>⟨rfl,I.turned (t':=s.toks) (λb o hb e=>eb b o hb e) f0 f1 f3 f4 f5⟩
 self:=λ_ _ _ _ _ st h=>wpAny_pyIter_tupleiter st h
def BG{P:Program}{w:World}{K:PySem.W.Frag}{tg:Expr}(it:Addr)(lo:Int)(n:Nat):Turn P w K tg (Itr lo n) [it] it (λi h=>IsRangeIter h it (lo+(i:Nat)*1) ((n:Int)-(i:Nat)) 1) where
 mem:=by simp
 obj:=λi h st b hb=>by
  have e:b=it:=by simpa using hb
  subst e
  exact⟨_,st,λv z=>by
   have z':Data.fields _=Data.cell v:=z
   cases z'⟩
 keep:=λi h h' st k=>k it (by simp) _ st
 item:=by
  intro X hP hw hK hc i pins s σ H E I hf st hg;subst hP hw hK;obtain⟨f0,f1,f2,f3,f4,f5⟩:=hf it (by simp);have W:=Walks.range (prog:=X.prog) (w:=X.w) (I.ok.hd hc) it lo 1 n;refine W.item i s _ _ hg st λv h' tk hv st' kk=>?_
  obtain⟨t,rfl⟩:=hv;have I1:Inv X pins σ H { s with heap:=h',toks:=tk }:=I.turned (λb o hb e=>kk b o (by simpa using hb) e) f0 f1 f3 f4 f5;refine⟨_,rfl,lT (s:={ s with heap:=h',toks:=tk }) (n:="range_iterator") st' rfl rfl (by decide) ⟨.int (lo+i),H,I1,⟨t,?_⟩,⟨rfl,rfl⟩,st',λb hb=>(hf b hb).1⟩⟩;rw[Nl]
 done:=by intro X hP hw hK hc i pins s σ H E I hf st hg;subst hP hw hK;obtain⟨f0,f1,f2,f3,f4,f5⟩:=hf it (by simp);exact wpAny_pyNext_range_end (I.ok.hd hc) st (by have:n<=i:=hg;omega) λh' eb=>⟨rfl,I.turned (t':=s.toks) (λb o hb e=>eb b o hb e) f0 f1 f3 f4 f5⟩
 self:=λ_ _ _ _ _ st h=>wpAny_pyIter_rangeiter st h
section
variable {X:Cx}{tg:Expr}
def uf(K:PySem.W.Frag)(tl:TE):TI:=λσ H R=>tl σ H λx H1=>∃a,x=.ref a/\(∃xs,SqL K H1 a xs)/\R (Itl K a) H1
def zG(K:PySem.W.Frag)(tl:TE):TI:=λσ H R=>tl σ H λx H1=>∃a,x=.ref a/\(∃xs,SqT K H1 a xs)/\R (Itt K a) H1
def Ev{l:Expr}{tl:TE}(hl:PE X l tl):PI X tg l (uf X.K tl):=by
 intro pins s σ H R I h;refine aK (hl pins s σ H _ I h) λv s1 ⟨x,H1,I1,r1,q1⟩=>?_
 obtain⟨a,e,⟨xs,hq⟩,q⟩:=q1;subst e;cases r1;obtain⟨its,rv,p,hz⟩:=I1.list hq;refine wpAny_pyIter_list p.isList ?_;refine⟨s1.heap.objs.size,[s1.heap.objs.size],_,_,H1,rfl,I1.kept (t':=s1.toks) λb o e=>Heap.get?_push_of_some _ e,BH a _,⟨_,Heap.get?_push_size _ rfl,rfl,rfl⟩,λb hb=>?_,q⟩;have e:b=s1.heap.objs.size:=by simpa using hb
 subst e;exact I1.fpOk (MI _) (I1.hok.fresh (MI _))
def Et{l:Expr}{tl:TE}(hl:PE X l tl):PI X tg l (zG X.K tl):=by
 intro pins s σ H R I h;refine aK (hl pins s σ H _ I h) λv s1 ⟨x,H1,I1,r1,q1⟩=>?_
 obtain⟨a,e,⟨xs,hq⟩,q⟩:=q1;subst e;cases r1;obtain⟨its,rv,p,hz⟩:=I1.tuple hq;refine wpAny_pyIter_tuple (show s1.heap.IsTuple a its.toArray from p) ?_;refine⟨s1.heap.objs.size,[s1.heap.objs.size],_,_,H1,rfl,I1.kept (t':=s1.toks) λb o e=>Heap.get?_push_of_some _ e,BC a _,⟨_,Heap.get?_push_size _ rfl,rfl,rfl⟩,λb hb=>?_,q⟩;have e:b=s1.heap.objs.size:=by simpa using hb
 subst e;exact I1.fpOk (MI _) (I1.hok.fresh (MI _))
def yf{pins:List (Addr×Obj)}{σ:St}{H:Hp}{s:Shared}{R:It->Hp->Prop}{E:Value->Shared->Prop}{lo hi:Int}{t u v:Tok}{tk:Nat}(I:Inv X pins σ H s)(h1 : -(2^62)<=lo)(h2:lo<2^62)(h3 : -(2^62)<=hi)(h4:hi<2^62)
 (q:R (Itr lo (hi-lo).toNat) H):wpAny (model X.prog X.w) X.A (pyIter (.ref s.heap.objs.size)) (PIE X pins σ tg R) E { s with heap:=s.heap.push { cls:=.type "range",data:=.fields #[.int lo t,.int hi u,.int 1 v] },toks:=tk }:=by
 refine wpAny_pyIter_range (IsRange.new ..) (small_one h1 h2 h3 h4) ?_;have I1:Inv X pins σ H { s with heap:=s.heap.push { cls:=.type "range",data:=.fields #[.int lo t,.int hi u,.int 1 v] },toks:=tk }:=I.kept λb o e=>Heap.get?_push_of_some _ e
 refine⟨(s.heap.push { cls:=.type "range",data:=.fields #[.int lo t,.int hi u,.int 1 v] }).objs.size,[(s.heap.push { cls:=.type "range",data:=.fields #[.int lo t,.int hi u,.int 1 v] }).objs.size],_,_,H,rfl,
  I1.kept (t':=tk) λb o e=>Heap.get?_push_of_some _ e,BG _ lo (hi-lo).toNat,?_,λb hb=>?_,q⟩
 ·have e1:lo+((0:Nat):Int)*1=lo:=by simp
  have e2:(((hi-lo).toNat:Nat):Int)-((0:Nat):Int)=Builtin.Range.rangeSize lo hi 1:=by rw[rangeSize_one];split<;>omega
  show IsRangeIter _ _ (lo+((0:Nat):Int)*1) ((((hi-lo).toNat:Nat):Int)-((0:Nat):Int)) 1;rw[e1,e2];exact Heap.get?_push_size _ rfl
 ·have e:b=(s.heap.push { cls:=.type "range",data:=.fields #[.int lo t,.int hi u,.int 1 v] }).objs.size:=by simpa using hb
  subst e;exact I1.fpOk (MI _) (I1.hok.fresh (MI _))
def Hw(ta:TA):TI:=λσ H R=>ta σ H λvs H1=>∃j:Int,vs=[.int j] /\ -(2^62)<=j/\j<2^62/\R (Itr 0 j.toNat) H1
def Hu(ta:TA):TI:=λσ H R=>ta σ H λvs H1=>∃i j:Int,vs=[.int i,.int j]/\(-(2^62)<=i/\i<2^62 /\ -(2^62)<=j/\j<2^62)/\R (Itr i (j-i).toNat) H1
def gF{a:Expr}{ta:TA}{p pos:Pos}(hg:Gl X "range")(hm:X.mg "range"=none)(ha:PA X [a] ta)(hs:starEach [a] X.env=[(false,eval a X.env)]:=by rfl):PI X tg (.Call (.Name "range" p) [a] [] pos) (Hw ta):=by
 intro pins s σ H R I h;refine Call_ (gL I hg hm boot_range (PyProof.Rows.callWith_type1 (aK (ha pos pins s σ H _ I h) ?_) hs rfl));rintro us s1 ⟨vs,H1,I1,r1,q1⟩;obtain⟨j,e,q1,q2,q⟩:=q1;subst e;cases r1 with
 |cons r rr =>cases rr;obtain⟨t,rfl⟩:=r;exact call_range_1 (yf I1 (by omega) (by omega) q1 q2 (by simpa using q))
def Eu{a b:Expr}{ta:TA}{p pos:Pos}(hg:Gl X "range")(hm:X.mg "range"=none)(ha:PA X [a,b] ta)(hs:starEach [a,b] X.env=[(false,eval a X.env),(false,eval b X.env)]:=by rfl)(hs2:starEach [b] X.env=[(false,eval b X.env)]:=by rfl) :
 PI X tg (.Call (.Name "range" p) [a,b] [] pos) (Hu ta):=by
 intro pins s σ H R I h;refine Call_ (gL I hg hm boot_range (PyProof.Rows.callWith_type1 (aK (ha pos pins s σ H _ I h) ?_) (by rw[hs,hs2]) (by rw[hs2];rfl)));rintro us s1 ⟨vs,H1,I1,r1,q1⟩;obtain⟨i,j,e,⟨q1,q2,q3,q4⟩,q⟩:=q1;subst e;cases r1 with
 |cons r rr =>
  cases rr with
  |cons r' rr =>cases rr;obtain⟨t,rfl⟩:=r;obtain⟨t',rfl⟩:=r';exact call_range_2 (yf I1 q1 q2 q3 q4 q)
def B7(wi:TI)(g:TG)(tb:TS):TS:=λD σ H=>wi σ H λJ H1=>∃W:Nat->Nat->St->Hp->Prop,(∃m,W 0 m σ H1)/\∀i m σ H,W i m σ H ->
 (J.stop i H/\D.nx σ H)\/(J.go i H/\∃N:St->Hp->Prop,(∀Q2 H',N Q2 H'->∃m',m'<m/\W (i+1) m' Q2 H')/\∀x H',J.yld i H x H'->g x σ H' λQ3 H2=>tb { D with nx:=N,ct:=N,bk:=D.nx } Q3 H2)
noncomputable def n8(fp:List Addr)(h:Heap):List (Addr×Obj):=fp.filterMap λb=>(h.get? b).map λo=>(b,o)
def oA{fp:List Addr}{h:Heap}{b:Addr}{o:Obj}(hb:b∈fp)(e:h.get? b=some o):(b,o)∈n8 fp h:=List.mem_filterMap.mpr ⟨b,hb,by rw[e];rfl⟩
def Gh{fp:List Addr}{h:Heap}{p:Addr×Obj}(hp:p∈n8 fp h):p.1∈fp/\h.get? p.1=some p.2:=by
 obtain⟨b,hb,e⟩:=List.mem_filterMap.mp hp;cases q:h.get? b with
 |none=>rw[q]at e;cases e
 |some o =>rw[q]at e;have e':(b,o)=p:=Option.some.inj e;subst e';exact⟨hb,q⟩
def Inv.pinned{pins:List (Addr×Obj)}{σ:St}{H:Hp}{s:Shared}{fp:List Addr}(I:Inv X pins σ H s)(hf:∀b∈fp,gt X pins H b)(ho:∀b∈fp,∃o,s.heap.get? b=some o/\∀v,o.data≠.cell v):Inv X (pins++n8 fp s.heap) σ H s :=
 I.pins_of λp hp=>(MS.mp hp).elim (λz=>I.pin p (Nn _ z)) λz=>by obtain⟨hb,e⟩:=Gh z;obtain⟨f0,f1,f2,_⟩:=hf p.1 hb;obtain⟨o,e',d⟩:=ho p.1 hb;rw[e]at e';cases e';exact⟨e,f0,f1,f2,d⟩
def Inv.unpinned{pins pl:List (Addr×Obj)}{σ:St}{H:Hp}{s:Shared}(I:Inv X (pins++pl) σ H s):Inv X pins σ H s:=I.pins_of λp hp=>I.pin p (Nn _ (Ob _ hp))
theorem cT{iter:Expr}{body:List Stmt}{wi:TI}{g:TG}{tb:TS}{pos:Pos}(hp:PassesOwn (model X.prog X.w) X.A X.env X.xe)(hc:X.calm=true)(hi:PI X tg iter wi)(hg:PG X tg g)(hb:PSs X body tb)
 (hs:∀x,foldedSetIterable iter X.env x=pure x:=by intro _;rfl):PS X (.For tg iter body [] pos) (B7 wi g tb):=by
 intro pins s σ H D I h;refine wpAny_For (aK (hi pins s σ H _ I h) λv s1 h1=>aK h1 λitv s2 h2=>?_) hs;obtain⟨it,fp,tn,J,H2,e,I2,T,st2,f2,W,⟨m0,w0⟩,turn⟩:=h2;subst e;have stat:∀{H':Hp},(∀b∈fp,H' b=none)->∀b∈fp,gt X pins H' b:=λhn b hb=>⟨hn b hb,(f2 b hb).2⟩
 refine codeAny_forLoop_any (λn s'=>∃i Q2 H',Inv X pins Q2 H' s'/\tn i s'.heap/\(∀b∈fp,H' b=none)/\W i n Q2 H') ?_ m0 ⟨0,σ,H2,I2,st2,λb hb=>(f2 b hb).1,w0⟩;rintro n s3 ⟨i,Q4,H3,I3,st3,fr3,w3⟩;rcases turn i n Q4 H3 w3 with⟨stop,qn⟩ |⟨go,N,hN,step⟩
 ·refine wpAny_passesOwn hp (aK (T.done X rfl rfl rfl hc i pins s3 Q4 H3 X.xe I3 (stat fr3) st3 stop) λr s4 ⟨hr,I4⟩=>?_);subst hr;exact wpAny_execs_nil ⟨Q4,H3,I4,qn⟩
 ·refine wpAny_passesOwn hp (aK (T.item X rfl rfl rfl hc i pins s3 Q4 H3 X.xe I3 (stat fr3) st3 go) λr s4 ⟨u,hr,h4⟩=>?_);subst hr;refine wpAny_passesOwn hp (aK h4 ?_);rintro _ s5 ⟨x,H5,I5,r5,y5,st5,fr5⟩;have I5':=I5.pinned (stat fr5) (T.obj _ _ st5);refine wpAny_passesOwn hp (aK (hg _ s5 Q4 H5 x u _ I5' r5 (step x H5 y5)) ?_);rintro _ s6 ⟨Q5,H6,I6,q6⟩;refine wpAny_passesOwn hp (aK (hb _ s6 Q5 H6 _ I6 q6) λf s7 q7=>?_)
  have again:∀{Q7:St} {H7:Hp},Inv X (pins++n8 fp s5.heap) Q7 H7 s7->N Q7 H7->∃m,m<n/\∃i Q2 H',Inv X pins Q2 H' s7/\tn i s7.heap/\(∀b∈fp,H' b=none)/\W i m Q2 H':=λ{Q7 H7} I7 n7=>by obtain⟨m',hm,w7⟩:=hN Q7 H7 n7;refine⟨m',hm,i+1,Q7,H7,I7.unpinned,T.keep _ _ _ st5 λb hb o e=>(I7.pin (b,o) (Nn _ (Nn _ (oA hb e)))).1,λb hb=>?_,w7⟩;obtain⟨o,e,d⟩:=T.obj _ _ st5 b hb;exact(I7.pin (b,o) (Nn _ (Nn _ (oA hb e)))).2.1
  cases f with
  |next=>obtain⟨Q7,H7,I7,n7⟩:=q7;exact again I7 n7
  |cont=>obtain⟨Q7,H7,I7,n7⟩:=q7;exact again I7 n7
  |brk=>obtain⟨Q7,H7,I7,q7⟩:=q7;exact⟨Q7,H7,I7.unpinned,q7⟩
  |ret v=>obtain⟨x7,Q7,H7,I7,r7,q7⟩:=q7;exact⟨x7,Q7,H7,I7.unpinned,r7,q7⟩
end
def lU{K:PySem.W.Frag}{a:Addr}{xs:List V}{g:TG}{tb:TS}{D:Ends}{σ:St}{H:Hp}(Pv:Nat->St->Hp->Prop)(h0:Pv 0 σ H)(hl:∀i σ H,i<=xs.length->Pv i σ H->SqL K H a xs)
 (hs:∀i x σ H,xs[i]?=some x->Pv i σ H->g x σ H λQ3 H2=>tb { D with nx:=Pv (i+1),ct:=Pv (i+1),bk:=D.nx } Q3 H2) (hd:∀σ H,Pv xs.length σ H->D.nx σ H) :
 ∃W:Nat->Nat->St->Hp->Prop,(∃m,W 0 m σ H)/\∀i m σ H,W i m σ H ->
  ((Itl K a).stop i H/\D.nx σ H)\/((Itl K a).go i H/\∃N:St->Hp->Prop,(∀Q2 H',N Q2 H'->∃m',m'<m/\W (i+1) m' Q2 H')/\∀x H',(Itl K a).yld i H x H'->g x σ H' λQ3 H2=>tb { D with nx:=N,ct:=N,bk:=D.nx } Q3 H2):=by
 refine⟨λi m σ H=>m=xs.length-i/\i<=xs.length/\Pv i σ H,⟨xs.length,by simp,MK _,h0⟩,?_⟩;rintro i m σ H ⟨rfl,hi,p⟩;have q:=hl i σ H hi p;by_cases hlt:i<xs.length
 ·refine .inr ⟨⟨xs,xs[i],q,by simp[hlt]⟩,Pv (i+1),λQ2 H' p'=>⟨xs.length-(i+1),by omega,rfl,hlt,p'⟩,λx H' y=>?_⟩;obtain⟨e,y⟩:=y;subst e;exact hs i x σ _ (y xs q) p
 ·have e:i=xs.length:=by omega
  subst e;exact .inl ⟨⟨xs,q,MI _⟩,hd σ H p⟩
def Ie{K:PySem.W.Frag}{a:Addr}{xs:List V}{g:TG}{tb:TS}{D:Ends}{σ:St}{H:Hp}(Pv:Nat->St->Hp->Prop)(h0:Pv 0 σ H)(hl:∀i σ H,i<=xs.length->Pv i σ H->SqT K H a xs)
 (hs:∀i x σ H,xs[i]?=some x->Pv i σ H->g x σ H λQ3 H2=>tb { D with nx:=Pv (i+1),ct:=Pv (i+1),bk:=D.nx } Q3 H2) (hd:∀σ H,Pv xs.length σ H->D.nx σ H) :
 ∃W:Nat->Nat->St->Hp->Prop,(∃m,W 0 m σ H)/\∀i m σ H,W i m σ H ->
  ((Itt K a).stop i H/\D.nx σ H)\/((Itt K a).go i H/\∃N:St->Hp->Prop,(∀Q2 H',N Q2 H'->∃m',m'<m/\W (i+1) m' Q2 H')/\∀x H',(Itt K a).yld i H x H'->g x σ H' λQ3 H2=>tb { D with nx:=N,ct:=N,bk:=D.nx } Q3 H2):=by
 refine⟨λi m σ H=>m=xs.length-i/\i<=xs.length/\Pv i σ H,⟨xs.length,by simp,MK _,h0⟩,?_⟩;rintro i m σ H ⟨rfl,hi,p⟩;have q:=hl i σ H hi p;by_cases hlt:i<xs.length
 ·refine .inr ⟨⟨xs,xs[i],q,by simp[hlt]⟩,Pv (i+1),λQ2 H' p'=>⟨xs.length-(i+1),by omega,rfl,hlt,p'⟩,λx H' y=>?_⟩;obtain⟨e,y⟩:=y;subst e;exact hs i x σ _ (y xs q) p
 ·have e:i=xs.length:=by omega
  subst e;exact .inl ⟨⟨xs,q,MI _⟩,hd σ H p⟩
def iW{lo:Int}{n:Nat}{g:TG}{tb:TS}{D:Ends}{σ:St}{H:Hp}(Pv:Nat->St->Hp->Prop)(h0:Pv 0 σ H)
 (hs:∀i σ H,i<n->Pv i σ H->g (.int (lo+i)) σ H λQ3 H2=>tb { D with nx:=Pv (i+1),ct:=Pv (i+1),bk:=D.nx } Q3 H2) (hd:∀σ H,Pv n σ H->D.nx σ H) :
 ∃W:Nat->Nat->St->Hp->Prop,(∃m,W 0 m σ H)/\∀i m σ H,W i m σ H ->
  ((Itr lo n).stop i H/\D.nx σ H)\/((Itr lo n).go i H/\∃N:St->Hp->Prop,(∀Q2 H',N Q2 H'->∃m',m'<m/\W (i+1) m' Q2 H')/\∀x H',(Itr lo n).yld i H x H'->g x σ H' λQ3 H2=>tb { D with nx:=N,ct:=N,bk:=D.nx } Q3 H2):=by
 refine⟨λi m σ H=>m=n-i/\i<=n/\Pv i σ H,⟨n,by simp,MK _,h0⟩,?_⟩;rintro i m σ H ⟨rfl,hi,p⟩;by_cases hlt:i<n
 ·refine .inr ⟨hlt,Pv (i+1),λQ2 H' p'=>⟨n-(i+1),by omega,rfl,hlt,p'⟩,λx H' y=>?_⟩;obtain⟨e,y⟩:=y;subst e y;exact hs i σ _ hlt p
 ·have e:i=n:=by omega
  subst e;exact .inl ⟨MI _,hd σ H p⟩
abbrev R2:=V->V->Hp->VK->Prop
noncomputable def cj(X:Cx)(f:Value->Value->Sem Value)(r:R2):Prop :=
 ∀(pins:List (Addr×Obj)) (s:Shared) (σ:St) (H:Hp) (x y:V) (v u:Value) (Q:VK),Inv X pins σ H s->RelV x v->RelV y u->r x y H Q ->
  wpAny (model X.prog X.w) X.A (f v u) (EP X pins σ Q) X.xe s
noncomputable def UnR(X:Cx)(f:Value->Sem Value)(r:V->Hp->VK->Prop):Prop :=
 ∀(pins:List (Addr×Obj)) (s:Shared) (σ:St) (H:Hp) (x:V) (v:Value) (Q:VK),Inv X pins σ H s->RelV x v->r x H Q ->
  wpAny (model X.prog X.w) X.A (f v) (EP X pins σ Q) X.xe s
noncomputable def eR(X:Cx)(f:Value)(r:List V->Hp->VK->Prop):Prop :=
 ∀(pins:List (Addr×Obj)) (s:Shared) (σ:St) (H:Hp) (xs:List V) (us:List Value) (Q:VK),Inv X pins σ H s->Vals xs us->r xs H Q ->
  wpAny (model X.prog X.w) X.A (call f us) (EP X pins σ Q) X.xe s
noncomputable def Kk(X:Cx)(r:V->Hp->(Bool->Hp->Prop)->Prop):Prop :=
 ∀(pins:List (Addr×Obj)) (s:Shared) (σ:St) (H:Hp) (x:V) (v:Value) (Q:Bool->Hp->Prop),Inv X pins σ H s->RelV x v->r x H Q ->
  wpAny (model X.prog X.w) X.A (truthy v) (TP X pins σ Q) X.xe s
def tOp(r:R2)(ta tb:TE):TE:=λσ H Q=>ta σ H λx H1=>tb σ H1 λy H2=>r x y H2 Q
def tUn(r:V->Hp->VK->Prop)(ta:TE):TE:=λσ H Q=>ta σ H λx H1=>r x H1 Q
def rI(C:Int->Int->Prop)(g:Int->Int->V):R2:=λx y H Q=>∃i j,x=.int i/\y=.int j/\C i j/\Q (g i j) H
def rI0(g:Int->Int->V):R2:=λx y H Q=>∃i j,x=.int i/\y=.int j/\Q (g i j) H
noncomputable def rU(g:Int->V):V->Hp->VK->Prop:=λx H Q=>∃i,x=.int i/\Q (g i) H
section
variable {X:Cx}{a b c:Expr}{ta tb tc:TE}{pos:Pos}
def vx(ha:PE X a ta)(hb:PE X b tb){pins:List (Addr×Obj)}{s:Shared}{σ:St}{H:Hp}{R:V->V->Hp->Prop}(I:Inv X pins σ H s)
 (h:ta σ H λx H1=>tb σ H1 λy H2=>R x y H2) {Q:Value->Shared->Prop} {f:Value->Value->Sem Value}
 (hf:∀v u s2 x y H2,Inv X pins σ H2 s2->RelV x v->RelV y u->R x y H2->wpAny (model X.prog X.w) X.A (f v u) Q X.xe s2) :
 wpAny (model X.prog X.w) X.A (eval a X.env) (λv s₁=>wpAny (model X.prog X.w) X.A (eval b X.env) (λu s₂=>wpAny (model X.prog X.w) X.A (f v u) Q X.xe s₂) X.xe s₁) X.xe s:=by
 refine aK (ha pins s σ H _ I h) λv s1 ⟨x,H1,I1,r1,q1⟩=>?_
 refine aK (hb pins s1 σ H1 _ I1 q1) λu s2 ⟨y,H2,I2,r2,q2⟩=>?_
 exact hf v u s2 x y H2 I2 r1 r2 q2
def ag{op:Operator}{r:R2}(ho:cj X (binaryOp op) r)(ha:PE X a ta)(hb:PE X b tb):PE X (.BinOp a op b pos) (tOp r ta tb):=by intro pins s σ H Q I h;exact wpAny_BinOp (vx ha hb I h λv u s2 x y H2 I2 rx ry q=>ho pins s2 σ H2 x y v u Q I2 rx ry q)
def bV{op:UnaryOp}{r:V->Hp->VK->Prop}(ho:UnR X (unaryOp op) r)(ha:PE X a ta):PE X (.UnaryOp op a pos) (tUn r ta):=by intro pins s σ H Q I h;exact UnaryOp_ (aK (ha pins s σ H _ I h) λv s1 ⟨x,H1,I1,r1,q1⟩=>ho pins s1 σ H1 x v Q I1 r1 q1)
def opI{f:Value->Value->Sem Value}{C:Int->Int->Prop}{g:Int->Int->Int}
 (rule:∀(i j:Int) (t u:Tok) (s:Shared) (Q:Value->Shared->Prop) (E:Value->Shared->Prop),C i j->Q (.int (g i j) s.toks) { s with toks:=s.toks+1 }->wpAny (model X.prog X.w) X.A (f (.int i t) (.int j u)) Q E s) :
 cj X f (rI C λi j=>.int (g i j)):=by
 intro pins s σ H x y v u Q I rx ry h;obtain⟨i,j,rfl,rfl,hc,q⟩:=h;obtain⟨t,rfl⟩:=rx;obtain⟨t',rfl⟩:=ry;exact rule i j t t' s _ _ hc ⟨.int (g i j),H,I.tok _,⟨_,rfl⟩,q⟩
def yJ{f:Value->Value->Sem Value}{g:Int->Int->Int}
 (rule:∀(i j:Int) (t u:Tok) (s:Shared) (Q:Value->Shared->Prop) (E:Value->Shared->Prop),Q (.int (g i j) s.toks) { s with toks:=s.toks+1 }->wpAny (model X.prog X.w) X.A (f (.int i t) (.int j u)) Q E s) :
 cj X f (rI0 λi j=>.int (g i j)):=by
 intro pins s σ H x y v u Q I rx ry h;obtain⟨i,j,rfl,rfl,q⟩:=h;obtain⟨t,rfl⟩:=rx;obtain⟨t',rfl⟩:=ry;exact rule i j t t' s _ _ ⟨.int (g i j),H,I.tok _,⟨_,rfl⟩,q⟩
def lg{f:Value->Value->Sem Value}{g:Int->Int->Bool}
 (rule:∀(i j:Int) (t u:Tok) (s:Shared) (Q:Value->Shared->Prop) (E:Value->Shared->Prop),Q (.bool (g i j)) s->wpAny (model X.prog X.w) X.A (f (.int i t) (.int j u)) Q E s) :
 cj X f (rI0 λi j=>.bl (g i j)):=by
 intro pins s σ H x y v u Q I rx ry h;obtain⟨i,j,rfl,rfl,q⟩:=h;obtain⟨t,rfl⟩:=rx;obtain⟨t',rfl⟩:=ry;exact rule i j t t' s _ _ ⟨.bl (g i j),H,I,rfl,q⟩
def La(i j:Int):Prop:=0<=j/\j<=1000000/\i.natAbs<2^64
def aV:cj X (binaryOp .Add) (rI0 λi j=>.int (i+j)):=yJ λ_ _ _ _ _ _ _ q=>add_int q
def cg:cj X (binaryOp .Sub) (rI0 λi j=>.int (i-j)):=yJ λ_ _ _ _ _ _ _ q=>sub_int q
def EN:cj X (binaryOp .Mod) (rI (λ_ j=>0<j) λi j=>.int (i%j)):=opI λi j _ _ _ _ _ hc q=>by have h1:(0:Int)<j:=hc;exact mod_int' (by omega) (by rw[Int.fmod_eq_emod_of_nonneg i (by omega)];exact q)
def yG:cj X (binaryOp .Pow) (rI La λi j=>.int (i^j.toNat)):=opI λ_ _ _ _ _ _ _ hc q=>pow_int_small hc.1 hc.2.1 hc.2.2 q
def unI{f:Value->Sem Value}{g:Int->Int}
 (rule:∀(i:Int) (t:Tok) (s:Shared) (Q:Value->Shared->Prop) (E:Value->Shared->Prop),Q (.int (g i) s.toks) { s with toks:=s.toks+1 }->wpAny (model X.prog X.w) X.A (f (.int i t)) Q E s) :
 UnR X f (rU λi=>.int (g i)):=by
 intro pins s σ H x v Q I rx h;obtain⟨i,rfl,q⟩:=h;obtain⟨t,rfl⟩:=rx;exact rule i t s _ _ ⟨.int (g i),H,I.tok _,⟨_,rfl⟩,q⟩
def bU:UnR X (unaryOp .USub) (rU λi=>.int (-i)):=unI λ_ _ _ _ _ q=>neg_int q
end
section
variable {X:Cx}{a b c:Expr}{ta tb tc:TE}{pos:Pos}
def Ik{pins:List (Addr×Obj)}{σ:St}{H:Hp}{s:Shared}{Q:VK}{k k':Bool}(I:Inv X pins σ H s)(q:Q (.bl k) H)(e:k=k'):EP X pins σ Q (.bool k') s:=by subst e;exact⟨.bl k,H,I,rfl,q⟩
def dJ:cj X (compareOp .Lt) (rI0 λi j=>.bl (decide (i<j))):=lg λ_ _ _ _ _ _ _ q=>lt_int q
def eE:cj X (compareOp .Gt) (rI0 λi j=>.bl (decide (j<i))):=lg λ_ _ _ _ _ _ _ q=>gt_int q
def om:cj X (compareOp .GtE) (rI0 λi j=>.bl (decide (j<=i))):=lg λ_ _ _ _ _ _ _ q=>ge_int q
def yH:cj X (compareOp .Is) (λx y H Q=>y=.non/\Q (.bl (decide (x=.non))) H):=by
 intro pins s σ H x y v u Q I rx ry h;obtain⟨rfl,q⟩:=h;cases ry;refine is_none_gen (Ik I q ?_)
 cases x<;>first
  | (cases rx;rfl)
  | (obtain⟨t,rfl⟩:=rx;rfl)
def yR(b:Expr){op:CmpOp}(h:op≠.In:=by decide)(h2:op≠.NotIn:=by decide):behindInMarks op b=false:=by
 have e1:(op == CmpOp.In)=false:=by cases op<;>first |rfl |exact absurd rfl h
 have e2:(op == CmpOp.NotIn)=false:=by cases op<;>first |rfl |exact absurd rfl h2
 cases b<;>simp[behindInMarks,e1,e2]
def EF{op:CmpOp}{r:R2}(ho:cj X (compareOp op) r)(ha:PE X a ta)(hb:PE X b tb)(hm:behindInMarks op b=false):PE X (.Compare a [op] [b] pos) (tOp r ta tb):=by intro pins s σ H Q I h;exact wpAny_Compare1 (vx ha hb I h λv u s2 x y H2 I2 rx ry q=>ho pins s2 σ H2 x y v u Q I2 rx ry q) hm
def wo(t:TE):TT:=λσ H Q=>t σ H λx H'=>∃k,x=.bl k/\Q k H'
def D8{op:CmpOp}{r:R2}(ho:cj X (compareOp op) r)(ha:PE X a ta)(hb:PE X b tb)(hm:behindInMarks op b=false):PT X (.Compare a [op] [b] pos) (wo (tOp r ta tb)):=by
 intro pins s σ H Q I h
 refine wpAny_isTrue_Compare1 (aK (ha pins s σ H _ I h) λv s1 ⟨x,H1,I1,r1,q1⟩=>aK (hb pins s1 σ H1 _ I1 q1) λu s2 ⟨y,H2,I2,r2,q2⟩ =>aK (ho pins s2 σ H2 x y v u _ I2 r1 r2 q2) λc s3 ⟨z,H3,I3,r3,k,e,q3⟩=>?_) hm
 subst e;cases r3;exact wpAny_truthy_bool ⟨H3,I3,q3⟩
noncomputable def A9(K:PySem.W.Frag)(x:V)(H:Hp)(k:Bool):Prop :=
 match x with
 |.non=>k=false
 |.bl b=>k=b
 |.int i=>k=(i != 0)
 |.str y=>y.length<=sizeLine/\k=((y.length:Int) != 0)
 |.byt y=>y.size<=sizeLine/\k=((y.size:Int) != 0)
 |.ref p=>(∃xs,SqL K H p xs/\k=!xs.isEmpty)\/(∃xs,SqT K H p xs/\k=!xs.isEmpty)\/∃kvs,H p=some (.dK kvs)/\k=!kvs.isEmpty
 |_=>False
def Hq{κ:Type}{kvs:List (κ×V)}{vs:List (κ×Value)}(r:KV kvs vs):(!vs.isEmpty)=!kvs.isEmpty:=by cases r<;>rfl
def zC{xs:List V}{its:List Value}(r:Vals xs its):(!its.toArray.isEmpty)=!xs.isEmpty:=by cases r<;>simp
def lI:(sizeLine:Nat)<2^63:=by rw[sizeLine_eq];decide
def BJ:Kk X (λx H Q=>∃k,A9 X.K x H k/\Q k H):=by
 intro pins s σ H x v Q I rx h;obtain⟨k,e,q⟩:=h;have hl:=lI;have hs:sizeLine=16777216:=sizeLine_eq;cases x with
 |non =>cases rx;have e':k=false:=e;subst e';exact truthy_none ⟨H,I,q⟩
 |bl b =>cases rx;have e':k=b:=e;subst e';exact wpAny_truthy_bool ⟨H,I,q⟩
 |int i =>obtain⟨t,rfl⟩:=rx;have e':k=(i != 0):=e;subst e';exact PySem.P.truthy_int ⟨H,I,q⟩
 |str y =>obtain⟨t,rfl⟩:=rx;obtain⟨hy,e'⟩:y.length<=sizeLine/\k=((y.length:Int) != 0):=e;subst e';exact PySem.P.truthy_str (by omega) ⟨H,I.tok _,q⟩
 |byt y =>obtain⟨t,rfl⟩:=rx;obtain⟨hy,e'⟩:y.size<=sizeLine/\k=((y.size:Int) != 0):=e;subst e';exact PySem.W.truthy_bytes (by omega) ⟨H,I.tok _,q⟩
 |ref p =>
  cases rx;have e':(∃xs,SqL X.K H p xs/\k=!xs.isEmpty)\/(∃xs,SqT X.K H p xs/\k=!xs.isEmpty)\/∃kvs,H p=some (.dK kvs)/\k=!kvs.isEmpty:=e;rcases e' with⟨xs,hx,e'⟩ |⟨xs,hx,e'⟩ |⟨kvs,hx,e'⟩
  ·subst e';obtain⟨its,r,pl,hz⟩:=I.list hx;have hlen:=r.length;exact wpAny_truthy_list pl.isList (by simp only[M5];omega) ⟨H,I.tok _,by rw[zC r];exact q⟩
  ·subst e';obtain⟨its,r,pl,hz⟩:=I.tuple hx;have hlen:=r.length;exact truthy_tuple pl (by simp only[M5];omega) ⟨H,I.tok _,by rw[zC r];exact q⟩
  ·subst e';obtain⟨hz,hS,vs,r,m⟩:kvs.length<=sizeLine/\(p == sysModules)=false/\∃vs,KV kvs vs/\s.heap.DictOf (tV X.prog X.w) p vs:=I.hok p _ hx;have hlen:kvs.length=vs.length:=Paired.length r;exact wpAny_truthy_dict hS m (by omega) ⟨H,I.tok _,by rw[Hq r];exact q⟩
 |_=>exact(show False from e).elim
def D7(ha:PE X a ta)(he:∀whole,isTrue a X.env whole=(do let v <- whole;standAt a.pos;holding [v] (truthy v))) :
 PT X a (λσ H Q=>ta σ H λx H'=>∃k,A9 X.K x H' k/\Q k H'):=by
 intro pins s σ H Q I h;exact isTrue_plain (aK (ha pins s σ H _ I h) λv s1 ⟨x,H1,I1,r1,q1⟩=>BJ pins s1 σ H1 x v Q I1 r1 q1) (he _)
def gU{x:V}{us:List Value}(r:Vals [x] us):∃u,us=[u]/\RelV x u:=by
 cases r with
 |cons r1 r2=>cases r2;exact⟨_,rfl,r1⟩
def Bw{x y:V}{us:List Value}(r:Vals [x,y] us):∃u w',us=[u,w']/\RelV x u/\RelV y w':=by
 cases r with
 |cons r1 r2 =>
  cases r2 with
  |cons r3 r4=>cases r4;exact⟨_,_,rfl,r1,r3⟩
def eM:eR X (.builtin "abs") (λxs H Q=>∃i,xs=[.int i]/\Q (.int (if i<0 then -i else i)) H):=by intro pins s σ H xs us Q I r h;obtain⟨i,rfl,q⟩:=h;obtain⟨u,rfl,t,rfl⟩:=gU r;exact call_abs_int λu tk=>⟨.int (if i<0 then -i else i),H,I.tok _,⟨_,rfl⟩,q⟩
def AN(hc:X.calm=true):eR X (.builtin "max") (λxs H Q=>∃i j,xs=[.int i,.int j]/\Q (.int (if j>i then j else i)) H):=by
 intro pins s σ H xs us Q I r h;obtain⟨i,j,rfl,q⟩:=h;obtain⟨u,w',rfl,⟨t,rfl⟩,⟨t',rfl⟩⟩:=Bw r;refine max_two_ints (I.ok.hd hc) λh' tk k=>⟨_,H,I.kept k,?_,q⟩
 by_cases hj:j>i
 ·rw[if_pos hj,if_pos hj];exact⟨_,rfl⟩
 ·rw[if_neg hj,if_neg hj];exact⟨_,rfl⟩
def vh:eR X (.type "int") (λxs H Q=>(∃i,xs=[.int i]/\Q (.int i) H)\/∃k,xs=[.bl k]/\Q (.int (if k then 1 else 0)) H):=by
 intro pins s σ H xs us Q I r h;rcases h with⟨i,rfl,q⟩ |⟨k,rfl,q⟩
 ·obtain⟨u,rfl,t,rfl⟩:=gU r;exact call_int_int ⟨.int i,H,I,⟨_,rfl⟩,q⟩
 ·obtain⟨u,rfl,r1⟩:=gU r;cases r1;exact call_int_bool ⟨.int (if k then 1 else 0),H,I.tok _,⟨_,rfl⟩,q⟩
end
structure ObjM(h:Heap)(x dx C:Addr)(mA:Str->Option Value):Prop where
 obj:h.get? x=some (PySem.W.instObj C dx)
 ns:h.Ns1 dx mA
 ne:dx≠x
def GY{h:Heap}{dx:Addr}{mA:Str->Option Value}(n:h.Ns1 dx mA):∃od,h.get? dx=some od/\∀name,PySem.W.lookIn name od=some (mA name):=by
 obtain⟨o,es,ep,ho,hd,hk,_,hm⟩:=n;refine⟨o,ho,λname=>?_⟩;have e:=hm name;unfold nsFind findBy at e
 rw[<- Array.find?_toList]at e;unfold PySem.W.lookIn;rw[hd];dsimp only
 split
 ·rename_i y q
  rw[q]at e;exact congrArg some e
 ·rename_i q
  rw[q]at e
  have a:es.toList.any (·.refKey)=false:=by rw[List.any_eq_false];intro y hy;obtain⟨z,t,hkey⟩:=hk y (Array.mem_toList_iff.mp hy);simp[DictEntry.refKey,hkey]
  have a':¬es.toList.any (·.refKey)=true:=by rw[a];exact On
  rw[if_neg a'];exact congrArg some e
def ObjM.look{h:Heap}{x dx C:Addr}{mA:Str->Option Value}(I:ObjM h x dx C mA):∃od,PySem.W.InstAt h x (PySem.W.instObj C dx) C (some od)/\∀name,PySem.W.lookIn name od=some (mA name) :=
 let⟨od,ho,hl⟩:=GY I.ns
 ⟨od,⟨I.obj,rfl,rfl,ho⟩,hl⟩
section
variable {prog:Program}{w:World}{A:Around}{E:Value->Shared->Prop}{s:Shared}{K:PySem.W.Frag}{x dx C f:Addr}{mA:Str->Option Value}{name:Str}{v:Value}
def HQ{expr:Bool}{Q:Value->Shared->Prop}(X:K.In s.heap)(I:ObjM s.heap x dx C mA)(hg:PySem.W.plainGet K C name=true)(hh:PySem.W.hasDictIn K C=true)
 (ha:PySem.W.findIn K (.ref C) name=some none) (hv:mA name=some v) (hv':PySem.W.handedIn v=true) (h:Q v { s with toks:=s.toks+1 }) :
 wpAny (model prog w) A (getAttr (.ref x) name expr) Q E s:=by
 obtain⟨od,J,hl⟩:=I.look;exact PySem.W.get_value X J (PySem.W.plainGet_of hg).1 (PySem.W.findObj_own hh ha rfl (by rw[hl,hv])) hv' h
def HP{pl:Sem Bool}{Q:Value×List Value->Shared->Prop}(X:K.In s.heap)(I:ObjM s.heap x dx C mA)(hg:PySem.W.plainGet K C name=true)
 (hf:PySem.W.findIn K (.ref C) name=some (some (.ref f))) (ht:PySem.W.isFn K (.ref f)=true) (hv:mA name=none) (h:Q (.ref f,[.ref x]) s) :
 wpAny (model prog w) A (getMethod (.ref x) name pl) Q E s:=by
 obtain⟨od,J,hl⟩:=I.look;exact PySem.W.method_fn X J (PySem.W.plainGet_of hg).1 (PySem.W.plainGet_of hg).2 hf (beq_iff_eq.mp ht) (by show(PySem.W.lookIn name od).map (·.isSome)=some false;rw[hl,hv];rfl) h
def qC{ns:List Str}{Q:Unit->Shared->Prop}(X:K.In s.heap)(I:ObjM s.heap x dx C mA)
 (hs:PySem.W.findIn K (.ref C) "__setattr__"=some (some (.builtin "object.__setattr__"))) (hp:PySem.W.plainOver K C=true) (ht:PySem.W.takerIn K C name=some none) (hh:PySem.W.hasDictIn K C=true)
 (hw:PySem.Within mA ns) (hsz:ns.length<=sizeLine)
 (h:∀h',ObjM h' x dx C (λy=>if y=name then some v else mA y)->Heap.SameBut dx s.heap h'->Q () { s with heap:=h',toks:=s.toks+2 }) :
 wpAny (model prog w) A (setAttr (.ref x) name v) Q E s:=by
 obtain⟨od,J,hl⟩:=I.look;refine PySem.W.set_plain X J hs (PySem.W.osa_open (s:={ s with toks:=s.toks+1 }) (r:=none) X J hp ht λb=>?_);obtain⟨cd,hc,hd'⟩:=PySem.W.any_some hh;have hx:s.heap.get? x=some ⟨.ref C,some dx,.plain,#[]⟩:=I.obj;refine wpAny_bind (wpAny_pure (wpAny_bind (wpAny_bind (wpAny_loadPart hx (wpAny_bind (PySem.W.Looks.here (s:={ s with toks:=s.toks+1 }) (PySem.W.looks_clsIn X hc) ?_))))));rw[hd'];refine wpAny_pure (a:=some dx) (wpAny_bind (wpAny_pure (wpAny_bind ?_)));refine wpAny_nsSet1 (s:={ s with toks:=s.toks+1 }) I.ns λh' hn2 hs2=>?_
 obtain⟨oD,esD,epD,hoD,hdD,hcD⟩:=hn2.count (PySem.Within.cons name v hw);refine wpAny_bind (wpAny_lookBehind hoD (by rw[hdD];exact pastItsLine_dict (MU hcD (by rw[Ng];omega))) ?_);exact wpAny_pure (h _ ⟨(hs2.2 _ (Ne.symm I.ne)).trans I.obj,hn2,I.ne⟩ hs2)
def GQ{R:Result->Shared->Prop}{vs:List Value}{kw:List (Str×Value)}(X:K.In s.heap)(hm:PySem.W.makesIn K C=true)
 (hi:PySem.W.findIn K (.ref C) "__init__"=some (some (.ref f))) (hf:PySem.W.typeIn K (.ref f)=some (.type "function"))
 (h:codeAny (model prog w) (A.under (.builtin "type.__call__" ⟨.ref C::vs,kw⟩)) (.call (.ref f) ⟨.ref (s.heap.objs.size+1)::vs,kw⟩) (PySem.W.InitBack (s.heap.objs.size+1) R)
   { s with heap:=(s.heap.push PySem.W.emptyDict).push (PySem.W.instObj C s.heap.objs.size) }) :
 codeAny (model prog w) A (.call (.ref C) ⟨vs,kw⟩) R s:=by
 obtain⟨hh,g,d,t,os⟩:=s;exact PySem.W.make_core (PySem.W.makes_of X hm) (PySem.W.looks_findIn X hi) (λself=>PySem.W.bind_fn X self hf) (.inl rfl) h
end
noncomputable def cS(f:Str)(v:V):List (Str×V)->List (Str×V)
 | []=>[(f,v)]
 | (g,x)::r=>if g=f then(g,v)::r else(g,x)::cS f v r
theorem eI(f g:Str)(v:V):∀fs:List (Str×V),(cS f v fs).lookup g=if g=f then some v else fs.lookup g
 | []=>by
  show List.lookup g [(f,v)]=_;by_cases h:g=f
  ·have hb:(g == f)=true:=beq_iff_eq.mpr h;simp only[List.lookup,hb,if_pos h]
  ·have hb:(g == f)=false:=beq_eq_false_iff_ne.mpr h;simp only[List.lookup,hb,if_neg h]
 | (k,x)::r=>by
  have ih:=eI f g v r;rw[show cS f v ((k,x)::r)=(if k=f then(k,v)::r else(k,x)::cS f v r)from rfl];by_cases hk:k=f
  ·rw[if_pos hk];by_cases h:g=k
   ·have hb:(g == k)=true:=beq_iff_eq.mpr h;simp only[List.lookup,hb,if_pos (h.trans hk)]
   ·have hb:(g == k)=false:=beq_eq_false_iff_ne.mpr h;simp only[List.lookup,hb,if_neg (λe:g=f=>h (e.trans hk.symm))]
  ·rw[if_neg hk];by_cases h:g=k
   ·have hb:(g == k)=true:=beq_iff_eq.mpr h;simp only[List.lookup,hb,if_neg (λe:g=f=>hk (h.symm.trans e))]
   ·have hb:(g == k)=false:=beq_eq_false_iff_ne.mpr h;simp only[List.lookup,hb];exact ih
theorem ue(f:Str)(v:V):∀fs:List (Str×V),f∈(cS f v fs).map (·.1)/\∀g,g∈fs.map (·.1)->g∈(cS f v fs).map (·.1)
 | []=>⟨by simp[cS],λg h=>by simp at h⟩
 | (k,x)::r=>by
  obtain⟨i1,i2⟩:=ue f v r;rw[show cS f v ((k,x)::r)=(if k=f then(k,v)::r else(k,x)::cS f v r)from rfl];by_cases hk:k=f
  ·rw[if_pos hk];subst hk;exact⟨by simp,λg h=>by simpa using h⟩
  ·rw[if_neg hk];refine⟨?_,λg h=>?_⟩
   ·rw[Oc];exact MV _ i1
   ·rw[Oc]at h ⊢;rcases MG.mp h with e |e
    ·exact MG.mpr (.inl e)
    ·exact MV _ (i2 g e)
theorem zq(f:Str)(v:V):∀fs:List (Str×V),(cS f v fs).length<=fs.length+1
 | []=>by simp[cS]
 | (k,x)::r=>by
  have ih:=zq f v r;rw[show cS f v ((k,x)::r)=(if k=f then(k,v)::r else(k,x)::cS f v r)from rfl];by_cases hk:k=f
  ·rw[if_pos hk,Ng,Ng];omega
  ·rw[if_neg hk,Ng,Ng];omega
def RelO.some_of{v:V}{o:Option Value}(r:RelO (some v) o):∃u,o=some u/\RelV v u:=by
 cases o with
 |none=>exact(show False from r).elim
 |some u=>exact⟨u,rfl,r⟩
def RelO.none_of{o:Option Value}(r:RelO none o):o=none:=by
 cases o with
 |none=>rfl
 |some u=>exact(show False from r).elim
def HG{v:V}{u:Value}(r:RelV v u):PySem.W.handedIn u=true:=by
 cases v with
 |non=>cases(show u=Value.none from r);rfl
 |bl b=>cases(show u=Value.bool b from r);rfl
 |int i=>obtain⟨t,e⟩:=(show ∃t,u=Value.int i t from r);cases e;rfl
 |str x=>obtain⟨t,e⟩:=(show ∃t,u=Value.str x t from r);cases e;rfl
 |byt b=>obtain⟨t,e⟩:=(show ∃t,u=Value.bytes b t from r);cases e;rfl
 |flt b=>obtain⟨t,e⟩:=(show ∃t,u=Value.float b t from r);cases e;rfl
 |ref a=>cases(show u=Value.ref a from r);rfl
 |ty n=>cases(show u=Value.type n from r);rfl
section
variable {P:Program}{w:World}{H H':Hp}{h h':Heap}{a C dx:Addr}{fs fs':List (Str×V)}
def oN(hok:HOk P w H h)(e:H a=some (.ins C dx fs)):∃mA,ObjM h a dx C mA/\(∀f,RelO (fs.lookup f) (mA f))/\PySem.Within mA (fs.map (·.1))/\fs.length<=1000/\H dx=some (.own a):=by obtain⟨d,z,ne,ob,mA,n,r,q⟩:=(show ObjOk P w H h a (.ins C dx fs)from hok a _ e);exact⟨mA,⟨ob,n,ne⟩,r,q,z,d⟩
end
structure Cls(K:PySem.W.Frag)(C:Addr):Prop where
 pg:PySem.W.plainGet K C Str.empty=true
 hd:PySem.W.hasDictIn K C=true
 po:PySem.W.plainOver K C=true
 sa:PySem.W.findIn K (.ref C) "__setattr__"=some (some (.builtin "object.__setattr__"))
def Cls.get{K:PySem.W.Frag}{C:Addr}(c:Cls K C)(f:Str):PySem.W.plainGet K C f=true:=c.pg
def NoAttr(K:PySem.W.Frag)(C:Addr)(f:Str):Prop:=PySem.W.findIn K (.ref C) f=some none
def NoAttr.taker{K:PySem.W.Frag}{C:Addr}{f:Str}(n:NoAttr K C f):PySem.W.takerIn K C f=some none:=by unfold PySem.W.takerIn;rw[show PySem.W.findIn K (.ref C) f=some none from n];rfl
structure Meth(K:PySem.W.Frag)(C:Addr)(m:Str)(f:Addr):Prop where
 at_:PySem.W.findIn K (.ref C) m=some (some (.ref f))
 fn:PySem.W.isFn K (.ref f)=true
 kp:PySem.W.keepIn K (.ref f)=true
section
variable {X:Cx}{pins:List (Addr×Obj)}{σ:St}{H:Hp}{s:Shared}{a C dx:Addr}{fs:List (Str×V)}{f:Str}{v:V}{A:Around}{E:Value->Shared->Prop}
def HN{b:Bool}{Q:Value->Shared->Prop}(I:Inv X pins σ H s)(e:H a=some (.ins C dx fs))(c:Cls X.K C)(n:NoAttr X.K C f)(l:fs.lookup f=some v)
 (h:∀u s',Inv X pins σ H s'->RelV v u->Q u s'):wpAny (model X.prog X.w) A (getAttr (.ref a) f b) Q E s:=by
 obtain⟨mA,O,r,_,_,_⟩:=oN I.hok e;obtain⟨u,hu,ru⟩:=RelO.some_of (v:=v) (o:=mA f) (by rw[<- l];exact r f);exact HQ I.kIn O (c.get f) c.hd n hu (HG ru) (h u _ (I.tok _) ru)
def zN{m:Str}{g:Addr}{pl:Sem Bool}{Q:Value×List Value->Shared->Prop}(I:Inv X pins σ H s)(e:H a=some (.ins C dx fs))(c:Cls X.K C)(k:Meth X.K C m g)(l:fs.lookup m=none)
 (h:Q (.ref g,[.ref a]) s):wpAny (model X.prog X.w) A (getMethod (.ref a) m pl) Q E s:=by
 obtain⟨mA,O,r,_,_,_⟩:=oN I.hok e;have hn:mA m=none:=RelO.none_of (by rw[<- l];exact r m);exact HP I.kIn O (c.get m) k.at_ k.fn hn h
def CQ{y:V}{u:Value}{Q:Unit->Shared->Prop}(I:Inv X pins σ H s)(e:H a=some (.ins C dx fs))(c:Cls X.K C)(n:NoAttr X.K C f)(hl:fs.length<1000)(ry:RelV y u)
 (h:∀s',Inv X pins σ (upd H a (.ins C dx (cS f y fs))) s'->Q () s'):wpAny (model X.prog X.w) A (setAttr (.ref a) f u) Q E s:=by
 obtain⟨mA,O,r,wi,_,ho⟩:=oN I.hok e;have hz:(fs.map (·.1)).length<=sizeLine:=by rw[MC,sizeLine_eq];omega
 refine qC I.kIn O c.sa c.po n.taker c.hd wi hz λh' O' sb=>h _ ?_
 have hd:∃o,h'.get? dx=some o:=let⟨o,_,_,e',_⟩:=O'.ns;⟨o,e'⟩;refine I.write (x:=a) (e:=dx) (by rw[e];exact True.intro) (.inr ho) (λb q hb z=>(sb.2 b hb).trans z) hd ?_;refine⟨by rw[upd_ne O.ne];exact ho,?_,O.ne,O'.obj,_,O'.ns,λg=>?_,λg hg=>?_⟩
 ·have:=zq f y fs;omega
 ·show RelO ((cS f y fs).lookup g) (if g=f then some u else mA g);rw[eI];by_cases q:g=f
  ·rw[if_pos q,if_pos q];exact ry
  ·rw[if_neg q,if_neg q];exact r g
 ·by_cases q:g=f
  ·rw[q];exact(ue f y fs).1
  ·refine(ue f y fs).2 g (wi g λz=>hg ?_);show(if g=f then some u else mA g)=none;rw[if_neg q];exact z
def Inv.made(I:Inv X pins σ H s):Inv X pins σ (upd (upd H s.heap.objs.size (.own (s.heap.objs.size+1))) (s.heap.objs.size+1) (.ins C s.heap.objs.size []))
 { s with heap:=(s.heap.push PySem.W.emptyDict).push (PySem.W.instObj C s.heap.objs.size) }:=by
 have e1:(s.heap.push PySem.W.emptyDict).get? s.heap.objs.size=some PySem.W.emptyDict:=Heap.get?_push_size s.heap rfl
 have e2:((s.heap.push PySem.W.emptyDict).push (PySem.W.instObj C s.heap.objs.size)).get? (s.heap.objs.size+1)=some (PySem.W.instObj C s.heap.objs.size):=by
  have:=Heap.get?_push_size (s.heap.push PySem.W.emptyDict) (o:=PySem.W.instObj C s.heap.objs.size) rfl
  rwa [Heap.size_push]at this
 have e3:(s.heap.push PySem.W.emptyDict).Ns s.heap.objs.size (λ_=>none):=⟨PySem.W.emptyDict,#[],_,e1,rfl,(λe he=>absurd he (by simp)),λ_=>rfl⟩;have I1:=I.laid (a:=s.heap.objs.size) (o:=.own (s.heap.objs.size+1)) (h':=s.heap.push PySem.W.emptyDict) (t':=s.toks) (λb u q=>Heap.get?_push_of_some _ q) (MI _) ⟨_,e1⟩;refine I1.laid (a:=s.heap.objs.size+1) (o:=.ins C s.heap.objs.size []) (t':=s.toks) (λb u q=>Heap.get?_push_of_some _ q) (Oe (Heap.size_push _ _)) ?_;have ne:s.heap.objs.size≠s.heap.objs.size+1:=Nb (NR _);refine⟨by rw[upd_ne ne,ar],MK _,ne,e2,λ_=>none,(Heap.Ns1.of_empty e3).at λo q=>Heap.get?_push_of_some _ q,λ_=>True.intro,λy hy=>absurd rfl hy⟩
def J9{prog:Program}{w:World}{env:Env}{e:Expr}{f:Str}{pos:Pos}{s:Shared}{Q:Value->Shared->Prop}(hb:attributeBase e f env (eval e env)=eval e env)
 (h:wpAny (model prog w) A (eval e env) (λo s₁=>wpAny (model prog w) A (getAttr o f true) Q E s₁) E s):wpAny (model prog w) A (eval (.Attribute e f pos) env) Q E s :=
 Attribute_any_ h (by rw[arm_eval_Attribute,hb])
end
def wy(K:PySem.W.Frag)(ta:TE)(f:Str):TE:=λσ H Q=>ta σ H λx H1=>∃a C dx fs v,x=.ref a/\H1 a=some (.ins C dx fs)/\Cls K C/\NoAttr K C f/\fs.lookup f=some v/\Q v H1
def Dx(K:PySem.W.Frag)(ta tv:TE)(f:Str):TS:=λD σ H=>tv σ H λy H1=>ta σ H1 λx H2=>∃a C dx fs,x=.ref a/\H2 a=some (.ins C dx fs)/\Cls K C/\NoAttr K C f/\fs.length<1000 /\
 D.nx σ (upd H2 a (.ins C dx (cS f y fs)))
section
variable {X:Cx}{o e value:Expr}{f:Str}{pos pos' tpos:Pos}{ta tv:TE}
def EE(he:PE X e ta)(hb:attributeBase e f X.env (eval e X.env)=eval e X.env):PE X (.Attribute e f pos) (wy X.K ta f):=by intro pins s σ H Q I h;refine J9 hb (aK (he pins s σ H _ I h) ?_);rintro u s1 ⟨x,H1,I1,rx,a,C,dx,fs,v,ex,ea,c,n,l,q⟩;subst ex;obtain rfl:u=Value.ref a:=rx;exact HN I1 ea c n l λu' s2 I2 ru=>⟨v,H1,I2,ru,q⟩
def k6(ha:PE X o ta)(hv:PE X value tv)(hs:swapsWith value (some (.Attribute o f pos')) pos.line X.env=pure false):PS X (.Assign [.Attribute o f pos'] value pos) (Dx X.K ta tv f):=by intro pins s σ H D I h;refine plainObj_wpAny_Assign_Attribute (aK (hv pins s σ H _ I h) λu s1 ⟨y,H1,I1,ry,q⟩=>aK (ha pins s1 σ H1 _ I1 q) ?_) hs;rintro ov s2 ⟨x,H2,I2,rx,a,C,dx,fs,ex,ea,c,n,l,q2⟩;subst ex;obtain rfl:ov=Value.ref a:=rx;exact CQ I2 ea c n l ry λs3 I3=>⟨σ,_,I3,q2⟩
end
section
variable {X:Cx}{pins:List (Addr×Obj)}{σ:St}{H:Hp}{s:Shared}{A:Around}{E:Value->Shared->Prop}{Q:Value->Shared->Prop}{c:Value}{b:Bool}
inductive TyOf(K:PySem.W.Frag)(H:Hp):V->Value->Prop where
 |non:TyOf K H .non (.type "NoneType")
 |bl (x:Bool):TyOf K H (.bl x) (.type "bool")
 |int (i:Int):TyOf K H (.int i) (.type "int")
 |str (x:Str):TyOf K H (.str x) (.type "str")
 |flt (x:UInt64):TyOf K H (.flt x) (.type "float")
 |lst {a:Addr} {xs:List V} (e:H a=some (.lst xs)):TyOf K H (.ref a) (.type "list")
 |frz {a:Addr} {o:Obj} {xs:List V} (e:H a=some (.frz o (.lst xs))):TyOf K H (.ref a) (.type "list")
 |tup {a:Addr} {xs:List V} (e:H a=some (.tup xs)):TyOf K H (.ref a) (.type "tuple")
 |dK {a:Addr} {kvs:List (Key×V)} (e:H a=some (.dK kvs)):TyOf K H (.ref a) (.type "dict")
 |dT {a:Addr} {kvs:List (List Key×V)} (e:H a=some (.dT kvs)):TyOf K H (.ref a) (.type "dict")
 |ins {a C dx:Addr} {fs:List (Str×V)} (e:H a=some (.ins C dx fs)) (cl:Cls K C) (ha:PySem.W.findIn K (.ref C) "__class__"=some (some (.builtin "object.__class__")))
  (hn:PySem.W.specialIn K (.builtin "object.__class__") "__get__"=some (some (.builtin "getset_descriptor.__get__"))) (htk:PySem.W.takesIn K (.builtin "object.__class__")=some true)
  (hm:PySem.W.mroIn K C (.type "object")=some true):TyOf K H (.ref a) (.ref C)
def Hn{x:V}{u t:Value}(I:Inv X pins σ H s)(rx:RelV x u)(ty:TyOf X.K H x t)(e:PySem.W.kitOne X.K t c=some b)(h:∀tk,Q (.bool b) { s with toks:=tk }) :
 wpAny (model X.prog X.w) A (call (.builtin "isinstance") [u,c]) Q E s:=by
 cases ty with
 |non=>cases(show u=Value.none from rx);exact PySem.W.kia_one PySem.W.kitx_none I.kIn True.intro e (λz=>nomatch z) h
 |bl y=>cases(show u=Value.bool y from rx);exact PySem.W.kia_one PySem.W.kitx_bool I.kIn True.intro e (λz=>nomatch z) h
 |int i=>obtain⟨t,q⟩:=(show ∃t,u=Value.int i t from rx);cases q;exact PySem.W.kia_one PySem.W.kitx_int I.kIn True.intro e (λz=>nomatch z) h
 |str y=>obtain⟨t,q⟩:=(show ∃t,u=Value.str y t from rx);cases q;exact PySem.W.kia_one PySem.W.kitx_str I.kIn True.intro e (λz=>nomatch z) h
 |flt y=>obtain⟨t,q⟩:=(show ∃t,u=Value.float y t from rx);cases q;exact PySem.W.kia_one PySem.W.kitx_float I.kIn True.intro e (λz=>nomatch z) h
 | @lst a xs ea =>cases(show u=Value.ref a from rx);obtain⟨_,_,n,_,h1⟩:=(show ObjOk X.prog X.w H s.heap a (.lst xs)from I.hok a _ ea);exact PySem.W.kia_one PySem.W.kitx_list I.kIn ⟨_,h1,rfl⟩ e (λz=>nomatch z) h
 | @frz a ob xs ea =>cases(show u=Value.ref a from rx);obtain⟨_,_,_,n,_,h1⟩:=(show ObjOk X.prog X.w H s.heap a (.frz ob (.lst xs))from I.hok a _ ea);exact PySem.W.kia_one PySem.W.kitx_list I.kIn ⟨_,h1,rfl⟩ e (λz=>nomatch z) h
 | @tup a xs ea =>cases(show u=Value.ref a from rx);obtain⟨_,_,_,p⟩:=(show ObjOk X.prog X.w H s.heap a (.tup xs)from I.hok a _ ea);obtain⟨o,h1,h2,_⟩:=p;exact PySem.W.kia_one PySem.W.kitx_tuple I.kIn ⟨o,h1,h2⟩ e (λz=>nomatch z) h
 | @dK a kvs ea =>cases(show u=Value.ref a from rx);obtain⟨_,_,vs,_,p⟩:=(show ObjOk X.prog X.w H s.heap a (.dK kvs)from I.hok a _ ea);obtain⟨o,es,ep,h1,h2,_⟩:=p;exact PySem.W.kia_one PySem.W.kitx_dict I.kIn ⟨o,h1,h2.1⟩ e (λz=>nomatch z) h
 | @dT a kvs ea =>cases(show u=Value.ref a from rx);obtain⟨_,_,xs,_,o,es,ep,h1,h2,_⟩:=(show ObjOk X.prog X.w H s.heap a (.dT kvs)from I.hok a _ ea);exact PySem.W.kia_one PySem.W.kitx_dict I.kIn ⟨o,h1,h2.1⟩ e (λz=>nomatch z) h
 | @ins a C dx fs ea cl ha hn htk hm =>cases(show u=Value.ref a from rx);obtain⟨mA,O,_⟩:=oN I.hok ea;obtain⟨od,J,_⟩:=O.look;exact PySem.W.kia_one (PySem.W.kitx_own (cl.get _) cl.hd ha hn htk hm) I.kIn J e (λz=>nomatch z) h
end
structure Room(k:Nat)(A:Around):Prop where
 hd:A.handled=none
 dp:A.depth+3*k+5<recursionLimit
 un:A.units+16*k+200<cLine
def Room.mono{j k:Nat}{A:Around}(r:Room k A)(h:j<=k:=by decide):Room j A:=⟨r.hd,by have:=r.dp;omega,by have:=r.un;omega⟩
def Room.deeper{k:Nat}{A:Around}(r:Room (k+1) A)(env:Env):Room k (A.deeper env) :=
 ⟨r.hd,by have:=r.dp;show A.depth+1+3*k+5<_;omega,by have:=r.un;show A.units+3+16*k+200<_;omega⟩
def GR{A:Around}{C:Addr}{us:List Value}{kw:List (Str×Value)}:(A.under (.builtin "type.__call__" ⟨.ref C::us,kw⟩)).depth=A.depth+1:=by first |rfl |simp[Around.under,Code.weight,Code.isCreation,Code.isGuard,Code.isCaller,Code.frames,Code.isFrame,guardIds]
def GP{A:Around}{C:Addr}{us:List Value}{kw:List (Str×Value)}:(A.under (.builtin "type.__call__" ⟨.ref C::us,kw⟩)).units=A.units+1:=by first |rfl |simp[Around.under,Code.cUnits,Code.frames,Code.isFrame]
def Room.make{k:Nat}{A:Around}(r:Room (k+1) A)(C:Addr)(us:List Value)(kw:List (Str×Value)):Room k (A.under (.builtin "type.__call__" ⟨.ref C::us,kw⟩)) :=
 ⟨r.hd,by have:=r.dp;rw[GR];omega,by have:=r.un;rw[GP];omega⟩
def Room.depth{k:Nat}{A:Around}(r:Room k A):A.depth<recursionLimit:=by have:=r.dp;omega
def Room.units{k:Nat}{A:Around}(r:Room k A):A.units+64<cLine:=by have:=r.un;omega
def d8:TA:=λ_ H Q=>Q [] H
def cw(ta:TE)(tr:TA):TA:=λσ H Q=>ta σ H λx H1=>tr σ H1 λxs H2=>Q (x::xs) H2
section
variable {X:Cx}{e:Expr}{es:List Expr}{te:TE}{t:TA}{pos:Pos}
def ad:PA X [] d8:=λ_ _ _ _ H Q I h=>Calls.spliced_nil ⟨[],H,I,.nil,h⟩
def ac(ha:PE X e te)(hr:PA X es t)(hs:starEach (e::es) X.env=(false,eval e X.env)::starEach es X.env:=by rfl):PA X (e::es) (cw te t):=by intro pos pins s σ H Q I h;rw[hs];show wpAny _ _ (spliced ((false,eval e X.env)::backTo pos (starEach es X.env))) _ _ s;refine Calls.spliced_cons (aK (ha pins s σ H _ I h) ?_);rintro u s1 ⟨x,H1,I1,r1,q1⟩;exact aK (hr pos pins s1 σ H1 _ I1 q1) λus s2 ⟨xs,H2,I2,r2,q2⟩=>⟨x::xs,H2,I2,.cons r1 r2,q2⟩
def gw(t:TA):TE:=λσ H Q=>t σ H λxs H1=>xs.length<=sizeLine/\∀p,H1 p=none->Q (.ref p) (upd H1 p (.tup xs))
def pT(t:TA):TE:=λσ H Q=>t σ H λxs H1=>xs.length<=sizeLine/\∀p,H1 p=none->Q (.ref p) (upd H1 p (.lst xs))
def cL{x1}(h:PA X es t):PE X (.Tuple es x1 pos) (gw t):=by intro pins s σ H Q I hq;refine wpAny_Tuple_spliced (aK (h pos pins s σ H _ I hq) λus s1 ⟨xs,H1,I1,r,z,q⟩=>⟨by rw[<- r.length];exact z,?_⟩);have hf:H1 s1.heap.objs.size=none:=I1.hok.fresh (MI _);refine⟨.ref s1.heap.objs.size,upd H1 s1.heap.objs.size (.tup xs),I1.laid (t':=s1.toks) (λb u e=>Heap.get?_push_of_some _ e) (MI _) ?_,rfl,q _ hf⟩;exact⟨z,us,r,⟨_,Heap.get?_push_size _ rfl,rfl,_,rfl⟩⟩
def aU(h:PA X es t):PE X (.List es pos) (pT t):=by intro pins s σ H Q I hq;refine wpAny_List_spliced (aK (h pos pins s σ H _ I hq) λus s1 ⟨xs,H1,I1,r,z,q⟩=>⟨by rw[<- r.length];exact z,?_⟩);have hf:H1 s1.heap.objs.size=none:=I1.hok.fresh (MI _);refine⟨.ref s1.heap.objs.size,upd H1 s1.heap.objs.size (.lst xs),I1.laid (t':=s1.toks) (λb u e=>Heap.get?_push_of_some _ e) (MI _) ?_,rfl,q _ hf⟩;exact⟨z,us,0,r,Heap.get?_push_size _ rfl⟩
end
abbrev Sp:=List V->Hp->VK->XK->Prop
abbrev CXT:=List Env->Hp->Shared->XK->Value->Shared->Prop
structure Env0(P:Program)(w:World)(K:PySem.W.Frag)(mg:Str->Option Value)(base:Heap)(A:Around)(outer:List Env)(s:Shared)(H:Hp):Prop where
 frames:A.frames=some outer
 mod:Mod K mg base
 bs:∀b o,base.get? b=some o->s.heap.get? b=some o/\H b=none
 bsz:base.objs.size<=s.heap.objs.size
 funs:s.heap.FunFrames base outer
 frf:∀b∈frs outer,H b=none
 hok:HOk P w H s.heap
 bare:AllBare s.gens
noncomputable def CE(outer:List Env)(P:Program)(w:World)(H:Hp)(s:Shared)(Q:VK)(u:Value)(s':Shared):Prop :=
 ∃v H',s'.os=s.os/\AllBare s'.gens/\Un (frs outer) [] H H' s.heap s'.heap/\HOk P w H' s'.heap/\RelV v u/\Q v H'
noncomputable def CR(CX:CXT)(outer:List Env)(P:Program)(w:World)(H:Hp)(s:Shared)(Q:VK)(E:XK)(r:Result)(s':Shared):Prop :=
 match r with
 |.ok (.ret u)=>CE outer P w H s Q u s'
 |.ok _=>False
 |.error e=>CX outer H s E e s'
structure FnOk(P:Program)(w:World)(K:PySem.W.Frag)(mg:Str->Option Value)(base:Heap)(CX:CXT)(k:Nat)(f:Addr)(fd:FuncData)(ps:List Str)(sp:Sp):Prop where
 len:∀vs H Q E,sp vs H Q E->vs.length=ps.length
 run:∀(A:Around) (outer:List Env) (s:Shared) (H:Hp) (args:Args) (us:List Value) (vs:List V) (Q:VK) (E:XK),Room k A->Env0 P w K mg base A outer s H->BindsTo s fd args (ps.zip us)->Vals vs us->sp vs H Q E ->
  codeAny (model P w) A (.call (.ref f) args) (CR CX outer P w H s Q E) s
def Env0.make{P:Program}{w:World}{K:PySem.W.Frag}{mg:Str->Option Value}{base:Heap}{A:Around}{outer:List Env}{s:Shared}{H:Hp}(e:Env0 P w K mg base A outer s H)(C:Addr)(us:List Value)(kw:List (Str×Value)) :
 Env0 P w K mg base (A.under (.builtin "type.__call__" ⟨.ref C::us,kw⟩)) outer s H:=⟨by first |exact e.frames | (simpa[Around.under,Code.envs,Code.isFrame,pushEnvs]using e.frames),e.mod,e.bs,e.bsz,e.funs,e.frf,e.hok,e.bare⟩
section
variable {X:Cx}{pins:List (Addr×Obj)}{σ:St}{H:Hp}{s s':Shared}
def Inv.env0(I:Inv X pins σ H s):Env0 X.prog X.w X.K X.mg X.base X.A X.stack s H :=
 ⟨I.ok.frames,I.ok.mod,I.bs,MU I.ok.bsz I.sz,I.stack,I.stkFree,I.hok,I.bare⟩
def Inv.after{Q:VK}{u:Value}(I:Inv X pins σ H s)(h:CE X.stack X.prog X.w H s Q u s'):EP X pins σ Q u s':=by obtain⟨v,H',os,bare,un,hok,r,q⟩:=h;obtain⟨hh,g,d,t,os'⟩:=s';obtain rfl:os'=s.os:=os;exact⟨v,H',I.call (h':=hh) (g':=g) (d':=d) (t':=t) (ch:=[]) un hok bare (λb z=>absurd z (by simp)),r,q⟩
end
def wA(sp:Sp)(dvs:List V)(E:XK)(t:TA):TE:=λσ H Q=>t σ H λvs H1=>sp (vs++dvs) H1 Q E
def wx(C:Addr)(m:Str)(sp:Sp)(dvs:List V)(E:XK)(ta:TE)(t:TA):TE:=λσ H Q=>ta σ H λx H1=>∃a dx fs,x=.ref a/\H1 a=some (.ins C dx fs)/\fs.lookup m=none /\
 t σ H1 λvs H2=>sp (x::(vs++dvs)) H2 Q E
def B6(C:Addr)(sp:Sp)(dvs:List V)(E:XK)(t:TA):TE:=λσ H Q=>t σ H λvs H1=>∀x dx,H1 x=none->H1 dx=none->dx≠x ->
 sp (.ref x::(vs++dvs)) (upd (upd H1 dx (.own x)) x (.ins C dx [])) (λv H2=>v=.non/\Q (.ref x) H2) E
noncomputable def Binds(K:PySem.W.Frag)(fd:FuncData)(ps:List Str)(ds:List Value):Prop :=
 ∀(s:Shared) (us:List Value),K.In s.heap->(us++ds).length=ps.length->BindsTo s fd ⟨us,[]⟩ (ps.zip (us++ds))
def Binds.all{K:PySem.W.Frag}{fd:FuncData}{ps:List Str}(h:∀us:List Value,us.length=ps.length->bindArgs fd ⟨us,[]⟩=pure (ps.zip us)):Binds K fd ps []:=λs us _ hl=>by rw[Of]at hl ⊢;exact .of_eq (h us hl)
def jd(CX:CXT)(X:Cx)(E:XK):Prop:=∀(pins:List (Addr×Obj)) (σ:St) (H:Hp) (s:Shared) (e:Value) (s':Shared),Inv X pins σ H s->CX X.stack H s E e s'->X.xe e s'
section
variable {X:Cx}{CX:CXT}{k:Nat}{f C:Addr}{fd:FuncData}{ps:List Str}{sp:Sp}{dvs:List V}{ds:List Value}{E:XK}{x m:Str}{p pos apos:Pos}{e o:Expr}{es:List Expr}{ta:TE}{t:TA}
theorem sF{pins:List (Addr×Obj)}{σ:St}{H:Hp}{s:Shared}{Q:VK}{us:List Value}{vs:List V}(F:FnOk X.prog X.w X.K X.mg X.base CX k f fd ps sp)(hr:Room k X.A)(hb:Binds X.K fd ps ds)(hd:Vals dvs ds)(hx:jd CX X E)
 (I:Inv X pins σ H s) (r:Vals vs us) (h:sp (vs++dvs) H Q E):wpAny (model X.prog X.w) X.A (call (.ref f) us) (EP X pins σ Q) X.xe s:=by
 have r2:Vals (vs++dvs) (us++ds):=r.append hd;have hl:(us++ds).length=ps.length:=by rw[<- r2.length];exact F.len _ _ _ _ h
 refine wpAny_call (codeAny_mono (F.run X.A X.stack s H ⟨us,[]⟩ (us++ds) (vs++dvs) Q E hr I.env0 (hb s us I.kIn hl) r2 h) λr s' hq=>?_);cases r with
 |error e=>exact hx pins σ H s e s' I hq
 |ok fl =>
  cases fl with
  |ret u=>exact I.after hq
  |next=>exact False.elim hq
  |brk=>exact False.elim hq
  |cont=>exact False.elim hq
def yD(F:FnOk X.prog X.w X.K X.mg X.base CX k f fd ps sp)(hr:Room k X.A)(hg:Gl X x)(hm:X.mg x=some (.ref f))(hk:PySem.W.keepIn X.K (.ref f)=true)(hb:Binds X.K fd ps ds)(hd:Vals dvs ds)(hx:jd CX X E)
 (ha:PA X (e::es) t) (hdb:(x == ("__debug__":Str))=false:=by decide) (he:starEach (e::es) X.env=(false,eval e X.env)::starEach es X.env:=by rfl) (hpl:(backTo pos (starEach es X.env)).any (·.1)=false:=by rfl) :
 PE X (.Call (.Name x p) (e::es) [] pos) (wA sp dvs E t):=by
 intro pins s σ H Q I h;refine wpAny_Call_Name_kw (ud I hg hm ?_ hdb);refine PySem.W.callWith_K (h₀:=X.base) I.ok.mod.kin hk (aK (ha pos pins s σ H _ I h) λus s1 ⟨vs,H1,I1,r,q⟩=>⟨I1.kIn,?_⟩) he hpl;exact sF F hr hb hd hx I1 r q
def dC{pl:Sem Bool}(he:PE X o ta)(c:Cls X.K C)(hm:Meth X.K C m f)(F:FnOk X.prog X.w X.K X.mg X.base CX k f fd ps sp)(hr:Room k X.A)(hb:Binds X.K fd ps ds)(hd:Vals dvs ds)(hx:jd CX X E)(ha:PA X (e::es) t)
 (hst:starEach (e::es) X.env=(false,eval e X.env)::starEach es X.env:=by rfl) (hpl:(backTo pos (starEach es X.env)).any (·.1)=false:=by rfl)
 (ht:eval (.Call (.Attribute o m apos) (e::es) [] pos) X.env=(do
   let ov <- eval o X.env
   standAt apos.atName
   let(f,first) <- holding [ov] (getMethod ov m pl)
   callWith pos f first (backTo pos (starEach (e::es) X.env)) (backToKw pos (keywordEach [] X.env))):=by rfl) :
 PE X (.Call (.Attribute o m apos) (e::es) [] pos) (wx C m sp dvs E ta t):=by
 intro pins s σ H Q I h;refine PySem.W.methodCall_KW (pl:=pl) (aK (he pins s σ H _ I h) ?_) ht;rintro u s1 ⟨x,H1,I1,rx,a,dx,fs,ex,ea,l,q⟩;subst ex;obtain rfl:u=Value.ref a:=rx;refine zN I1 ea c hm l ?_;refine PySem.W.callWith_K (first:=[.ref a]) (h₀:=X.base) I.ok.mod.kin hm.kp (aK (ha pos pins s1 σ H1 _ I1 q) λus s2 ⟨vs,H2,I2,r,q2⟩=>⟨I2.kIn,?_⟩) hst hpl;exact sF (us:=.ref a::us) (vs:=.ref a::vs) F hr hb hd hx I2 (.cons rfl r) q2
def EC{pl:Sem Bool}(he:PE X o ta)(c:Cls X.K C)(hm:Meth X.K C m f)(F:FnOk X.prog X.w X.K X.mg X.base CX k f fd ps sp)(hr:Room k X.A)(hb:Binds X.K fd ps ds)(hd:Vals dvs ds)(hx:jd CX X E)
 (ht:eval (.Call (.Attribute o m apos) [] [] pos) X.env=(do
   let ov <- eval o X.env
   standAt apos.atName
   let(f,first) <- holding [ov] (getMethod ov m pl)
   callWith pos f first (backTo pos (starEach [] X.env)) (backToKw pos (keywordEach [] X.env))):=by rfl) :
 PE X (.Call (.Attribute o m apos) [] [] pos) (wx C m sp dvs E ta d8):=by
 intro pins s σ H Q I h;refine PySem.W.methodCall_KW (pl:=pl) (aK (he pins s σ H _ I h) ?_) ht;rintro u s1 ⟨x,H1,I1,rx,a,dx,fs,ex,ea,l,q⟩;subst ex;obtain rfl:u=Value.ref a:=rx;refine zN I1 ea c hm l ?_;exact PySem.W.callWith_K0 (first:=[.ref a]) I1.kIn hm.kp (sF (us:=[.ref a]) (vs:=[.ref a]) F hr hb hd hx I1 (.cons rfl .nil) q)
structure Mk(K:PySem.W.Frag)(C f:Addr):Prop where
 makes:PySem.W.makesIn K C=true
 init:PySem.W.findIn K (.ref C) "__init__"=some (some (.ref f))
 fn:PySem.W.isFn K (.ref f)=true
 kp:PySem.W.keepIn K (.ref C)=true
theorem Dy{pins:List (Addr×Obj)}{σ:St}{H:Hp}{s:Shared}{Q:VK}{us:List Value}{vs:List V}(M:Mk X.K C f)(F:FnOk X.prog X.w X.K X.mg X.base CX k f fd ps sp)(hr:Room (k+1) X.A)(hb:Binds X.K fd ps ds)(hd:Vals dvs ds)
 (hx:jd CX X E) (I:Inv X pins σ H s) (r:Vals vs us)
 (h:∀x dx,H x=none->H dx=none->dx≠x->sp (.ref x::(vs++dvs)) (upd (upd H dx (.own x)) x (.ins C dx [])) (λv H2=>v=.non/\Q (.ref x) H2) E) :
 wpAny (model X.prog X.w) X.A (call (.ref C) us) (EP X pins σ Q) X.xe s:=by
 have hq:=h (s.heap.objs.size+1) s.heap.objs.size (I.hok.fresh (Nat.le_succ _)) (I.hok.fresh (MI _)) (Nb (NR _));have I2:=Inv.made (C:=C) I;have r2:Vals (V.ref (s.heap.objs.size+1)::(vs++dvs)) (Value.ref (s.heap.objs.size+1)::(us++ds)):=.cons rfl (r.append hd)
 have hl:(Value.ref (s.heap.objs.size+1)::us++ds).length=ps.length:=by have e:=r2.length;rw[F.len _ _ _ _ hq]at e;exact e.symm
 refine wpAny_call (GQ (f:=f) I.kIn M.makes M.init (beq_iff_eq.mp M.fn) (codeAny_mono (F.run _ X.stack _ _ ⟨Value.ref (s.heap.objs.size+1)::us,[]⟩ (Value.ref (s.heap.objs.size+1)::(us++ds)) _ _ E (hr.make C us [])
  (I2.env0.make C us []) (hb _ (Value.ref (s.heap.objs.size+1)::us) I2.kIn hl) r2 hq) λr s' hq'=>?_))
 cases r with
 |error e=>exact hx pins σ _ _ e s' I2 hq'
 |ok fl =>
  cases fl with
  |ret u =>obtain⟨v,H',I3,rv,ev,q3⟩:=I2.after hq';subst ev;exact⟨rv,⟨V.ref (s.heap.objs.size+1),H',I3,rfl,q3⟩⟩
  |next=>exact False.elim hq'
  |brk=>exact False.elim hq'
  |cont=>exact False.elim hq'
def cG(M:Mk X.K C f)(F:FnOk X.prog X.w X.K X.mg X.base CX k f fd ps sp)(hr:Room (k+1) X.A)(hg:Gl X x)(hm:X.mg x=some (.ref C))(hb:Binds X.K fd ps ds)(hd:Vals dvs ds)(hx:jd CX X E)
 (ha:PA X (e::es) t) (hdb:(x == ("__debug__":Str))=false:=by decide) (he:starEach (e::es) X.env=(false,eval e X.env)::starEach es X.env:=by rfl) (hpl:(backTo pos (starEach es X.env)).any (·.1)=false:=by rfl) :
 PE X (.Call (.Name x p) (e::es) [] pos) (B6 C sp dvs E t):=by
 intro pins s σ H Q I h;refine wpAny_Call_Name_kw (ud I hg hm ?_ hdb);refine PySem.W.callWith_K (h₀:=X.base) I.ok.mod.kin M.kp (aK (ha pos pins s σ H _ I h) λus s1 ⟨vs,H1,I1,r,q⟩=>⟨I1.kIn,?_⟩) he hpl;exact Dy M F hr hb hd hx I1 r q
end
section
variable {X:Cx}{CX:CXT}{k:Nat}{f C:Addr}{fd:FuncData}{ps ks:List Str}{sp:Sp}{E:XK}{x m:Str}{p pos apos kpos:Pos}{e o:Expr}{es:List Expr}{kws:List Keyword}{te ta:TE}{t tk:TA}{nm:Option Str}
variable {g:List Value->List Value->List Value}{gV:List V->List V->List V}
end
structure FnScope(N P:List Str)(sc:Scope):Prop where
 kind:sc.kind=.function
 co:sc.isCoroutine=false
 gen:sc.isGenerator=false
 nd:N.Nodup
 pre:N.take P.length=P
 par:∀x∈P,sc.names.lookup x=some .local\/sc.names.lookup x=some .cell
 nofree:∀y∈sc.names,y.2≠.free
theorem AS{kindOf:Str->Option NameKind}{x:Str}:∀{binds:List (Str×Value)} {m:Str->Option Value},(∀v,(x,v)∉binds)->bindL kindOf binds m x=m x
 | [],_,_=>rfl
 | (n,v)::r,m,h=>by
  unfold bindL;rw[AS λw hw=>h w (MV _ hw)];split
  ·have:x≠n:=by rintro rfl;exact h v M0
   simp[this]
  ·rfl
theorem AU{kindOf:Str->Option NameKind}{x:Str}:∀{binds:List (Str×Value)} {m:Str->Option Value},(∀v,(x,v)∉binds)->bindC kindOf binds m x=m x
 | [],_,_=>rfl
 | (n,v)::r,m,h=>by
  unfold bindC;rw[AU λw hw=>h w (MV _ hw)];split
  ·rfl
  ·have:x≠n:=by rintro rfl;exact h v M0
   simp[this]
theorem AT{kindOf:Str->Option NameKind}{x:Str}{v:Value}:∀{P:List Str} {vs:List Value} {i:Nat} {m:Str->Option Value},P.Nodup->P[i]?=some x->vs[i]?=some v->kindOf x=some .local ->
 bindL kindOf (P.zip vs) m x=some v
 | [],_,_,_,_,h,_,_=>by simp at h
 |_::_,[],_,_,_,_,h,_=>by simp at h
 |p::P,w::vs,0,m,nd,h1,h2,hk=>by
  simp at h1 h2;subst h1;subst h2
  show bindL kindOf ((p,w)::P.zip vs) m p=_;unfold bindL;rw[AS λv hv=>(List.nodup_cons.mp nd).1 (List.of_mem_zip hv).1,if_pos hk];simp
 |p::P,w::vs,i+1,m,nd,h1,h2,hk=>by show bindL kindOf ((p,w)::P.zip vs) m x=_;unfold bindL;exact AT (i:=i) (List.nodup_cons.mp nd).2 (by simpa using h1) (by simpa using h2) hk
theorem AV{kindOf:Str->Option NameKind}{x:Str}{v:Value}:∀{P:List Str} {vs:List Value} {i:Nat} {m:Str->Option Value},P.Nodup->P[i]?=some x->vs[i]?=some v->kindOf x≠some .local ->
 bindC kindOf (P.zip vs) m x=some v
 | [],_,_,_,_,h,_,_=>by simp at h
 |_::_,[],_,_,_,_,h,_=>by simp at h
 |p::P,w::vs,0,m,nd,h1,h2,hk=>by
  simp at h1 h2;subst h1;subst h2
  show bindC kindOf ((p,w)::P.zip vs) m p=_;unfold bindC;rw[AU λv hv=>(List.nodup_cons.mp nd).1 (List.of_mem_zip hv).1,if_neg hk];simp
 |p::P,w::vs,i+1,m,nd,h1,h2,hk=>by show bindC kindOf ((p,w)::P.zip vs) m x=_;unfold bindC;exact AV (i:=i) (List.nodup_cons.mp nd).2 (by simpa using h1) (by simpa using h2) hk
noncomputable def start(N:List Str)(vs:List V):St:=vs.map some++List.replicate (N.length-vs.length) none
noncomputable def ii(CX:CXT)(P:Program)(w:World)(K:PySem.W.Frag)(mg:Str->Option Value)(base:Heap)(N:List Str)(qual:Str)(scope:Scope)(f:Addr)(cd:Value)(A:Around)(outer:List Env)(s:Shared)(H:Hp)(E:XK):Cx where
 prog:=P
 w:=w
 K:=K
 mg:=mg
 base:=base
 A:=A.deeper (envOfC qual scope s.heap.objs.size f cd)
 N:=N
 s₀:=s
 H₀:=H
 env:=envOfC qual scope s.heap.objs.size f cd
 outer:=outer
 stack:=envOfC qual scope s.heap.objs.size f cd::outer
 ex:=[]
 calm:=true
 fn:=λ_=>true
 pn:=[]
 xe:=λe s'=>wpAny (model P w) (A.deeper (envOfC qual scope s.heap.objs.size f cd)) (leaving (envOfC qual scope s.heap.objs.size f cd) e) (λ_ s''=>CX outer H s E e s'') (λe' s''=>CX outer H s E e' s'') s'
def AM{sc:Scope}{n:Nat}{x:Str}(h:sc.names.lookup x=some .cell):∃c,(cellsFrom n sc.names []).lookup x=some c:=by have q:=PySem.W.cellsFrom_some sc.names n [] (.inl h);exact Option.isSome_iff_exists.mp q
theorem Hr{CX:CXT}{P:Program}{w:World}{K:PySem.W.Frag}{mg:Str->Option Value}{base:Heap}{N ps:List Str}{qual:Str}{scope:Scope}{f:Addr}{cd:Value}{A:Around}{outer:List Env}{s s1:Shared}{H:Hp}{E:XK}{us:List Value}{vs:List V}
 (S:FnScope N ps scope) (hd:A.handled=none) (e0:Env0 P w K mg base A outer s H) (hl:vs.length=ps.length) (r:Vals vs us)
 (x:InCallC s s.heap.objs.size (bindL (envOfC qual scope s.heap.objs.size f cd).kindOf (ps.zip us) λ_=>none) (cellsFrom (s.heap.objs.size+1) scope.names []) (bindC (envOfC qual scope s.heap.objs.size f cd).kindOf (ps.zip us) λ_=>none) s1) :
 Inv (ii CX P w K mg base N qual scope f cd A outer s H E) [] (start N vs) H s1:=by
 have hpl:ps.length<=N.length:=by have:=congrArg List.length S.pre;rw[NK]at this;omega
 obtain⟨h1,tk,rfl,hk⟩:=x.done;have noA:∀b:Addr,b∉(ii CX P w K mg base N qual scope f cd A outer s H E).ex:=λb z=>absurd (show b∈([]:List Addr)from z) (by simp)
 refine⟨⟨e0.mod,S.kind,rfl,rfl,MI _,λy z c h1 h2=>?_,λy hy=>?_,λy c _ h=>?_,λ_=>hd,Around.frames_deeper e0.frames,.inr ⟨rfl,rfl⟩,λb z=>absurd z (noA b),e0.bs,e0.bsz,λb _ _=>noA b,λb z=>absurd z (noA b),e0.funs,e0.frf⟩,
  rfl,e0.bare,Un.kept hk,⟨_,x.toInCall.ns,λi y v h1 h2 h3=>?_⟩,λy c h=>⟨_,x.cell y c h⟩,e0.hok.fresh (MI _),λy c h=>?_,λp hp=>absurd (show p∈([]:List (Addr×Obj))from hp) (by simp),e0.hok.kept hk,?_⟩
 ·exact name_of_addr x.apart (PySem.mem_of_lookup h1) (PySem.mem_of_lookup h2)
 ·have hy:scope.names.lookup y=some .cell\/scope.names.lookup y=some .free:=hy;rcases hy with hy |hy
  ·exact AM hy
  ·exact absurd rfl (S.nofree _ (PySem.mem_of_lookup hy))
 ·exact Om (x.above y c (PySem.mem_of_lookup h))
 ·have hi:i<vs.length:=by
   unfold start at h2
   by_cases hi:i<vs.length
   ·exact hi
   ·rw[List.getElem?_append_right (by simpa using hi)]at h2;rw[List.getElem?_replicate]at h2;split at h2<;>cases h2
  have ha:vs[i]?=some v:=by
   unfold start at h2
   rw[List.getElem?_append_left (by simpa using hi),List.getElem?_map]at h2;cases e:vs[i]? with
   |none=>rw[e]at h2;cases h2
   |some a=>rw[e]at h2;cases h2;rfl
  obtain⟨u,hu,rv⟩:=r.get ha
  have hp:ps[i]?=some y:=by rw[<- S.pre,List.getElem?_take_of_lt (by omega)];exact h1
  have ndP:ps.Nodup:=by rw[<- S.pre];exact S.nd.sublist (List.take_sublist _ _)
  refine⟨u,rv,?_⟩;rcases S.par y (List.mem_of_getElem? hp)with k |k
  ·exact .inl ⟨k,AT ndP hp hu k⟩
  ·obtain⟨c,e⟩:=AM (n:=s.heap.objs.size+1) k;refine .inr ⟨.inl k,c,e,?_⟩;have q:=x.cell y c e;rw[AV ndP hp hu (by show scope.names.lookup y≠_;rw[k];decide)]at q;exact q
 ·exact e0.hok.fresh (Om (x.above y c (PySem.mem_of_lookup h)))
 ·unfold start;show _=N.length;rw[MY,MC,List.length_replicate];omega
theorem zV{CX:CXT}{P:Program}{w:World}{K:PySem.W.Frag}{mg:Str->Option Value}{base:Heap}{k:Nat}{f:Addr}{name qual:Str}{params:Arguments}{body:List Stmt}{scope:Scope}{dV kV doc pm cdv ct oc:Value}{an od:Option Addr}
 {osl:Array (Option Value)} {N ps:List Str} {sp:Sp} (lk:K.lookup f=some ⟨oc,od,.func (PySem.W.fnOf name qual params body scope dV kV doc pm an cdv ct),osl⟩) (hcd:PySem.W.codeIn K cdv qual=true) (S:FnScope N ps scope)
 (len:∀vs H Q E,sp vs H Q E->vs.length=ps.length)
 (hbody:∀(A:Around) (outer:List Env) (s:Shared) (H:Hp) (vs:List V) (Q:VK) (E:XK),Room k (A.deeper (envOfC qual scope s.heap.objs.size f cdv))->sp vs H Q E ->
   ∃t,PSs (ii CX P w K mg base N qual scope f cdv A outer s H E) body t/\t { nx:=λ_ H'=>Q .non H',rt:=Q } (start N vs) H) :
 FnOk P w K mg base CX (k+1) f (PySem.W.fnOf name qual params body scope dV kV doc pm an cdv ct) ps sp:=by
 refine⟨len,λA outer s H args us vs Q E hr e0 hb r hsp=>?_⟩;have hl:=len _ _ _ _ hsp;have KX:K.In s.heap:=e0.mod.kin.keeps λb o e=>(e0.bs b o e).1
 have lim:s.heap.NoLimit:=e0.mod.nolimit.keeps λb o e=>(e0.bs b o e).1
 have hkind:∀y∈ps.zip us,scope.names.lookup y.1=some .local\/(scope.names.lookup y.1=some .cell/\((cellsFrom (s.heap.objs.size+1) scope.names []).lookup y.1).isSome=true):=λ⟨n,v⟩ hy=>by
  rcases S.par n (List.of_mem_zip hy).1 with q |q
  ·exact .inl q
  ·exact .inr ⟨q,PySem.W.cellsFrom_some _ _ _ (.inl q)⟩
 refine codeAny_call_function hr.depth (KX _ _ lk) rfl S.co S.gen rfl (PySem.W.codeRec_of KX hcd) (hb _ _ _ _ ?_);refine wpAny_newFunctionEnv_cells S.kind hkind λenv he s1 x=>?_
 subst he;refine⟨lim.keeps x.toInCall.keep,codeAny_func ?_⟩;obtain⟨t,ht,hq⟩:=hbody A outer s H vs Q E (hr.deeper _) hsp;have I:Inv (ii CX P w K mg base N qual scope f cdv A outer s H E) [] (start N vs) H s1:=Hr S hr.hd e0 hl r x;refine wpAny_mono (ht [] s1 (start N vs) H _ I hq) (λfl s' hs=>?_) λe s' hs=>hs
 have fin:∀{Q2:St} {H':Hp} {v:V} {u:Value},Inv (ii CX P w K mg base N qual scope f cdv A outer s H E) [] Q2 H' s'->RelV v u->Q v H'->CE outer P w H s Q u s' :=
  λ{Q2 H' v u} J rv q=>⟨v,H',J.os,J.bare,J.base,J.hok,rv,q⟩
 cases fl with
 |ret u =>obtain⟨v,Q2,H',J,rv,q⟩:=hs;exact fin J rv q
 |next =>obtain⟨Q2,H',J,q⟩:=hs;exact fin (v:=V.non) (u:=Value.none) J rfl q
 |brk =>obtain⟨_,_,_,q⟩:=hs;exact False.elim q
 |cont =>obtain⟨_,_,_,q⟩:=hs;exact False.elim q
section
variable {X:Cx}{x:Str}{p pos:Pos}{e:Expr}{es:List Expr}{t:TA}{id T:String}{r:List V->Hp->VK->Prop}
def tCB(r:List V->Hp->VK->Prop)(t:TA):TE:=λσ H Q=>t σ H λvs H1=>r vs H1 Q
def cM(hc:eR X (.builtin id) r)(hg:Gl X x)(hm:X.mg x=none)(hv:bootBuiltins x=some (.builtin id))(ha:PA X (e::es) t)(hn:x≠"__name__":=by decide)(hdb:(x == ("__debug__":Str))=false:=by decide)
 (he:starEach (e::es) X.env=(false,eval e X.env)::starEach es X.env:=by rfl) (hpl:(backTo pos (starEach es X.env)).any (·.1)=false:=by rfl):PE X (.Call (.Name x p) (e::es) [] pos) (tCB r t):=by
 intro pins s σ H Q I h;refine wpAny_Call_Name_kw (gL I hg hm hv ?_ hn hdb);exact PyProof.Rows.callWith_builtin1 (aK (ha pos pins s σ H _ I h) λus s1 ⟨vs,H1,I1,r1,q1⟩=>hc pins s1 σ H1 vs us Q I1 r1 q1) he hpl
def hI(hc:eR X (.type T) r)(hg:Gl X x)(hm:X.mg x=none)(hv:bootBuiltins x=some (.type T))(ha:PA X (e::es) t)(hn:x≠"__name__":=by decide)(hdb:(x == ("__debug__":Str))=false:=by decide)
 (he:starEach (e::es) X.env=(false,eval e X.env)::starEach es X.env:=by rfl) (hpl:(backTo pos (starEach es X.env)).any (·.1)=false:=by rfl):PE X (.Call (.Name x p) (e::es) [] pos) (tCB r t):=by
 intro pins s σ H Q I h;refine wpAny_Call_Name_kw (gL I hg hm hv ?_ hn hdb);exact PyProof.Rows.callWith_type1 (aK (ha pos pins s σ H _ I h) λus s1 ⟨vs,H1,I1,r1,q1⟩=>hc pins s1 σ H1 vs us Q I1 r1 q1) he hpl
end
end L2
namespace HT
open PySem PyProof.Rows
section
open PySem.SeqAt
open PySem.AutoSeq1 (wpAny_loadPart')
open PySem.MeetsSeq PySem.MeetsSeq2 PySem.MeetsSeq3
end
section
variable {prog:Program}{w:World}{A:Around}{E:Value->Shared->Prop}{s:Shared}
noncomputable def sIx(n d:Nat):Option Int->Nat
 |none=>d
 |some v=>if v<0 then(v+(n:Int)).toNat else min v.toNat n
def sIx_none(n d:Nat):sIx n d none=d:=rfl
def sIx_nat(n d k:Nat):sIx n d (some (k:Int))=min k n:=by show(if(k:Int)<0 then((k:Int)+(n:Int)).toNat else min (k:Int).toNat n)=min k n;rw[if_neg (by omega),Int.toNat_natCast]
end
end HT
namespace L2
open PySem PySem.Spec PyProof.Rows
abbrev TO:=St->Hp->(Option Int->Hp->Prop)->Prop
noncomputable def PO(X:Cx)(e:Option Expr)(t:TO):Prop :=
 ∀(pins:List (Addr×Obj)) (s:Shared) (σ:St) (H:Hp) (Q:Option Int->Hp->Prop),Inv X pins σ H s->t σ H Q ->
  wpAny (model X.prog X.w) X.A (evalPart e X.env) (λu s'=>∃o H',Inv X pins σ H' s'/\IsPart u o/\Q o H') X.xe s
noncomputable def BY:TO:=λ_ H Q=>Q none H
noncomputable def BX(t:TE):TO:=λσ H Q=>t σ H λx H1=>∃i,x=.int i/\Q (some i) H1
def oM{ns:Ex}:∀{us:List Value},Vals (ns.map V.int) us->IntsAre us ns:=by
 induction ns with
 |nil=>intro us r;rw[List.map_nil]at r;cases r;exact .nil
 |cons n ns ih =>
  intro us r;rw[Oc]at r;cases r with
  |cons r1 r2 =>obtain⟨t,e⟩:=r1;subst e;exact .cons n t (ih r2)
section
variable {X:Cx}{e:Expr}{te:TE}{lo hi:Option Expr}{tl th:TO}{pos p2:Pos}
def nZ:PO X none BY:=by intro pins s σ H Q I h;rw[evalPart_none];exact wpAny_pure ⟨none,H,I,.none,h⟩
def nY(h:PE X e te):PO X (some e) (BX te):=by
 intro pins s σ H Q I hw;rw[evalPart_some];refine aK (h pins s σ H _ I hw) λu s1 ⟨x,H1,I1,r1,q1⟩=>?_
 obtain⟨i,rfl,q⟩:=q1;obtain⟨t,rfl⟩:=r1;exact⟨some i,H1,I1,.int i t,q⟩
noncomputable def SlR(X:Cx)(r:V->Option Int->Option Int->Hp->VK->Prop):Prop :=
 ∀(pins:List (Addr×Obj)) (s:Shared) (σ:St) (H:Hp) (x:V) (v vl vu:Value) (lo hi:Option Int) (sl:Addr) (Q:VK),Inv X pins σ H s->RelV x v->s.heap.IsSliceOf sl vl vu .none->IsPart vl lo->IsPart vu hi->r x lo hi H Q ->
  ∃T id,typeLookup (.type T) "__getitem__"=pure (some (.builtin id))/\s.TypeIs v T/\wpAny (model X.prog X.w) X.A (getItem v (.ref sl)) (EP X pins σ Q) X.xe s
def tSl(r:V->Option Int->Option Int->Hp->VK->Prop)(te:TE)(tl th:TO):TE:=λσ H Q=>te σ H λx H1=>tl σ H1 λl H2=>th σ H2 λu H3=>r x l u H3 Q
def oe{r:V->Option Int->Option Int->Hp->VK->Prop}(hr:SlR X r)(he:PE X e te)(hl:PO X lo tl)(hu:PO X hi th):PE X (.Subscript e (.Slice lo hi none p2) pos) (tSl r te tl th):=by
 intro pins s σ H Q I h;refine Subscript_ (aK (he pins s σ H _ I h) ?_);rintro v s1 ⟨x,H1,I1,r1,q1⟩;refine wpAny_Slice (aK (hl pins s1 σ H1 _ I1 q1) λvl s2 ⟨l,H2,I2,pl,q2⟩=>aK (hu pins s2 σ H2 _ I2 q2) ?_);rintro vu s3 ⟨u,H3,I3,pu,q3⟩;rw[evalPart_none];refine wpAny_pure ?_;have I4:Inv X pins σ H3 { s3 with heap:=s3.heap.push { cls:=.type "slice",data:=.fields #[vl,vu,.none] } }:=I3.kept (t':=s3.toks) λb ob q=>Heap.get?_push_of_some _ q
 obtain⟨T,id,hT,ht,hg⟩:=hr pins { s3 with heap:=s3.heap.push { cls:=.type "slice",data:=.fields #[vl,vu,.none] } } σ H3 x v vl vu l u s3.heap.objs.size Q I4 r1 (Heap.IsSliceOf.new ..) pl pu q3;show wpAny (model X.prog X.w) X.A (subscriptTail e (.Slice lo hi none p2) v (.ref s3.heap.objs.size)) (EP X pins σ Q) X.xe { s3 with heap:=s3.heap.push { cls:=.type "slice",data:=.fields #[vl,vu,.none] } };exact tail_any (ops:=[.ref s3.heap.objs.size,v]) ht hT hg (by with_unfolding_all rfl)
noncomputable def io(xs:List V)(lo hi:Option Int):List V:=(xs.drop (HT.sIx xs.length 0 lo)).take (HT.sIx xs.length xs.length hi-HT.sIx xs.length 0 lo)
def JB(xs:List V)(lo hi:Option Int):(io xs lo hi).length<=xs.length:=by unfold io;rw[NK,NS];omega
end
noncomputable def ixN(n:Nat)(i:Int):Option Nat:=if 0<=i then(if i<n then some i.toNat else none)else if -(n:Int)<=i then some (i+n).toNat else none
noncomputable def atI{α:Type}(xs:List α)(i:Int):Option α:=(ixN xs.length i).bind λj=>xs[j]?
def zB{n:Nat}{i:Int}{j:Nat}(h:ixN n i=some j):seqIndex? i n=some j/\j<n /\ -(n:Int)<=i/\i<n:=by
 unfold ixN at h
 by_cases h0:0<=i
 ·rw[if_pos h0]at h;by_cases h1:i<n
  ·rw[if_pos h1]at h;have e:i.toNat=j:=Option.some.inj h;exact⟨by rw[seqIndex_of h0 h1,e],by omega,by omega,h1⟩
  ·rw[if_neg h1]at h;cases h
 ·rw[if_neg h0]at h;by_cases h1 : -(n:Int)<=i
  ·rw[if_pos h1]at h;have e:(i+n).toNat=j:=Option.some.inj h;exact⟨by rw[seqIndex_neg (by omega) h1,e],by omega,h1,by omega⟩
  ·rw[if_neg h1]at h;cases h
def AY{α:Type}{xs:List α}{i:Int}{v:α}(h:atI xs i=some v):∃j,seqIndex? i xs.length=some j/\xs[j]?=some v/\j<xs.length /\ -(xs.length:Int)<=i/\i<xs.length:=by
 unfold atI at h
 cases e:ixN xs.length i with
 |none=>rw[e]at h;cases h
 |some j =>rw[e]at h;obtain⟨h1,h2,h3,h4⟩:=zB e;exact⟨j,h1,h,h2,h3,h4⟩
def gQ{α:Type}{xs:List α}{j:Nat}{v:α}(h:xs[j]?=some v):atI xs (j:Int)=some v:=by
 have hj:j<xs.length:=(List.getElem?_eq_some_iff.mp h).1
 have e:ixN xs.length (j:Int)=some j:=by unfold ixN;rw[if_pos (by omega),if_pos (by omega)];simp
 unfold atI;rw[e];exact h
def vC{α:Type}(xs:List α)(v:α):atI (xs++[v]) (-1)=some v:=by
 have hl:(xs++[v]).length=xs.length+1:=by simp
 have e:ixN (xs++[v]).length (-1)=some xs.length:=by
  unfold ixN;rw[hl,if_neg (by decide),if_pos (by omega)]
  congr 1
  omega
 unfold atI;rw[e];show(xs++[v])[xs.length]?=some v;simp
def pD(b:Expr):Prop:=∀o i,subscripted b false o i=operate [o,i] (getItem o i)
noncomputable def IxR(X:Cx)(r:R2):Prop :=
 ∀(value slice:Expr) (pins:List (Addr×Obj)) (s:Shared) (σ:St) (H:Hp) (x y:V) (v u:Value) (Q:VK),Inv X pins σ H s->RelV x v->RelV y u->r x y H Q ->
  subscripted slice false v u=operate [v,u] (getItem v u)->wpAny (model X.prog X.w) X.A (subscriptTail value slice v u) (EP X pins σ Q) X.xe s
noncomputable def MtR(X:Cx)(id:String)(r:V->List V->Hp->VK->Prop):Prop :=
 ∀(pins:List (Addr×Obj)) (s:Shared) (σ:St) (H:Hp) (x:V) (xs:List V) (v:Value) (us:List Value) (Q:VK),Inv X pins σ H s->RelV x v->Vals xs us->r x xs H Q ->
  wpAny (model X.prog X.w) X.A (call (.builtin id) (v::us)) (EP X pins σ Q) X.xe s
section
variable {X:Cx}{a b:Expr}{ta tb:TE}{pos:Pos}
def sW{r:R2}(hr:IxR X r)(ha:PE X a ta)(hb:PE X b tb)(hs:pD b):PE X (.Subscript a b pos) (tOp r ta tb):=by intro pins s σ H Q I h;exact Subscript_ (vx ha hb I h λv u s2 x y H2 I2 rx ry q=>hr a b pins s2 σ H2 x y v u Q I2 rx ry q (hs _ _))
def nI(K:PySem.W.Frag):R2:=λx y H Q=>∃p xs i v,x=.ref p/\y=.int i/\SqL K H p xs/\atI xs i=some v/\Q v H
def sP(K:PySem.W.Frag):R2:=λx y H Q=>∃p xs i v,x=.ref p/\y=.int i/\SqT K H p xs/\atI xs i=some v/\Q v H
def Hm:IxR X (nI X.K):=by
 intro value slice pins s σ H x y v u Q I rx ry h hs;obtain⟨p,xs,i,z,rfl,rfl,hq,he,q⟩:=h;cases rx;obtain⟨t,rfl⟩:=ry;obtain⟨its,r,pl,hz⟩:=I.list hq;obtain⟨j,h1,h2,h3,h4,h5⟩:=AY he;obtain⟨w,ew,rw'⟩:=r.get h2;have hl:=r.length;have hn:=lI;have fin:EP X pins σ Q w s:=⟨z,H,I,rw',q⟩;by_cases h0:0<=i
 ·have hj:i.toNat=j:=by rw[seqIndex_of h0 h5]at h1;exact Option.some.inj h1
  exact item_listR pl.isList h0 (by omega) (by rw[hj];simpa using ew) fin hs
 ·have hj:(i+(its.toArray.size:Int)).toNat=j:=by rw[seqIndex_neg (by omega) h4]at h1;rw[M5,<- hl];exact Option.some.inj h1
  exact subscriptTail_builtinR (x:=w) pl.isList.typeIs slot_list_getitem.lookup
   (wpAny_getItem_list_neg (Q:=λr s'=>r=w/\EP X pins σ Q r s') pl.isList (by omega) (by rw[M5]<;>omega) (by omega) (by rw[hj];simpa using ew) ⟨rfl,fin⟩) hs
def Hl:IxR X (sP X.K):=by
 intro value slice pins s σ H x y v u Q I rx ry h hs;obtain⟨p,xs,i,z,rfl,rfl,hq,he,q⟩:=h;cases rx;obtain⟨t,rfl⟩:=ry;obtain⟨its,r,pl,hz⟩:=I.tuple hq;obtain⟨j,h1,h2,h3,h4,h5⟩:=AY he;obtain⟨w,ew,rw'⟩:=r.get h2;have hl:=r.length;have hn:=lI;have fin:EP X pins σ Q w s:=⟨z,H,I,rw',q⟩
 exact subscriptTail_builtinR (x:=w) pl.typeIs slot_tuple_getitem.lookup
  (getItem_tuple (j:=j) (Q:=λr s'=>r=w/\EP X pins σ Q r s') pl (by omega) (by omega) (by rw[M5,<- hl];exact h1) (by simpa using ew) ⟨rfl,fin⟩) hs
def GO(its:List Value)(n j:Nat)(u:Value):Obj.mapSeq (·.setIfInBounds j u) { cls:=.type "list",data:=.seq its.toArray n }={ cls:=.type "list",data:=.seq (its.set j u).toArray n }:=by simp[Obj.mapSeq]
def Inv.lst{pins:List (Addr×Obj)}{σ:St}{H:Hp}{s:Shared}{p:Addr}{xs:List V}(I:Inv X pins σ H s)(h:H p=some (.lst xs)) :
 ∃(its:List Value) (n:Nat),Vals xs its/\s.heap.get? p=some { cls:=.type "list",data:=.seq its.toArray n }/\xs.length<=sizeLine:=by
 obtain⟨z,its,n,r,e⟩:=I.hok p _ h;exact⟨its,n,r,e,z⟩
def Inv.lstUpd{pins:List (Addr×Obj)}{σ:St}{H:Hp}{s:Shared}{p:Addr}{xs ys:List V}{its its':List Value}{n n':Nat}{f:Obj->Obj}(I:Inv X pins σ H s)(h:H p=some (.lst xs))
 (ho:s.heap.get? p=some { cls:=.type "list",data:=.seq its.toArray n }) (hf:f { cls:=.type "list",data:=.seq its.toArray n }={ cls:=.type "list",data:=.seq its'.toArray n' }) (r:Vals ys its') (hz:ys.length<=sizeLine) (t:Nat) :
 Inv X pins σ (upd H p (.lst ys)) { s with heap:=s.heap.update p f,toks:=t }:=by
 have e:(s.heap.update p f).get? p=some { cls:=.type "list",data:=.seq its'.toArray n' }:=by rw[Heap.get?_update_self f ho (by rw[hf]<;>rfl),hf]
 refine I.write (x:=p) (e:=p) (by rw[h];trivial) (.inl rfl) (λb u hb q=>(Heap.get?_update_other _ _ (Ne.symm hb)).trans q) ⟨_,e⟩ ?_;exact⟨hz,its',n',r,e⟩
noncomputable def DV:V->V->V->Hp->(Hp->Prop)->Prop:=λo i v H Q=>∃p xs k j,o=.ref p/\i=.int k/\H p=some (.lst xs)/\ixN xs.length k=some j/\Q (upd H p (.lst (xs.set j v)))
def jv:Ba X DV:=by
 intro pins s σ H o i v ov iv u Q I ro ri rv h;obtain⟨p,xs,k,j,rfl,rfl,hp,hj,q⟩:=h;cases ro;obtain⟨t,rfl⟩:=ri;obtain⟨its,n,r,ho,hz⟩:=I.lst hp;obtain⟨h1,h2,h3,h4⟩:=zB hj;have hl:=r.length;have hn:=lI
 have I':Inv X pins σ (upd H p (.lst (xs.set j v))) { s with heap:=s.heap.update p (Obj.mapSeq (·.setIfInBounds j u)) } :=
  I.lstUpd hp ho (GO its n j u) (r.set rv j) (by rw[Oo];exact hz) s.toks
 by_cases h0:0<=k
 ·have hk:k.toNat=j:=by rw[seqIndex_of h0 h4]at h1;exact Option.some.inj h1
  exact PySem.W.ki_setAt ho h0 (by omega) (by rw[M5,<- hl];exact h4) (by rw[hk];exact⟨_,I',q⟩)
 ·have hk:(k+(its.toArray.size:Int)).toNat=j:=by rw[seqIndex_neg (by omega) h3]at h1;rw[M5,<- hl];exact Option.some.inj h1
  exact PySem.W.ki_setBack ho (by omega) (by rw[M5,<- hl];exact h3) (by omega) (by rw[hk];exact⟨_,I',q⟩)
def Co(lo hi:Option Int)(n:Nat):(sliceBounds lo hi none n).1=((HT.sIx n 0 lo:Nat):Int)/\(sliceBounds lo hi none n).2.1=((HT.sIx n n hi:Nat):Int)/\(sliceBounds lo hi none n).2.2=1:=by
 refine⟨?_,?_,rfl⟩
 ·cases lo with
  |none=>simp[sliceBounds,HT.sIx]
  |some i =>
   simp only[sliceBounds,HT.sIx,Option.getD_none,show(1:Int)>0 by decide,if_true];by_cases h:i<0
   ·simp only[h,if_true]<;>omega
   ·simp only[h,if_false]<;>omega
 ·cases hi with
  |none=>simp[sliceBounds,HT.sIx]
  |some i =>
   simp only[sliceBounds,HT.sIx,Option.getD_none,show(1:Int)>0 by decide,if_true];by_cases h:i<0
   ·simp only[h,if_true]<;>omega
   ·simp only[h,if_false]<;>omega
def Cp(its:List Value)(lo hi:Option Int):slicePick its.toArray lo hi none=((its.drop (HT.sIx its.length 0 lo)).take (HT.sIx its.length its.length hi-HT.sIx its.length 0 lo)).toArray:=by obtain⟨h1,h2,h3⟩:=Co lo hi its.toArray.size;unfold slicePick;rw[h1,h2,h3];simp only[sliceRange_one,pick_run,M5]<;>rfl
noncomputable def sO(K:PySem.W.Frag):V->Option Int->Option Int->Hp->VK->Prop:=λx lo hi H Q=>∃a xs,x=.ref a/\SqL K H a xs/\∀p,H p=none->Q (.ref p) (upd H p (.lst (io xs lo hi)))
def Cq:SlR X (sO X.K):=by intro pins s σ H x v vl vu lo hi sl Q I rx hs pl pu h;obtain⟨a,xs,rfl,hx,q⟩:=h;cases rx;obtain⟨its,r,ht,hz⟩:=I.list hx;have hlen:=r.length;refine⟨"list",_,slot_list_getitem.lookup,ht.isList.typeIs,?_⟩;refine wpAny_getItem_list_slice ht.isList hs pl pu .none (by simp) ?_ (by rw[M5]<;>omega);rw[Cp,<- hlen];refine⟨.ref s.heap.objs.size,_,I.laid (t':=s.toks) (o:=.lst (io xs lo hi)) (λb ob q=>Heap.get?_push_of_some _ q) (MI _) ?_,rfl,q _ (I.hok.fresh (MI _))⟩;exact⟨MU (JB xs lo hi) hz,_,0,(r.drop (HT.sIx xs.length 0 lo)).take (HT.sIx xs.length xs.length hi-HT.sIx xs.length 0 lo),Heap.get?_push_size _ rfl⟩
def JU:eR X (.builtin "len") (λxs H Q=>∃p ys,xs=[.ref p]/\(SqL X.K H p ys\/SqT X.K H p ys)/\Q (.int ys.length) H):=by
 intro pins s σ H xs us Q I r h;obtain⟨p,ys,rfl,hq,q⟩:=h;obtain⟨u,rfl,rx⟩:=gU r;cases rx;have hn:=lI;rcases hq with hq |hq
 ·obtain⟨its,r',pl,hz⟩:=I.list hq;have hlen:=r'.length;exact Calls.call_len_list pl.isList (by simp only[M5]<;>omega) ⟨.int ys.length,H,I.tok _,⟨s.toks+1,by rw[M5,hlen]⟩,q⟩
 ·obtain⟨its,r',pl,hz⟩:=I.tuple hq;have hlen:=r'.length;exact len_tuple pl (by simp only[M5]<;>omega) ⟨.int ys.length,H,I.tok _,⟨s.toks+1,by rw[M5,hlen]⟩,q⟩
def JT:eR X (.type "list") (λxs H Q=>∃p ys,xs=[.ref p]/\(SqL X.K H p ys\/SqT X.K H p ys)/\∀l,H l=none->Q (.ref l) (upd H l (.lst ys))):=by
 intro pins s σ H xs us Q I r h;obtain⟨p,ys,rfl,hq,q⟩:=h;obtain⟨u,rfl,rx⟩:=gU r;cases rx
 have fin:∀(its:List Value),Vals ys its->ys.length<=sizeLine->∀(h':Heap) (c':Nat),(∀b o',s.heap.get? b=some o'->h'.get? b=some o') ->
  h'.get? s.heap.objs.size=some { cls:=.type "list",dict:=none,data:=.seq its.toArray c',slots:=#[] }->EP X pins σ Q (.ref s.heap.objs.size) { s with heap:=h' }:=λits r' hz h' c' kp e =>
  ⟨.ref s.heap.objs.size,_,I.laid (t':=s.toks) kp (MI _) (show ObjOk X.prog X.w _ h' _ (.lst ys)from⟨hz,its,c',r',e⟩),rfl,q _ (I.hok.fresh (MI _))⟩
 rcases hq with hq |hq
 ·obtain⟨its,r',pl,hz⟩:=I.list hq;have hlen:=r'.length;obtain⟨o,ho,hc,n,hd⟩:=pl.isList;exact call_list_seq p (.inl rfl) ho hc hd (λh' c' kp e=>fin its r' hz h' c' kp e) (by simp only[M5]<;>omega)
 ·obtain⟨its,r',pl,hz⟩:=I.tuple hq;have hlen:=r'.length;obtain⟨o,ho,hc,n,hd⟩:=pl;exact call_list_seq p (.inr rfl) ho hc hd (λh' c' kp e=>fin its r' hz h' c' kp e) (by simp only[M5]<;>omega)
def tyV(K:PySem.W.Frag)(T:String)(x:V)(H:Hp):Prop:=match x with
 |.str _=>T="str"
 |.int _=>T="int"
 |.ref p=>(T="list"/\∃xs,SqL K H p xs)\/(T="tuple"/\∃o,K.lookup p=some o/\o.cls=.type "tuple"/\o.dict=none) \/
  (T="dict"/\((∃kvs,H p=some (.dK kvs))\/∃kvs,H p=some (.dT kvs)))\/(T="set"/\∃S n,H p=some (.set S n))
 |_=>False
theorem wg{pins:List (Addr×Obj)}{σ:St}{H:Hp}{s:Shared}{T:String}{x:V}{v:Value}(I:Inv X pins σ H s)(r:RelV x v)(ty:tyV X.K T x H) :
 s.TypeIs v T/\∀a,v=.ref a->∃ob,s.heap.get? a=some ob/\ob.dict=none:=by
 cases x with
 |str z =>obtain⟨t,rfl⟩:=r;cases(show T="str" from ty);exact⟨typeIs_str s z t,λ_ e=>nomatch e⟩
 |int i =>obtain⟨t,rfl⟩:=r;cases(show T="int" from ty);exact⟨typeIs_int s i t,λ_ e=>nomatch e⟩
 |ref p =>
  cases r;rcases ty with⟨rfl,xs,hq⟩ |⟨rfl,o,hk,hc,hd⟩ |⟨rfl,hk⟩ |⟨rfl,S,n,hk⟩
  ·obtain⟨its,_,pl,_⟩:=I.list hq;refine⟨pl.isList.typeIs,λa e=>?_⟩;cases e;obtain⟨o,n,e,c,hd,_⟩:=pl;exact⟨o,e,hd⟩
  ·refine⟨⟨o,I.kIn p o hk,hc⟩,λa e=>?_⟩;cases e;exact⟨o,I.kIn _ o hk,hd⟩
  ·have z:∃o,s.heap.get? p=some o/\o.ExactDict:=by
    rcases hk with⟨kvs,hk⟩ |⟨kvs,hk⟩
    ·obtain⟨_,_,_,_,o,_,_,e,ex,_⟩:=I.hok p _ hk;exact⟨o,e,ex⟩
    ·obtain⟨_,_,_,_,o,_,_,e,ex,_⟩:=I.hok p _ hk;exact⟨o,e,ex⟩
   obtain⟨o,e,ex⟩:=z;refine⟨⟨o,e,ex.1⟩,λa e2=>?_⟩;cases e2;exact⟨o,e,ex.2.1⟩
  ·obtain⟨o,_,_,_,e,ex,_⟩:=I.hok p _ hk;refine⟨⟨o,e,ex.1⟩,λa e2=>?_⟩;cases e2;exact⟨o,e,ex.2.1⟩
 |_=>exact False.elim ty
def B8(K:PySem.W.Frag)(T:String)(r:V->List V->Hp->VK->Prop)(to:TE):TE:=λσ H Q=>to σ H λx H1=>tyV K T x H1/\r x [] H1 Q
def tBM(K:PySem.W.Frag)(T:String)(r:V->List V->Hp->VK->Prop)(to:TE)(t:TA):TE:=λσ H Q=>to σ H λx H1=>tyV K T x H1/\t σ H1 λxs H2=>r x xs H2 Q
variable {o e:Expr}{es:List Expr}{to:TE}{t:TA}{name:Str}{apos cpos:Pos}{T id:String}{r:V->List V->Hp->VK->Prop}
def yE(pa:PlainAttrs T)(slot:Slot T name id)(hty:typeOf (.builtin id)=pure (.type "method_descriptor"))(hm:MtR X id r)(ho:PE X o to)
 (hbase:attributeBase o name X.env (eval o X.env)=eval o X.env:=by rfl) (hline:(apos.endLine == cpos.line)=true:=by rfl):PE X (.Call (.Attribute o name apos) [] [] cpos) (B8 X.K T r to):=by
 intro pins s σ H Q I h;refine wpAny_Call_method0_late hbase hline (aK (ho pins s σ H _ I h) ?_);rintro v s1 ⟨x,H1,I1,r1,ty,q1⟩;obtain⟨h1,h2⟩:=wg I1 r1 ty;exact⟨T,id,pa,slot,hty,h1,h2,Calls.callWith_builtin rfl (PySem.evalArgs_none (hm pins s1 σ H1 x [] v [] Q I1 r1 .nil q1))⟩
def EG(pa:PlainAttrs T)(slot:Slot T name id)(hty:typeOf (.builtin id)=pure (.type "method_descriptor"))(hm:MtR X id r)(ho:PE X o to)(ha:PA X (e::es) t)
 (hbase:attributeBase o name X.env (eval o X.env)=eval o X.env:=by rfl)
 (hfew:((backTo cpos (starEach (e::es) X.env)).all (λx=>!x.1)&&(backToKw cpos (keywordEach [] X.env)).all (λx=>x.1.isSome)
   && decide ((e::es).length+([]:List Keyword).length+(if([]:List Keyword).isEmpty then 0 else 1)<30))=true:=by rfl)
 (hline:(apos.endLine == cpos.line)=true:=by rfl) (hs:starEach (e::es) X.env=(false,eval e X.env)::starEach es X.env:=by rfl) (hplain:(backTo cpos (starEach es X.env)).any (·.1)=false:=by rfl) :
 PE X (.Call (.Attribute o name apos) (e::es) [] cpos) (tBM X.K T r to t):=by
 intro pins s σ H Q I h;refine wpAny_Call_method_late hbase hfew hline rfl (aK (ho pins s σ H _ I h) ?_);rintro v s1 ⟨x,H1,I1,r1,ty,q1⟩;obtain⟨h1,h2⟩:=wg I1 r1 ty;refine⟨T,id,pa,slot,hty,h1,h2,?_⟩;have hA:=ha cpos pins s1 σ H1 _ I1 q1;rw[hs]at hA ⊢;refine Calls.callWith_builtin (by show(false || (backTo cpos (starEach es X.env)).any (·.1))=false;rw[hplain]<;>rfl) (Calls.evalArgs_plain ?_);exact aK hA λus s2 ⟨vs,H2,I2,r2,q2⟩=>hm pins s2 σ H2 x vs v us Q I2 r1 r2 q2
end
noncomputable def MtM(X:Cx)(id:String)(r:V->List V->Hp->VK->Prop):Prop :=
 ∀(pins:List (Addr×Obj)) (s:Shared) (σ:St) (H:Hp) (x:V) (xs:List V) (v:Value) (us:List Value) (Q:VK),Inv X pins σ H s->RelV x v->Vals xs us->r x xs H Q ->
  wpAny (model X.prog X.w) X.A (call (.builtin id) (v::us)) (EP X pins σ Q) X.xe s
def Vals.one:∀{x:V} {us:List Value},Vals [x] us->∃u,us=[u]/\RelV x u:=@λ_ _ h=>by cases h with |cons r t=>cases t;exact⟨_,rfl,r⟩
def Vals.two:∀{x y:V} {us:List Value},Vals [x,y] us->∃u v,us=[u,v]/\RelV x u/\RelV y v:=@λ_ _ _ h=>by cases h with |cons r t=>obtain⟨v,rfl,q⟩:=Vals.one t;exact⟨_,v,rfl,r,q⟩
theorem Vals.zero:∀{us:List Value},Vals [] us->us=[]
 |_,.nil=>rfl
def Vals.dropLast{xs:List V}{us:List Value}(h:Vals xs us):Vals xs.dropLast us.dropLast:=by
 induction h with
 |nil=>exact .nil
 |cons r t ih =>
  cases t with
  |nil=>exact .nil
  |cons q t'=>exact .cons r ih
def Vals.reverse{xs:List V}{us:List Value}(h:Vals xs us):Vals xs.reverse us.reverse:=by
 induction h with
 |nil=>exact .nil
 |cons r t ih=>rw[List.reverse_cons,List.reverse_cons];exact Vals.append ih (.cons r .nil)
theorem Vals.rep{xs:List V}{us:List Value}(h:Vals xs us):∀k:Nat,Vals (List.replicate k xs).flatten (List.replicate k us).flatten
 |0=>.nil
 |k+1=>by rw[Op,Op,OK,OK];exact Vals.append h (Vals.rep h k)
def Jn{α:Type}(l:List α):l.eraseIdx (l.length-1)=l.dropLast:=by
 induction l with
 |nil=>rfl
 |cons a r ih =>
  cases r with
  |nil=>rfl
  |cons b r =>
   have e:(a::b::r).length-1=((b::r).length-1)+1:=by have h1:(a::b::r).length=r.length+2:=rfl;have h2:(b::r).length=r.length+1:=rfl;omega
   rw[e,List.eraseIdx_cons_succ,ih]
   all_goals rfl
theorem zU(its:List Value):∀(k:Nat) (acc:List Value),
 List.foldl (λx1 x2=>x1++x2) acc.toArray (List.replicate k its.toArray)=(acc++(List.replicate k its).flatten).toArray
 |0,acc=>by simp
 |k+1,acc=>by
  have e:acc.toArray++its.toArray=(acc++its).toArray:=by simp
  have e2:(acc++its)++(List.replicate k its).flatten=acc++(List.replicate (k+1) its).flatten:=by rw[Op,OK,Os]
  rw[<- e2,<- zU its k (acc++its),<- e,Op,List.foldl_cons]
section
variable {X:Cx}{pins:List (Addr×Obj)}{σ:St}{H:Hp}{s:Shared}{l b:Addr}{xs ys zs:List V}
def Inv.lset{its its':List Value}{n:Nat}{f:Array Value->Array Value}{t':Nat}(I:Inv X pins σ H s)(hH:H l=some (.lst xs))
 (e:s.heap.get? l=some { cls:=.type "list",data:=.seq its.toArray n }) (hf:f its.toArray=its'.toArray) (hv:Vals ys its') (hz:ys.length<=sizeLine) :
 Inv X pins σ (upd H l (.lst ys)) { s with heap:=s.heap.update l (Obj.mapSeq f),toks:=t' }:=by
 have q:=PySem.IsL.update e f;rw[hf]at q;refine I.write (x:=l) (e:=l) (by rw[hH];exact trivial) (.inl rfl) (λb' u hb hu=>(Heap.get?_update_other s.heap (Obj.mapSeq f) (Ne.symm hb)).trans hu) ⟨_,q⟩ ?_;exact⟨hz,its',_,hv,q⟩
def Inv.lnew{its:List Value}{t':Nat}(I:Inv X pins σ H s)(hv:Vals ys its)(hz:ys.length<=sizeLine) :
 Inv X pins σ (upd H s.heap.objs.size (.lst ys)) { s with heap:=s.heap.push { cls:=.type "list",data:=.seq its.toArray },toks:=t' } :=
 I.laid (λ_ _ q=>Heap.get?_push_of_some _ q) (MI _) ⟨hz,its,0,hv,Heap.get?_push_size _ rfl⟩
def Inv.fresh(I:Inv X pins σ H s):H s.heap.objs.size=none:=I.hok.fresh (MI _)
def Inv.lstM(I:Inv X pins σ H s)(hH:H l=some (.lst xs)):xs.length<=sizeLine/\∃(its:List Value) (n:Nat),Vals xs its/\xs.length=its.length/\s.heap.get? l=some { cls:=.type "list",data:=.seq its.toArray n }:=by obtain⟨z,its,n,r,e⟩:=I.hok l _ hH;exact⟨z,its,n,r,r.length,e⟩
def Go{n:Nat}(h:n<=sizeLine):Builtin.List.listTooLong n=false:=by unfold Builtin.List.listTooLong;exact decide_eq_false (by omega)
end
section
variable {X:Cx}
noncomputable def ym:V->List V->Hp->VK->Prop:=λx vs H Q=>∃l xs y,x=.ref l/\vs=[y]/\H l=some (.lst xs)/\xs.length<sizeLine/\Q .non (upd H l (.lst (xs++[y])))
def GC:MtM X "list.append" ym:=by intro pins s σ H x vs v us Q I rx rv h;obtain⟨l,xs,y,rfl,rfl,hH,hz,q⟩:=h;cases rx;obtain⟨u,rfl,ru⟩:=rv.one;obtain⟨z,its,n,r,hl,e⟩:=I.lstM hH;refine call_meets F.slot_list_append ⟨_,e,rfl⟩ F.entry_list_append (F.args_list_append_2 _ _) (PySem.list_append l its.toArray n u (by rw[M5];omega)) ⟨e,?_⟩;refine⟨.non,_,I.lset (its':=its++[u]) hH e (by simp) (r.append (.cons ru .nil)) ?_,rfl,q⟩;rw[MY,List.length_singleton];omega
noncomputable def DY:V->List V->Hp->VK->Prop:=λx vs H Q=>∃l xs y,x=.ref l/\vs=[]/\H l=some (.lst xs)/\xs[xs.length-1]?=some y/\Q y (upd H l (.lst xs.dropLast))
def GA:MtM X "list.pop" DY:=by
 intro pins s σ H x vs v us Q I rx rv h;obtain⟨l,xs,y,rfl,rfl,hH,hy,q⟩:=h;cases rx;have hus:=rv.zero;subst hus;obtain⟨z,its,n,r,hl,e⟩:=I.lstM hH;obtain⟨u,hu,ru⟩:=r.get hy
 have hy':its.toArray[its.toArray.size-1]?=some u:=by show its.toArray[its.length-1]?=some u;rw[<- Array.getElem?_toList,<- hl];exact hu
 refine call_meets F.slot_list_pop ⟨_,e,rfl⟩ F.entry_list_pop (F.args_list_pop_1 _) (MeetsSeq.list_pop_last l its.toArray n u hy' (by rw[M5];omega)) ⟨e,?_⟩;refine⟨y,_,I.lset (its':=its.dropLast) hH e ?_ r.dropLast ?_,ru,q⟩
 ·show its.toArray.eraseIdxIfInBounds (its.toArray.size-1)=its.dropLast.toArray;rw[M5,List.eraseIdxIfInBounds_toArray,Jn]
 ·rw[List.length_dropLast];omega
noncomputable def DW:V->List V->Hp->VK->Prop:=λx vs H Q=>∃l xs,x=.ref l/\vs=[]/\H l=some (.lst xs)/\Q .non (upd H l (.lst xs.reverse))
def Gz:MtM X "list.reverse" DW:=by intro pins s σ H x vs v us Q I rx rv h;obtain⟨l,xs,rfl,rfl,hH,q⟩:=h;cases rx;have hus:=rv.zero;subst hus;obtain⟨z,its,n,r,hl,e⟩:=I.lstM hH;refine call_meets F.slot_list_reverse ⟨_,e,rfl⟩ F.entry_list_reverse (F.args_list_reverse_1 _) (AutoSeq1.list_reverse_list_0 l its.toArray n (by rw[M5];omega)) ⟨e,?_⟩;refine⟨.non,_,I.lset (its':=its.reverse) hH e (by simp) r.reverse ?_,rfl,q⟩;rw[List.length_reverse];omega
def D4:R2:=λx y H Q=>∃l b xs zs,x=.ref l/\y=.ref b/\H l=some (.lst xs)/\H b=some (.lst zs)/\xs.length+zs.length<=sizeLine/\∀p,H p=none->Q (.ref p) (upd H p (.lst (xs++zs)))
def yI:cj X (binaryOp .Add) D4:=by
 intro pins s σ H x y v u Q I rx ry h;obtain⟨l,b,xs,zs,rfl,rfl,hH,hB,hz,q⟩:=h;cases rx;cases ry;obtain⟨z,its,n,r,hl,e⟩:=I.lstM hH;obtain⟨z2,its2,n2,r2,hl2,e2⟩:=I.lstM hB;refine PySem.P.add_list e e2 ?_ (by rw[M5,M5];omega);have ea:its.toArray++its2.toArray=(its++its2).toArray:=by simp
 rw[ea];exact⟨.ref _,_,I.lnew (t':=s.toks) (r.append r2) (by rw[MY];omega),rfl,q _ I.fresh⟩
def DX:R2:=λx y H Q=>∃l k xs,x=.ref l/\y=.int k/\H l=some (.lst xs) /\ -(2^63)<=k/\k<2^63/\xs.length*k.toNat<=sizeLine /\
 ∀p,H p=none->Q (.ref p) (upd H p (.lst (List.replicate k.toNat xs).flatten))
def G1{α:Type}(xs:List α)(k:Nat):(List.replicate k xs).flatten.length=k*xs.length:=by
 induction k with
 |zero=>simp
 |succ k ih=>rw[Op,OK,MY,ih,Nat.succ_mul,Nat.add_comm]
def tf:cj X (binaryOp .Mult) DX:=by
 intro pins s σ H x y v u Q I rx ry h;obtain⟨l,k,xs,rfl,rfl,hH,h1,h2,hz,q⟩:=h;cases rx;obtain⟨t,rfl⟩:=ry;obtain⟨z,its,n,r,hl,e⟩:=I.lstM hH;have hlen:its.toArray.size*k.toNat<=sizeLine:=by rw[M5,<- hl];exact hz
 have hcap:¬its.toArray.size*k.toNat>(2^63-1)/8:=by
  have:(sizeLine:Nat)<=(2^63-1)/8:=by decide
  omega
 have hfit:¬(!Builtin.List.listFitsIndex k)=true:=by rw[fitsIndex_both h1 h2];exact On
 have hlong:¬Builtin.List.listTooLong (its.toArray.size*k.toNat)=true:=by rw[Go hlen];exact On
 have hnew:List.foldl (λx1 x2=>x1++x2) #[] (List.replicate (if its.toArray.isEmpty=true then 0 else k.toNat) its.toArray)=(List.replicate k.toNat its).flatten.toArray:=by
  have f0:∀m:Nat,List.foldl (λx1 x2=>x1++x2) #[] (List.replicate m its.toArray)=(List.replicate m its).flatten.toArray:=λm=>by have:=zU its m [];rw[OL]at this;exact this
  rw[f0];cases its with
  |nil=>simp
  |cons a r'=>rw[if_neg (by simp)]
 refine wpAny_binaryOp_repeat_ref (T:="list") (U:="int") (by decide) ⟨_,e,rfl⟩ (λs'=>typeIs_int s' k t) noFill_list_mul F.fills_int_mul F.slot_int_rmul repeat_list F.slot_int_index.lookup
  (call_meets F.slot_int_rmul (typeIs_int s k t) F.entry_int_rmul (F.args_int_rmul_2 _ _) (int___rmul___int_list k t l its.toArray n)
    ⟨e,rfl,⟨_,e,rfl⟩,call_meets F.slot_list_mul ⟨_,e,rfl⟩ F.entry_list_mul (F.args_list_mul_2 _ _) (AutoListH.list___mul___list_int_3 l its.toArray n k t hfit hcap hlong) ⟨e,?_⟩⟩)
 rw[hnew];exact⟨.ref _,_,I.lnew (t':=s.toks) (r.rep k.toNat) (by rw[G1,Nat.mul_comm];exact hz),rfl,q _ I.fresh⟩
end
section
variable {prog:Program}{w:World}{A:Around}{E:Value->Shared->Prop}{s:Shared}
end
section
variable {X:Cx}
end
end L2
namespace Att
open PySem PySem.W PySem.Calls PyProof.Rows
def Hs{P:Params}{h:Heap}:∀(ns:Ex) (vs:List Value),WellAll P h vs (ns.map WData.int)->IntsAre vs ns:=by
 intro ns
 induction ns with
 |nil =>intro vs w;rw[List.map_nil]at w;cases w;exact .nil
 |cons n ns ih =>
  intro vs w;rw[Oc]at w;cases w with
  |cons a b =>cases a;exact .cons _ _ (ih _ b)
theorem CT{l:OpenLaw}{n:Nat}(hn:l.most=some n){P:Params}{h:Heap}{args:List WData}{vals:List Value}
 (hpre:l.row.toRowW.claim.pre args=true) (hwl:WellAll P h vals args) :
 ∃a vs ns,vals=[Value.ref a]/\args=[WData.list (ns.map WData.int)]/\h.get? a=some { cls:=.type "list",data:=.seq vs.toArray }/\IntsAre vs ns/\ns.length<=n:=by
 have hsh:WShape.hasAll [] args [.list .int]=true:=(pre_splitW hpre).1;have hc:l.pre.holds [] { args:=args }=true:=(pre_splitW hpre).2;obtain⟨d,r,rfl,h1,h2⟩:=hasAllW_cons hsh;obtain rfl:=hasAllW_nil h2;obtain⟨xs,rfl,h3⟩:=hasW_list h1;obtain⟨ns,rfl⟩:=items_int h3
 have hlen:ns.length<=n:=by
  unfold OpenLaw.pre at hc
  have h4:(WTm.not (.lt (.lit (.int (n:Int))) (.len (.arg 0)))).holds [] { args:=[.list (ns.map .int)] }=true:=by have h4:=(holds_andW hc).1;rw[hn]at h4;exact h4
  have h5:=condW_of h4 (w_not (w_lt w_lit (w_len_list (w_arg rfl))));rw[MC]at h5;refine NT λq=>?_
  have q':(n:Int)<((ns.length:Nat):Int):=by omega
  first
   | (rw[decide_eq_true q']at h5;exact absurd h5 (by decide))
   | (simp at h5;omega)
 cases hwl with
 |cons w1 w2 =>
  cases w2;cases w1 with
  |list ho hall=>exact⟨_,_,ns,rfl,rfl,ho,Hs ns _ hall,hlen⟩
def Ej(l:OpenLaw)(args:List WData):l.row.toRowW.claim.post args (.bool true) args=true :=
 postW_of (r:=l.row.toRowW) (X:=(true == true))
  (show WShape.has [] (.bool true) .bool=true by first |rfl |decide |simp[WShape.has,WShape.arms,WShape.armsAll])
  (show(WTm.eq .res (.lit (.bool true))).value [] { args:=args,res:=some (.bool true),after:=args }=some (.bool (true == true))from w_eq_bool (w_res rfl) w_lit) rfl
def attach_call{l:OpenLaw}{n:Nat}{q:Program}{loose:List Str}{XP:(Str->Option Value)->Heap->Prop}{YP:World->Heap->Prop}{d:DefRec}
 (hn:l.most=some n) (hdf:d.params.defaults=[])
 (call:∀(w:World) (s₀ s₁:Shared) (mg mb:Str->Option Value) (fa:Addr) (o:Obj) (pm cd doc:Value) (a:Addr) (vs:List Value) (ns:Ex),
   Ground q loose [] XP w s₀ mg mb s₁.heap->YP w s₁.heap ->
   s₁.heap.get? fa=some o->o.data=.func (docDef d.name d.params d.body d.scope pm cd doc)->s₁.heap.CodeRec cd d.name->mg d.name=some (.ref fa) ->
   s₁.heap.get? a=some { cls:=.type "list",data:=.seq vs.toArray }->IntsAre vs ns->ns.length<=n->s₁.gens=#[] ->
   codeAny (model l.prog w) callerA (.call (.ref fa) ⟨[.ref a],[]⟩) (λr s'=>r=.ok (.ret (.bool true))/\OldK s₁.heap s'.heap/\s'.os=s₁.os/\AllBare s'.gens) s₁) :
 WalkO q loose XP YP l.row.toRowW d [] (λf vs=>PySem.call f vs):=by
 intro w s₀ s₁ mg mb G Y fa o pm cd doc dV kV ho hd hcd hD hmg hg args vals as hpre hlay hrd hwl hlo;obtain rfl:dV=.none:=Dflts.none hD hdf;obtain rfl:kV=.none:=Dflts.noKw hD;obtain⟨a,vs,ns,rfl,rfl,hobj,hints,hlen⟩:=CT hn hpre hwl;refine enter_call (codeAny_mono (call w s₀ s₁ mg mb fa o pm cd doc a vs ns G Y ho (fd_plain hd) hcd hmg hobj hints hlen hg) λr s' hq=>?_);obtain⟨rfl,h2,h3,h4⟩:=hq;exact⟨.inl ⟨.bool true,.bool true,[],rfl,λ_=>rfl,.bool true,Ej l _,λ_=>⟨List.Pairwise.nil,λ_ hm=>(nomatch hm)⟩⟩,h2,h3,h4⟩
section
variable {prog:Program}{w:World}{A:Around}{E:Value->Shared->Prop}{s:Shared}{K:Frag}
end
end Att
namespace L2
open PySem PySem.Spec PyProof.Rows
theorem wf:∀{vs:List Value} {ns:Ex},IntsAre vs ns->Vals (ns.map V.int) vs
 |_,_,.nil=>.nil
 |_,_,.cons n t h=>.cons ⟨t,rfl⟩ (wf h)
def vG(H:Hp):Prop:=∀b,H b=none\/∃o xs,H b=some (.frz o (.lst xs))
noncomputable def iU(s:Stmt)(j:Nat):Stmt:=match s with
 |.ClassDef _ _ _ body _ _ _ _ _ _ _=>body.getD j (.Pass ⟨0,0,0,0⟩)
 |_=>.Pass ⟨0,0,0,0⟩
noncomputable def eJ(s:Stmt):Arguments:=match s with
 |.FunctionDef _ a _ _ _ _ _ _ _ _=>a
 |_=>{ posonlyargs:=[],args:=[],vararg:=none,kwonlyargs:=[],kw_defaults:=[],kwarg:=none,defaults:=[] }
noncomputable def dQ(s:Stmt):List Stmt:=match s with
 |.FunctionDef _ _ b _ _ _ _ _ _ _=>b
 |_=>[]
noncomputable def aC(s:Stmt):Scope:=match s with
 |.FunctionDef _ _ _ _ _ _ sc _ _ _=>sc
 |_=>{ kind:=.function,names:=[],isGenerator:=false,isCoroutine:=false }
abbrev aD:CXT:=λ_ _ _ _ _ _=>False
abbrev E0:XK:=λ_ _ _=>False
def aZ{X:Cx}:jd aD X E0:=λ_ _ _ _ _ _ _ h=>h.elim
structure Fun(K:PySem.W.Frag)(x qual:Str)(st:Stmt)(f:Addr)(fd:FuncData):Prop where
 ex:∃(oc:Value) (od:Option Addr) (kV doc pm:Value) (an:Option Addr) (cdv ct:Value) (osl:Array (Option Value)),
  fd=PySem.W.fnOf x qual (eJ st) (dQ st) (aC st) .none kV doc pm an cdv ct/\K.lookup f=some ⟨oc,od,.func fd,osl⟩/\PySem.W.codeIn K cdv qual=true
 kp:PySem.W.keepIn K (.ref f)=true
section
variable {P:Program}{w:World}{K:PySem.W.Frag}{mg:Str->Option Value}{base:Heap}
def Fun.ok{x qual:Str}{st:Stmt}{f:Addr}{fd:FuncData}{N ps:List Str}{k:Nat}{sp:Sp}(F:Fun K x qual st f fd)(S:FnScope N ps (aC st))(len:∀vs H Q E,sp vs H Q E->vs.length=ps.length)
 (hbody:∀(cdv:Value) (A:Around) (outer:List Env) (s:Shared) (H:Hp) (vs:List V) (Q:VK) (E:XK),Room k (A.deeper (envOfC qual (aC st) s.heap.objs.size f cdv))->sp vs H Q E ->
   ∃t,PSs (ii aD P w K mg base N qual (aC st) f cdv A outer s H E).nox (dQ st) t/\t { nx:=λ_ H'=>Q .non H',rt:=Q } (start N vs) H):FnOk P w K mg base aD (k+1) f fd ps sp:=by
 obtain⟨oc,od,kV,doc,pm,an,cdv,ct,osl,rfl,lk,hcd⟩:=F.ex;refine zV lk hcd S len λA outer s H vs Q E hr hsp=>?_
 obtain⟨t,h,q⟩:=hbody cdv A outer s H vs Q E hr hsp;exact⟨t,h.nox,q⟩
def Fun.binds{x qual:Str}{st:Stmt}{f:Addr}{fd:FuncData}{ps:List Str}(F:Fun K x qual st f fd)
 (h:∀(kV doc pm:Value) (an:Option Addr) (cdv ct:Value) (us:List Value),us.length=ps.length->bindArgs (PySem.W.fnOf x qual (eJ st) (dQ st) (aC st) .none kV doc pm an cdv ct) ⟨us,[]⟩=pure (ps.zip us)):Binds K fd ps []:=by
 obtain⟨oc,od,kV,doc,pm,an,cdv,ct,osl,rfl,lk,hcd⟩:=F.ex;exact .all (h kV doc pm an cdv ct)
def zR{x qual:Str}{st:Stmt}{f:Addr}{oc:Value}{od an:Option Addr}{osl:Array (Option Value)}{kV doc pm cdv ct:Value}(l:K.lookup f=some ⟨oc,od,.func (PySem.W.fnOf x qual (eJ st) (dQ st) (aC st) .none kV doc pm an cdv ct),osl⟩)
 (c:PySem.W.codeIn K cdv qual=true) (k:PySem.W.keepIn K (.ref f)=true):Fun K x qual st f (PySem.W.fnOf x qual (eJ st) (dQ st) (aC st) .none kV doc pm an cdv ct):=⟨⟨oc,od,kV,doc,pm,an,cdv,ct,osl,rfl,l,c⟩,k⟩
end
section
variable {X:Cx}
def pv(i:Nat){x:Str}{pos:Pos}(hN:X.N[i]?=some x:=by rfl)(hv:Vis X.env.scope x:=by first |exact Or.inl rfl |exact Or.inr (Or.inl rfl) |exact Or.inr (Or.inr rfl))(hd:(x == ("__debug__":Str))=false:=by decide)
 (hcd:(x == ("__classdict__":Str))=false:=by decide):PE X (.Name x pos) (kq i):=EA hN hv hd hcd
end
def Same(H H':Hp):Prop:=∀b o,H b=some o->H' b=some o
def Same.refl(H:Hp):Same H H:=λ_ _ h=>h
def Same.trans{H H1 H2:Hp}(a:Same H H1)(b:Same H1 H2):Same H H2:=λc o h=>b c o (a c o h)
def Same.free{H H':Hp}(e:Same H H'){l:Addr}(h:H' l=Option.none):H l=Option.none:=by
 cases q:H l with
 |none=>rfl
 |some o =>rw[e l o q]at h;cases h
def Same.seq{K:PySem.W.Frag}{H H':Hp}{a:Addr}{xs:List V}(e:Same H H')(h:SqL K H a xs):SqL K H' a xs:=by
 rcases h with(h |⟨o,h⟩) |h
 ·exact .inl (.inl (e _ _ h))
 ·exact .inl (.inr ⟨o,e _ _ h⟩)
 ·exact .inr h
end L2
set_option maxHeartbeats 4000000
namespace L2
open PySem PySem.Spec PyProof.Rows
noncomputable def ik(X:Cx)(N:List Str)(scope:Scope)(cl:List (Str×Addr))(C:Addr)(s₀:Shared)(H₀:Hp)(ex:List Addr):Cx where
 prog:=X.prog
 w:=X.w
 K:=X.K
 mg:=X.mg
 base:=X.base
 A:=X.A
 N:=N
 s₀:=s₀
 H₀:=H₀
 env:=compEnvC scope cl C X.env
 outer:=X.stack
 stack:=X.stack
 ex:=ex
 fn:=λ_=>false
 calm:=X.calm
 pn:=[]
 xe:=λ_ _=>False
structure CompOk(X:Cx)(fr:List Str)(js:List Nat)(scope:Scope)(cl:List (Str×Addr)):Prop where
 clos:closureFor scope X.env=pure cl
 cell:∀y∈scope.names,y.2≠.cell
 kind:scope.kind=.function
 names:∀y∈scope.names,y.2=.local->scope.names.lookup y.1=some .local
 clin:∀p∈cl,X.env.cells.lookup p.1=some p.2
 has:scope.names.all (λp=>p.2 != .free || (cl.lookup p.1).isSome)=true
 fre:Paired (λ(x:Str) (j:Nat)=>X.N[j]?=some x/\(X.env.scope.names.lookup x=some .cell\/X.env.scope.names.lookup x=some .free)/\scope.names.lookup x=some .free) fr js
theorem sK{env:Env}{x:Str}{k':NameKind}:∀{names:List (Str×NameKind)},
 (names.map λ(n,k)=>if(k == NameKind.free&&env.scope.kind == .function&&env.kindOf n == some .cell)then(n,NameKind.cell)else(n,k)).lookup x=some k' ->
 ∃k,names.lookup x=some k/\(k'=k\/(k=.free/\k'=.cell))
 | [],h=>by simp at h
 | (n,k)::r,h=>by
  have ih:=@sK env x k' r;change List.lookup x ((if(k == NameKind.free&&env.scope.kind == .function&&env.kindOf n == some .cell)=true then(n,NameKind.cell)else(n,k))::_)=_ at h
  by_cases hc:(k == NameKind.free&&env.scope.kind == .function&&env.kindOf n == some .cell)=true
  ·rw[if_pos hc]at h;cases hx:x == n with
   |true =>simp only[Og,hx]at h ⊢;cases h;refine⟨k,rfl,.inr ⟨?_,rfl⟩⟩;simp only[Bool.and_eq_true,beq_iff_eq]at hc;exact hc.1.1
   |false =>simp only[Og,hx]at h ⊢;exact ih h
  ·rw[if_neg hc]at h;cases hx:x == n with
   |true =>simp only[Og,hx]at h ⊢;cases h;exact⟨_,rfl,.inl rfl⟩
   |false =>simp only[Og,hx]at h ⊢;exact ih h
theorem x9{env:Env}{x:Str}:∀{names:List (Str×NameKind)},names.lookup x=some .free ->
 (names.map λ(n,k)=>if(k == NameKind.free&&env.scope.kind == .function&&env.kindOf n == some .cell)then(n,NameKind.cell)else(n,k)).lookup x=some .cell \/
 (names.map λ(n,k)=>if(k == NameKind.free&&env.scope.kind == .function&&env.kindOf n == some .cell)then(n,NameKind.cell)else(n,k)).lookup x=some .free
 | [],h=>by simp at h
 | (n,k)::r,h=>by
  have ih:=@x9 env x r;show List.lookup x ((if(k == NameKind.free&&env.scope.kind == .function&&env.kindOf n == some .cell)=true then(n,NameKind.cell)else(n,k))::_)=_\/List.lookup x ((if(k == NameKind.free&&env.scope.kind == .function&&env.kindOf n == some .cell)=true then(n,NameKind.cell)else(n,k))::_)=_;by_cases hc:(k == NameKind.free&&env.scope.kind == .function&&env.kindOf n == some .cell)=true
  ·rw[if_pos hc];cases hx:x == n with
   |true=>simp only[Og,hx];exact .inl trivial
   |false=>simp only[Og,hx]at h ⊢;exact ih h
  ·rw[if_neg hc];cases hx:x == n with
   |true =>simp only[Og,hx]at h ⊢;cases h;exact .inr rfl
   |false=>simp only[Og,hx]at h ⊢;exact ih h
noncomputable def iT(n:Nat)(js:List Nat)(σ:St):St:=List.replicate n none++js.map λj=>(σ[j]?).join
def vK(n:Nat)(js:List Nat)(g:TG)(te:TE)(σ:St)(Q:VK)(J:It)(H1:Hp):Prop:=∃W:Nat->Nat->List V->St->Hp->Prop,(∃m,W 0 m [] (iT n js σ) H1) /\
 ∀i m ys Q2 H',W i m ys Q2 H' ->
  (J.stop i H'/\∀p,H' p=none->Q (.ref p) (upd H' p (.lst ys))) \/
  (J.go i H'/\ys.length<sizeLine/\∃N:V->St->Hp->Prop,(∀y Q1 H'',N y Q1 H''->∃m',m'<m/\W (i+1) m' (ys++[y]) Q1 H'')/\∀x H2,J.yld i H' x H2->g x Q2 H2 λQ4 H3=>te Q4 H3 λy H4=>N y Q4 H4)
def wz(n:Nat)(js:List Nat)(wi:TI)(g:TG)(te:TE):TE:=λσ H Q=>wi σ H λJ H1=>vK n js g te σ Q J H1
noncomputable def Kq(X:Cx)(pins:List (Addr×Obj))(σ:St)(Q:VK)(D C:Addr)(s':Shared):Prop :=
 ∃H2,Inv X pins σ H2 s'/\Q (.ref D) H2/\H2 C=none/\C≠X.env.locals/\X.s₀.heap.objs.size<=C/\(∀x c,X.env.cells.lookup x=some c->c≠C)/\(∀p∈X.pn++pins,p.1≠C)/\∃m,s'.heap.Ns C m
section
variable {X:Cx}{own fr:List Str}{js:List Nat}{scope:Scope}{cl:List (Str×Addr)}{elt target iter:Expr}{pos:Pos}{wi:TI}{g:TG}{te:TE}
def ip(O:CompOk X fr js scope cl){x:Str}{c:Addr}(e:cl.lookup x=some c):X.env.cells.lookup x=some c:=O.clin (x,c) (PySem.mem_of_lookup e)
def Aw{pins:List (Addr×Obj)}{σ:St}{H:Hp}{s:Shared}{fp:List Addr}{C:Addr}(O:CompOk X fr js scope cl)(I:Inv X pins σ H s)(hC:s.heap.objs.size<=C)(hf:∀b∈fp,gt X pins H b)(ho:∀b∈fp,b<s.heap.objs.size) :
 (ik X (own++fr) scope cl C s H fp).Ok:=by
 refine⟨I.ok.mod,O.kind,I.ok.glob,I.ok.blt,hC,λx y c h1 h2=>I.ok.inj x y c (ip O h1) (ip O h2),λx hx=>?_,λx c h=>(by cases h),I.ok.hd,I.ok.frames,.inl rfl,λb hb=>?_,I.bs,?_,λb o e hb=>?_,λb hb hb'=>?_,I.stack,I.stkFree⟩
 ·have key:scope.names.lookup x=some .free:=by
   have hx':(scope.names.map λ(n,k)=>if(k == NameKind.free&&X.env.scope.kind == .function&&X.env.kindOf n == some .cell)then(n,NameKind.cell)else(n,k)).lookup x=some .cell \/
    (scope.names.map λ(n,k)=>if(k == NameKind.free&&X.env.scope.kind == .function&&X.env.kindOf n == some .cell)then(n,NameKind.cell)else(n,k)).lookup x=some .free:=hx
   rcases hx' with h |h
   ·obtain⟨k,e,z⟩:=sK h;rcases z with z |⟨z,_⟩
    ·subst z;exact absurd rfl (O.cell _ (PySem.mem_of_lookup e))
    ·subst z;exact e
   ·obtain⟨k,e,z⟩:=sK h;rcases z with z |⟨_,z⟩
    ·subst z;exact e
    ·cases z
  have hm:=List.all_eq_true.mp O.has _ (PySem.mem_of_lookup key);have hs:(cl.lookup x).isSome=true:=by simpa using hm
  exact Option.isSome_iff_exists.mp hs
 ·obtain⟨f0,f1,f2,f3,f4,f5⟩:=hf b hb;exact⟨Nb (Nf (ho b hb) hC),λx c e=>f4 x c (ip O e)⟩
 ·exact MU I.ok.bsz I.sz
 ·obtain⟨f0,f1,f2,f3,f4,f5⟩:=hf b hb;rcases f3 with z |z
  ·exact I.ok.noex b o e z
  ·exact absurd (Nf (Heap.lt_size e) (MU I.ok.bsz z)) (NF _)
 ·obtain⟨f0,f1,f2,f3,f4,f5⟩:=hf b hb;rcases MG.mp (I.stkSub b hb')with z |z
  ·exact f1 z
  ·exact f2 z
theorem Paired.idx{α β:Type}{F:α->β->Prop}:∀{l₁:List α} {l₂:List β},Paired F l₁ l₂->∀(i:Nat) (a:α) (b:β),l₁[i]?=some a->l₂[i]?=some b->F a b
 |_,_,.nil,_,_,_,h,_=>by simp at h
 |_,_,.cons r _,0,a,b,h1,h2=>by simp at h1 h2;subst h1;subst h2;exact r
 |_,_,.cons _ t,i+1,a,b,h1,h2=>Paired.idx t i a b (by simpa using h1) (by simpa using h2)
theorem JA{pins:List (Addr×Obj)}{σ:St}{H:Hp}{s s':Shared}{fp:List Addr}{C:Addr}{m:Str->Option Value}(O:CompOk X fr js scope cl)(hl:fr.length=js.length)(I:Inv X pins σ H s)(hC:s.heap.objs.size<=C)(hf:∀b∈fp,gt X pins H b)
 (ho:∀b∈fp,b<s.heap.objs.size) (os:s'.os=s.os) (hg:s'.gens=s.gens) (old:∀b o,s.heap.get? b=some o->s'.heap.get? b=some o) (hn:s'.heap.Ns C m) :
 Inv (ik X (own++fr) scope cl C s H fp) [] (iT own.length js σ) H s':=by
 refine⟨Aw O I hC hf ho,os,by rw[hg];exact I.bare,Un.kept old,⟨m,hn,λi x v e1 e2 e3=>?_⟩,λx c e=>?_,I.hok.fresh hC,λx c e=>I.freeC x c (ip O e),λp hp=>absurd (show p∈([]:List (Addr×Obj))from hp) (by simp),I.hok.kept old,?_⟩
 ·unfold iT at e2
  have e1':(own++fr)[i]?=some x:=e1;by_cases hi:i<own.length
  ·rw[List.getElem?_append_left (by simpa using hi),List.getElem?_replicate]at e2;split at e2<;>cases e2
  ·have hi':own.length<=i:=NT hi;rw[List.getElem?_append_right (by simpa using hi'),List.length_replicate,List.getElem?_map]at e2;rw[List.getElem?_append_right hi']at e1';cases ej:js[i-own.length]? with
   |none=>rw[ej]at e2;cases e2
   |some j =>
    rw[ej]at e2;have e2':(σ[j]?).join=some v:=Option.some.inj e2
    have eσ:σ[j]?=some (some v):=by
     cases q:σ[j]? with
     |none=>rw[q]at e2';cases e2'
     |some o=>rw[q]at e2';simp at e2';rw[e2']
    obtain⟨hN,hk,hs⟩:=Paired.idx O.fre _ x j e1' ej;obtain⟨mo,hmo,hlo⟩:=I.loc;have vis:Vis X.env.scope x:=hk.elim (λz=>.inr (.inl z)) λz=>.inr (.inr z)
    obtain⟨u,r,l⟩:=hlo j x v hN eσ vis;refine⟨u,r,.inr ⟨x9 hs,?_⟩⟩;have hm:=List.all_eq_true.mp O.has _ (PySem.mem_of_lookup hs);have hs':(cl.lookup x).isSome=true:=by simpa using hm
    obtain⟨c,ec⟩:=Option.isSome_iff_exists.mp hs';refine⟨c,ec,?_⟩;rcases l with⟨k,_⟩ |⟨_,c',e',z⟩
    ·have k':X.env.scope.names.lookup x=some .local:=k;rcases hk with q |q<;>(rw[q]at k';cases k')
    ·have:=ip O ec;rw[e']at this;cases this;obtain⟨oc,hoc,hd⟩:=z;exact⟨oc,old _ _ hoc,hd⟩
 ·obtain⟨v,oc,hoc,hd⟩:=I.cell x c (ip O e);exact⟨v,oc,old _ _ hoc,hd⟩
 ·unfold iT;show _=(own++fr).length;rw[MY,MY,List.length_replicate,MC,hl]
def Un.adopt{fs ex:List Addr}{H H1:Hp}{h h1:Heap}{a:Addr}{o:HO}(u:Un fs ex H H1 h h1)(ha:h.objs.size<=a)(hn:H a=none):Un fs ex H (upd H1 a o) h h1 where
 keep:=u.keep
 slot:=u.slot
 free:=λb ob q n hx=>by rw[upd_ne (Nb (Nf (Heap.lt_size q) ha))];exact u.free b ob q n hx
 there:=u.there
 tups:=λb xs q=>by rw[upd_ne (bh q hn)];exact u.tups b xs q
 frzs:=λb ob xs q=>by rw[upd_ne (bh q hn)];exact u.frzs b ob xs q
 tbls:=λb ps q=>by rw[upd_ne (bh q hn)];exact u.tbls b ps q
def HOk.adopt{P:Program}{w:World}{H:Hp}{h:Heap}{a:Addr}{o:HO}(x:HOk P w H h)(hn:H a=none)(new:ObjOk P w (upd H a o) h a o):HOk P w (upd H a o) h:=λb u e=>by
 by_cases hb:b=a
 ·subst hb;rw[ar]at e;cases e;exact new
 ·rw[upd_ne hb]at e;exact(x b u e).stay (λc v _ q=>q) (λc q=>by rw[upd_ne (bh q hn)];exact q) λc xs q=>by rw[upd_ne (bh q hn)];exact q
def JF{pins:List (Addr×Obj)}{σ:St}{H:Hp}{s:Shared}{fp:List Addr}{it:Addr}{tn:Nat->Heap->Prop}{J:It}{E:Value->Shared->Prop}{Q:VK}{RR:Value->Addr->Result->Shared->Prop}(O:CompOk X fr js scope cl)(hl:fr.length=js.length)(hcm:X.calm=true)
 (I:Inv X pins σ H s) (T:Turn X.prog X.w X.K target J fp it tn) (st:tn 0 s.heap) (hf:∀b∈fp,gt X pins H b)
 (hg:∀C s₀ H₀ ex,PG (ik X (own++fr) scope cl C s₀ H₀ ex) target g) (he:∀C s₀ H₀ ex,PE (ik X (own++fr) scope cl C s₀ H₀ ex) elt te)
 (W:Nat->Nat->List V->St->Hp->Prop) {m0:Nat} (w0:W 0 m0 [] (iT own.length js σ) H)
 (turn:∀i m ys Q2 H',W i m ys Q2 H' ->
   (J.stop i H'/\∀p,H' p=none->Q (.ref p) (upd H' p (.lst ys))) \/
   (J.go i H'/\ys.length<sizeLine/\∃N:V->St->Hp->Prop,(∀y Q1 H'',N y Q1 H''->∃m',m'<m/\W (i+1) m' (ys++[y]) Q1 H'')/\∀x H2,J.yld i H' x H2->g x Q2 H2 λQ4 H3=>te Q4 H3 λy H4=>N y Q4 H4))
 (hRR:∀D C s',Kq X pins σ Q D C s'->RR (.ref D) C (.ok .next) s') :
 wpAny (model X.prog X.w) X.A (newList []) (λacc s₃=>wpAny (model X.prog X.w) X.A (newFunctionEnv scope X.env.globals cl [] X.env.qual none .none (some X.env)) (λcenv s₄ =>
  codeAny (model X.prog X.w) X.A (.compStart (.ListComp elt [⟨target,iter,[],0⟩] scope pos) 0 (.ref it) acc { cenv with scope:=relabel scope X.env }) (RR acc cenv.locals) s₄) E s₃) E s:=by
 refine wpAny_newObj_type (wpAny_newFunctionEnv O.cell (by intro y hy;simp at hy) (λh₁ hns₁ hsb₁=>?_) O.kind);dsimp only at hns₁ hsb₁ ⊢
 generalize hH2:s.heap.push { cls:=.type "list",dict:=none,data:=.seq ([]:List Value).toArray }=H2 at hns₁ hsb₁ ⊢
 have hCs:H2.objs.size=s.heap.objs.size+1:=by rw[<- hH2,Heap.size_push]
 have hDC:s.heap.objs.size≠H2.objs.size:=by rw[hCs];exact Nb (NR _)
 have hCge:s.heap.objs.size<=H2.objs.size:=by rw[hCs];exact Nat.le_succ _
 have below:∀b,b<s.heap.objs.size->b≠H2.objs.size/\b≠s.heap.objs.size:=λb hb=>⟨by rw[hCs];exact Nb (Nat.lt_succ_of_lt hb),Nb hb⟩
 have old:∀b o,s.heap.get? b=some o->h₁.get? b=some o:=λb o e=>hsb₁.extBut b o (below b (Heap.lt_size e)).1 (Heap.get?_push_of_some _ (hH2 ▸ Heap.get?_push_of_some _ e))
 have hacc:h₁.get? s.heap.objs.size=some { cls:=.type "list",data:=.seq ([]:List Value).toArray 0 }:=hsb₁.extBut _ _ hDC (Heap.get?_push_of_some _ (hH2 ▸ Heap.get?_push_size _ rfl));have ho:∀b∈fp,b<s.heap.objs.size:=λb hb=>by obtain⟨o,e,_⟩:=T.obj 0 _ st b hb;exact Heap.lt_size e
 generalize hDe:s.heap.objs.size=D at *
 generalize hCe:H2.objs.size=C at *
 let X':Cx:=ik X (own++fr) scope cl C s H fp
 have ok':X'.Ok:=Aw O I (by rw[hDe];exact hCge) hf (by rw[hDe];exact ho)
 have hDfs:D∉X'.fs:=by
  intro z;rcases MG.mp (I.stkSub D z)with q |q
  ·exact absurd I.lt (by rw[<- q,hDe];exact NF _)
  ·exact I.nofs (Oe hDe) q
 have hDfp:∀b∈fp,D≠b:=λb hb z=>absurd (ho b hb) (by rw[z];exact NF _)
 have hDcell:∀x c,cl.lookup x=some c->c≠D:=λx c e z=>by obtain⟨v,q⟩:=I.cell x c (ip O e);exact absurd q.lt (by rw[z,hDe];exact NF _)
 have fpok:∀{H':Hp} {pins':List (Addr×Obj)},(∀p∈pins',p.1=D)->(∀b∈fp,H' b=none)->∀b∈fp,gt X' pins' H' b:=λ{H' pins'} hp hn b hb=>by
  obtain⟨f0,f1,f2,f3,f4,f5⟩:=hf b hb;refine⟨hn b hb,(below b (ho b hb)).1,λz=>?_,.inl hb,λx c e=>f4 x c (ip O e),λp hp'=>?_⟩
  ·rcases MG.mp (I.stkSub b z)with q |q
   ·exact f1 q
   ·exact f2 q
  ·have hp'':p∈pins':=by simpa[X',ik]using hp'
   rw[hp p hp''];exact hDfp b hb
 have loop:∀s₃:Shared,s₃={ s with heap:=h₁,toks:=s.toks+([]:List (Str×Value)).length } ->
  codeAny (model X.prog X.w) X.A (.compLoop (.ListComp elt [⟨target,iter,[],0⟩] scope pos) 0 (.ref it) (.ref D) (compEnvC scope cl C X.env)) (RR (.ref D) C) s₃:=by
  rintro s₃ rfl
  refine PySem.W.kcp_loop (λk s'=>∃i Q2 H' ys its nn,Inv X' [] Q2 H' s'/\tn i s'.heap/\(∀b∈fp,H' b=none)/\H' D=none/\s'.heap.get? D=some { cls:=.type "list",data:=.seq (its:List Value).toArray nn }/\Vals ys its/\ys.length<=sizeLine/\W i k ys Q2 H') ?_ m0
   ⟨0,_,H,[],[],0,JA O hl I (by rw[hDe];exact hCge) hf (by rw[hDe];exact ho) rfl rfl (by intro b o e;exact old b o e) hns₁,T.keep _ _ _ st λb _ o e=>old b o e,λb hb=>(hf b hb).1,I.hok.fresh (Oe hDe),hacc,.nil,MK _,w0⟩
  rintro k s' ⟨i,Q2,H',ys,its,nn,I',st',hfn,hDn,hDo,rv,hz,w⟩;have hlen:=rv.length;have hpD:∀p∈[(D,({ cls:=.type "list",data:=.seq its.toArray nn }:Obj))],p.1=D:=λp hp=>by rw[MH.mp hp]
  have Ip:Inv X' [(D,({ cls:=.type "list",data:=.seq its.toArray nn }:Obj))] Q2 H' s':=I'.pins_of λp hp=>by rw[MH.mp hp];exact⟨hDo,hDn,hDC,hDfs,λv z=>by cases z⟩
  rcases turn i k ys Q2 H' w with⟨stop,fin⟩ |⟨go,hlt,N,hN,step⟩
  ·refine wpAny_mono (T.done X' rfl rfl rfl hcm i _ s' Q2 H' (λ_ _=>False) Ip (fpok hpD hfn) st' stop) (λr s4 ⟨hr,I4⟩=>?_) λ_ _ z=>False.elim z
   subst hr;refine hRR D C s4 ?_;have hD4:s4.heap.get? D=some { cls:=.type "list",data:=.seq its.toArray nn }:=(I4.pin _ (Nn _ (MH.mpr rfl))).1;have un:Un (frs X.stack) fp H (upd H' D (.lst ys)) s.heap s4.heap:=Un.adopt I4.base (Oe hDe) (I.hok.fresh (Oe hDe));have hok:HOk X.prog X.w (upd H' D (.lst ys)) s4.heap:=HOk.adopt I4.hok hDn ⟨hz,its,nn,rv,hD4⟩;refine⟨upd H' D (.lst ys),I.call' I4.os un hok I4.bare λb hb=>?_,fin D hDn,?_,?_,?_,λx c e z=>?_,λp hp z=>?_,?_⟩
   ·obtain⟨f0,f1,f2,f3,f4,f5⟩:=hf b hb;exact⟨f3,f1,f4,f5⟩
   ·rw[upd_ne (Ne.symm hDC)];exact I4.free
   ·exact Nat.ne_of_gt (Nf I.lt (by rw[hDe];exact hCge))
   ·exact MU I.sz (by rw[hDe];exact hCge)
   ·obtain⟨v,q⟩:=I.cell x c e;exact absurd (Nf q.lt (by rw[hDe,z];exact hCge)) (NF _)
   ·exact absurd (Nf (Heap.lt_size (I.pin p hp).1) (by rw[hDe,z];exact hCge)) (NF _)
   ·obtain⟨m',hn',_⟩:=I4.loc;exact⟨m',hn'⟩
  ·refine wpAny_mono (T.item X' rfl rfl rfl hcm i _ s' Q2 H' (λ_ _=>False) Ip (fpok hpD hfn) st' go) (λr s4 ⟨u,hr,h4⟩=>?_) λ_ _ z=>False.elim z
   subst hr;refine wpAny_mono h4 (?_) λ_ _ z=>False.elim z
   rintro _ s5 ⟨x,H5,I5,r5,y5,st5,fr5⟩;have I5':=I5.pinned (fpok hpD fr5) (T.obj _ _ st5);refine wpAny_mono (hg C s H fp _ s5 Q2 H5 x u _ I5' r5 (step x H5 y5)) (?_) λ_ _ z=>False.elim z
   rintro _ s6 ⟨Q5,H6,I6,q6⟩;refine wpAny_mono (he C s H fp _ s6 Q5 H6 _ I6 q6) (?_) λ_ _ z=>False.elim z
   rintro v s7 ⟨y,H7,I7,r7,n7⟩;obtain⟨m',hm',w7⟩:=hN y Q5 H7 n7;have hD7:=I7.pin (D,{ cls:=.type "list",data:=.seq its.toArray nn }) (Nn _ (Ob _ (MH.mpr rfl)));refine append_at hD7.1 (λh8 sb hD8=>?_) (by rw[M5,<- hlen];exact hz);have I7':Inv X' [] Q5 H7 s7:=I7.pins_of λp hp=>absurd hp (by simp)
   have I8:Inv X' [] Q5 H7 { s7 with heap:=h8 }:=I7'.turned (t':=s7.toks) (it:=D) (λb o hb e=>(sb.2 b hb).trans e) hD7.2.1 hDC (.inr (Oe hDe)) hDcell (λp hp=>absurd (show p∈([]:List (Addr×Obj))from hp) (by simp));refine⟨m',hm',i+1,Q5,H7,ys++[y],its++[v],nn+1,I8,T.keep _ _ _ st5 λb hb o e=>?_,λb hb=>?_,hD7.2.1,?_,rv.append (.cons r7 .nil),?_,w7⟩
   ·exact(sb.2 b (λz=>hDfp b hb z.symm)).trans (I7.pin (b,o) (Nn _ (Nn _ (oA hb e)))).1
   ·obtain⟨o,e,d⟩:=T.obj _ _ st5 b hb;exact(I7.pin (b,o) (Nn _ (Nn _ (oA hb e)))).2.1
   ·rw[hD8,List.push_toArray]
   ·rw[MY,List.length_singleton];exact hlt
 exact codeAny_compStart_list (loop _ rfl) (T.self _ 0 _ _ _ (T.keep _ _ _ st λb _ o e=>old b o e) (loop _ rfl))
def f8(O:CompOk X fr js scope cl)(hcm:X.calm=true)(hi:PI X target iter wi)(hg:∀C s₀ H₀ ex,PG (ik X (own++fr) scope cl C s₀ H₀ ex) target g)(he:∀C s₀ H₀ ex,PE (ik X (own++fr) scope cl C s₀ H₀ ex) elt te)
 (hs:∀x,foldedSetIterable iter X.env x=pure x:=by intro _;rfl):PE X (.ListComp elt [⟨target,iter,[],0⟩] scope pos) (wz own.length js wi g te):=by
 intro pins s σ H Q I h;rw[eval_ListComp];refine wpAny_comprehension_free (use:=none) rfl hs O.clos O.kind O.names (aK (hi pins s σ H _ I h) λx s1 h1=>aK h1 λitv s2 h2=>?_);obtain⟨it,fp,tn,J,H2,rfl,I2,T,st,hf,W,⟨m0,w0⟩,turn⟩:=h2;refine JF (RR:=λacc C=>compPost (model X.prog X.w) X.A X.xe none (EP X pins σ Q) acc C) O (Paired.length O.fre) hcm I2 T st hf hg he W w0 turn ?_;rintro D C s' ⟨H3,I3,q,c1,c2,c3,c4,c5,m,hn⟩;exact⟨m,hn,λh' sb=>⟨.ref D,H3,I3.turned (t':=s'.toks) (it:=C) (λb o hb e=>(sb.2 b hb).trans e) c1 c2 (.inr c3) c4 c5,rfl,q⟩⟩
end
def i7{n:Nat}{js:List Nat}{K:PySem.W.Frag}{a:Addr}{xs:List V}{g:TG}{te:TE}{Q6:St}{H:Hp}{Q:VK}(Pv:Nat->List V->St->Hp->Prop)(hz:xs.length<=sizeLine)(h0:Pv 0 [] (iT n js Q6) H)(hl:∀i ys σ H,i<=xs.length->Pv i ys σ H->SqL K H a xs/\ys.length<=i)
 (hs:∀i x ys σ H,xs[i]?=some x->Pv i ys σ H->g x σ H λQ3 H2=>te Q3 H2 λy H3=>Pv (i+1) (ys++[y]) Q3 H3) (hd:∀ys σ H p,Pv xs.length ys σ H->H p=none->Q (.ref p) (upd H p (.lst ys))) :
 vK n js g te Q6 Q (Itl K a) H:=by
 refine⟨λi m ys σ H=>m=xs.length-i/\i<=xs.length/\Pv i ys σ H,⟨xs.length,by simp,MK _,h0⟩,?_⟩;rintro i m ys σ H ⟨rfl,hi,p⟩;obtain⟨q,hy⟩:=hl i ys σ H hi p;by_cases hlt:i<xs.length
 ·refine .inr ⟨⟨xs,xs[i],q,by simp[hlt]⟩,by omega,λy Q1 H''=>Pv (i+1) (ys++[y]) Q1 H'',λy Q2 H' p'=>⟨xs.length-(i+1),by omega,rfl,hlt,p'⟩,λx H' y=>?_⟩;obtain⟨e,y⟩:=y;subst e;exact hs i x ys σ _ (y xs q) p
 ·have e:i=xs.length:=by omega
  subst e;exact .inl ⟨⟨xs,q,MI _⟩,λr hr=>hd ys σ H r p hr⟩
def uW{k:Nat}{js:List Nat}{lo:Int}{n:Nat}{g:TG}{te:TE}{Q6:St}{H:Hp}{Q:VK}(Pv:Nat->List V->St->Hp->Prop)(hz:n<=sizeLine)(h0:Pv 0 [] (iT k js Q6) H)(hl:∀i ys σ H,i<=n->Pv i ys σ H->ys.length<=i)
 (hs:∀i ys σ H,i<n->Pv i ys σ H->g (.int (lo+i)) σ H λQ3 H2=>te Q3 H2 λy H3=>Pv (i+1) (ys++[y]) Q3 H3) (hd:∀ys σ H p,Pv n ys σ H->H p=none->Q (.ref p) (upd H p (.lst ys))) :
 vK k js g te Q6 Q (Itr lo n) H:=by
 refine⟨λi m ys σ H=>m=n-i/\i<=n/\Pv i ys σ H,⟨n,by simp,MK _,h0⟩,?_⟩;rintro i m ys σ H ⟨rfl,hi,p⟩;have hy:=hl i ys σ H hi p;by_cases hlt:i<n
 ·refine .inr ⟨hlt,by omega,λy Q1 H''=>Pv (i+1) (ys++[y]) Q1 H'',λy Q2 H' p'=>⟨n-(i+1),by omega,rfl,hlt,p'⟩,λx H' y=>?_⟩;obtain⟨e,y⟩:=y;subst e y;exact hs i ys σ _ hlt p
 ·have e:i=n:=by omega
  subst e;exact .inl ⟨MI _,λr hr=>hd ys σ H r p hr⟩
def Bits(k:Nat)(i:Int):Prop:=i.natAbs<2^k
def Bits.mono{j k:Nat}{i:Int}(h:Bits j i)(hk:j<=k:=by decide):Bits k i:=Nf h (Nat.pow_le_pow_right (by decide) hk)
def Bits.mul{j k:Nat}{a b:Int}(ha:Bits j a)(hb:Bits k b):Bits (j+k) (a*b):=by
 unfold Bits at *
 rw[MW,Nat.pow_add];exact Nat.mul_lt_mul_of_lt_of_lt ha hb
def Bits.add{k:Nat}{a b:Int}(ha:Bits k a)(hb:Bits k b):Bits (k+1) (a+b):=by
 unfold Bits at *
 have:=Int.natAbs_add_le a b;rw[Nat.pow_succ];omega
def Bits.neg{k:Nat}{a:Int}(ha:Bits k a):Bits k (-a):=by unfold Bits at *;rwa [Ot]
def Bits.sub{k:Nat}{a b:Int}(ha:Bits k a)(hb:Bits k b):Bits (k+1) (a-b):=by rw[Int.sub_eq_add_neg];exact ha.add hb.neg
def Bits.of_le{k:Nat}{a b:Int}(hb:Bits k b)(h:a.natAbs<=b.natAbs):Bits k a:=Nu h hb
def Bits.zero{k:Nat}:Bits k 0:=Ou (by decide)
def Bits.log{k:Nat}{i:Int}(h:Bits k i)(hk:0<k):i.natAbs.log2<k:=by
 by_cases h0:i.natAbs=0
 ·rw[h0];simpa using hk
 ·exact(Nat.log2_lt h0).mpr h
def Bits.int{k:Nat}{i:Int}(h:Bits k i)(hk:k<=1000000):Builtin.Int.intBits i<=2^20:=by
 have e:(2:Nat)^20=1048576:=by decide
 unfold Builtin.Int.intBits;split
 ·exact MK _
 ·rename_i hn
  have h0:i.natAbs≠0:=by intro z;have:i=0:=Int.natAbs_eq_zero.mp z;exact hn (by simp[this])
  have:=(Nat.log2_lt h0).mpr h;omega
section
variable {X:Cx}{a b:Expr}{ta tb:TE}{pos:Pos}
def Lb(i j:Int):Prop:=Bits 1000000 i/\Bits 1000000 j
def aE:cj X (binaryOp .Mult) (rI Lb λi j=>.int (i*j)):=opI λ_ _ _ _ _ _ _ hc q=>mul_int q (.of_bits (hc.1.int (MI _)) (hc.2.int (MI _)))
def cA:cj X (binaryOp .Mod) (rI (λ_ j=>0<j) λi j=>.int (i%j)):=EN
def Lc(_ j:Int):Prop:=0<j/\Bits 9000 j
def cZ:cj X (binaryOp .FloorDiv) (rI Lc λi j=>.int (i/j)):=opI λi j _ _ _ _ _ hc q=>by refine floordiv_int (M7 hc.1) ?_ (.inl (PyProof.noPylong_of_log2 (hc.2.log (by decide))));rw[Int.fdiv_eq_ediv_of_nonneg _ (Nd hc.1)];exact q
def Bf(_ j:Int):Prop:=j≠0/\Bits 9000 j
def tu:cj X (binaryOp .FloorDiv) (rI Bf λi j=>.int (i.fdiv j)):=opI λ_ _ _ _ _ _ _ hc q=>floordiv_int hc.1 q (.inl (PyProof.noPylong_of_log2 (hc.2.log (by decide))))
def cB:cj X (compareOp .Eq) (rI0 λi j=>.bl (decide (i=j))):=lg λ_ _ _ _ _ _ _ q=>eq_int (by rw[Bool.beq_eq_decide_eq];exact q)
def gJ:cj X (compareOp .NotEq) (rI0 λi j=>.bl (!decide (i=j))):=lg λ_ _ _ _ _ _ _ q=>ne_int (by rw[bne,Bool.beq_eq_decide_eq];exact q)
def yl(K:PySem.W.Frag):R2:=λx y H Q=>∃(a b:Addr) (ns ms:Ex),x=.ref a/\y=.ref b/\SqL K H a (ns.map V.int)/\SqL K H b (ms.map V.int)/\Q (.bl (decide (ns=ms))) H
def yi(K:PySem.W.Frag):R2:=λx y H Q=>∃(a b:Addr) (ns ms:Ex),x=.ref a/\y=.ref b/\SqL K H a (ns.map V.int)/\SqL K H b (ms.map V.int)/\Q (.bl (!decide (ns=ms))) H
def EQ(hu:X.A.units+64<cLine):cj X (compareOp .Eq) (yl X.K):=by intro pins s σ H x y v u Q I rx ry h;obtain⟨a,b,ns,ms,rfl,rfl,ha,hb,q⟩:=h;cases rx;cases ry;obtain⟨i1,r1,p1,_⟩:=I.list ha;obtain⟨i2,r2,p2,_⟩:=I.list hb;exact PySem.W.eq_intsK p1.isList (oM r1) p2.isList (oM r2) hu ⟨.bl _,H,I,rfl,q⟩
def EM(hu:X.A.units+64<cLine):cj X (compareOp .NotEq) (yi X.K):=by intro pins s σ H x y v u Q I rx ry h;obtain⟨a,b,ns,ms,rfl,rfl,ha,hb,q⟩:=h;cases rx;cases ry;obtain⟨i1,r1,p1,_⟩:=I.list ha;obtain⟨i2,r2,p2,_⟩:=I.list hb;exact PySem.W.ne_intsK p1.isList (oM r1) p2.isList (oM r2) hu ⟨.bl _,H,I,rfl,q⟩
noncomputable def jN(K:PySem.W.Frag):List V->Hp->VK->Prop:=λxs H Q=>∃(x:V) (t c:Value) (n:V) (k:Bool),xs=[x,n]/\RelV n c/\(∀u,RelV n u->u=c)/\TyOf K H x t/\PySem.W.kitOne K t c=some k/\Q (.bl k) H
def JW:eR X (.builtin "isinstance") (jN X.K):=by intro pins s σ H xs us Q I r h;obtain⟨x,t,c,n,k,rfl,rn,hn,ty,e,q⟩:=h;obtain⟨u1,u2,rfl,r1,r2⟩:=r.two;obtain rfl:=hn u2 r2;exact Hn I r1 ty e λtk=>⟨.bl k,H,I.tok tk,rfl,q⟩
def oI{K:PySem.W.Frag}{H:Hp}{Q:VK}{x:V}{n:String}{t:Value}{k:Bool}(ty:TyOf K H x t)(e:PySem.W.kitOne K t (.type n)=some k)(q:Q (.bl k) H):jN K [x,.ty n] H Q :=
 ⟨x,t,.type n,.ty n,k,rfl,rfl,λ_ h=>h,ty,e,q⟩
def Ho{K:PySem.W.Frag}{H:Hp}{Q:VK}{x:V}{C:Addr}{t:Value}{k:Bool}(ty:TyOf K H x t)(e:PySem.W.kitOne K t (.ref C)=some k)(q:Q (.bl k) H):jN K [x,.ref C] H Q :=
 ⟨x,t,.ref C,.ref C,k,rfl,rfl,λ_ h=>h,ty,e,q⟩
end
section
variable {D:Ends}{σ:St}{H:Hp}{Q:VK}{t u:TS}{te ta tb:TE}{c:TT}{i:Nat}{v:V}{r:R2}
def DP(P:St->Hp->Prop)(h1:∀Q2 H',P Q2 H'->u D Q2 H')(h2:(∀Q2 H',P Q2 H'->u D Q2 H')->t { D with nx:=u D } σ H):cx t u D σ H:=h2 h1
def dX(P:St->Hp->Prop)(h:P σ H)(h1:∀Q2 H',P Q2 H'->u D Q2 H'):u D σ H:=h1 σ H h
def az(h:te σ H λx H1=>u D (σ.set i (some x)) H1):cx (dS te (fU i)) u D σ H:=h
def gA(h:te σ H λ_ H1=>u D σ H1):cx (mJ te) u D σ H:=h
def cp{t1:TS}(h:c σ H λb H1=>if b=true then t1 { D with nx:=u D } σ H1 else u D σ H1):cx (fH c t1 wu) u D σ H:=h
def kW{K:PySem.W.Frag}{n:V}(h:ta σ H λx H1=>jN K [x,n] H1 Q):tCB (jN K) (cw ta (cw (tC n) d8)) σ H Q:=h
def kY{t1 t2:TS}(P:St->Hp->Prop)(h1:∀Q2 H',P Q2 H'->u D Q2 H')(h2:(∀Q2 H',P Q2 H'->u D Q2 H')->c σ H λb H1=>if b=true then t1 { D with nx:=u D } σ H1 else t2 { D with nx:=u D } σ H1):cx (fH c t1 t2) u D σ H:=h2 h1
def cK(h:te σ H λx H1=>D.nx (σ.set i (some x)) H1):dS te (fU i) D σ H:=h
def bC(h:te σ H D.rt):mI te D σ H:=h
def jJ(h:te σ H λ_ H1=>D.nx σ H1):mJ te D σ H:=h
def gZ(h:c σ H λb H1=>if b=true then t D σ H1 else u D σ H1):fH c t u D σ H:=h
def sL{K:Bool->Hp->Prop}(h:te σ H λx H'=>∃k,x=.bl k/\K k H'):tB te σ H K:=h
def iG{K:Bool->Hp->Prop}{tt:TT}(h:tt σ H λk H1=>K (!k) H1):wq tt σ H K:=h
def gB{K:Bool->Hp->Prop}{t1 t2:TT}(h:t1 σ H λk H1=>if k=true then t2 σ H1 K else K false H1):wC t1 t2 σ H K:=h
def jI{K:Bool->Hp->Prop}{t1 t2:TT}(h:t1 σ H λk H1=>if k=true then K true H1 else t2 σ H1 K):tOr t1 t2 σ H K:=h
def yc(h:ta σ H λx H1=>∃k,x=.bl k/\if k=true then tb σ H1 Q else Q (.bl false) H1):wB ta tb σ H Q:=h
def DN(h:ta σ H λx H1=>∃k,x=.bl k/\Q (.bl (!k)) H1):wp ta σ H Q:=h
def DO{tt:TT}(h:tt σ H λk H1=>if k=true then ta σ H1 Q else tb σ H1 Q):tIf tt ta tb σ H Q:=h
def yb{A B:Prop}(h:A):if true=true then A else B:=by rw[if_pos rfl];exact h
def dA{A B:Prop}(h:B):if false=true then A else B:=by rw[if_neg On];exact h
def aN{p A B:Prop}[Decidable p](h1:p->A)(h2:¬p->B):if decide p=true then A else B:=by
 by_cases hp:p
 ·rw[if_pos (decide_eq_true hp)];exact h1 hp
 ·rw[if_neg (by rw[decide_eq_false hp];exact On)];exact h2 hp
def de{p A B:Prop}[Decidable p](h1:¬p->A)(h2:p->B):if(!decide p)=true then A else B:=by
 by_cases hp:p
 ·rw[if_neg (by rw[decide_eq_true hp];exact On)];exact h2 hp
 ·rw[if_pos (by rw[decide_eq_false hp];rfl)];exact h1 hp
end
structure Cal(P:Program)(w:World)(K:PySem.W.Frag)(mg:Str->Option Value)(base:Heap)(k:Nat)(x:Str)(ps:List Str)(sp:Sp)(f:Addr)(fd:FuncData):Prop where
 ok:FnOk P w K mg base aD k f fd ps sp
 mg:mg x=some (.ref f)
 kp:PySem.W.keepIn K (.ref f)=true
 bd:Binds K fd ps []
def Same.upd_new{H:Hp}{p:Addr}{o:HO}(h:H p=none):Same H (upd H p o):=λb u e=>by rw[upd_ne (bh e h)];exact e
def Same.then_new{H H1:Hp}{p:Addr}{o:HO}(s:Same H H1)(h:H1 p=none):Same H (upd H1 p o):=s.trans (Same.upd_new h)
def Same.ne{H H1:Hp}{a p:Addr}{o:HO}(s:Same H H1)(e:H a=some o)(h:H1 p=none):a≠p:=bh (s a o e) h
section
variable {X:Cx}{K:PySem.W.Frag}
def zA(h:X.K=K):IxR X (nI K):=by subst h;exact Hm
def Hk(h:X.K=K):IxR X (sP K):=by subst h;exact Hl
def mU(h:X.K=K):SlR X (sO K):=by subst h;exact Cq
noncomputable def yk(K:PySem.W.Frag):List V->Hp->VK->Prop:=λxs H Q=>∃p ys,xs=[.ref p]/\(SqL K H p ys\/SqT K H p ys)/\Q (.int ys.length) H
def JV(h:X.K=K):eR X (.builtin "len") (yk K):=by subst h;exact JU
noncomputable def D3(K:PySem.W.Frag):List V->Hp->VK->Prop:=λxs H Q=>∃p ys,xs=[.ref p]/\(SqL K H p ys\/SqT K H p ys)/\∀l,H l=none->Q (.ref l) (upd H l (.lst ys))
def mn(h:X.K=K):eR X (.type "list") (D3 K):=by subst h;exact JT
def iQ(h:X.K=K)(hu:X.A.units+64<cLine):cj X (compareOp .Eq) (yl K):=by subst h;exact EQ hu
def hZ(h:X.K=K)(hu:X.A.units+64<cLine):cj X (compareOp .NotEq) (yi K):=by subst h;exact EM hu
def mq(h:X.K=K):eR X (.builtin "isinstance") (jN K):=by subst h;exact JW
def fe{tg l:Expr}{tl:TE}(h:X.K=K)(hl:PE X l tl):PI X tg l (uf K tl):=by subst h;exact Ev hl
def Er{tg l:Expr}{tl:TE}(h:X.K=K)(hl:PE X l tl):PI X tg l (zG K tl):=by subst h;exact Et hl
def aQ{e:Expr}{ta:TE}{f:Str}{pos:Pos}(h:X.K=K)(he:PE X e ta)(hb:attributeBase e f X.env (eval e X.env)=eval e X.env):PE X (.Attribute e f pos) (wy K ta f):=by subst h;exact EE he hb
end
noncomputable def Ite(K:PySem.W.Frag)(a:Addr):It :=
 ⟨λi H=>∃xs x,SqL K H a xs/\xs[i]?=some x,λi H x H'=>∃v p,x=.ref p/\H p=none/\H'=upd H p (.tup [.int i,v])/\∀xs,SqL K H a xs->xs[i]?=some v,λi H=>∃xs,SqL K H a xs/\xs.length<=i⟩
def BI{P:Program}{w:World}{K:PySem.W.Frag}{es:List Expr}{x1:Nat}{tp:Pos}(a e it:Addr)(hne:e≠it):Turn P w K (.Tuple es x1 tp) (Ite K a) [e,it] e (λi h=>(∃old,IsEnum h e it (i:Int) old)/\h.IsListIter it a i) where
 mem:=by simp
 obj:=λi h st b hb=>by
  obtain⟨⟨old,he⟩,hi⟩:=st;rcases MG.mp hb with rfl |hb
  ·exact⟨_,he,λv z=>by cases z⟩
  ·have q:b=it:=by simpa using hb
   subst q;obtain⟨o,e,c,d⟩:=hi;exact⟨o,e,λv z=>by rw[d]at z;cases z⟩
 keep:=λi h h' st k=>by obtain⟨⟨old,he⟩,hi⟩:=st;exact⟨⟨old,k e (by simp) _ he⟩,hi.at λo q=>k it (by simp) o q⟩
 item:=by
  intro X hP hw hK hc i pins s σ H E I hf st hg;subst hP hw hK;obtain⟨⟨old,he⟩,hi⟩:=st;obtain⟨xs,x,hq,hx⟩:=hg;obtain⟨its,rv,p,hz⟩:=I.list hq;obtain⟨u,hu,ru⟩:=rv.get hx;refine wpAny_pyNext_enum_item he hi p.isList (x:=u) (by simpa using hu) hne λh' out hit' htup hsz kk=>?_
  have hfp:H s.heap.objs.size=none:=I.hok.fresh (MI _);have nfp:∀b o,H b=some o->b≠e/\b≠it:=λb o q=>⟨λz=>(by rw[z,(hf e (by simp)).1]at q;cases q),λz=>(by rw[z,(hf it (by simp)).1]at q;cases q)⟩
  have I1:Inv X pins σ (upd H s.heap.objs.size (.tup [.int i,x])) { s with heap:=h',toks:=s.toks+1 }:=by
   refine I.step (g':=s.gens) (d':=s.drawn) (ch:=[e,it]) (λb hb=>?_) (λb o _ _ hc q _=>kk b o (λz=>hc (by simp[z])) (λz=>hc (by simp[z])) q)
    (λb o _ _ hc q _=>⟨o.slots,kk b o (λz=>hc (by simp[z])) (λz=>hc (by simp[z])) q⟩) (λb o _ q n=>by rw[upd_ne (Nb (Heap.lt_size q))];exact n)
    (λb o hc q=>⟨o,kk b o (λz=>hc (by simp[z])) (λz=>hc (by simp[z])) q⟩) (λb ys q=>by rw[upd_ne (bh q hfp)];exact q) (λb o ys q=>by rw[upd_ne (bh q hfp)];exact q)
    (λb ps q=>⟨#[],by rw[upd_ne (bh q hfp),q];simp⟩) (λm hm=>?_) (λb o q=>?_) I.bare
   ·obtain⟨f0,f1,f2,f3,f4,f5⟩:=hf b hb;exact⟨f3,f1,f4,f5⟩
   ·obtain⟨o,es',ep',ho,r⟩:=hm;exact⟨o,es',ep',kk _ o (Ne.symm (hf e (by simp)).2.1) (Ne.symm (hf it (by simp)).2.1) ho,r⟩
   ·by_cases hb:b=s.heap.objs.size
    ·subst hb;rw[ar]at q;cases q;exact⟨by show 2<=sizeLine;decide,[.int i s.toks,u],.cons ⟨_,rfl⟩ (.cons ru .nil),⟨_,htup,rfl,_,rfl⟩⟩
    ·rw[upd_ne hb]at q;refine(I.hok b o q).stay (λc v hc z=>?_) (λc z=>by rw[upd_ne (bh z hfp)];exact z) λc ys z=>by rw[upd_ne (bh z hfp)];exact z
     rcases hc with rfl |hc
     ·exact kk c v (nfp c o q).1 (nfp c o q).2 z
     ·exact kk c v (nfp c _ hc).1 (nfp c _ hc).2 z
  refine⟨_,rfl,wpAny_letOwnedTupleGo_enum out λh'' he'' sb=>?_⟩;obtain⟨f0,f1,f2,f3,f4,f5⟩:=hf e (by simp)
  have hen:upd H s.heap.objs.size (.tup [.int i,x]) e=none:=by rw[upd_ne (Nb (Heap.lt_size he))];exact f0
  have I2:=I1.turned (h':=h'') (t':=s.toks+1) (it:=e) (λb o hb q=>(sb.2 b hb).trans q) hen f1 f3 f4 f5;refine⟨.ref s.heap.objs.size,_,I2,rfl,⟨x,_,rfl,hfp,rfl,λys hy=>by rw[I.list_inj hy hq];exact hx⟩,⟨⟨u,?_⟩,hit'.at λo q=>(sb.2 it (Ne.symm hne)).trans q⟩,λb hb=>?_⟩
  ·have:((i+1:Nat):Int)=(i:Int)+1:=by omega
   rw[this];exact he''
  ·have hlt:b<s.heap.objs.size:=by
    rcases MG.mp hb with rfl |hb
    ·exact Heap.lt_size he
    ·have q:b=it:=by simpa using hb
     subst q;obtain⟨o,e1,_⟩:=hi;exact Heap.lt_size e1
   rw[upd_ne (Nb hlt)];exact(hf b hb).1
 done:=by intro X hP hw hK hc i pins s σ H E I hf st hg;subst hP hw hK;obtain⟨⟨old,he⟩,hi⟩:=st;obtain⟨xs,hq,hx⟩:=hg;obtain⟨its,rv,p,hz⟩:=I.list hq;obtain⟨f0,f1,f2,f3,f4,f5⟩:=hf it (by simp);have hl:=rv.length;exact wpAny_pyNext_enum_end (I.ok.hd hc) he hi p.isList (by simp;omega) λh' eb=>⟨rfl,I.turned (t':=s.toks) (λb o hb e=>eb b o hb e) f0 f1 f3 f4 f5⟩
 self:=λ_ _ _ _ _ st h=>by obtain⟨⟨old,he⟩,hi⟩:=st;exact wpAny_pyIter_enum he h
section
variable {X:Cx}
def HB(K:PySem.W.Frag)(ta:TA):TI:=λσ H R=>ta σ H λvs H1=>∃a,vs=[.ref a]/\(∃xs,SqL K H1 a xs)/\R (Ite K a) H1
def sU{es:List Expr}{x1:Nat}{tp:Pos}{a:Expr}{ta:TA}{p pos:Pos}(hg:Gl X "enumerate")(hm:X.mg "enumerate"=none)(ha:PA X [a] ta)(hs:starEach [a] X.env=[(false,eval a X.env)]:=by rfl):PI X (.Tuple es x1 tp) (.Call (.Name "enumerate" p) [a] [] pos) (HB X.K ta):=by
 intro pins s σ H R I h;refine Call_ (gL I hg hm boot_enumerate (PyProof.Rows.callWith_type1 (aK (ha pos pins s σ H _ I h) ?_) hs rfl));rintro us s1 ⟨vs,H1,I1,r1,q1⟩;obtain⟨a',e,⟨xs,hq⟩,q⟩:=q1;subst e;obtain⟨u,rfl,ru⟩:=r1.one;cases ru;obtain⟨its,rv,pl,hz⟩:=I1.list hq;refine call_enumerate_list pl.isList λh' he hit hsz hk=>?_
 have I2:Inv X pins σ H1 { s1 with heap:=h' }:=I1.kept (t':=s1.toks) hk;refine wpAny_pyIter_enum he ?_;refine⟨s1.heap.objs.size+1,[s1.heap.objs.size+1,s1.heap.objs.size],_,_,H1,rfl,I2,BI a' _ _ (Nat.succ_ne_self _),⟨⟨_,he⟩,hit⟩,λb hb=>?_,q⟩
 have hb':s1.heap.objs.size<=b:=by
  rcases MG.mp hb with rfl |hb
  ·exact Nat.le_succ _
  ·have q:b=s1.heap.objs.size:=by simpa using hb
   subst q;exact MI _
 exact I1.fpOk hb' (I1.hok.fresh hb')
end
def ur{K:PySem.W.Frag}{a:Addr}{xs:List V}{g:TG}{tb:TS}{D:Ends}{σ:St}{H:Hp}(Pv:Nat->St->Hp->Prop)(h0:Pv 0 σ H)(hl:∀i σ H,i<=xs.length->Pv i σ H->SqL K H a xs)
 (hs:∀i x σ H p,xs[i]?=some x->Pv i σ H->H p=none->g (.ref p) σ (upd H p (.tup [.int i,x])) λQ3 H2=>tb { D with nx:=Pv (i+1),ct:=Pv (i+1),bk:=D.nx } Q3 H2) (hd:∀σ H,Pv xs.length σ H->D.nx σ H) :
 ∃W:Nat->Nat->St->Hp->Prop,(∃m,W 0 m σ H)/\∀i m σ H,W i m σ H ->
  ((Ite K a).stop i H/\D.nx σ H)\/((Ite K a).go i H/\∃N:St->Hp->Prop,(∀Q2 H',N Q2 H'->∃m',m'<m/\W (i+1) m' Q2 H')/\∀x H',(Ite K a).yld i H x H'->g x σ H' λQ3 H2=>tb { D with nx:=N,ct:=N,bk:=D.nx } Q3 H2):=by
 refine⟨λi m σ H=>m=xs.length-i/\i<=xs.length/\Pv i σ H,⟨xs.length,by simp,MK _,h0⟩,?_⟩;rintro i m σ H ⟨rfl,hi,p⟩;have q:=hl i σ H hi p;by_cases hlt:i<xs.length
 ·refine .inr ⟨⟨xs,xs[i],q,by simp[hlt]⟩,Pv (i+1),λQ2 H' p'=>⟨xs.length-(i+1),by omega,rfl,hlt,p'⟩,λx H' y=>?_⟩;obtain⟨v,r,rfl,hr,rfl,y⟩:=y;exact hs i v σ _ r (y xs q) p hr
 ·have e:i=xs.length:=by omega
  subst e;exact .inl ⟨⟨xs,q,MI _⟩,hd σ H p⟩
noncomputable def Itv(K:PySem.W.Frag)(a:Addr)(xs:List V):It :=
 ⟨λi H=>SqL K H a xs/\i<xs.length,λi H x H'=>H'=H/\xs[xs.length-1-i]?=some x,λi H=>xs.length<=i⟩
def BE{P:Program}{w:World}{K:PySem.W.Frag}{tg:Expr}(a it:Addr)(xs:List V):Turn P w K tg (Itv K a xs) [it] it (λi h=>i<=xs.length/\h.IsRevIter it a ((xs.length:Int)-1-i)) where
 mem:=by simp
 obj:=λi h st b hb=>by
  have e:b=it:=by simpa using hb
  subst e;obtain⟨_,o,e,c,d⟩:=st;exact⟨o,e,λv z=>by rw[d]at z;cases z⟩
 keep:=λi h h' st k=>⟨st.1,st.2.at λo e=>k it (by simp) o e⟩
 item:=by
  intro X hP hw hK hc i pins s σ H E I hf st hg;subst hP hw hK;obtain⟨hq,hlt⟩:=hg;obtain⟨its,rv,p,hz⟩:=I.list hq;have hl:=rv.length;obtain⟨x,hx⟩:∃x,xs[xs.length-1-i]?=some x:=⟨_,List.getElem?_eq_getElem (by omega)⟩;obtain⟨u,hu,ru⟩:=rv.get hx;obtain⟨f0,f1,f2,f3,f4,f5⟩:=hf it (by simp);have e1:(xs.length:Int)-1-i=((xs.length-1-i:Nat):Int):=by omega
  have hit:=st.2;rw[e1]at hit;refine wpAny_pyNext_rev_item hit p.isList (x:=u) (by simpa using hu) λh' st' sb=>?_
  have I1:Inv X pins σ H { s with heap:=h' }:=I.turned (t':=s.toks) (λb o hb e=>(sb.2 b hb).trans e) f0 f1 f3 f4 f5;obtain⟨o,e,c,d⟩:=id st';refine⟨u,rfl,lT (s:={ s with heap:=h' }) e c d (by decide) ⟨x,H,I1,ru,⟨rfl,hx⟩,⟨hlt,?_⟩,λb hb=>(hf b hb).1⟩⟩;have e2:(xs.length:Int)-1-((i+1:Nat):Int)=((xs.length-1-i:Nat):Int)-1:=by omega
  rw[e2];exact st'
 done:=by
  intro X hP hw hK hc i pins s σ H E I hf st hg;subst hP hw hK;obtain⟨f0,f1,f2,f3,f4,f5⟩:=hf it (by simp);have hle:xs.length<=i:=hg;have e1:(xs.length:Int)-1-i = -1:=by have:=st.1;omega
  have hit:=st.2;rw[e1]at hit;exact wpAny_pyNext_rev_end (I.ok.hd hc) hit λh' eb=>⟨rfl,I.turned (t':=s.toks) (λb o hb e=>eb b o hb e) f0 f1 f3 f4 f5⟩
 self:=λ_ _ _ _ _ st h=>wpAny_pyIter_revIter st.2 h
section
variable {X:Cx}{tg:Expr}
def HA(K:PySem.W.Frag)(ta:TA):TI:=λσ H R=>ta σ H λvs H1=>∃a xs,vs=[.ref a]/\SqL K H1 a xs/\R (Itv K a xs) H1
def sT{a:Expr}{ta:TA}{p pos:Pos}(hg:Gl X "reversed")(hm:X.mg "reversed"=none)(ha:PA X [a] ta)(hs:starEach [a] X.env=[(false,eval a X.env)]:=by rfl):PI X tg (.Call (.Name "reversed" p) [a] [] pos) (HA X.K ta):=by
 intro pins s σ H R I h;refine Call_ (gL I hg hm boot_reversed (PyProof.Rows.callWith_type1 (aK (ha pos pins s σ H _ I h) ?_) hs rfl));rintro us s1 ⟨vs,H1,I1,r1,q1⟩;obtain⟨a',xs,e,hq,q⟩:=q1;subst e;obtain⟨u,rfl,ru⟩:=r1.one;cases ru;obtain⟨its,rv,pl,hz⟩:=I1.list hq;have hl:=rv.length;refine call_reversed_list pl.isList ?_
 have hit:(s1.heap.push (revObj a' ((its.toArray.size:Int)-1))).IsRevIter s1.heap.objs.size a' ((xs.length:Int)-1-((0:Nat):Int)):=by
  have e1:(xs.length:Int)-1-((0:Nat):Int)=(its.toArray.size:Int)-1:=by rw[M5];omega
  rw[e1];exact⟨_,Heap.get?_push_size _ rfl,rfl,rfl⟩
 have I2:Inv X pins σ H1 { s1 with heap:=s1.heap.push (revObj a' ((its.toArray.size:Int)-1)) }:=I1.kept (t':=s1.toks) λb o e=>Heap.get?_push_of_some _ e
 refine wpAny_pyIter_revIter (s:={ s1 with heap:=s1.heap.push (revObj a' ((its.toArray.size:Int)-1)) }) hit ?_;refine⟨s1.heap.objs.size,[s1.heap.objs.size],_,_,H1,rfl,I2,BE a' _ xs,⟨MK _,hit⟩,λb hb=>?_,q⟩;have e:b=s1.heap.objs.size:=by simpa using hb
 subst e;exact I1.fpOk (MI _) (I1.hok.fresh (MI _))
end
def uq{K:PySem.W.Frag}{a:Addr}{xs:List V}{g:TG}{tb:TS}{D:Ends}{σ:St}{H:Hp}(Pv:Nat->St->Hp->Prop)(h0:Pv 0 σ H)(hl:∀i σ H,i<=xs.length->Pv i σ H->SqL K H a xs)
 (hs:∀i x σ H,i<xs.length->xs[xs.length-1-i]?=some x->Pv i σ H->g x σ H λQ3 H2=>tb { D with nx:=Pv (i+1),ct:=Pv (i+1),bk:=D.nx } Q3 H2) (hd:∀σ H,Pv xs.length σ H->D.nx σ H) :
 ∃W:Nat->Nat->St->Hp->Prop,(∃m,W 0 m σ H)/\∀i m σ H,W i m σ H ->
  ((Itv K a xs).stop i H/\D.nx σ H)\/((Itv K a xs).go i H/\∃N:St->Hp->Prop,(∀Q2 H',N Q2 H'->∃m',m'<m/\W (i+1) m' Q2 H')/\∀x H',(Itv K a xs).yld i H x H'->g x σ H' λQ3 H2=>tb { D with nx:=N,ct:=N,bk:=D.nx } Q3 H2):=by
 refine⟨λi m σ H=>m=xs.length-i/\i<=xs.length/\Pv i σ H,⟨xs.length,by simp,MK _,h0⟩,?_⟩;rintro i m σ H ⟨rfl,hi,p⟩;by_cases hlt:i<xs.length
 ·refine .inr ⟨⟨hl i σ H hi p,hlt⟩,Pv (i+1),λQ2 H' p'=>⟨xs.length-(i+1),by omega,rfl,hlt,p'⟩,λx H' y=>?_⟩;obtain⟨e,y⟩:=y;subst e;exact hs i x σ _ hlt y p
 ·have e:i=xs.length:=by omega
  subst e;exact .inl ⟨MI _,hd σ H p⟩
structure FunD(K:PySem.W.Frag)(x qual:Str)(st:Stmt)(dV:Value)(f:Addr)(fd:FuncData):Prop where
 ex:∃(oc:Value) (od:Option Addr) (kV doc pm:Value) (an:Option Addr) (cdv ct:Value) (osl:Array (Option Value)),
  fd=PySem.W.fnOf x qual (eJ st) (dQ st) (aC st) dV kV doc pm an cdv ct/\K.lookup f=some ⟨oc,od,.func fd,osl⟩/\PySem.W.codeIn K cdv qual=true
 kp:PySem.W.keepIn K (.ref f)=true
section
variable {P:Program}{w:World}{K:PySem.W.Frag}{mg:Str->Option Value}{base:Heap}
def FunD.ok{x qual:Str}{st:Stmt}{dV:Value}{f:Addr}{fd:FuncData}{N ps:List Str}{k:Nat}{sp:Sp}(F:FunD K x qual st dV f fd)(S:FnScope N ps (aC st))(len:∀vs H Q E,sp vs H Q E->vs.length=ps.length)
 (hbody:∀(cdv:Value) (A:Around) (outer:List Env) (s:Shared) (H:Hp) (vs:List V) (Q:VK) (E:XK),Room k (A.deeper (envOfC qual (aC st) s.heap.objs.size f cdv))->sp vs H Q E ->
   ∃t,PSs (ii aD P w K mg base N qual (aC st) f cdv A outer s H E).nox (dQ st) t/\t { nx:=λ_ H'=>Q .non H',rt:=Q } (start N vs) H):FnOk P w K mg base aD (k+1) f fd ps sp:=by
 obtain⟨oc,od,kV,doc,pm,an,cdv,ct,osl,rfl,lk,hcd⟩:=F.ex;refine zV lk hcd S len λA outer s H vs Q E hr hsp=>?_
 obtain⟨t,h,q⟩:=hbody cdv A outer s H vs Q E hr hsp;exact⟨t,h.nox,q⟩
def FunD.bindsD{x qual:Str}{st:Stmt}{T:Addr}{f:Addr}{fd:FuncData}{ps:List Str}{ds tup:List Value}{o:Obj}{n:Nat}(m:Nat)(F:FunD K x qual st (.ref T) f fd)(lo:K.lookup T=some o)(hs:o.data=.seq tup.toArray n)(hm:m+ds.length=ps.length)
 (h:∀(kV doc pm:Value) (an:Option Addr) (cdv ct:Value) (us:List Value),us.length=m->∃k:Option (Array Value)->Sem (List (Str×Value)),
   bindArgs (PySem.W.fnOf x qual (eJ st) (dQ st) (aC st) (.ref T) kV doc pm an cdv ct) ⟨us,[]⟩=seqItems? (.ref T) >>= k/\k (some tup.toArray)=pure (ps.zip (us++ds))):Binds K fd ps ds:=by
 obtain⟨oc,od,kV,doc,pm,an,cdv,ct,osl,rfl,lk,hcd⟩:=F.ex;intro s us KX hl;rw[MY]at hl;obtain⟨k,h1,h2⟩:=h kV doc pm an cdv ct us (by omega);exact PySem.W.binds_K (k:=k) KX rfl lo hs h1 h2
def zS{x qual:Str}{st:Stmt}{f:Addr}{oc:Value}{od an:Option Addr}{osl:Array (Option Value)}{dV kV doc pm cdv ct:Value}(l:K.lookup f=some ⟨oc,od,.func (PySem.W.fnOf x qual (eJ st) (dQ st) (aC st) dV kV doc pm an cdv ct),osl⟩)
 (c:PySem.W.codeIn K cdv qual=true) (k:PySem.W.keepIn K (.ref f)=true):FunD K x qual st dV f (PySem.W.fnOf x qual (eJ st) (dQ st) (aC st) dV kV doc pm an cdv ct):=⟨⟨oc,od,kV,doc,pm,an,cdv,ct,osl,rfl,l,c⟩,k⟩
end
structure MCal(P:Program)(w:World)(K:PySem.W.Frag)(mg:Str->Option Value)(base:Heap)(k:Nat)(C:Addr)(m:Str)(ps:List Str)(sp:Sp)(f:Addr)(fd:FuncData):Prop where
 ok:FnOk P w K mg base aD k f fd ps sp
 mt:Meth K C m f
 bd:Binds K fd ps []
structure KCal(P:Program)(w:World)(K:PySem.W.Frag)(mg:Str->Option Value)(base:Heap)(k:Nat)(C:Addr)(x:Str)(ps:List Str)(sp:Sp)(f:Addr)(fd:FuncData)(ds:List Value)(dvs:List V):Prop where
 ok:FnOk P w K mg base aD k f fd ps sp
 mkr:Mk K C f
 mg:mg x=some (.ref C)
 bd:Binds K fd ps []
 bdD:Binds K fd ps ds
 vd:Vals dvs ds
section
variable {X:Cx}{k j:Nat}{f:Addr}{fd:FuncData}{ps P:List Str}{sp:Sp}{x:Str}{p pos apos cpos pos':Pos}{e o a b:Expr}{es:List Expr}{ta tb te to:TE}{t:TA}{sc:Scope}{op:CmpOp}{r:R2}
def am(C:Cal X.prog X.w X.K X.mg X.base k x ps sp f fd)(hr:Room j X.A)(ha:PA X (e::es) t)(hj:k<=j:=by decide)(hg:Gl X x:=by rfl)(hdb:(x == ("__debug__":Str))=false:=by decide)(he:starEach (e::es) X.env=(false,eval e X.env)::starEach es X.env:=by rfl)(hpl:(backTo pos (starEach es X.env)).any (·.1)=false:=by rfl) :
 PE X (.Call (.Name x p) (e::es) [] pos) (wA sp [] E0 t):=yD C.ok (hr.mono hj) hg C.mg C.kp C.bd .nil aZ ha hdb he hpl
def ak(i:Nat)(S:FnScope X.N P sc)(he:PE X e te)(hi:X.N[i]?=some x:=by rfl)(hx:Loc X.env.scope x:=by first |exact Or.inl rfl |exact Or.inr rfl)(hs:swapsWith e (some (.Name x pos')) pos.line X.env=pure false:=by rfl)(hf:X.fn x=true\/X.env.scope.names.lookup x=some .local:=by first |exact .inl rfl |exact .inr rfl |assumption) :
 PS X (.Assign [.Name x pos'] e pos) (dS te (fU i)):=Ec S.nd hi hx he hs hf
def aY(i:Nat)(S:FnScope X.N P sc)(hi:X.N[i]?=some x:=by rfl)(hx:Loc X.env.scope x:=by first |exact Or.inl rfl |exact Or.inr rfl)(hf:X.fn x=true\/X.env.scope.names.lookup x=some .local:=by first |exact .inl rfl |exact .inr rfl |assumption):PG X (.Name x pos) (fU i):=fM S.nd hi hx hf
def aG(ho:cj X (compareOp op) r)(ha:PE X a ta)(hb:PE X b tb)(hm:behindInMarks op b=false:=by exact yR _):PT X (.Compare a [op] [b] pos) (wo (tOp r ta tb)):=D8 ho ha hb hm
def iO(ho:cj X (compareOp op) r)(ha:PE X a ta)(hb:PE X b tb)(hm:behindInMarks op b=false:=by exact yR _):PE X (.Compare a [op] [b] pos) (tOp r ta tb):=EF ho ha hb hm
def ce(K:PySem.W.Frag)(ha:PE X a ta)(hb:PE X b tb)(h:X.K=K:=by rfl)(hs:pD b:=by exactλ_ _=>rfl):PE X (.Subscript a b pos) (tOp (nI K) ta tb):=sW (zA h) ha hb hs
def aS(K:PySem.W.Frag)(ha:PE X a ta)(hb:PE X b tb)(h:X.K=K:=by rfl)(hs:pD b:=by exactλ_ _=>rfl):PE X (.Subscript a b pos) (tOp (sP K) ta tb):=sW (Hk h) ha hb hs
def cU(K:PySem.W.Frag)(hm:X.mg "len"=none)(ha:PA X (e::es) t)(h:X.K=K:=by rfl)(hg:Gl X "len":=by rfl)(he:starEach (e::es) X.env=(false,eval e X.env)::starEach es X.env:=by rfl)(hpl:(backTo pos (starEach es X.env)).any (·.1)=false:=by rfl):PE X (.Call (.Name "len" p) (e::es) [] pos) (tCB (yk K) t):=cM (JV h) hg hm PySem.boot_len ha (by decide) (by decide) he hpl
def ga(ho:PE X o to)(ha:PA X (e::es) t)
 (hbase:attributeBase o "append" X.env (eval o X.env)=eval o X.env:=by rfl)
 (hfew:((backTo cpos (starEach (e::es) X.env)).all (λx=>!x.1)&&(backToKw cpos (keywordEach [] X.env)).all (λx=>x.1.isSome)
   && decide ((e::es).length+([]:List Keyword).length+(if([]:List Keyword).isEmpty then 0 else 1)<30))=true:=by rfl)
 (hline:(apos.endLine == cpos.line)=true:=by rfl) (hs:starEach (e::es) X.env=(false,eval e X.env)::starEach es X.env:=by rfl) (hplain:(backTo cpos (starEach es X.env)).any (·.1)=false:=by rfl) :
 PE X (.Call (.Attribute o "append" apos) (e::es) [] cpos) (tBM X.K "list" ym to t):=EG PySem.F.plainAttrs_list PySem.F.slot_list_append PySem.F.type_list_append GC ho ha hbase hfew hline hs hplain
end
section
variable {P:Program}{w:World}{K:PySem.W.Frag}{mg:Str->Option Value}{base:Heap}{N:List Str}{qual:Str}{scope:Scope}{f:Addr}{cd:Value}{A:Around}{outer:List Env}{s:Shared}{H:Hp}{E:XK}{pins:List (Addr×Obj)}{σ:St}{H1:Hp}{s1:Shared}
end
noncomputable def kh(lo:Int)(n:Nat):It:=⟨λi _=>i<n,λi H x H'=>H'=H/\x=.int (lo+i * -1),λi _=>n<=i⟩
def BF{P:Program}{w:World}{K:PySem.W.Frag}{tg:Expr}(it:Addr)(lo:Int)(n:Nat):Turn P w K tg (kh lo n) [it] it (λi h=>IsRangeIter h it (lo+(i:Nat) * -1) ((n:Int)-(i:Nat)) (-1)) where
 mem:=by simp
 obj:=λi h st b hb=>by
  have e:b=it:=by simpa using hb
  subst e
  exact⟨_,st,λv z=>by
   have z':Data.fields _=Data.cell v:=z
   cases z'⟩
 keep:=λi h h' st k=>k it (by simp) _ st
 item:=by
  intro X hP hw hK hc i pins s σ H E I hf st hg;subst hP hw hK;obtain⟨f0,f1,f2,f3,f4,f5⟩:=hf it (by simp);have W:=Walks.range (prog:=X.prog) (w:=X.w) (I.ok.hd hc) it lo (-1) n;refine W.item i s _ _ hg st λv h' tk hv st' kk=>?_
  obtain⟨t,rfl⟩:=hv;have I1:Inv X pins σ H { s with heap:=h',toks:=tk }:=I.turned (λb o hb e=>kk b o (by simpa using hb) e) f0 f1 f3 f4 f5;exact⟨_,rfl,lT (s:={ s with heap:=h',toks:=tk }) (n:="range_iterator") st' rfl rfl (by decide) ⟨.int (lo+i * -1),H,I1,⟨t,rfl⟩,⟨rfl,rfl⟩,st',λb hb=>(hf b hb).1⟩⟩
 done:=by intro X hP hw hK hc i pins s σ H E I hf st hg;subst hP hw hK;obtain⟨f0,f1,f2,f3,f4,f5⟩:=hf it (by simp);exact wpAny_pyNext_range_end (I.ok.hd hc) st (by have:n<=i:=hg;omega) λh' eb=>⟨rfl,I.turned (t':=s.toks) (λb o hb e=>eb b o hb e) f0 f1 f3 f4 f5⟩
 self:=λ_ _ _ _ _ st h=>wpAny_pyIter_rangeiter st h
def yg(a b:Int):Builtin.Range.rangeSize a b (-1)=if b<a then a-b else 0:=by unfold Builtin.Range.rangeSize;rw[if_neg (by decide)];show(if a>b then(a-b-1)/1+1 else 0)=_;rw[Int.ediv_one];split<;>omega
def Cm{a b:Int}(ha : -(2^61)<=a)(ha':a<2^61)(hb : -(2^61)<=b)(hb':b<2^61):Builtin.Range.small a b (-1)=true:=by unfold Builtin.Range.small;rw[yg];simp only[Builtin.Range.rangeFitsLong,Bool.and_eq_true,Bool.or_eq_true,decide_eq_true_eq,beq_iff_eq,show ¬((-1:Int)>0) by decide,if_false];split<;>omega
section
variable {X:Cx}{tg:Expr}
def DT{pins:List (Addr×Obj)}{σ:St}{H:Hp}{s:Shared}{R:It->Hp->Prop}{E:Value->Shared->Prop}{lo hi:Int}{t u v:Tok}{tk:Nat}(I:Inv X pins σ H s)(h1 : -(2^61)<=lo)(h2:lo<2^61)(h3 : -(2^61)<=hi)(h4:hi<2^61)
 (q:R (kh lo (lo-hi).toNat) H):wpAny (model X.prog X.w) X.A (pyIter (.ref s.heap.objs.size)) (PIE X pins σ tg R) E { s with heap:=s.heap.push { cls:=.type "range",data:=.fields #[.int lo t,.int hi u,.int (-1) v] },toks:=tk }:=by
 refine wpAny_pyIter_range (IsRange.new ..) (Cm h1 h2 h3 h4) ?_;have I1:Inv X pins σ H { s with heap:=s.heap.push { cls:=.type "range",data:=.fields #[.int lo t,.int hi u,.int (-1) v] },toks:=tk }:=I.kept λb o e=>Heap.get?_push_of_some _ e
 refine⟨(s.heap.push { cls:=.type "range",data:=.fields #[.int lo t,.int hi u,.int (-1) v] }).objs.size,[(s.heap.push { cls:=.type "range",data:=.fields #[.int lo t,.int hi u,.int (-1) v] }).objs.size],_,_,H,rfl,
  I1.kept (t':=tk) λb o e=>Heap.get?_push_of_some _ e,BF _ lo (lo-hi).toNat,?_,λb hb=>?_,q⟩
 ·have e1:lo+((0:Nat):Int) * -1=lo:=by simp
  have e2:(((lo-hi).toNat:Nat):Int)-((0:Nat):Int)=Builtin.Range.rangeSize lo hi (-1):=by rw[yg];split<;>omega
  show IsRangeIter _ _ (lo+((0:Nat):Int) * -1) ((((lo-hi).toNat:Nat):Int)-((0:Nat):Int)) (-1);rw[e1,e2];exact Heap.get?_push_size _ rfl
 ·have e:b=(s.heap.push { cls:=.type "range",data:=.fields #[.int lo t,.int hi u,.int (-1) v] }).objs.size:=by simpa using hb
  subst e;exact I1.fpOk (MI _) (I1.hok.fresh (MI _))
def Ht(ta:TA):TI:=λσ H R=>ta σ H λvs H1=>∃i j:Int,vs=[.int i,.int j,.int (-1)]/\(-(2^61)<=i/\i<2^61 /\ -(2^61)<=j/\j<2^61)/\R (kh i (i-j).toNat) H1
def yz{a b c:Expr}{ta:TA}{p pos:Pos}(hg:Gl X "range")(hm:X.mg "range"=none)(ha:PA X [a,b,c] ta)(hs:starEach [a,b,c] X.env=[(false,eval a X.env),(false,eval b X.env),(false,eval c X.env)]:=by rfl)(hs2:starEach [b,c] X.env=[(false,eval b X.env),(false,eval c X.env)]:=by rfl) :
 PI X tg (.Call (.Name "range" p) [a,b,c] [] pos) (Ht ta):=by
 intro pins s σ H R I h;refine Call_ (gL I hg hm boot_range (PyProof.Rows.callWith_type1 (aK (ha pos pins s σ H _ I h) ?_) (by rw[hs,hs2]) (by rw[hs2];rfl)));rintro us s1 ⟨vs,H1,I1,r1,q1⟩;obtain⟨i,j,e,⟨q1,q2,q3,q4⟩,q⟩:=q1;subst e;cases r1 with
 |cons r rr =>
  cases rr with
  |cons r' rr =>
   cases rr with
   |cons r'' rr =>cases rr;obtain⟨t,rfl⟩:=r;obtain⟨t',rfl⟩:=r';obtain⟨t'',rfl⟩:=r'';exact call_range_3 (by decide) (DT I1 q1 q2 q3 q4 q) (Or.inl (PyProof.noPylong_small (by decide)))
end
def zT{lo:Int}{n:Nat}{g:TG}{tb:TS}{D:Ends}{σ:St}{H:Hp}(Pv:Nat->St->Hp->Prop)(h0:Pv 0 σ H)
 (hs:∀i σ H,i<n->Pv i σ H->g (.int (lo+i * -1)) σ H λQ3 H2=>tb { D with nx:=Pv (i+1),ct:=Pv (i+1),bk:=D.nx } Q3 H2) (hd:∀σ H,Pv n σ H->D.nx σ H) :
 ∃W:Nat->Nat->St->Hp->Prop,(∃m,W 0 m σ H)/\∀i m σ H,W i m σ H ->
  ((kh lo n).stop i H/\D.nx σ H)\/((kh lo n).go i H/\∃N:St->Hp->Prop,(∀Q2 H',N Q2 H'->∃m',m'<m/\W (i+1) m' Q2 H')/\∀x H',(kh lo n).yld i H x H'->g x σ H' λQ3 H2=>tb { D with nx:=N,ct:=N,bk:=D.nx } Q3 H2):=by
 refine⟨λi m σ H=>m=n-i/\i<=n/\Pv i σ H,⟨n,by simp,MK _,h0⟩,?_⟩;rintro i m σ H ⟨rfl,hi,p⟩;by_cases hlt:i<n
 ·refine .inr ⟨hlt,Pv (i+1),λQ2 H' p'=>⟨n-(i+1),by omega,rfl,hlt,p'⟩,λx H' y=>?_⟩;obtain⟨e,y⟩:=y;subst e y;exact hs i σ _ hlt p
 ·have e:i=n:=by omega
  subst e;exact .inl ⟨MI _,hd σ H p⟩
section
variable {X:Cx}{K:PySem.W.Frag}
end
theorem G4{P:Program}{w:World}{K:PySem.W.Frag}{mg mb:Str->Option Value}{CX:CXT}{k:Nat}{fa a:Addr}{fd:FuncData}{x:Str}{sp:Sp}{s₁:Shared}{vs:List Value}{ns:Ex}
 (KX:K.In s₁.heap) (hns:s₁.heap.Ns mainGlobals mg) (hb:s₁.heap.Ns builtinsNs mb) (hbb:∀x:Str,x≠"__name__"->mb x=bootBuiltins x) (hlim:s₁.heap.NoLimit) (hse:s₁.heap.NoSeer) (hg:s₁.gens=#[])
 (ha:s₁.heap.get? a=some { cls:=.type "list",data:=.seq vs.toArray }) (hi:IntsAre vs ns) (hl:ns.length<=sizeLine) (hr:Room k callerA)
 (F:∀base:Heap,K.In base->base.Ns mainGlobals mg->base.NoSeer->FnOk P w K mg base CX k fa fd [x] sp) (hbind:∀(s:Shared) (u:Value),BindsTo s fd ⟨[u],[]⟩ [(x,u)])
 (hsp:∀H:Hp,vG H->SqL K H a (ns.map V.int)->sp [.ref a] H (λv _=>v=.bl true) λ_ _ _=>False)
 (hCX:∀H e s',CX [] H s₁ (λ_ _ _=>False) e s'->False) :
 codeAny (model P w) callerA (.call (.ref fa) ⟨[.ref a],[]⟩) (λr s'=>r=.ok (.ret (.bool true))/\OldK s₁.heap s'.heap/\s'.os=s₁.os/\AllBare s'.gens) s₁:=by
 have rv:=wf hi;have lenV:=hi.length
 have core:∀H:Hp,vG H->SqL K H a (ns.map V.int)->HOk P w H s₁.heap->(∀b,H b≠none->b=a)->(H a≠none->K.lookup a=none) ->
  codeAny (model P w) callerA (.call (.ref fa) ⟨[.ref a],[]⟩) (λr s'=>r=.ok (.ret (.bool true))/\OldK s₁.heap s'.heap/\s'.os=s₁.os/\AllBare s'.gens) s₁:=by
  intro H hO hS hok hA hK;have base_of:∀{b:Addr} {o:Obj},s₁.heap.get? b=some o->H b=none->(gg s₁.heap H).get? b=some o:=λe n=>HF e n
  have noA:∀{b:Addr} {o:Obj} {es:Array DictEntry} {ep:Nat},s₁.heap.get? b=some o->o.data=.dict es ep->H b=none:=λ{b o es ep} e d=>by
   cases q:H b with
   |none=>rfl
   |some u =>have e':b=a:=hA b (by rw[q];simp);subst e';rw[ha]at e;cases e;have d':Data.seq vs.toArray _=Data.dict es ep:=d;cases d'
  have nsK:∀{b:Addr} {m:Str->Option Value},s₁.heap.Ns b m->(gg s₁.heap H).Ns b m:=λ{b m} ⟨o,es,ep,e,d,r⟩=>⟨o,es,ep,base_of e (noA e d),d,r⟩
  have hKb:K.In (gg s₁.heap H):=λb o e=>base_of (KX b o e) (by
   cases q:H b with
   |none=>rfl
   |some u =>
    have e':b=a:=hA b (by rw[q];simp);subst e'
    rw[hK (by rw[q];simp)]at e;cases e)
  have hM:Mod K mg (gg s₁.heap H):=⟨hKb,nsK hns,⟨mb,nsK hb,hbb⟩,let⟨mc,h1,h2⟩:=hlim;⟨mc,nsK h1,h2⟩⟩
  have hSb:(gg s₁.heap H).NoSeer:=by
   obtain⟨⟨mc,c1,c2,c3⟩,⟨mm,m1,m2⟩,⟨mb',b1,b2⟩,⟨mg',bm,ob,g1,g2,g3,g4,g5⟩⟩:=hse;refine⟨⟨mc,nsK c1,c2,c3⟩,⟨mm,nsK m1,m2⟩,⟨mb',nsK b1,b2⟩,⟨mg',bm,ob,nsK g1,g2,base_of g3 ?_,g4,g5⟩⟩;cases q:H bm with
   |none=>rfl
   |some u =>have e':bm=a:=hA bm (by rw[q];simp);rw[e',ha]at g3;cases g3;exact absurd (Value.type.inj g4) (by decide)
  have e0:Env0 P w K mg (gg s₁.heap H) callerA [] s₁ H:=⟨rfl,hM,λb o e=>Gi e,Oe (HE _ _),trivial,λb hb=>absurd (show b∈([]:List Addr)from hb) (by simp),hok,.of_eq hg⟩;refine codeAny_mono ((F _ hKb (nsK hns) hSb).run callerA [] s₁ H ⟨[.ref a],[]⟩ [.ref a] [.ref a] _ _ hr e0 (hbind s₁ (.ref a)) (.cons rfl .nil) (hsp H hO hS)) λr s' h=>?_
  cases r with
  |error e=>exact(hCX H e s' h).elim
  |ok fl =>
   cases fl with
   |next=>exact False.elim h
   |brk=>exact False.elim h
   |cont=>exact False.elim h
   |ret u =>
    obtain⟨v,H',os,bare,un,hok',r',q⟩:=h;have q':v=.bl true:=q;subst q';obtain rfl:u=Value.bool true:=r';refine⟨rfl,OldK.of_keep λb o e=>?_,os,bare⟩;cases q:H b with
    |none=>exact un.keep b o e q (by intro z;exact absurd (show b∈([]:List Addr)from z) (by simp)) (by simp)
    |some u =>
     rcases hO b with z |⟨ob,xs,z⟩
     ·rw[q]at z;cases z
     ·have z2:=un.frzs b ob _ z;obtain⟨e1,_⟩:=hok b _ z;obtain⟨e2,_⟩:=hok' b _ z2;rw[e]at e1;cases e1;exact e2
 cases hk:K.lookup a with
 |some o =>have e:=KX a o hk;rw[ha]at e;cases e;refine core (λ_=>none) (λ_=>.inl rfl) (.inr ⟨_,vs.toArray,_,hk,rfl,rfl,rfl,by rw[M5,lenV];exact hl,by simpa using rv⟩) (λb u z=>by have z':(none:Option HO)=some u:=z;cases z') (λb z=>absurd rfl z) λz=>absurd rfl z
 |none =>
  refine core (λb=>if b=a then some (.frz { cls:=.type "list",data:=.seq vs.toArray } (.lst (ns.map V.int)))else none) (λb=>?_) (.inl (.inr ⟨{ cls:=.type "list",data:=.seq vs.toArray },if_pos rfl⟩)) (λb u z=>?_) (λb z=>?_) λ_=>hk
  ·by_cases hb:b=a
   ·exact .inr ⟨_,_,if_pos hb⟩
   ·exact .inl (if_neg hb)
  ·by_cases hb:b=a
   ·have z':=(if_pos hb).symm.trans z;cases z';subst hb;exact⟨ha,by rw[MC];exact hl,vs,_,rv,ha⟩
   ·have z':=(if_neg hb).symm.trans z;cases z'
  ·by_cases hb:b=a
   ·exact hb
   ·exact absurd (if_neg hb) z
def walk_ofS{l:PySem.W.OpenLaw}{n k:Nat}{q:Program}{loose:List Str}{XP:(Str->Option Value)->Heap->Prop}{YP:World->Heap->Prop}{d:DefRec}{K:Params->PySem.W.Frag}{CX:World->CXT}{sp:World->Sp}{x:Str}
 (hi:PyProof.Rows.importsNone q=true) (hn:l.most=some n) (hn2:n<=sizeLine) (hdf:d.params.defaults=[]) (hr:Room k callerA)
 (hY:∀(w:World) (h:Heap),YP w h->(K w.params).In h)
 (F:∀(w:World) (mg:Str->Option Value) (fa:Addr) (h:Heap),(K w.params).In h->h.Ns mainGlobals mg->mg d.name=some (.ref fa) ->
   ∃fd:FuncData,(∀(s:Shared) (u:Value),BindsTo s fd ⟨[u],[]⟩ [(x,u)]) /\
    ∀base:Heap,(K w.params).In base->base.Ns mainGlobals mg->base.NoSeer->FnOk l.prog w (K w.params) mg base (CX w) k fa fd [x] (sp w))
 (hsp:∀(w:World) (H:Hp) (a:Addr) (ns:Ex),ns.length<=n->vG H->SqL (K w.params) H a (ns.map V.int)->sp w [.ref a] H (λv _=>v=.bl true) λ_ _ _=>False)
 (hCX:∀(w:World) (H:Hp) (s:Shared) (e:Value) (s':Shared),CX w [] H s (λ_ _ _=>False) e s'->False) :
 PySem.W.WalkO q loose XP YP l.row.toRowW d [] (λf vs=>PySem.call f vs):=by
 refine Att.attach_call hn hdf λw s₀ s₁ mg mb fa o pm cd doc a vs ns G Y ho hd hcd hmg hobj hints hlen hg=>?_
 have KX:=hY w _ Y;obtain⟨fd,hb,hF⟩:=F w mg fa _ KX G.T.g hmg;exact G4 KX G.T.g G.T.b G.T.builtins G.T.nolimit (G.T.seer hi) hg hobj hints (MU hlen hn2) hr hF hb (λH hO hS=>hsp w H a ns hlen hO hS) λH e s'=>hCX w H s₁ e s'
section
variable {X:Cx}{e:Env}{l:List Env}
def DD{pins:List (Addr×Obj)}{σ:St}{H:Hp}{s:Shared}(hs:X.base.NoSeer)(ht:X.prog.given.tree=none)(hd:X.A.depth+100<recursionLimit)(hst:X.stack=e::l)(h1:e.scope.isGenerator=false)(h2:e.scope.isCoroutine=false)(h3:e.builtins=builtinsNs)(h4:e.globals=mainGlobals)(I:Inv X pins σ H s):PylongRoom (model X.prog X.w) X.A s :=
 PylongRoom.of (I.ok.mod.nolimit.keeps I.bk) hd (SeerAt.of (hs.keeps I.bk) ht (by rw[I.ok.frames,hst]) h1 h2 h3 h4)
def EO(hs:X.base.NoSeer)(ht:X.prog.given.tree=none)(hd:X.A.depth+100<recursionLimit)(hst:X.stack=e::l)(h1:e.scope.isGenerator=false)(h2:e.scope.isCoroutine=false)(h3:e.builtins=builtinsNs)(h4:e.globals=mainGlobals):cj X (binaryOp .FloorDiv) (rI (λ_ j=>0<j) λi j=>.int (i/j)):=by intro pins s σ H x y v u Q I rx ry h;obtain⟨i,j,rfl,rfl,hj,q⟩:=h;obtain⟨t,rfl⟩:=rx;obtain⟨t',rfl⟩:=ry;have hj':(0:Int)<j:=hj;refine floordiv_int (M7 hj') ?_ (.inr (DD hs ht hd hst h1 h2 h3 h4 I));rw[Int.fdiv_eq_ediv_of_nonneg _ (Nd hj')];exact⟨.int (i/j),H,I.tok _,⟨_,rfl⟩,q⟩
end
def Kb(a v:Value):argsOk "max" ⟨[a],[(Str.ofString "default",v)]⟩:=by unfold argsOk;kernel_rfl
def Top(val:Nat->Int)(n:Nat)(M:Int):Prop:=(∃i,i<n/\val i=M)/\∀i,i<n->val i<=M
def Top.more{val:Nat->Int}{n:Nat}{M:Int}(h:Top val n M)(hn:val n>M):Top val (n+1) (val n) :=
 ⟨⟨n,by omega,rfl⟩,λi hi=>by
   by_cases e:i=n
   ·subst e;exact NZ _
   ·have:=h.2 i (by omega);omega⟩
def Top.less{val:Nat->Int}{n:Nat}{M:Int}(h:Top val n M)(hn:¬val n>M):Top val (n+1) M :=
 ⟨let⟨i,hi,e⟩:=h.1;⟨i,by omega,e⟩,λi hi=>by
  by_cases e:i=n
  ·subst e;omega
  ·exact h.2 i (by omega)⟩
section
variable {prog:Program}{w:World}{A:Around}{R:Result->Shared->Prop}{I S:Addr}{fp wr:List Addr}{n:Nat}{P:Nat->Value->Prop}{St:Nat->Heap->Prop}{val:Nat->Int}{d:Value}
def oC:(toString "max"++toString ".loop":String)="max.loop":=by decide
theorem GJ(W:Walks prog w A.in1 I fp wr n P St)(hval:∀i v,P i v->∃t,v=.int (val i) t)(hSf:S∉fp) :
 ∀(k j:Nat) (s:Shared) (m:Int) (t:Tok) (c:Nat),n-j=k->j<=n->St j s.heap->Top val j m ->
 s.heap.get? S=some { cls:=.type "list",dict:=none,data:=.seq #[.int m t,.int m t] c,slots:=#[] } ->
 (∀M t h' tk,Top val n M->(∀b o,b∉wr->b≠S->s.heap.get? b=some o->h'.get? b=some o)->R (.ok (.ret (.int M t))) { s with heap:=h',toks:=tk }) ->
 codeAny (model prog w) A (.builtin "max.loop" ⟨[.ref I,.none,.ref S],[("default",d)]⟩) R s:=by
 have hSw:S∉wr:=λh=>hSf (W.sub _ h)
 have cm:=CmpOf.ints_gt (prog:=prog) (w:=w) (A:=A.in1) (P:=λi v=>∃t,v=.int (val i) t) val (λ_ _ h=>h);intro k
 induction k with
 |zero =>
  intro j s m t c hk hj hst hT hS hR;have hin:j=n:=by omega
  subst hin;refine codeAny_builtin F.entry_max_loop ?_;rw[Around.under_plainId F.plain_max_loop _];refine wpAny_bind (wpAny_seqItems hS rfl ?_);show wpAny _ A.in1 (tryCatch (pyNext (.ref I)) _ >>= _) _ _ s;refine wpAny_bind (wpAny_tryCatch (W.done s _ _ hst λh' tk hk'=>?_));show wpAny _ A.in1 (updateSeq S (λ_=>#[]) >>= _) _ _ _;refine wpAny_bind (wpAny_updateSeq (hk' S _ hSw hS) rfl (wpAny_bind (wpAny_letGo (wpAny_pure ?_))));exact hR m t _ tk hT λb o hb hbS e=>(Heap.get?_update_other _ _ (Ne.symm hbS)).trans (hk' b o hb e)
 |succ k ih =>
  intro j s m t c hk hj hst hT hS hR;have hlt:j<n:=by omega
  refine codeAny_builtin F.entry_max_loop ?_;rw[Around.under_plainId F.plain_max_loop _];refine wpAny_bind (wpAny_seqItems hS rfl ?_);show wpAny _ A.in1 (tryCatch (pyNext (.ref I)) _ >>= _) _ _ s;refine wpAny_bind (wpAny_tryCatch (W.item j s _ _ hlt hst λv h' tk hP hst' hk'=>?_));have hS':=hk' S _ hSw hS;obtain⟨u,rfl⟩:=hval j v hP;obtain⟨i0,_,e0⟩:=hT.1;show wpAny _ A.in1 (tryCatch (holding [_,_] (richCompare .Gt (.int (val j) u) (.int m t) >>= _)) _ >>= _) _ _ _;refine wpAny_bind (wpAny_tryCatch (wpAny_holding (wpAny_bind (cm j i0 _ _ _ _ _ ⟨u,rfl⟩ ⟨t,by rw[e0]⟩ ?_))));refine wpAny_bind (wpAny_holding (wpAny_truthy_bool ?_));refine wpAny_bind (wpAny_letGo (wpAny_pure ?_));show wpAny _ A.in1 (if decide (val j>val i0)=true then _ else _) _ _ _;rw[e0];by_cases hb:val j>m
  ·rw[decide_eq_true hb];simp only[if_true];refine wpAny_bind ?_;refine wpAny_updateSeq hS' rfl (wpAny_bind (wpAny_letGo ?_));rw[oC];refine wpAny_pure ⟨plainId_quiet F.plain_max_loop _,ih (j+1) _ (val j) u _ (by omega) hlt (W.frame _ _ _ hst' λb hbf o e=>?_) (hT.more hb) (Heap.get?_update_self _ hS' rfl) λM t' h'' tk'' hM hk''=>?_⟩
   ·exact(Heap.get?_update_other _ _ (λh:S=b=>hSf (h ▸ hbf))).trans e
   ·exact hR M t' h'' tk'' hM λb o hbw hbS e=>hk'' b o hbw hbS ((Heap.get?_update_other _ _ (Ne.symm hbS)).trans (hk' b o hbw e))
  ·rw[decide_eq_false hb];simp only[Bool.false_eq_true,if_false];refine wpAny_bind (wpAny_letGo ?_);rw[oC];refine wpAny_pure ⟨plainId_quiet F.plain_max_loop _,ih (j+1) _ m t c (by omega) hlt hst' (hT.less hb) hS' λM t' h'' tk'' hM hk''=>?_⟩;exact hR M t' h'' tk'' hM λb o hbw hbS e=>hk'' b o hbw hbS (hk' b o hbw e)
def GK(W:Walks prog w A.in1 I fp wr n P St)(hval:∀i v,P i v->∃t,v=.int (val i) t)(hSf:S∉fp){s:Shared}{c:Nat}(hst:St 0 s.heap)
 (hS:s.heap.get? S=some { cls:=.type "list",dict:=none,data:=.seq #[] c,slots:=#[] })
 (h0:n=0->∀h' tk,(∀b o,b∉wr->b≠S->s.heap.get? b=some o->h'.get? b=some o)->R (.ok (.ret d)) { s with heap:=h',toks:=tk })
 (hR:∀M t h' tk,Top val n M->(∀b o,b∉wr->b≠S->s.heap.get? b=some o->h'.get? b=some o)->R (.ok (.ret (.int M t))) { s with heap:=h',toks:=tk }) :
 codeAny (model prog w) A (.builtin "max.loop" ⟨[.ref I,.none,.ref S],[("default",d)]⟩) R s:=by
 have hSw:S∉wr:=λh=>hSf (W.sub _ h)
 refine codeAny_builtin F.entry_max_loop ?_;rw[Around.under_plainId F.plain_max_loop _];refine wpAny_bind (wpAny_seqItems hS rfl ?_);show wpAny _ A.in1 (tryCatch (pyNext (.ref I)) _ >>= _) _ _ s;by_cases hn:n=0
 ·subst hn;refine wpAny_bind (wpAny_tryCatch (W.done s _ _ hst λh' tk hk'=>?_));refine wpAny_bind (wpAny_rule (wpAny_pure ?_));exact h0 rfl h' tk λb o hb _ e=>hk' b o hb e
 ·refine wpAny_bind (wpAny_tryCatch (W.item 0 s _ _ (by omega) hst λv h' tk hP hst' hk'=>?_));have hS':=hk' S _ hSw hS;obtain⟨u,rfl⟩:=hval 0 v hP;show wpAny _ A.in1 (updateSeq S (λ_=>#[.int (val 0) u,.int (val 0) u]) >>= _) _ _ _;refine wpAny_bind (wpAny_updateSeq hS' rfl ?_);rw[oC];refine wpAny_pure ⟨plainId_quiet F.plain_max_loop _,GJ W hval hSf _ 1 _ (val 0) u _ rfl (by omega) (W.frame _ _ _ hst' λb hbf o e=>?_) ⟨⟨0,by omega,rfl⟩,λi hi=>?_⟩ (Heap.get?_update_self _ hS' rfl) λM t h'' tk'' hM hk''=>?_⟩
  ·exact(Heap.get?_update_other _ _ (λh:S=b=>hSf (h ▸ hbf))).trans e
  ·have:i=0:=by omega
   subst this;exact NZ _
  ·exact hR M t h'' tk'' hM λb o hbw hbS e=>hk'' b o hbw hbS ((Heap.get?_update_other _ _ (Ne.symm hbS)).trans (hk' b o hbw e))
end
section
variable {prog:Program}{w:World}{A:Around}{E:Value->Shared->Prop}{s:Shared}{l:Addr}{xs:Array (Int×Tok)}{d:Value}
theorem JS{Q:Value->Shared->Prop}(hh:A.handled=none)(hl:s.heap.IsList l (intItems xs))
 (h0:xs.size=0->∀h' tk,(∀b o,s.heap.get? b=some o->h'.get? b=some o)->Q d { s with heap:=h',toks:=tk })
 (h:∀M t h' tk,Top (numAt xs) xs.size M->(∀b o,s.heap.get? b=some o->h'.get? b=some o)->Q (.int M t) { s with heap:=h',toks:=tk }) :
 wpAny (model prog w) A (call (.builtin "max") [.ref l] [("default",d)]) Q E s:=by
 refine wpAny_call (codeAny_call_builtin F.plain_max F.entry_max ?_);simp only[checkBuiltinCall,F.kind_max]
 have key:wpAny (model prog w) A.in1 (Builtin.«max» ⟨[.ref l],[("default",d)]⟩) (λfin s'=>match fin with
  |.done f=>(match(Except.ok f:Result)with |.ok (.ret v)=>Q v s' |.ok _=>False |.error e=>E e s')
  |.again c'=>c'.quiet=true/\codeAny (model prog w) A c' (λr s'=>match r with |.ok (.ret v)=>Q v s' |.ok _=>False |.error e=>E e s') s') E s:=by
  show wpAny _ A.in1 (Builtin.Builtins.bindParams "max" ["key","default"] 0 ⟨[],[("default",d)]⟩ >>= _) _ _ s;refine wpAny_bind (wpAny_of_eq (show Builtin.Builtins.bindParams "max" ["key","default"] 0 ⟨[],[("default",d)]⟩=pure [none,some d]from rfl) ?_);refine wpAny_bind (wpAny_pure ?_);refine wpAny_bind (iter_intList hl λs₂ e st hfp hlI=>?_);subst e;refine wpAny_bind (wpAny_newObj_type ?_);rw[oC];have W:=Walks.list (prog:=prog) (w:=w) (A:=A.in1) hh _ l hlI (intItems xs);have sz:(intItems xs).size=xs.size:=by simp[intItems]
  refine wpAny_pure ⟨plainId_quiet F.plain_max_loop _,GK W (val:=numAt xs) (λi v=>intItems_at) (λhm=>NF _ (hfp _ hm)) (W.frame _ _ _ st λb _ o e=>Heap.get?_push_of_some _ e) (Heap.get?_push_size _ rfl) (λhn h' tk hk=>?_) λM t h' tk hM hk=>?_⟩
  ·exact h0 (sz ▸ hn) h' tk (old_kept λb o hb e=>hk b o hb (Nb (Heap.lt_size e)) (Heap.get?_push_of_some _ e))
  ·exact h M t h' tk (sz ▸ hM) (old_kept λb o hb e=>hk b o hb (Nb (Heap.lt_size e)) (Heap.get?_push_of_some _ e))
 cases hsig:Manifest.signature? "max" with
 |none=>exact wpAny_pure key
 |some sig =>
  have ha':Bind.checkArgs "max" sig ⟨[.ref l],[("default",d)]⟩=pure ():=by simpa only[argsOk,hsig]using Kb (.ref l) d
  simp only[ha'];exact wpAny_pure key
end
def yj(K:PySem.W.Frag):R2:=λx y H Q=>∃(p:Addr) (ns:Ex),x=.ref p/\SqL K H p (ns.map V.int)/\(ns=[]->Q y H)/\∀M,M∈ns->(∀a∈ns,a<=M)->Q (.int M) H
theorem zE:∀{ns:Ex} {us:List Value},Vals (ns.map V.int) us->∃ts:List (Int×Tok),us.toArray=intItems ts.toArray/\ts.map (·.1)=ns
 | [],_,h=>by cases h;exact⟨[],by simp[intItems],rfl⟩
 |n::ns,_,h=>by
  cases h with
  |cons r rr =>obtain⟨t,rfl⟩:=r;obtain⟨ts,e1,e2⟩:=zE rr;refine⟨(n,t)::ts,?_,by rw[Oc,e2]⟩;have e3:=congrArg Array.toList e1;simp only[intItems,List.map_toArray]at e3 ⊢;simpa using e3
def BT{ts:List (Int×Tok)}{M:Int}(h:Top (numAt ts.toArray) ts.toArray.size M):M∈ts.map (·.1)/\∀a∈ts.map (·.1),a<=M:=by
 have g:∀(i:Nat) (hi:i<ts.length),numAt ts.toArray i=(ts[i]).1:=λi hi=>by simp[numAt,hi]
 obtain⟨⟨i,hi,e⟩,h2⟩:=h;have hi':i<ts.length:=by simpa using hi
 constructor
 ·rw[<- e,g i hi'];exact M8.mpr ⟨_,NM hi',rfl⟩
 ·intro a ha;obtain⟨p,hp,rfl⟩:=M8.mp ha;obtain⟨j,hj,rfl⟩:=List.getElem_of_mem hp;rw[<- g j hj];exact h2 j (by simpa using hj)
section
variable {X:Cx}{K:PySem.W.Frag}{e ed:Expr}{ta td:TE}{p pos kp:Pos}
theorem ED(hK:X.K=K)(hc:X.calm=true)(hg:Gl X "max")(hm:X.mg "max"=none)(ha:PE X e ta)(hd:PE X ed td)
 (he:starEach [e] X.env=(false,eval e X.env)::starEach [] X.env:=by rfl):PE X (.Call (.Name "max" p) [e] [⟨some "default",ed,kp⟩] pos) (tOp (yj K) ta td):=by
 subst hK;intro pins s σ H Q I h;refine wpAny_Call_Name_kw (gL I hg hm boot_max ?_ (by decide) (by decide));refine callWith_kw (aK (ac ha ad he pos pins s σ H (λvs H1=>match vs with | [x]=>td σ H1 λy H2=>yj X.K x y H2 Q |_=>False) I h) ?_) (by rw[he];rfl) (by rw[he];rfl) rfl rfl;rintro us s1 ⟨vs,H1,I1,r1,q1⟩
 obtain⟨x,rfl⟩:∃x,vs=[x]:=by
  match vs,q1 with
  | [x],_=>exact⟨x,rfl⟩
 obtain⟨u,rfl,ru⟩:=gU r1;refine kws_cons (aK (hd pins s1 σ H1 _ I1 q1) λv s2 ⟨y,H2,I2,ry,q2⟩=>kws_nil ?_);obtain⟨a,ns,rfl,hq,k0,k1⟩:=q2;cases ru;obtain⟨its,r',pl,hz⟩:=I2.list hq;obtain⟨ts,e1,e2⟩:=zE r';have il:=pl.isList;rw[e1]at il;refine JS (I2.ok.hd hc) il (λh0 h' tk k=>⟨y,H2,I2.kept k,ry,k0 ?_⟩) λM t h' tk hM k=>⟨.int M,H2,I2.kept k,⟨t,rfl⟩,?_⟩
 ·have:ts=[]:=by simpa using h0
  rw[<- e2,this];rfl
 ·obtain⟨m1,m2⟩:=BT hM;rw[e2]at m1 m2;exact k1 M m1 m2
end
theorem AR:∀{bs:List Bool} {us:List Value},Vals (bs.map V.bl) us->us=bs.map Value.bool
 | [],_,h=>by cases h;rfl
 |b::bs,_,h=>by
  cases h with
  |cons r rr =>cases r;rw[AR rr];rfl
def Kf(bs:List Bool):(List.range bs.length).any (λi=>bs.getD i false)=bs.any id:=by
 rw[Bool.eq_iff_iff,List.any_eq_true,List.any_eq_true];constructor
 ·rintro⟨i,hi,e⟩;have hi':=List.mem_range.mp hi;refine⟨bs[i],NM hi',?_⟩;simpa[List.getD,List.getElem?_eq_getElem hi']using e
 ·rintro⟨b,hb,e⟩;obtain⟨i,hi,rfl⟩:=List.getElem_of_mem hb;refine⟨i,List.mem_range.mpr hi,?_⟩;simpa[List.getD,List.getElem?_eq_getElem hi]using e
def JX{X:Cx}{K:PySem.W.Frag}(hK:X.K=K)(hc:X.calm=true):eR X (.builtin "any") (λxs H Q=>∃(p:Addr) (bs:List Bool),xs=[.ref p]/\SqL K H p (bs.map V.bl)/\Q (.bl (bs.any id)) H):=by
 subst hK;intro pins s σ H xs us Q I r h;obtain⟨p,bs,rfl,hq,q⟩:=h;obtain⟨u,rfl,rx⟩:=gU r;cases rx;obtain⟨its,r',pl,hz⟩:=I.list hq;have e:=AR r';subst e;have hl:=pl.isList;have hlt:p<s.heap.objs.size:=by obtain⟨_,e,_⟩:=hl;exact Heap.lt_size e
 refine call_any_walk (wpAny_pyIter_list hl ?_);refine⟨_,_,_,_,_,_,λi=>bs.getD i false,rfl,Walks.list (A:=X.A.in1) (I.ok.hd hc) _ p (Nb hlt) _,⟨⟨_,Heap.get?_push_size _ rfl,rfl,rfl⟩,hl.push _⟩,λi v s' Q' E' hP hQ=>?_,λh' tk hk=>?_⟩
 ·have e:v=.bool (bs.getD i false):=by have hP':((bs.map Value.bool).toArray)[i]?=some v:=hP;simp only[List.getElem?_toArray,List.getElem?_map,Option.map_eq_some_iff]at hP';obtain⟨b,hb,rfl⟩:=hP';simp[List.getD,hb]
  subst e;exact wpAny_truthy_bool hQ
 ·refine⟨.bl (bs.any id),H,I.kept (old_kept hk),?_,q⟩;show Value.bool _=Value.bool _;rw[<- Kf bs];simp
section
variable {X:Cx}
end
theorem zD:∀{ns:Ex} {us:List Value},Vals (ns.map V.int) us->∃l:List (Int×Tok),us=l.map (λp=>Value.int p.1 p.2)/\l.map (·.1)=ns
 | [],_,h=>by cases h;exact⟨[],rfl,rfl⟩
 |n::ns,_,h=>by
  cases h with
  |cons r rr =>obtain⟨t,rfl⟩:=r;obtain⟨l,rfl,e⟩:=zD rr;exact⟨(n,t)::l,rfl,by rw[Oc,e]⟩
theorem yq:∀(l:List (Int×Tok)) (n:Nat),n<=l.length->preSum (numAt l.toArray) n=((l.take n).map (·.1)).sum
 |l,0,_=>rfl
 |l,n+1,h=>by rw[preSum,yq l n (by omega),NG,List.getElem?_eq_getElem (by omega)];unfold numAt;rw[List.getElem?_toArray,List.getElem?_eq_getElem (by omega),Option.toList_some,Nc,List.sum_append];show _=_+(l[n].1+0);rw[Nv];rfl
def JR{X:Cx}{K:PySem.W.Frag}(hK:X.K=K)(hc:X.calm=true):eR X (.builtin "sum") (λxs H Q=>∃(p:Addr) (ns:Ex),xs=[.ref p]/\SqL K H p (ns.map V.int)/\Q (.int ns.sum) H):=by
 subst hK;intro pins s σ H xs us Q I r h;obtain⟨p,ns,rfl,hq,q⟩:=h;obtain⟨u,rfl,rx⟩:=gU r;cases rx;obtain⟨its,r',pl,hz⟩:=I.list hq;obtain⟨l,rfl,e⟩:=zD r'
 have hl:s.heap.IsList p (intItems l.toArray):=by
  have h1:=pl.isList;have e2:(l.map (λp=>Value.int p.1 p.2)).toArray=intItems l.toArray:=by unfold intItems;simp
  rw[<- e2];exact h1
 refine sum_intListG (I.ok.hd hc) hl λh' tk t' hk=>⟨.int ns.sum,H,I.kept hk,⟨t',?_⟩,q⟩
 have e3:preSum (numAt l.toArray) l.toArray.size=ns.sum:=by rw[M5,yq l l.length (MI _),NU,e]
 rw[e3]
structure CalE(P:Program)(w:World)(K:PySem.W.Frag)(mg:Str->Option Value)(base:Heap)(k:Nat)(x:Str)(ps:List Str)(sp:Sp)(f:Addr)(fd:FuncData)(ds:List Value)(dvs:List V):Prop where
 ok:FnOk P w K mg base aD k f fd ps sp
 mg:mg x=some (.ref f)
 kp:PySem.W.keepIn K (.ref f)=true
 bn:Binds K fd ps []
 bd:Binds K fd ps ds
 vd:Vals dvs ds
section
variable {X:Cx}{K:PySem.W.Frag}
end
section
variable {X:Cx}{K:PySem.W.Frag}
end
section
variable {prog:Program}{w:World}{A:Around}{E:Value->Shared->Prop}{s:Shared}
end
section
variable {X:Cx}{K:PySem.W.Frag}
end
section
variable {X:Cx}{own fr:List Str}{js:List Nat}{scope:Scope}{cl:List (Str×Addr)}{elt target iter:Expr}{pos:Pos}{wi:TI}{g:TG}{te:TE}{cond:Expr}{tt:TT}
end
section
variable {prog:Program}{w:World}{A:Around}{E:Value->Shared->Prop}{s:Shared}
end
section
variable {X:Cx}{tg:Expr}
end
variable {X:Cx}
structure PSz(X:Cx)(st:List Stmt)(t:TS):Prop where
 h:PSs X st t
section
variable {X:Cx}{i:Nat}{x:Str}{a:Expr}{ta:TE}{es:List Expr}{xs:List Str}{rest:List Stmt}{u:TS}{pos pos' pos2 pos3:Pos}
def D9{st:List Stmt}{t:TS}(h:PSs X st t):PSz X st t:=⟨h⟩
end
section
variable {P:Program}{w:World}{K:PySem.W.Frag}{mg:Str->Option Value}{base:Heap}
def Fun.okZ{x qual:Str}{st:Stmt}{f:Addr}{fd:FuncData}{N ps:List Str}{k:Nat}{sp:Sp}(F:Fun K x qual st f fd)(S:FnScope N ps (aC st))(len:∀vs H Q E,sp vs H Q E->vs.length=ps.length)
 (hbody:∀(cdv:Value) (A:Around) (outer:List Env) (s:Shared) (H:Hp) (vs:List V) (Q:VK) (E:XK),Room k (A.deeper (envOfC qual (aC st) s.heap.objs.size f cdv))->sp vs H Q E ->
   ∃t,PSz (ii aD P w K mg base N qual (aC st) f cdv A outer s H E).nox (dQ st) t/\t { nx:=λ_ H'=>Q .non H',rt:=Q } (start N vs) H):FnOk P w K mg base aD (k+1) f fd ps sp :=
 F.ok S len λcdv A outer s H vs Q E hr hsp=>(hbody cdv A outer s H vs Q E hr hsp).elim λt h=>⟨t,h.1.h,h.2⟩
end
section
variable {X:Cx}{K:PySem.W.Frag}
end
end L2
namespace RM
noncomputable def cf(l:Ex)(k:Nat):Int:=l.getD k 0
def cI(k:Nat):cf [] k=0:=by simp[cf]
def AK(x:Int)(l:Ex):cf (x::l) 0=x:=rfl
def oW(x:Int)(l:Ex)(k:Nat):cf (x::l) (k+1)=cf l k:=rfl
def cC{l:Ex}{k:Nat}(h:l.length<=k):cf l k=0:=by unfold cf;rw[List.getD,List.getElem?_eq_none_iff.mpr h];rfl
def dR{l:Ex}{k:Nat}(h:k<l.length):cf l k=l[k]:=by unfold cf;rw[List.getD,List.getElem?_eq_getElem h];rfl
def vc{l:Ex}{k:Nat}{x:Int}(h:l[k]?=some x):cf l k=x:=by unfold cf;rw[List.getD,h];rfl
def iV{l:Ex}{k:Nat}(h:k<l.length):l[k]?=some (cf l k):=by rw[dR h,List.getElem?_eq_getElem h]
def JM{l r:Ex}{k:Nat}(h:k<l.length):cf (l++r) k=cf l k:=by unfold cf;rw[List.getD,List.getD,List.getElem?_append_left h]
def o8{l r:Ex}{k:Nat}(h:l.length<=k):cf (l++r) k=cf r (k-l.length):=by unfold cf;rw[List.getD,List.getD,List.getElem?_append_right h]
def mi{l:Ex}{j k:Nat}{x:Int}(h:j<l.length):cf (l.set j x) k=if k=j then x else cf l k:=by
 unfold cf;rw[List.getD,List.getD,List.getElem?_set];by_cases e:j=k
 ·subst e;simp[h]
 ·rw[if_neg e,if_neg (λz=>e z.symm)]
def oY(n k:Nat):cf (List.replicate n 0) k=0:=by unfold cf;rw[List.getD,List.getElem?_replicate];split<;>rfl
def mj(f:Nat->Int)(n k:Nat):cf ((List.range n).map f) k=if k<n then f k else 0:=by
 unfold cf;rw[List.getD,List.getElem?_map];by_cases h:k<n
 ·rw[if_pos h,List.getElem?_range h];rfl
 ·rw[if_neg h,List.getElem?_eq_none_iff.mpr (by simpa using h)];rfl
def iY{a b:Ex}(hl:a.length=b.length)(h:∀k,k<a.length->cf a k=cf b k):a=b:=by apply List.ext_getElem hl;intro k h1 h2;rw[<- dR h1,<- dR h2];exact h k h1
noncomputable def trim(l:Ex):Ex:=(l.reverse.dropWhile (· == 0)).reverse
def mG(l:Ex):trim (l++[0])=trim l:=by unfold trim;rw[OM];rfl
def ko(l:Ex){x:Int}(h:x≠0):trim (l++[x])=l++[x]:=by unfold trim;rw[OM];show((x::l.reverse).dropWhile (· == 0)).reverse=_;rw[List.dropWhile_cons_of_neg (by simpa using h)];simp
def Tr(l:Ex):Prop:=∀n,l.length=n+1->cf l n≠0
def dz(l:Ex):l=[]\/∃r x,l=r++[x]:=by
 cases h:l.reverse with
 |nil=>left;simpa using h
 |cons x r=>right;exact⟨r.reverse,x,by rw[<- List.reverse_reverse l,h];simp⟩
def o7(r:Ex)(x:Int):cf (r++[x]) r.length=x:=by rw[o8 (MI _),N0];rfl
def BQ:Tr []:=λn h=>by simp at h
def tr_snoc{r:Ex}{x:Int}:Tr (r++[x])↔x≠0:=by
 constructor
 ·intro h;have:=h r.length (by simp)
  rwa [o7]at this
 ·intro h n hn;have e:n=r.length:=by simp at hn;omega
  subst e
  rwa [o7]
theorem mF:∀(n:Nat) (l:Ex),l.length=n->Tr (trim l)/\(trim l).length<=l.length/\∀k,cf (trim l) k=cf l k
 |0,l,h=>by have:l=[]:=ON.mp h;subst this;exact⟨BQ,MI _,λ_=>rfl⟩
 |n+1,l,h=>by
  rcases dz l with rfl |⟨r,x,rfl⟩
  ·simp at h
  ·by_cases hx:x=0
   ·subst hx;obtain⟨h1,h2,h3⟩:=mF n r (by simpa using h);rw[mG];refine⟨h1,by rw[MY];exact MU h2 (Nat.le_add_right _ _),λk=>?_⟩;rw[h3];by_cases hk:k<r.length
    ·rw[JM hk]
    ·rw[o8 (NT hk),cC (NT hk)];cases e:k-r.length with
     |zero=>rfl
     |succ j=>rw[oW,cI]
   ·rw[ko r hx];exact⟨tr_snoc.mpr hx,MI _,λ_=>rfl⟩
def fD(l:Ex):Tr (trim l):=(mF _ l rfl).1
def ub(l:Ex):(trim l).length<=l.length:=(mF _ l rfl).2.1
def fW(l:Ex)(k:Nat):cf (trim l) k=cf l k:=(mF _ l rfl).2.2 k
def BM{l:Ex}(h:Tr l):trim l=l:=by
 rcases dz l with rfl |⟨r,x,rfl⟩
 ·rfl
 ·exact ko r (tr_snoc.mp h)
def jX{a b:Ex}(ha:Tr a)(hb:Tr b)(h:∀k,cf a k=cf b k):a=b:=by
 have le:∀{a b:Ex},Tr a->(∀k,cf a k=cf b k)->a.length<=b.length:=λ{a b} ha h=>by
  cases e:a.length with
  |zero=>exact MK _
  |succ n =>apply Classical.byContradiction;intro hn;exact ha n e (by rw[h n,cC (by omega)])
 have hl:a.length=b.length:=Nat.le_antisymm (le ha h) (le hb λk=>(h k).symm);exact iY hl λk _=>h k
def BK{l:Ex}{n:Nat}(hn:n<l.length)(h:cf l n=0):trim (l.take (n+1))=trim (l.take n):=by rw[NG,iV hn,h];exact mG _
def BL{l:Ex}{n:Nat}(hn:n<l.length)(h:cf l n≠0):trim (l.take (n+1))=l.take (n+1):=by rw[NG,iV hn];exact ko _ h
noncomputable def gK(f:Int)(a b:Ex):Ex:=(List.range (max a.length b.length)).map λk=>cf a k+f*cf b k
def ke(f:Int)(a b:Ex)(k:Nat):cf (gK f a b) k=cf a k+f*cf b k:=by
 unfold gK;rw[mj];by_cases h:k<max a.length b.length
 ·rw[if_pos h]
 ·have h1:a.length<=k:=by omega
  have h2:b.length<=k:=by omega
  rw[if_neg h,cC h1,cC h2];simp
noncomputable def fB(a b:Ex):Ex:=trim (gK 1 a b)
noncomputable def cQ(a b:Ex):Ex:=trim (gK (-1) a b)
noncomputable def tm(a b:Ex)(n i:Nat):Int:=if i<=n then cf a i*cf b (n-i)else 0
noncomputable def sm(a b:Ex)(n:Nat):Nat->Int
 |0=>0
 |j+1=>sm a b n j+tm a b n j
noncomputable def aH(a b:Ex)(n:Nat):Int:=sm a b n a.length
noncomputable def aw(a b:Ex):Ex:=if a=[]\/b=[]then[]else(List.range (a.length+b.length-1)).map (aH a b)
def BU{a b:Ex}{n i:Nat}(h:a.length<=i):tm a b n i=0:=by
 unfold tm;split
 ·rw[cC h,NN]
 ·rfl
def mH{a b:Ex}{n i:Nat}(h:b.length<=n-i):tm a b n i=0:=by
 unfold tm;split
 ·rw[cC h,Nk]
 ·rfl
theorem kB{a b:Ex}{n:Nat}:∀{j:Nat},(∀i,i<j->tm a b n i=0)->sm a b n j=0
 |0,_=>rfl
 |j+1,h=>by rw[sm,kB λi hi=>h i (Nat.lt_succ_of_lt hi),h j (NR _)];rfl
def yZ{a b:Ex}{n:Nat}(h:a.length+b.length<=n+1):aH a b n=0:=by apply kB;intro i hi;exact mH (by omega)
def tD{a b:Ex}{la lb:Nat}(ha:a.length=la+1)(hb:b.length=lb+1):aH a b (la+lb)=cf a la*cf b lb:=by unfold aH;rw[ha,sm,kB λi hi=>mH (by omega)];unfold tm;rw[if_pos (Nat.le_add_right _ _),Nat.add_sub_cancel_left,NC]
def aW(a b:Ex)(n:Nat):cf (aw a b) n=aH a b n:=by
 unfold aw;by_cases h:a=[]\/b=[]
 ·rw[if_pos h,cI]
  symm
  apply kB;intro i hi;rcases h with rfl |rfl
  ·simp at hi
  ·exact mH (MK _)
 ·rw[if_neg h,mj];by_cases hn:n<a.length+b.length-1
  ·rw[if_pos hn]
  ·rw[if_neg hn,yZ (by omega)]
def gW{a b:Ex}(ha:Tr a)(hb:Tr b):Tr (aw a b):=by
 intro n hn;rw[aW];by_cases h:a=[]\/b=[]
 ·unfold aw at hn;rw[if_pos h]at hn;simp at hn
 ·have h1:a≠[]:=λz=>h (.inl z)
  have h2:b≠[]:=λz=>h (.inr z)
  obtain⟨la,ea⟩:∃la,a.length=la+1:=⟨a.length-1,by have:=MR.mpr h1;omega⟩;obtain⟨lb,eb⟩:∃lb,b.length=lb+1:=⟨b.length-1,by have:=MR.mpr h2;omega⟩;unfold aw at hn
  rw[if_neg h,MC,Ny]at hn;have e:n=la+lb:=by omega
  subst e;rw[tD ea eb];exact Na (ha la ea) (hb lb eb)
def y4{a b acc:Ex}{j k:Nat}(hj:j<a.length)(hk:k<b.length)(hl:j+k<acc.length)
 (h:∀n,n<acc.length->cf acc n=sm a b n j+(if j<=n/\n-j<k then tm a b n j else 0)) :
 ∀n,n<(acc.set (j+k) (cf acc (j+k)+cf a j*cf b k)).length->cf (acc.set (j+k) (cf acc (j+k)+cf a j*cf b k)) n=sm a b n j+(if j<=n/\n-j<k+1 then tm a b n j else 0):=by
 intro n hn;rw[Oo]at hn;rw[mi hl];by_cases e:n=j+k
 ·subst e;rw[if_pos rfl,h _ hl,if_neg (by omega),if_pos ⟨by omega,by omega⟩];unfold tm;rw[if_pos (by omega),Nat.add_sub_cancel_left,Nv]
 ·rw[if_neg e,h n hn]
  congr 1
  by_cases h1:j<=n/\n-j<k
  ·rw[if_pos h1,if_pos ⟨h1.1,by omega⟩]
  ·rw[if_neg h1,if_neg (by omega)]
def y7{a b acc:Ex}{j:Nat}(h:∀n,n<acc.length->cf acc n=sm a b n j+(if j<=n/\n-j<b.length then tm a b n j else 0)):∀n,n<acc.length->cf acc n=sm a b n (j+1):=by
 intro n hn;rw[h n hn,sm]
 congr 1
 by_cases h1:j<=n/\n-j<b.length
 ·rw[if_pos h1]
 ·rw[if_neg h1];by_cases h2:j<=n
  ·rw[mH (by omega)]
  ·unfold tm;rw[if_neg h2]
def y6{a b acc:Ex}{j:Nat}(h:∀n,n<acc.length->cf acc n=sm a b n j):∀n,n<acc.length->cf acc n=sm a b n j+(if j<=n/\n-j<0 then tm a b n j else 0):=by intro n hn;rw[if_neg (by omega),Nv];exact h n hn
def za{a b acc:Ex}(hl:a.length+b.length<=acc.length+1)(h:∀n,n<acc.length->cf acc n=sm a b n a.length)(n:Nat):cf acc n=aH a b n:=by
 by_cases hn:n<acc.length
 ·exact h n hn
 ·rw[cC (NT hn),yZ (by omega)]
def Ki(a b:Ex):trim ((List.range (max a.length b.length)).map λk=>cf a k+cf b k)=fB a b:=by
 unfold fB gK
 congr 2;funext k;rw[M9]
def Ca(a b:Ex):trim ((List.range (max a.length b.length)).map λk=>cf a k-cf b k)=cQ a b:=by
 unfold cQ gK
 congr 2;funext k;omega
noncomputable def dv(t b:Int):Int:=if b<0 then -((Nat.gcd t.natAbs b.natAbs:Nat):Int)else((Nat.gcd t.natAbs b.natAbs:Nat):Int)
noncomputable def rt(t b:Int):Int:=t.fdiv (dv t b)
noncomputable def rb(t b:Int):Int:=b.fdiv (dv t b)
def jW{t b:Int}(hb:b≠0):0<Nat.gcd t.natAbs b.natAbs:=Nat.gcd_pos_of_pos_right _ (N3.mpr hb)
def oT{t b:Int}(hb:b≠0):dv t b≠0:=by have:=@jW t b hb;unfold dv;split<;>omega
def iZ(t b:Int):(dv t b).natAbs=Nat.gcd t.natAbs b.natAbs:=by unfold dv;split<;>omega
def Js(t b:Int):dv t b∣t:=OO.mp (by rw[iZ];exact N4 _ _)
def Jr(t b:Int):dv t b∣b:=OO.mp (by rw[iZ];exact Ov _ _)
def zY{a d:Int}(hd:d≠0)(h:d∣a):d*a.fdiv d=a:=by obtain⟨c,rfl⟩:=h;rw[Int.mul_fdiv_cancel_left c hd]
def jH{t b:Int}(hb:b≠0):dv t b*rt t b=t:=zY (oT hb) (Js t b)
def iH{t b:Int}(hb:b≠0):dv t b*rb t b=b:=zY (oT hb) (Jr t b)
def df{t b:Int}(hb:b≠0):0<rb t b:=by
 have h1:=@iH t b hb;have h2:=@jW t b hb;by_cases hn:b<0
 ·have hd:dv t b<0:=by unfold dv;rw[if_pos hn];omega
  apply Classical.byContradiction;intro h;have:0<=dv t b*rb t b:=Int.mul_nonneg_of_nonpos_of_nonpos (Nd hd) (by omega);omega
 ·have hd:0<dv t b:=by unfold dv;rw[if_neg hn];omega
  apply Classical.byContradiction;intro h;have:dv t b*rb t b<=0:=Int.mul_nonpos_of_nonneg_of_nonpos (Nd hd) (by omega);omega
def jM{t b:Int}(hb:b≠0):Nat.gcd (rt t b).natAbs (rb t b).natAbs=1:=by
 have h1:t.natAbs=Nat.gcd t.natAbs b.natAbs*(rt t b).natAbs:=by rw[<- iZ,<- MW,jH hb]
 have h2:b.natAbs=Nat.gcd t.natAbs b.natAbs*(rb t b).natAbs:=by rw[<- iZ,<- MW,iH hb]
 have hp:=@jW t b hb
 have e:Nat.gcd t.natAbs b.natAbs=Nat.gcd t.natAbs b.natAbs*Nat.gcd (rt t b).natAbs (rb t b).natAbs:=by rw[<- Nat.gcd_mul_left,<- h1,<- h2]
 exact(O3 hp (by rw[Nat.mul_one];exact e)).symm
def fJ{t b:Int}(hb:b≠0):rt t b*b=t*rb t b:=by
 have e1:=@jH t b hb;have e2:=@iH t b hb
 calc rt t b*b=rt t b*(dv t b*rb t b):=by rw[e2]
  _=(dv t b*rt t b)*rb t b:=by rw[<- OD,No (rt t b)]
  _=t*rb t b:=by rw[e1]
def xY{t b:Int}(hb:b≠0):(rt t b).natAbs<=t.natAbs:=by
 have h1:t.natAbs=Nat.gcd t.natAbs b.natAbs*(rt t b).natAbs:=by rw[<- iZ,<- MW,jH hb]
 rw[h1];exact N5 _ (jW hb)
def yd{t b:Int}(hb:b≠0):(rb t b).natAbs<=b.natAbs:=by
 have h1:b.natAbs=Nat.gcd t.natAbs b.natAbs*(rb t b).natAbs:=by rw[<- iZ,<- MW,iH hb]
 rw[h1];exact N5 _ (jW hb)
noncomputable def sg(x:Int):Int:=if x<0 then -1 else if 0<x then 1 else 0
def CI(x:Int):sg (-x) = -sg x:=by unfold sg;split<;>split<;>(try split)<;>(try split)<;>omega
def CJ{x p:Int}(hp:0<p):sg (x*p)=sg x:=by
 unfold sg;by_cases h1:x<0
 ·rw[if_pos h1,if_pos (Int.mul_neg_of_neg_of_pos h1 hp)]
 ·by_cases h2:0<x
  ·have:=MO h2 hp;rw[if_neg h1,if_pos h2,if_neg (by omega),if_pos this]
  ·obtain rfl:x=0:=by omega
   simp
noncomputable def hv(t b:Int):Ex->Int
 | []=>0
 |v::l=>v*b^(l.length+1)+t*hv t b l
def zK(t b:Int):hv t b []=0:=rfl
def lR(t b v:Int)(l:Ex):hv t b (v::l)=v*b^(l.length+1)+t*hv t b l:=rfl
noncomputable def mb(a b:Int):Int->Ex->Ex
 |c,[]=>[c]
 |c,x::l=>(-a*x+c)::mb a b (b*x) l
theorem oB(a b:Int):∀(c:Int) (l:Ex),(mb a b c l).length=l.length+1
 |c,[]=>rfl
 |c,x::l=>by show(mb a b (b*x) l).length+1=_;rw[oB];rfl
theorem ja(a b:Int):∀(c:Int) (l:Ex) (k:Nat),cf (mb a b c l) k = -a*cf l k+(if k=0 then c else b*cf l (k-1))
 |c,[],0=>by show c=_;rw[cI];simp
 |c,[],k+1=>by show cf [] k=_;rw[cI,cI];simp[cI]
 |c,x::l,0=>rfl
 |c,x::l,k+1=>by
  show cf (mb a b (b*x) l) k=_;rw[ja a b (b*x) l k,oW,if_neg (Nat.succ_ne_zero k)];cases k with
  |zero=>rfl
  |succ k=>rw[if_neg (Nat.succ_ne_zero k)];rfl
theorem zL(t u a b:Int):∀(c:Int) (l:Ex),hv t u (mb a b c l)=c*u^(l.length+1)+(b*t-a*u)*hv t u l
 |c,[]=>by show c*u^1+t*0=c*u^1+(b*t-a*u)*0;simp
 |c,x::l=>by show(-a*x+c)*u^((mb a b (b*x) l).length+1)+t*hv t u (mb a b (b*x) l)=c*u^(l.length+1+1)+(b*t-a*u)*(x*u^(l.length+1)+t*hv t u l);rw[zL t u a b (b*x) l,oB];generalize hv t u l=h;rw[M6 u (l.length+1)];generalize u^(l.length+1)=p;grind
def JL(x y:Int)(k:Nat):cf [x,y] k=if k=0 then x else if k=1 then y else 0:=by
 rcases k with _ |_ |k
 ·rfl
 ·rfl
 ·rw[if_neg (by omega),if_neg (by omega)];exact cC (by simp)
theorem xw(l:Ex)(x y:Int)(n:Nat):∀j,sm l [x,y] n j=(if n<j then cf l n*x else 0)+(if 1<=n/\n-1<j then cf l (n-1)*y else 0)
 |0=>by rw[if_neg (by omega),if_neg (by omega)];rfl
 |j+1=>by
  show sm l [x,y] n j+tm l [x,y] n j=_;rw[xw l x y n j];unfold tm;rw[JL];by_cases h1:n<j
  ·rw[if_pos h1,if_neg (show ¬j<=n by omega),if_pos (show n<j+1 by omega),Nv];by_cases h2:1<=n
   ·rw[if_pos ⟨h2,by omega⟩,if_pos ⟨h2,by omega⟩]
   ·rw[if_neg (λz=>h2 z.1),if_neg (λz=>h2 z.1)]
  ·rw[if_neg h1,if_pos (show j<=n by omega),NC];by_cases h2:n=j
   ·subst h2;rw[N0,if_pos rfl,if_pos (NR _),Int.add_comm];by_cases h3:1<=n
    ·rw[if_pos ⟨h3,by omega⟩,if_pos ⟨h3,by omega⟩]
    ·rw[if_neg (λz=>h3 z.1),if_neg (λz=>h3 z.1)]
   ·rw[if_neg (show ¬n-j=0 by omega),if_neg (show ¬n<j+1 by omega),NC,if_neg (show ¬(1<=n/\n-1<j) by omega),NC];by_cases h3:n-j=1
    ·rw[if_pos h3,if_pos (show 1<=n/\n-1<j+1 by omega),show n-1=j by omega]
    ·rw[if_neg h3,if_neg (show ¬(1<=n/\n-1<j+1) by omega),Nk]
def Gw{a b:Int}{l:Ex}(h:l≠[]):aw l [-a,b]=mb a b 0 l:=by
 apply iY
 ·rw[oB];unfold aw;rw[if_neg (by simp[h]),MC,Ny];simp
 ·intro k _;rw[aW,ja];unfold aH;rw[xw]
  have e1:(if k<l.length then cf l k * -a else 0) = -a*cf l k:=by
   by_cases hk:k<l.length
   ·rw[if_pos hk,No]
   ·rw[if_neg hk,cC (NT hk),Nk]
  have e2:(if 1<=k/\k-1<l.length then cf l (k-1)*b else 0)=if k=0 then 0 else b*cf l (k-1):=by
   by_cases h0:k=0
   ·rw[if_neg (by omega),if_pos h0]
   ·rw[if_neg h0];by_cases hk:k-1<l.length
    ·rw[if_pos (by omega),No]
    ·rw[if_neg (by omega),cC (NT hk),Nk]
  rw[e1,e2]
theorem oO(g t b:Int):∀l:Ex,hv (g*t) (g*b) l=g^l.length*hv t b l
 | []=>by simp[zK]
 |v::l=>by rw[lR,lR,oO g t b l,Int.mul_pow];show v*(g^(l.length+1)*b^(l.length+1))+g*t*(g^l.length*hv t b l)=g^(l.length+1)*(v*b^(l.length+1)+t*hv t b l);rw[M6 g l.length];generalize b^(l.length+1)=p;generalize g^l.length=q;generalize hv t b l=h;grind
def Jw(t b:Int){l:Ex}{n:Nat}(h:n<l.length):hv t b (l.drop n)=cf l n*b^(l.length-n)+t*hv t b (l.drop (n+1)):=by
 rw[OV h,lR,NS,dR h];have e:l.length-(n+1)+1=l.length-n:=by omega
 rw[e]
noncomputable def lv(t b:Int):Ex->Int
 | []=>0
 |v::l=>v*b^l.length+t*lv t b l
theorem uh(t b:Int):∀l:Ex,hv t b l=b*lv t b l
 | []=>by show(0:Int)=b*0;simp
 |v::l=>by show v*b^(l.length+1)+t*hv t b l=b*(v*b^l.length+t*lv t b l);rw[uh t b l,M6];generalize b^l.length=p;generalize lv t b l=x;grind
def Jv(t b:Int){l:Ex}{n:Nat}(h:n<l.length):lv t b (l.drop n)=cf l n*b^(l.length-(n+1))+t*lv t b (l.drop (n+1)):=by
 have e:l.drop n=cf l n::l.drop (n+1):=by rw[dR h];exact OV h
 rw[e];show cf l n*b^(l.drop (n+1)).length+_=_;rw[NS]
noncomputable def chF(z:Int×Int)(s:Int):Int×Int:=(if s*z.2<0 then z.1+1 else z.1,if s=0 then z.2 else s)
noncomputable def chS(l:Ex):Int×Int:=l.foldl chF (0,0)
def AI(l:Ex)(s:Int):chS (l++[s])=chF (chS l) s:=by unfold chS;rw[List.foldl_append];rfl
theorem AJ:∀(n:Nat) (l:Ex),l.length=n->(∀s∈l,s.natAbs<=1)->(chS l).2.natAbs<=1/\0<=(chS l).1/\(chS l).1<=l.length
 |n,l,hn,h=>by
  rcases dz l with rfl |⟨r,s,rfl⟩
  ·decide
  ·have hr:r.length+1=n:=by rw[<- hn,MY];rfl
   obtain⟨i1,i2,i3⟩:=AJ (n-1) r (by omega) (λx hx=>h x (Ob _ hx));have hs:=h s (by simp);rw[AI];unfold chF;refine⟨?_,?_,?_⟩
   ·dsimp only;split
    ·exact i1
    ·exact hs
   ·dsimp only;split<;>omega
   ·dsimp only;rw[MY];show _<=((r.length+1:Nat):Int);split<;>omega
termination_by n=>n
def JJ(l:Ex)(h:∀s∈l,s.natAbs<=1):(chS l).2.natAbs<=1/\0<=(chS l).1/\(chS l).1<=l.length:=AJ _ l rfl h
def xI(x:Int):(sg x).natAbs<=1:=by unfold sg;split<;>(try split)<;>decide
theorem xB{q q' b:Ex}{c l:Int}{p n:Nat}(h:∀k,cf q' k=c*cf q k+(if k=p then l else 0)) :
 ∀j,sm q' b n j=c*sm q b n j+(if p<j/\p<=n then l*cf b (n-p)else 0)
 |0=>by rw[sm,sm,if_neg (by omega)];simp
 |j+1=>by
  rw[sm,sm,xB h j];unfold tm;by_cases hj:j<=n
  ·rw[if_pos hj,if_pos hj,h j];by_cases e:j=p
   ·subst e;rw[if_pos rfl,if_neg (by omega),if_pos ⟨by omega,hj⟩];grind
   ·rw[if_neg e];by_cases h2:p<j/\p<=n
    ·rw[if_pos h2,if_pos ⟨by omega,h2.2⟩];grind
    ·rw[if_neg h2,if_neg (by omega)];grind
  ·rw[if_neg hj,if_neg hj];by_cases h2:p<j/\p<=n
   ·rw[if_pos h2,if_pos ⟨by omega,h2.2⟩];grind
   ·rw[if_neg h2,if_neg (by omega)];grind
def Gv{q q' b:Ex}{c l:Int}{p n:Nat}(hl:q'.length=q.length)(hp:p<q.length)(h:∀k,cf q' k=c*cf q k+(if k=p then l else 0)) :
 aH q' b n=c*aH q b n+(if p<=n then l*cf b (n-p)else 0):=by
 unfold aH;rw[hl,xB h];by_cases h2:p<=n
 ·rw[if_pos h2,if_pos ⟨hp,h2⟩]
 ·rw[if_neg h2,if_neg (by omega)]
noncomputable def aM(c:Int)(l:Ex):Ex:=l.map λx=>c*x
def dN(c:Int)(l:Ex):(aM c l).length=l.length:=by unfold aM;rw[MC]
def bA(c:Int)(l:Ex)(k:Nat):cf (aM c l) k=c*cf l k:=by
 by_cases h:k<l.length
 ·unfold cf aM;simp[h]
 ·rw[cC (by rw[dN];omega),cC (by omega)];simp
noncomputable def iS(r b:Ex)(p:Nat)(l:Int):Ex:=(List.range (r.length-1)).map λk=>cf r k-(if p<=k then l*cf b (k-p)else 0)
def zr(r b:Ex)(p:Nat)(l:Int):(iS r b p l).length=r.length-1:=by unfold iS;simp
def oZ(r b:Ex)(p:Nat)(l:Int)(k:Nat):cf (iS r b p l) k=if k<r.length-1 then cf r k-(if p<=k then l*cf b (k-p)else 0)else 0:=by unfold iS;rw[mj]
def CD(x:Int):sg x*x=(x.natAbs:Int):=by unfold sg;split<;>(try split)<;>omega
noncomputable def dm(b:Ex)(z:Ex×Ex)(i:Nat):Ex×Ex :=
 let s:Int:=((cf b (b.length-1)).natAbs:Int)
 let l:=sg (cf b (b.length-1))*cf z.2 (z.2.length-1)
 ((aM s z.1).set i l,iS (aM s z.2) b i l)
noncomputable def aT(a b:Ex):Nat->Ex×Ex
 |0=>(List.replicate (a.length+1-b.length) 0,a)
 |i+1=>dm b (aT a b i) (a.length+1-b.length-1-i)
structure DivInv(a b:Ex)(i:Nat):Prop where
 lq:(aT a b i).1.length=a.length+1-b.length
 lr:(aT a b i).2.length=a.length-i
 low:∀k,k+i<a.length+1-b.length->cf (aT a b i).1 k=0
 eqn:∀n,((cf b (b.length-1)).natAbs:Int)^i*cf a n=aH (aT a b i).1 b n+cf (aT a b i).2 n
def tz{a b:Ex}{n:Nat}(h:∀k,cf a k=0):aH a b n=0:=by apply kB;intro i _;unfold tm;rw[h i];simp
def Jy{A B i:Nat}(hi:i+1<=A+1-B)(hb:0<B):∃p,A+1-B=p+i+1/\p+i+B=A:=⟨A-B-i,by omega,by omega⟩
def Av(p i:Nat):p<p+i+1:=Nat.lt_succ_of_le (Nat.le_add_right _ _)
def oU{P A C M R:Int}(en:P*A=M+R):P*C*A=C*M+C*R:=by rw[Int.mul_right_comm,en,No,Int.mul_add]
def Jz(x y z:Int):x+y=x+z+(y-z):=by omega
theorem i6{a b:Ex}(hb:b≠[]):∀i,i<=a.length+1-b.length->DivInv a b i
 |0,_=>⟨by simp[aT],by simp[aT],λk _=>by show cf (List.replicate _ 0) k=0;rw[oY],λn=>by
  show _=aH (List.replicate _ 0) b n+cf a n
  rw[tz λk=>oY _ _];simp⟩
 |i+1,hi=>by
  obtain⟨lq,lr,low,eqn⟩:=i6 (a:=a) hb i (Nat.le_of_succ_le hi);have hbl:=MR.mpr hb;have e:aT a b (i+1)=dm b (aT a b i) (a.length+1-b.length-1-i):=rfl;generalize aT a b i=z at e lq lr low eqn
  obtain⟨p,ep,ed⟩:=Jy hi hbl;rw[ep,show p+i+1-1-i=p from Nat.add_sub_cancel _ _]at e;rw[ep]at lq low;have lz:z.2.length=p+b.length:=by rw[lr,<- ed,Nat.add_right_comm,Nat.add_sub_cancel]
  have hp:p<(aM ((cf b (b.length-1)).natAbs:Int) z.1).length:=by rw[dN,lq];exact Av p i
  have hq:∀k,cf (dm b z p).1 k=((cf b (b.length-1)).natAbs:Int)*cf z.1 k+(if k=p then sg (cf b (b.length-1))*cf z.2 (z.2.length-1)else 0):=by
   intro k;unfold dm;dsimp only
   rw[mi hp,bA];by_cases h:k=p
   ·rw[if_pos h,if_pos h,low k (by rw[h];exact NR _)];simp
   ·rw[if_neg h,if_neg h];simp
  have hlq:(dm b z p).1.length=p+i+1:=by unfold dm;dsimp only;rw[Oo,dN,lq]
  refine⟨?_,?_,?_,?_⟩
  ·rw[e,hlq,ep]
  ·rw[e];unfold dm;dsimp only;rw[zr,dN,lr];rfl
  ·intro k hk;rw[ep]at hk;have hk':k<p:=by clear lq lr low eqn hp hq hlq lz e ep ed;omega
   rw[e,hq,if_neg (Nb hk'),low k (Nat.lt_trans (Nat.add_lt_add_right hk' i) (NR _))];simp
  ·intro n;rw[e,Gv (by rw[hlq,lq]) (by rw[lq];exact Av p i) hq,M6];have en:=eqn n;unfold dm;dsimp only
   rw[oZ,dN,bA,lz];clear lq lr low eqn hp hq hlq e ep ed;by_cases h1:n<p+b.length-1
   ·rw[if_pos h1];by_cases h2:p<=n
    ·rw[if_pos h2,oU en];exact Jz _ _ _
    ·rw[if_neg h2,oU en,Nv,Int.sub_zero]
   ·rw[if_neg h1];have h2:p<=n:=by clear en;omega
    by_cases h3:n=p+b.length-1
    ·have h4:n-p=b.length-1:=by clear en;omega
     rw[if_pos h2,h4];have sg:=CD (cf b (b.length-1));rw[<- h3,oU en,Nv,Int.mul_right_comm,sg]
    ·have hc:cf z.2 n=0:=cC (by rw[lz];clear en;omega);rw[if_pos h2,cC (l:=b) (k:=n-p) (by clear en;omega),oU en,hc,Nk,Nk,Nv,Nv]
theorem At{a b:Ex}(hb:b≠[])(ha:Tr a)(hbt:Tr b):∀i,i+1<=a.length+1-b.length->cf (aT a b (i+1)).1 (a.length+1-b.length-1)≠0
 |0,h=>by
  obtain⟨lq,lr,_,_⟩:=i6 (a:=a) hb 0 (by omega);have hbl:=MR.mpr hb;show cf (dm b (aT a b 0) _).1 _≠0;unfold dm;dsimp only
  rw[mi (by rw[dN,lq];omega),if_pos (by omega)];have hb1:=hbt (b.length-1) (by omega);have ha1:=ha (a.length-1) (by omega);refine Na ?_ ?_
  ·unfold sg;split<;>(try split)<;>omega
  ·rw[lr];exact ha1
 |i+1,h=>by
  have ih:=At hb ha hbt i (by omega);obtain⟨lq,lr,_,_⟩:=i6 (a:=a) hb (i+1) (by omega);have hbl:=MR.mpr hb;show cf (dm b (aT a b (i+1)) _).1 _≠0;unfold dm;dsimp only
  have hN:∀n,i+1+1<=n->¬n-1=n-1-(i+1):=λn hn e=>by omega
  rw[mi (by rw[dN,lq];omega),if_neg (hN _ h),bA];have hb1:=hbt (b.length-1) (by omega);refine Na ?_ ih;omega
noncomputable def bH(a b:Ex):Nat:=a.length+1-b.length
noncomputable def cP(a b:Ex):Int:=((cf b (b.length-1)).natAbs:Int)^bH a b
noncomputable def cW(a b:Ex):Ex:=(aT a b (bH a b)).1
noncomputable def bj(a b:Ex):Ex:=trim (aT a b (bH a b)).2
def jZ{a b:Ex}(hb:b≠[])(n:Nat):cP a b*cf a n=aH (cW a b) b n+cf (bj a b) n:=by unfold bj cW cP;rw[fW];exact(i6 hb (bH a b) (MI _)).eqn n
def ig{a b:Ex}(hb:b≠[]):(bj a b).length<b.length:=by
 have h:=(i6 (a:=a) hb (bH a b) (MI _)).lr;have h2:=ub (aT a b (bH a b)).2;have hbl:=MR.mpr hb;unfold bj;unfold bH at *
 omega
def As{a b:Ex}(hb:b≠[]):(cW a b).length=bH a b:=(i6 (a:=a) hb (bH a b) (MI _)).lq
def uR{a b:Ex}(hb:b≠[])(ha:Tr a)(hbt:Tr b):Tr (cW a b):=by
 intro n hn;rw[As hb]at hn;have h:=At hb ha hbt n (by unfold bH at hn;omega);unfold cW;rw[hn];have:a.length+1-b.length-1=n:=by unfold bH at hn;rw[hn];rfl
 rwa [this]at h
def gP(a b:Ex):Tr (bj a b):=fD _
theorem xE{a a' b b':Ex}{n:Nat}(h1:∀k,cf a k=cf a' k)(h2:∀k,cf b k=cf b' k):∀j,sm a b n j=sm a' b' n j
 |0=>rfl
 |j+1=>by rw[sm,sm,xE h1 h2 j];unfold tm;rw[h1 j,h2 (n-j)]
theorem xC{a b:Ex}{n:Nat}:∀d,sm a b n (a.length+d)=aH a b n
 |0=>rfl
 |d+1=>by rw[<- Nat.add_assoc,sm,xC d,BU (by omega)];omega
def kC{a b:Ex}{n N:Nat}(h:a.length<=N):sm a b n N=aH a b n:=by obtain⟨d,rfl⟩:=Nat.exists_eq_add_of_le h;exact xC d
def yY{a a' b b':Ex}{n:Nat}(h1:∀k,cf a k=cf a' k)(h2:∀k,cf b k=cf b' k):aH a b n=aH a' b' n:=by rw[<- kC (Nat.le_max_left a.length a'.length),<- kC (Nat.le_max_right a.length a'.length)];exact xE h1 h2 _
theorem xA{a b c q:Ex}{x y:Int}{n:Nat}(h:∀k,cf c k=x*cf a k+y*cf b k):∀j,sm c q n j=x*sm a q n j+y*sm b q n j
 |0=>by simp[sm]
 |j+1=>by
  rw[sm,sm,sm,xA h j];unfold tm;rw[h j];by_cases hj:j<=n
  ·rw[if_pos hj,if_pos hj,if_pos hj];grind
  ·rw[if_neg hj,if_neg hj,if_neg hj];grind
def jS{a b c q:Ex}{x y:Int}{n:Nat}(h:∀k,cf c k=x*cf a k+y*cf b k):aH c q n=x*aH a q n+y*aH b q n:=by
 have h1:a.length<=a.length+b.length+c.length:=by omega
 have h2:b.length<=a.length+b.length+c.length:=by omega
 have h3:c.length<=a.length+b.length+c.length:=by omega
 rw[<- kC h1,<- kC h2,<- kC h3];exact xA h _
theorem xz{a b b':Ex}{c:Int}{n:Nat}(h:∀k,cf b' k=c*cf b k):∀j,sm a b' n j=c*sm a b n j
 |0=>by simp[sm]
 |j+1=>by
  rw[sm,sm,xz h j];unfold tm;rw[h (n-j)];by_cases hj:j<=n
  ·rw[if_pos hj,if_pos hj];grind
  ·rw[if_neg hj,if_neg hj];grind
def tI{a b b':Ex}{c:Int}{n:Nat}(h:∀k,cf b' k=c*cf b k):aH a b' n=c*aH a b n:=xz h _
def tJ(c:Int)(l:Ex)(n:Nat):aH [c] l n=c*cf l n:=by unfold aH;show sm [c] l n 0+tm [c] l n 0=_;unfold sm tm;rw[if_pos (MK _),AK,NO,NC]
def JN(a b:Ex)(n:Nat):cf (fB a b) n=cf a n+cf b n:=by unfold fB;rw[fW,ke,M9]
def tx{l:Ex}(ht:Tr l)(h:∀k,cf l k=0):l=[]:=by
 refine Classical.byContradiction λhne=>?_
 have hl:=MR.mpr hne;exact ht (l.length-1) (by omega) (h _)
def Gu{d q:Ex}(hq:q≠[])(hqt:Tr q)(h:∀n,q.length<=n+1->aH d q n=0):∀k,cf d k=0:=by
 have e:trim d=[]:=by
  refine Classical.byContradiction λhne=>?_
  have hl:=MR.mpr hne;have hql:=MR.mpr hq;have ht:=fD d ((trim d).length-1) (by omega);have hb:=hqt (q.length-1) (by omega);have h1:=h ((trim d).length-1+(q.length-1)) (by omega);rw[<- yY (a:=trim d) (b:=q) (λk=>fW d k) (λ_=>rfl),tD (la:=(trim d).length-1) (lb:=q.length-1) (by omega) (by omega)]at h1;exact Na ht hb h1
 intro k;rw[<- fW,e,cI]
def md{a b:Ex}(hb:b≠[])(hbt:Tr b):cP a b≠0:=by
 have hbl:=MR.mpr hb;have h:=hbt (b.length-1) (by omega);have h1:((cf b (b.length-1)).natAbs:Int)≠0:=by omega
 unfold cP;generalize bH a b=n
 induction n with
 |zero=>rw[Nq];decide
 |succ n ih=>rw[M6];exact Na ih h1
noncomputable def fi(d:Nat)(l:Ex):Nat:=l.foldl (λd v=>Nat.gcd d v.natAbs) d
noncomputable def aA(l:Ex):Nat:=fi 0 l
def HW(d:Nat):fi d []=d:=rfl
def HX(d:Nat)(v:Int)(l:Ex):fi d (v::l)=fi (Nat.gcd d v.natAbs) l:=rfl
def HV(d:Nat)(l:Ex)(v:Int):fi d (l++[v])=Nat.gcd (fi d l) v.natAbs:=by unfold fi;rw[List.foldl_append];rfl
def zP(l:Ex)(v:Int):aA (l++[v])=Nat.gcd (aA l) v.natAbs:=HV 0 l v
theorem An{m:Nat}:∀{l:Ex} {d:Nat},m∣fi d l↔m∣d/\∀v∈l,m∣v.natAbs
 | [],d=>by simp[HW]
 |v::l,d=>by rw[HX,An,Nat.dvd_gcd_iff];simp only[MG,forall_eq_or_imp];exact⟨λ⟨⟨a,b⟩,c⟩=>⟨a,b,c⟩,λ⟨a,b,c⟩=>⟨⟨a,b⟩,c⟩⟩
def dvd_gcdL{m:Nat}{l:Ex}:m∣aA l↔∀v∈l,m∣v.natAbs:=by unfold aA;rw[An];exact⟨λh=>h.2,λh=>⟨Nat.dvd_zero m,h⟩⟩
def oP{l:Ex}{v:Int}(h:v∈l):aA l∣v.natAbs:=dvd_gcdL.mp (Nat.dvd_refl _) v h
def zO{a b:Int}(ha:0<=a)(hb:0<b):Nat.gcd b.natAbs (a%b).natAbs=Nat.gcd a.natAbs b.natAbs:=by
 have e:(a%b).natAbs=a.natAbs%b.natAbs:=by obtain⟨x,rfl⟩:=OP ha;obtain⟨y,rfl⟩:=OP (Nd hb);rfl
 rw[e,Nat.gcd_comm,<- Nat.gcd_rec,Nat.gcd_comm]
noncomputable def al(l:Ex):Ex:=l.map λx=>x/(aA l:Int)
noncomputable def ao(l:Ex):Int:=cf l (l.length-1)
def fS(r:Ex)(x:Int):ao (r++[x])=x:=by unfold ao;rw[MY];exact o7 r x
noncomputable def cF(l:Ex):Ex:=if ao l<0 then l.map λx => -x else l
noncomputable def au(l:Ex):Ex:=cF (al l)
theorem wm{c:Int->Int}(h0:∀x,c x=0↔x=0):∀(n:Nat) (l:Ex),l.length=n->trim (l.map c)=(trim l).map c
 |0,l,h=>by rw[ON.mp h];rfl
 |n+1,l,h=>by
  rcases dz l with rfl |⟨r,x,rfl⟩
  ·rfl
  ·rw[Nc];show trim (r.map c++[c x])=_;by_cases hx:x=0
   ·subst hx;rw[(h0 0).mpr rfl,mG,mG];exact wm h0 n r (by simpa using h)
   ·rw[ko r hx,ko _ (λz=>hx ((h0 x).mp z)),Nc];rfl
def kg(l:Ex):Prop:=l=[]\/aA l=1
def Cy{l:Ex}(h:kg l):al l=l:=by
 rcases h with rfl |h
 ·rfl
 ·unfold al;rw[h]
  conv=>rhs;rw[<- List.map_id l]
  apply N6;intro x _;show x/1=x;exact Int.ediv_one x
def HU{l:Ex}{s:Int}(hs:s=1\/s = -1):aA (l.map λx=>x*s)=aA l:=by
 have key:∀m:Nat,m∣aA (l.map λx=>x*s)↔m∣aA l:=by
  intro m;rw[dvd_gcdL,dvd_gcdL]
  have e:∀x:Int,(x*s).natAbs=x.natAbs:=λx=>by
   rcases hs with rfl |rfl
   ·rw[Nl]
   ·rw[Int.mul_neg,Nl,Ot]
  constructor
  ·intro h v hv;have:=h (v*s) (M8.mpr ⟨v,hv,rfl⟩)
   rwa [e]at this
  ·intro h v hv;obtain⟨u,hu,rfl⟩:=M8.mp hv;rw[e];exact h u hu
 exact Nat.dvd_antisymm ((key _).mp (Nat.dvd_refl _)) ((key _).mpr (Nat.dvd_refl _))
def Ef{l:Ex}(h:kg l):kg (l.map λx => -x):=by
 rcases h with rfl |h
 ·exact .inl rfl
 ·right
  have e:(l.map λx => -x)=l.map λx=>x*(-1):=by apply N6;intro x _;omega
  rw[e,HU (.inr rfl),h]
def zw(l:Ex):ao (l.map λx => -x) = -ao l:=by
 rcases dz l with rfl |⟨r,x,rfl⟩
 ·rfl
 ·rw[Nc];show ao (r.map _++[-x])=_;rw[fS,fS]
def Ee{l:Ex}(h:kg l):kg (cF l):=by
 unfold cF;split
 ·exact Ef h
 ·exact h
def BR{c:Int->Int}(h0:∀x,c x=0↔x=0){l:Ex}(h:Tr l):Tr (l.map c):=by rw[<- BM h,<- wm h0 _ l rfl];exact fD _
def BO{l:Ex}(h:Tr l):Tr (cF l):=by
 unfold cF;split
 ·exact BR (λx=>by omega) h
 ·exact h
theorem zQ(c:Int):∀(l:Ex) (d:Nat),fi (c.natAbs*d) (aM c l)=c.natAbs*fi d l
 | [],d=>rfl
 |v::l,d=>by show fi (Nat.gcd (c.natAbs*d) (c*v).natAbs) (aM c l)=c.natAbs*fi (Nat.gcd d v.natAbs) l;rw[MW,Nat.gcd_mul_left,zQ c l]
def ul(c:Int)(l:Ex):aA (aM c l)=c.natAbs*aA l:=by have h:=zQ c l 0;rw[Nat.mul_zero]at h;exact h
def gN{l:Ex}{x:Int}(h:x∈l):(aA l:Int)∣x:=Ox.mpr (oP h)
def Cv{c:Int}(hc:0<c)(l:Ex):al (aM c l)=al l:=by
 unfold al;rw[ul];unfold aM;rw[NP];refine N6 λx _=>?_
 show c*x/((c.natAbs*aA l:Nat):Int)=x/(aA l:Int);have e:((c.natAbs*aA l:Nat):Int)=c*(aA l:Int):=by rw[Int.natCast_mul];congr 1;omega
 rw[e,Int.mul_ediv_mul_of_pos _ _ hc]
def Cw{c:Int}(hc:c<0)(l:Ex):al (aM c l)=(al l).map λx => -x:=by
 unfold al;rw[ul];unfold aM;rw[NP,NP];refine N6 λx hx=>?_
 show c*x/((c.natAbs*aA l:Nat):Int) = -(x/(aA l:Int));have e:((c.natAbs*aA l:Nat):Int)=(-c)*(aA l:Int):=by rw[Int.natCast_mul];congr 1;omega
 have e2:c*x=(-c)*(-x):=by rw[Int.neg_mul_neg]
 rw[e,e2,Int.mul_ediv_mul_of_pos _ _ (by omega:0 < -c),Int.neg_ediv_of_dvd (gN hx)]
def Ek{m:Ex}(h:Tr m):cF (m.map λx => -x)=cF m:=by
 rcases dz m with rfl |⟨r,x,rfl⟩
 ·rfl
 have hx:x≠0:=tr_snoc.mp h;have h1:=zw (r++[x]);rw[fS]at h1;unfold cF;rw[h1,fS];by_cases hn:x<0
 ·rw[if_neg (by omega),if_pos hn]
 ·rw[if_pos (by omega),if_neg hn,NP];rw[show((λx:Int => -x) ∘ λx:Int => -x)=id from by funext y;simp];exact List.map_id _
def fF{l:Ex}(h:Tr l):Tr (al l):=by
 intro n hn;have hl:l.length=n+1:=by rw[<- hn];unfold al;rw[MC]
 have hx:=h n hl;have hm:cf l n∈l:=by rw[dR (by omega)];exact NM _
 have e:cf (al l) n=cf l n/(aA l:Int):=by
  have h1:n<l.length:=by omega
  unfold al cf;simp[List.getD,h1]
 rw[e];intro z;have d:=gN hm;have:=Int.mul_ediv_cancel' d;rw[z,Nk]at this;exact hx this.symm
def ld{c:Int}(hc:c≠0){l:Ex}(h:Tr l):au (aM c l)=au l:=by
 unfold au;by_cases hp:0<c
 ·rw[Cv hp]
 ·rw[Cw (by omega),Ek (fF h)]
def pQ{c:Int}(hc:c≠0){l:Ex}(h:Tr l):Tr (aM c l):=by intro n hn;rw[dN]at hn;rw[bA];exact Na hc (h n hn)
def En{a b:Ex}{x y:Int}(hx:x≠0)(hy:y≠0)(ha:Tr a)(hb:Tr b)(h:∀k,x*cf a k=y*cf b k):au a=au b:=by
 have e:aM x a=aM y b:=jX (pQ hx ha) (pQ hy hb) λk=>by rw[bA,bA,h k]
 rw[<- ld hx ha,e,ld hy hb]
noncomputable def slopeL(l:Ex):Ex:=(List.range (l.length-1)).map λ(k:Nat)=>((k:Int)+1)*cf l (k+1)
noncomputable def rst(one other:Ex):Ex:=if other=[]then[]else bj one other
noncomputable def aO(one other:Ex):Ex:=al (cQ [] (rst one other))
noncomputable def bR:Nat->Ex->Ex->List Ex
 |0,_,_=>[]
 |n+1,one,other=>if one=[]then[]else one::bR n other (aO one other)
def kT(n:Nat)(o:Ex):bR n [] o=[]:=by cases n with |zero=>rfl |succ n=>show(if([]:Ex)=[]then _ else _)=_;rw[if_pos rfl]
def mK{r:Ex}(h:Tr r):cQ [] r=aM (-1) r:=by
 refine jX (fD _) (pQ (by decide) h) λk=>?_
 unfold cQ;rw[fW,ke,bA,cI];omega
def Jx{a b:Ex}(hb:b≠[])(hbt:Tr b):0<cP a b:=by
 have h:=md (a:=a) hb hbt
 have h2:0<=cP a b:=by
  unfold cP;generalize bH a b=n
  induction n with
  |zero=>rw[Nq];decide
  |succ n ih=>rw[M6];exact Nz ih (OW _)
 omega
def DC{n:Nat}{one:Ex}(h:one≠[])(hn:0<n):bR n one []=[one]:=by obtain⟨m,rfl⟩:∃m,n=m+1:=⟨n-1,by omega⟩;show(if one=[]then[]else one::bR m [] (aO one []))=_;rw[if_neg h,kT]
noncomputable def Ends:Nat->Ex->Ex->Prop
 |0,one,_=>one=[]
 |n+1,one,other=>one=[]\/Ends n other (aO one other)
noncomputable def gr(B:Nat):Nat->Nat
 |0=>B
 |1=>2*B
 |k+2=>2*gr B (k+1)+gr B k
theorem HM(B:Nat):∀k,gr B k<=gr B (k+1)
 |0=>by show B<=2*B;omega
 |k+1=>by show gr B (k+1)<=2*gr B (k+1)+gr B k;omega
def fT(B:Nat){j k:Nat}(h:j<=k):gr B j<=gr B k:=by
 induction h with
 |refl=>exact MI _
 |step _ ih=>exact MU ih (HM B _)
theorem uj(B j:Nat):∀d,gr B j+(d+2)*gr B (j+1)<=gr B (j+2+d)
 |0=>by show gr B j+2*gr B (j+1)<=2*gr B (j+1)+gr B j;omega
 |d+1=>by
  have ih:=uj B j d
  have e:gr B (j+2+(d+1))=2*gr B (j+2+d)+gr B (j+1+d):=by
   have:j+2+(d+1)=(j+1+d)+2:=by omega
   rw[this];show 2*gr B (j+1+d+1)+gr B (j+1+d)=_;have e2:j+1+d+1=j+2+d:=by omega
   rw[e2]
  have hm:gr B (j+1)<=gr B (j+1+d):=fT B (by omega);rw[e,Oh]at *;have e3:(d+1)*gr B (j+1)=d*gr B (j+1)+gr B (j+1):=by rw[Oh,Oy]
  omega
noncomputable def up(f:Nat->Int)(n:Nat):Int:=if n=0 then 0 else f (n-1)
theorem xD(x:Int)(a b:Ex)(n:Nat):∀j,sm (x::a) b n (j+1)=x*cf b n+(if n=0 then 0 else sm a b (n-1) j)
 |0=>by
  show 0+tm (x::a) b n 0=_;unfold tm;rw[if_pos (MK _)];rw[AK,NO];by_cases h:n=0
  ·rw[if_pos h];omega
  ·rw[if_neg h];show _=_+0;omega
 |j+1=>by
  show sm (x::a) b n (j+1)+tm (x::a) b n (j+1)=_;rw[xD x a b n j];by_cases h:n=0
  ·rw[if_pos h,if_pos h];unfold tm;rw[if_neg (by omega)];omega
  ·rw[if_neg h,if_neg h];show _=_+(sm a b (n-1) j+tm a b (n-1) j)
   have e:tm (x::a) b n (j+1)=tm a b (n-1) j:=by
    unfold tm;rw[oW];by_cases h2:j+1<=n
    ·rw[if_pos h2,if_pos (by omega)]
     congr 2;omega
    ·rw[if_neg h2,if_neg (by omega)]
   rw[e];omega
def dM(x:Int)(a b:Ex)(n:Nat):aH (x::a) b n=x*cf b n+up (aH a b) n:=xD x a b n a.length
def dL(b:Ex)(n:Nat):aH [] b n=0:=rfl
def vf(x:Int)(a:Ex)(n:Nat):cf (x::a) n=(if n=0 then x else 0)+up (cf a) n:=by
 cases n with
 |zero=>show x=x+0;omega
 |succ n=>show cf a n=0+cf a n;omega
theorem tR(y:Int)(b:Ex):∀(a:Ex) (n:Nat),aH a (y::b) n=y*cf a n+up (aH a b) n
 | [],n=>by
  rw[dL,cI];unfold up;split
  ·simp
  ·rw[dL];simp
 |x::a,n=>by
  rw[dM,vf,vf];cases n with
  |zero =>show x*(y+0)+0=y*(x+0)+0;simp only[Nv];exact No _ _
  |succ n =>show x*(0+cf b n)+aH a (y::b) n=y*(0+cf a n)+aH (x::a) b n;rw[tR y b a n,dM];simp only[NC];omega
theorem yX:∀(a:Ex) (n:Nat),aH a [] n=0
 | [],n=>rfl
 |x::a,n=>by
  rw[dM,cI];unfold up;split
  ·simp
  ·rw[yX a];simp
theorem lj:∀(a b:Ex) (n:Nat),aH a b n=aH b a n
 | [],b,n=>by rw[yX];rfl
 |x::a,b,n=>by
  rw[dM,tR]
  congr 1
  unfold up;split
  ·rfl
  ·exact lj a b _
def ve(a:Ex)(n:Nat):cf (0::a) n=up (cf a) n:=by rw[vf];split<;>omega
def yW(a b:Ex)(n:Nat):aH (0::a) b n=up (aH a b) n:=by rw[dM];omega
theorem lu:∀(a b c:Ex) (n:Nat),aH (aw a b) c n=aH a (aw b c) n
 | [],b,c,n=>by rw[dL,tz λk=>by rw[aW,dL]]
 |x::a,b,c,n=>by
  rw[dM,aW]
  have e:∀k,cf (aw (x::a) b) k=x*cf b k+1*cf (0::aw a b) k:=λk=>by
   rw[aW,dM,ve,M9]
   congr 1
   unfold up;split
   ·rfl
   ·rw[aW]
  rw[jS e,yW,M9]
  congr 1
  unfold up;split
  ·rfl
  ·exact lu a b c _
def Dv(d p:Ex):Prop:=∃(c:Int) (q:Ex),c≠0/\∀n,c*cf p n=aH q d n
def Dv.refl(d:Ex):Dv d d:=⟨1,[1],by decide,λn=>by rw[tJ]⟩
def Dv.nil(d:Ex):Dv d []:=⟨1,[],by decide,λn=>by rw[cI,dL];rfl⟩
def Dv.trans{d e p:Ex}(h1:Dv d e)(h2:Dv e p):Dv d p:=by obtain⟨c1,q1,hc1,e1⟩:=h1;obtain⟨c2,q2,hc2,e2⟩:=h2;refine⟨c1*c2,aw q2 q1,Na hc1 hc2,λn=>?_⟩;rw[lu,OD,e2,<- tI (b':=aw q1 d) (λk=>by rw[aW,e1])]
def Dv.up{d a b r q:Ex}{f:Int}(hf:f≠0)(h:∀n,f*cf a n=aH q b n+cf r n)(hb:Dv d b)(hr:Dv d r):Dv d a:=by obtain⟨c1,q1,hc1,e1⟩:=hb;obtain⟨c2,q2,hc2,e2⟩:=hr;refine⟨c1*c2*f,gK c1 (aM c2 (aw q q1)) q2,Na (Na hc1 hc2) hf,λn=>?_⟩;rw[jS (a:=aw q q1) (b:=q2) (x:=c2) (y:=c1) (λk=>by rw[ke,bA]),lu,<- e2,tI (b:=b) (b':=aw q1 d) (c:=c1) (λk=>by rw[aW,e1])];have:=h n;grind
def Dv.down{d a b r q:Ex}{f:Int}(h:∀n,f*cf a n=aH q b n+cf r n)(ha:Dv d a)(hb:Dv d b):Dv d r:=by obtain⟨c1,q1,hc1,e1⟩:=ha;obtain⟨c2,q2,hc2,e2⟩:=hb;refine⟨c1*c2,gK (-c1) (aM (f*c2) q1) (aw q q2),Na hc1 hc2,λn=>?_⟩;rw[jS (a:=q1) (b:=aw q q2) (x:=f*c2) (y := -c1) (λk=>by rw[ke,bA]),lu,<- e1,tI (b:=b) (b':=aw q2 d) (c:=c2) (λk=>by rw[aW,e2])];have:=h n;grind
def Dv.prop_right{d p p':Ex}{x y:Int}(hx:x≠0)(h:∀n,x*cf p' n=y*cf p n)(hd:Dv d p):Dv d p':=by obtain⟨c,q,hc,e⟩:=hd;refine⟨c*x,aM y q,Na hc hx,λn=>?_⟩;rw[jS (a:=q) (b:=[]) (x:=y) (y:=0) (λk=>by rw[bA];simp),<- e];have:=h n;grind
def yx{l:Ex}(h:Tr l):∃g:Int,g≠0/\∀n,cf l n=g*cf (au l) n:=by
 by_cases hl:l=[]
 ·subst hl;exact⟨1,by decide,λn=>by rw[cI];show 0=1*cf [] n;rw[cI];rfl⟩
 have hg:(aA l:Int)≠0:=by obtain⟨r,x,rfl⟩:=(dz l).resolve_left hl;have hx:x≠0:=tr_snoc.mp h;have h1:0<aA (r++[x]):=Nat.pos_of_dvd_of_pos (oP (by simp:x∈r++[x])) (N3.mpr hx);omega
 have e1:∀n,cf l n=(aA l:Int)*cf (al l) n:=λn=>by
  unfold al;by_cases hn:n<l.length
  ·rw[dR hn,dR (by rw[MC];exact hn),List.getElem_map];exact(Int.mul_ediv_cancel' (gN (NM hn))).symm
  ·rw[cC (by omega),cC (by rw[MC];omega),Nk]
 unfold au cF;split
 ·refine⟨-(aA l:Int),by omega,λn=>?_⟩
  have e2:cf ((al l).map λx => -x) n = -cf (al l) n:=by
   by_cases hn:n<(al l).length
   ·rw[dR hn,dR (by rw[MC];exact hn),List.getElem_map]
   ·rw[cC (l:=al l) (by omega),cC (l:=(al l).map λx => -x) (by rw[MC];omega)];rfl
  rw[e1,e2];grind
 ·exact⟨_,hg,e1⟩
def Dv.plain{d p:Ex}(hp:Tr p):Dv d (au p)↔Dv d p:=by obtain⟨g,hg,e⟩:=yx hp;exact⟨λh=>Dv.prop_right (x:=1) (y:=g) (by decide) (λn=>by rw[e];omega) h,λh=>Dv.prop_right (x:=g) (y:=1) hg (λn=>by rw[<- e];omega) h⟩
def plain_len(l:Ex):(au l).length=l.length:=by unfold au cF al;split<;>simp
def fY{l:Ex}(h:Tr l):Tr (au l):=BO (fF h)
noncomputable def c9:Nat->Ex->Ex->Ex
 |0,one,_=>one
 |n+1,one,other=>if other=[]then one else c9 n other (au (bj one other))
def AB(n:Nat)(one:Ex):c9 n one []=one:=by cases n<;>rfl
def JG{n:Nat}{one other:Ex}(h:other≠[]):c9 (n+1) one other=c9 n other (au (bj one other)):=by show(if other=[]then one else c9 n other (au (bj one other)))=_;rw[if_neg h]
theorem AA:∀(n:Nat) (one other:Ex),other.length<=n->Tr one->Tr other->Tr (c9 n one other)/\Dv (c9 n one other) one/\Dv (c9 n one other) other/\(∀d,Dv d one->Dv d other->Dv d (c9 n one other))/\(one≠[]\/other≠[]->c9 n one other≠[])/\(c9 n one other=one\/c9 n one other=other\/∃l,Tr l/\c9 n one other=au l)
 |n,one,[],_,t1,_=>by rw[AB];exact⟨t1,Dv.refl _,Dv.nil _,λd h _=>h,λh=>h.resolve_right λz=>z rfl,.inl rfl⟩
 |0,one,x::o,h,_,_=>absurd h (Nat.not_succ_le_zero _)
 |n+1,one,x::o,h,t1,t2=>by
  have hne:x::o≠[]:=λz=>nomatch z
  rw[JG hne];generalize x::o=other at h t2 hne
  have tr:=gP one other;have hl:=ig (a:=one) hne;obtain⟨c1,c2,c3,c4,c5,c6⟩:=AA n other (au (bj one other)) (by rw[plain_len];omega) t2 (fY tr);have eq:=λk=>jZ (a:=one) hne k
  refine⟨c1,Dv.up (md (a:=one) hne t2) eq c2 ((Dv.plain tr).mp c3),c2,λd h1 h2=>c4 d h2 ((Dv.plain tr).mpr (Dv.down eq h1 h2)),λ_=>c5 (.inl hne),?_⟩;rcases c6 with e |e |e
  ·exact .inr (.inl e)
  ·exact .inr (.inr ⟨_,tr,e⟩)
  ·exact .inr (.inr e)
def Cop(a:Ex)(m:Nat):Prop:=∀k:Nat,k∣m->(∀n,(k:Int)∣cf a n)->k=1
theorem um:∀(N:Nat) (a b:Ex) (m:Nat),a.length+b.length<=N->Cop a m->Cop b m->(∀n,(m:Int)∣aH a b n)->m=1
 |_,[],b,m,_,h1,_,_=>h1 m (Nat.dvd_refl _) λn=>by rw[cI];exact Int.dvd_zero _
 |_,_::_,[],m,_,_,h2,_=>h2 m (Nat.dvd_refl _) λn=>by rw[cI];exact Int.dvd_zero _
 |0,_::_,_::_,_,h,_,_,_=>absurd h (by simp)
 |N+1,x::a,y::b,m,h,h1,h2,h3=>by
  have d1:Nat.gcd m x.natAbs=1:=by
   refine um N a (y::b) _ (by simp at h ⊢;omega) (λk hk hn=>h1 k (OE hk (N4 _ _)) λn=>?_) (λk hk=>h2 k (OE hk (N4 _ _))) λn=>?_
   ·cases n with
    |zero=>exact Ox.mpr (OE hk (Ov _ _))
    |succ n=>exact hn n
   ·have e:=dM x a (y::b) (n+1);have g1:((Nat.gcd m x.natAbs:Nat):Int)∣aH (x::a) (y::b) (n+1):=Int.dvd_trans (Int.ofNat_dvd.mpr (N4 _ _)) (h3 _);have g2:((Nat.gcd m x.natAbs:Nat):Int)∣x*cf (y::b) (n+1):=Int.dvd_mul_of_dvd_left (Ox.mpr (Ov _ _))
    have e2:aH a (y::b) n=aH (x::a) (y::b) (n+1)-x*cf (y::b) (n+1):=by rw[e];show _=_+aH a (y::b) n-_;omega
    rw[e2];exact Int.dvd_sub g1 g2
  have d2:Nat.gcd m y.natAbs=1:=by
   refine um N (x::a) b _ (by simp at h ⊢;omega) (λk hk=>h1 k (OE hk (N4 _ _))) (λk hk hn=>h2 k (OE hk (N4 _ _)) λn=>?_) λn=>?_
   ·cases n with
    |zero=>exact Ox.mpr (OE hk (Ov _ _))
    |succ n=>exact hn n
   ·have e:=tR y b (x::a) (n+1);have g1:((Nat.gcd m y.natAbs:Nat):Int)∣aH (x::a) (y::b) (n+1):=Int.dvd_trans (Int.ofNat_dvd.mpr (N4 _ _)) (h3 _);have g2:((Nat.gcd m y.natAbs:Nat):Int)∣y*cf (x::a) (n+1):=Int.dvd_mul_of_dvd_left (Ox.mpr (Ov _ _))
    have e2:aH (x::a) b n=aH (x::a) (y::b) (n+1)-y*cf (x::a) (n+1):=by rw[e];show _=_+aH (x::a) b n-_;omega
    rw[e2];exact Int.dvd_sub g1 g2
  have h0:=h3 0;rw[dM]at h0
  have h0':m∣x.natAbs*y.natAbs:=by
   rw[<- MW];refine Ox.mp ?_
   have e:x*cf (y::b) 0+up (aH a (y::b)) 0=x*y:=by show x*y+0=x*y;omega
   rwa [e]at h0
  have h4:m∣y.natAbs:=Nat.Coprime.dvd_of_dvd_mul_left d1 h0';rw[Nat.gcd_eq_left h4]at d2;exact d2
def tY{l:Ex}{v:Int}(h:v∈l):∃n,n<l.length/\cf l n=v:=by obtain⟨n,hn,e⟩:=List.getElem_of_mem h;exact⟨n,hn,by rw[dR hn,e]⟩
def Az{a:Ex}{m:Nat}(h:aA a=1):Cop a m:=λk _ hn=>by
 have:k∣aA a:=dvd_gcdL.mpr λv hv=>by obtain⟨n,_,rfl⟩:=tY hv;exact Ox.mp (hn n)
 rw[h]at this;exact Nat.dvd_one.mp this
def Eg{a b:Ex}(ha:aA a=1)(hb:aA b=1):aA (aw a b)=1:=by
 refine um _ a b _ (MI _) (Az ha) (Az hb) λn=>?_
 rw[<- aW];by_cases hn:n<(aw a b).length
 ·rw[dR hn];exact gN (NM hn)
 ·rw[cC (by omega)];exact Int.dvd_zero _
structure Pln(l:Ex):Prop where
 tr:Tr l
 ne:l≠[]
 prim:aA l=1
 pos:0<ao l
def zv{l:Ex}(h:Tr l)(hne:l≠[]):ao l≠0:=by have:=MR.mpr hne;exact h (l.length-1) (by omega)
def Pln.plain{l:Ex}(h:Pln l):au l=l:=by unfold au;rw[Cy (.inr h.prim)];unfold cF;rw[if_neg (by have:=h.pos;omega)]
def mV{l:Ex}:aM (aA l:Int) (al l)=l:=by unfold aM al;rw[NP];refine(N6 (g:=id) λx hx=>?_).trans (List.map_id _);exact Int.mul_ediv_cancel' (gN hx)
def gE{l:Ex}(h:Tr l)(hne:l≠[]):Pln (au l):=by
 have hg:0<aA l:=by obtain⟨r,x,rfl⟩:=(dz l).resolve_left hne;have hx:x≠0:=tr_snoc.mp h;exact Nat.pos_of_dvd_of_pos (oP (by simp:x∈r++[x])) (N3.mpr hx)
 have h1:aA (al l)=1:=by have e:=ul (aA l:Int) (al l);rw[mV,Nt]at e;exact O3 hg (by rw[<- e,Nat.mul_one])
 have hs:al l≠[]:=λz=>hne (by have:=congrArg List.length z;unfold al at this;simpa using this)
 have hl:=zv (fF h) hs
 have hp:aA (au l)=1:=by
  rcases Ee (.inr h1:kg (al l))with z |z
  ·exact absurd (congrArg List.length z) (by
    have:=plain_len l;unfold au at this
    rw[this]
    exactλq=>hne (ON.mp q))
  ·exact z
 refine⟨fY h,λz=>hne (ON.mp (by rw[<- plain_len,z];rfl)),hp,?_⟩;unfold au cF;split
 ·rw[zw];omega
 ·omega
def dO{a b:Ex}(ha:a≠[])(hb:b≠[]):(aw a b).length=a.length+b.length-1:=by unfold aw;rw[if_neg (λz=>z.elim ha hb),MC,Ny]
def zt{a b:Ex}(ha:a≠[])(hb:b≠[]):ao (aw a b)=ao a*ao b:=by
 have h1:=MR.mpr ha;have h2:=MR.mpr hb;unfold ao;rw[dO ha hb,aW];have e:a.length+b.length-1-1=(a.length-1)+(b.length-1):=by omega
 rw[e,tD (by omega) (by omega)]
def Pln.mul{a b:Ex}(ha:Pln a)(hb:Pln b):Pln (aw a b):=by
 refine⟨gW ha.tr hb.tr,λz=>?_,Eg ha.prim hb.prim,by rw[zt ha.ne hb.ne];exact MO ha.pos hb.pos⟩;have h1:=MR.mpr ha.ne;have h2:=MR.mpr hb.ne;have:=dO ha.ne hb.ne;rw[z]at this;simp at this
 omega
def yy{p q d:Ex}{c:Int}(hc:c≠0)(hp:Tr p)(hpn:p≠[])(hq:Tr q)(hd:Pln d)(h:∀n,c*cf p n=aH q d n):aw (au q) d=au p:=by
 have hqn:q≠[]:=λz=>by have h1:=MR.mpr hpn;have h2:=h (p.length-1);rw[z,dL]at h2;exact Na hc (hp (p.length-1) (by omega)) h2
 obtain⟨g,hg,e⟩:=yx hq;have hm:=(gE hq hqn).mul hd;rw[<- hm.plain];refine En hg hc hm.tr hp λk=>?_
 rw[h,aW,jS (a:=au q) (b:=[]) (x:=g) (y:=0) (c:=q) (λk=>by rw[e];simp),dL];simp
def Dv.trim{d p:Ex}(h:Dv d p):∃(c:Int) (q:Ex),c≠0/\Tr q/\∀n,c*cf p n=aH q d n:=by obtain⟨c,q,hc,e⟩:=h;exact⟨c,RM.trim q,hc,fD q,λn=>by rw[e];exact(yY (λk=>fW q k) λ_=>rfl).symm⟩
def Dv.fellow{d p:Ex}(hd:Pln d)(hp:Tr p)(hpn:p≠[])(h:Dv d p):∃q,Pln q/\aw q d=au p:=by
 obtain⟨c,q,hc,hq,e⟩:=h.trim
 have hqn:q≠[]:=λz=>by have h1:=MR.mpr hpn;have h2:=e (p.length-1);rw[z,dL]at h2;exact Na hc (hp (p.length-1) (by omega)) h2
 exact⟨au q,gE hq hqn,yy hc hp hpn hq hd e⟩
def one_mul(l:Ex)(h:Tr l):aw [1] l=l:=by
 refine jX (gW (tr_snoc (r:=[]).mpr (by decide)) h) h λk=>?_
 rw[aW,tJ];omega
def Dv.short{d r:Ex}(hd:d≠[])(hdt:Tr d)(hr:Tr r)(hl:r.length<d.length)(h:Dv d r):r=[]:=by
 obtain⟨c,q,hc,e⟩:=h;have z:=Gu hd hdt (d:=q) λn hn=>by rw[<- e,cC (by omega),Nk]
 refine tx hr λk=>?_
 have h1:=e k;rw[tz z]at h1;exact(Int.mul_eq_zero.mp h1).resolve_left hc
def Dv.rest{d p:Ex}(hd:d≠[])(hdt:Tr d)(h:Dv d p):bj p d=[] :=
 Dv.short hd hdt (gP _ _) (ig hd) (Dv.down (λn=>jZ (a:=p) hd n) h (Dv.refl d))
def Dv.mul_right(a b:Ex):Dv b (aw a b):=⟨1,a,by decide,λn=>by rw[aW];omega⟩
def Dv.mul_left(a b:Ex):Dv a (aw a b):=⟨1,b,by decide,λn=>by rw[aW,lj];omega⟩
noncomputable def ev(t:Int):Ex->Int
 | []=>0
 |v::l=>v+t*ev t l
def h9(a:Ex):aw [] a=[]:=by unfold aw;rw[if_pos (.inl rfl)]
def jT(a:Ex):aw a []=[]:=by unfold aw;rw[if_pos (.inr rfl)]
def Gx(a b:Ex):aw a b=aw b a:=by
 by_cases ha:a=[]
 ·rw[ha,h9,jT]
 by_cases hb:b=[]
 ·rw[hb,h9,jT]
 refine iY ?_ λk _=>?_
 ·rw[dO ha hb,dO hb ha];omega
 ·rw[aW,aW,lj]
def y8{a b:Ex}(ha:a≠[])(hb:b≠[]):aw a b≠[]:=λz=>by have:=dO ha hb;rw[z,List.length_nil]at this;have:=MR.mpr ha;have:=MR.mpr hb;omega
def Gy(a b c:Ex):aw (aw a b) c=aw a (aw b c):=by
 by_cases ha:a=[]
 ·rw[ha,h9,h9,h9]
 by_cases hb:b=[]
 ·rw[hb,h9,jT,h9]
 by_cases hc:c=[]
 ·rw[hc,jT,jT,jT]
 have h1:=y8 ha hb;have h2:=y8 hb hc;refine iY ?_ λk _=>?_
 ·have:=MR.mpr hb;rw[dO h1 hc,dO ha h2,dO ha hb,dO hb hc];obtain⟨y,ey⟩:=Nat.exists_eq_succ_of_ne_zero (Nat.ne_of_gt this);rw[ey,Nat.succ_add,Nat.add_succ,Nat.succ_sub_one,Nat.succ_sub_one,Nat.add_assoc]
 ·rw[aW,aW,lu]
instance:Std.Commutative aw:=⟨Gx⟩
instance:Std.Associative aw:=⟨Gy⟩
def d6(l:Ex)(n:Nat):cf (slopeL l) n=((n:Int)+1)*cf l (n+1):=by
 unfold slopeL;rw[mj];by_cases h:n<l.length-1
 ·rw[if_pos h]
 ·rw[if_neg h,cC (l:=l) (by omega),Nk]
def xG(x:Int)(a:Ex)(n:Nat):cf (slopeL (x::a)) n=1*cf a n+1*cf (0::slopeL a) n:=by
 rw[d6,oW,ve];cases n with
 |zero=>show(((0:Nat):Int)+1)*cf a 0=1*cf a 0+1*0;omega
 |succ n =>
  show(((n+1:Nat):Int)+1)*cf a (n+1)=1*cf a (n+1)+1*cf (slopeL a) n;rw[d6];have:((n+1:Nat):Int)=(n:Int)+1:=by omega
  rw[this,Int.add_mul];omega
theorem qz:∀(a b:Ex) (n:Nat),cf (slopeL (aw a b)) n=aH (slopeL a) b n+aH a (slopeL b) n
 | [],b,n=>by rw[h9];show cf (slopeL []) n=aH (slopeL []) b n+aH [] (slopeL b) n;have:slopeL []=[]:=rfl;rw[this,cI,dL,dL];omega
 |x::a,b,n=>by
  rw[d6,aW,dM,jS (q:=b) (xG x a),yW,dM,d6];show((n:Int)+1)*(x*cf b (n+1)+aH a b n)=_;cases n with
  |zero =>show(((0:Nat):Int)+1)*(x*cf b 1+aH a b 0)=1*aH a b 0+1*0+(x*((((0:Nat):Int)+1)*cf b 1)+0);simp;omega
  |succ n =>
   have ih:=qz a b n;rw[d6,aW]at ih;show(((n+1:Nat):Int)+1)*(x*cf b (n+1+1)+aH a b (n+1))=1*aH a b (n+1)+1*aH (slopeL a) b n+(x*((((n+1:Nat):Int)+1)*cf b (n+1+1))+aH a (slopeL b) n);have:((n+1:Nat):Int)=(n:Int)+1:=by omega
   rw[this];generalize aH a b (n+1)=z at *
   generalize aH (slopeL a) b n=z1 at *
   generalize aH a (slopeL b) n=z2 at *
   generalize cf b (n+1+1)=z3 at *
   generalize (n:Int)=m at *
   grind
noncomputable def pw(s:Ex):Nat->Ex
 |0=>[1]
 |n+1=>aw s (pw s n)
def oG(l:Ex):(slopeL l).length=l.length-1:=by unfold slopeL;simp
def wn{l:Ex}(h:Tr l):Tr (slopeL l):=λn hn=>by rw[oG]at hn;rw[d6];exact Na (by omega) (h (n+1) (by omega))
def Jq{s a:Ex}(hs:s≠[])(ht:Tr s)(h:bj a s=[]):Dv s a :=
 ⟨cP a s,cW a s,md hs ht,λn=>by rw[jZ hs,h,cI];omega⟩
variable {us:List (Ex×Nat)}
noncomputable def cO:Ex->Ex
 | []=>[]
 |v::l=>2^l.length*v::cO l
theorem mM:∀l,(cO l).length=l.length
 | []=>rfl
 |v::l=>by show(cO l).length+1=_;rw[mM l];rfl
theorem zJ(p q:Int):∀l,2*hv p q (cO l)=hv p (2*q) l
 | []=>by show 2*0=(0:Int);rfl
 |v::l=>by have ih:=zJ p q l;show 2*(2^l.length*v*q^((cO l).length+1)+p*hv p q (cO l))=v*(2*q)^(l.length+1)+p*hv p (2*q) l;rw[mM,<- ih,Int.mul_pow,M6 2];grind
noncomputable def cE:Ex->Ex
 | []=>[]
 |v::l=>(v+(cE l).headD 0)::cE l
theorem jo:∀l,(cE l).length=l.length
 | []=>rfl
 |v::l=>by show(cE l).length+1=_;rw[jo l];rfl
theorem wF(p q:Int):∀l,hv (p+q) q l=(cE l).headD 0*q^l.length+p*hv (p+q) q ((cE l).tail)
 | []=>by show(0:Int)=0*q^0+p*0;omega
 |v::l=>by
  have ih:=wF p q l;show v*q^(l.length+1)+(p+q)*hv (p+q) q l=(v+(cE l).headD 0)*q^(l.length+1)+p*hv (p+q) q (cE l);cases hs:cE l with
  |nil =>
   have hl:l=[]:=by have:=jo l;rw[hs]at this;exact NV this.symm
   subst hl;show v*q^1+(p+q)*0=(v+0)*q^1+p*0;grind
  |cons g r =>
   rw[hs]at ih;have hl:r.length+1=l.length:=by have:=jo l;rw[hs]at this;exact this
   have ih':hv (p+q) q l=g*q^l.length+p*hv (p+q) q r:=ih;show v*q^(l.length+1)+(p+q)*hv (p+q) q l=(v+g)*q^(l.length+1)+p*(g*q^(r.length+1)+(p+q)*hv (p+q) q r);rw[ih',hl,M6];grind
noncomputable def eD:Nat->Ex->Ex
 |0,m=>cE m
 |_+1,[]=>[]
 |i+1,c::m=>c::eD i m
theorem sY:∀(i:Nat) (m:Ex),(eD i m).length=m.length
 |0,m=>jo m
 |_+1,[]=>rfl
 |i+1,c::m=>by show(eD i m).length+1=_;rw[sY i m];rfl
noncomputable def gf(p q:Int):Nat->Ex->Int
 |0,m=>hv (p+q) q m
 |_+1,[]=>0
 |i+1,c::m=>c*q^(m.length+1)+p*gf p q i m
theorem zg(p q:Int):∀(i:Nat) (m:Ex),gf p q (i+1) (eD i m)=gf p q i m
 |0,m=>by
  show gf p q 1 (cE m)=hv (p+q) q m;rw[wF];cases hs:cE m with
  |nil =>show(0:Int)=0*q^m.length+p*hv (p+q) q [];rw[zK];omega
  |cons g r =>
   have hl:r.length+1=m.length:=by have:=jo m;rw[hs]at this;exact this
   show g*q^(r.length+1)+p*hv (p+q) q r=g*q^m.length+p*hv (p+q) q r;rw[hl]
 |i+1,[]=>rfl
 |i+1,c::m=>by show c*q^((eD i m).length+1)+p*gf p q (i+1) (eD i m)=c*q^(m.length+1)+p*gf p q i m;rw[zg p q i m,sY]
theorem zi(p q:Int):∀(i:Nat) (m:Ex),m.length<=i+1->gf p q i m=hv p q m
 |0,[],_=>rfl
 |0,[c],_=>by show c*q^1+(p+q)*0=c*q^1+p*0;omega
 |0,_::_::_,h=>absurd h (by simp)
 |_+1,[],_=>rfl
 |i+1,c::m,h=>by show c*q^(m.length+1)+p*gf p q i m=c*q^(m.length+1)+p*hv p q m;rw[zi p q i m (by simpa using h)]
noncomputable def fR:Nat->Ex->Ex
 |0,l=>l
 |i+1,l=>eD i (fR i l)
theorem ou:∀(i:Nat) (l:Ex),(fR i l).length=l.length
 |0,_=>rfl
 |i+1,l=>by show(eD i (fR i l)).length=_;rw[sY,ou i l]
theorem zh(p q:Int):∀(i:Nat) (l:Ex),gf p q i (fR i l)=hv (p+q) q l
 |0,_=>rfl
 |i+1,l=>by show gf p q (i+1) (eD i (fR i l))=_;rw[zg,zh p q i l]
noncomputable def lw(l:Ex):Ex:=fR (l.length-1) l
def zc(l:Ex):(lw l).length=l.length:=ou _ _
def HD(p q:Int)(l:Ex):hv p q (lw l)=hv (p+q) q l:=by rw[<- zh p q (l.length-1) l];exact(zi p q (l.length-1) _ (by rw[zc];omega)).symm
theorem zH:∀l:Ex,hv 1 1 l=l.sum
 | []=>rfl
 |v::l=>by show v*1^(l.length+1)+1*hv 1 1 l=v+l.sum;rw[zH l,Int.one_pow];omega
noncomputable def cq(m s0 s1:Int):Ex->Ex
 | []=>[]
 |v::l=>mb (-s0) s1 (v*m^l.length) (cq m s0 s1 l)
theorem jp(m s0 s1:Int):∀l,(cq m s0 s1 l).length=l.length
 | []=>rfl
 |v::l=>by show(mb _ _ _ _).length=_;rw[oB,jp m s0 s1 l];rfl
theorem zI(m s0 s1 p q:Int):∀l,m*hv p q (cq m s0 s1 l)=hv (s0*q+s1*p) (m*q) l
 | []=>by show m*0=(0:Int);omega
 |v::l=>by have ih:=zI m s0 s1 p q l;show m*hv p q (mb (-s0) s1 (v*m^l.length) (cq m s0 s1 l))=v*(m*q)^(l.length+1)+(s0*q+s1*p)*hv (s0*q+s1*p) (m*q) l;rw[zL,jp,<- ih,Int.mul_pow,M6 m];grind
theorem wG(m s0 s1:Int):∀l,cf (cq m s0 s1 l) (l.length-1)=cf l (l.length-1)*s1^(l.length-1)
 | []=>by show(0:Int)=0*_;omega
 | [v]=>by show cf (mb (-s0) s1 (v*m^0) []) 0=v*s1^0;rw[ja,if_pos rfl,cI,Nq,Nq];omega
 |v::u::l=>by have ih:=wG m s0 s1 (u::l);show cf (mb (-s0) s1 _ (cq m s0 s1 (u::l))) (l.length+1)=cf (u::l) l.length*s1^(l.length+1);rw[ja,if_neg (by omega)];have e1:cf (cq m s0 s1 (u::l)) (l.length+1)=0:=cC (by rw[jp];exact MI _);have e2:cf (cq m s0 s1 (u::l)) (l.length+1-1)=cf (u::l) l.length*s1^l.length:=ih;rw[e1,e2,M6];grind
def iC{x p:Int}(hp:0<p):sg (p*x)=sg x:=by rw[No];exact CJ hp
noncomputable def wD(sq due:Int):Int:=if due<0\/due*due<sq then 1 else 0-(if sq<due*due then 1 else 0)
noncomputable def xH(l:Ex)(t n:Int):Int:=if 0<cf l 3 then wD (cf l 1*n*n) (cf l 2*t-cf l 0*n)else 0-wD (cf l 1*n*n) (0-(cf l 2*t-cf l 0*n))
def CK(x y:Int):sg (x*y)=sg x*sg y:=by
 rcases Int.lt_trichotomy x 0 with hx |hx |hx
 ·have h1:sg x = -1:=by unfold sg;rw[if_pos hx]
  have e:x*y = -((-x)*y):=by grind
  rw[e,CI,iC (by omega),h1];omega
 ·subst hx;rw[NN];show(0:Int)=0*_;rw[NN]
 ·have h1:sg x=1:=by unfold sg;rw[if_neg (by omega),if_pos hx]
  rw[iC hx,h1,M9]
def inS(l:Ex)(A B D:Int):Prop:=0<xH l A D/\xH l B D<=0
instance (l:Ex) (A B D:Int):Decidable (inS l A B D):=inferInstanceAs (Decidable (_/\_))
noncomputable def pv:Ex->Rat->Rat
 | [],_=>0
 |c::l,x=>(c:Rat)+x*pv l x
theorem yp:∀(N:Nat) (a b c:Ex) (u v:Int) (x:Rat),a.length<=N->b.length<=N->c.length<=N->(∀n,cf c n=u*cf a n+v*cf b n)->pv c x=(u:Rat)*pv a x+(v:Rat)*pv b x
 |0,a,b,c,u,v,x,ha,hb,hc,_=>by rw[NV (Nat.le_zero.mp ha),NV (Nat.le_zero.mp hb),NV (Nat.le_zero.mp hc)];show(0:Rat)=u*0+v*0;grind
 |N+1,a,b,c,u,v,x,ha,hb,hc,h=>by
  have key:∀l:Ex,l.length<=N+1->pv l x=(cf l 0:Rat)+x*pv l.tail x/\l.tail.length<=N/\∀n,cf l.tail n=cf l (n+1):=λl hl=>by
   cases l with
   |nil=>exact⟨by show(0:Rat)=((0:Int):Rat)+x*0;grind,MK _,λn=>by rw[cI];rfl⟩
   |cons y l=>exact⟨rfl,by simpa using hl,λn=>rfl⟩
  obtain⟨a1,a2,a3⟩:=key a ha;obtain⟨b1,b2,b3⟩:=key b hb;obtain⟨c1,c2,c3⟩:=key c hc;have ih:=yp N a.tail b.tail c.tail u v x a2 b2 c2 λn=>by rw[a3,b3,c3,h]
  have h0:(cf c 0:Rat)=(u:Rat)*(cf a 0:Rat)+(v:Rat)*(cf b 0:Rat):=by rw[h 0,Ni,MD,MD]
  rw[a1,b1,c1,ih,h0];grind
def iJ{a b c:Ex}{u v:Int}(x:Rat)(h:∀n,cf c n=u*cf a n+v*cf b n):pv c x=(u:Rat)*pv a x+(v:Rat)*pv b x :=
 yp (a.length+b.length+c.length) a b c u v x (by omega) (by omega) (by omega) h
def dg{a c:Ex}{u:Int}(x:Rat)(h:∀n,cf c n=u*cf a n):pv c x=(u:Rat)*pv a x:=by
 have:=iJ (a:=a) (b:=[]) (c:=c) (u:=u) (v:=0) x λn=>by rw[h n,NN,Nv]
 rw[this];show _+((0:Int):Rat)*0=_;grind
theorem dB(x:Rat):∀(a b c:Ex),(∀n,cf c n=aH a b n)->pv c x=pv a x*pv b x
 | [],b,c,h=>by
  have:=dg (a:=[]) (c:=c) (u:=0) x λn=>by rw[h n,dL];simp
  rw[this];show _=(0:Rat)*_;show((0:Int):Rat)*0=0*_;grind
 |y::a,b,c,h=>by
  have ih:=dB x a b (aw a b) (aW a b)
  have:=iJ (a:=b) (b:=0::aw a b) (c:=c) (u:=y) (v:=1) x λn=>by
   rw[h n,dM,ve,M9]
   congr 1
   unfold up;split
   ·rfl
   ·rw[aW]
  rw[this];show(y:Rat)*pv b x+((1:Int):Rat)*(((0:Int):Rat)+x*pv (aw a b) x)=((y:Rat)+x*pv a x)*pv b x;rw[ih];grind
def eX{a b:Rat}(ha:0<a)(hb:0<b):0<a/b:=by rw[Rat.div_def];exact ML ha (Rat.inv_pos.mpr hb)
noncomputable def Bd(M v:Rat):Prop := -M<=v/\v<=M
def Bd.mul{M N u v:Rat}(h1:Bd M u)(h2:Bd N v):Bd (M*N) (u*v):=by obtain⟨a,b⟩:=h1;obtain⟨c,d⟩:=h2;have p1:0<=(M-u)*(N-v):=MJ (by grind) (by grind);have p2:0<=(M+u)*(N+v):=MJ (by grind) (by grind);have p3:0<=(M-u)*(N+v):=MJ (by grind) (by grind);have p4:0<=(M+u)*(N-v):=MJ (by grind) (by grind);constructor<;>grind
def Bd.add{M N u v:Rat}(h1:Bd M u)(h2:Bd N v):Bd (M+N) (u+v):=by obtain⟨a,b⟩:=h1;obtain⟨c,d⟩:=h2;constructor<;>grind
def Bd.mono{M N u:Rat}(h1:Bd M u)(h:M<=N):Bd N u:=by obtain⟨a,b⟩:=h1;constructor<;>grind
def Nice(f:Rat->Rat):Prop:=∀R:Rat,0<=R->∃M:Rat,0<=M/\(∀x,Bd R x->Bd M (f x))/\∀x y,Bd R x->Bd R y->x<=y->Bd (M*(y-x)) (f y-f x)
def jQ(c:Rat):Nice λ_=>c:=λR _=>by
 rcases MM (a:=0) (b:=c)with h |h
 ·exact⟨c,h,λx _=>⟨by grind,by grind⟩,λx y _ _ hxy=>by
   have:=MJ h (show 0<=y-x by grind)
   exact⟨by grind,by grind⟩⟩
 ·exact⟨-c,by grind,λx _=>⟨by grind,by grind⟩,λx y _ _ hxy=>by
   have:=MJ (show 0 <= -c by grind) (show 0<=y-x by grind)
   exact⟨by grind,by grind⟩⟩
def nice_id:Nice λx=>x:=λR hR=>by refine⟨R+1,by grind,λx h=>h.mono (by grind),λx y _ _ hxy=>?_⟩;have:=MJ hR (show 0<=y-x by grind);exact⟨by grind,by grind⟩
def Nice.add{f g:Rat->Rat}(hf:Nice f)(hg:Nice g):Nice λx=>f x+g x:=λR hR=>by
 obtain⟨M,m0,m1,m2⟩:=hf R hR;obtain⟨N,n0,n1,n2⟩:=hg R hR;refine⟨M+N,by grind,λx h=>(m1 x h).add (n1 x h),λx y hx hy hxy=>?_⟩;have:=(m2 x y hx hy hxy).add (n2 x y hx hy hxy);have e1:M*(y-x)+N*(y-x)=(M+N)*(y-x):=by grind
 have e2:f y-f x+(g y-g x)=f y+g y-(f x+g x):=by grind
 rwa [e1,e2]at this
def Nice.mul{f g:Rat->Rat}(hf:Nice f)(hg:Nice g):Nice λx=>f x*g x:=λR hR=>by
 obtain⟨M,m0,m1,m2⟩:=hf R hR;obtain⟨N,n0,n1,n2⟩:=hg R hR;have p:=MJ m0 n0;refine⟨2*(M*N),by grind,λx h=>((m1 x h).mul (n1 x h)).mono (by grind),λx y hx hy hxy=>?_⟩;have:=((m2 x y hx hy hxy).mul (n1 y hy)).add ((m1 x hx).mul (n2 x y hx hy hxy));have e1:M*(y-x)*N+M*(N*(y-x))=2*(M*N)*(y-x):=by grind
 have e2:(f y-f x)*g y+f x*(g y-g x)=f y*g y-f x*g x:=by grind
 rwa [e1,e2]at this
theorem dD:∀l:Ex,Nice (pv l)
 | []=>jQ 0
 |c::l=>(jQ (c:Rat)).add (nice_id.mul (dD l))
theorem sR:∀(l:Ex) (R:Rat),0<=R->∃M:Rat,0<=M/\∀x y,Bd R x->Bd R y->x<=y->Bd (M*((y-x)*(y-x))) (pv l y-pv l x-(y-x)*pv (slopeL l) x)
 | [],R,_=>⟨0,by grind,λx y _ _ _=>by
  have e:pv [] y-pv [] x-(y-x)*pv (slopeL []) x=0:=by show(0:Rat)-0-(y-x)*0=0;grind
  rw[e];constructor<;>grind⟩
 |c::l,R,hR=>by
  obtain⟨M,m0,m1⟩:=sR l R hR;obtain⟨N,n0,n1,n2⟩:=dD l R hR;have p:=MJ hR m0;refine⟨N+R*M,by grind,λx y hx hy hxy=>?_⟩
  have hd:pv (slopeL (c::l)) x=pv l x+x*pv (slopeL l) x:=by
   have:=iJ (a:=l) (b:=0::slopeL l) (c:=slopeL (c::l)) (u:=1) (v:=1) x λn=>xG c l n
   rw[this];show((1:Int):Rat)*pv l x+((1:Int):Rat)*(((0:Int):Rat)+x*pv (slopeL l) x)=_;grind
  have hz:Bd (y-x) (y-x):=⟨by grind,by grind⟩;have:=(hz.mul (n2 x y hx hy hxy)).add (hx.mul (m1 x y hx hy hxy));have e1:(y-x)*(N*(y-x))+R*(M*((y-x)*(y-x)))=(N+R*M)*((y-x)*(y-x)):=by grind
  have e2:(y-x)*(pv l y-pv l x)+x*(pv l y-pv l x-(y-x)*pv (slopeL l) x)=pv (c::l) y-pv (c::l) x-(y-x)*pv (slopeL (c::l)) x:=by rw[hd];show _=((c:Rat)+y*pv l y)-((c:Rat)+x*pv l x)-_;grind
  rwa [e1,e2]at this
noncomputable def aj(v:Rat):Int:=if v<0 then -1 else if 0<v then 1 else 0
def bB(v:Rat):(v<0/\aj v = -1)\/(v=0/\aj v=0)\/(0<v/\aj v=1):=by
 unfold aj;by_cases h:v<0
 ·exact .inl ⟨h,by rw[if_pos h]⟩
 ·by_cases h2:0<v
  ·exact .inr (.inr ⟨h2,by rw[if_neg h,if_pos h2]⟩)
  ·exact .inr (.inl ⟨by grind,by rw[if_neg h,if_neg h2]⟩)
def Sta(f:Rat->Rat)(x y:Rat):Prop:=aj (f x)=aj (f y)/\aj (f x)≠0
def li{f:Rat->Rat}{x y D:Rat}(h:¬Sta f x y)(hd:Bd D (f y-f x)):Bd D (f x)/\Bd D (f y):=by
 obtain⟨d1,d2⟩:=hd
 have key:(f x<=0/\0<=f y)\/(0<=f x/\f y<=0):=by
  rcases bB (f x)with⟨a,b⟩ |⟨a,b⟩ |⟨a,b⟩<;>rcases bB (f y)with⟨c,d⟩ |⟨c,d⟩ |⟨c,d⟩
  ·exact absurd ⟨by rw[b,d],by rw[b];decide⟩ h
  ·exact .inl ⟨by grind,by grind⟩
  ·exact .inl ⟨by grind,by grind⟩
  ·exact .inr ⟨by grind,by grind⟩
  ·exact .inl ⟨by grind,by grind⟩
  ·exact .inl ⟨by grind,by grind⟩
  ·exact .inr ⟨by grind,by grind⟩
  ·exact .inr ⟨by grind,by grind⟩
  ·exact absurd ⟨by rw[b,d],by rw[b];decide⟩ h
 rcases key with⟨a,b⟩ |⟨a,b⟩
 ·exact⟨⟨by grind,by grind⟩,⟨by grind,by grind⟩⟩
 ·exact⟨⟨by grind,by grind⟩,⟨by grind,by grind⟩⟩
inductive SRow:List Ex->Prop
 |last {c:Int} (h:c≠0):SRow [[c]]
 |two {a:Ex} {c:Int} (h:c≠0):SRow [a,[c]]
 |cons {a b c:Ex} {r:List Ex} {q:Ex} {α β:Rat} (hα:0<α) (hβ:0<β) (e:∀x,α*pv a x=pv q x*pv b x-β*pv c x) (h:SRow (b::c::r)):SRow (a::b::c::r)
def nU(c:Int)(x:Rat):pv [c] x=(c:Rat):=by show(c:Rat)+x*0=c;grind
theorem bez:∀{row:List Ex},SRow row->∀a b r,row=a::b::r->∃(A B:Rat->Rat) (k:Rat),Nice A/\Nice B/\k≠0/\∀x,A x*pv a x+B x*pv b x=k
 |_,.last h,a,b,r,e=>by cases e
 |_,.two (c:=c) h,a,b,r,e=>by cases e;refine⟨λ_=>0,λ_=>1,(c:Rat),jQ 0,jQ 1,λz=>h (ND.mp (by rw[z];rfl)),λx=>?_⟩;rw[nU];grind
 |_,.cons (a:=a0) (b:=b0) (c:=c) (q:=q) (α:=α) (β:=β) hα hβ eq h,a,b,r,e=>by
  cases e;obtain⟨A,B,k,nA,nB,hk,hAB⟩:=bez h _ _ _ rfl;refine⟨λx=>(-α)*B x,λx=>β*A x+B x*pv q x,β*k,(jQ (-α)).mul nB,((jQ β).mul nA).add (nB.mul (dD q)),λz=>?_,λx=>?_⟩
  ·rcases MQ.mp z with y |y
   ·grind
   ·exact hk y
  ·have h1:=hAB x;have h2:=eq x;have:(-α)*B x*pv a0 x+(β*A x+B x*pv q x)*pv b0 x=B x*(pv q x*pv b0 x-α*pv a0 x)+β*A x*pv b0 x:=by grind
   rw[this,h2];have:B x*(pv q x*pv b0 x-(pv q x*pv b0 x-β*pv c x))+β*A x*pv b0 x=β*(A x*pv b0 x+B x*pv c x):=by grind
   rw[this,h1]
def oh{a b:Rat->Rat}(na:Nice a)(nb:Nice b){A B:Rat->Rat}{k:Rat}(nA:Nice A)(nB:Nice B)(hk:0<k)(hAB:∀x,A x*a x+B x*b x=k\/A x*a x+B x*b x = -k){R:Rat}(hR:0<=R) :
 ∃(δ κ:Rat),0<δ/\0<κ/\∀x y,Bd R x->Bd R y->x<y->y-x<=δ->¬Sta a x y->Sta b x y/\(κ<=b x\/b x <= -κ)/\(κ<=b y\/b y <= -κ):=by
 obtain⟨M1,p1,q1,r1⟩:=na R hR;obtain⟨M2,p2,q2,r2⟩:=nb R hR;obtain⟨M3,p3,q3,_⟩:=nA R hR;obtain⟨M4,p4,q4,_⟩:=nB R hR;have h31:=MJ p3 p1;have h42:=MJ p4 p2;have hT:0<2*(M3*M1+M4*M2+1):=by grind
 have hT4:0<2*(M4+1):=by grind
 refine⟨k/(2*(M3*M1+M4*M2+1)),k/(2*(M4+1)),eX hk hT,eX hk hT4,λx y hx hy hxy hd hs=>?_⟩
 have hd':(y-x)*(2*(M3*M1+M4*M2+1))<=k:=by
  have:=Nw hd (MF hT)
  rwa [MN (by grind)]at this
 have hyx:0<y-x:=by grind
 obtain⟨a1,a2⟩:=li hs (r1 x y hx hy (by grind));have hM1:0<=M1*(y-x):=MJ p1 (MF hyx)
 have far:∀z,Bd R z->Bd (M1*(y-x)) (a z)->k/(2*(M4+1))<=b z\/b z <= -(k/(2*(M4+1))):=λz hz ha=>by
  have e1:=(q3 z hz).mul ha
  have e2:2*(M3*(M1*(y-x)))<=k:=by have h1:=MJ h42 (MF hyx);grind
  have hB:(k<=2*(B z*b z))\/(2*(B z*b z) <= -k):=by
   obtain⟨f1,f2⟩:=e1;rcases hAB z with g |g
   ·left;grind
   ·right;grind
  rcases MM (a:=k/(2*(M4+1))) (b:=b z)with g |g
  ·exact .inl g
  ·rcases MM (a:=b z) (b := -(k/(2*(M4+1))))with g2 |g2
   ·exact .inr g2
   ·exfalso;have hb:Bd (k/(2*(M4+1))) (b z):=⟨g2,g⟩;obtain⟨f1,f2⟩:=(q4 z hz).mul hb
    have e3:2*(M4*(k/(2*(M4+1))))<k:=by
     have e4:k/(2*(M4+1))*(2*(M4+1))=k:=MN (by grind);have e5:=eX hk hT4;generalize k/(2*(M4+1))=w at *
     grind
    rcases hB with g3 |g3<;>grind
 refine⟨Classical.byContradiction λhs2=>?_,far x hx a1,far y hy a2⟩;obtain⟨b1,b2⟩:=li hs2 (r2 x y hx hy (by grind));obtain⟨e1,e2⟩:=(q3 x hx).mul a1;obtain⟨e3,e4⟩:=(q4 x hx).mul b1;have hM:0<=(M3*M1+M4*M2)*(y-x):=MJ (by grind) (MF hyx);have e5:M3*(M1*(y-x))+M4*(M2*(y-x))=(M3*M1+M4*M2)*(y-x):=by grind
 have e6:(y-x)*(2*(M3*M1+M4*M2+1))=2*((M3*M1+M4*M2)*(y-x))+2*(y-x):=by grind
 rcases hAB x with g |g<;>grind
def mr{row:List Ex}(h:SRow row){a b:Ex}{r:List Ex}(e:row=a::b::r):∃(A B:Rat->Rat) (k:Rat),Nice A/\Nice B/\0<k/\∀x,A x*pv a x+B x*pv b x=k\/A x*pv a x+B x*pv b x = -k:=by
 obtain⟨A,B,k,nA,nB,hk,hAB⟩:=bez h a b r e;rcases MM (a:=0) (b:=k)with g |g
 ·exact⟨A,B,k,nA,nB,by grind,λx=>.inl (hAB x)⟩
 ·exact⟨A,B,-k,nA,nB,by grind,λx=>.inr (by rw[hAB x];grind)⟩
noncomputable def vr:Int->Ex->Int
 |_,[]=>0
 |b,s::r=>(if s*b<0 then 1 else 0)+vr (if s=0 then b else s) r
theorem AH:∀(l:Ex) (n b:Int),l.foldl chF (n,b)=(n+vr b l,(l.foldl chF (n,b)).2)
 | [],n,b=>by show(n,b)=(n+0,b);rw[Nv]
 |s::r,n,b=>by
  show r.foldl chF (chF (n,b) s)=(n+((if s*b<0 then 1 else 0)+vr (if s=0 then b else s) r),(r.foldl chF (chF (n,b) s)).2)
  have e:chF (n,b) s=(n+(if s*b<0 then 1 else 0),if s=0 then b else s):=by
   unfold chF;by_cases h:s*b<0
   ·rw[if_pos h,if_pos h]
   ·rw[if_neg h,if_neg h,Nv]
  rw[e];have:=AH r (n+(if s*b<0 then 1 else 0)) (if s=0 then b else s);rw[Int.add_assoc]at this;exact this
def JK(l:Ex):(chS l).1=vr 0 l:=by unfold chS;rw[AH l 0 0];show 0+vr 0 l=_;omega
def jc(s:Int):Prop:=s=1\/s=0\/s = -1
inductive Al:Int->Ex->Ex->Prop
 |nil {b:Int}:Al b [] []
 |stab {b s:Int} {r r':Ex} (h:s≠0) (t:Al s r r'):Al b (s::r) (s::r')
 |unst {b s s':Int} {r r':Ex} (h1:jc s) (h2:jc s') (t:Al (-b) r r'):Al b (s :: -b::r) (s' :: -b::r')
def wa{b s:Int}(hb:b=1\/b = -1)(hs:jc s)(r:Ex):vr b (s :: -b::r)=1+vr (-b) r:=by
 have hb0:¬(-b=0):=by omega
 rcases hs with rfl |rfl |rfl
 ·rcases hb with rfl |rfl<;>simp[vr]
 ·rcases hb with rfl |rfl<;>simp[vr]
 ·rcases hb with rfl |rfl<;>simp[vr]
theorem Al.vr:∀{b:Int} {r r':Ex},Al b r r'->(b=1\/b = -1)->(∀s∈r,jc s)->RM.vr b r=RM.vr b r'
 |_,_,_,.nil,_,_=>rfl
 |b,_,_,.stab (s:=s) (r:=r) (r':=r') h t,hb,hu=>by
  have hs:jc s:=hu s (M0 ..);have hs':s=1\/s = -1:=by rcases hs with z |z |z;exact .inl z;exact absurd z h;exact .inr z
  have ih:=Al.vr t hs' λx hx=>hu x (MV _ hx)
  show _+RM.vr (if s=0 then b else s) r=_+RM.vr (if s=0 then b else s) r';rw[if_neg h,ih]
 |b,_,_,.unst h1 h2 t,hb,hu=>by
  have ih:=Al.vr t (by omega) λx hx=>hu x (MV _ (MV _ hx))
  rw[wa hb h1,wa hb h2,ih]
noncomputable def sgX(row:List Ex)(x:Rat):Ex:=row.map λf=>aj (pv f x)
def mW(v:Rat):jc (aj v):=by
 rcases bB v with⟨_,h⟩ |⟨_,h⟩ |⟨_,h⟩<;>rw[h]
 ·exact .inr (.inr rfl)
 ·exact .inr (.inl rfl)
 ·exact .inl rfl
def xK(row:List Ex)(x:Rat):∀s∈sgX row x,jc s:=λs hs=>by obtain⟨f,_,rfl⟩:=M8.mp hs;exact mW _
def Bb(row:List Ex)(R:Rat):Prop:=∃δ:Rat,0<δ/\∀x y,Bd R x->Bd R y->x<y->y-x<=δ->∀a r,row=a::r->Sta (pv a) x y->Al (aj (pv a x)) (sgX r x) (sgX r y)
def CP{c:Int}(h:c≠0):aj (c:Rat)≠0:=by
 rcases bB (c:Rat)with⟨_,e⟩ |⟨z,_⟩ |⟨_,e⟩
 ·rw[e];decide
 ·exact absurd (ND.mp (by rw[z];rfl)) h
 ·rw[e];decide
theorem zn:∀{row:List Ex},SRow row->∀R:Rat,0<=R->Bb row R/\Bb row.tail R
 |_,.last h,R,_=>⟨⟨1,by grind,λx y _ _ _ _ a r e _=>by cases e;exact .nil⟩,⟨1,by grind,λx y _ _ _ _ a r e _=>by cases e⟩⟩
 |_,.two (c:=c) h,R,_=>by refine⟨⟨1,by grind,λx y _ _ _ _ a r e _=>?_⟩,⟨1,by grind,λx y _ _ _ _ a r e _=>by cases e;exact .nil⟩⟩;cases e;show Al _ [aj (pv [c] x)] [aj (pv [c] y)];rw[nU,nU];exact .stab (CP h) .nil
 |_,.cons (a:=a) (b:=b) (c:=c) (r:=r) (q:=q) (α:=α) (β:=β) hα hβ eq h,R,hR=>by
  obtain⟨⟨δ1,d1,l1⟩,⟨δ2,d2,l2⟩⟩:=zn h R hR;refine⟨?_,⟨δ1,d1,l1⟩⟩;obtain⟨A,B,k,nA,nB,hk,hAB⟩:=mr h rfl;obtain⟨δ3,κ,d3,hκ,l3⟩:=oh (dD b) (dD c) nA nB hk hAB hR;obtain⟨M,m0,m1,m2⟩:=dD b R hR;obtain⟨N,n0,n1,_⟩:=dD q R hR;have hMN:=MJ n0 m0;have hT:0<N*M+1:=by grind
  have hβκ:=ML hβ hκ
  obtain⟨δ,hδ,g1,g2,g3,g4⟩:∃δ:Rat,0<δ/\δ<=δ1/\δ<=δ2/\δ<=δ3/\δ*(N*M+1)<=β*κ:=by
   have hw:=eX hβκ hT;have hw2:β*κ/(N*M+1)*(N*M+1)=β*κ:=MN (by grind)
   have two:∀u v:Rat,0<u->0<v->∃w:Rat,0<w/\w<=u/\w<=v:=λu v hu hv=>by
    rcases MM (a:=u) (b:=v)with z |z
    ·exact⟨u,hu,ME,z⟩
    ·exact⟨v,hv,z,ME⟩
   obtain⟨u,hu,u1,u2⟩:=two δ1 δ2 d1 d2;obtain⟨v,hv,v1,v2⟩:=two u δ3 hu d3;obtain⟨w,hw',w1,w2⟩:=two v _ hv hw;refine⟨w,hw',by grind,by grind,by grind,?_⟩;have:=Nw w2 (MF hT)
   rwa [hw2]at this
  refine⟨δ,hδ,λx y hx hy hxy hd a' r' e sa=>?_⟩;cases e;show Al (aj (pv a x)) (aj (pv b x)::sgX (c::r) x) (aj (pv b y)::sgX (c::r) y);by_cases sb:Sta (pv b) x y
  ·have t:=l1 x y hx hy hxy (by grind) b (c::r) rfl sb;rw[<- sb.1];exact .stab sb.2 t
  ·obtain⟨sc,c1,c2⟩:=l3 x y hx hy hxy (by grind) sb;obtain⟨b1,_⟩:=li sb (m2 x y hx hy (by grind));have hyx:0<y-x:=by grind
   have hop:aj (pv c x) = -aj (pv a x):=by
    obtain⟨f1,f2⟩:=(n1 x hx).mul b1;have e1:=eq x
    have e2:N*(M*(y-x))<β*κ:=by have h1:(y-x)*(N*M+1)<=δ*(N*M+1):=Nw hd (MF hT);grind
    rcases c1 with z |z
    ·have h2:β*κ<=β*pv c x:=MZ z (MF hβ);have h3:α*pv a x<0:=by grind
     have h4:pv a x<0:=by
      rcases MM (a:=0) (b:=pv a x)with w |w
      ·have:=MJ (MF hα) w;grind
      ·rcases bB (pv a x)with⟨w2,_⟩ |⟨w2,_⟩ |⟨w2,_⟩
       ·exact w2
       ·rw[w2]at h3;grind
       ·grind
     rcases bB (pv c x)with⟨w,_⟩ |⟨w,_⟩ |⟨_,w⟩
     ·grind
     ·grind
     ·rcases bB (pv a x)with⟨_,v⟩ |⟨v,_⟩ |⟨v,_⟩
      ·rw[w,v];decide
      ·grind
      ·grind
    ·have h2:β*pv c x<=β*(-κ):=MZ z (MF hβ);have h3:0<α*pv a x:=by grind
     have h4:0<pv a x:=by
      rcases bB (pv a x)with⟨w2,_⟩ |⟨w2,_⟩ |⟨w2,_⟩
      ·have:=MJ (MF hα) (show 0 <= -pv a x by grind);grind
      ·rw[w2]at h3;grind
      ·exact w2
     rcases bB (pv c x)with⟨_,w⟩ |⟨w,_⟩ |⟨w,_⟩
     ·rcases bB (pv a x)with⟨v,_⟩ |⟨v,_⟩ |⟨_,v⟩
      ·grind
      ·grind
      ·rw[w,v]
     ·grind
     ·grind
   have hop':aj (pv c y) = -aj (pv a x):=by rw[<- sc.1];exact hop
   have t:Al (aj (pv c x)) (sgX r x) (sgX r y):=l2 x y hx hy hxy (by grind) c r rfl sc;rw[hop]at t;show Al _ (_::aj (pv c x)::sgX r x) (_::aj (pv c y)::sgX r y);rw[hop,hop'];exact .unst (mW _) (mW _) t
noncomputable def bJ(f:Rat->Rat)(x y:Rat):Int:=if aj (f x)≠0/\aj (f y)≠aj (f x)then 1 else 0
noncomputable def kn(row:List Ex)(x:Rat):Int:=vr 0 (sgX row x)
def Bq{s:Int}(r:Ex):vr 0 (s::r)=vr s r:=by
 show(if s*0<0 then 1 else 0)+vr (if s=0 then 0 else s) r=_;rw[Nk,if_neg (by decide),NC];split
 ·rename_i h;rw[h]
 ·rfl
def Cb{F0 F1:Ex}{r:List Ex}(h:SRow (F0::F1::r)){γ:Rat}(hγ:0<γ)(hd:∀x,pv (slopeL F0) x=γ*pv F1 x){R:Rat}(hR:0<=R) :
 ∃δ:Rat,0<δ/\∀x y,Bd R x->Bd R y->x<y->y-x<=δ->kn (F0::F1::r) x-kn (F0::F1::r) y=bJ (pv F0) x y:=by
 obtain⟨⟨δ1,d1,l1⟩,⟨δ2,d2,l2⟩⟩:=zn h R hR;obtain⟨A,B,k,nA,nB,hk,hAB⟩:=mr h rfl;obtain⟨δ3,κ,d3,hκ,l3⟩:=oh (dD F0) (dD F1) nA nB hk hAB hR;obtain⟨M,m0,m1⟩:=sR F0 R hR;have hγκ:=ML hγ hκ
 obtain⟨δ,hδ,g1,g2,g3,g4⟩:∃δ:Rat,0<δ/\δ<=δ1/\δ<=δ2/\δ<=δ3/\δ*(M+1)<=γ*κ:=by
  have hT:0<M+1:=by grind
  have hw:=eX hγκ hT;have hw2:γ*κ/(M+1)*(M+1)=γ*κ:=MN (by grind)
  have two:∀u v:Rat,0<u->0<v->∃w:Rat,0<w/\w<=u/\w<=v:=λu v hu hv=>by
   rcases MM (a:=u) (b:=v)with z |z
   ·exact⟨u,hu,ME,z⟩
   ·exact⟨v,hv,z,ME⟩
  obtain⟨u,hu,u1,u2⟩:=two δ1 δ2 d1 d2;obtain⟨v,hv,v1,v2⟩:=two u δ3 hu d3;obtain⟨w,hw',w1,w2⟩:=two v _ hv hw;refine⟨w,hw',by grind,by grind,by grind,?_⟩;have:=Nw w2 (MF hT)
  rwa [hw2]at this
 refine⟨δ,hδ,λx y hx hy hxy hyd=>?_⟩;have e0:∀z,kn (F0::F1::r) z=vr (aj (pv F0 z)) (sgX (F1::r) z):=λz=>Bq _
 have nz:∀{v:Rat},aj v≠0->aj v=1\/aj v = -1:=λ{v} hv=>by rcases mW v with z |z |z;exact .inl z;exact absurd z hv;exact .inr z
 rw[e0,e0];by_cases s0:Sta (pv F0) x y
 ·have t:=(l1 x y hx hy hxy (by grind) F0 (F1::r) rfl s0).vr (nz s0.2) (xK _ _);rw[<- s0.1,t];unfold bJ;rw[if_neg (λz=>z.2 s0.1.symm)];omega
 ·obtain⟨s1,c1,c2⟩:=l3 x y hx hy hxy (by grind) s0;have t:=(l2 x y hx hy hxy (by grind) F1 r rfl s1).vr (nz s1.2) (xK _ _);have hyx:0<y-x:=by grind
  have hyy:0<(y-x)*(y-x):=ML hyx hyx;obtain⟨f1,f2⟩:=m1 x y hx hy (by grind)
  have small:M*((y-x)*(y-x))<(y-x)*(γ*κ):=by
   have h1:(y-x)*(M+1)<=γ*κ:=by have:=Nw hyd (show 0<=M+1 by grind);grind
   have h2:(y-x)*((y-x)*(M+1))<=(y-x)*(γ*κ):=MZ h1 (MF hyx);grind
  rw[hd]at f1 f2;show vr (aj (pv F0 x)) (aj (pv F1 x)::sgX r x)-vr (aj (pv F0 y)) (aj (pv F1 y)::sgX r y)=_
  have hu:∀(b s:Int) (l:Ex),s≠0->vr b (s::l)=(if s*b<0 then 1 else 0)+vr s l:=λb s l hs=>by show _+vr (if s=0 then b else s) l=_;rw[if_neg hs]
  have s1':aj (pv F1 y)=aj (pv F1 x):=s1.1.symm;rw[s1',hu _ _ _ s1.2,hu _ _ _ s1.2,t];unfold bJ;rcases c1 with z |z
  ·
   have h1:γ*κ<=γ*pv F1 x:=MZ z (MF hγ);have h2:(y-x)*(γ*κ)<=(y-x)*(γ*pv F1 x):=MZ h1 (MF hyx);have rise:pv F0 x<pv F0 y:=by grind
   have s1p:aj (pv F1 x)=1:=by
    rcases bB (pv F1 x)with⟨w,_⟩ |⟨w,_⟩ |⟨_,w⟩
    ·grind
    ·grind
    ·exact w
   rw[s1p];rcases bB (pv F0 x)with⟨a1,a2⟩ |⟨a1,a2⟩ |⟨a1,a2⟩<;>rcases bB (pv F0 y)with⟨b1,b2⟩ |⟨b1,b2⟩ |⟨b1,b2⟩
   ·exact absurd ⟨by rw[a2,b2],by rw[a2];decide⟩ s0
   ·rw[a2,b2];simp
   ·rw[a2,b2];simp
   ·grind
   ·grind
   ·rw[a2,b2];simp
   ·grind
   ·grind
   ·exact absurd ⟨by rw[a2,b2],by rw[a2];decide⟩ s0
  ·have h1:γ*pv F1 x<=γ*(-κ):=MZ z (MF hγ);have h2:(y-x)*(γ*pv F1 x)<=(y-x)*(γ*(-κ)):=MZ h1 (MF hyx);have fall:pv F0 y<pv F0 x:=by grind
   have s1p:aj (pv F1 x) = -1:=by
    rcases bB (pv F1 x)with⟨_,w⟩ |⟨w,_⟩ |⟨w,_⟩
    ·exact w
    ·grind
    ·grind
   rw[s1p];rcases bB (pv F0 x)with⟨a1,a2⟩ |⟨a1,a2⟩ |⟨a1,a2⟩<;>rcases bB (pv F0 y)with⟨b1,b2⟩ |⟨b1,b2⟩ |⟨b1,b2⟩
   ·exact absurd ⟨by rw[a2,b2],by rw[a2];decide⟩ s0
   ·grind
   ·grind
   ·rw[a2,b2];simp
   ·grind
   ·grind
   ·rw[a2,b2];simp
   ·rw[a2,b2];simp
   ·exact absurd ⟨by rw[a2,b2],by rw[a2];decide⟩ s0
def Kc(q:Rat):∃n:Nat,q<=(n:Rat):=by refine⟨q.ceil.toNat,MX (Rat.le_ceil (x:=q)) ?_⟩;have h:q.ceil<=(q.ceil.toNat:Int):=Int.self_le_toNat _;have h2:=Nh.mpr h;exact h2
def Gr(n:Nat):(n:Rat)<=2^n:=by
 induction n with
 |zero=>decide
 |succ n ih =>
  have h1:((1:Nat):Rat)<=2^n:=by
   have:(1:Nat)<=2^n:=Ou (by decide);have h2:((1:Nat):Rat)<=((2^n:Nat):Rat):=Rat.natCast_le_natCast.mpr this
   rwa [Rat.natCast_pow]at h2
  rw[NW,Rat.natCast_add];grind
def cN{n:Int}(hn:n≠0):(n:Rat)≠0:=λz=>hn (ND.mp (show((n:Int):Rat)=((0:Int):Rat) by rw[z];rfl))
def nE{t n t' n':Int}(hn:0<n)(hn':0<n'):(t:Rat)/(n:Rat)<(t':Rat)/(n':Rat)↔t*n'<t'*n:=by
 have p1:(0:Rat)<(n:Rat):=MP.mpr hn;have p2:(0:Rat)<(n':Rat):=MP.mpr hn';have e1:(t:Rat)/(n:Rat)*(n:Rat)=(t:Rat):=MN (by grind);have e2:(t':Rat)/(n':Rat)*(n':Rat)=(t':Rat):=MN (by grind);generalize (t:Rat)/(n:Rat)=q at e1 ⊢
 generalize (t':Rat)/(n':Rat)=q' at e2 ⊢
 rw[<- MP,MD,MD,<- e1,<- e2];have p3:=ML p1 p2;have e3:q*(n:Rat)*(n':Rat)=q*((n:Rat)*(n':Rat)):=by grind
 have e4:q'*(n':Rat)*(n:Rat)=q'*((n:Rat)*(n':Rat)):=by grind
 rw[e3,e4];constructor
 ·intro h;exact NB h p3
 ·intro h;refine Nx.mp λz=>?_
  have:=Nw z (MF p3);grind
def ju{p v:Rat}(hp:0<p):aj (p*v)=aj v:=by
 rcases bB v with⟨a,b⟩ |⟨a,b⟩ |⟨a,b⟩
 ·have:p*v<0:=by have:=ML hp (show 0 < -v by grind);grind
  rcases bB (p*v)with⟨_,d⟩ |⟨c,d⟩ |⟨c,d⟩
  ·rw[b,d]
  ·grind
  ·grind
 ·rw[a];have:p*0=0:=by grind
  rw[this]
 ·have:=ML hp a;rcases bB (p*v)with⟨c,d⟩ |⟨c,d⟩ |⟨_,d⟩
  ·grind
  ·grind
  ·rw[b,d]
def xM(z:Int):aj (z:Rat)=sg z:=by
 rcases bB (z:Rat)with⟨a,b⟩ |⟨a,b⟩ |⟨a,b⟩
 ·have:z<0:=MP.mp a;rw[b];unfold sg;rw[if_pos this]
 ·have:z=0:=ND.mp a;rw[this];rfl
 ·have:0<z:=MP.mp a;rw[b];unfold sg;rw[if_neg (by omega),if_pos this]
theorem ug{t n:Int}(hn:0<n):∀l:Ex,(hv t n l:Rat)=(n:Rat)^l.length*pv l ((t:Rat)/(n:Rat))
 | []=>by show((0:Int):Rat)=_*0;grind
 |c::l=>by
  have hn':(n:Rat)≠0:=cN (by omega);have hq:(t:Rat)/(n:Rat)*(n:Rat)=(t:Rat):=MN hn';rw[lR,Ni,MD,MD,ug hn l,Rat.intCast_pow];show _=(n:Rat)^(l.length+1)*((c:Rat)+(t:Rat)/(n:Rat)*pv l ((t:Rat)/(n:Rat)));rw[NW];generalize hqq:(t:Rat)/(n:Rat)=q at *
  rw[<- hq];grind
def eU{t n:Int}(hn:0<n)(l:Ex):sg (hv t n l)=aj (pv l ((t:Rat)/(n:Rat))):=by rw[<- xM,ug hn];exact ju (N7 (MP.mpr hn))
def Cop2(a b:Ex):Prop:=∀d,d≠[]->Tr d->Dv d a->Dv d b->d.length<=1
def Gj{one other:Ex}(ho:other≠[]):∀n,cP one other*cf one n=aH (cW one other) other n-(aA (cQ [] (bj one other)):Int)*cf (aO one other) n:=λn=>by
 have h1:=jZ (a:=one) ho n;have e:aO one other=al (cQ [] (bj one other)):=by unfold aO rst;rw[if_neg ho]
 have h2:=congrArg (λl=>cf l n) (mV (l:=cQ [] (bj one other)));simp only[bA]at h2
 have h3:cf (cQ [] (bj one other)) n = -cf (bj one other) n:=by rw[mK (gP _ _),bA];omega
 rw[e,h2,h3,h1];omega
def BP(one other:Ex):Tr (aO one other):=by unfold aO;exact fF (by unfold cQ;exact fD _)
def Gk{one other:Ex}(ho:other≠[]):(aO one other).length<other.length:=by
 have h1:=ig (a:=one) ho;unfold aO rst;rw[if_neg ho,mK (gP _ _)]
 have h2:(al (aM (-1) (bj one other))).length<=(aM (-1) (bj one other)).length:=by unfold al;rw[MC];exact MI _
 rw[dN]at h2;omega
def uc{l:Ex}(h:l.length<=1)(hne:l≠[]):∃c,l=[c]:=List.length_eq_one_iff.mp (by have:=MR.mpr hne;omega)
theorem np:∀(n:Nat) (one other:Ex),other.length<=n->Tr one->one≠[]->Tr other->Cop2 one other->SRow (bR (n+1) one other)
 |0,one,other,hl,to,no,tt,hc=>by have e0:other=[]:=NV (Nat.le_zero.mp hl);subst e0;have h1:=hc one no to (Dv.refl _) (Dv.nil _);obtain⟨c,rfl⟩:=uc h1 no;show SRow (if([c]:Ex)=[]then _ else[c]::bR 0 [] (aO [c] []));rw[if_neg no];exact .last (tr_snoc (r:=[]) |>.mp to)
 |n+1,one,other,hl,to,no,tt,hc=>by
  have e:bR (n+1+1) one other=one::bR (n+1) other (aO one other):=by show(if one=[]then _ else _)=_;rw[if_neg no]
  rw[e];by_cases ho:other=[]
  ·subst ho;have h1:=hc one no to (Dv.refl _) (Dv.nil _);obtain⟨c,rfl⟩:=uc h1 no;rw[kT];exact .last (tr_snoc (r:=[]) |>.mp to)
  have hs:=Gj (one:=one) ho;have hlen:=Gk (one:=one) ho;have tn:=BP one other;have fp:0<cP one other:=Jx ho tt;by_cases hn:aO one other=[]
  ·
   have hdv:Dv other one:=⟨cP one other,cW one other,by omega,λk=>by rw[hs k,hn,cI];omega⟩;have h1:=hc other ho tt hdv (Dv.refl _);obtain⟨c,rfl⟩:=uc h1 ho;rw[hn,DC ho (by omega)];exact .two (tr_snoc (r:=[]) |>.mp tt)
  ·have hc2:Cop2 other (aO one other):=λd dn dt h1 h2=>by
    refine hc d dn dt ?_ h1;refine Dv.up (f:=cP one other) (q:=cW one other) (r:=aM (-(aA (cQ [] (bj one other)):Int)) (aO one other)) (by omega) (λk=>?_) h1 ?_
    ·rw[hs k,bA,Int.neg_mul];omega
    ·exact Dv.prop_right (x:=1) (y := -(aA (cQ [] (bj one other)):Int)) (by decide) (λk=>by rw[bA];omega) h2
   have ih:=np n other (aO one other) (by omega) tt ho tn hc2;have e2:bR (n+1) other (aO one other)=other::bR n (aO one other) (aO other (aO one other)):=by show(if other=[]then _ else _)=_;rw[if_neg ho]
   have n1:0<n:=by have:=MR.mpr hn;omega
   obtain⟨m,rfl⟩:∃m,n=m+1:=⟨n-1,by omega⟩;have e3:bR (m+1) (aO one other) (aO other (aO one other))=aO one other::bR m (aO other (aO one other)) (aO (aO one other) (aO other (aO one other))):=by show(if aO one other=[]then _ else _)=_;rw[if_neg hn]
   rw[e2,e3]at ih ⊢
   have gp:0<(aA (cQ [] (bj one other)):Int):=by
    rcases OX (aA (cQ [] (bj one other)))with z |z
    ·exfalso;apply hn;refine tx tn λk=>?_
     have e:aO one other=al (cQ [] (bj one other)):=by unfold aO rst;rw[if_neg ho]
     rw[e];unfold al;rw[z];unfold cf;simp[List.getD];cases(cQ [] (bj one other))[k]? with
     |none=>rfl
     |some v=>simp
    ·omega
   refine .cons (q:=cW one other) (α:=(cP one other:Rat)) (β:=((aA (cQ [] (bj one other)):Int):Rat)) (MP.mpr fp) (MP.mpr gp) (λx=>?_) ih;have h1:=dg (a:=one) (c:=aM (cP one other) one) (u:=cP one other) x λk=>bA _ _ _
   have h2:=dB x (cW one other) other (aw (cW one other) other) (aW _ _);have h3:=iJ (a:=aw (cW one other) other) (b:=aO one other) (c:=aM (cP one other) one) (u:=1) (v := -(aA (cQ [] (bj one other)):Int)) x λk=>by rw[bA,hs k,aW,Int.neg_mul];omega
   rw[<- h1,h3,h2,NE];show((1:Int):Rat)*_+_=_;grind
def kD{l:Ex}(h:Tr l)(hne:l≠[]):0<(aA l:Int)/\Tr (al l)/\al l≠[]/\∀n,cf l n=(aA l:Int)*cf (al l) n:=by
 have e:=mV (l:=l)
 have ec:∀n,cf l n=(aA l:Int)*cf (al l) n:=λn=>by have:=congrArg (λz=>cf z n) e;simp only[bA]at this;exact this.symm
 have hl:(al l).length=l.length:=by unfold al;rw[MC]
 refine⟨?_,fF h,λz=>by rw[z]at hl;exact hne (NV hl.symm),ec⟩;rcases OX (aA l)with z |z
 ·exfalso;refine hne (tx h λk=>?_);rw[ec k,z];simp
 ·omega
def Cop2.shr{a b:Ex}(h:Cop2 a b)(ha:Tr a)(hna:a≠[])(hb:Tr b):Cop2 (al a) (al b):=λd dn dt h1 h2=>by
 obtain⟨_,_,_,ea⟩:=kD ha hna;refine h d dn dt (Dv.prop_right (x:=1) (y:=(aA a:Int)) (by decide) (λn=>by rw[ea n];omega) h1) ?_;by_cases hnb:b=[]
 ·rw[hnb];exact Dv.nil _
 ·obtain⟨_,_,_,eb⟩:=kD hb hnb;exact Dv.prop_right (x:=1) (y:=(aA b:Int)) (by decide) (λn=>by rw[eb n];omega) h2
noncomputable def sgv(row:List Ex)(t n:Int):Ex:=row.map λf=>sg (hv t n f)
def CA{t n:Int}(hn:0<n)(row:List Ex):sgv row t n=sgX row ((t:Rat)/(n:Rat)):=by unfold sgv sgX;exact N6 λf _=>eU hn f
theorem vt{C:Rat->Rat->Prop}(hadd:∀x y z,x<y->y<z->C x y->C y z->C x z){δ a b:Rat}(hδ:0<δ)(h:∀x y,a<=x->y<=b->x<y->y-x<=δ->C x y):∀(n:Nat) (x y:Rat),a<=x->y<=b->x<y->y-x<=2^n*δ->C x y
 |0,x,y,hx,hy,hxy,hd=>h x y hx hy hxy (by rw[Oz]at hd;grind)
 |n+1,x,y,hx,hy,hxy,hd=>by
  have m1:x<(x+y)/2:=by grind
  have m2:(x+y)/2<y:=by grind
  rw[NW]at hd;exact hadd x _ y m1 m2 (vt hadd hδ h n x _ hx (by grind) m1 (by grind)) (vt hadd hδ h n _ y (by grind) hy m2 (by grind))
def Cl{δ:Rat}(hδ:0<δ)(w:Rat):∃n:Nat,w<=2^n*δ:=by
 obtain⟨n,hn⟩:=Kc (w/δ);refine⟨n,?_⟩;have h1:w/δ<=2^n:=MX hn (Gr n);have h2:=Nw h1 (MF hδ)
 rwa [MN (by grind)]at h2
def gR(v:Rat):∃w:Rat,0<=w/\Bd w v:=by
 rcases MM (a:=0) (b:=v)with z |z
 ·exact⟨v,z,by grind,by grind⟩
 ·exact⟨-v,by grind,by grind,by grind⟩
structure Dya(B:Int)(d:Nat)(l1 l2 h1 h2:Int):Prop where
 l2p:0<l2
 h2p:0<h2
 gl:Nat.gcd l1.natAbs l2.natAbs=1
 gh:Nat.gcd h1.natAbs h2.natAbs=1
 at':∃m:Int,0<=m/\m+1<=2^d/\l1*2^d=(2*m*B-B*2^d)*l2/\h1*2^d=(2*(m+1)*B-B*2^d)*h2
def Am{X l1 l2:Int}{d k:Nat}(l2p:0<l2)(g:Nat.gcd l1.natAbs l2.natAbs=1)(e:l1*2^d=X*l2)(hX:X.natAbs<=2^k)(hk:d<=k):l1.natAbs<=2^k/\l2.natAbs<=2^k:=by
 have e':l1.natAbs*2^d=X.natAbs*l2.natAbs:=by have:=congrArg Int.natAbs e;rw[MW,MW,Int.natAbs_pow]at this;exact this
 have hd:l2.natAbs∣2^d:=by refine Nat.Coprime.dvd_of_dvd_mul_left (k:=l2.natAbs) (m:=l1.natAbs) (by rw[Nat.Coprime,Nat.gcd_comm];exact g) ?_;exact⟨X.natAbs,by rw[e',Nat.mul_comm]⟩
 have p2:0<2^d:=Ou (by decide);have hle:=Nat.le_of_dvd p2 hd;refine⟨?_,MU hle (Nat.pow_le_pow_right (by decide) hk)⟩;have h1:l1.natAbs*2^d<=X.natAbs*2^d:=by rw[e'];exact Oi _ hle
 exact MU (Nat.le_of_mul_le_mul_right h1 p2) hX
def yO{B D m:Int}{N:Nat}(hN:(N:Int)=B*D)(B0:0<B)(m0:0<=m)(m1:m<=D):(2*m*B-B*D).natAbs<=N:=by
 have k1:0<=m*B:=Nz m0 (Nd B0);have k2:m*B<=D*B:=OF m1 (Nd B0);have k4:D*B=B*D:=No _ _;have k5:2*m*B=2*(m*B):=OD _ _ _;rw[k5];generalize m*B=x at *
 generalize B*D=y at *
 omega
def Dya.bits{kb d:Nat}{l1 l2 h1 h2:Int}(h:Dya (2^kb) d l1 l2 h1 h2):(l1.natAbs<=2^(kb+d)/\l2.natAbs<=2^(kb+d))/\h1.natAbs<=2^(kb+d)/\h2.natAbs<=2^(kb+d):=by
 obtain⟨l2p,h2p,gl,gh,m,m0,m1,e1,e2⟩:=h;have B0:(0:Int)<2^kb:=NQ (by decide);have eq:(((2:Nat)^(kb+d):Nat):Int)=2^kb*2^d:=by rw[OQ,Int.pow_add];rfl
 exact⟨Am l2p gl e1 (yO eq B0 m0 (by omega)) (by omega),Am h2p gh e2 (yO eq B0 (by omega) m1) (by omega)⟩
def Dya.width{B:Int}{d:Nat}{l1 l2 h1 h2:Int}(h:Dya B d l1 l2 h1 h2):(h1*l2-l1*h2)*2^d=2*B*(l2*h2):=by obtain⟨l2p,h2p,gl,gh,m,m0,m1,e1,e2⟩:=h;grind
def Dya.lt{B:Int}(hB:0<B){d:Nat}{l1 l2 h1 h2:Int}(h:Dya B d l1 l2 h1 h2):l1*h2<h1*l2:=by
 have w:=h.width;have p:(0:Int)<2^d:=NQ (by decide);have q:0<2*B*(l2*h2):=MO (by omega) (MO h.l2p h.h2p);rw[<- w]at q
 have:0<h1*l2-l1*h2:=Int.not_le.mp λz=>by have:=Int.mul_nonpos_of_nonpos_of_nonneg z (Nd p);omega
 omega
def Dya.start{B:Int}:Dya B 0 (-B) 1 B 1:=⟨by decide,by decide,Nat.gcd_one_right _,Nat.gcd_one_right _,0,by decide,by decide,by grind,by grind⟩
def Dya.half{B:Int}{d:Nat}{l1 l2 h1 h2 c1 c2:Int}(h:Dya B d l1 l2 h1 h2)(c2p:0<c2)(gc:Nat.gcd c1.natAbs c2.natAbs=1)(e:c1*(2*l2*h2)=(l1*h2+h1*l2)*c2):Dya B (d+1) l1 l2 c1 c2/\Dya B (d+1) c1 c2 h1 h2:=by
 obtain⟨l2p,h2p,gl,gh,m,m0,m1,e1,e2⟩:=h
 have ec:c1*2^(d+1)=(2*(2*m+1)*B-B*2^(d+1))*c2:=by
  have hp:0<l2*h2:=MO l2p h2p;refine O4 (a:=l2*h2) (by omega) ?_;rw[M6];have q1:c1*(2^d*2)*(l2*h2)=c1*(2*l2*h2)*2^d:=by grind
  rw[q1,e];have q2:(l1*h2+h1*l2)*c2*2^d=(l1*2^d*h2+h1*2^d*l2)*c2:=by grind
  rw[q2,e1,e2];grind
 have p2:(2:Int)^(d+1)=2^d*2:=M6 ..;refine⟨⟨l2p,c2p,gl,gc,2*m,by omega,by omega,?_,ec⟩,⟨c2p,h2p,gc,gh,2*m+1,by omega,by omega,ec,?_⟩⟩
 ·rw[p2,<- OD,e1];grind
 ·rw[p2,<- OD,e2];grind
abbrev Rw:=Nat->Int
noncomputable def tl(r:Rw):Rw:=λj=>r (j+1)
noncomputable def zx(f:List Rw->Int):List Rw->List Rw->Int
 |_,[]=>0
 |pre,r::rs=>r 0*f (pre++rs)-zx f (pre++[r]) rs
noncomputable def D:Nat->List Rw->Int
 |0,_=>1
 |n+1,rows=>zx (λm=>D n (m.map tl)) [] rows
noncomputable def dp:Nat->List Rw->Int
 |_,[]=>1
 |k,r::rs=>r k*dp (k+1) rs
variable {ι:Type}
noncomputable def shr(k:Nat)(f:Rw):Rw:=λj=>if j<k then 0 else f (j-k)
noncomputable def By(k:Nat):Rw:=λj=>if j=k then 1 else 0
noncomputable def units:Nat->Nat->List Rw
 |_,0=>[]
 |k,n+1=>By k::units (k+1) n
noncomputable def z0(n:Nat)(r:Rw):Rw:=λj=>if j=n then 0 else r j
theorem ye(x:Rat)(m:Nat):∀n:Nat,x^(m+n)=x^m*x^n
 |0=>by rw[Oz,Rat.mul_one];rfl
 |n+1=>by rw[<- Nat.add_assoc,NW,NW,ye x m n,Rat.mul_assoc]
noncomputable def fc:Nat->Nat
 |0=>1
 |n+1=>(n+1)*fc n
noncomputable def iv(t:Int):Ex->Int
 | []=>0
 |c::l=>c+t*iv t l
def jL(a b:Rat):∃R:Rat,0<=R/\∀z,a<=z->z<=b->Bd R z:=by
 obtain⟨u,u0,u1⟩:=gR a;obtain⟨v,v0,v1⟩:=gR b
 exact⟨u+v,by grind,λz h1 h2=>by
  obtain⟨p1,p2⟩:=u1;obtain⟨p3,p4⟩:=v1
  constructor<;>grind⟩
def iq{C:Rat->Rat->Prop}{a b:Rat}(hab:a<b)(hadd:∀x y z,a<=x->x<y->y<z->z<=b->C x y->C y z->C x z){δ:Rat}(hδ:0<δ)(h:∀x y,a<=x->y<=b->x<y->y-x<=δ->C x y):C a b:=by
 obtain⟨n,hn⟩:=Cl hδ (b-a)
 exact vt (C:=λx y=>a<=x->y<=b->C x y) (λx y z h1 h2 c1 c2 g1 g2=>hadd x y z g1 h1 h2 g2 (c1 g1 (by grind)) (c2 (by grind) g2)) hδ (a:=a) (b:=b)
  (λx y hx hy hxy hd _ _=>h x y hx hy hxy hd) n a b ME ME hab hn ME ME
def uZ(f:Rat->Rat)(x y:Rat):0<=bJ f x y/\bJ f x y<=1:=by unfold bJ;split<;>omega
def g9{M:Rat}(hM:1<=M)(n:Nat):(1:Rat)<=M^n:=by
 induction n with
 |zero=>rw[Oz];grind
 |succ n ih=>rw[NW];have:=MZ hM (show(0:Rat)<=M^n by grind);grind
def stay{f:Rat->Rat}{a b L:Rat}(hab:a<b)(hL:∀x,a<=x->x<=b->Bd (L*(b-a)) (f x-f a))(h:¬Bd (L*(b-a)) (f a)):∃κ:Rat,0<κ/\((∀x,a<=x->x<=b->κ<=f x)\/(∀x,a<=x->x<=b->f x <= -κ)):=by
 by_cases p:f a<=L*(b-a)
 ·have q:f a < -(L*(b-a)):=by refine Nx.mp λq=>h ⟨q,p⟩
  exact⟨-(L*(b-a))-f a,by grind,.inr λx h1 h2=>by have:=(hL x h1 h2).2;grind⟩
 ·have p:=Nx.mp p;exact⟨f a-L*(b-a),by grind,.inl λx h1 h2=>by have:=(hL x h1 h2).1;grind⟩
def Eh{M:Rat}(hM:1<=M){m n:Nat}(h:m<=n):M^m<=M^n:=by obtain⟨d,rfl⟩:=Nat.exists_eq_add_of_le h;rw[ye];have:=MZ (g9 hM d) (show(0:Rat)<=M^m by have:=g9 hM m;grind);grind
def Em(l:Ex):∃e:Int,e*e=1/\∀n,cf (al l) n=e*cf (au l) n:=by
 unfold au cF;split
 ·exact⟨-1,by decide,λn=>by
   have e:(al l).map (λx => -x)=aM (-1) (al l):=by unfold aM;exact N6 λx _=>by omega
   rw[e,bA];omega⟩
 ·exact⟨1,by decide,λn=>by omega⟩
def iM{l:Ex}(h:Tr l)(hne:l≠[]):∃s:Int,s≠0/\∀n,cf l n=s*cf (au l) n:=by obtain⟨g,_,_,e⟩:=kD h hne;obtain⟨e1,h1,h2⟩:=Em l;refine⟨(aA l:Int)*e1,Na (by omega) (λz=>by rw[z]at h1;simp at h1),λn=>?_⟩;rw[e n,h2 n,OD]
def Dw{a b:Ex}(ha:Tr a)(hb:Tr b)(h:∀n,cf a n=cf b n):a=b:=by
 have hl:a.length=b.length:=by
  rcases Nat.lt_trichotomy a.length b.length with z |z |z
  ·exfalso;have:=hb (b.length-1) (by omega);rw[<- h]at this;exact this (by unfold cf;rw[List.getD_eq_getElem?_getD,List.getElem?_eq_none (by omega)];rfl)
  ·exact z
  ·exfalso;have:=ha (a.length-1) (by omega);rw[h]at this;exact this (by unfold cf;rw[List.getD_eq_getElem?_getD,List.getElem?_eq_none (by omega)];rfl)
 refine List.ext_getElem hl λi h1 h2=>?_
 have:=h i;unfold cf at this
 rw[List.getD_eq_getElem?_getD,List.getD_eq_getElem?_getD,List.getElem?_eq_getElem h1,List.getElem?_eq_getElem h2]at this;exact this
def Jt{d a b c:Ex}{k:Int}(hk:k≠0)(h:∀n,k*cf c n=cf a n+cf b n)(h1:Dv d a)(h2:Dv d b):Dv d c :=
 Dv.up (f:=k) (q:=[1]) (b:=a) (r:=b) hk (λn=>by rw[h n,tJ];omega) h1 h2
theorem wb:∀(l:Ex) (b:Int),0<=vr b l/\vr b l<=l.length
 | [],_=>⟨NZ _,NZ _⟩
 |s::r,b=>by have ih:=wb r (if s=0 then b else s);show 0<=(if s*b<0 then(1:Int)else 0)+_/\(if s*b<0 then(1:Int)else 0)+_<=_;rw[Ng];split<;>omega
noncomputable def cJ(kp:Ex):List Ex:=bR 9 (al kp) (al (slopeL kp))
noncomputable def vw(kp:Ex)(x:Rat):Int:=kn (cJ kp) x
def Bo{kp:Ex}(h:(cJ kp).length<=9)(x:Rat):0<=vw kp x/\vw kp x<=9:=by
 have:=wb (sgX (cJ kp) x) 0;have l:(sgX (cJ kp) x).length=(cJ kp).length:=by unfold sgX;rw[MC]
 show 0<=vr 0 _/\vr 0 _<=9;omega
def Bp{kp:Ex}{t n:Int}(hn:0<n):vr 0 (sgv (cJ kp) t n)=vw kp ((t:Rat)/(n:Rat)):=by rw[CA hn];rfl
def pN{m n:Nat}(h:m<=n):(2:Rat)^m<=2^n:=Eh (by decide +kernel) h
def Kg{l1 l2 r1 r2 pl pc a1 a2 c1 c2 x1 x2:Int}(ha:0<a2)(hc:0<c2)(e1:a1*pc=pl*a2)(e2:c1*(r2*a2)=r1*a1*c2)(e3:x1*(l2*c2)=(l1*c2+c1*l2)*x2) :
 x1*(l2*r2*pc)=(l1*r2*pc+r1*l2*pl)*x2:=by
 have h0:c2*a2≠0:=M7 (MO hc ha);refine O4 h0 ?_
 calc x1*(l2*r2*pc)*(c2*a2)=x1*(l2*c2)*(r2*pc*a2):=by grind
  _=(l1*c2+c1*l2)*x2*(r2*pc*a2):=by rw[e3]
  _=x2*(l1*c2*r2*pc*a2+l2*pc*(c1*(r2*a2))):=by grind
  _=x2*(l1*c2*r2*pc*a2+l2*pc*(r1*a1*c2)):=by rw[e2]
  _=x2*c2*(l1*r2*pc*a2+l2*r1*(a1*pc)):=by grind
  _=x2*c2*(l1*r2*pc*a2+l2*r1*(pl*a2)):=by rw[e1]
  _=(l1*r2*pc+r1*l2*pl)*x2*(c2*a2):=by grind
def J3{l r:Int}(hl:0<l)(hr:0<r){g:Nat}(hg:g=Nat.gcd l.natAbs r.natAbs):∃l' r':Int,0<l'/\0<r'/\(0:Int)<g/\l=g*l'/\r=g*r'/\l*r/g=l*r'/\l*r'/l=r'/\l*r'/r=l'/\0<l*r':=by
 have g0:0<g:=by rw[hg];exact Nat.gcd_pos_of_pos_left _ (by omega)
 have gi:(0:Int)<g:=by omega
 obtain⟨l',hl'⟩:(g:Int)∣l:=OO.mp (by rw[Nt,hg];exact N4 _ _);obtain⟨r',hr'⟩:(g:Int)∣r:=OO.mp (by rw[Nt,hg];exact Ov _ _);have l0:0<l':=O5 (a:=(g:Int)) (by rw[Nk,<- hl'];exact hl) (Nd gi);have r0:0<r':=O5 (a:=(g:Int)) (by rw[Nk,<- hr'];exact hr) (Nd gi);refine⟨l',r',l0,r0,gi,hl',hr',?_,?_,?_,MO hl r0⟩
 ·have e:l*r=(l*r')*g:=by
   calc l*r=l*(g*r'):=by rw[<- hr']
    _=(l*r')*g:=by grind
  rw[e];exact Int.mul_ediv_cancel _ (M7 gi)
 ·exact Int.mul_ediv_cancel_left _ (M7 hl)
 ·have e:l*r'=l'*r:=by
   calc l*r'=(g*l')*r':=by rw[<- hl']
    _=l'*(g*r'):=by grind
    _=l'*r:=by rw[<- hr']
  rw[e];exact Int.mul_ediv_cancel _ (M7 hr)
def GX{l:Ex}(h:l.length=1):∃a,l=[a]:=by
 cases l with
 |nil=>cases h
 |cons a t=>exact⟨a,by rw[NV (Nat.succ.inj h)]⟩
def oF{l:Ex}(h:l.length=2):∃a b,l=[a,b]:=by
 cases l with
 |nil=>cases h
 |cons a t=>obtain⟨b,rfl⟩:=GX (Nat.succ.inj h);exact⟨a,b,rfl⟩
def lE{l:Ex}(h:l.length=3):∃a b c,l=[a,b,c]:=by
 cases l with
 |nil=>cases h
 |cons a t=>obtain⟨b,c,rfl⟩:=oF (Nat.succ.inj h);exact⟨a,b,c,rfl⟩
structure Cnt(f:Rat->Rat)(V:Rat->Int):Prop where
 pc:∀R:Rat,0<=R->∃δ:Rat,0<δ/\∀x y,Bd R x->Bd R y->x<y->y-x<=δ->V x-V y=bJ f x y
 nc:Nice f
 nr:∀a b:Rat,a<b->∃u,a<u/\u<b/\f u≠0
def dj{a b:Rat}(h:a<=b):a<b\/a=b:=by
 by_cases z:a=b
 ·exact .inr z
 ·exact .inl (by grind)
def f7(a b:Rat):a<b\/a=b\/b<a:=by
 by_cases z:a=b
 ·exact .inr (.inl z)
 ·by_cases y:a<b
  ·exact .inl y
  ·exact .inr (.inr (by grind))
def sg_ne{v:Rat}:aj v≠0↔v≠0:=by rcases bB v with⟨h,e⟩ |⟨h,e⟩ |⟨h,e⟩<;>rw[e]<;>constructor<;>intro z<;>first |decide |grind
def xJ{u v:Rat}(hu:u≠0)(hv:v≠0)(h:aj v≠aj u):aj v = -aj u:=by rcases bB v with⟨_,e⟩ |⟨z,e⟩ |⟨_,e⟩<;>rcases bB u with⟨_,e'⟩ |⟨z',e'⟩ |⟨_,e'⟩<;>rw[e,e']at h ⊢<;>first |rfl |exact absurd rfl h |exact absurd z hv |exact absurd z' hu
def JI{f:Rat->Rat}{x y:Rat}(h:bJ f x y=0)(hx:f x≠0):aj (f y)=aj (f x):=by
 unfold bJ at h
 split at h
 ·cases h
 ·next z =>apply Classical.byContradiction;intro q;exact z ⟨sg_ne.mpr hx,q⟩
def i9{f:Rat->Rat}{x y:Rat}(h:bJ f x y=1):f x≠0/\aj (f y)≠aj (f x):=by
 unfold bJ at h
 split at h
 ·next z=>exact⟨sg_ne.mp z.1,z.2⟩
 ·cases h
section
variable {f g:Rat->Rat}{V W:Rat->Int}{a b:Rat}
def Cnt.loc(h:Cnt f V)(a b:Rat):∃δ:Rat,0<δ/\∀x y,a<=x->x<y->y<=b->y-x<=δ->V x-V y=bJ f x y:=by obtain⟨R,hR,hB⟩:=jL a b;obtain⟨δ,hδ,hp⟩:=h.pc R hR;exact⟨δ,hδ,λx y h1 h2 h3 h4=>hp x y (hB x h1 (by grind)) (hB y (by grind) h3) h2 h4⟩
def Cnt.mono(h:Cnt f V)(hab:a<b):V b<=V a:=by
 obtain⟨δ,hδ,hp⟩:=h.loc a b;refine iq (C:=λx y=>V y<=V x) hab (λx y z _ _ _ _ h1 h2=>Int.le_trans h2 h1) hδ λx y hx hy hxy hd=>?_
 have:=hp x y hx hxy hy hd;have:=(uZ f x y).1;show V y<=V x;omega
def Cnt.le(h:Cnt f V)(hab:a<=b):V b<=V a:=by
 rcases dj hab with z |z
 ·exact h.mono z
 ·rw[z];exact NZ _
def Cnt.const(h:Cnt f V)(hab:a<b)(e:V a=V b)(fa:f a≠0):aj (f b)=aj (f a):=by
 obtain⟨δ,hδ,hp⟩:=h.loc a b;refine iq (C:=λx y=>f x≠0->aj (f y)=aj (f x)) hab (λx y z _ _ _ _ h1 h2 hx=>?_) hδ (λx y hx hy hxy hd fx=>?_) fa
 ·have e1:=h1 hx;rw[<- e1];exact h2 (sg_ne.mp (by rw[e1];exact sg_ne.mpr hx))
 ·have h1:=hp x y hx hxy hy hd;have h2:=h.le hx;have h3:=h.le hy;have h4:=h.mono hxy;exact JI (by omega) fx
def Cnt.free(h:Cnt f V)(hab:a<b)(e:V a=V b){z:Rat}(h1:a<z)(h2:z<=b):f z≠0:=λhz=>by obtain⟨u,u1,u2,hu⟩:=h.nr a z h1;have m1:=h.mono u1;have m2:=h.mono u2;have m3:=h.le h2;have:=h.const u2 (by omega) hu;exact sg_ne.mpr hu (by rw[<- this,hz];rfl)
def Cnt.like(h:Cnt f V)(hab:a<b)(e:V a=V b){x y:Rat}(x1:a<x)(x2:x<=b)(y1:a<y)(y2:y<=b):aj (f x)=aj (f y):=by
 have key:∀{x y:Rat},a<x->y<=b->x<y->aj (f y)=aj (f x):=λ{x y} g1 g2 g3=>by have m1:=h.mono g1;have m2:=h.mono g3;have m3:=h.le g2;exact h.const g3 (by omega) (h.free hab e g1 (by grind))
 rcases f7 x y with z |z |z
 ·exact(key x1 y2 z).symm
 ·rw[z]
 ·exact key y1 x2 z
def Nice.near(h:Nice f)(a:Rat)(fa:f a≠0):∃η:Rat,0<η/\∀z,a<=z->z<=a+η->aj (f z)=aj (f a):=by
 obtain⟨w,w0,hw⟩:=gR a;obtain⟨M,m0,_,m2⟩:=h (w+1) (by grind)
 obtain⟨p,hp,hp1,hp2⟩:∃p:Rat,0<p/\(f a=p\/f a = -p)/\0<M+1:=by
  rcases f7 (f a) 0 with z |z |z
  ·exact⟨-f a,by grind,.inr (by grind),by grind⟩
  ·exact absurd z fa
  ·exact⟨f a,z,.inl rfl,by grind⟩
 obtain⟨η,h1,h2,h3⟩:∃η:Rat,0<η/\η<=1/\M*η<p:=by
  have q:0<p/(M+1):=eX hp hp2;have e:p/(M+1)*(M+1)=p:=MN (by grind);rcases MM (a:=p/(M+1)) (b:=1)with z |z
  ·exact⟨_,q,z,by generalize p/(M+1)=t at *;grind⟩
  ·exact⟨1,by decide,by decide,by
    generalize p/(M+1)=t at *
    have:=MJ (show 0<=t-1 by grind) (show 0<=M+1 by grind)
    grind⟩
 refine⟨η,h1,λz z1 z2=>?_⟩;obtain⟨b1,b2⟩:=hw;obtain⟨c1,c2⟩:=m2 a z ⟨by grind,by grind⟩ ⟨by grind,by grind⟩ z1;have d:M*(z-a)<=M*η:=MZ (by grind) m0;rcases hp1 with e |e
 ·rw[e]at c1 c2 ⊢;unfold aj;rw[if_neg (by grind),if_pos (by grind),if_neg (by grind),if_pos hp]
 ·rw[e]at c1 c2 ⊢;unfold aj;rw[if_pos (by grind),if_pos (by grind)]
def Cnt.start(h:Cnt f V)(hab:a<b):∃z,a<z/\z<=b/\V z=V a:=by
 obtain⟨δ,hδ,hp⟩:=h.loc a b
 obtain⟨η,hη,hs⟩:∃η:Rat,0<η/\∀z,a<=z->z<=a+η->f a≠0->aj (f z)=aj (f a):=by
  by_cases z:f a=0
  ·exact⟨1,by decide,λ_ _ _ q=>absurd z q⟩
  ·obtain⟨η,h1,h2⟩:=h.nc.near a z;exact⟨η,h1,λz g1 g2 _=>h2 z g1 g2⟩
 obtain⟨e,e0,e1,e2,e3⟩:∃e:Rat,0<e/\e<=δ/\e<=η/\a+e<=b:=by
  rcases MM (a:=δ) (b:=η)with z |z
  ·rcases MM (a:=δ) (b:=b-a)with y |y
   ·exact⟨δ,hδ,ME,z,by grind⟩
   ·exact⟨b-a,by grind,y,by grind,by grind⟩
  ·rcases MM (a:=η) (b:=b-a)with y |y
   ·exact⟨η,hη,z,ME,by grind⟩
   ·exact⟨b-a,by grind,by grind,y,by grind⟩
 refine⟨a+e,by grind,e3,?_⟩;have h1:=hp a (a+e) ME (by grind) e3 (by grind)
 have h2:bJ f a (a+e)=0:=by unfold bJ;rw[if_neg];rintro⟨q1,q2⟩;exact q2 (hs _ (by grind) (by grind) (sg_ne.mp q1))
 omega
def Cnt.bis(h:Cnt f V)(hab:a<b)(h1:V a-V b=1){δ:Rat}(hδ:0<δ):∃u v,a<=u/\u<v/\v<=b/\v-u<=δ/\V u=V a/\V v=V b:=by
 apply Classical.byContradiction;intro hn
 have:=iq (C:=λx y=>V x=V a->V y=V a) hab (λx y z _ _ _ _ c1 c2 e=>c2 (c1 e)) hδ (λx y hx hy hxy hd e=>by
  apply Classical.byContradiction;intro q;have m1:=h.mono hxy;have m2:=h.le hy;have m3:=h.le hx
  exact hn ⟨x,y,hx,hxy,hy,hd,e,by omega⟩) rfl
 omega
def Cnt.cross(h:Cnt f V)(hab:a<b)(h1:V a-V b=1)(fa:f a≠0)(fb:f b≠0):aj (f b) = -aj (f a):=by
 obtain⟨δ,hδ,hp⟩:=h.loc a b;obtain⟨u,v,u1,u2,u3,u4,e1,e2⟩:=h.bis hab h1 (δ:=δ/2) (by grind);obtain⟨fu,sv⟩:=i9 (by rw[<- hp u v u1 u2 u3 (by grind)];omega)
 have su:aj (f u)=aj (f a):=by
  rcases dj u1 with z |z
  ·exact h.const z e1.symm fa
  ·rw[z]
 rw[<- su];by_cases fv:f v=0
 ·have vb:v<b:=by
   rcases dj u3 with z |z
   ·exact z
   ·rw[z]at fv;exact absurd fv fb
  obtain⟨c,c1,c2,c3⟩:∃c,v<c/\c<=b/\c<=v+δ/2:=by
   rcases MM (a:=b) (b:=v+δ/2)with z |z
   ·exact⟨b,vb,ME,z⟩
   ·exact⟨v+δ/2,by grind,z,ME⟩
  obtain⟨w,w1,w2,fw⟩:=h.nr v c c1;have m1:=h.mono w1;have m2:=h.mono (show w<b by grind);obtain⟨_,sw⟩:=i9 (x:=u) (y:=w) (by rw[<- hp u w u1 (by grind) (by grind) (by grind)];omega);rw[h.const (show w<b by grind) (by omega) fw];exact xJ fu fw sw
 ·have sb:aj (f b)=aj (f v):=by
   rcases dj u3 with z |z
   ·exact h.const z e2 fv
   ·rw[z]
  rw[sb];exact xJ fu fv sv
def Cnt.ru(h:Cnt f V)(hab:a<b)(h1:V a-V b=1):∃ε:Int,(ε=1\/ε = -1)/\(∀z,a<z->z<=b->V z=V a->aj (f z) = -ε)/\(∀z,a<z->z<=b->V z=V b->aj (f z)=ε\/f z=0)/\(∀z y,a<z->z<y->y<=b->V z=V b->aj (f y)=ε):=by
 obtain⟨z0,z1,z2,e0⟩:=h.start hab;have f0:=h.free z1 e0.symm z1 ME
 have right:∀y,a<y->y<=b->V y=V b->f y≠0->aj (f y) = -aj (f z0):=λy y1 y2 ey fy=>by
  have lt:z0<y:=Nx.mp λq=>by have:=h.le q;omega
  exact h.cross lt (by omega) f0 fy
 refine⟨-aj (f z0),?_,λz g1 g2 e=>?_,λz g1 g2 e=>?_,λz y g1 g2 g3 e=>?_⟩
 ·rcases bB (f z0)with⟨_,q⟩ |⟨q,_⟩ |⟨_,q⟩
  ·rw[q];exact .inl rfl
  ·exact absurd q f0
  ·rw[q];exact .inr rfl
 ·rw[Int.neg_neg];rcases MM (a:=z) (b:=z0)with q |q
  ·exact h.like z1 e0.symm g1 q z1 ME
  ·exact h.like g1 e.symm g1 ME z1 q
 ·by_cases fz:f z=0
  ·exact .inr fz
  ·exact .inl (right z g1 g2 e fz)
 ·have m1:=h.mono g2;have m2:=h.le g3;exact right y (by grind) g3 (by omega) (h.free g2 (by omega) g2 ME)
noncomputable def zf(f:Rat->Rat)(x:Rat):Int:=if aj (f x)=0 then 1 else 0
end
def fI{a b c:Rat}(hc:0<c)(h:a*c<=b*c):a<=b:=Nj.mp λz=>by have:=NB z hc;grind
def xL(v:Rat):aj (-v) = -aj v:=by rcases bB v with⟨h,e⟩ |⟨h,e⟩ |⟨h,e⟩<;>rcases bB (-v)with⟨h2,e2⟩ |⟨h2,e2⟩ |⟨h2,e2⟩<;>rw[e,e2]<;>first |rfl | (exfalso;grind)
structure Flt(P:Ex):Prop where
 tr:Tr P
 l2:2<=P.length
 l8:P.length<=9
 cop:Cop2 P (slopeL P)
def Flt.ne{P:Ex}(h:Flt P):P≠[]:=λz=>by have:=h.l2;rw[z]at this;simp at this
def Flt.cnt{P:Ex}(h:Flt P):Cnt (pv P) (vw P):=by
 have tP:=h.tr;have nP:=h.ne;have h2:=h.l2;have h8:=h.l8;have tS:=wn tP;have lS':=oG P;have hs:slopeL P≠[]:=λz=>by rw[z]at lS';simp at lS';omega
 obtain⟨g0,t0,n0,e0⟩:=kD tP nP;obtain⟨g1,t1,n1,e1⟩:=kD tS hs;have copS:=h.cop.shr tP nP tS;have lS:(al (slopeL P)).length=P.length-1:=by unfold al;rw[MC,oG]
 have hst:=np 8 (al P) (al (slopeL P)) (by omega) t0 n0 (fF tS) copS
 have er:bR 9 (al P) (al (slopeL P))=al P::al (slopeL P)::bR 7 (aO (al P) (al (slopeL P))) (aO (al (slopeL P)) (aO (al P) (al (slopeL P)))):=by show(if al P=[]then _ else al P::(if al (slopeL P)=[]then _ else _))=_;rw[if_neg n0,if_neg n1]
 rw[er]at hst;have ev:∀x,vw P x=kn (al P::al (slopeL P)::bR 7 (aO (al P) (al (slopeL P))) (aO (al (slopeL P)) (aO (al P) (al (slopeL P))))) x:=λx=>by unfold vw cJ;rw[er]
 have g0':(0:Rat)<((aA P:Int):Rat):=MP.mpr g0;have g1':(0:Rat)<((aA (slopeL P):Int):Rat):=MP.mpr g1
 have hd:∀x,pv (slopeL (al P)) x=((aA (slopeL P):Int):Rat)/((aA P:Int):Rat)*pv (al (slopeL P)) x:=λx=>by
  have h1:=dg (a:=slopeL (al P)) (c:=slopeL P) (u:=(aA P:Int)) x λk=>by rw[d6,d6,e0 (k+1)];grind
  have h2:=dg (a:=al (slopeL P)) (c:=slopeL P) (u:=(aA (slopeL P):Int)) x e1;have h3:((aA (slopeL P):Int):Rat)/((aA P:Int):Rat)*((aA P:Int):Rat)=((aA (slopeL P):Int):Rat):=MN (by grind);rw[h1]at h2
  have h4:((aA P:Int):Rat)*pv (slopeL (al P)) x=((aA P:Int):Rat)*(((aA (slopeL P):Int):Rat)/((aA P:Int):Rat)*pv (al (slopeL P)) x):=by
   rw[h2];generalize ((aA (slopeL P):Int):Rat)/((aA P:Int):Rat)=w at *
   rw[<- h3];grind
  generalize pv (slopeL (al P)) x=u at *
  generalize ((aA (slopeL P):Int):Rat)/((aA P:Int):Rat)*pv (al (slopeL P)) x=v at *
  have h5:((aA P:Int):Rat)*(u-v)=0:=by grind
  rcases MQ.mp h5 with z |z
  ·grind
  ·grind
 have hγ:=eX g1' g0';have hv:∀x,pv P x=((aA P:Int):Rat)*pv (al P) x:=λx=>dg x e0
 have hsg:∀x,aj (pv P x)=aj (pv (al P) x):=λx=>by rw[hv];exact ju g0'
 refine⟨λR hR=>?_,dD P,λa b hab=>?_⟩
 ·obtain⟨δ,hδ,hp⟩:=Cb hst hγ hd hR;refine⟨δ,hδ,λx y hx hy hxy hyd=>?_⟩;rw[ev,ev,hp x y hx hy hxy hyd];unfold bJ;rw[hsg,hsg]
 ·apply Classical.byContradiction;intro hn
  have zero:∀u,a<u->u<b->pv (al P) u=0:=λu u1 u2=>by
   have:pv P u=0:=Classical.byContradiction λq=>hn ⟨u,u1,u2,q⟩
   rw[hv]at this;rcases MQ.mp this with z |z
   ·grind
   ·exact z
  obtain⟨A,B,k,nA,nB,hk,hAB⟩:=mr hst rfl;obtain⟨R,hR,hB⟩:=jL a b;obtain⟨M,m0,m1⟩:=sR (al P) R hR;obtain⟨m,hm1,hm2⟩:∃m:Rat,a<m/\m<b:=⟨(a+b)/2,by grind,by grind⟩
  have hsl:pv (slopeL (al P)) m=0:=by
   have key:∀e:Rat,0<e->m+e<b->Bd (M*e) (pv (slopeL (al P)) m):=λe e0 e1=>by
    have:=m1 m (m+e) (hB m (by grind) (by grind)) (hB (m+e) (by grind) (by grind)) (by grind);rw[zero m hm1 hm2,zero (m+e) (by grind) e1]at this;obtain⟨p,q⟩:=this;have ee:m+e-m=e:=by grind
    rw[ee]at p q;generalize pv (slopeL (al P)) m=s at *
    constructor
    ·exact fI e0 (by grind)
    ·exact fI e0 (by grind)
   generalize pv (slopeL (al P)) m=s at *
   apply Classical.byContradiction;intro hs0
   obtain⟨t,t0,ht⟩:∃t:Rat,0<t/\(s=t\/s = -t):=by
    rcases f7 s 0 with z |z |z
    ·exact⟨-s,by grind,.inr (by grind)⟩
    ·exact absurd z hs0
    ·exact⟨s,z,.inl rfl⟩
   have q0:0<t/(M+1):=eX t0 (by grind);have qe:t/(M+1)*(M+1)=t:=MN (by grind);generalize t/(M+1)=w at *
   obtain⟨e,e0,e1,e2⟩:∃e:Rat,0<e/\m+e<b/\e<=w:=by
    rcases MM (a:=w) (b:=(b-m)/2)with z |z
    ·exact⟨w,q0,by grind,ME⟩
    ·exact⟨(b-m)/2,by grind,by grind,z⟩
   obtain⟨p,q⟩:=key e e0 e1;have:=MZ e2 m0;rcases ht with r |r<;>grind
  rw[hd m]at hsl
  have hF1:pv (al (slopeL P)) m=0:=by
   rcases MQ.mp hsl with z |z
   ·rw[z]at hγ;exact absurd hγ (by decide)
   ·exact z
  have:=hAB m;rw[zero m hm1 hm2,hF1]at this;grind
def uO{d P p q:Ex}{c:Int}(hc:c≠0)(e:∀n,c*cf P n=aH q p n)(h:(Dv d q/\Dv d p)\/(Dv d p/\Dv d (slopeL p))):Dv d P/\Dv d (slopeL P):=by
 have e1:∀n,c*cf (slopeL P) n=cf (aw (slopeL q) p) n+cf (aw q (slopeL p)) n:=λn=>by have:=qz q p n;rw[aW,aW,<- this,d6,d6,aW,<- e];grind
 have hp:Dv d p:=by rcases h with⟨_,z⟩ |⟨z,_⟩<;>exact z
 have hP:Dv d P:=hp.trans ⟨c,q,hc,e⟩;refine⟨hP,Jt hc e1 (hp.trans (Dv.mul_right _ _)) ?_⟩;rcases h with⟨z,_⟩ |⟨_,z⟩
 ·exact z.trans (Dv.mul_left _ _)
 ·exact z.trans (Dv.mul_right _ _)
def kI(a b:Rat):aj (a*b)=aj a*aj b:=by
 rcases bB a with⟨h,e⟩ |⟨h,e⟩ |⟨h,e⟩
 ·have e1:a*b = -((-a)*b):=by grind
  have e2:aj ((-a)*b)=aj b:=ju (by grind);rw[e,e1,xL,e2];omega
 ·rw[e,h,Rat.zero_mul,NN];rfl
 ·rw[ju h,e,M9]
def CF{C a b a' b' g g':Rat}(hC:C≠0)(e1:C*a=g*a')(e2:C*b=g'*b')(z:aj b=aj a)(s1:aj g=aj g')(s2:aj g≠0):aj b'=aj a':=by have f1:=congrArg aj e1;have f2:=congrArg aj e2;rw[kI,kI]at f1 f2;rw[z,f1,<- s1]at f2;exact(OG s2 f2).symm
def Flt.dv{P p:Ex}(h:Flt P)(tp:Tr p)(l2:2<=p.length)(l8:p.length<=9)(hd:Dv p P):Flt p:=by obtain⟨c,q,hc,e⟩:=hd;refine⟨tp,l2,l8,λd dn dt h1 h2=>?_⟩;obtain⟨a,b⟩:=uO hc e (.inr ⟨h1,h2⟩);exact h.cop d dn dt a b
def Flt.le{P p:Ex}(h:Flt P)(hp:Flt p)(hd:Dv p P){x y:Rat}(hxy:x<y):vw p x-vw p y<=vw P x-vw P y:=by
 obtain⟨c,q,hc,tq,e⟩:=hd.trim;have hP:=h.cnt;have hpc:=hp.cnt
 have nq:q≠[]:=λz=>by
  have:=h.ne;apply this;refine Dw h.tr (λn hn=>absurd hn (by simp)) λn=>?_
  have e1:=e n;rw[z,dL]at e1;rw[cI];rcases Int.mul_eq_zero.mp e1 with r |r
  ·exact absurd r hc
  ·exact r
 have cop:Cop2 p q:=λd dn dt h1 h2=>by obtain⟨a,b⟩:=uO hc e (.inl ⟨h2,h1⟩);exact h.cop d dn dt a b
 have hst:=np q.length p q (MI _) hp.tr hp.ne tq cop
 obtain⟨r,er⟩:∃r,bR (q.length+1) p q=p::q::r:=by have hq:0<q.length:=MR.mpr nq;obtain⟨m,hm⟩:∃m,q.length=m+1:=⟨q.length-1,by omega⟩;refine⟨bR m (aO p q) (aO q (aO p q)),?_⟩;rw[hm];show(if p=[]then _ else p::(if q=[]then _ else _))=_;rw[if_neg hp.ne,if_neg nq]
 obtain⟨A,B,k,nA,nB,hk,hAB⟩:=mr hst er;obtain⟨R,hR,hB⟩:=jL x y;obtain⟨δ3,κ,d3,hκ,l3⟩:=oh (dD p) (dD q) nA nB hk hAB hR;obtain⟨δ1,d1,p1⟩:=hP.loc x y;obtain⟨δ2,d2,p2⟩:=hpc.loc x y
 obtain⟨δ,hδ,f1,f2,f3⟩:∃δ:Rat,0<δ/\δ<=δ1/\δ<=δ2/\δ<=δ3:=by
  rcases MM (a:=δ1) (b:=δ2)with z |z
  ·rcases MM (a:=δ1) (b:=δ3)with w |w
   ·exact⟨δ1,d1,ME,z,w⟩
   ·exact⟨δ3,d3,w,MX w z,ME⟩
  ·rcases MM (a:=δ2) (b:=δ3)with w |w
   ·exact⟨δ2,d2,z,ME,w⟩
   ·exact⟨δ3,d3,MX w z,w,ME⟩
 have val:∀u,(c:Rat)*pv P u=pv q u*pv p u:=λu=>by
  have:=dB u q p (aM c P) λn=>by rw[bA,e]
  rw[<- this,dg (a:=P) (u:=c) u (bA _ _)]
 have hC:(c:Rat)≠0:=cN hc;refine iq (C:=λu v=>vw p u-vw p v<=vw P u-vw P v) hxy (λu v w _ _ _ _ c1 c2=>by show vw p u-vw p w<=vw P u-vw P w;omega) hδ λu v hu hv huv hd=>?_
 show vw p u-vw p v<=vw P u-vw P v;rw[p1 u v hu huv hv (by grind),p2 u v hu huv hv (by grind)];by_cases hs:bJ (pv p) u v=0
 ·rw[hs];exact(uZ _ _ _).1
 have h1:bJ (pv p) u v=1:=by have:=uZ (pv p) u v;omega
 obtain⟨pu,psv⟩:=i9 h1;obtain⟨⟨s1,s2⟩,_,_⟩:=l3 u v (hB u hu (by grind)) (hB v (by grind) hv) huv (by grind) λz=>psv z.1.symm
 have qu:pv q u≠0:=sg_ne.mp s2;have qv:pv q v≠0:=sg_ne.mp (by rw[<- s1];exact s2)
 have:bJ (pv P) u v=1:=by
  unfold bJ;rw[if_pos];have vu:=val u;have vv:=val v;refine⟨sg_ne.mpr λz=>?_,λz=>psv ?_⟩
  ·rw[z,Rat.mul_zero]at vu;rcases MQ.mp vu.symm with w |w
   ·exact qu w
   ·exact pu w
  ·generalize pv P u=a at *
   generalize pv P v=b at *
   generalize pv p u=a' at *
   generalize pv p v=b' at *
   generalize pv q u=g at *
   generalize pv q v=g' at *
   generalize (c:Rat)=C at *
   exact CF hC vu vv z s1 s2
 omega
section
variable {f g:Rat->Rat}{V W:Rat->Int}
def Nice.nearL(h:Nice f)(a:Rat)(fa:f a≠0):∃η:Rat,0<η/\∀z,a-η<=z->z<=a->aj (f z)=aj (f a):=by
 have hn:Nice λx=>f (-x):=λR hR=>by
  obtain⟨M,m0,m1,m2⟩:=h R hR;refine⟨M,m0,λx hx=>m1 (-x) ⟨by have:=hx.2;grind,by have:=hx.1;grind⟩,λx y hx hy hxy=>?_⟩;obtain⟨p,q⟩:=m2 (-y) (-x) ⟨by have:=hy.2;grind,by have:=hy.1;grind⟩ ⟨by have:=hx.2;grind,by have:=hx.1;grind⟩ (by grind);have e : -x - -y=y-x:=by grind
  rw[e]at p q;constructor<;>grind
 obtain⟨η,h1,h2⟩:=hn.near (-a) (by rw[Rat.neg_neg];exact fa);refine⟨η,h1,λz z1 z2=>?_⟩;have:=h2 (-z) (by grind) (by grind)
 rwa [Rat.neg_neg,Rat.neg_neg]at this
theorem Cnt.left(h:Cnt f V):∀(n:Nat) {lo z:Rat},lo<z->(V lo-V z).toNat<=n->∃u,lo<=u/\u<z/\∀w,u<=w->w<z->V w=V z+zf f z
 |n,lo,z,hz,hn=>by
  by_cases hc:∃w,lo<w/\w<z/\V w<V lo
  ·obtain⟨w,w1,w2,w3⟩:=hc;have m1:=h.mono w2;cases n with
   |zero=>omega
   |succ n =>obtain⟨u,u1,u2,u3⟩:=Cnt.left h n w2 (by omega);exact⟨u,by grind,u2,u3⟩
  ·have same:∀w,lo<=w->w<z->V w=V lo:=λw g1 g2=>by
    rcases dj g1 with q |q
    ·have:=h.mono q;have:¬V w<V lo:=λy=>hc ⟨w,q,g2,y⟩
     omega
    ·rw[q]
   obtain⟨δ,hδ,hp⟩:=h.loc lo z;have ne:∀w,lo<w->w<z->f w≠0:=λw g1 g2=>h.free g1 (same w (MF g1) g2).symm g1 ME
   obtain⟨η,hη,hs⟩:∃η:Rat,0<η/\∀w,z-η<=w->w<=z->f z≠0->aj (f w)=aj (f z):=by
    by_cases q:f z=0
    ·exact⟨1,by decide,λ_ _ _ y=>absurd q y⟩
    ·obtain⟨η,h1,h2⟩:=h.nc.nearL z q;exact⟨η,h1,λw g1 g2 _=>h2 w g1 g2⟩
   obtain⟨u,u1,u2,u3,u4⟩:∃u,lo<u/\u<z/\z-u<=δ/\z-u<=η:=by
    obtain⟨t,t0,t1,t2⟩:∃t:Rat,0<t/\t<=δ/\t<=η:=by
     rcases MM (a:=δ) (b:=η)with q |q
     ·exact⟨δ,hδ,ME,q⟩
     ·exact⟨η,hη,q,ME⟩
    rcases MM (a:=t) (b:=(z-lo)/2)with q |q
    ·exact⟨z-t,by grind,by grind,by grind,by grind⟩
    ·exact⟨(z+lo)/2,by grind,by grind,by grind,by grind⟩
   refine⟨u,MF u1,u2,λw w1 w2=>?_⟩;have e:=hp w z (by grind) w2 ME (by grind);have fw:=ne w (by grind) w2;by_cases q:f z=0
   ·have c1:bJ f w z=1:=by unfold bJ;rw[if_pos ⟨sg_ne.mpr fw,λy=>sg_ne.mpr fw (by rw[<- y,q];rfl)⟩]
    have c2:zf f z=1:=by unfold zf;rw[q];rfl
    omega
   ·have c1:bJ f w z=0:=by unfold bJ;rw[if_neg λy=>y.2 (hs w (by grind) (by grind) q).symm]
    have c2:zf f z=0:=by unfold zf;rw[if_neg (sg_ne.mpr q)]
    omega
structure Rts(f:Rat->Rat)(V:Rat->Int)(T m:Int):Prop where
 c:Cnt f V
 lim:∃B:Rat,0<B/\(∀x,x <= -B->V x=T/\f x≠0)/\∀x,B<=x->V x=T-m/\f x≠0
def Bl{x:Rat}(h:f x≠0):zf f x=0:=by unfold zf;rw[if_neg (sg_ne.mpr h)]
def Bm(f:Rat->Rat)(x:Rat):0<=zf f x/\zf f x<=1:=by unfold zf;split<;>omega
def Rts.in{T m:Int}(h:Rts f V T m)(x:Rat):0<=T-V x-zf f x/\T-V x<=m:=by
 obtain⟨B,hB,h1,h2⟩:=h.lim
 obtain⟨lo,l1,l2⟩:∃lo:Rat,lo <= -B/\lo<x:=by
  rcases MM (a := -B) (b:=x)with z |z
  ·exact⟨-B-1,by grind,by grind⟩
  ·exact⟨x-1,by grind,by grind⟩
 obtain⟨hi,r1,r2⟩:∃hi:Rat,B<=hi/\x<hi:=by
  rcases MM (a:=B) (b:=x)with z |z
  ·exact⟨x+1,by grind,by grind⟩
  ·exact⟨B+1,by grind,by grind⟩
 obtain⟨u,u1,u2,u3⟩:=h.c.left _ l2 (MI _);have e1:=u3 u ME u2;have e2:=(h1 lo l1).1;have e3:=(h2 hi r1).1;have m1:=h.c.le u1;have m2:=h.c.mono r2;omega
end
theorem Ae{B m w x:Rat}(hB:1<=B)(hm:0<=m)(hw:B<=w)(hx:Bd w x):∀r:Ex,(∀c∈r,Bd (m*(B-1)) (c:Rat))->Bd (m*(w^r.length-1)) (pv r x)
 | [],_=>by show Bd (m*(w^0-1)) 0;rw[Oz];constructor<;>grind
 |c::r,h=>by
  have ih:=Ae hB hm hw hx r λd hd=>h d (MV _ hd)
  have hc:=h c (M0 ..);have h1:=hx.mul ih;show Bd (m*(w^(r.length+1)-1)) ((c:Rat)+x*pv r x);rw[NW];have hp:=g9 (show(1:Rat)<=w by grind) r.length;generalize w^r.length=W at *
  generalize x*pv r x=y at *
  obtain⟨c1,c2⟩:=hc;obtain⟨d1,d2⟩:=h1;have e:=MJ hm (show 0<=w-B by grind);constructor<;>grind
theorem yo(l:Int)(x:Rat):∀r:Ex,pv (r++[l]) x=pv r x+(l:Rat)*x^r.length
 | []=>by show(l:Rat)+x*0=0+(l:Rat)*x^0;rw[Oz];grind
 |c::r=>by show(c:Rat)+x*pv (r++[l]) x=(c:Rat)+x*pv r x+(l:Rat)*x^(r.length+1);rw[yo l x r,NW];grind
theorem yU(w:Rat):∀n:Nat,(-w)^n=(if n%2=0 then 1 else -1)*w^n
 |0=>by rw[Oz,Oz,if_pos rfl];grind
 |n+1=>by
  rw[NW,yU w n,NW];rcases Nat.mod_two_eq_zero_or_one n with h |h
  ·rw[if_pos h,if_neg (by omega)];grind
  ·rw[if_neg (by omega),if_pos (by omega)];grind
def CO{u v:Rat}(hv:v≠0)(h:(0<v -> -v<u)/\(v<0->u < -v)):aj (u+v)=aj v:=by
 rcases f7 v 0 with z |z |z
 ·have:=h.2 z;unfold aj;rw[if_pos (by grind),if_pos z]
 ·exact absurd z hv
 ·have:=h.1 z;unfold aj;rw[if_neg (by grind),if_pos (by grind),if_neg (by grind),if_pos z]
def Ac{r:Ex}{l:Int}{k:Nat}(hl:l≠0)(hb:∀c∈r,c.natAbs<=(2^k-1)*l.natAbs):(∀x:Rat,2^k<=x->aj (pv (r++[l]) x)=aj (l:Rat))/\∀x:Rat,x <= -(2^k)->aj (pv (r++[l]) x)=(if r.length%2=0 then 1 else -1)*aj (l:Rat):=by
 have hB:(1:Rat)<=2^k:=g9 (by decide) k
 have two:(((2^k-1)*l.natAbs:Nat):Rat)=(l.natAbs:Rat)*((2:Rat)^k-1):=by
  have e:((2^k-1)*l.natAbs:Nat)+l.natAbs=2^k*l.natAbs:=by have:1<=2^k:=Nat.one_le_two_pow;obtain⟨t,ht⟩:∃t,2^k=t+1:=⟨2^k-1,by omega⟩;rw[ht,Nat.add_sub_cancel,Nat.succ_mul]
  have e2:=congrArg (λn:Nat=>(n:Rat)) e;simp only[Rat.natCast_add,Rat.natCast_mul,Rat.natCast_pow]at e2;have c2:((2:Nat):Rat)=2:=rfl;rw[c2]at e2;rw[Rat.natCast_mul];grind
 have hm:(0:Rat)<(l.natAbs:Rat):=by
  have:0<l.natAbs:=by omega
  exact Rat.natCast_pos.mpr this
 have hc:∀c∈r,Bd ((l.natAbs:Rat)*((2:Rat)^k-1)) (c:Rat):=λc hcm=>by
  have h1:=hb c hcm;have h2:((c.natAbs:Nat):Rat)<=(((2^k-1)*l.natAbs:Nat):Rat):=Rat.natCast_le_natCast.mpr h1;rw[two]at h2
  have h3:(c:Rat)=(c.natAbs:Rat)\/(c:Rat) = -(c.natAbs:Rat):=by
   rcases Int.natAbs_eq c with z |z
   ·left;rw[<- OY,<- z]
   ·right;rw[<- OY,<- NE,<- z]
  have h4:(0:Rat)<=(c.natAbs:Rat):=Rat.natCast_nonneg;rcases h3 with z |z<;>constructor<;>grind
 have labs:(l:Rat)=(l.natAbs:Rat)\/(l:Rat) = -(l.natAbs:Rat):=by
  rcases Int.natAbs_eq l with z |z
  ·left;rw[<- OY,<- z]
  ·right;rw[<- OY,<- NE,<- z]
 have main:∀{w x:Rat} {s:Rat},2^k<=w->Bd w x->(s=1\/s = -1)->x^r.length=s*w^r.length->aj (pv (r++[l]) x)=aj (s*(l:Rat)):=λ{w x s} hw hx hs hp=>by
  rw[yo,hp];have h1:=Ae hB (MF hm) hw hx r hc;have h2:=g9 (show(1:Rat)<=w by grind) r.length;generalize w^r.length=W at *
  generalize pv r x=y at *
  generalize (l.natAbs:Rat)=M at *
  have e:(l:Rat)*(s*W)=W*(s*(l:Rat)):=by grind
  rw[e,<- ju (p:=W) (v:=s*(l:Rat)) (by grind)];have p:=ML hm (show 0<W by grind);obtain⟨g1,g2⟩:=h1;refine CO ?_ ⟨λq=>?_,λq=>?_⟩
  ·rcases hs with a |a<;>rcases labs with b |b<;>rw[a,b]<;>grind
  ·rcases hs with a |a<;>rcases labs with b |b<;>rw[a,b]at q ⊢<;>grind
  ·rcases hs with a |a<;>rcases labs with b |b<;>rw[a,b]at q ⊢<;>grind
 refine⟨λx hx=>?_,λx hx=>?_⟩
 ·have:=main hx ⟨by grind,ME⟩ (.inl rfl) (show x^r.length=1*x^r.length by grind);rw[this,NX]
 ·have:=main (w := -x) (x:=x) (s:=if r.length%2=0 then 1 else -1) (by grind) ⟨by grind,by grind⟩ (by split<;>simp) (by
   have:=yU (-x) r.length;rw[Rat.neg_neg]at this
   exact this)
  rw[this];split
  ·rw[NX,M9]
  ·have:(-1:Rat)*(l:Rat) = -(l:Rat):=by grind
   rw[this,xL];omega
section
variable {f g:Rat->Rat}{V W:Rat->Int}{a b:Rat}
def Cnt.keep(h:Cnt f V)(hab:a<=b){s:Int}(hs:∀z,a<=z->z<=b->aj (f z)=s):V a=V b:=by
 rcases dj hab with q |q
 ·obtain⟨δ,hδ,hp⟩:=h.loc a b;refine iq (C:=λx y=>V x=V y) q (λx y z _ _ _ _ c1 c2=>c1.trans c2) hδ λx y hx hy hxy hd=>?_
  have e:=hp x y hx hxy hy hd
  have c:bJ f x y=0:=by unfold bJ;rw[if_neg λz=>z.2 (by rw[hs x hx (by grind),hs y (by grind) hy])]
  show V x=V y;omega
 ·rw[q]
def Cnt.root(h:Cnt f V)(hab:a<b)(h1:V a-V b=1){r:Rat}(r1:a<r)(r2:r<=b)(hr:f r=0):V r=V b/\∀z,a<=z->z<r->V z=V a:=by
 have m1:=h.mono r1;have m2:=h.le r2;have n1:V a≠V r:=λe=>h.free r1 e r1 ME hr
 refine⟨by omega,λz z1 z2=>?_⟩;have n2:V z≠V r:=λe=>h.free z2 e z2 ME hr
 have m3:=h.le z1;have m4:=h.mono z2;omega
def pe(h1:Cnt f V)(h2:Cnt g W)(hab:a<b)(e1:V a-V b=1)(e2:W a-W b=1)(same:∀z,a<=z->z<=b->(V z=V a↔W z=W a)):∃M:Rat,0<=M/\∀δ:Rat,0<δ->∃u v,a<=u/\u<v/\v<=b/\v-u<=δ/\V u=V a/\V v=V b/\Bd (M*δ) (f u)/\Bd (M*δ) (g u):=by
 obtain⟨R,hR,hB⟩:=jL a b;obtain⟨M1,m1,_,p1⟩:=h1.nc R hR;obtain⟨M2,m2,_,p2⟩:=h2.nc R hR;obtain⟨δ1,d1,l1⟩:=h1.loc a b;obtain⟨δ2,d2,l2⟩:=h2.loc a b;refine⟨M1+M2,by grind,λδ hδ=>?_⟩
 obtain⟨t,t0,t1,t2,t3⟩:∃t:Rat,0<t/\t<=δ/\t<=δ1/\t<=δ2:=by
  rcases MM (a:=δ) (b:=δ1)with z |z
  ·rcases MM (a:=δ) (b:=δ2)with w |w
   ·exact⟨δ,hδ,ME,z,w⟩
   ·exact⟨δ2,d2,w,MX w z,ME⟩
  ·rcases MM (a:=δ1) (b:=δ2)with w |w
   ·exact⟨δ1,d1,z,ME,w⟩
   ·exact⟨δ2,d2,MX w z,w,ME⟩
 obtain⟨u,v,u1,u2,u3,u4,q1,q2⟩:=h1.bis hab e1 t0;have w1:=(same u u1 (by grind)).mp q1
 have w2:W v=W b:=by
  have n:¬W v=W a:=λz=>by have:=(same v (by grind) u3).mpr z;omega
  have k1:=h2.le u3;have k2:=h2.le (show a<=v by grind);omega
 have c1:=l1 u v u1 u2 u3 (by grind);have c2:=l2 u v u1 u2 u3 (by grind);obtain⟨_,s1⟩:=i9 (f:=f) (x:=u) (y:=v) (by omega);obtain⟨_,s2⟩:=i9 (f:=g) (x:=u) (y:=v) (by omega);have Bu:=hB u u1 (by grind);have Bv:=hB v (by grind) u3;have z1:=(li (λz=>s1 z.1.symm) (p1 u v Bu Bv (by grind))).1;have z2:=(li (λz=>s2 z.1.symm) (p2 u v Bu Bv (by grind))).1;refine⟨u,v,u1,u2,u3,by grind,q1,q2,?_,?_⟩
 ·have k1:=MZ (show v-u<=δ by grind) m1;have k2:=MJ m2 (MF hδ);obtain⟨x1,x2⟩:=z1;constructor<;>grind
 ·have k1:=MZ (show v-u<=δ by grind) m2;have k2:=MJ m1 (MF hδ);obtain⟨x1,x2⟩:=z2;constructor<;>grind
def pz{y C:Rat}(hC:0<=C)(h:∀δ:Rat,0<δ->Bd (C*δ) y):y=0:=by
 apply Classical.byContradiction;intro hn
 obtain⟨t,t0,ht⟩:∃t:Rat,0<t/\(y=t\/y = -t):=by
  rcases f7 y 0 with z |z |z
  ·exact⟨-y,by grind,.inr (by grind)⟩
  ·exact absurd z hn
  ·exact⟨y,z,.inl rfl⟩
 have q0:0<t/(C+1):=eX t0 (by grind);have qe:t/(C+1)*(C+1)=t:=MN (by grind);obtain⟨p,q⟩:=h _ q0;generalize t/(C+1)=w at *
 rcases ht with r |r<;>grind
end
def NoR(G:Ex)(l h:Rat):Prop:=∀r:Rat,l<r->r<=h->pv G r≠0
def NoQ(G:Ex)(l h:Rat):Prop:=∀q,Pln q->q.length=3->Dv q G->vw q l-vw q h≠1
structure Od(G:Ex)(l h:Rat)(p:Ex):Prop where
 pln:Pln p
 flt:Flt p
 dv:Dv p G
 one:vw p l-vw p h=1
structure LS(G:Ex)(l h:Rat)(p:Ex):Prop where
 od:Od G l h p
 kd:p.length=2\/(NoR G l h/\p.length=3)\/(NoR G l h/\NoQ G l h/\p=G)
def ma{p G:Ex}(h:Dv p G){r:Rat}(hr:pv p r=0):pv G r=0:=by
 obtain⟨c,q,hc,e⟩:=h;have:=dB r q p (aM c G) λn=>by rw[bA,e]
 rw[dg (a:=G) (u:=c) r (bA _ _),hr,Rat.mul_zero]at this;rcases MQ.mp this with z |z
 ·exact absurd z (cN hc)
 ·exact z
def f6{G p:Ex}{l h:Rat}(hG:Flt G)(lt:l<h)(o:vw G l-vw G h=1)(P:Od G l h p){z:Rat}(z1:l<=z)(z2:z<=h):vw p z=vw p l↔vw G z=vw G l:=by
 have C:=P.flt.cnt;have D:=hG.cnt;have o':=P.one;have a1:=C.le z1;have a2:=C.le z2;have b1:=D.le z1;have b2:=D.le z2
 have k1:vw p l-vw p z<=vw G l-vw G z:=by
  rcases dj z1 with q |q
  ·exact hG.le P.flt P.dv q
  ·rw[q];omega
 have k2:vw p z-vw p h<=vw G z-vw G h:=by
  rcases dj z2 with q |q
  ·exact hG.le P.flt P.dv q
  ·rw[q];omega
 omega
def tZ{G p:Ex}{l h:Rat}(lt:l<h)(P:Od G l h p)(h2:p.length=2):∃r,l<r/\r<=h/\pv p r=0:=by
 have C:=P.flt.cnt;obtain⟨ε,hε,s1,s2,s3⟩:=C.ru lt P.one;obtain⟨z,z1,z2,z3⟩:=C.start lt;obtain⟨p0,p1,rfl⟩:=oF h2;have hv:∀x,pv [p0,p1] x=(p0:Rat)+x*(p1:Rat):=λx=>by show(p0:Rat)+x*((p1:Rat)+x*0)=_;grind
 have hp:(0:Rat)<(p1:Rat):=MP.mpr P.pln.pos;have e : -(p0:Rat)/(p1:Rat)*(p1:Rat) = -(p0:Rat):=MN (by grind);have a:=s1 z z1 z2 z3;have b:=s2 h lt ME rfl;rw[hv]at a b;refine⟨-(p0:Rat)/(p1:Rat),?_,?_,by rw[hv];grind⟩
 ·generalize -(p0:Rat)/(p1:Rat)=r at *
  refine Nx.mp λq=>?_
  have k1:=ML (show 0<z-r by grind) hp;have k2:=ML (show 0<h-r by grind) hp;have c1:aj ((p0:Rat)+z*(p1:Rat))=1:=by unfold aj;rw[if_neg (by grind),if_pos (by grind)]
  have c2:aj ((p0:Rat)+h*(p1:Rat))=1:=by unfold aj;rw[if_neg (by grind),if_pos (by grind)]
  rcases b with w |w
  ·omega
  ·grind
 ·generalize -(p0:Rat)/(p1:Rat)=r at *
  refine Nj.mp λq=>?_
  have k1:=ML (show 0<r-z by grind) hp;have k2:=ML (show 0<r-h by grind) hp;have c1:aj ((p0:Rat)+z*(p1:Rat)) = -1:=by unfold aj;rw[if_pos (by grind)]
  have c2:aj ((p0:Rat)+h*(p1:Rat)) = -1:=by unfold aj;rw[if_pos (by grind)]
  rcases b with w |w
  ·omega
  ·grind
def Bd.lin{A B M x y:Rat}{u v:Rat}(hA:Bd A u)(hB:Bd B v)(hx:Bd M x)(hy:Bd M y):Bd (A*M+B*M) (u*x-v*y):=by obtain⟨a1,a2⟩:=hA.mul hx;obtain⟨b1,b2⟩:=hB.mul hy;constructor<;>grind
def yt{p q:Ex}(hp:Pln p)(hq:Pln q){x y:Int}(hx:x≠0)(hy:y≠0)(h:aM x p=aM y q):p=q:=by rw[<- hp.plain,<- hq.plain,<- ld hx hp.tr,<- ld hy hq.tr,h]
def yM{G p q:Ex}{l h:Rat}(hG:Flt G)(lt:l<h)(o:vw G l-vw G h=1)(P:Od G l h p)(Q:Od G l h q)(hl:(p.length=2/\q.length=2)\/(p.length=3/\q.length=3/\NoR G l h)):p=q:=by
 have C:=P.flt.cnt;obtain⟨M,m0,hM⟩:=pe C Q.flt.cnt lt P.one Q.one λz z1 z2=>(f6 hG lt o P z1 z2).trans (f6 hG lt o Q z1 z2).symm
 have lp:=P.pln.pos;have lq:=Q.pln.pos;rcases hl with⟨h1,h2⟩ |⟨h1,h2,hn⟩
 ·obtain⟨p0,p1,rfl⟩:=oF h1;obtain⟨q0,q1,rfl⟩:=oF h2;have lp':0<p1:=lp;have lq':0<q1:=lq;obtain⟨A,a0,hA⟩:=gR (q1:Rat);obtain⟨B,b0,hB⟩:=gR (p1:Rat)
  have z:(q1:Rat)*(p0:Rat)-(p1:Rat)*(q0:Rat)=0:=by
   refine pz (C:=(A+B)*M) (MJ (by grind) m0) λδ hδ=>?_
   obtain⟨u,v,_,_,_,_,_,_,s1,s2⟩:=hM δ hδ;have k:=hA.lin hB s1 s2
   have e:(q1:Rat)*pv [p0,p1] u-(p1:Rat)*pv [q0,q1] u=(q1:Rat)*(p0:Rat)-(p1:Rat)*(q0:Rat):=by show(q1:Rat)*((p0:Rat)+u*((p1:Rat)+u*0))-(p1:Rat)*((q0:Rat)+u*((q1:Rat)+u*0))=_;grind
   rw[e]at k;have e2:A*(M*δ)+B*(M*δ)=(A+B)*M*δ:=by grind
   rwa [e2]at k
  rw[<- MD,<- MD,<- NH]at z;have z':q1*p0-p1*q0=0:=ND.mp z;refine yt P.pln Q.pln (x:=q1) (y:=p1) (by omega) (by omega) ?_;show[q1*p0,q1*p1]=[p1*q0,p1*q1];rw[show q1*p0=p1*q0 by omega,No q1 p1]
 ·obtain⟨p0,p1,p2,rfl⟩:=lE h1;obtain⟨q0,q1,q2,rfl⟩:=lE h2;have lp':0<p2:=lp;have lq':0<q2:=lq;obtain⟨A,a0,hA⟩:=gR (q2:Rat);obtain⟨B,b0,hB⟩:=gR (p2:Rat)
  have lin:∀u:Rat,(q2:Rat)*pv [p0,p1,p2] u-(p2:Rat)*pv [q0,q1,q2] u=((q2*p1-p2*q1:Int):Rat)*u+((q2*p0-p2*q0:Int):Rat):=λu=>by show(q2:Rat)*((p0:Rat)+u*((p1:Rat)+u*((p2:Rat)+u*0)))-(p2:Rat)*((q0:Rat)+u*((q1:Rat)+u*((q2:Rat)+u*0)))=_;rw[NH,NH,MD,MD,MD,MD];grind
  have near:∀δ:Rat,0<δ->∃u v,l<=u/\u<v/\v<=h/\v-u<=δ/\vw [p0,p1,p2] u=vw [p0,p1,p2] l/\vw [p0,p1,p2] v=vw [p0,p1,p2] h/\Bd ((A+B)*M*δ) (((q2*p1-p2*q1:Int):Rat)*u+((q2*p0-p2*q0:Int):Rat)):=λδ hδ=>by
   obtain⟨u,v,u1,u2,u3,u4,g1,g2,s1,s2⟩:=hM δ hδ;have k:=hA.lin hB s1 s2;rw[lin]at k;have e2:A*(M*δ)+B*(M*δ)=(A+B)*M*δ:=by grind
   rw[e2]at k;exact⟨u,v,u1,u2,u3,u4,g1,g2,k⟩
  have K0:0<=(A+B)*M:=MJ (by grind) m0;generalize hα:q2*p1-p2*q1=α at *
  generalize hβ:q2*p0-p2*q0=β at *
  generalize (A+B)*M=K at *
  by_cases ha:α=0
  ·have z:(β:Rat)=0:=pz K0 λδ hδ=>by
    obtain⟨u,v,_,_,_,_,_,_,k⟩:=near δ hδ;rw[ha]at k
    have e:((0:Int):Rat)*u+(β:Rat)=(β:Rat):=by show(0:Rat)*u+_=_;grind
    rwa [e]at k
   have z':β=0:=ND.mp z;refine yt P.pln Q.pln (x:=q2) (y:=p2) (by omega) (by omega) ?_;show[q2*p0,q2*p1,q2*p2]=[p2*q0,p2*q1,p2*q2];rw[show q2*p0=p2*q0 by omega,show q2*p1=p2*q1 by omega,No q2 p2]
  ·exfalso;have ha':(α:Rat)≠0:=cN ha
   obtain⟨c,c0,hc⟩:∃c:Rat,0<c/\((α:Rat)=c\/(α:Rat) = -c):=by
    rcases f7 (α:Rat) 0 with z |z |z
    ·exact⟨-(α:Rat),by grind,.inr (by grind)⟩
    ·exact absurd z ha'
    ·exact⟨(α:Rat),z,.inl rfl⟩
   have er : -(β:Rat)/(α:Rat)*(α:Rat) = -(β:Rat):=MN ha';generalize -(β:Rat)/(α:Rat)=r at *
   have close:∀η:Rat,0<η->∃u v,l<=u/\u<v/\v<=h/\v-u<=η/\vw [p0,p1,p2] u=vw [p0,p1,p2] l/\vw [p0,p1,p2] v=vw [p0,p1,p2] h/\r-η<=u/\u<=r+η:=λη hη=>by
    have hK:0<K+1:=by grind
    have q0:0<η*c/(K+1):=eX (ML hη c0) hK;have qe:η*c/(K+1)*(K+1)=η*c:=MN (by grind)
    obtain⟨δ,d0,d1,d2⟩:∃δ:Rat,0<δ/\δ<=η/\K*δ<=η*c:=by
     generalize η*c/(K+1)=t at *
     rcases MM (a:=η) (b:=t)with z |z
     ·exact⟨η,hη,ME,by have:=MZ z K0;grind⟩
     ·exact⟨t,q0,z,by grind⟩
    obtain⟨u,v,u1,u2,u3,u4,g1,g2,k1,k2⟩:=near δ d0;have e:(α:Rat)*u+(β:Rat)=(α:Rat)*(u-r):=by grind
    rw[e]at k1 k2;refine⟨u,v,u1,u2,u3,by grind,g1,g2,?_,?_⟩
    ·rcases hc with z |z<;>rw[z]at k1 k2<;>exact fI c0 (by grind)
    ·rcases hc with z |z<;>rw[z]at k1 k2<;>exact fI c0 (by grind)
   have left:∀z,l<=z->z<=h->z<r->vw [p0,p1,p2] z=vw [p0,p1,p2] l:=λz z1 z2 z3=>by obtain⟨u,v,u1,u2,u3,u4,g1,g2,k1,k2⟩:=close ((r-z)/2) (by grind);have a1:=C.le z1;have a2:=C.mono (show z<u by grind);omega
   have right:∀z,l<=z->z<=h->r<z->vw [p0,p1,p2] z=vw [p0,p1,p2] h:=λz z1 z2 z3=>by obtain⟨u,v,u1,u2,u3,u4,g1,g2,k1,k2⟩:=close ((z-r)/3) (by grind);have a1:=C.le z2;have a2:=C.mono (show v<z by grind);omega
   have o1:=P.one
   have r1:l<r:=Nx.mp λw=>by obtain⟨z,z1,z2,z3⟩:=C.start lt;have:=right z (MF z1) z2 (by grind);omega
   have r2:r<=h:=Nj.mp λw=>by have:=left h (MF lt) ME w;omega
   refine hn r r1 r2 (ma P.dv ?_);apply Classical.byContradiction;intro nz;obtain⟨η1,n1,s1⟩:=C.nc.near r nz;obtain⟨η2,n2,s2⟩:=C.nc.nearL r nz;obtain⟨δ,d0,dp⟩:=C.loc l h
   obtain⟨t,t0,t1,t2,t3⟩:∃t:Rat,0<t/\t<=η1/\t<=η2/\t<=δ/2:=by
    rcases MM (a:=η1) (b:=η2)with z |z
    ·rcases MM (a:=η1) (b:=δ/2)with w |w
     ·exact⟨η1,n1,ME,z,w⟩
     ·exact⟨δ/2,by grind,w,MX w z,ME⟩
    ·rcases MM (a:=η2) (b:=δ/2)with w |w
     ·exact⟨η2,n2,z,ME,w⟩
     ·exact⟨δ/2,by grind,MX w z,w,ME⟩
   obtain⟨x,x1,x2,x3⟩:∃x,l<=x/\x<r/\r-x<=t:=by
    rcases MM (a:=l) (b:=r-t)with w |w
    ·exact⟨r-t,w,by grind,by grind⟩
    ·exact⟨l,ME,r1,by grind⟩
   have ex:=left x x1 (by grind) x2;rcases dj r2 with w |w
   ·obtain⟨y,y1,y2,y3⟩:∃y,r<y/\y<=h/\y-r<=t:=by
     rcases MM (a:=h) (b:=r+t)with w' |w'
     ·exact⟨h,w,ME,by grind⟩
     ·exact⟨r+t,by grind,w',by grind⟩
    have ey:=right y (by grind) y2 y1;have:=dp x y x1 (by grind) y2 (by grind);obtain⟨_,sx⟩:=i9 (f:=pv [p0,p1,p2]) (x:=x) (y:=y) (by omega);exact sx (by rw[s1 y (by grind) (by grind),s2 x (by grind) (by grind)])
   ·have:=dp x h x1 (by grind) ME (by grind);obtain⟨_,sx⟩:=i9 (f:=pv [p0,p1,p2]) (x:=x) (y:=h) (by omega);exact sx (by rw[<- w,s2 x (by grind) (by grind)])
theorem nV:∀{a b:Ex},a.length=b.length->(∀x:Rat,0<x->x<=1->pv a x=pv b x)->a=b
 | [],[],_,_=>rfl
 |c::a,d::b,hl,h=>by
  have hl':a.length=b.length:=by simpa using hl
  obtain⟨M,m0,m1,_⟩:=dD a 1 (by decide);obtain⟨N,n0,n1,_⟩:=dD b 1 (by decide)
  have key:∀x:Rat,0<x->x<=1->(c:Rat)-(d:Rat)=x*(pv b x-pv a x):=λx h0 h1=>by have e:(c:Rat)+x*pv a x=(d:Rat)+x*pv b x:=h x h0 h1;grind
  have z:(c:Rat)-(d:Rat)=0:=by
   apply Classical.byContradiction;intro hn
   obtain⟨t,t0,ht⟩:∃t:Rat,0<t/\((c:Rat)-(d:Rat)=t\/(c:Rat)-(d:Rat) = -t):=by
    rcases f7 ((c:Rat)-(d:Rat)) 0 with z |z |z
    ·exact⟨-((c:Rat)-(d:Rat)),by grind,.inr (by grind)⟩
    ·exact absurd z hn
    ·exact⟨_,z,.inl rfl⟩
   have q0:0<t/(M+N+1):=eX t0 (by grind);have qe:t/(M+N+1)*(M+N+1)=t:=MN (by grind)
   obtain⟨x,x0,x1,x2⟩:∃x:Rat,0<x/\x<=1/\x*(M+N)<t:=by
    generalize t/(M+N+1)=w at *
    rcases MM (a:=w) (b:=1)with y |y
    ·exact⟨w,q0,y,by grind⟩
    ·exact⟨1,by decide,by decide,by
      have:=MJ (show 0<=w-1 by grind) (show 0<=M+N+1 by grind)
      grind⟩
   have k:=key x x0 x1;obtain⟨a1,a2⟩:=m1 x ⟨by grind,x1⟩;obtain⟨b1,b2⟩:=n1 x ⟨by grind,x1⟩;generalize pv a x=u at *
   generalize pv b x=v at *
   have g1:=MZ (show v-u<=M+N by grind) (MF x0);have g2:=MZ (show -(M+N)<=v-u by grind) (MF x0);rcases ht with r |r<;>grind
  have e:c=d:=by
   have:(c:Rat)=(d:Rat):=by grind
   exact ND.mp this
  subst e
  have:=nV hl' λx h0 h1=>by
   have k:=key x h0 h1;have:x*(pv b x-pv a x)=0:=by grind
   rcases MQ.mp this with y |y
   ·grind
   ·grind
  rw[this]
section
variable {f g:Rat->Rat}{V W:Rat->Int}
end
def tr2{t n:Int}(hn:0<n):Tr [t,n]:=λk hk=>by
 have:k=1:=by simp at hk;omega
 subst this;show n≠0;omega
def x6{G:Ex}{t n:Int}(hn:0<n)(hr:pv G ((t:Rat)/(n:Rat))=0):Dv [-t,n] G:=by
 have sne:([-t,n]:Ex)≠[]:=by simp
 have hl:(bj G [-t,n]).length<2:=ig sne;have n0:(0:Rat)<(n:Rat):=MP.mpr hn;have e:=jZ (a:=G) sne;have hF:cP G [-t,n]≠0:=md sne (tr2 hn)
 have z:bj G [-t,n]=[]:=by
  match hR:bj G [-t,n],hl with
  | [],_=>rfl
  | [c],_ =>
   exfalso
   have hv:(cP G [-t,n]:Rat)*pv G ((t:Rat)/(n:Rat))=pv (cW G [-t,n]) ((t:Rat)/(n:Rat))*pv [-t,n] ((t:Rat)/(n:Rat))+(c:Rat):=by
    have h1:=iJ (a:=aw (cW G [-t,n]) [-t,n]) (b:=[c]) (c:=aM (cP G [-t,n]) G) (u:=1) (v:=1) ((t:Rat)/(n:Rat)) λk=>by rw[bA,e,aW,hR];omega
    rw[dg (a:=G) (u:=cP G [-t,n]) _ (bA _ _),dB _ (cW G [-t,n]) [-t,n] _ (aW _ _),nU]at h1;rw[h1];have c1:((1:Int):Rat)=1:=rfl;rw[c1];grind
   have h2:pv [-t,n] ((t:Rat)/(n:Rat))=0:=by
    show((-t:Int):Rat)+(t:Rat)/(n:Rat)*((n:Rat)+(t:Rat)/(n:Rat)*0)=0;have e1:(t:Rat)/(n:Rat)*(n:Rat)=(t:Rat):=MN (by grind);rw[NE];generalize (t:Rat)/(n:Rat)=r at *
    grind
   rw[hr,h2]at hv;have hc:(c:Rat)=0:=by grind
   have hc':c=0:=ND.mp hc;have:=gP G [-t,n];rw[hR]at this;exact this 0 rfl (by rw[hc'];rfl)
 exact⟨_,_,hF,λk=>by rw[e,z,cI,Nv]⟩
def zu{q G:Ex}(hq:Pln q)(hG:Pln G)(h:Dv q G):∃a:Int,0<a/\ao G=a*ao q/\∃u,Pln u/\aw u q=G:=by obtain⟨u,pu,e⟩:=h.fellow hq hG.tr hG.ne;rw[hG.plain]at e;refine⟨ao u,pu.pos,?_,u,pu,e⟩;rw[<- e];exact zt pu.ne hq.ne
def GZ{G:Ex}(hG:Pln G)(fG:Flt G){l h x y:Rat}{B:Rat}(lt:l<h)(o:vw G l-vw G h=1)(lx:l<=x)(xy:x<y)(yh:y<=h)(ux:vw G x=vw G l)(uy:vw G y=vw G h)(hB:1<=B)(w:(y-x)*(8*(ao G:Rat)*B)<=1){r:Rat}(r1:l<r)(r2:r<=h)(hr:pv G r=0):x<r/\r<=y/\∃k:Int,(k:Rat)=(ao G:Rat)*r/\(k:Rat)<=(ao G:Rat)*y/\(ao G:Rat)*y<(k:Rat)+1:=by
 have C:=fG.cnt;obtain⟨e1,e2⟩:=C.root lt o r1 r2 hr
 have xr:x<r:=Nx.mp λz=>by have:=C.le z;omega
 have ry:r<=y:=Nj.mp λz=>by have:=e2 y (by grind) z;omega
 have hL:(0:Rat)<(ao G:Rat):=MP.mpr hG.pos;obtain⟨t,n,hn,hg,er⟩:∃t n:Int,0<n/\Nat.gcd t.natAbs n.natAbs=1/\r=(t:Rat)/(n:Rat):=⟨r.num,(r.den:Int),by have:=r.den_pos;omega,by rw[Nt];exact r.reduced,by rw[<- Rat.divInt_eq_div];exact(Rat.num_divInt_den r).symm⟩
 have pl:Pln [-t,n]:=⟨tr2 hn,by simp,by
  show Nat.gcd (Nat.gcd 0 (-t).natAbs) n.natAbs=1
  rw[OH,Ot];exact hg,hn⟩
 obtain⟨a,ha,ea,_⟩:=zu pl hG (x6 hn (by rw[<- er];exact hr));have en:(n:Rat)≠0:=cN (by omega)
 have key:((a*t:Int):Rat)=(ao G:Rat)*r:=by
  rw[er,ea];show((a*t:Int):Rat)=((a*n:Int):Rat)*((t:Rat)/(n:Rat));rw[MD,MD];have:=MN (a:=(t:Rat)) en;generalize (t:Rat)/(n:Rat)=v at *
  rw[<- this];grind
 refine⟨xr,ry,a*t,key,?_,?_⟩
 ·rw[key];exact MZ ry (MF hL)
 ·rw[key];generalize (ao G:Rat)=L at *
  have p1:=NI (show y-r<y-x by grind) hL;have p2:=MJ (MJ (show 0<=y-x by grind) (MF hL)) (show 0<=8*B-1 by grind);grind
def DM{x1 y1 x2 y2 u v M:Rat}(a1:x1<=u)(a2:u<=y1)(b1:x2<=v)(b2:v<=y2)(c1:x1*x2<=M)(c2:x1*y2<=M)(c3:y1*x2<=M)(c4:y1*y2<=M):u*v<=M:=by
 have lin:∀{w:Rat},x1*w<=M->y1*w<=M->u*w<=M:=λ{w} h1 h2=>by
  rcases MM (a:=0) (b:=w)with z |z
  ·have:=Nw a2 z;grind
  ·have:=Nw a1 (show 0 <= -w by grind);grind
 have k1:=lin c1 c3;have k2:=lin c2 c4;rcases MM (a:=0) (b:=u)with z |z
 ·have:=MZ b2 z;grind
 ·have:=MZ b1 (show 0 <= -u by grind);grind
def oH{a b C:Rat}(hC:0<=C){δ0:Rat}(h0:0<δ0)(h:∀δ:Rat,0<δ->δ<=δ0->a<=b+C*δ):a<=b:=Nj.mp λz=>by
 have q0:0<(a-b)/(C+1):=eX (by grind) (by grind);have qe:(a-b)/(C+1)*(C+1)=a-b:=MN (by grind);generalize (a-b)/(C+1)=w at *
 rcases MM (a:=w) (b:=δ0)with y |y
 ·have:=h w q0 y;grind
 ·have:=h δ0 h0 ME;have:=MZ y hC;grind
def wL{q0 q1 q2:Int}(hq:Flt [q0,q1,q2])(hp:0<q2){x1 y1 x2 y2 B w M:Rat}(l1:x1<y1)(l2:x2<y2)(o1:vw [q0,q1,q2] x1-vw [q0,q1,q2] y1=1)(o2:vw [q0,q1,q2] x2-vw [q0,q1,q2] y2=1)(ne:vw [q0,q1,q2] y2<vw [q0,q1,q2] y1)
 (bx1:Bd B x1) (by1:Bd B y1) (bx2:Bd B x2) (by2:Bd B y2) (w1:y1-x1<=w) (w2:y2-x2<=w) (c1:x1*x2<=M) (c2:x1*y2<=M) (c3:y1*x2<=M) (c4:y1*y2<=M) (is:M=x1*x2\/M=x1*y2\/M=y1*x2\/M=y1*y2) :
 -(q1:Rat)/(q2:Rat)<=y1+y2/\y1+y2-2*w <= -(q1:Rat)/(q2:Rat)/\(q0:Rat)/(q2:Rat)<=M/\M-2*B*w<=(q0:Rat)/(q2:Rat):=by
 have C:=hq.cnt;have Q0:(0:Rat)<(q2:Rat):=MP.mpr hp
 have hv:∀z:Rat,pv [q0,q1,q2] z=(q0:Rat)+z*(q1:Rat)+z*z*(q2:Rat):=λz=>by show(q0:Rat)+z*((q1:Rat)+z*((q2:Rat)+z*0))=_;grind
 obtain⟨K1,k1,hK1⟩:=pe C C l1 o1 o1 λ_ _ _=>Iff.rfl
 obtain⟨K2,k2,hK2⟩:=pe C C l2 o2 o2 λ_ _ _=>Iff.rfl
 obtain⟨z2,z1,zz,ez⟩:=C.start (show y1<y1+1 by grind);have eS : -(q1:Rat)/(q2:Rat)*(q2:Rat) = -(q1:Rat):=MN (by grind);have eP:(q0:Rat)/(q2:Rat)*(q2:Rat)=(q0:Rat):=MN (by grind);generalize -(q1:Rat)/(q2:Rat)=S at *
 generalize (q0:Rat)/(q2:Rat)=P at *
 have B0:0<=B:=by have:=bx1.1;have:=bx1.2;grind
 have w0:0<=w:=by grind
 have g0:0<(z2-y1)/2:=by grind
 have gq:0<q2*((z2-y1)/2):=ML Q0 g0;have qe:(K1+K2)/(q2*((z2-y1)/2))*(q2*((z2-y1)/2))=K1+K2:=MN (by grind);have q'e:K1/(q2:Rat)*(q2:Rat)=K1:=MN (by grind)
 have D0:0<=(K1+K2)/(q2*((z2-y1)/2)):=Nj.mp λy=>by have:=NB y gq;grind
 have D1:0<=K1/(q2:Rat):=Nj.mp λy=>by have:=NB y Q0;grind
 generalize (K1+K2)/(q2*((z2-y1)/2))=D at *
 generalize K1/(q2:Rat)=E at *
 have near:∀δ:Rat,0<δ->δ<=(z2-y1)/2->∃u v,x1<=u/\u<=y1/\x2<=v/\v<=y2/\Bd (D*δ) (u+v-S)/\Bd ((E+B*D)*δ) (P-u*v):=λδ d0 d1=>by
  obtain⟨u,u',g1,g2,g3,g4,f1,f2,s1,_⟩:=hK1 δ d0;obtain⟨v,v',h1,h2,h3,h4,e1,e2,s2,_⟩:=hK2 δ d0
  have vz:z2<v':=Nx.mp λy=>by have:=C.le y;omega
  have gap:(z2-y1)/2<=v-u:=by grind
  rw[hv]at s1 s2;obtain⟨p1,p2⟩:=s1;obtain⟨p3,p4⟩:=s2
  have ed:((q0:Rat)+v*(q1:Rat)+v*v*(q2:Rat))-((q0:Rat)+u*(q1:Rat)+u*u*(q2:Rat))=q2*(v-u)*(u+v-S):=by
   have:(q1:Rat) = -(S*q2):=by grind
   rw[this];grind
  have r1:Bd (D*δ) (u+v-S):=by
   generalize u+v-S=Y at *
   have hg:=MZ gap (MF Q0)
   have k0:(K1+K2)*δ<=D*δ*(q2*(v-u)):=by
    have:=MZ hg (MJ D0 (MF d0));have e3:D*δ*(q2*((z2-y1)/2))=(K1+K2)*δ:=by rw[<- qe];grind
    rw[e3]at this;exact this
   have pos:0<q2*(v-u):=ML Q0 (by grind);constructor
   ·exact fI pos (by grind)
   ·exact fI pos (by grind)
  refine⟨u,v,g1,by grind,h1,by grind,r1,?_⟩;have bu:Bd B u:=⟨by have:=bx1.1;grind,by have:=by1.2;grind⟩;obtain⟨m1,m2⟩:=bu.mul r1
  have e4:(P-u*v)*q2=((q0:Rat)+u*(q1:Rat)+u*u*(q2:Rat))-u*(u+v-S)*q2:=by
   have:(q1:Rat) = -(S*q2):=by grind
   rw[this,<- eP];grind
  generalize u*(u+v-S)=Y at *
  generalize (q0:Rat)+u*(q1:Rat)+u*u*(q2:Rat)=Z at *
  generalize P-u*v=X at *
  have e5:K1*δ=E*δ*q2:=by rw[<- q'e];grind
  constructor
  ·refine fI Q0 ?_;have:=Nw m2 (MF Q0);grind
  ·refine fI Q0 ?_;have:=Nw m1 (MF Q0);grind
 have BD:=MJ B0 D0;refine⟨oH D0 g0 λδ d0 d1=>?_,oH D0 g0 λδ d0 d1=>?_,oH (C:=E+B*D) (by grind) g0 λδ d0 d1=>?_,oH (C:=E+B*D) (by grind) g0 λδ d0 d1=>?_⟩
 ·obtain⟨u,v,a1,a2,a3,a4,⟨b1,b2⟩,_⟩:=near δ d0 d1;grind
 ·obtain⟨u,v,a1,a2,a3,a4,⟨b1,b2⟩,_⟩:=near δ d0 d1;grind
 ·obtain⟨u,v,a1,a2,a3,a4,_,⟨b1,b2⟩⟩:=near δ d0 d1;have:=DM a1 a2 a3 a4 c1 c2 c3 c4;grind
 ·obtain⟨u,v,a1,a2,a3,a4,_,⟨b1,b2⟩⟩:=near δ d0 d1;have bu:Bd B u:=⟨by have:=bx1.1;grind,by have:=by1.2;grind⟩
  have cor:∀{a b:Rat},Bd w (a-u)->Bd w (b-v)->Bd B b->a*b-2*B*w<=u*v:=λ{a b} h1 h2 h3=>by
   obtain⟨t1,t2⟩:=h1.mul h3;obtain⟨t3,t4⟩:=bu.mul h2;have:a*b-u*v=(a-u)*b+u*(b-v):=by grind
   grind
  have f1:Bd w (x1-u):=⟨by grind,by grind⟩;have f2:Bd w (y1-u):=⟨by grind,by grind⟩;have f3:Bd w (x2-v):=⟨by grind,by grind⟩;have f4:Bd w (y2-v):=⟨by grind,by grind⟩
  have:M-2*B*w<=u*v:=by
   rcases is with e |e |e |e<;>rw[e]
   ·exact cor f1 f3 bx2
   ·exact cor f1 f4 by2
   ·exact cor f2 f3 bx2
   ·exact cor f2 f4 by2
  grind
inductive Cov(V:Rat->Int):List (Rat×Rat)->Rat->Rat->Prop
 |nil {lo hi:Rat} (e:V lo=V hi):Cov V [] lo hi
 |cons {a b lo hi:Rat} {cs:List (Rat×Rat)} (ab:a<b) (e:V lo=V a) (h:Cov V cs b hi):Cov V ((a,b)::cs) lo hi
theorem Cov.find{V:Rat->Int}{t:Int}:∀{cs:List (Rat×Rat)} {lo hi:Rat},Cov V cs lo hi->(∀c∈cs,V c.1-V c.2<=1)->V hi<=t->t<V lo->∃c∈cs,V c.1=t+1/\V c.2=t
 |_,_,_,.nil e,_,h1,h2=>by omega
 |_,_,_,.cons (a:=a) (b:=b) ab e h,h0,h1,h2=>by
  have k:=h0 (a,b) (M0 ..);dsimp only at k
  by_cases z:t<V b
  ·obtain⟨c,hc,e1,e2⟩:=Cov.find h (λc hc=>h0 c (MV _ hc)) h1 z;exact⟨c,MV _ hc,e1,e2⟩
  ·refine⟨(a,b),M0 ..,?_,?_⟩
   ·show V a=t+1;omega
   ·show V b=t;omega
theorem Ay{f:Rat->Rat}{V:Rat->Int}(C:Cnt f V):∀(cs:List (Rat×Rat)) {lo hi:Rat},lo<=hi->cs.Pairwise (λx y=>x.2<=y.1)->(∀c∈cs,c.1<c.2/\V c.1-V c.2=1/\lo<=c.1/\c.2<=hi)->(cs.length:Int)<=V lo-V hi
 | [],lo,hi,h,_,_=>by have:=C.le h;show(0:Int)<=_;omega
 |c::cs,lo,hi,h,hp,hc=>by
  obtain⟨p1,p2⟩:=Np.mp hp;obtain⟨c1,c2,c3,c4⟩:=hc c (M0 ..)
  have ih:=Ay C cs c4 p2 λd hd=>by obtain⟨d1,d2,d3,d4⟩:=hc d (MV _ hd);exact⟨d1,d2,p1 d hd,d4⟩
  have:=C.le c3;rw[Ng];omega
theorem uV{f:Rat->Rat}{V:Rat->Int}(C:Cnt f V):∀(cs:List (Rat×Rat)) {lo hi:Rat},lo<=hi->cs.Pairwise (λx y=>x.2<=y.1)->(∀c∈cs,c.1<c.2/\V c.1-V c.2=1/\lo<=c.1/\c.2<=hi)->(cs.length:Int)=V lo-V hi->Cov V cs lo hi
 | [],lo,hi,h,_,_,e=>.nil (by have e':(0:Int)=V lo-V hi:=e;omega)
 |c::cs,lo,hi,h,hp,hc,e=>by
  obtain⟨p1,p2⟩:=Np.mp hp;obtain⟨c1,c2,c3,c4⟩:=hc c (M0 ..)
  have hr:∀d∈cs,d.1<d.2/\V d.1-V d.2=1/\c.2<=d.1/\d.2<=hi:=λd hd=>by obtain⟨d1,d2,d3,d4⟩:=hc d (MV _ hd);exact⟨d1,d2,p1 d hd,d4⟩
  have ih:=Ay C cs c4 p2 hr;have:=C.le c3;rw[Ng]at e;exact .cons c1 (by omega) (uV C cs c4 p2 hr (by omega))
theorem Cov.dv{G q:Ex}(hG:Flt G)(hq:Flt q)(d:Dv q G):∀{cs:List (Rat×Rat)} {lo hi:Rat},Cov (vw G) cs lo hi->(∀c∈cs,lo<=c.1)->lo<=hi->(cs.Pairwise λx y=>x.2<=y.1)->(∀c∈cs,c.2<=hi)->Cov (vw q) cs lo hi
 |_,lo,hi,.nil e,_,h,_,_=>.nil (by
  rcases dj h with z |z
  ·have:=hG.le hq d z;have:=hq.cnt.mono z;omega
  ·rw[z])
 |_,lo,hi,.cons (a:=a) (b:=b) (cs:=cs) ab e h,h1,h2,hp,h3=>by
  obtain⟨p1,p2⟩:=Np.mp hp;have la:lo<=a:=h1 (a,b) (M0 ..);refine .cons ab ?_ (Cov.dv hG hq d h (λc hc=>p1 c hc) (h3 (a,b) (M0 ..)) p2 λc hc=>h3 c (MV _ hc));rcases dj la with z |z
  ·have:=hG.le hq d z;have:=hq.cnt.mono z;have z':lo<a:=z;have e':vw G lo=vw G a:=e;show vw q lo=vw q a;omega
  ·rw[z]
def BA{q0 q1 q2:Int}(hq:Flt [q0,q1,q2])(hp:0<q2){T m:Int}(R:Rts (pv [q0,q1,q2]) (vw [q0,q1,q2]) T m)(hm:1<=m):2<=m:=by
 apply Classical.byContradiction;intro hn;have m1:m=1:=by omega
 obtain⟨B,hB,h1,h2⟩:=R.lim
 obtain⟨k,hk⟩:∃k:Nat,∀c∈[q0,q1],c.natAbs<=(2^k-1)*q2.natAbs:=by
  refine⟨q0.natAbs+q1.natAbs+1,λc hc=>?_⟩;have b:q0.natAbs+q1.natAbs+1<2^(q0.natAbs+q1.natAbs+1):=Nat.lt_two_pow_self;have b2:2^(q0.natAbs+q1.natAbs+1)-1<=(2^(q0.natAbs+q1.natAbs+1)-1)*q2.natAbs:=OR _ (by omega);rcases MG.mp hc with rfl |hc
  ·omega
  ·rw[MH.mp hc];omega
 obtain⟨f1,f2⟩:=Ac (r:=[q0,q1]) (l:=q2) (by omega) hk;have b0:(0:Rat)<2^k:=N7 (by decide)
 obtain⟨c,c1,c2⟩:∃c:Rat,B<=c/\2^k<=c:=by
  rcases MM (a:=B) (b:=2^k)with z |z
  ·exact⟨2^k,z,ME⟩
  ·exact⟨B,ME,z⟩
 have g1:=f1 c c2;have g2:=f2 (-c) (by grind);have e1:=h1 (-c) (by grind);have e2:=h2 c c1;have x:=R.c.cross (a := -c) (b:=c) (by grind) (by omega) e1.2 e2.2;have g1':aj (pv [q0,q1,q2] c)=aj (q2:Rat):=g1;have g2':aj (pv [q0,q1,q2] (-c))=1*aj (q2:Rat):=g2.trans (by rw[if_pos (by simp)])
 have pos:aj (q2:Rat)=1:=by have:(0:Rat)<(q2:Rat):=MP.mpr hp;unfold aj;rw[if_neg (by grind),if_pos this]
 omega
def Rts.dvB{G p:Ex}{B:Rat}(hG:Flt G)(hp:Flt p)(d:Dv p G)(hB:0<B)(h1:∀x,x <= -B->vw G x=vw G (-B)/\pv G x≠0)(h2:∀x,B<=x->vw G x=vw G B/\pv G x≠0):Rts (pv p) (vw p) (vw p (-B)) (vw p (-B)-vw p B):=by
 have C:=hp.cnt;refine⟨C,B,hB,λx hx=>⟨?_,λz=>(h1 x hx).2 (ma d z)⟩,λx hx=>⟨?_,λz=>(h2 x hx).2 (ma d z)⟩⟩
 ·rcases dj hx with q |q
  ·have k:=hG.le hp d q;have:=(h1 x hx).1;have:=C.mono q;omega
  ·rw[q]
 ·have e:vw p x=vw p B:=by
   rcases dj hx with q |q
   ·have k:=hG.le hp d q;have:=(h2 x hx).1;have:=C.mono q;omega
   ·rw[q]
  omega
def EK{G q:Ex}{B l h:Rat}{cs:List (Rat×Rat)}(hG:Flt G)(Q:Od G l h q)(h3:q.length=3)(hB:0<B)(h1:∀x,x <= -B->vw G x=vw G (-B)/\pv G x≠0)(h2:∀x,B<=x->vw G x=vw G B/\pv G x≠0)
 (hp:cs.Pairwise λx y=>x.2<=y.1) (hc:∀c∈cs,c.1<c.2/\vw G c.1-vw G c.2=1 /\ -B<=c.1/\c.2<=B) (hl:(cs.length:Int)=vw G (-B)-vw G B):∃c∈cs,vw q c.1-vw q c.2=1/\vw q c.2≠vw q h:=by
 have R:=Rts.dvB hG Q.flt Q.dv hB h1 h2;have C:=Q.flt.cnt;have cv:=(uV hG.cnt cs (show -B<=B by grind) hp hc hl).dv hG Q.flt Q.dv (λc hc'=>(hc c hc').2.2.1) (by grind) hp λc hc'=>(hc c hc').2.2.2
 have le1:∀c∈cs,vw q c.1-vw q c.2<=1:=λc hc'=>by obtain⟨a,b,_⟩:=hc c hc';have:=hG.le Q.flt Q.dv a;omega
 have i1:=R.in l;have i2:=R.in h;have zl:=Bm (pv q) l;have o:=Q.one
 have two:2<=vw q (-B)-vw q B:=by obtain⟨q0,q1,q2,rfl⟩:=lE h3;exact BA Q.flt Q.pln.pos R (by omega)
 by_cases e:vw q h=vw q (-B)-1
 ·obtain⟨c,c1,c2,c3⟩:=cv.find (t:=vw q (-B)-2) le1 (by omega) (by omega);exact⟨c,c1,by omega,by omega⟩
 ·obtain⟨c,c1,c2,c3⟩:=cv.find (t:=vw q (-B)-1) le1 (by omega) (by omega);exact⟨c,c1,by omega,by omega⟩
def x8(a P q:Rat):a*(P*q)=a*q*P:=by grind
def DK(L M u:Rat):L*(M-u)=L*M-L*u:=by grind
def DJ{u v z:Rat}(t:v-u<=z)(e:u<1):v<z+1:=by grind
section
variable {f g:Rat->Rat}{V W:Rat->Int}{a b:Rat}
def Cnt.mon(h:Cnt f V)(hab:a<b)(hm:(∀x y,a<=x->x<y->y<=b->f x<f y)\/∀x y,a<=x->x<y->y<=b->f y<f x):V a-V b=bJ f a b:=by
 obtain⟨δ,hδ,hp⟩:=h.loc a b;refine iq (C:=λx y=>V x-V y=bJ f x y) hab (λx y z hx hxy hyz hz c1 c2=>?_) hδ λx y hx hy hxy hd=>hp x y hx hxy hy hd
 show V x-V z=bJ f x z
 have:bJ f x z=bJ f x y+bJ f y z:=by
  unfold bJ;rcases hm with m |m<;>have p1:=m x y hx hxy (by grind)<;>have p2:=m y z (by grind) hyz hz <;>
  rcases bB (f x)with⟨q1,e1⟩ |⟨q1,e1⟩ |⟨q1,e1⟩<;>rcases bB (f y)with⟨q2,e2⟩ |⟨q2,e2⟩ |⟨q2,e2⟩<;>rcases bB (f z)with⟨q3,e3⟩ |⟨q3,e3⟩ |⟨q3,e3⟩<;>rw[e1,e2,e3]<;>first |rfl | (exfalso;grind)
 omega
end
def Flt.add{P p q:Ex}(h:Flt P)(hp:Flt p)(hq:Flt q){c:Int}(hc:c≠0)(e:∀n,c*cf P n=aH q p n){x y:Rat}(hxy:x<y):vw P x-vw P y=(vw p x-vw p y)+(vw q x-vw q y):=by
 have hP:=h.cnt;have hpc:=hp.cnt;have hqc:=hq.cnt;have nq:=hq.ne
 have cop:Cop2 p q:=λd dn dt h1 h2=>by obtain⟨a,b⟩:=uO hc e (.inl ⟨h2,h1⟩);exact h.cop d dn dt a b
 have hst:=np q.length p q (MI _) hp.tr hp.ne hq.tr cop
 obtain⟨r,er⟩:∃r,bR (q.length+1) p q=p::q::r:=by have hq:0<q.length:=MR.mpr nq;obtain⟨m,hm⟩:∃m,q.length=m+1:=⟨q.length-1,by omega⟩;refine⟨bR m (aO p q) (aO q (aO p q)),?_⟩;rw[hm];show(if p=[]then _ else p::(if q=[]then _ else _))=_;rw[if_neg hp.ne,if_neg nq]
 obtain⟨A,B,k,nA,nB,hk,hAB⟩:=mr hst er;obtain⟨R,hR,hB⟩:=jL x y;obtain⟨δ4,κ,d4,hκ,l4⟩:=oh (dD p) (dD q) nA nB hk hAB hR;obtain⟨δ1,d1,p1⟩:=hP.loc x y;obtain⟨δ2,d2,p2⟩:=hpc.loc x y;obtain⟨δ3,d3,p3⟩:=hqc.loc x y
 have min2:∀u v:Rat,0<u->0<v->∃w:Rat,0<w/\w<=u/\w<=v:=λu v hu hv=>by
  rcases MM (a:=u) (b:=v)with z |z
  ·exact⟨u,hu,ME,z⟩
  ·exact⟨v,hv,z,ME⟩
 obtain⟨m1,m10,m11,m12⟩:=min2 δ1 δ2 d1 d2;obtain⟨m2,m20,m21,m22⟩:=min2 δ3 δ4 d3 d4;obtain⟨δ,hδ,m31,m32⟩:=min2 m1 m2 m10 m20
 have val:∀u,(c:Rat)*pv P u=pv q u*pv p u:=λu=>by
  have:=dB u q p (aM c P) λn=>by rw[bA,e]
  rw[<- this,dg (a:=P) (u:=c) u (bA _ _)]
 have hC:(c:Rat)≠0:=cN hc;refine iq (C:=λu v=>vw P u-vw P v=(vw p u-vw p v)+(vw q u-vw q v)) hxy (λu v w _ _ _ _ c1 c2=>by show vw P u-vw P w=(vw p u-vw p w)+(vw q u-vw q w);omega) hδ λu v hu hv huv hd=>?_
 show vw P u-vw P v=(vw p u-vw p v)+(vw q u-vw q v);rw[p1 u v hu huv hv (by grind),p2 u v hu huv hv (by grind),p3 u v hu huv hv (by grind)];have fu:=congrArg aj (val u);have fv:=congrArg aj (val v);rw[kI,kI]at fu fv;have sc:aj (c:Rat)≠0:=sg_ne.mpr hC;have st:¬Sta (pv p) u v->Sta (pv q) u v:=λz=>(l4 u v (hB u hu (by grind)) (hB v (by grind) hv) huv (by grind) z).1
 have st':(aj (pv p u)=aj (pv p v)/\aj (pv p u)≠0)\/(aj (pv q u)=aj (pv q v)/\aj (pv q u)≠0):=by
  by_cases z:Sta (pv p) u v
  ·exact .inl z
  ·exact .inr (st z)
 unfold bJ;clear st p1 p2 p3 val hAB e;generalize aj (c:Rat)=C at *
 rcases bB (pv p u)with⟨_,e1⟩ |⟨_,e1⟩ |⟨_,e1⟩<;>rcases bB (pv p v)with⟨_,e2⟩ |⟨_,e2⟩ |⟨_,e2⟩<;>rcases bB (pv q u)with⟨_,e3⟩ |⟨_,e3⟩ |⟨_,e3⟩<;>rcases bB (pv q v)with⟨_,e4⟩ |⟨_,e4⟩ |⟨_,e4⟩<;>rw[e1,e3]at fu<;>rw[e2,e4]at fv<;>rw[e1,e2,e3,e4]at st' ⊢<;>first | (exfalso;revert st';decide) | (have k1:aj (pv P u)=0:=(Int.mul_eq_zero.mp fu).resolve_left sc;rw[k1];rfl) | (have k1:aj (pv P v)=0:=(Int.mul_eq_zero.mp fv).resolve_left sc;have k2:aj (pv P u)≠0:=(λz=>by rw[z,Nk]at fu;revert fu;decide);rw[if_pos ⟨k2,by rw[k1];exactλz=>k2 z.symm⟩];rfl) | (have k2:aj (pv P u)≠0:=(λz=>by rw[z,Nk]at fu;revert fu;decide);have k3:aj (pv P v)=aj (pv P u):=OG sc (by rw[fu,fv]);rw[if_neg (λz=>z.2 k3)];rfl) | (have k2:aj (pv P u)≠0:=(λz=>by rw[z,Nk]at fu;revert fu;decide);have k3:aj (pv P v)≠aj (pv P u):=(λz=>by rw[z,fu]at fv;revert fv;decide);rw[if_pos ⟨k2,k3⟩];rfl)
def PFn(f:Rat->Rat):Prop:=∃(l:Ex) (m:Int),m≠0/\∀x,(m:Rat)*f x=pv l x
def PFn.pv(l:Ex):PFn (pv l):=⟨l,1,by decide,λx=>by show((1:Int):Rat)*_=_;rw[show((1:Int):Rat)=1 from rfl];grind⟩
def PFn.const(r:Rat):PFn λ_=>r:=by
 refine⟨[r.num],(r.den:Int),?_,λx=>?_⟩
 ·have:=r.den_nz;omega
 ·show _=(r.num:Rat)+x*0
  have e:r*((r.den:Int):Rat)=(r.num:Rat):=by
   have ex:(r.num:Rat)/((r.den:Int):Rat)=r:=by rw[<- Rat.divInt_eq_div];exact Rat.num_divInt_den r
   have d0:((r.den:Int):Rat)≠0:=cN (by have:=r.den_nz;omega);have h:=MN (a:=(r.num:Rat)) d0;rw[ex]at h;exact h
  grind
def PFn.id:PFn λx=>x:=⟨[0,1],1,by decide,λx=>by
 show((1:Int):Rat)*x=((0:Int):Rat)+x*(((1:Int):Rat)+x*0)
 rw[show((1:Int):Rat)=1 from rfl,show((0:Int):Rat)=0 from rfl];grind⟩
def PFn.mul{f g:Rat->Rat}(h1:PFn f)(h2:PFn g):PFn λx=>f x*g x:=by obtain⟨a,m,hm,e⟩:=h1;obtain⟨b,n,hn,e'⟩:=h2;refine⟨aw a b,m*n,Na hm hn,λx=>?_⟩;rw[dB x a b (aw a b) (aW a b),<- e,<- e',MD];grind
def PFn.add{f g:Rat->Rat}(h1:PFn f)(h2:PFn g):PFn λx=>f x+g x:=by obtain⟨a,m,hm,e⟩:=h1;obtain⟨b,n,hn,e'⟩:=h2;refine⟨fB (aM n a) (aM m b),m*n,Na hm hn,λx=>?_⟩;rw[iJ (a:=a) (b:=b) (c:=fB (aM n a) (aM m b)) (u:=n) (v:=m) x λk=>by rw[JN,bA,bA],<- e,<- e',MD];grind
def PFn.sub{f g:Rat->Rat}(h1:PFn f)(h2:PFn g):PFn λx=>f x-g x:=by have:=h1.add ((PFn.const (-1)).mul h2);obtain⟨l,m,hm,e⟩:=this;exact⟨l,m,hm,λx=>by rw[<- e];grind⟩
def Bz(A B:Ex):Prop:=∃(f g:Rat->Rat) (c:Rat),PFn f/\PFn g/\c≠0/\∀x,f x*pv A x+g x*pv B x=c
def Bz.symm{A B:Ex}(h:Bz A B):Bz B A:=by obtain⟨f,g,c,hf,hg,hc,e⟩:=h;exact⟨g,f,c,hg,hf,hc,λx=>by rw[<- e x];grind⟩
def Bz.mul{A B C P:Ex}{k:Rat}(hk:k≠0)(hP:∀x,pv P x=k*(pv A x*pv B x))(h1:Bz A C)(h2:Bz B C):Bz P C:=by
 obtain⟨f,g,c,hf,hg,hc,e⟩:=h1;obtain⟨f',g',c',hf',hg',hc',e'⟩:=h2;have ek:1/k*k=1:=MN hk;refine⟨λx=>(f x*f' x)*(1/k),λx=>f x*pv A x*g' x+(g x*(f' x*pv B x)+g x*(g' x*pv C x)),c*c',(hf.mul hf').mul (PFn.const _),((hf.mul (PFn.pv A)).mul hg').add ((hg.mul (hf'.mul (PFn.pv B))).add (hg.mul (hg'.mul (PFn.pv C)))),λz=>(MQ.mp z).elim hc hc',λx=>?_⟩;rw[hP,<- e x,<- e' x];dsimp only
 generalize 1/k=j at *
 generalize f x=u1 at *
 generalize f' x=u2 at *
 generalize g x=u3 at *
 generalize g' x=u4 at *
 generalize pv A x=u5 at *
 generalize pv B x=u6 at *
 generalize pv C x=u7 at *
 have:u1*u2*j*(k*(u5*u6))=(j*k)*(u1*u2*(u5*u6)):=by grind
 rw[this,ek];grind
def Bz.scale{A P C:Ex}{k:Rat}(hk:k≠0)(hP:∀x,pv P x=k*pv A x)(h:Bz A C):Bz P C:=by
 obtain⟨f,g,c,hf,hg,hc,e⟩:=h;have ek:1/k*k=1:=MN hk;refine⟨λx=>f x*(1/k),g,c,hf.mul (PFn.const _),hg,hc,λx=>?_⟩;rw[hP,<- e x];generalize 1/k=j at *
 have:f x*j*(k*pv A x)=(j*k)*(f x*pv A x):=by grind
 dsimp only
 rw[this,ek];grind
def Cz{l:Ex}(tl:Tr l){c:Rat}(h:∀x,pv l x=c):l.length<=1:=by
 cases l with
 |nil=>exact MK _
 |cons a r =>
  have h0:=h 0
  have e0:(a:Rat)=c:=by rw[<- h0];show _=(a:Rat)+0*pv r 0;grind
  have z:∀x,x≠0->pv r x=0:=λx hx=>by
   have:=h x;rw[<- e0]at this;have k:(a:Rat)+x*pv r x=(a:Rat):=this;have:x*pv r x=0:=by grind
   exact(MQ.mp this).resolve_left hx
  have e:r=List.replicate r.length 0:=nV (by simp) λx hx _=>by
   rw[z x (by grind)]
   have:∀n:Nat,pv (List.replicate n 0) x=0:=λn=>by
    induction n with
    |zero=>rfl
    |succ n ih =>show((0:Int):Rat)+x*pv (List.replicate n 0) x=0;rw[ih,show((0:Int):Rat)=0 from rfl];grind
   rw[this]
  rcases OX r.length with q |q
  ·show r.length+1<=1;omega
  ·exfalso;have t:=tl r.length (by simp);apply t;rw[e];obtain⟨m,hm⟩:∃m,r.length=m+1:=⟨r.length-1,by omega⟩;rw[hm];simp[cf]
def Bz.cop{A B:Ex}(h:Bz A B):Cop2 A B:=λd dn dt h1 h2=>by
 obtain⟨f,g,c,hf,hg,hc,e⟩:=h;obtain⟨c1,q1,hc1,e1⟩:=h1;obtain⟨c2,q2,hc2,e2⟩:=h2
 have v1:∀x,(c1:Rat)*pv A x=pv q1 x*pv d x:=λx=>by
  have:=dB x q1 d (aM c1 A) λn=>by rw[bA,e1]
  rw[<- this,dg (a:=A) (u:=c1) x (bA _ _)]
 have v2:∀x,(c2:Rat)*pv B x=pv q2 x*pv d x:=λx=>by
  have:=dB x q2 d (aM c2 B) λn=>by rw[bA,e2]
  rw[<- this,dg (a:=B) (u:=c2) x (bA _ _)]
 have hs:PFn λx=>((c2:Rat)*f x)*pv q1 x+((c1:Rat)*g x)*pv q2 x:=(((PFn.const _).mul hf).mul (PFn.pv q1)).add (((PFn.const _).mul hg).mul (PFn.pv q2))
 obtain⟨l,m,hm,el⟩:=hs
 have key:∀x,pv (trim l) x*pv d x=(m:Rat)*((c1:Rat)*(c2:Rat)*c):=λx=>by
  have t:pv (trim l) x=pv l x:=by
   have:=dg (a:=l) (c:=trim l) (u:=1) x λn=>by rw[fW,M9]
   rw[this,show((1:Int):Rat)=1 from rfl];grind
  have el':(m:Rat)*((c2:Rat)*f x*pv q1 x+(c1:Rat)*g x*pv q2 x)=pv l x:=el x;rw[t,<- el',<- e x];have a1:=v1 x;have a2:=v2 x;generalize pv A x=u1 at *
  generalize pv B x=u2 at *
  generalize pv q1 x=u3 at *
  generalize pv q2 x=u4 at *
  generalize pv d x=u5 at *
  have:(m:Rat)*((c2:Rat)*f x*u3+(c1:Rat)*g x*u4)*u5=(m:Rat)*((c2:Rat)*f x*(u3*u5)+(c1:Rat)*g x*(u4*u5)):=by grind
  rw[this,<- a1,<- a2];grind
 have hk:(m:Rat)*((c1:Rat)*(c2:Rat)*c)≠0:=λz=>by
  rcases MQ.mp z with z |z
  ·exact cN hm z
  rcases MQ.mp z with z |z
  ·rcases MQ.mp z with z |z
   ·exact cN hc1 z
   ·exact cN hc2 z
  ·exact hc z
 have nl:trim l≠[]:=λz=>by have:=key 0;rw[z]at this;apply hk;rw[<- this];show(0:Rat)*_=0;grind
 have:=Cz (gW (fD l) dt) λx=>by rw[dB x (trim l) d _ (aW _ _)];exact key x
 rw[dO nl dn]at this;have:=MR.mpr nl;omega
def D6(A B:Ex)(x:Rat):pv (slopeL (aw A B)) x=pv (slopeL A) x*pv B x+pv A x*pv (slopeL B) x:=by
 have:=iJ (a:=aw (slopeL A) B) (b:=aw A (slopeL B)) (c:=slopeL (aw A B)) (u:=1) (v:=1) x λn=>by rw[qz,aW,aW];omega
 rw[this,dB x _ _ _ (aW _ _),dB x _ _ _ (aW _ _),show((1:Int):Rat)=1 from rfl];grind
def Fl(A:Ex):Prop:=Bz A (slopeL A)
def Ig{a b a' b' f1 g1 f2 g2 f3 g3 c1 c2 c3:Rat}(e1:f1*a+g1*a'=c1)(e2:f2*b+g2*b'=c2)(e3:f3*a+g3*b=c3) :
 ((c1*f3)*f3*(f2*a-g2*a')+(2*c1*c2*(f3*g3)+(c2*g3)*g3*(f1*b-g1*b')))*(a*b)+((c1*f3)*f3*(g2*a)+(c2*g3)*g3*(g1*b))*(a'*b+a*b')=c1*c2*(c3*c3):=by
 have h1:(f2*a-g2*a')*(a*b)+g2*a*(a'*b+a*b')=(f2*b+g2*b')*(a*a):=by grind
 have h2:(f1*b-g1*b')*(a*b)+g1*b*(a'*b+a*b')=(f1*a+g1*a')*(b*b):=by grind
 rw[e2]at h1;rw[e1]at h2;have h3:((c1*f3)*f3*(f2*a-g2*a')+(2*c1*c2*(f3*g3)+(c2*g3)*g3*(f1*b-g1*b')))*(a*b)+((c1*f3)*f3*(g2*a)+(c2*g3)*g3*(g1*b))*(a'*b+a*b')=(c1*f3)*f3*((f2*a-g2*a')*(a*b)+g2*a*(a'*b+a*b'))+2*c1*c2*(f3*g3)*(a*b)+(c2*g3)*g3*((f1*b-g1*b')*(a*b)+g1*b*(a'*b+a*b')):=by grind
 rw[h3,h1,h2,<- e3];grind
def Fl.mul{A B:Ex}(h1:Fl A)(h2:Fl B)(h3:Bz A B):Fl (aw A B):=by
 obtain⟨f1,g1,c1,hf1,hg1,hc1,e1⟩:=h1;obtain⟨f2,g2,c2,hf2,hg2,hc2,e2⟩:=h2;obtain⟨f3,g3,c3,hf3,hg3,hc3,e3⟩:=h3;have pA:=PFn.pv A;have pB:=PFn.pv B;have pA':=PFn.pv (slopeL A);have pB':=PFn.pv (slopeL B);have k1:=(PFn.const c1).mul hf3 |>.mul hf3
 have k2:=(PFn.const c2).mul hg3 |>.mul hg3
 refine⟨_,_,c1*c2*(c3*c3),(k1.mul ((hf2.mul pA).sub (hg2.mul pA'))).add (((PFn.const (2*c1*c2)).mul (hf3.mul hg3)).add (k2.mul ((hf1.mul pB).sub (hg1.mul pB')))),(k1.mul (hg2.mul pA)).add (k2.mul (hg1.mul pB)),λz=>?_,λx=>?_⟩
 ·rcases MQ.mp z with z |z
  ·rcases MQ.mp z with z |z
   ·exact hc1 z
   ·exact hc2 z
  ·rcases MQ.mp z with z |z<;>exact hc3 z
 ·rw[D6,dB x A B _ (aW _ _)];exact Ig (e1 x) (e2 x) (e3 x)
def Fl.flt{A:Ex}(h:Fl A)(tA:Tr A)(l2:2<=A.length)(l8:A.length<=9):Flt A:=⟨tA,l2,l8,h.cop⟩
theorem sS(r:Rat):∀l:Ex,∃s:Rat->Rat,PFn s/\∀x,pv l x-pv l r=(x-r)*s x
 | []=>⟨λ_=>0,PFn.const 0,λx=>by show(0:Rat)-0=_;grind⟩
 |c::l=>by obtain⟨s,hs,e⟩:=sS r l;refine⟨λx=>pv l x+r*s x,(PFn.pv l).add ((PFn.const r).mul hs),λx=>?_⟩;show((c:Rat)+x*pv l x)-((c:Rat)+r*pv l r)=_;have:=e x;grind
def pv2(t n:Int)(x:Rat):pv [t,n] x=(t:Rat)+x*(n:Rat):=by show(t:Rat)+x*((n:Rat)+x*0)=_;grind
def vm{t n:Int}{P:Ex}{r:Rat}(hn:n≠0)(hr:(t:Rat)+r*(n:Rat)=0)(h:pv P r≠0):Bz [t,n] P:=by
 obtain⟨s,hs,e⟩:=sS r P;have n0:(n:Rat)≠0:=cN hn;have en:1/(n:Rat)*(n:Rat)=1:=MN n0;refine⟨λx=>(-(1/(n:Rat)))*s x,λ_=>1,pv P r,(PFn.const _).mul hs,PFn.const 1,h,λx=>?_⟩;have e1:=e x;rw[pv2];dsimp only
 generalize 1/(n:Rat)=j at *
 have:(t:Rat)+x*(n:Rat)=(n:Rat)*(x-r):=by grind
 rw[this];have : -j*s x*((n:Rat)*(x-r)) = -((j*(n:Rat))*((x-r)*s x)):=by grind
 rw[this,en,<- e1];grind
def AO{Q P:Ex}{y s:Rat->Rat}{D α β:Rat}(hy:PFn y)(hs:PFn s)(hQ:∀x,pv Q x=y x*y x-D)(hP:∀x,pv P x=pv Q x*s x+α*y x+β)(h:α*α*D≠β*β):Bz Q P:=by refine⟨λx=>(-1)*(s x*(α*y x-β)+α*α),λx=>α*y x-β,α*α*D-β*β,(PFn.const (-1)).mul ((hs.mul (((PFn.const α).mul hy).sub (PFn.const β))).add (PFn.const _)),((PFn.const α).mul hy).sub (PFn.const β),λz=>h (by grind),λx=>?_⟩;rw[hP,hQ];grind
def Out(zs:List (Rat×Rat))(x:Rat):Prop:=∀z∈zs,x<=z.1\/z.2<=x
noncomputable def bT(zs:List (Rat×Rat))(x:Rat):Int:=((zs.countP λz=>decide (x<=z.1):Nat):Int)
def St(D:Rat->Prop)(V:Rat->Int)(zs:List (Rat×Rat)):Prop:=∀x y,D x->D y->Out zs x->Out zs y->V x-V y=bT zs x-bT zs y
def mh(a b:List (Rat×Rat))(x:Rat):bT (a++b) x=bT a x+bT b x:=by unfold bT;rw[List.countP_append];omega
def mf(x:Rat):bT [] x=0:=rfl
def i8(z:Rat×Rat)(zs:List (Rat×Rat))(x:Rat):bT (z::zs) x=(if x<=z.1 then 1 else 0)+bT zs x:=by
 unfold bT;rw[List.countP_cons];by_cases h:x<=z.1
 ·simp[h];omega
 ·simp[h]
def AE{a b:List (Rat×Rat)}(h:a.Perm b)(x:Rat):bT a x=bT b x:=by unfold bT;rw[h.countP_eq]
def Out.app{a b:List (Rat×Rat)}{x:Rat}(h:Out (a++b) x):Out a x/\Out b x:=⟨λz hz=>h z (Ob _ hz),λz hz=>h z (Nn _ hz)⟩
def St.merge{D:Rat->Prop}{V V1 V2:Rat->Int}{a b:List (Rat×Rat)}(hV:∀x y,x<y->V x-V y=(V1 x-V1 y)+(V2 x-V2 y))(h1:St D V1 a)(h2:St D V2 b):St D V (a++b):=λx y dx dy ox oy=>by
 have k1:=h1 x y dx dy ox.app.1 oy.app.1;have k2:=h2 x y dx dy ox.app.2 oy.app.2;rw[mh,mh];rcases f7 x y with z |z |z
 ·have:=hV x y z;omega
 ·subst z;omega
 ·have:=hV y x z;omega
def St.perm{D:Rat->Prop}{V:Rat->Int}{a b:List (Rat×Rat)}(p:a.Perm b)(h:St D V a):St D V b:=λx y dx dy ox oy=>by rw[<- AE p,<- AE p];exact h x y dx dy (λz hz=>ox z (p.mem_iff.mp hz)) λz hz=>oy z (p.mem_iff.mp hz)
def St.glue{D1 D2:Rat->Prop}{V:Rat->Int}{a b:List (Rat×Rat)}{p:Rat}(h1:St D1 V a)(h2:St D2 V b)(l1:∀x,D1 x->x<=p)(l2:∀x,D2 x->p<=x)(p1:D1 p)(p2:D2 p)(ha:∀z∈a,z.1<z.2/\z.2<=p)(hb:∀z∈b,p<=z.1):St (λx=>D1 x\/D2 x) V (a++b):=by
 have oa:∀x,p<=x->Out a x:=λx hx z hz=>.inr (by have:=(ha z hz).2;grind)
 have ob:∀x,x<=p->Out b x:=λx hx z hz=>.inl (by have:=hb z hz;grind)
 have ca:∀x,p<=x->bT a x=0:=λx hx=>by
  unfold bT
  rw[List.countP_eq_zero.mpr λz hz=>by
   have:=ha z hz;simp only[decide_eq_true_eq]
   grind];rfl
 have cb:∀x,x<=p->bT b x=bT b p:=λx hx=>by
  unfold bT
  rw[OI.mpr λz hz=>by
   have:=hb z hz;simp only[decide_eq_true_eq];grind,OI.mpr λz hz=>by
   have:=hb z hz;simp only[decide_eq_true_eq]
   grind]
 have toP:∀x,D1 x\/D2 x->Out (a++b) x->V x-V p=bT (a++b) x-bT (a++b) p:=λx hx ox=>by
  rw[mh,mh,ca p ME];rcases hx with q |q
  ·have:=h1 x p q p1 ox.app.1 (oa p ME);rw[ca p ME]at this;rw[cb x (l1 x q)];omega
  ·have:=h2 x p q p2 ox.app.2 (ob p ME);rw[ca x (l2 x q)];omega
 intro x y dx dy ox oy;have:=toP x dx ox;have:=toP y dy oy;omega
def St.dom{D D':Rat->Prop}{V:Rat->Int}{a:List (Rat×Rat)}(h:St D V a)(hD:∀x,D' x->D x):St D' V a:=λx y dx dy=>h x y (hD x dx) (hD y dy)
def St.none{f:Rat->Rat}{V:Rat->Int}(C:Cnt f V){D:Rat->Prop}(hD:∀x y z,D x->D y->x<=z->z<=y->D z){s:Int}(hs:∀x,D x->aj (f x)=s):St D V []:=λx y dx dy _ _=>by
 rw[mf,mf];rcases MM (a:=x) (b:=y)with q |q
 ·have:=C.keep q λz z1 z2=>hs z (hD x y z dx dy z1 z2)
  omega
 ·have:=C.keep q λz z1 z2=>hs z (hD y x z dy dx z1 z2)
  omega
def AG{f:Rat->Rat}{x y:Rat}:bJ f x y=if aj (f x)≠0/\aj (f y)≠aj (f x)then 1 else 0:=rfl
def St.mono{f:Rat->Rat}{V:Rat->Int}(C:Cnt f V){D:Rat->Prop}(hD:∀x y z,D x->D y->x<=z->z<=y->D z){a b:Rat}(hab:a<b)(da:D a)(db:D b)(hm:((∀x y,D x->D y->x<y->f x<f y)/\f a<0/\0<=f b)\/((∀x y,D x->D y->x<y->f y<f x)/\0<f a/\f b<=0)):St D V [(a,b)]:=by
 have mon:∀x y,D x->D y->x<y->V x-V y=bJ f x y:=λx y dx dy hxy=>by
  refine C.mon hxy ?_;rcases hm with⟨m,_⟩ |⟨m,_⟩
  ·exact .inl λu v hu huv hv=>m u v (hD x y u dx dy hu (by grind)) (hD x y v dx dy (by grind) hv) huv
  ·exact .inr λu v hu huv hv=>m u v (hD x y u dx dy hu (by grind)) (hD x y v dx dy (by grind) hv) huv
 have left:∀x,D x->x<=a->V x=V b+1:=λx dx hx=>by
  have hxb:x<b:=by grind
  have h:=mon x b dx db hxb
  have:bJ f x b=1:=by
   rw[AG,if_pos];rcases hm with⟨m,ha,hb⟩ |⟨m,ha,hb⟩
   ·have fx:f x<0:=by
     rcases dj hx with q |q
     ·have:=m x a dx da q;grind
     ·rw[q];exact ha
    rcases bB (f x)with⟨q,e⟩ |⟨q,e⟩ |⟨q,e⟩<;>rcases bB (f b)with⟨q',e'⟩ |⟨q',e'⟩ |⟨q',e'⟩<;>rw[e,e']<;>first |decide | (exfalso;grind)
   ·have fx:0<f x:=by
     rcases dj hx with q |q
     ·have:=m x a dx da q;grind
     ·rw[q];exact ha
    rcases bB (f x)with⟨q,e⟩ |⟨q,e⟩ |⟨q,e⟩<;>rcases bB (f b)with⟨q',e'⟩ |⟨q',e'⟩ |⟨q',e'⟩<;>rw[e,e']<;>first |decide | (exfalso;grind)
  omega
 have right:∀x,D x->b<=x->V x=V b:=λx dx hx=>by
  rcases dj hx with q0 |q0
  ·have h:=mon b x db dx q0
   have:bJ f b x=0:=by
    rw[AG,if_neg];rintro⟨n1,n2⟩;rcases hm with⟨m,ha,hb⟩ |⟨m,ha,hb⟩
    ·have:=m b x db dx q0;rcases bB (f x)with⟨q,e⟩ |⟨q,e⟩ |⟨q,e⟩<;>rcases bB (f b)with⟨q',e'⟩ |⟨q',e'⟩ |⟨q',e'⟩<;>rw[e']at n1<;>rw[e,e']at n2<;>first |exact absurd rfl n1 |exact absurd rfl n2 |grind
    ·have:=m b x db dx q0;rcases bB (f x)with⟨q,e⟩ |⟨q,e⟩ |⟨q,e⟩<;>rcases bB (f b)with⟨q',e'⟩ |⟨q',e'⟩ |⟨q',e'⟩<;>rw[e']at n1<;>rw[e,e']at n2<;>first |exact absurd rfl n1 |exact absurd rfl n2 |grind
   omega
  ·rw[q0]
 have val:∀x,D x->Out [(a,b)] x->V x=V b+bT [(a,b)] x:=λx dx ox=>by
  rw[i8,mf];rcases ox (a,b) (OZ _)with q |q
  ·rw[if_pos q,left x dx q];omega
  ·have n:¬x<=a:=by have:b<=x:=q;grind
   rw[if_neg n,right x dx q];omega
 intro x y dx dy ox oy;rw[val x dx ox,val y dy oy];omega
structure Srt(δ:Rat)(zs:List (Rat×Rat)):Prop where
 pw:zs.Pairwise λz z'=>z.2+δ<=z'.1
 ok:∀z∈zs,z.1<z.2
def Srt.sub{δ:Rat}{a b:List (Rat×Rat)}(h:Srt δ b)(s:a.Sublist b):Srt δ a:=⟨h.pw.sublist s,λz hz=>h.ok z (s.subset hz)⟩
theorem AC{x y:Rat}(hxy:x<=y):∀zs:List (Rat×Rat),(zs.Pairwise λz z'=>¬(x<=z.1/\z'.1<y))->bT zs x-bT zs y<=1
 | [],_=>by rw[mf,mf];omega
 |z::zs,h=>by
  obtain⟨h1,h2⟩:=Np.mp h;have ih:=AC hxy zs h2;rw[i8,i8];by_cases p:x<=z.1
  ·by_cases q:y<=z.1
   ·rw[if_pos p,if_pos q];omega
   ·rw[if_pos p,if_neg q];have all:∀z'∈zs,y<=z'.1:=λz' hz'=>Nj.mp λw=>h1 z' hz' ⟨p,w⟩
    have:bT zs x=bT zs y:=by
     unfold bT
     rw[OI.mpr λz' hz'=>by
      have:=all z' hz';simp only[decide_eq_true_eq];grind,OI.mpr λz' hz'=>by
      have:=all z' hz'
      simp only[decide_eq_true_eq];exact this]
    omega
  ·have q:¬y<=z.1:=by grind
   rw[if_neg p,if_neg q];omega
theorem Srt.cmp{δ:Rat}(hδ:0<=δ):∀{zs:List (Rat×Rat)},Srt δ zs->∀z∈zs,∀w∈zs,z=w\/z.2+δ<=w.1\/w.2+δ<=z.1
 | [],_,z,hz,_,_=>nomatch hz
 |y::zs,h,z,hz,w,hw=>by
  obtain⟨h1,h2⟩:=Np.mp h.pw;rcases MG.mp hz with e |e<;>rcases MG.mp hw with e' |e'
  ·exact .inl (e.trans e'.symm)
  ·exact .inr (.inl (by rw[e];exact h1 w e'))
  ·exact .inr (.inr (by rw[e'];exact h1 z e))
  ·exact Srt.cmp hδ ⟨h2,λu hu=>h.ok u (MV _ hu)⟩ z e w e'
def St.few{f:Rat->Rat}{V:Rat->Int}(C:Cnt f V){zs:List (Rat×Rat)}{δ:Rat}(hδ:0<δ)(hS:Srt δ zs)(h:St (λ_=>True) V zs){x y:Rat}(hxy:x<y)(hd:y-x<δ):V x<=V y+1:=by
 have cmp:=hS.cmp (MF hδ)
 obtain⟨x',x1,x2,x3⟩:∃x',x'<=x/\Out zs x'/\∀z∈zs,x'<=z.1->x<=z.2:=by
  by_cases q:Out zs x
  ·exact⟨x,ME,q,λz hz hx=>by have:=hS.ok z hz;grind⟩
  ·obtain⟨w,hw⟩:=Classical.not_forall.mp q;obtain⟨hw1,hw2⟩:=Classical.not_imp.mp hw;obtain⟨w1,w2⟩:=not_or.mp hw2;refine⟨w.1,by grind,λz hz=>?_,λz hz hx=>?_⟩
   ·have k:=hS.ok z hz;rcases cmp z hz w hw1 with e |e |e
    ·rw[e];exact .inl ME
    ·exact .inr (by grind)
    ·have:=hS.ok w hw1;exact .inl (by grind)
   ·have k:=hS.ok z hz;rcases cmp z hz w hw1 with e |e |e
    ·rw[e];grind
    ·exfalso;grind
    ·grind
 obtain⟨y',y1,y2,y3⟩:∃y',y<=y'/\Out zs y'/\∀z∈zs,z.1<y'->z.1<y:=by
  by_cases q:Out zs y
  ·exact⟨y,ME,q,λz hz hx=>hx⟩
  ·obtain⟨w,hw⟩:=Classical.not_forall.mp q;obtain⟨hw1,hw2⟩:=Classical.not_imp.mp hw;obtain⟨w1,w2⟩:=not_or.mp hw2;refine⟨w.2,by grind,λz hz=>?_,λz hz hx=>?_⟩
   ·have k:=hS.ok z hz;rcases cmp z hz w hw1 with e |e |e
    ·rw[e];exact .inr ME
    ·have:=hS.ok w hw1;exact .inr (by grind)
    ·exact .inl (by grind)
   ·have k:=hS.ok z hz;rcases cmp z hz w hw1 with e |e |e
    ·rw[e];grind
    ·grind
    ·exfalso;grind
 have m1:=C.le x1;have m2:=C.le y1;have e:=h x' y' trivial trivial x2 y2
 have two:=AC (x:=x') (y:=y') (by grind) zs (hS.pw.imp_of_mem λ{z z'} hz hz' hp=>by
  rintro⟨p,q⟩;have a:=x3 z hz p;have b:=y3 z' hz' q
  grind)
 omega
theorem Srt.at{δ:Rat}(hδ:0<=δ){V:Rat->Int}:∀{zs:List (Rat×Rat)},Srt δ zs->∀(k:Nat) (z:Rat×Rat),zs[k]?=some z->bT zs z.1=zs.length-k/\bT zs z.2=zs.length-k-1/\Out zs z.1/\Out zs z.2
 | [],_,k,z,h=>by simp at h
 |y::zs,hS,k,z,h=>by
  obtain⟨h1,h2⟩:=Np.mp hS.pw;have oy:=hS.ok y (M0 ..);cases k with
  |zero =>
   obtain rfl:y=z:=by simpa using h
   have c:∀x,x<=y.2->bT zs x=zs.length:=λx hx=>by
    unfold bT
    rw[OI.mpr λz' hz'=>by
     have:=h1 z' hz'
     simp only[decide_eq_true_eq];grind]
   rw[i8,i8,if_pos ME,if_neg (by grind),c _ (MF oy),c _ ME];refine⟨by simp only[Ng];omega,by simp only[Ng];omega,λw hw=>?_,λw hw=>?_⟩
   ·rcases MG.mp hw with e |e
    ·rw[e];exact .inl ME
    ·exact .inl (by have:=h1 w e;grind)
   ·rcases MG.mp hw with e |e
    ·rw[e];exact .inr ME
    ·exact .inl (by have:=h1 w e;grind)
  |succ k =>
   have h':zs[k]?=some z:=by simpa using h
   obtain⟨a,b,c,d⟩:=Srt.at hδ (V:=V) ⟨h2,λu hu=>hS.ok u (MV _ hu)⟩ k z h';have hz:=h1 z (List.mem_of_getElem? h');have oz:=hS.ok z (MV _ (List.mem_of_getElem? h'));rw[i8,i8,if_neg (by grind),if_neg (by grind),a,b];refine⟨by simp only[Ng];omega,by simp only[Ng];omega,λw hw=>?_,λw hw=>?_⟩
   ·rcases MG.mp hw with e |e
    ·rw[e];exact .inr (by grind)
    ·exact c w e
   ·rcases MG.mp hw with e |e
    ·rw[e];exact .inr (by grind)
    ·exact d w e
def oV{zs:List (Rat×Rat)}{x:Rat}(h:∀z∈zs,x<=z.1):bT zs x=zs.length/\Out zs x:=by
 refine⟨?_,λz hz=>.inl (h z hz)⟩;unfold bT
 rw[OI.mpr λz hz=>by
  have:=h z hz
  simp only[decide_eq_true_eq];exact this]
def uX{zs:List (Rat×Rat)}{x:Rat}(h:∀z∈zs,z.1<z.2/\z.2<=x):bT zs x=0/\Out zs x:=by
 refine⟨?_,λz hz=>.inr (h z hz).2⟩;unfold bT
 rw[List.countP_eq_zero.mpr λz hz=>by
  have:=h z hz
  simp only[decide_eq_true_eq];grind];rfl
def jY{G q:Ex}(hG:Flt G)(hq:Flt q)(d:Dv q G){x y:Rat}(e:vw G x=vw G y):vw q x=vw q y:=by
 rcases f7 x y with z |z |z
 ·have:=hG.le hq d z;have:=hq.cnt.mono z;omega
 ·rw[z]
 ·have:=hG.le hq d z;have:=hq.cnt.mono z;omega
structure Ow(G:Ex)(l h:Rat)(p:Ex):Prop where
 flt:Flt p
 dv:Dv p G
 one:vw p l-vw p h=1
def Od.ow{G p:Ex}{l h:Rat}(P:Od G l h p):Ow G l h p:=⟨P.flt,P.dv,P.one⟩
def oi{G p:Ex}{l h:Rat}(hG:Flt G)(lt:l<h)(o:vw G l-vw G h=1)(P:Ow G l h p){z:Rat}(z1:l<=z)(z2:z<=h):vw p z=vw p l↔vw G z=vw G l:=by have D:=hG.cnt;have b1:=D.le z1;have b2:=D.le z2;have o':=P.one;refine⟨λe=>?_,λe=>jY hG P.flt P.dv e⟩;apply Classical.byContradiction;intro n;have:=jY hG P.flt P.dv (show vw G z=vw G h by omega);omega
def x5{G p q:Ex}{l h:Rat}(hG:Flt G)(lt:l<h)(o:vw G l-vw G h=1)(P:Ow G l h p)(Q:Ow G l h q){r:Rat}(r1:l<r)(r2:r<=h)(hr:pv p r=0):pv q r=0:=by
 have C:=P.flt.cnt;have D:=Q.flt.cnt;have o1:=P.one;have o2:=Q.one;obtain⟨e1,e2⟩:=C.root lt o1 r1 r2 hr;have s:∀z,l<=z->z<=h->(vw p z=vw p l↔vw q z=vw q l):=λz z1 z2=>(oi hG lt o P z1 z2).trans (oi hG lt o Q z1 z2).symm
 obtain⟨u,u1,u2,u3⟩:=D.left _ r1 (MI _);have k1:=(s u u1 (by grind)).mp (e2 u u1 u2)
 have k2:¬vw q r=vw q l:=λz=>by have:=(s r (MF r1) r2).mpr z;omega
 have k3:=u3 u ME u2;apply Classical.byContradiction;intro n;have:=Bl (f:=pv q) n;omega
def LS.line{G p q:Ex}{l h:Rat}(hG:Flt G)(lt:l<h)(o:vw G l-vw G h=1)(L:LS G l h p)(Q:Od G l h q)(h2:q.length=2):p=q:=by
 obtain⟨r,r1,r2,r3⟩:=tZ lt Q h2;have nn:¬NoR G l h:=λz=>z r r1 r2 (ma Q.dv r3)
 rcases L.kd with e |⟨z,_⟩ |⟨z,_⟩
 ·exact yM hG lt o L.od Q (.inl ⟨e,h2⟩)
 ·exact absurd z nn
 ·exact absurd z nn
def LS.quad{G p q:Ex}{l h:Rat}(hG:Flt G)(lt:l<h)(o:vw G l-vw G h=1)(L:LS G l h p)(Q:Od G l h q)(h3:q.length=3)(nr:∀r,pv q r≠0):p=q:=by
 rcases L.kd with e |⟨z,e⟩ |⟨_,z,_⟩
 ·obtain⟨r,r1,r2,r3⟩:=tZ lt L.od e;exact absurd (x5 hG lt o L.od.ow Q.ow r1 r2 r3) (nr r)
 ·exact yM hG lt o L.od Q (.inr ⟨e,h3,z⟩)
 ·exact absurd Q.one (z q Q.pln h3 Q.dv)
def PFn.bd{f:Rat->Rat}(h:PFn f)(a b:Rat):∃B:Rat,0<=B/\∀x,a<=x->x<=b->Bd B (f x):=by
 obtain⟨l,m,hm,e⟩:=h;obtain⟨R,hR,hB⟩:=jL a b;obtain⟨M,m0,m1,_⟩:=dD l R hR;have h0:(m:Rat)≠0:=cN hm;obtain⟨W,w0,hW⟩:=gR (1/(m:Rat));have em:1/(m:Rat)*(m:Rat)=1:=MN h0;refine⟨W*M,MJ w0 m0,λx x1 x2=>?_⟩;have:=hW.mul (m1 x (hB x x1 x2));rw[<- e]at this;have k:1/(m:Rat)*((m:Rat)*f x)=f x:=by rw[<- Rat.mul_assoc,em,NX]
 rwa [k]at this
def Apt(K:Ex):Prop:=∀p0 p1 p2:Int,p2≠0->∃(s t:Rat->Rat) (L M:Rat),PFn s/\PFn t/\(L≠0\/M≠0)/\∀x,s x*pv K x+t x*pv [p0,p1,p2] x=L*x+M
def Gp{G K p:Ex}{l h:Rat}(hG:Flt G)(lt:l<h)(o:vw G l-vw G h=1)(Q:Ow G l h K)(P:Ow G l h p)(h3:p.length=3)(hp:Tr p)(nr:∀r,pv K r≠0)(ap:Apt K):False:=by
 obtain⟨p0,p1,p2,rfl⟩:=lE h3;have p2n:p2≠0:=λz=>hp 2 rfl (by rw[z];rfl)
 obtain⟨s,t,L,M,hs,ht,hLM,e⟩:=ap p0 p1 p2 p2n;obtain⟨W,w0,hW⟩:=pe Q.flt.cnt P.flt.cnt lt Q.one P.one λz z1 z2=>(oi hG lt o Q z1 z2).trans (oi hG lt o P z1 z2).symm
 obtain⟨S,s0,hS⟩:=hs.bd l h;obtain⟨T,t0,hT⟩:=ht.bd l h
 have small:∀δ:Rat,0<δ->∃u,l<=u/\u<=h/\Bd (W*δ) (pv K u)/\Bd ((S*W+T*W)*δ) (L*u+M):=λδ hδ=>by obtain⟨u,v,u1,u2,u3,_,_,_,u4,u5⟩:=hW δ hδ;refine⟨u,u1,by grind,u4,?_⟩;obtain⟨a1,a2⟩:=(hS u u1 (by grind)).mul u4;obtain⟨b1,b2⟩:=(hT u u1 (by grind)).mul u5;rw[<- e u];constructor<;>grind
 have SW:=MJ s0 w0;have TW:=MJ t0 w0;by_cases hL:L=0
 ·have:M=0:=pz (C:=S*W+T*W) (by grind) λδ hδ=>by
   obtain⟨u,_,_,_,k⟩:=small δ hδ;rw[hL]at k;have:0*u+M=M:=by grind
   rwa [this]at k
  rcases hLM with z |z
  ·exact z hL
  ·exact z this
 ·have el : -M/L*L = -M:=MN hL;obtain⟨d,hd,ed⟩:=sS (-M/L) K;obtain⟨D,d0,hD⟩:=hd.bd l h;obtain⟨A,a0,hA⟩:=gR L
  have key:L*pv K (-M/L)=0:=pz (C:=A*W+(S*W+T*W)*D) (by
   have:=MJ a0 w0;have:=MJ (show 0<=S*W+T*W by grind) d0
   grind) λδ hδ=>by
   obtain⟨u,u1,u2,k1,k2⟩:=small δ hδ;obtain⟨x1,x2⟩:=hA.mul k1;obtain⟨y1,y2⟩:=k2.mul (hD u u1 u2);have eu:=ed u
   have e3:L*pv K (-M/L)=L*pv K u-(L*u+M)*d u:=by
    generalize -M/L=ρ at *
    have:L*(pv K u-pv K ρ)=(L*u-ρ*L)*d u:=by rw[eu];grind
    rw[el]at this;grind
   rw[e3];constructor<;>grind
  rcases MQ.mp key with z |z
  ·exact hL z
  ·exact nr _ z
def LS.whole{G p K:Ex}{l h:Rat}(hG:Flt G)(lt:l<h)(o:vw G l-vw G h=1)(L:LS G l h p)(Q:Ow G l h K)(nr:∀r,pv K r≠0)(ap:Apt K):p=G:=by
 rcases L.kd with e |⟨_,e⟩ |⟨_,_,e⟩
 ·obtain⟨r,r1,r2,r3⟩:=tZ lt L.od e;exact absurd (x5 hG lt o L.od.ow Q r1 r2 r3) (nr r)
 ·exact absurd (Gp hG lt o Q L.od.ow e L.od.pln.tr nr ap) id
 ·exact e
section
variable {f:Rat->Rat}{V:Rat->Int}
def xZ{a b:Rat}(ha:0<a)(h:0<a*b):0<b:=Nx.mp λz=>by have:=MJ (MF ha) (show 0 <= -b by grind);grind
def jr{x y:Rat}(hx:0<=x)(h:x<y):x*x<y*y:=by have:=ML (show 0<y-x by grind) (show 0<y+x by grind);grind
def JD{x y:Rat}(h:x<y):x*x*x<y*y*y:=by
 have e:y*y*y-x*x*x=(y-x)*(y*y+x*y+x*x):=by grind
 have k:0<y*y+x*y+x*x:=by
  have e2:4*(y*y+x*y+x*x)=(2*x+y)*(2*x+y)+3*(y*y):=by grind
  have n1:∀z:Rat,0<=z*z:=λz=>by
   rcases MM (a:=0) (b:=z)with q |q
   ·exact MJ q q
   ·have:=MJ (show 0 <= -z by grind) (show 0 <= -z by grind);grind
  have h1:=n1 (2*x+y);have h2:=n1 y;refine Nx.mp λz=>?_
  have y0:y*y=0:=by grind
  have y1:y=0:=by rcases MQ.mp y0 with q |q<;>exact q
  rw[y1]at h1 e2 z h;have:=ML (show 0 < -x by grind) (show 0 < -x by grind);grind
 have:=ML (show 0<y-x by grind) k;grind
def Cf(C:Cnt f V){n r κ ε:Rat}(hn:0<n)(hκ:0<κ)(hf:∀x,f x=κ*(n*(x-r)))(hε:0<ε):St (λ_=>True) V [(r-ε,r)]:=by
 refine St.mono C (λ_ _ _ _ _ _ _=>trivial) (by grind) trivial trivial (.inl ⟨λx y _ _ hxy=>?_,?_,?_⟩)
 ·rw[hf,hf];have:=ML hκ (ML hn (show 0<y-x by grind));grind
 ·rw[hf];have:=ML hκ (ML hn hε);grind
 ·rw[hf];have:κ*(n*(r-r))=0:=by grind
  grind
def wJ(C:Cnt f V){w u D κ s t a1 b1 a2 b2:Rat}(hw:0<w)(hκ:0<κ)(hf:∀x,f x=κ*((w*x-u)*(w*x-u)-D))(hs:0<s)(hst:s<t)(h1:s*s<D)(h2:D<t*t)(e1:w*a1=u-t)(e2:w*b1=u-s)(e3:w*a2=u+s)(e4:w*b2=u+t):St (λ_=>True) V [(a1,b1),(a2,b2)]:=by
 have ew:u/w*w=u:=MN (by grind)
 have lt:∀{x y:Rat},w*x<w*y->x<y:=λ{x y} h=>by have:=xZ hw (b:=y-x) (by grind);grind
 have le:∀{x y:Rat},x<=y->w*x<=w*y:=λh=>MZ h (MF hw)
 have mlt:∀{x y:Rat},x<y->w*x<w*y:=λh=>NI h hw
 have v1:∀x,w*x=u-t->0<f x:=λx e=>by rw[hf,e];have:=ML hκ (show 0<t*t-D by grind);grind
 have v2:∀x,w*x=u-s->f x<0:=λx e=>by rw[hf,e];have:=ML hκ (show 0<D-s*s by grind);grind
 have v3:∀x,w*x=u+s->f x<0:=λx e=>by rw[hf,e];have:=ML hκ (show 0<D-s*s by grind);grind
 have v4:∀x,w*x=u+t->0<f x:=λx e=>by rw[hf,e];have:=ML hκ (show 0<t*t-D by grind);grind
 have L:St (λx=>x<=u/w) V [(a1,b1)]:=by refine St.mono C (λx y z _ dy _ h=>MX h dy) (lt (by grind)) (MF (lt (by grind))) (MF (lt (by grind))) (.inr ⟨λx y dx dy hxy=>?_,v1 _ e1,MF (v2 _ e2)⟩);rw[hf,hf];have k1:=le dy;have k2:=mlt hxy;have:=jr (x:=u-w*y) (y:=u-w*x) (by grind) (by grind);have:=ML hκ (show 0<(u-w*x)*(u-w*x)-(u-w*y)*(u-w*y) by grind);grind
 have R:St (λx=>u/w<=x) V [(a2,b2)]:=by refine St.mono C (λx y z dx _ h _=>MX dx h) (lt (by grind)) (MF (lt (by grind))) (MF (lt (by grind))) (.inl ⟨λx y dx dy hxy=>?_,v3 _ e3,MF (v4 _ e4)⟩);rw[hf,hf];have k1:=le dx;have k2:=mlt hxy;have:=jr (x:=w*x-u) (y:=w*y-u) (by grind) (by grind);have:=ML hκ (show 0<(w*y-u)*(w*y-u)-(w*x-u)*(w*x-u) by grind);grind
 refine(St.glue L R (λ_ h=>h) (λ_ h=>h) ME ME (λz hz=>?_) λz hz=>?_).dom λx _=>MM
 ·rw[MH.mp hz];exact⟨lt (by grind),MF (lt (by grind))⟩
 ·rw[MH.mp hz];exact MF (lt (by grind))
def wK(C:Cnt f V){w u e κ a b:Rat}(hw:0<w)(hκ:0<κ)(hf:∀x,f x=κ*((w*x-u)*(w*x-u)*(w*x-u)-e))(hab:a<b)(ha:(w*a-u)*(w*a-u)*(w*a-u)<e)(hb:e<=(w*b-u)*(w*b-u)*(w*b-u)):St (λ_=>True) V [(a,b)]:=by
 refine St.mono C (λ_ _ _ _ _ _ _=>trivial) hab trivial trivial (.inl ⟨λx y _ _ hxy=>?_,?_,?_⟩)
 ·rw[hf,hf];have:=NI hxy hw;have:=JD (x:=w*x-u) (y:=w*y-u) (by grind);have:=NI (show(w*x-u)*(w*x-u)*(w*x-u)-e<(w*y-u)*(w*y-u)*(w*y-u)-e by grind) hκ;exact this
 ·rw[hf];have:=NI (show(w*a-u)*(w*a-u)*(w*a-u)-e<0 by grind) hκ;grind
 ·rw[hf];exact MJ (MF hκ) (by grind)
def Ce(C:Cnt f V){u s P κ i j k l:Rat}(hκ:0<κ)(hf:∀x,f x=κ*(((x-u)*(x-u)-s)*((x-u)*(x-u)-s)-P))(hi:0<i)(ij:i<j)(jk:j<k)(kl:k<l)(js:j*j<=s)(ks:s<=k*k)(vi:P<(i*i-s)*(i*i-s))(vj:(j*j-s)*(j*j-s)<P)(vk:(k*k-s)*(k*k-s)<P)(vl:P<(l*l-s)*(l*l-s)) :
 St (λ_=>True) V [(u-l,u-k),(u-j,u-i),(u+i,u+j),(u+k,u+l)]:=by
 have val:∀(x y:Rat),(x-u)*(x-u)=y*y->f x=κ*((y*y-s)*(y*y-s)-P):=λx y h=>by rw[hf,h]
 have pos:∀(x y:Rat),(x-u)*(x-u)=y*y->P<(y*y-s)*(y*y-s)->0<f x:=λx y h v=>by rw[val x y h];exact ML hκ (by grind)
 have neg:∀(x y:Rat),(x-u)*(x-u)=y*y->(y*y-s)*(y*y-s)<P->f x<0:=λx y h v=>by rw[val x y h];have:=ML hκ (show 0<P-(y*y-s)*(y*y-s) by grind);grind
 have fall:∀x y:Rat,(x-u)*(x-u)<(y-u)*(y-u)->(y-u)*(y-u)<=s->f y<f x:=λx y h1 h2=>by rw[hf,hf];have:=jr (x:=s-(y-u)*(y-u)) (y:=s-(x-u)*(x-u)) (by grind) (by grind);have:=ML hκ (show 0<(s-(x-u)*(x-u))*(s-(x-u)*(x-u))-(s-(y-u)*(y-u))*(s-(y-u)*(y-u)) by grind);grind
 have rise:∀x y:Rat,(x-u)*(x-u)<(y-u)*(y-u)->s<=(x-u)*(x-u)->f x<f y:=λx y h1 h2=>by rw[hf,hf];have:=jr (x:=(x-u)*(x-u)-s) (y:=(y-u)*(y-u)-s) (by grind) (by grind);have:=ML hκ (show 0<((y-u)*(y-u)-s)*((y-u)*(y-u)-s)-((x-u)*(x-u)-s)*((x-u)*(x-u)-s) by grind);grind
 have flat:∀x:Rat,j*j<=(x-u)*(x-u)->(x-u)*(x-u)<=k*k->aj (f x) = -1:=λx h1 h2=>by
  have:f x<0:=by
   rw[hf];generalize (x-u)*(x-u)=z at *
   have key:(z-s)*(z-s)<P:=by
    rcases MM (a:=z) (b:=s)with q |q
    ·have p1:=MJ (show 0<=s-z by grind) (show 0<=z-j*j by grind);have p2:=MJ (show 0<=s-j*j by grind) (show 0<=z-j*j by grind);grind
    ·have p1:=MJ (show 0<=z-s by grind) (show 0<=k*k-z by grind);have p2:=MJ (show 0<=k*k-s by grind) (show 0<=k*k-z by grind);grind
   have:=ML hκ (show 0<P-(z-s)*(z-s) by grind);grind
  unfold aj;rw[if_pos this]
 have sqp:∀{x y:Rat},u<=x->x<y->(x-u)*(x-u)<(y-u)*(y-u):=λh1 h2=>jr (by grind) (by grind)
 have sqm:∀{x y:Rat},x<y->y<=u->(y-u)*(y-u)<(x-u)*(x-u):=λ{x y} h1 h2=>by have:=jr (x:=u-y) (y:=u-x) (by grind) (by grind);grind
 have sqle:∀{x y:Rat},u<=x->x<=y->(x-u)*(x-u)<=(y-u)*(y-u):=λ{x y} h1 h2=>by
  rcases dj h2 with q |q
  ·exact MF (sqp h1 q)
  ·rw[q];exact ME
 have sqme:∀{x y:Rat},x<=y->y<=u->(y-u)*(y-u)<=(x-u)*(x-u):=λ{x y} h1 h2=>by
  rcases dj h1 with q |q
  ·exact MF (sqm q h2)
  ·rw[q];exact ME
 have eK:∀y:Rat,(u-y-u)*(u-y-u)=y*y:=λy=>by grind
 have eP:∀y:Rat,(u+y-u)*(u+y-u)=y*y:=λy=>by grind
 have A1:St (λx=>x<=u-k) V [(u-l,u-k)]:=St.mono C (λx y z _ dy _ h=>MX h dy) (by grind) (by grind) (by grind) (.inr ⟨λx y dx dy hxy=>rise y x (sqm hxy (by grind)) (by
  have:=sqme dy (show u-k<=u by grind);rw[eK]at this
  grind),pos _ l (eK l) vl,MF (neg _ k (eK k) vk)⟩)
 have A2:St (λx=>u-k<=x/\x<=u-j) V []:=St.none C (λx y z dx dy h1 h2=>⟨by grind,by grind⟩) λx dx=>flat x (by
  have:=sqme dx.2 (show u-j<=u by grind);rw[eK]at this;exact this) (by
  have:=sqme dx.1 (show x<=u by grind);rw[eK]at this
  exact this)
 have A3:St (λx=>u-j<=x/\x<=u) V [(u-j,u-i)]:=St.mono C (λx y z dx dy h1 h2=>⟨by grind,by grind⟩) (by grind) ⟨ME,by grind⟩ ⟨by grind,by grind⟩ (.inl ⟨λx y dx dy hxy=>fall y x (sqm hxy dy.2) (by
  have:=sqme dx.1 dx.2;rw[eK]at this
  grind),neg _ j (eK j) vj,MF (pos _ i (eK i) vi)⟩)
 have A4:St (λx=>u<=x/\x<=u+j) V [(u+i,u+j)]:=St.mono C (λx y z dx dy h1 h2=>⟨by grind,by grind⟩) (by grind) ⟨by grind,by grind⟩ ⟨by grind,ME⟩ (.inr ⟨λx y dx dy hxy=>fall x y (sqp dx.1 hxy) (by
  have:=sqle dy.1 dy.2;rw[eP]at this
  grind),pos _ i (eP i) vi,MF (neg _ j (eP j) vj)⟩)
 have A5:St (λx=>u+j<=x/\x<=u+k) V []:=St.none C (λx y z dx dy h1 h2=>⟨by grind,by grind⟩) λx dx=>flat x (by
  have:=sqle (show u<=u+j by grind) dx.1;rw[eP]at this;exact this) (by
  have:=sqle (show u<=x by grind) dx.2;rw[eP]at this
  exact this)
 have A6:St (λx=>u+k<=x) V [(u+k,u+l)]:=St.mono C (λx y z dx _ h _=>MX dx h) (by grind) (by grind) (by grind) (.inl ⟨λx y dx dy hxy=>rise x y (sqp (by grind) hxy) (by
  have:=sqle (show u<=u+k by grind) dx;rw[eP]at this
  grind),neg _ k (eP k) vk,MF (pos _ l (eP l) vl)⟩)
 have no:∀{p:Rat},∀z∈([]:List (Rat×Rat)),p<=z.1:=λz hz=>nomatch hz
 have B1:=St.glue A1 A2 (p:=u-k) (λx h=>h) (λx h=>h.1) ME ⟨ME,by grind⟩ (λz hz=>by rw[MH.mp hz];exact⟨by grind,ME⟩) no;have B2:=St.glue B1 A3 (p:=u-j) (λx h=>by rcases h with h |h<;>grind) (λx h=>h.1) (.inr ⟨by grind,ME⟩) ⟨ME,by grind⟩ (λz hz=>by rw[MH.mp hz];exact⟨by grind,by grind⟩) (λz hz=>by rw[MH.mp hz];exact ME)
 have B3:=St.glue B2 A4 (p:=u) (λx h=>by rcases h with(h |h) |h<;>grind) (λx h=>h.1) (.inr ⟨by grind,ME⟩) ⟨ME,by grind⟩ (λz hz=>by
  simp only[Of,List.cons_append,OL,MG,MT,or_false]at hz
  rcases hz with e |e<;>rw[e]<;>exact⟨by grind,by grind⟩) (λz hz=>by rw[MH.mp hz];show u<=u+i;grind)
 have B4:=St.glue B3 A5 (p:=u+j) (λx h=>by rcases h with((h |h) |h) |h<;>grind) (λx h=>h.1) (.inr ⟨by grind,ME⟩) ⟨ME,by grind⟩ (λz hz=>by
  simp only[Of,List.cons_append,OL,MG,MT,or_false]at hz
  rcases hz with e |e |e<;>rw[e]<;>exact⟨by grind,by grind⟩) no
 have B5:=St.glue B4 A6 (p:=u+k) (λx h=>by rcases h with(((h |h) |h) |h) |h<;>grind) (λx h=>h) (.inr ⟨by grind,ME⟩) ME (λz hz=>by
  simp only[Of,List.cons_append,OL,MG,MT,or_false]at hz
  rcases hz with e |e |e<;>rw[e]<;>exact⟨by grind,by grind⟩) (λz hz=>by rw[MH.mp hz];exact ME)
 refine B5.dom λx _=>?_
 rcases MM (a:=x) (b:=u-k)with h1 |h1
 ·exact .inl (.inl (.inl (.inl (.inl h1))))
 rcases MM (a:=x) (b:=u-j)with h2 |h2
 ·exact .inl (.inl (.inl (.inl (.inr ⟨h1,h2⟩))))
 rcases MM (a:=x) (b:=u)with h3 |h3
 ·exact .inl (.inl (.inl (.inr ⟨h2,h3⟩)))
 rcases MM (a:=x) (b:=u+j)with h4 |h4
 ·exact .inl (.inl (.inr ⟨h3,h4⟩))
 rcases MM (a:=x) (b:=u+k)with h5 |h5
 ·exact .inl (.inr ⟨h4,h5⟩)
 ·exact .inr h5
end
def me{ρ:Rat}{n:Nat}(h:ρ.den∣n*ρ.num.natAbs):ρ.den∣n:=Nat.Coprime.dvd_of_dvd_mul_right (Nat.Coprime.symm ρ.reduced) h
def sN(ρ:Rat):ρ*((ρ.den:Int):Rat)=(ρ.num:Rat):=by
 have ex:(ρ.num:Rat)/((ρ.den:Int):Rat)=ρ:=by rw[<- Rat.divInt_eq_div];exact Rat.num_divInt_den ρ
 have d0:((ρ.den:Int):Rat)≠0:=cN (by have:=ρ.den_nz;omega);have h:=MN (a:=(ρ.num:Rat)) d0;rw[ex]at h;exact h
def zF{ρ:Rat}(h:ρ.den∣1):ρ=(ρ.num:Rat):=by have e:=sN ρ;have:ρ.den=1:=Nat.dvd_one.mp h;rw[this]at e;have e1:(((1:Nat):Int):Rat)=1:=rfl;rw[e1]at e;grind
def Cj{ρ:Rat}{d:Int}(h:ρ*ρ=(d:Rat)):∃n:Int,n*n=d:=by
 have e:=sN ρ
 have k:ρ.num*ρ.num=d*((ρ.den:Int)*(ρ.den:Int)):=by refine ND.mp ?_;rw[MD,MD,MD,<- e,<- h];grind
 have k2:ρ.num.natAbs*ρ.num.natAbs=d.natAbs*(ρ.den*ρ.den):=by have:=congrArg Int.natAbs k;rw[MW,MW,MW,Nt]at this;exact this
 have dv:ρ.den∣ρ.num.natAbs*ρ.num.natAbs:=⟨d.natAbs*ρ.den,by rw[k2];ac_rfl⟩;have:=zF (me (n:=1) (by rw[Oy];exact me dv));refine⟨ρ.num,ND.mp ?_⟩;rw[MD,<- this,h]
def JE{ρ:Rat}{d:Int}(h:ρ*ρ*ρ=(d:Rat)):∃n:Int,n*n*n=d:=by
 have e:=sN ρ
 have k:ρ.num*ρ.num*ρ.num=d*((ρ.den:Int)*(ρ.den:Int)*(ρ.den:Int)):=by refine ND.mp ?_;rw[MD,MD,MD,MD,MD,<- e,<- h];grind
 have k2:ρ.num.natAbs*ρ.num.natAbs*ρ.num.natAbs=d.natAbs*(ρ.den*ρ.den*ρ.den):=by have:=congrArg Int.natAbs k;rw[MW,MW,MW,MW,MW,Nt]at this;exact this
 have dv:ρ.den∣ρ.num.natAbs*ρ.num.natAbs*ρ.num.natAbs:=⟨d.natAbs*(ρ.den*ρ.den),by rw[k2];ac_rfl⟩;have:=zF (me (n:=1) (by rw[Oy];exact me (me dv)));refine⟨ρ.num,ND.mp ?_⟩;rw[MD,MD,<- this,h]
def Nsq(d:Int):Prop:=∀ρ:Rat,ρ*ρ≠(d:Rat)
def Ncb(d:Int):Prop:=∀ρ:Rat,ρ*ρ*ρ≠(d:Rat)
def eH{d:Int}(n:Nat)(h1:(n:Int)*n<d)(h2:d<(n+1)*(n+1)):Nsq d:=λρ h=>by
 obtain⟨m,hm⟩:=Cj h
 have e:(m.natAbs:Int)*(m.natAbs:Int)=d:=by
  rw[<- hm];rcases Int.natAbs_eq m with q |q
  ·rw[<- q]
  ·have:(m.natAbs:Int) = -m:=by omega
   rw[this,Int.neg_mul_neg]
 rcases Nat.lt_or_ge n m.natAbs with q |q
 ·have:((n:Int)+1)*((n:Int)+1)<=(m.natAbs:Int)*(m.natAbs:Int):=Oj (by omega) (by omega) (by omega) (by omega);omega
 ·have:(m.natAbs:Int)*(m.natAbs:Int)<=(n:Int)*(n:Int):=Oj (by omega) (by omega) (by omega) (by omega);omega
def jR{d:Int}(n:Nat)(h1:(n:Int)*n*n<d)(h2:d<(n+1)*(n+1)*(n+1)):Ncb d:=λρ h=>by
 obtain⟨m,hm⟩:=JE h;have n0:(0:Int)<=n:=by omega
 have p0:0<=(n:Int)*n*n:=Nz (Nz n0 n0) n0;rcases Int.lt_or_le m 0 with q |q
 ·have:=Nz (Nz (show 0 <= -m by omega) (show 0 <= -m by omega)) (show 0 <= -m by omega);have e : -m * -m * -m = -(m*m*m):=by grind
  omega
 ·rcases Int.lt_or_le (n:Int) m with z |z
  ·have a:=Oj (show(n:Int)+1<=m by omega) (show(n:Int)+1<=m by omega) (by omega) (by omega);have b:=Oj a (show(n:Int)+1<=m by omega) (by omega) (Nz q q);omega
  ·have a:=Oj z z q n0;have b:=Oj a z q (Nz n0 n0);omega
def cH{d:Int}(h:d∈[2,3,5,6,7,10,11,13,14,15,12,21,35]):Nsq d:=by
 simp only[MG,MT,or_false]at h;rcases h with rfl |rfl |rfl |rfl |rfl |rfl |rfl |rfl |rfl |rfl |rfl |rfl |rfl
 ·exact eH 1 (by decide) (by decide)
 ·exact eH 1 (by decide) (by decide)
 ·exact eH 2 (by decide) (by decide)
 ·exact eH 2 (by decide) (by decide)
 ·exact eH 2 (by decide) (by decide)
 ·exact eH 3 (by decide) (by decide)
 ·exact eH 3 (by decide) (by decide)
 ·exact eH 3 (by decide) (by decide)
 ·exact eH 3 (by decide) (by decide)
 ·exact eH 3 (by decide) (by decide)
 ·exact eH 3 (by decide) (by decide)
 ·exact eH 4 (by decide) (by decide)
 ·exact eH 5 (by decide) (by decide)
def Gq{c:Int}(h:c∈[2,3,5,6,7,10]):Ncb c:=by
 simp only[MG,MT,or_false]at h;rcases h with rfl |rfl |rfl |rfl |rfl |rfl
 ·exact jR 1 (by decide) (by decide)
 ·exact jR 1 (by decide) (by decide)
 ·exact jR 1 (by decide) (by decide)
 ·exact jR 1 (by decide) (by decide)
 ·exact jR 1 (by decide) (by decide)
 ·exact jR 2 (by decide) (by decide)
def Nsq.mul{d:Int}(h:Nsq d){a b:Rat}(ha:a≠0)(e:b*b=(d:Rat)*(a*a)):False:=by
 have ea:b/a*a=b:=MN ha;apply h (b/a);generalize b/a=q at *
 rw[<- ea]at e;have:(a*a)*(q*q-(d:Rat))=0:=by grind
 rcases MQ.mp this with z |z
 ·rcases MQ.mp z with z |z<;>exact absurd z ha
 ·grind
def Ncb.mul{d:Int}(h:Ncb d){a b:Rat}(ha:a≠0)(e:b*b*b=(d:Rat)*(a*a*a)):False:=by
 have ea:b/a*a=b:=MN ha;apply h (b/a);generalize b/a=q at *
 rw[<- ea]at e;have:(a*a*a)*(q*q*q-(d:Rat))=0:=by grind
 rcases MQ.mp this with z |z
 ·rcases MQ.mp z with z |z
  ·rcases MQ.mp z with z |z<;>exact absurd z ha
  ·exact absurd z ha
 ·grind
def pv3(a b c:Int)(x:Rat):pv [a,b,c] x=(a:Rat)+(b:Rat)*x+(c:Rat)*(x*x):=by show(a:Rat)+x*((b:Rat)+x*((c:Rat)+x*0))=_;grind
def pv4(a b c d:Int)(x:Rat):pv [a,b,c,d] x=(a:Rat)+(b:Rat)*x+(c:Rat)*(x*x)+(d:Rat)*(x*x*x):=by show(a:Rat)+x*((b:Rat)+x*((c:Rat)+x*((d:Rat)+x*0)))=_;grind
def pv5(a b c d e:Int)(x:Rat):pv [a,b,c,d,e] x=(a:Rat)+(b:Rat)*x+(c:Rat)*(x*x)+(d:Rat)*(x*x*x)+(e:Rat)*(x*x*(x*x)):=by show(a:Rat)+x*((b:Rat)+x*((c:Rat)+x*((d:Rat)+x*((e:Rat)+x*0))))=_;grind
def sl2(a b:Int):slopeL [a,b]=[1*b]:=rfl
def sl3(a b c:Int):slopeL [a,b,c]=[1*b,2*c]:=rfl
def sl4(a b c d:Int):slopeL [a,b,c,d]=[1*b,2*c,3*d]:=rfl
def sl5(a b c d e:Int):slopeL [a,b,c,d,e]=[1*b,2*c,3*d,4*e]:=rfl
def pv1(a:Int)(x:Rat):pv [a] x=(a:Rat):=by show(a:Rat)+x*0=_;grind
def c1:((1:Int):Rat)=1:=rfl
def c2:((2:Int):Rat)=2:=rfl
def c3:((3:Int):Rat)=3:=rfl
def c4:((4:Int):Rat)=4:=rfl
def cm2:((-2:Int):Rat) = -2:=rfl
def cm3:((-3:Int):Rat) = -3:=rfl
def Ii{t n:Int}(hn:n≠0):Fl [t,n]:=⟨λ_=>0,λ_=>1,(n:Rat),PFn.const 0,PFn.const 1,cN hn,λx=>by rw[sl2,pv1,MD,c1];grind⟩
def uv{A:Ex}{w u D κ:Rat}(hκ:κ≠0)(hw:w≠0)(hD:D≠0)(hA:∀x,pv A x=κ*((w*x-u)*(w*x-u)-D))(hS:∀x,pv (slopeL A) x=κ*(2*w*(w*x-u))):Fl A:=by
 refine⟨λ_ => -2*w,λx=>w*x-u,κ*(2*w*D),PFn.const _,((PFn.const w).mul PFn.id).sub (PFn.const u),λz=>?_,λx=>by rw[hA,hS];grind⟩;rcases MQ.mp z with z |z
 ·exact hκ z
 ·rcases MQ.mp z with z |z
  ·rcases MQ.mp z with z |z
   ·exact absurd z (by decide)
   ·exact hw z
  ·exact hD z
def Ij{A:Ex}{w u e:Rat}(hw:w≠0)(he:e≠0)(hA:∀x,pv A x=(w*x-u)*(w*x-u)*(w*x-u)-e)(hS:∀x,pv (slopeL A) x=3*w*((w*x-u)*(w*x-u))):Fl A:=by
 refine⟨λ_ => -3*w,λx=>w*x-u,3*w*e,PFn.const _,((PFn.const w).mul PFn.id).sub (PFn.const u),λz=>?_,λx=>by rw[hA,hS];grind⟩;rcases MQ.mp z with z |z
 ·rcases MQ.mp z with z |z
  ·exact absurd z (by decide)
  ·exact hw z
 ·exact he z
def iN(u:Rat):PFn λx=>x-u:=PFn.id.sub (PFn.const u)
def sV(u s:Rat):PFn λx=>(x-u)*(x-u)-s:=((iN u).mul (iN u)).sub (PFn.const s)
def Ih{A:Ex}{u s P:Rat}(hP:P≠0)(hs:s*s≠P)(hA:∀x,pv A x=((x-u)*(x-u)-s)*((x-u)*(x-u)-s)-P)(hS:∀x,pv (slopeL A) x=4*((x-u)*((x-u)*(x-u)-s))):Fl A:=by
 have k:PFn λx=>s*((x-u)*(x-u)-s)-P:=((PFn.const s).mul (sV u s)).sub (PFn.const P)
 refine⟨λx=>(-4)*(s*((x-u)*(x-u)-s)-P)+(-4)*(s*s),λx=>(s*((x-u)*(x-u)-s)-P)*(x-u),4*(P*(s*s-P)),((PFn.const (-4)).mul k).add (PFn.const _),k.mul (iN u),λz=>?_,λx=>by rw[hA,hS];grind⟩;rcases MQ.mp z with z |z
 ·exact absurd z (by decide)
 ·rcases MQ.mp z with z |z
  ·exact hP z
  ·exact hs (by grind)
def BB{α β:Rat}(h:α≠0):α*α*2≠β*β:=λz=>(cH (d:=2) (by decide)).mul h (b:=β) (by rw[c2];grind)
def vq{Q P:Ex}{o α β:Rat}{s:Rat->Rat}(hs:PFn s)(hQ:∀x,pv Q x=(x-o)*(x-o)-2)(hP:∀x,pv P x=pv Q x*s x+α*(x-o)+β)(h:α≠0):Bz Q P:=AO (y:=λx=>x-o) (D:=2) (iN o) hs hQ hP (BB h)
def JY{Q P:Ex}{o w u D κ:Rat}(hκ:κ≠0)(hw:0<w)(hu:0<w*o-u)(hQ:∀x,pv Q x=(x-o)*(x-o)-2)(hP:∀x,pv P x=κ*((w*x-u)*(w*x-u)-D)):Bz Q P:=by
 refine vq (s:=λ_=>κ*(w*w)) (α:=κ*(2*w*(w*o-u))) (β:=κ*(2*(w*w)+(w*o-u)*(w*o-u)-D)) (PFn.const _) hQ (λx=>by rw[hP,hQ];grind) λz=>?_
 rcases MQ.mp z with z |z
 ·exact hκ z
 ·have:=ML hw hu;grind
def J0{Q P:Ex}{o w u e:Rat}(hw:0<w)(hQ:∀x,pv Q x=(x-o)*(x-o)-2)(hP:∀x,pv P x=(w*x-u)*(w*x-u)*(w*x-u)-e):Bz Q P:=by
 refine vq (s:=λx=>w*w*w*(x-o)+3*(w*w)*(w*o-u)) (α:=2*(w*w*w)+3*w*((w*o-u)*(w*o-u))) (β:=6*(w*w)*(w*o-u)+(w*o-u)*(w*o-u)*(w*o-u)-e) (((PFn.const (w*w*w)).mul (iN o)).add (PFn.const _)) hQ (λx=>by rw[hP,hQ];grind) λz=>?_
 have p1:=ML (ML hw hw) hw
 have p2:0<=(w*o-u)*(w*o-u):=by
  rcases MM (a:=0) (b:=w*o-u)with q |q
  ·exact MJ q q
  ·have:=MJ (show 0 <= -(w*o-u) by grind) (show 0 <= -(w*o-u) by grind);grind
 have p3:=MJ (MF hw) p2;grind
def JZ{Q P:Ex}{o u s p:Rat}(ho:0<o-u)(hs:s<(o-u)*(o-u))(hQ:∀x,pv Q x=(x-o)*(x-o)-2)(hP:∀x,pv P x=((x-u)*(x-u)-s)*((x-u)*(x-u)-s)-p):Bz Q P:=by
 refine vq (s:=λx=>((x-o)*(x-o)-2)+2*(2*(o-u)*(x-o)+((o-u)*(o-u)+2-s))+4*((o-u)*(o-u))) (α:=4*((o-u)*((o-u)*(o-u)+2-s))) (β:=8*((o-u)*(o-u))+((o-u)*(o-u)+2-s)*((o-u)*(o-u)+2-s)-p) ((((sV o 2)).add ((PFn.const 2).mul (((PFn.const (2*(o-u))).mul (iN o)).add (PFn.const _)))).add (PFn.const _)) hQ (λx=>by rw[hP,hQ];grind) λz=>?_
 have:=ML ho (show 0<(o-u)*(o-u)+2-s by grind);grind
def AQ{Q P:Ex}{k α β:Rat}{s:Rat->Rat}(hk:0<k)(hs:PFn s)(hQ:∀x,pv Q x=x*x+k)(hP:∀x,pv P x=pv Q x*s x+α*x+β)(h:α≠0\/β≠0):Bz Q P:=by
 refine AO (y:=λx=>x) (D := -k) PFn.id hs (λx=>by rw[hQ];grind) hP λz=>?_
 have n1:∀z:Rat,0<=z*z:=λz=>by
  rcases MM (a:=0) (b:=z)with q |q
  ·exact MJ q q
  ·have:=MJ (show 0 <= -z by grind) (show 0 <= -z by grind);grind
 have a:=MJ (n1 α) (MF hk);have b:=n1 β;have b0:β*β=0:=by grind
 have a0:α*α*k=0:=by grind
 have b1:β=0:=by rcases MQ.mp b0 with q |q<;>exact q
 have a1:α=0:=by
  rcases MQ.mp a0 with q |q
  ·rcases MQ.mp q with q |q<;>exact q
  ·grind
 rcases h with h |h
 ·exact h a1
 ·exact h b1
def J1{E Q:Ex}{k o:Rat}(hk:0<k)(ho:0<o)(hE:∀x,pv E x=x*x+k)(hQ:∀x,pv Q x=(x-o)*(x-o)-2):Bz E Q:=AQ (s:=λ_=>1) (α := -2*o) (β:=o*o-2-k) hk (PFn.const 1) hE (λx=>by rw[hQ,hE];grind) (.inl (by grind))
def J2{E P:Ex}{k w u e:Rat}(hk:0<k)(hw:w≠0)(he:∀ρ:Rat,ρ*ρ*ρ≠e)(hE:∀x,pv E x=x*x+k)(hP:∀x,pv P x=(w*x-u)*(w*x-u)*(w*x-u)-e):Bz E P:=by
 refine AQ (s:=λx=>w*w*w*x-3*(w*w)*u) (α:=3*w*(u*u)-w*w*w*k) (β:=3*(w*w)*k*u-u*u*u-e) hk (((PFn.const (w*w*w)).mul PFn.id).sub (PFn.const _)) hE (λx=>by rw[hP,hE];grind) ?_;apply Classical.byContradiction;intro z;obtain⟨z1,z2⟩:=not_or.mp z;have z1':3*w*(u*u)-w*w*w*k=0:=Classical.not_not.mp z1;have z2':3*(w*w)*k*u-u*u*u-e=0:=Classical.not_not.mp z2;have h1:w*(3*(u*u)-w*w*k)=0:=by grind
 have h2:w*w*k=3*(u*u):=by
  rcases MQ.mp h1 with q |q
  ·exact absurd q hw
  ·grind
 apply he (2*u);have:3*(w*w)*k*u=3*(w*w*k)*u:=by grind
 rw[this,h2]at z2';grind
def Gn{K:Ex}{w u e:Rat}(he:∀ρ:Rat,ρ*ρ*ρ≠e)(hK:∀x,pv K x=(w*x-u)*(w*x-u)*(w*x-u)-e)(r:Rat):pv K r≠0:=λz=>he (w*r-u) (by rw[hK]at z;grind)
def Ke{K:Ex}{w u e:Rat}(hw:w≠0)(he:∀ρ:Rat,ρ*ρ*ρ≠e)(hK:∀x,pv K x=(w*x-u)*(w*x-u)*(w*x-u)-e):Apt K:=λp0 p1 p2 hp=>by
 have n0:(p2:Rat)≠0:=cN hp;have en:1/(p2:Rat)*(p2:Rat)=1:=MN n0;generalize 1/(p2:Rat)=j at *
 obtain⟨α,hα⟩:∃α,α = -(j*(2*(p2:Rat)*u+(p1:Rat)*w)):=⟨_,rfl⟩;obtain⟨β,hβ⟩:∃β,β = -(j*((p2:Rat)*(u*u)+(p1:Rat)*w*u+(p0:Rat)*(w*w))):=⟨_,rfl⟩
 have id:∀x,j*(w*w)*pv [p0,p1,p2] x=(w*x-u)*(w*x-u)-α*(w*x-u)-β:=λx=>by
  rw[pv3,hα,hβ];have:j*(w*w)*((p0:Rat)+(p1:Rat)*x+(p2:Rat)*(x*x))=(j*(p2:Rat))*(w*x*(w*x))+j*(w*w)*((p0:Rat)+(p1:Rat)*x):=by grind
  rw[this,en];have:(w*x-u)*(w*x-u) - -(j*(2*(p2:Rat)*u+(p1:Rat)*w))*(w*x-u) - -(j*((p2:Rat)*(u*u)+(p1:Rat)*w*u+(p0:Rat)*(w*w)))=(w*x-u)*(w*x-u)+(j*(p2:Rat))*(2*u*(w*x-u)+u*u)+j*((p1:Rat)*w*(w*x-u)+(p1:Rat)*w*u+(p0:Rat)*(w*w)):=by grind
  rw[this,en];grind
 refine⟨λ_=>1,λx=>(-(j*(w*w)))*((w*x-u)+α),(α*α+β)*w,-(α*α+β)*u+α*β-e,PFn.const 1,(PFn.const _).mul ((((PFn.const w).mul PFn.id).sub (PFn.const u)).add (PFn.const α)),?_,λx=>?_⟩
 ·apply Classical.byContradiction;intro z;obtain⟨z1,z2⟩:=not_or.mp z;have z1':=Classical.not_not.mp z1;have z2':=Classical.not_not.mp z2
  have h1:α*α+β=0:=by
   rcases MQ.mp z1' with q |q
   ·exact q
   ·exact absurd q hw
  apply he (-α);have:β = -(α*α):=by grind
  rw[this]at z2';grind
 ·rw[hK];have h2 : -(j*(w*w))*((w*x-u)+α)*pv [p0,p1,p2] x = -(((w*x-u)+α)*(j*(w*w)*pv [p0,p1,p2] x)):=by grind
  show 1*_ + -(j*(w*w))*((w*x-u)+α)*pv [p0,p1,p2] x=_;rw[h2,id x];grind
def Gm{K:Ex}{u:Rat}{a b:Int}(nab:Nsq (a*b))(hK:∀x,pv K x=((x-u)*(x-u)-((a:Rat)+(b:Rat)))*((x-u)*(x-u)-((a:Rat)+(b:Rat)))-4*((a:Rat)*(b:Rat)))(r:Rat):pv K r≠0:=λz=>by rw[hK]at z;refine nab.mul (a:=2) (b:=(r-u)*(r-u)-((a:Rat)+(b:Rat))) (by decide) ?_;rw[MD];grind
def Kd{K:Ex}{u:Rat}{a b:Int}(na:Nsq a)(nb:Nsq b)(nab:Nsq (a*b))(hK:∀x,pv K x=((x-u)*(x-u)-((a:Rat)+(b:Rat)))*((x-u)*(x-u)-((a:Rat)+(b:Rat)))-4*((a:Rat)*(b:Rat))):Apt K:=λp0 p1 p2 hp=>by
 have n0:(p2:Rat)≠0:=cN hp;have en:1/(p2:Rat)*(p2:Rat)=1:=MN n0;generalize 1/(p2:Rat)=j at *
 obtain⟨s,hs⟩:∃s,s=(a:Rat)+(b:Rat):=⟨_,rfl⟩;obtain⟨P,hP⟩:∃P,P=4*((a:Rat)*(b:Rat)):=⟨_,rfl⟩;obtain⟨α,hα⟩:∃α,α = -(j*(2*(p2:Rat)*u+(p1:Rat))):=⟨_,rfl⟩;obtain⟨β,hβ⟩:∃β,β = -(j*((p2:Rat)*(u*u)+(p1:Rat)*u+(p0:Rat))):=⟨_,rfl⟩
 have id:∀x,j*pv [p0,p1,p2] x=(x-u)*(x-u)-α*(x-u)-β:=λx=>by
  rw[pv3,hα,hβ];have:j*((p0:Rat)+(p1:Rat)*x+(p2:Rat)*(x*x))=(j*(p2:Rat))*(x*x)+j*((p0:Rat)+(p1:Rat)*x):=by grind
  rw[this,en];have:(x-u)*(x-u) - -(j*(2*(p2:Rat)*u+(p1:Rat)))*(x-u) - -(j*((p2:Rat)*(u*u)+(p1:Rat)*u+(p0:Rat)))=(x-u)*(x-u)+(j*(p2:Rat))*(2*u*(x-u)+u*u)+j*((p1:Rat)*(x-u)+(p1:Rat)*u+(p0:Rat)):=by grind
  rw[this,en];grind
 refine⟨λ_=>1,λx=>(-j)*(((x-u)*(x-u)-0)+α*(x-u)+(α*α+β-2*s)),α*(α*α+2*β-2*s),-(α*(α*α+2*β-2*s))*u+((α*α+β-2*s)*β+s*s-P),PFn.const 1,(PFn.const _).mul (((sV u 0).add ((PFn.const α).mul (iN u))).add (PFn.const _)),?_,λx=>?_⟩
 ·apply Classical.byContradiction;intro z;obtain⟨z1,z2⟩:=not_or.mp z;have z1':=Classical.not_not.mp z1;have z2':=Classical.not_not.mp z2;rw[z1']at z2';have z3:(α*α+β-2*s)*β+s*s-P=0:=by grind
  rcases MQ.mp z1' with q |q
  ·rw[q]at z3;refine nab.mul (a:=2) (b:=β-s) (by decide) ?_;rw[MD];grind
  ·have h1:α*α=2*(s-β):=by grind
   rw[h1]at z3;have h2:(β-((a:Rat)-(b:Rat)))*(β+((a:Rat)-(b:Rat)))=0:=by grind
   rcases MQ.mp h2 with w |w
   ·refine nb.mul (a:=2) (b:=α) (by decide) ?_;grind
   ·refine na.mul (a:=2) (b:=α) (by decide) ?_;grind
 ·rw[hK,<- hs,<- hP];have h2:(-j)*(((x-u)*(x-u)-0)+α*(x-u)+(α*α+β-2*s))*pv [p0,p1,p2] x = -((((x-u)*(x-u)-0)+α*(x-u)+(α*α+β-2*s))*(j*pv [p0,p1,p2] x)):=by grind
  show 1*_+(-j)*(((x-u)*(x-u)-0)+α*(x-u)+(α*α+β-2*s))*pv [p0,p1,p2] x=_;rw[h2,id x];grind
structure Fac(A:Ex)(zs:List (Rat×Rat)):Prop where
 tr:Tr A
 l2:2<=A.length
 fl:Fl A
 st:Flt A->St (λ_=>True) (vw A) zs
def Fac.flt{A:Ex}{zs:List (Rat×Rat)}(h:Fac A zs)(l9:A.length<=9):Flt A:=h.fl.flt h.tr h.l2 l9
def Fac.ne{A:Ex}{zs:List (Rat×Rat)}(h:Fac A zs):A≠[]:=λz=>by have:=h.l2;rw[z]at this;simp at this
def Fac.mul{P A:Ex}{zs ys:List (Rat×Rat)}(hP:Fac P zs)(hA:Fac A ys)(bz:Bz P A):Fac (aw P A) (zs++ys):=by have len:=dO hP.ne hA.ne;have l1:=hP.l2;have l2:=hA.l2;refine⟨gW hP.tr hA.tr,by omega,hP.fl.mul hA.fl bz,λhF=>?_⟩;have l9:=hF.l8;have fP:=hP.flt (by omega);have fA:=hA.flt (by omega);refine St.merge (λx y hxy=>?_) (hP.st fP) (hA.st fA);have:=hF.add fA fP (c:=1) (by decide) (λn=>by rw[aW,M9]) hxy;omega
def Cnt.same{f g:Rat->Rat}{V W:Rat->Int}(h1:Cnt f V)(h2:Cnt g W){ε:Int}(hε:ε≠0)(hs:∀x,aj (g x)=ε*aj (f x)){x y:Rat}(hxy:x<y):V x-V y=W x-W y:=by
 obtain⟨δ1,d1,p1⟩:=h1.loc x y;obtain⟨δ2,d2,p2⟩:=h2.loc x y
 obtain⟨δ,hδ,e1,e2⟩:∃δ:Rat,0<δ/\δ<=δ1/\δ<=δ2:=by
  rcases MM (a:=δ1) (b:=δ2)with z |z
  ·exact⟨δ1,d1,ME,z⟩
  ·exact⟨δ2,d2,z,ME⟩
 refine iq (C:=λu v=>V u-V v=W u-W v) hxy (λu v w _ _ _ _ c1 c2=>by show V u-V w=W u-W w;omega) hδ λu v hu hv huv hd=>?_
 show V u-V v=W u-W v;rw[p1 u v hu huv hv (by grind),p2 u v hu huv hv (by grind)];unfold bJ;rw[hs,hs];by_cases z:aj (f u)≠0/\aj (f v)≠aj (f u)
 ·rw[if_pos z,if_pos ⟨Na hε z.1,λq=>z.2 (OG hε q)⟩]
 ·rw[if_neg z,if_neg λq=>z ⟨λr=>q.1 (by rw[r,Nk]),λr=>q.2 (by rw[r])⟩]
def D5{P G:Ex}{a b:Int}(hb:b≠0)(h:∀n,b*cf G n=a*cf P n)(x:Rat):(b:Rat)*pv (slopeL G) x=(a:Rat)*pv (slopeL P) x:=by
 have h1:=dg (a:=slopeL G) (c:=aM b (slopeL G)) (u:=b) x (bA _ _)
 have h2:=dg (a:=slopeL P) (c:=aM b (slopeL G)) (u:=a) x λn=>by rw[bA,d6,d6];have:=h (n+1);grind
 rw[<- h1,h2]
def Fac.scale{P G:Ex}{zs:List (Rat×Rat)}(hP:Fac P zs){a b:Int}(ha:a≠0)(hb:b≠0)(h:∀n,b*cf G n=a*cf P n)(tG:Tr G)(hl:G.length=P.length):Fac G zs:=by
 have b0:(b:Rat)≠0:=cN hb;have a0:(a:Rat)≠0:=cN ha
 have v:∀x,(b:Rat)*pv G x=(a:Rat)*pv P x:=λx=>by
  have h1:=dg (a:=G) (c:=aM b G) (u:=b) x (bA _ _);have h2:=dg (a:=P) (c:=aM b G) (u:=a) x λn=>by rw[bA];exact h n
  rw[<- h1,h2]
 have eb:1/(b:Rat)*(b:Rat)=1:=MN b0
 have k0:1/(b:Rat)*(a:Rat)≠0:=λz=>by
  rcases MQ.mp z with q |q
  ·rw[q,Rat.zero_mul]at eb;exact absurd eb (by decide)
  ·exact a0 q
 have v':∀x,pv G x=1/(b:Rat)*(a:Rat)*pv P x:=λx=>by
  have:1/(b:Rat)*((b:Rat)*pv G x)=1/(b:Rat)*((a:Rat)*pv P x):=by rw[v]
  rw[<- Rat.mul_assoc,eb]at this;grind
 have w':∀x,pv (slopeL G) x=1/(b:Rat)*(a:Rat)*pv (slopeL P) x:=λx=>by
  have:1/(b:Rat)*((b:Rat)*pv (slopeL G) x)=1/(b:Rat)*((a:Rat)*pv (slopeL P) x):=by rw[D5 hb h]
  rw[<- Rat.mul_assoc,eb]at this;grind
 refine⟨tG,by rw[hl];exact hP.l2,(Bz.scale k0 v' (Bz.scale k0 w' hP.fl.symm).symm),λhG x y _ _ ox oy=>?_⟩;have fP:=hP.flt (by rw[<- hl];exact hG.l8);have st:=hP.st fP x y trivial trivial ox oy;have sg:∀x,aj (pv G x)=aj (1/(b:Rat)*(a:Rat))*aj (pv P x):=λx=>by rw[v',kI]
 have key:∀{x y:Rat},x<y->vw P x-vw P y=vw G x-vw G y:=λhxy=>Cnt.same fP.cnt hG.cnt (sg_ne.mpr k0) sg hxy
 rcases f7 x y with z |z |z
 ·rw[<- key z];exact st
 ·rw[z];omega
 ·have:=key z;omega
def lX{t n:Int}{r ε:Rat}(hn:0<n)(hr:(t:Rat)+r*(n:Rat)=0)(hε:0<ε):Fac [t,n] [(r-ε,r)]:=by have n0:(0:Rat)<(n:Rat):=MP.mpr hn;refine⟨tr2 hn,MI _,Ii (by omega),λhF=>?_⟩;exact Cf hF.cnt (n:=(n:Rat)) (κ:=1) n0 (by decide) (λx=>by rw[pv2];grind) hε
def tr3{a b c:Int}(hc:c≠0):Tr [a,b,c]:=(tr_snoc (r:=[a,b])).mpr hc
def iX(o:Int)(x:Rat):pv [o*o-2,-2*o,1] x=(x-(o:Rat))*(x-(o:Rat))-2:=by rw[pv3,NH,MD,MD,c1,c2,cm2];grind
def Af(o:Int):Fac [o*o-2,-2*o,1] [((o:Rat)-3/2,(o:Rat)-1),((o:Rat)+1,(o:Rat)+3/2)]:=by
 have hA:∀x,pv [o*o-2,-2*o,1] x=1*((1*x-(o:Rat))*(1*x-(o:Rat))-2):=λx=>by rw[iX];grind
 refine⟨tr3 (by decide),by show 2<=3;decide,uv (w:=1) (u:=(o:Rat)) (D:=2) (κ:=1) (by decide) (by decide) (by decide) hA (λx=>by rw[sl3,pv2,MD,MD,MD,c1,c2,cm2];grind),λhF=>?_⟩;exact wJ hF.cnt (w:=1) (u:=(o:Rat)) (D:=2) (κ:=1) (s:=1) (t:=3/2) (by decide) (by decide) hA (by decide) (by grind) (by grind) (by grind) (by grind) (by grind) (by grind) (by grind)
def my(k:Int)(x:Rat):pv [k,0,1] x=x*x+(k:Rat):=by rw[pv3,c1,show((0:Int):Rat)=0 from rfl];grind
def IR{k:Int}(hk:0<k):Fac [k,0,1] []:=by
 have k0:(0:Rat)<(k:Rat):=MP.mpr hk;refine⟨tr3 (by decide),by show 2<=3;decide,uv (w:=1) (u:=0) (D := -(k:Rat)) (κ:=1) (by decide) (by decide) (by grind) (λx=>by rw[my];grind) (λx=>by rw[sl3,pv2,MD,MD,c1,c2,show((0:Int):Rat)=0 from rfl];grind),λhF=>?_⟩;refine St.none hF.cnt (λ_ _ _ _ _ _ _=>trivial) (s:=1) λx _=>?_
 rw[my]
 have:0<=x*x:=by
  rcases MM (a:=0) (b:=x)with q |q
  ·exact MJ q q
  ·have:=MJ (show 0 <= -x by grind) (show 0 <= -x by grind);grind
 unfold aj;rw[if_neg (by grind),if_pos (by grind)]
noncomputable def qdL(u v w d:Int):Ex:=[u*u-d*v*v,-2*u*w,w*w]
def sQ(u v w d:Int)(x:Rat):pv (qdL u v w d) x=((w:Rat)*x-(u:Rat))*((w:Rat)*x-(u:Rat))-(d:Rat)*((v:Rat)*(v:Rat)):=by unfold qdL;rw[pv3,NH,MD,MD,MD,MD,MD,MD,cm2];grind
def IP{u v w d:Int}{s t:Rat}(hw:0<w)(hv:v≠0)(hs:0<s)(hst:s<t)(h1:s*s<(d:Rat))(h2:(d:Rat)<t*t){a:Rat}(ha:0<a)(av:a=(v:Rat)\/a = -(v:Rat)){a1 b1 a2 b2:Rat}(e1:(w:Rat)*a1=(u:Rat)-a*t)(e2:(w:Rat)*b1=(u:Rat)-a*s)(e3:(w:Rat)*a2=(u:Rat)+a*s)(e4:(w:Rat)*b2=(u:Rat)+a*t):Fac (qdL u v w d) [(a1,b1),(a2,b2)]:=by
 have w0:(0:Rat)<(w:Rat):=MP.mpr hw;have aa:a*a=(v:Rat)*(v:Rat):=by rcases av with e |e<;>rw[e]<;>grind
 have hA:∀x,pv (qdL u v w d) x=1*(((w:Rat)*x-(u:Rat))*((w:Rat)*x-(u:Rat))-(d:Rat)*(a*a)):=λx=>by rw[sQ,aa];grind
 have ap:=ML ha ha;have d0:0<(d:Rat):=by have:=ML hs hs;grind
 have D0:=ML d0 ap;refine⟨tr3 (Na (by omega) (by omega)),by show 2<=3;decide,uv (w:=(w:Rat)) (u:=(u:Rat)) (D:=(d:Rat)*(a*a)) (κ:=1) (by decide) (by grind) (by grind) hA (λx=>by unfold qdL;rw[sl3,pv2,MD,MD,MD,MD,MD,c1,c2,cm2];grind),λhF=>?_⟩;refine wJ hF.cnt (w:=(w:Rat)) (u:=(u:Rat)) (D:=(d:Rat)*(a*a)) (κ:=1) (s:=a*s) (t:=a*t) w0 (by decide) hA (ML ha hs) (NI hst ha) ?_ ?_ e1 e2 e3 e4
 ·have:=NB h1 ap;grind
 ·have:=NB h2 ap;grind
noncomputable def cbL(u v w c:Int):Ex:=[-u*u*u-c*v*v*v,3*u*u*w,-3*u*w*w,w*w*w]
def jb(u v w c:Int)(x:Rat):pv (cbL u v w c) x=((w:Rat)*x-(u:Rat))*((w:Rat)*x-(u:Rat))*((w:Rat)*x-(u:Rat))-(c:Rat)*((v:Rat)*(v:Rat)*(v:Rat)):=by unfold cbL;rw[pv4,NH,MD,MD,MD,MD,MD,MD,MD,MD,MD,MD,MD,MD,MD,NE,c3,cm3];grind
def tr4{a b c d:Int}(hd:d≠0):Tr [a,b,c,d]:=(tr_snoc (r:=[a,b,c])).mpr hd
def tr5{a b c d e:Int}(he:e≠0):Tr [a,b,c,d,e]:=(tr_snoc (r:=[a,b,c,d])).mpr he
def Ag{u v w c:Int}{s t:Rat}(hw:0<w)(hv:v≠0)(hs:0<s)(hst:s<t)(h1:s*s*s<(c:Rat))(h2:(c:Rat)<t*t*t){a b:Rat}(hz:(0<v/\(w:Rat)*a=(u:Rat)+(v:Rat)*s/\(w:Rat)*b=(u:Rat)+(v:Rat)*t)\/(v<0/\(w:Rat)*a=(u:Rat)+(v:Rat)*t/\(w:Rat)*b=(u:Rat)+(v:Rat)*s)):Fac (cbL u v w c) [(a,b)]:=by
 have w0:(0:Rat)<(w:Rat):=MP.mpr hw;have c0:0<(c:Rat):=by have:=ML (ML hs hs) hs;grind
 have v0:(v:Rat)≠0:=cN hv
 have e0:(c:Rat)*((v:Rat)*(v:Rat)*(v:Rat))≠0:=λz=>by
  rcases MQ.mp z with q |q
  ·grind
  ·rcases MQ.mp q with q |q
   ·rcases MQ.mp q with q |q<;>exact v0 q
   ·exact v0 q
 refine⟨tr4 (Na (Na (by omega) (by omega)) (by omega)),by show 2<=4;decide,Ij (w:=(w:Rat)) (u:=(u:Rat)) (by grind) e0 (jb u v w c) (λx=>by unfold cbL;rw[sl4,pv3,MD,MD,MD,MD,MD,MD,MD,MD,MD,MD,MD,c1,c2,c3,cm3];grind),λhF=>?_⟩
 have lt:∀{x y:Rat},(w:Rat)*x<(w:Rat)*y->x<y:=λ{x y} h=>by have:=xZ w0 (b:=y-x) (by grind);grind
 rcases hz with⟨vp,ea,eb⟩ |⟨vp,ea,eb⟩
 ·have v1:(0:Rat)<(v:Rat):=MP.mpr vp;have v3:=ML (ML v1 v1) v1;refine wK hF.cnt (κ:=1) w0 (by decide) (λx=>by rw[jb,NX]) (lt (by rw[ea,eb];have:=NI hst v1;grind)) ?_ ?_
  ·rw[ea];have:=NB h1 v3;grind
  ·rw[eb];have:=NB h2 v3;grind
 ·have v1:(0:Rat) < -(v:Rat):=by have:(v:Rat)<((0:Int):Rat):=MP.mpr vp;rw[show((0:Int):Rat)=0 from rfl]at this;grind
  have v3:=ML (ML v1 v1) v1;refine wK hF.cnt (κ:=1) w0 (by decide) (λx=>by rw[jb,NX]) (lt (by rw[ea,eb];have:=NI hst v1;grind)) ?_ ?_
  ·rw[ea];have:=NB h2 v3;grind
  ·rw[eb];have:=NB h1 v3;grind
noncomputable def qrL(u a b:Int):Ex:=[(u*u-a-b)*(u*u-a-b)-4*a*b,2*((u*u-a-b)*(-2*u)),2*(u*u-a-b)+4*u*u,-4*u,1]
def kZ(u a b:Int)(x:Rat):pv (qrL u a b) x=((x-(u:Rat))*(x-(u:Rat))-((a:Rat)+(b:Rat)))*((x-(u:Rat))*(x-(u:Rat))-((a:Rat)+(b:Rat)))-4*((a:Rat)*(b:Rat)):=by unfold qrL;rw[pv5];simp only[NH,MD,Ni,c1,c2,c4,cm2,show((-4:Int):Rat) = -4 from rfl];grind
def IN{u a b:Int}{i j k l:Rat}(hab:a≠b)(ha:0<a)(hb:0<b)(hi:0<i)(ij:i<j)(jk:j<k)(kl:k<l)(js:j*j<=(a:Rat)+(b:Rat))(ks:(a:Rat)+(b:Rat)<=k*k)(vi:4*((a:Rat)*(b:Rat))<(i*i-((a:Rat)+(b:Rat)))*(i*i-((a:Rat)+(b:Rat))))(vj:(j*j-((a:Rat)+(b:Rat)))*(j*j-((a:Rat)+(b:Rat)))<4*((a:Rat)*(b:Rat)))(vk:(k*k-((a:Rat)+(b:Rat)))*(k*k-((a:Rat)+(b:Rat)))<4*((a:Rat)*(b:Rat)))(vl:4*((a:Rat)*(b:Rat))<(l*l-((a:Rat)+(b:Rat)))*(l*l-((a:Rat)+(b:Rat)))) :
 Fac (qrL u a b) [((u:Rat)-l,(u:Rat)-k),((u:Rat)-j,(u:Rat)-i),((u:Rat)+i,(u:Rat)+j),((u:Rat)+k,(u:Rat)+l)]:=by
 have a0:(0:Rat)<(a:Rat):=MP.mpr ha;have b0:(0:Rat)<(b:Rat):=MP.mpr hb;have ab:=ML a0 b0
 have ne:(a:Rat)-(b:Rat)≠0:=λz=>by apply hab;refine ND.mp ?_;grind
 refine⟨tr5 (by decide),by show 2<=5;decide,Ih (u:=(u:Rat)) (s:=(a:Rat)+(b:Rat)) (P:=4*((a:Rat)*(b:Rat))) (by grind) (λz=>?_) (kZ u a b) (λx=>?_),λhF=>?_⟩
 ·have:((a:Rat)-(b:Rat))*((a:Rat)-(b:Rat))=0:=by grind
  rcases MQ.mp this with q |q<;>exact ne q
 ·unfold qrL;rw[sl5,pv4];simp only[NH,MD,Ni,c1,c2,c3,c4,cm2,show((-4:Int):Rat) = -4 from rfl];grind
 ·exact Ce hF.cnt (κ:=1) (by decide) (λx=>by rw[kZ,NX]) hi ij jk kl js ks vi vj vk vl
noncomputable def aX(b:Bool)(P A:Ex):Ex:=if b then aw P A else P
noncomputable def ozL(b:Bool)(zs:List (Rat×Rat)):List (Rat×Rat):=if b then zs else[]
noncomputable def fqL(o:Int):Ex:=[o*o-2,-2*o,1]
noncomputable def bI(c:Int)(b1 b2 b3 b4:Bool)(lt lb o k:Int):Ex:=aX b4 (aX b3 (aX b2 (aX b1 [c] [-lt,lb]) [o,1]) (fqL o)) [k,0,1]
noncomputable def fV(K:Ex)(b1 b2 b3 b4:Bool)(lt lb o k:Int):Ex:=aX b4 (aX b3 (aX b2 (aX b1 K [-lt,lb]) [o,1]) (fqL o)) [k,0,1]
def Fac.opt{P A:Ex}{zs ys:List (Rat×Rat)}(b:Bool)(hP:Fac P zs)(hA:Fac A ys)(bz:b=true->Bz P A):Fac (aX b P A) (zs++ozL b ys):=by
 cases b with
 |true=>exact hP.mul hA (bz rfl)
 |false =>show Fac P (zs++[]);rw[Of];exact hP
def Bz.opt{P A B:Ex}(b:Bool)(h1:Bz P B)(h2:b=true->Bz A B):Bz (aX b P A) B:=by
 cases b with
 |true=>exact Bz.mul (k:=1) (by decide) (λx=>by rw[NX];exact dB x P A _ (aW _ _)) h1 (h2 rfl)
 |false=>exact h1
def ua{t n:Int}{x r:Rat}(hn:0<n)(hr:(t:Rat)+r*(n:Rat)=0)(h:x≠r):pv [t,n] x≠0:=λz=>by
 have n0:(0:Rat)<(n:Rat):=MP.mpr hn;rw[pv2]at z;have:(n:Rat)*(x-r)=0:=by grind
 rcases MQ.mp this with q |q
 ·grind
 ·exact h (by grind)
def IQ{K:Ex}{zsK:List (Rat×Rat)}(hK:Fac K zsK){lt lb o k:Int}{low:Rat}(b1 b2 b3 b4:Bool)(hlb:0<lb)(hlow:((-lt:Int):Rat)+low*(lb:Rat)=0)(ho:0<o)(hk:0<k)(l1 : -(o:Rat)<low)(l2:low+2<(o:Rat))(kL:pv K low≠0)(kN:pv K (-(o:Rat))≠0)(kQ:Bz (fqL o) K)(kE:b4=true->Bz [k,0,1] K) :
 Fac (fV K b1 b2 b3 b4 lt lb o k) (((zsK++ozL b1 [(low-1/48,low)])++ozL b2 [(-(o:Rat)-1/48,-(o:Rat))])++ozL b3 [((o:Rat)-3/2,(o:Rat)-1),((o:Rat)+1,(o:Rat)+3/2)]):=by
 have o0:(0:Rat)<(o:Rat):=MP.mpr ho;have k0:(0:Rat)<(k:Rat):=MP.mpr hk;have hN:(o:Rat) + -(o:Rat)*((1:Int):Rat)=0:=by rw[c1];grind
 have fL:=lX (ε:=1/48) hlb hlow (by grind);have fN:=lX (ε:=1/48) (n:=1) (by decide) hN (by grind);have fQ:=Af o;have fE:=IR hk;have bL:∀{A:Ex},pv A low≠0->Bz [-lt,lb] A:=λh=>vm (by omega) hlow h
 have bN:∀{A:Ex},pv A (-(o:Rat))≠0->Bz [o,1] A:=λh=>vm (by decide) hN h
 have nLN:pv [o,1] low≠0:=ua (by decide) hN (by grind)
 have sq:∀x:Rat,0<=x*x:=λx=>by
  rcases MM (a:=0) (b:=x)with q |q
  ·exact MJ q q
  ·have:=MJ (show 0 <= -x by grind) (show 0 <= -x by grind);grind
 have Qat:∀x:Rat,x+2<=(o:Rat)->pv (fqL o) x≠0:=λx hx z=>by
  unfold fqL at z
  rw[iX]at z;have:=MJ (show 0<=(o:Rat)-x-2 by grind) (show 0<=(o:Rat)-x by grind);grind
 have Eat:∀x:Rat,pv [k,0,1] x≠0:=λx z=>by rw[my]at z;have:=sq x;grind
 have bEQ:Bz (fqL o) [k,0,1]:=(J1 k0 o0 (my k) (iX o)).symm;have s1:=Fac.opt b1 hK fL λ_=>(bL kL).symm
 have s2:=Fac.opt b2 s1 fN λ_=>Bz.opt b1 (bN kN).symm λ_=>bL nLN
 have s3:=Fac.opt b3 s2 fQ λ_=>Bz.opt b2 (Bz.opt b1 kQ.symm λ_=>bL (Qat low (by grind))) λ_=>bN (Qat _ (by grind))
 have s4:=Fac.opt b4 s3 fE λhb=>Bz.opt b3 (Bz.opt b2 (Bz.opt b1 (kE hb).symm λ_=>bL (Eat low)) λ_=>bN (Eat _)) λ_=>bEQ
 have e:ozL b4 []=[]:=by cases b4<;>rfl
 rw[e,Of]at s4;exact s4
def gI{b:Bool}{P A:Ex}(hP:P≠[])(hA:A≠[]):(aX b P A).length+1=P.length+(if b then A.length else 1)/\aX b P A≠[]:=by
 have h1:=MR.mpr hP;have h2:=MR.mpr hA;cases b with
 |true =>
  have:=dO hP hA;refine⟨?_,λz=>?_⟩
  ·show(aw P A).length+1=P.length+A.length;omega
  ·have z':aw P A=[]:=z;rw[z']at this;simp at this
   omega
 |false=>exact⟨rfl,hP⟩
def hJ{b:Bool}{P A:Ex}(hP:Tr P)(hA:Tr A):Tr (aX b P A):=by
 cases b with
 |true=>exact gW hP hA
 |false=>exact hP
def EL(b:Bool)(P A:Ex)(x:Rat):pv (aX b P A) x=pv P x*(if b then pv A x else 1):=by
 cases b with
 |true=>exact dB x P A _ (aW _ _)
 |false=>show pv P x=pv P x*1;grind
def AF{K:Ex}{c lt lb o k:Int}(tK:Tr K)(nK:K≠[])(b1 b2 b3 b4:Bool)(hc:c≠0)(hlb:0<lb):Tr (fV K b1 b2 b3 b4 lt lb o k)/\Tr (bI c b1 b2 b3 b4 lt lb o k)/\bI c b1 b2 b3 b4 lt lb o k≠[]/\aw K (bI c b1 b2 b3 b4 lt lb o k)=aM c (fV K b1 b2 b3 b4 lt lb o k)/\(fV K b1 b2 b3 b4 lt lb o k).length=K.length+(if b1 then 1 else 0)+(if b2 then 1 else 0)+(if b3 then 2 else 0)+(if b4 then 2 else 0):=by
 have tL:Tr [-lt,lb]:=tr2 hlb;have tN:Tr [o,1]:=tr2 (by decide);have tQ:Tr (fqL o):=tr3 (by decide);have tE:Tr [k,0,1]:=tr3 (by decide);have tc:Tr [c]:=(tr_snoc (r:=[])).mpr hc;have k1:=hJ (b:=b4) (hJ (b:=b3) (hJ (b:=b2) (hJ (b:=b1) tK tL) tN) tQ) tE;have k2:=hJ (b:=b4) (hJ (b:=b3) (hJ (b:=b2) (hJ (b:=b1) tc tL) tN) tQ) tE;have cn:[c]≠[]:=by simp
 have ln:[-lt,lb]≠[]:=by simp
 have nn:[o,1]≠[]:=by simp
 have qn:fqL o≠[]:=by simp[fqL]
 have en:[k,0,1]≠[]:=by simp
 have lq:(fqL o).length=3:=rfl;obtain⟨a1,n1⟩:=gI (b:=b1) nK ln;obtain⟨a2,n2⟩:=gI (b:=b2) n1 nn;obtain⟨a3,n3⟩:=gI (b:=b3) n2 qn;obtain⟨a4,n4⟩:=gI (b:=b4) n3 en;obtain⟨d1,m1⟩:=gI (b:=b1) cn ln;obtain⟨d2,m2⟩:=gI (b:=b2) m1 nn;obtain⟨d3,m3⟩:=gI (b:=b3) m2 qn;obtain⟨d4,m4⟩:=gI (b:=b4) m3 en;have hK:=MR.mpr nK
 have lP:(fV K b1 b2 b3 b4 lt lb o k).length=K.length+(if b1 then 1 else 0)+(if b2 then 1 else 0)+(if b3 then 2 else 0)+(if b4 then 2 else 0):=by show(aX b4 (aX b3 (aX b2 (aX b1 K [-lt,lb]) [o,1]) (fqL o)) [k,0,1]).length=_;rw[lq]at a3;simp only[Ng,List.length_nil]at a1 a2 a4;cases b1<;>cases b2<;>cases b3<;>cases b4<;>simp only[if_true,if_false,Bool.false_eq_true]at*<;> omega
 have lM:(bI c b1 b2 b3 b4 lt lb o k).length=1+(if b1 then 1 else 0)+(if b2 then 1 else 0)+(if b3 then 2 else 0)+(if b4 then 2 else 0):=by show(aX b4 (aX b3 (aX b2 (aX b1 [c] [-lt,lb]) [o,1]) (fqL o)) [k,0,1]).length=_;rw[lq]at d3;simp only[Ng,List.length_nil]at d1 d2 d4;cases b1<;>cases b2<;>cases b3<;>cases b4<;>simp only[if_true,if_false,Bool.false_eq_true]at*<;> omega
 refine⟨k1,k2,m4,nV ?_ λx _ _=>?_,lP⟩
 ·have m4':bI c b1 b2 b3 b4 lt lb o k≠[]:=m4;rw[dO nK m4',dN,lP,lM];omega
 ·rw[dB x K _ _ (aW _ _),dg (a:=fV K b1 b2 b3 b4 lt lb o k) (u:=c) x (bA _ _)];unfold bI fV;simp only[EL];rw[pv1];grind
def Bh(B A L N Q:List (Rat×Rat)):((((B++A)++L)++N)++Q).Perm (N++(B++(L++(A++Q)))):=by rw[List.perm_iff_count];intro z;simp only[List.count_append];omega
def Bg{B A:List (Rat×Rat)}{low o:Rat}(b1 b2 b3:Bool)(hB:Srt (1/48) B)(hA:Srt (1/48) A)(B1:∀z∈B,-o+1/48<=z.1/\z.2+1/48<=low-1/48)(A1:∀z∈A,low+1/48<=z.1/\z.2+1/48<=o-3/2)(l1 : -o+1/48<=low-1/48)(l2:low+1/48<=o-3/2):Srt (1/48) (ozL b2 [(-o-1/48,-o)]++(B++(ozL b1 [(low-1/48,low)]++(A++ozL b3 [(o-3/2,o-1),(o+1,o+3/2)])))):=by
 have sub:∀(b:Bool) (zs:List (Rat×Rat)),(ozL b zs).Sublist zs:=λb zs=>by
  cases b with
  |true=>exact List.Sublist.refl _
  |false=>exact List.nil_sublist _
 have full:Srt (1/48) ([(-o-1/48,-o)]++(B++([(low-1/48,low)]++(A++[(o-3/2,o-1),(o+1,o+3/2)])))):=by
  refine⟨N8.mpr ⟨NY _ _,N8.mpr ⟨hB.pw,N8.mpr ⟨NY _ _,N8.mpr ⟨hA.pw,?_,λz hz w hw=>?_⟩,λz hz w hw=>?_⟩,λz hz w hw=>?_⟩,λz hz w hw=>?_⟩,λz hz=>?_⟩
  ·refine Np.mpr ⟨λw hw=>?_,NY _ _⟩;rw[MH.mp hw];show o-1+1/48<=o+1;grind
  ·have:=A1 z hz;rcases MG.mp hw with e |e
   ·rw[e];exact this.2
   ·rw[MH.mp e];show z.2+1/48<=o+1;grind
  ·rw[MH.mp hz];show low+1/48<=w.1;rcases MS.mp hw with e |e
   ·exact(A1 w e).1
   ·rcases MG.mp e with e |e
    ·rw[e];exact l2
    ·rw[MH.mp e];show low+1/48<=o+1;grind
  ·have:=B1 z hz;rcases MS.mp hw with e |e
   ·rw[MH.mp e];exact this.2
   ·rcases MS.mp e with e |e
    ·have:=A1 w e;grind
    ·rcases MG.mp e with e |e
     ·rw[e];show z.2+1/48<=o-3/2;grind
     ·rw[MH.mp e];show z.2+1/48<=o+1;grind
  ·rw[MH.mp hz];show -o+1/48<=w.1;rcases MS.mp hw with e |e
   ·exact(B1 w e).1
   rcases MS.mp e with e |e
   ·rw[MH.mp e];exact l1
   rcases MS.mp e with e |e
   ·have:=A1 w e;grind
   ·rcases MG.mp e with e |e
    ·rw[e];show -o+1/48<=o-3/2;grind
    ·rw[MH.mp e];show -o+1/48<=o+1;grind
  ·rcases MS.mp hz with e |e
   ·rw[MH.mp e];show -o-1/48 < -o;grind
   rcases MS.mp e with e |e
   ·exact hB.ok z e
   rcases MS.mp e with e |e
   ·rw[MH.mp e];show low-1/48<low;grind
   rcases MS.mp e with e |e
   ·exact hA.ok z e
   ·rcases MG.mp e with e |e
    ·rw[e];show o-3/2<o-1;grind
    ·rw[MH.mp e];show o+1<o+3/2;grind
 exact full.sub (List.Sublist.append (sub _ _) (List.Sublist.append (List.Sublist.refl _) (List.Sublist.append (sub _ _) (List.Sublist.append (List.Sublist.refl _) (sub _ _)))))
noncomputable def d9(l:Ex):Nat:=(l.map Int.natAbs).sum
theorem y9{M:Nat}{b:Ex}(hb:∀n,(cf b n).natAbs<=M):∀(a:Ex) (n:Nat),(aH a b n).natAbs<=d9 a*M
 | [],n=>by rw[dL];exact MK _
 |y::a,n=>by
  rw[dM];have h1:(y*cf b n).natAbs<=y.natAbs*M:=by rw[MW];exact Oi _ (hb n)
  have h2:(RM.up (aH a b) n).natAbs<=d9 a*M:=by
   unfold RM.up;split
   ·exact MK _
   ·exact y9 hb a _
  have e:d9 (y::a)*M=y.natAbs*M+d9 a*M:=by show(y.natAbs+d9 a)*M=_;rw[Oh]
  rw[e];have:=Int.natAbs_add_le (y*cf b n) (RM.up (aH a b) n);omega
def lf{M S:Nat}{P A:Ex}(b:Bool)(hP:∀n,(cf P n).natAbs<=M)(hA:d9 A<=S)(hS:1<=S)(n:Nat):(cf (aX b P A) n).natAbs<=S*M:=by
 cases b with
 |true =>show(cf (aw P A) n).natAbs<=_;rw[aW,lj];exact MU (y9 hP A n) (NJ _ hA)
 |false=>exact MU (hP n) (N5 _ hS)
def uG(zs:List (Rat×Rat))(B:Rat):∃x,x<=B/\∀z∈zs,x<=z.1:=by
 induction zs with
 |nil=>exact⟨B,ME,λz hz=>nomatch hz⟩
 |cons y zs ih =>
  obtain⟨x,h1,h2⟩:=ih;rcases MM (a:=x) (b:=y.1)with q |q
  ·exact⟨x,h1,λz hz=>(MG.mp hz).elim (λe=>by rw[e];exact q) λe=>h2 z e⟩
  ·exact⟨y.1,MX q h1,λz hz=>(MG.mp hz).elim (λe=>by rw[e];exact ME) λe=>MX q (h2 z e)⟩
def Ad(zs:List (Rat×Rat))(B:Rat):∃x,B<=x/\∀z∈zs,z.2<=x:=by
 induction zs with
 |nil=>exact⟨B,ME,λz hz=>nomatch hz⟩
 |cons y zs ih =>
  obtain⟨x,h1,h2⟩:=ih;rcases MM (a:=y.2) (b:=x)with q |q
  ·exact⟨x,h1,λz hz=>(MG.mp hz).elim (λe=>by rw[e];exact q) λe=>h2 z e⟩
  ·exact⟨y.2,MX h1 q,λz hz=>(MG.mp hz).elim (λe=>by rw[e];exact ME) λe=>MX (h2 z e) q⟩
def Bj{V:Rat->Int}{zs:List (Rat×Rat)}{δ B:Rat}(hδ:0<=δ)(st:St (λ_=>True) V zs)(hS:Srt δ zs)(hB:∀x,x <= -B->V x=V (-B)){j:Nat}{z:Rat×Rat}(hz:zs[j]?=some z):V (-B)-V z.1=j/\V (-B)-V z.2=j+1:=by obtain⟨x,x1,x2⟩:=uG zs (-B);obtain⟨c0,o0⟩:=oV x2;obtain⟨c1,c2,o1,o2⟩:=hS.at hδ (V:=V) j z hz;have e1:=st x z.1 trivial trivial o0 o1;have e2:=st x z.2 trivial trivial o0 o2;have:=hB x x1;omega
def Bk{V:Rat->Int}{zs:List (Rat×Rat)}{δ B:Rat}(st:St (λ_=>True) V zs)(hS:Srt δ zs)(hB:∀x,x <= -B->V x=V (-B))(hB':∀x,B<=x->V x=V B):V (-B)-V B=zs.length:=by
 obtain⟨x,x1,x2⟩:=uG zs (-B);obtain⟨y,y1,y2⟩:=Ad zs B;obtain⟨c0,o0⟩:=oV x2;obtain⟨c1,o1⟩:=uX λz hz=>⟨hS.ok z hz,y2 z hz⟩
 have:=st x y trivial trivial o0 o1;have:=hB x x1;have:=hB' y y1;omega
def AD{pre post:List (Rat×Rat)}{x:Rat}(h1:∀z∈pre,z.1<z.2/\z.2<=x)(h2:∀z∈post,x<=z.1):bT (pre++post) x=post.length/\Out (pre++post) x:=by
 obtain⟨a,b⟩:=uX h1;obtain⟨c,d⟩:=oV h2;refine⟨by rw[mh,a,c];omega,λz hz=>?_⟩;rcases MS.mp hz with e |e
 ·exact b z e
 ·exact d z e
def Due(G:Ex)(z:Rat×Rat)(q:Ex):Prop:=(Pln q/\Flt q/\Dv q G/\vw q z.1-vw q z.2=1/\(q.length=2\/(q.length=3/\∀r,pv q r≠0)))\/(q=G/\∃K,Flt K/\Dv K G/\vw K z.1-vw K z.2=1/\(∀r,pv K r≠0)/\Apt K)
def uQ{G p q:Ex}{z:Rat×Rat}{l h:Rat}(hG:Flt G)(D:Due G z q)(lt:l<h)(e1:vw G l=vw G z.1)(e2:vw G h=vw G z.2)(o:vw G l-vw G h=1)(L:LS G l h p):p=q:=by
 rcases D with⟨pq,fq,dq,oq,k⟩ |⟨rfl,K,fK,dK,oK,nr,ap⟩
 ·have a:=jY hG fq dq e1;have b:=jY hG fq dq e2;have Q:Od G l h q:=⟨pq,fq,dq,by omega⟩;rcases k with k |⟨k,nr⟩
  ·exact LS.line hG lt o L Q k
  ·exact LS.quad hG lt o L Q k nr
 ·have a:=jY hG fK dK e1;have b:=jY hG fK dK e2;exact LS.whole hG lt o L ⟨fK,dK,by omega⟩ nr ap
def Fac.own{q:Ex}{zs:List (Rat×Rat)}{δ:Rat}(hδ:0<=δ)(hq:Fac q zs)(fq:Flt q)(hS:Srt δ zs){z:Rat×Rat}(hz:z∈zs):vw q z.1-vw q z.2=1:=by obtain⟨j,hj,ej⟩:=OS.mp hz;obtain⟨c1,c2,o1,o2⟩:=hS.at hδ (V:=vw q) j z (by rw[<- ej];exact List.getElem?_eq_getElem hj);have:=hq.st fq z.1 z.2 trivial trivial o1 o2;omega
def Dv.self(p:Ex):Dv p p:=⟨1,[1],by decide,λn=>by rw[M9,dM];unfold RM.up;split<;>simp[dL]⟩
def gj(b:Bool)(P A:Ex):Dv P (aX b P A):=by
 cases b with
 |true=>exact Dv.mul_left _ _
 |false=>exact Dv.self P
def uP{b:Bool}(hb:b=true)(P A:Ex):Dv A (aX b P A):=by rw[hb];exact Dv.mul_right _ _
noncomputable def zdL(b1 b2 b3:Bool)(lt lb o:Int)(low:Rat)(B A:List (Rat×Rat))(due:Ex):List ((Rat×Rat)×Ex) :=
 (if b2 then[((-(o:Rat)-1/48,-(o:Rat)),[o,1])]else[])++(B.map (λz=>(z,due))++((if b1 then[((low-1/48,low),[-lt,lb])]else[])++(A.map (λz=>(z,due))++(if b3 then[(((o:Rat)-3/2,(o:Rat)-1),fqL o),(((o:Rat)+1,(o:Rat)+3/2),fqL o)]else[]))))
def pL(b1 b2 b3:Bool)(lt lb o:Int)(low:Rat)(B A:List (Rat×Rat))(due:Ex):(zdL b1 b2 b3 lt lb o low B A due).map Prod.fst=ozL b2 [(-(o:Rat)-1/48,-(o:Rat))]++(B++(ozL b1 [(low-1/48,low)]++(A++ozL b3 [((o:Rat)-3/2,(o:Rat)-1),((o:Rat)+1,(o:Rat)+3/2)]))):=by
 have m:∀l:List (Rat×Rat),(l.map λz=>(z,due)).map Prod.fst=l:=λl=>by rw[NP];show l.map (λz=>z)=l;exact List.map_id' l
 unfold zdL;simp only[Nc,m];cases b1<;>cases b2<;>cases b3<;>rfl
structure Sit(K:Ex)(B A:List (Rat×Rat))(low high far:Rat):Prop where
 fac:Fac K (B++A)
 sB:Srt (1/48) B
 sA:Srt (1/48) A
 hB:∀z∈B,-far-5<=z.1/\z.2+1/48<=low-1/48
 hA:∀z∈A,low+1/48<=z.1/\z.2<=far+5
 lo : -far-5<=low/\low<=far+5
 hi:∃z A',A=z::A'/\z.2<=high/\(∀z'∈A',high<=z'.1)/\high<=far+5
 nl:pv K low≠0
 nN:∀o:Int,far+20<=(o:Rat)->pv K (-(o:Rat))≠0
 bQ:∀o:Int,far+20<=(o:Rat)->Bz (fqL o) K
 pf:0<=far
def yv{t n:Int}(hn:0<n)(hg:Nat.gcd t.natAbs n.natAbs=1):Pln [t,n]:=⟨tr2 hn,by simp,by
 show Nat.gcd (Nat.gcd 0 t.natAbs) n.natAbs=1
 rw[OH];exact hg,hn⟩
def yu(o:Int):Pln (fqL o):=⟨tr3 (by decide),by simp[fqL],by
 show Nat.gcd (Nat.gcd (Nat.gcd 0 _) _) (1:Int).natAbs=1
 exact Nat.gcd_one_right _,by show(0:Int)<1;decide⟩
def uo(o:Int)(r:Rat):pv (fqL o) r≠0:=λz=>by
 unfold fqL at z
 rw[iX]at z;exact(cH (d:=2) (by decide)) (r-(o:Rat)) (by rw[c2];grind)
structure Big(F G:Ex)(zd:List ((Rat×Rat)×Ex))(dq:Ex)(low high:Rat):Prop where
 tF:Tr F
 nF:F≠[]
 eG:G=au F
 flt:Flt G
 st:St (λ_=>True) (vw G) (zd.map Prod.fst)
 srt:Srt (1/48) (zd.map Prod.fst)
 due:∀p∈zd,Due G p.1 p.2
 lt:low<high
 at':∃z,(z,dq)∈zd/\vw G low=vw G z.1/\vw G high=vw G z.2
def Sit.big{K due:Ex}{B A:List (Rat×Rat)}{low high far:Rat}(S:Sit K B A low high far){c lt lb o k:Int}(b1 b2 b3 b4:Bool)(hc:c≠0)(hlb:0<lb)(hg:Nat.gcd lt.natAbs lb.natAbs=1)(hlow:((-lt:Int):Rat)+low*(lb:Rat)=0)(ho:far+20<=(o:Rat))(hk:0<k)(kE:b4=true->Bz [k,0,1] K)
 (hl:K.length+(if b1 then 1 else 0)+(if b2 then 1 else 0)+(if b3 then 2 else 0)+(if b4 then 2 else 0)<=9)
 (hD:(due=K/\Pln K/\(K.length=2\/(K.length=3/\∀r,pv K r≠0)))\/(due=au (aw K (bI c b1 b2 b3 b4 lt lb o k))/\(∀r,pv K r≠0)/\Apt K)) :
 Big (aw K (bI c b1 b2 b3 b4 lt lb o k)) (au (aw K (bI c b1 b2 b3 b4 lt lb o k))) (zdL b1 b2 b3 lt lb o low B A due) due low high:=by
 obtain⟨tC,tM,nM,eF,lC⟩:=AF (K:=K) (c:=c) (lt:=lt) (lb:=lb) (o:=o) (k:=k) S.fac.tr S.fac.ne b1 b2 b3 b4 hc hlb;have far0:=S.pf;obtain⟨lo1,lo2⟩:=S.lo
 have o0:0<o:=by
  have:((0:Int):Rat)<(o:Rat):=by rw[show((0:Int):Rat)=0 from rfl];grind
  exact MP.mp this
 have fc:=IQ S.fac b1 b2 b3 b4 hlb hlow o0 hk (by grind) (by grind) S.nl (S.nN o ho) (S.bQ o ho) kE;have srt:=Bg (B:=B) (A:=A) (low:=low) (o:=(o:Rat)) b1 b2 b3 S.sB S.sA (λz hz=>by have:=S.hB z hz;grind) (λz hz=>by have:=S.hA z hz;grind) (by grind) (by grind);have tF:Tr (aw K (bI c b1 b2 b3 b4 lt lb o k)):=gW S.fac.tr tM;have nC:fV K b1 b2 b3 b4 lt lb o k≠[]:=fc.ne
 have nF:aw K (bI c b1 b2 b3 b4 lt lb o k)≠[]:=λz=>by
  have:=dO S.fac.ne nM;rw[z]at this;have:=MR.mpr nM;have:=S.fac.l2;simp at *
  omega
 obtain⟨s,hs,es⟩:=iM tF nF;have lG:(au (aw K (bI c b1 b2 b3 b4 lt lb o k))).length=(fV K b1 b2 b3 b4 lt lb o k).length:=by rw[plain_len,eF,dN]
 have fG:=fc.scale (G:=au (aw K (bI c b1 b2 b3 b4 lt lb o k))) hc hs (λn=>by rw[<- es,eF,bA]) (fY tF) lG;generalize hG:au (aw K (bI c b1 b2 b3 b4 lt lb o k))=G at *
 have flG:Flt G:=fG.flt (by rw[lG,lC];exact hl)
 have st:St (λ_=>True) (vw G) ((zdL b1 b2 b3 lt lb o low B A due).map Prod.fst):=by rw[pL];exact(fG.st flG).perm (Bh B A _ _ _)
 have dP:∀d,Dv d (fV K b1 b2 b3 b4 lt lb o k)->Dv d G:=λd hd=>by
  rw[<- hG,Dv.plain tF,eF]
  exact hd.trans ⟨1,[c],by decide,λn=>by
   rw[M9,bA,dM];unfold RM.up
   split<;>simp[dL]⟩
 have ll:=S.fac.l2;have k9:K.length<=9:=by omega
 have dK:Dv K G:=dP K ((((gj b1 K _).trans (gj b2 _ _)).trans (gj b3 _ _)).trans (gj b4 _ _));have fK:=S.fac.flt k9
 have sBA:Srt (1/48) (B++A):=by
  refine⟨N8.mpr ⟨S.sB.pw,S.sA.pw,λz hz w hw=>?_⟩,λz hz=>?_⟩
  ·have:=S.hB z hz;have:=S.hA w hw;grind
  ·rcases MS.mp hz with e |e
   ·exact S.sB.ok z e
   ·exact S.sA.ok z e
 have e48:(0:Rat)<=1/48:=by grind
 have dueK:∀z∈B++A,Due G z due:=λz hz=>by
  have own:=S.fac.own e48 fK sBA hz;rcases hD with⟨rfl,pK,h⟩ |⟨rfl,nr,ap⟩
  ·exact .inl ⟨pK,fK,dK,own,h⟩
  ·exact .inr ⟨rfl,K,fK,dK,own,nr,ap⟩
 have hN:(o:Rat) + -(o:Rat)*((1:Int):Rat)=0:=by rw[c1];grind
 obtain⟨z0,A',eA,z1,z2,z3⟩:=S.hi;have z0A:z0∈A:=by rw[eA];exact M0 ..
 have low0:=(S.hA z0 z0A).1;have ok0:=S.sA.ok z0 z0A;have srt':Srt (1/48) ((zdL b1 b2 b3 lt lb o low B A due).map Prod.fst):=by rw[pL];exact srt
 refine⟨tF,nF,hG.symm,flG,st,srt',λp hp=>?_,by grind,z0,?_,?_,?_⟩
 ·unfold zdL at hp
  rcases MS.mp hp with e |e
  ·by_cases hb:b2=true
   ·rw[if_pos hb,MH]at e;rw[e];have f:=lX (ε:=1/48) (n:=1) (by decide) hN (by grind);have ff:=f.flt (by show 2<=9;decide);exact .inl ⟨yv (by decide) (by simp),ff,dP _ (((uP hb _ _).trans (gj b3 _ _)).trans (gj b4 _ _)),f.own e48 ff ⟨NY _ _,λz hz=>by rw[MH.mp hz];show -(o:Rat)-1/48 < -(o:Rat);grind⟩ (OZ _),.inl rfl⟩
   ·rw[if_neg hb]at e;exact nomatch e
  rcases MS.mp e with e |e
  ·obtain⟨z,hz,rfl⟩:=M8.mp e;exact dueK z (Ob _ hz)
  rcases MS.mp e with e |e
  ·by_cases hb:b1=true
   ·rw[if_pos hb,MH]at e;rw[e];have f:=lX (ε:=1/48) hlb hlow (by grind);have ff:=f.flt (by show 2<=9;decide);exact .inl ⟨yv hlb (by rw[Ot];exact hg),ff,dP _ ((((uP hb _ _).trans (gj b2 _ _)).trans (gj b3 _ _)).trans (gj b4 _ _)),f.own e48 ff ⟨NY _ _,λz hz=>by rw[MH.mp hz];show low-1/48<low;grind⟩ (OZ _),.inl rfl⟩
   ·rw[if_neg hb]at e;exact nomatch e
  rcases MS.mp e with e |e
  ·obtain⟨z,hz,rfl⟩:=M8.mp e;exact dueK z (Nn _ hz)
  ·by_cases hb:b3=true
   ·rw[if_pos hb]at e;have f:=Af o;have ff:=f.flt (by show 3<=9;decide)
    have sf:Srt (1/48) [((o:Rat)-3/2,(o:Rat)-1),((o:Rat)+1,(o:Rat)+3/2)]:=⟨Np.mpr ⟨λw hw=>by rw[MH.mp hw];show(o:Rat)-1+1/48<=(o:Rat)+1;grind,NY _ _⟩,λz hz=>by
     rcases MG.mp hz with e |e
     ·rw[e];show(o:Rat)-3/2<(o:Rat)-1;grind
     ·rw[MH.mp e];show(o:Rat)+1<(o:Rat)+3/2;grind⟩
    have dq:Dv (fqL o) G:=dP _ ((uP hb _ _).trans (gj b4 _ _));rcases MG.mp e with e |e
    ·rw[e];exact .inl ⟨yu o,ff,dq,f.own e48 ff sf (M0 ..),.inr ⟨rfl,uo o⟩⟩
    ·rw[MH.mp e];exact .inl ⟨yu o,ff,dq,f.own e48 ff sf (MV _ (OZ _)),.inr ⟨rfl,uo o⟩⟩
   ·rw[if_neg hb]at e;exact nomatch e
 ·unfold zdL;exact Nn _ (Nn _ (Nn _ (Ob _ (M8.mpr ⟨z0,z0A,rfl⟩))))
 all_goals
  have m48:∀z∈ozL b2 [(-(o:Rat)-1/48,-(o:Rat))]++(B++ozL b1 [(low-1/48,low)]),z.1<z.2/\z.2<=low:=λz hz=>by
   rcases MS.mp hz with e |e
   ·unfold ozL at e
    split at e
    ·rw[MH.mp e];exact⟨by show -(o:Rat)-1/48 < -(o:Rat);grind,by show -(o:Rat)<=low;grind⟩
    ·exact nomatch e
   rcases MS.mp e with e |e
   ·have:=S.hB z e;exact⟨S.sB.ok z e,by grind⟩
   ·unfold ozL at e
    split at e
    ·rw[MH.mp e];exact⟨by show low-1/48<low;grind,ME⟩
    ·exact nomatch e
  have q48:∀{x:Rat},x<=far+5->∀z∈ozL b3 [((o:Rat)-3/2,(o:Rat)-1),((o:Rat)+1,(o:Rat)+3/2)],x<=z.1:=λ{x} hx z hz=>by
   unfold ozL at hz
   split at hz
   ·rcases MG.mp hz with e |e
    ·rw[e];show x<=(o:Rat)-3/2;grind
    ·rw[MH.mp e];show x<=(o:Rat)+1;grind
   ·exact nomatch hz
  have pw:∀z'∈A',z0.2+1/48<=z'.1:=by have:=S.sA.pw;rw[eA]at this;exact(Np.mp this).1
  have hA0:=(S.hA z0 z0A).2
  have es:(zdL b1 b2 b3 lt lb o low B A due).map Prod.fst=(ozL b2 [(-(o:Rat)-1/48,-(o:Rat))]++(B++ozL b1 [(low-1/48,low)]))++([z0]++(A'++ozL b3 [((o:Rat)-3/2,(o:Rat)-1),((o:Rat)+1,(o:Rat)+3/2)])):=by rw[pL,eA];simp only[Os,List.cons_append,OL]
  rw[es]at st
 ·have key:∀x,low<=x->x<=z0.1->bT _ x=_/\Out _ x:=λx x1 x2=>AD (pre:=ozL b2 [(-(o:Rat)-1/48,-(o:Rat))]++(B++ozL b1 [(low-1/48,low)])) (post:=[z0]++(A'++ozL b3 [((o:Rat)-3/2,(o:Rat)-1),((o:Rat)+1,(o:Rat)+3/2)])) (λz hz=>⟨(m48 z hz).1,MX (m48 z hz).2 x1⟩) λz hz=>by
   rcases MS.mp hz with e |e
   ·rw[MH.mp e];exact x2
   rcases MS.mp e with e |e
   ·have:=pw z e;grind
   ·exact q48 (by grind) z e
  obtain⟨k1,k2⟩:=key low ME (by grind);obtain⟨k3,k4⟩:=key z0.1 (by grind) ME;have:=st low z0.1 trivial trivial k2 k4;omega
 ·rw[<- Os]at st
  have key:∀x,z0.2<=x->(∀z'∈A',x<=z'.1)->x<=far+5->bT _ x=_/\Out _ x:=λx x1 x2 x3=>AD (pre:=(ozL b2 [(-(o:Rat)-1/48,-(o:Rat))]++(B++ozL b1 [(low-1/48,low)]))++[z0]) (post:=A'++ozL b3 [((o:Rat)-3/2,(o:Rat)-1),((o:Rat)+1,(o:Rat)+3/2)]) (λz hz=>by
   rcases MS.mp hz with e |e
   ·have:=m48 z e;exact⟨this.1,by grind⟩
   ·rw[MH.mp e];exact⟨ok0,x1⟩) λz hz=>by
   rcases MS.mp hz with e |e
   ·exact x2 z e
   ·exact q48 x3 z e
  obtain⟨k1,k2⟩:=key high z1 z2 z3;obtain⟨k3,k4⟩:=key z0.2 ME (λz hz=>by have:=pw z hz;grind) hA0;have:=st high z0.2 trivial trivial k2 k4;omega
def kj{w x X:Rat}(hw:1<=w)(hX:0<=X)(h : -X<=w*x) : -X<=x:=Nj.mp λz=>by have:=MJ (show 0<=w-1 by grind) (show 0 <= -x by grind);grind
def km{w x X:Rat}(hw:1<=w)(hX:0<=X)(h:w*x<=X):x<=X:=Nj.mp λz=>by have:=MJ (show 0<=w-1 by grind) (show 0<=x by grind);grind
def fC{w x y g:Rat}(hw:0<w)(hw2:w<=12)(hg:0<=g)(h:g<=w*y-w*x):x+g/12<=y:=Nj.mp λz=>by
 by_cases q:y<=x
 ·have:=MZ q (MF hw);have g0:g=0:=by grind
  have e:w*(x-y)=0:=by grind
  rcases MQ.mp e with r |r
  ·grind
  ·grind
 ·have:=MJ (show 0<=12-w by grind) (show 0<=y-x by grind);grind
def jn{w x y:Rat}(hw:0<w)(h:w*x<=w*y):x<=y:=Nj.mp λz=>by have:=NI z hw;grind
def CS{d:Int}(h:d∈[2,3,5,6,7,10,11,13]):∃s t:Rat,1<=s/\s<t/\s*s<(d:Rat)/\(d:Rat)<t*t/\t+1/4<=(d:Rat):=by
 have k:∀n:Int,∀q:Rat,(n:Rat)=q->∀s t:Rat,1<=s->s<t->s*s<q->q<t*t->t+1/4<=q->∃s t:Rat,1<=s/\s<t/\s*s<(n:Rat)/\(n:Rat)<t*t/\t+1/4<=(n:Rat):=λn q e s t h1 h2 h3 h4 h5=>⟨s,t,h1,h2,by rw[e];exact h3,by rw[e];exact h4,by rw[e];exact h5⟩
 simp only[MG,MT,or_false]at h;rcases h with rfl |rfl |rfl |rfl |rfl |rfl |rfl |rfl
 ·exact k 2 2 rfl 1 (7/4) (by grind) (by grind) (by grind) (by grind) (by grind)
 ·exact k 3 3 rfl 1 (7/4) (by grind) (by grind) (by grind) (by grind) (by grind)
 ·exact k 5 5 rfl 2 3 (by grind) (by grind) (by grind) (by grind) (by grind)
 ·exact k 6 6 rfl 2 3 (by grind) (by grind) (by grind) (by grind) (by grind)
 ·exact k 7 7 rfl 2 3 (by grind) (by grind) (by grind) (by grind) (by grind)
 ·exact k 10 10 rfl 3 4 (by grind) (by grind) (by grind) (by grind) (by grind)
 ·exact k 11 11 rfl 3 4 (by grind) (by grind) (by grind) (by grind) (by grind)
 ·exact k 13 13 rfl 3 4 (by grind) (by grind) (by grind) (by grind) (by grind)
def CY{c:Int}(h:c∈[2,3,5,6,7,10]):∃s t:Rat,1<=s/\s<t/\s*s*s<(c:Rat)/\(c:Rat)<t*t*t/\t+1/2<=(c:Rat):=by
 have k:∀n:Int,∀q:Rat,(n:Rat)=q->∀s t:Rat,1<=s->s<t->s*s*s<q->q<t*t*t->t+1/2<=q->∃s t:Rat,1<=s/\s<t/\s*s*s<(n:Rat)/\(n:Rat)<t*t*t/\t+1/2<=(n:Rat):=λn q e s t h1 h2 h3 h4 h5=>⟨s,t,h1,h2,by rw[e];exact h3,by rw[e];exact h4,by rw[e];exact h5⟩
 simp only[MG,MT,or_false]at h;rcases h with rfl |rfl |rfl |rfl |rfl |rfl
 ·exact k 2 2 rfl 1 (3/2) (by grind) (by grind) (by grind) (by grind) (by grind)
 ·exact k 3 3 rfl 1 (3/2) (by grind) (by grind) (by grind) (by grind) (by grind)
 ·exact k 5 5 rfl 1 (5/2) (by grind) (by grind) (by grind) (by grind) (by grind)
 ·exact k 6 6 rfl 1 (5/2) (by grind) (by grind) (by grind) (by grind) (by grind)
 ·exact k 7 7 rfl 1 (5/2) (by grind) (by grind) (by grind) (by grind) (by grind)
 ·exact k 10 10 rfl 1 (5/2) (by grind) (by grind) (by grind) (by grind) (by grind)
def Bz.plain{Q l:Ex}(tl:Tr l)(nl:l≠[])(h:Bz Q l):Bz Q (au l):=by
 obtain⟨s,hs,es⟩:=iM tl nl;have s0:(s:Rat)≠0:=cN hs;have ei:1/(s:Rat)*(s:Rat)=1:=MN s0;have i0:1/(s:Rat)≠0:=λz=>by rw[z,Rat.zero_mul]at ei;exact absurd ei (by decide)
 refine(Bz.scale i0 (λx=>?_) h.symm).symm;have:=dg (a:=au l) (c:=l) (u:=s) x es;rw[this,<- Rat.mul_assoc,ei,NX]
def Fac.plain{l:Ex}{zs:List (Rat×Rat)}(h:Fac l zs):Fac (au l) zs:=by obtain⟨s,hs,es⟩:=iM h.tr h.ne;exact h.scale (a:=1) (by decide) hs (λn=>by rw[<- es,M9]) (fY h.tr) (plain_len l)
def nR{l:Ex}(tl:Tr l)(nl:l≠[]){x:Rat}(h:pv l x≠0):pv (au l) x≠0:=λz=>by obtain⟨s,hs,es⟩:=iM tl nl;have:=dg (a:=au l) (c:=l) (u:=s) x es;rw[z,Rat.mul_zero]at this;exact h this
def yn{u v w d:Int}(hd:Nsq d)(hv:v≠0)(r:Rat):pv (qdL u v w d) r≠0:=λz=>by rw[sQ]at z;exact hd.mul (a:=(v:Rat)) (b:=(w:Rat)*r-(u:Rat)) (cN hv) (by grind)
def zj{d:Int}(h:d∈[2,3,5,6,7,10,11,13]):Nsq d:=cH (by
 simp only[MG,MT,or_false]at h ⊢
 omega)
def jq{δ:Rat}{z:Rat×Rat}(h:z.1<z.2):Srt δ [z]:=⟨NY _ _,λy hy=>by rw[MH.mp hy];exact h⟩
def mL{δ:Rat}:Srt δ []:=⟨List.Pairwise.nil,λy hy=>nomatch hy⟩
def Cg{δ:Rat}{z y:Rat×Rat}(h1:z.1<z.2)(h2:y.1<y.2)(h:z.2+δ<=y.1):Srt δ [z,y]:=⟨Np.mpr ⟨λw hw=>by rw[MH.mp hw];exact h,NY _ _⟩,λx hx=>by
 rcases MG.mp hx with e |e
 ·rw[e];exact h1
 ·rw[MH.mp e];exact h2⟩
def Cs{u v w d:Int}{far:Rat}(hw:1<=w)(hw2:w<=12)(hv:v≠0)(hd:d∈[2,3,5,6,7,10,11,13]){U a:Rat}(hU:0<=U)(uU:Bd U (u:Rat))(ha:1<=a)(av:(0<v/\a=(v:Rat))\/(v<0/\a = -(v:Rat)))(hf:far=U+a*(d:Rat)){low high:Rat}(hl:(w:Rat)*low=if 0<v then(u:Rat)else(u:Rat)+(v:Rat)*(d:Rat))(hh:(w:Rat)*high=if 0<v then(u:Rat)+(v:Rat)*(d:Rat)else(u:Rat)) :
 ∃B A,Sit (au (qdL u v w d)) B A low high far/\B.length=(if 0<v then 1 else 0)/\A.length=(if 0<v then 1 else 2):=by
 obtain⟨s,t,s1,st,h1,h2,td⟩:=CS hd;have w1:(1:Rat)<=(w:Rat):=by have:=Nh.mpr hw;exact this
 have w0:(0:Rat)<(w:Rat):=by grind
 have w12:(w:Rat)<=12:=by have:=Nh.mpr hw2;exact this
 have ew:∀x:Rat,(w:Rat)*(x/(w:Rat))=x:=λx=>by rw[Rat.mul_comm];exact MN (by grind)
 obtain⟨a1,e1⟩:∃a1,(w:Rat)*a1=(u:Rat)-a*t:=⟨_,ew _⟩;obtain⟨b1,e2⟩:∃b1,(w:Rat)*b1=(u:Rat)-a*s:=⟨_,ew _⟩;obtain⟨a2,e3⟩:∃a2,(w:Rat)*a2=(u:Rat)+a*s:=⟨_,ew _⟩;obtain⟨b2,e4⟩:∃b2,(w:Rat)*b2=(u:Rat)+a*t:=⟨_,ew _⟩;have fac:=IP (u:=u) (v:=v) (w:=w) (d:=d) (by omega) hv (show 0<s by grind) st h1 h2 (show 0<a by grind) (av.imp (λz=>z.2) λz=>z.2) e1 e2 e3 e4;have p1:a<=a*s:=by have:=MJ (show 0<=a by grind) (show 0<=s-1 by grind);grind
 have p2:a*s<a*t:=NI st (by grind)
 have p3:a*t+1/4<=a*(d:Rat):=by have:=MJ (show 0<=a by grind) (show 0<=(d:Rat)-t-1/4 by grind);grind
 obtain⟨u1,u2⟩:=uU;have tq:Tr (qdL u v w d):=fac.tr;have nq:qdL u v w d≠[]:=fac.ne
 have g1:a1<b1:=by have:=fC w0 w12 (g:=a*t-a*s) (x:=a1) (y:=b1) (by grind) (by grind);grind
 have g2:a2<b2:=by have:=fC w0 w12 (g:=a*t-a*s) (x:=a2) (y:=b2) (by grind) (by grind);grind
 have g3:b1+1/48<=a2:=by have:=fC w0 w12 (g:=2) (x:=b1) (y:=a2) (by grind) (by grind);grind
 have l1 : -far<=a1:=kj w1 (by grind) (by grind);have l2:b2<=far:=km w1 (by grind) (by grind);have nr:∀r,pv (au (qdL u v w d)) r≠0:=λr=>nR tq nq (yn (zj hd) hv r)
 have bq:∀o:Int,far+20<=(o:Rat)->Bz (fqL o) (au (qdL u v w d)):=λo ho=>by refine Bz.plain tq nq (JY (w:=(w:Rat)) (u:=(u:Rat)) (D:=(d:Rat)*((v:Rat)*(v:Rat))) (κ:=1) (by decide) w0 ?_ (iX o) λx=>by rw[sQ,NX]);have:=MJ (show 0<=(w:Rat)-1 by grind) (show 0<=(o:Rat) by grind);grind
 rcases av with⟨vp,va⟩ |⟨vp,va⟩
 ·rw[if_pos vp]at hl hh
  have m1:b1+1/48<=low-1/48:=by have:=fC w0 w12 (g:=1) (x:=b1) (y:=low) (by grind) (by grind);grind
  have m2:low+1/48<=a2:=by have:=fC w0 w12 (g:=1) (x:=low) (y:=a2) (by grind) (by grind);grind
  have m3:b2<=high:=jn w0 (by rw[e4,hh,<- va];grind);have m4:high<=far:=km w1 (by grind) (by rw[hh,<- va];grind);refine⟨[(a1,b1)],[(a2,b2)],⟨fac.plain,jq g1,jq g2,λz hz=>?_,λz hz=>?_,⟨by grind,by grind⟩,⟨(a2,b2),[],rfl,m3,(λz hz=>nomatch hz),by grind⟩,nr low,λo _=>nr _,bq,by grind⟩,by rw[if_pos vp];rfl,by rw[if_pos vp];rfl⟩
  ·rw[MH.mp hz];exact⟨by show -far-5<=a1;grind,m1⟩
  ·rw[MH.mp hz];exact⟨m2,by show b2<=far+5;grind⟩
 ·have vn:¬0<v:=by omega
  rw[if_neg vn]at hl hh;have va':(v:Rat) = -a:=by grind
  rw[va']at hl
  have m1:low+1/48<=a1:=by have:=fC w0 w12 (g:=1/4) (x:=low) (y:=a1) (by grind) (by rw[e1,hl];grind);grind
  have m2:b1<=high:=jn w0 (by rw[e2,hh];grind);have m3:high<=a2:=jn w0 (by rw[e3,hh];grind);have m4 : -far<=low:=kj w1 (by grind) (by rw[hl];grind);refine⟨[],[(a1,b1),(a2,b2)],⟨fac.plain,mL,Cg g1 g2 g3,(λz hz=>nomatch hz),λz hz=>?_,⟨by grind,by grind⟩,⟨(a1,b1),[(a2,b2)],rfl,m2,λz hz=>by rw[MH.mp hz];exact m3,by grind⟩,nr low,λo _=>nr _,bq,by grind⟩,by rw[if_neg vn];rfl,by rw[if_neg vn];rfl⟩;rcases MG.mp hz with e |e
  ·rw[e];exact⟨m1,by show b1<=far+5;grind⟩
  ·rw[MH.mp e];exact⟨by show low+1/48<=a2;grind,by show b2<=far+5;grind⟩
def Ct{u w:Int}{far:Rat}(hw:1<=w)(hw2:w<=12)(uU:Bd far (u:Rat)){low high:Rat}(hl:(w:Rat)*low=(u:Rat)-1)(hh:(w:Rat)*high=(u:Rat))(hf:0<=far) :
 Sit (au [-u,w]) [] [(high-1/48,high)] low high far:=by
 have w1:(1:Rat)<=(w:Rat):=by have:=Nh.mpr hw;exact this
 have w0:(0:Rat)<(w:Rat):=by grind
 have w12:(w:Rat)<=12:=by have:=Nh.mpr hw2;exact this
 obtain⟨u1,u2⟩:=uU;have hr:((-u:Int):Rat)+high*(w:Rat)=0:=by rw[NE];grind
 have fac:=lX (ε:=1/48) (t := -u) (n:=w) (by omega) hr (by grind);have l1 : -far<=high:=kj w1 (by grind) (by grind);have l2:high<=far:=km w1 (by grind) (by grind);have l3:=fC w0 w12 (g:=1) (x:=low) (y:=high) (by grind) (by grind)
 have l4:high<=low+1:=by refine jn w0 ?_;grind
 refine⟨fac.plain,mL,jq (by show high-1/48<high;grind),(λz hz=>nomatch hz),λz hz=>?_,⟨by grind,by grind⟩,⟨_,[],rfl,ME,(λz hz=>nomatch hz),by grind⟩,?_,λo ho=>?_,λo ho=>?_,by grind⟩
 ·rw[MH.mp hz];exact⟨by show low+1/48<=high-1/48;grind,by show high<=far+5;grind⟩
 ·exact nR fac.tr fac.ne (ua (by omega) hr (by grind))
 ·exact nR fac.tr fac.ne (ua (by omega) hr (by grind))
 ·exact Bz.plain fac.tr fac.ne (vm (by omega) hr (uo o high)).symm
def Cu{u v w c:Int}{far:Rat}(hw:1<=w)(hw2:w<=12)(hv:v≠0)(hc:c∈[2,3,5,6,7,10]){U a:Rat}(hU:0<=U)(uU:Bd U (u:Rat))(ha:1<=a)(av:(0<v/\a=(v:Rat))\/(v<0/\a = -(v:Rat)))(hf:far=U+a*(c:Rat)){low high:Rat}(hl:(w:Rat)*low=if 0<v then(u:Rat)else(u:Rat)+(v:Rat)*(c:Rat))(hh:(w:Rat)*high=if 0<v then(u:Rat)+(v:Rat)*(c:Rat)else(u:Rat)) :
 ∃z,Sit (cbL u v w c) [] [z] low high far/\(∀r,pv (cbL u v w c) r≠0)/\Apt (cbL u v w c)/\∀k:Int,0<k->Bz [k,0,1] (cbL u v w c):=by
 obtain⟨s,t,s1,st,h1,h2,td⟩:=CY hc;have w1:(1:Rat)<=(w:Rat):=by have:=Nh.mpr hw;exact this
 have w0:(0:Rat)<(w:Rat):=by grind
 have w12:(w:Rat)<=12:=by have:=Nh.mpr hw2;exact this
 have ew:∀x:Rat,(w:Rat)*(x/(w:Rat))=x:=λx=>by rw[Rat.mul_comm];exact MN (by grind)
 have p1:a<=a*s:=by have:=MJ (show 0<=a by grind) (show 0<=s-1 by grind);grind
 have p2:a*s<a*t:=NI st (by grind)
 have p3:a*t+1/2<=a*(c:Rat):=by have:=MJ (show 0<=a by grind) (show 0<=(c:Rat)-t-1/2 by grind);grind
 obtain⟨u1,u2⟩:=uU;have v0:(v:Rat)≠0:=cN hv;have he:∀ρ:Rat,ρ*ρ*ρ≠(c:Rat)*((v:Rat)*(v:Rat)*(v:Rat)):=λρ z=>(Gq hc).mul v0 z
 have nr:=Gn (K:=cbL u v w c) he (jb u v w c);have ap:=Ke (K:=cbL u v w c) (show(w:Rat)≠0 by grind) he (jb u v w c);have bE:∀k:Int,0<k->Bz [k,0,1] (cbL u v w c):=λk hk=>J2 (MP.mpr hk) (show(w:Rat)≠0 by grind) he (my k) (jb u v w c)
 have bq:∀o:Int,far+20<=(o:Rat)->Bz (fqL o) (cbL u v w c):=λo _=>J0 w0 (iX o) (jb u v w c)
 rcases av with⟨vp,va⟩ |⟨vp,va⟩
 ·rw[if_pos vp]at hl hh;obtain⟨x,ex⟩:∃x,(w:Rat)*x=(u:Rat)+(v:Rat)*s:=⟨_,ew _⟩;obtain⟨y,ey⟩:∃y,(w:Rat)*y=(u:Rat)+(v:Rat)*t:=⟨_,ew _⟩;have fac:=Ag (u:=u) (v:=v) (w:=w) (c:=c) (by omega) hv (show 0<s by grind) st h1 h2 (.inl ⟨vp,ex,ey⟩);rw[<- va]at ex ey hh
  have g1:x<y:=by have:=fC w0 w12 (g:=a*t-a*s) (x:=x) (y:=y) (by grind) (by grind);grind
  have m1:low+1/48<=x:=by have:=fC w0 w12 (g:=1) (x:=low) (y:=x) (by grind) (by grind);grind
  have m2:y<=high:=jn w0 (by rw[ey,hh];grind);have m3:high<=far:=km w1 (by grind) (by rw[hh];grind);have m4 : -far<=low:=kj w1 (by grind) (by rw[hl];grind);refine⟨(x,y),⟨fac,mL,jq g1,(λz hz=>nomatch hz),λz hz=>?_,⟨by grind,by grind⟩,⟨_,[],rfl,m2,(λz hz=>nomatch hz),by grind⟩,nr low,λo _=>nr _,bq,by grind⟩,nr,ap,bE⟩;rw[MH.mp hz];exact⟨m1,by show y<=far+5;grind⟩
 ·have vn:¬0<v:=by omega
  rw[if_neg vn]at hl hh;obtain⟨x,ex⟩:∃x,(w:Rat)*x=(u:Rat)+(v:Rat)*t:=⟨_,ew _⟩;obtain⟨y,ey⟩:∃y,(w:Rat)*y=(u:Rat)+(v:Rat)*s:=⟨_,ew _⟩;have fac:=Ag (u:=u) (v:=v) (w:=w) (c:=c) (by omega) hv (show 0<s by grind) st h1 h2 (.inr ⟨vp,ex,ey⟩);have va':(v:Rat) = -a:=by grind
  rw[va']at ex ey hl
  have g1:x<y:=by have:=fC w0 w12 (g:=a*t-a*s) (x:=x) (y:=y) (by grind) (by grind);grind
  have m1:low+1/48<=x:=by have:=fC w0 w12 (g:=1/2) (x:=low) (y:=x) (by grind) (by grind);grind
  have m2:y<=high:=jn w0 (by rw[ey,hh];grind);have m3:high<=far:=km w1 (by grind) (by rw[hh];grind);have m4 : -far<=low:=kj w1 (by grind) (by rw[hl];grind);refine⟨(x,y),⟨fac,mL,jq g1,(λz hz=>nomatch hz),λz hz=>?_,⟨by grind,by grind⟩,⟨_,[],rfl,m2,(λz hz=>nomatch hz),by grind⟩,nr low,λo _=>nr _,bq,by grind⟩,nr,ap,bE⟩;rw[MH.mp hz];exact⟨m1,by show y<=far+5;grind⟩
def iA{u a b:Int}{U far low high j k m A B':Rat}(eA:(a:Rat)=A)(eB:(b:Rat)=B')(na:Nsq a)(nb:Nsq b)(nab:Nsq (a*b))(hab:a≠b)(ha:0<a)(hb:0<b)(hU:0<=U)(uU:Bd U (u:Rat))(hf:far=U+A+B')(hl:low=(u:Rat)+m)(hh:high=(u:Rat)+A+B')(h5:5<=A+B')(h12:A+B'<=12)(ij:1/4<j)(jk:j+1<=k)(kl:k<5)(jm:j+1/2<=m)(mk:m+1/48<=k)(js:j*j<=A+B')(ks:A+B'<=k*k)(vi:4*(A*B')<(1/4*(1/4)-(A+B'))*(1/4*(1/4)-(A+B')))(vj:(j*j-(A+B'))*(j*j-(A+B'))<4*(A*B'))(vk:(k*k-(A+B'))*(k*k-(A+B'))<4*(A*B'))(vl:4*(A*B')<(5*5-(A+B'))*(5*5-(A+B'))) :
 ∃B z,Sit (qrL u a b) B [z] low high far/\B.length=3/\(∀r,pv (qrL u a b) r≠0)/\Apt (qrL u a b):=by
 subst eA eB;have fac:=IN (u:=u) (i:=1/4) (l:=5) hab ha hb (by grind) ij (show j<k by grind) kl js ks vi vj vk vl;have nr:=Gm (K:=qrL u a b) nab (kZ u a b);obtain⟨u1,u2⟩:=uU;refine⟨[((u:Rat)-5,(u:Rat)-k),((u:Rat)-j,(u:Rat)-1/4),((u:Rat)+1/4,(u:Rat)+j)],((u:Rat)+k,(u:Rat)+5),⟨fac,⟨?_,?_⟩,jq (by show(u:Rat)+k<(u:Rat)+5;grind),λz hz=>?_,λz hz=>?_,⟨by grind,by grind⟩,⟨_,[],rfl,by show(u:Rat)+5<=high;grind,(λz hz=>nomatch hz),by grind⟩,nr _,λo _=>nr _,λo ho=>?_,by grind⟩,rfl,nr,Kd na nb nab (kZ u a b)⟩
 ·refine Np.mpr ⟨λw hw=>?_,Np.mpr ⟨λw hw=>?_,NY _ _⟩⟩
  ·rcases MG.mp hw with e |e
   ·rw[e];show(u:Rat)-k+1/48<=(u:Rat)-j;grind
   ·rw[MH.mp e];show(u:Rat)-k+1/48<=(u:Rat)+1/4;grind
  ·rw[MH.mp hw];show(u:Rat)-1/4+1/48<=(u:Rat)+1/4;grind
 ·intro z hz;simp only[MG,MT,or_false]at hz;rcases hz with e |e |e<;>rw[e]
  ·show(u:Rat)-5<(u:Rat)-k;grind
  ·show(u:Rat)-j<(u:Rat)-1/4;grind
  ·show(u:Rat)+1/4<(u:Rat)+j;grind
 ·simp only[MG,MT,or_false]at hz;rcases hz with e |e |e<;>rw[e]
  ·exact⟨by show -far-5<=(u:Rat)-5;grind,by show(u:Rat)-k+1/48<=low-1/48;grind⟩
  ·exact⟨by show -far-5<=(u:Rat)-j;grind,by show(u:Rat)-1/4+1/48<=low-1/48;grind⟩
  ·exact⟨by show -far-5<=(u:Rat)+1/4;grind,by show(u:Rat)+j+1/48<=low-1/48;grind⟩
 ·rw[MH.mp hz];exact⟨by show low+1/48<=(u:Rat)+k;grind,by show(u:Rat)+5<=far+5;grind⟩
 ·refine JZ (s:=(a:Rat)+(b:Rat)) (show 0<(o:Rat)-(u:Rat) by grind) ?_ (iX o) (kZ u a b);have:=MJ (show 0<=(o:Rat)-(u:Rat)-20 by grind) (show 0<=(o:Rat)-(u:Rat) by grind);grind
def Cr{u a b:Int}(hp:(a,b)∈[((2:Int),(3:Int)),(2,5),(3,5),(2,7),(3,7),(5,7),(2,6)]){U far low high:Rat}(hU:0<=U)(uU:Bd U (u:Rat))(hf:far=U+(a:Rat)+(b:Rat))(hl:low=(u:Rat)+(if b=3 then 1 else 2))(hh:high=(u:Rat)+(a:Rat)+(b:Rat)) :
 ∃B z,Sit (qrL u a b) B [z] low high far/\B.length=3/\(∀r,pv (qrL u a b) r≠0)/\Apt (qrL u a b):=by
 simp only[MG,MT,or_false,Prod.mk.injEq]at hp;rcases hp with⟨rfl,rfl⟩ |⟨rfl,rfl⟩ |⟨rfl,rfl⟩ |⟨rfl,rfl⟩ |⟨rfl,rfl⟩ |⟨rfl,rfl⟩ |⟨rfl,rfl⟩
 ·exact iA (A:=2) (B':=3) (j:=1/2) (k:=3) (m:=1) rfl rfl (cH (by decide)) (cH (by decide)) (cH (by decide)) (by decide) (by decide) (by decide) hU uU hf hl hh (by grind) (by grind) (by grind) (by grind) (by grind) (by grind) (by grind) (by grind) (by grind) (by grind) (by grind) (by grind) (by grind)
 ·exact iA (A:=2) (B':=5) (j:=3/2) (k:=3) (m:=2) rfl rfl (cH (by decide)) (cH (by decide)) (cH (by decide)) (by decide) (by decide) (by decide) hU uU hf hl hh (by grind) (by grind) (by grind) (by grind) (by grind) (by grind) (by grind) (by grind) (by grind) (by grind) (by grind) (by grind) (by grind)
 ·exact iA (A:=3) (B':=5) (j:=3/2) (k:=3) (m:=2) rfl rfl (cH (by decide)) (cH (by decide)) (cH (by decide)) (by decide) (by decide) (by decide) hU uU hf hl hh (by grind) (by grind) (by grind) (by grind) (by grind) (by grind) (by grind) (by grind) (by grind) (by grind) (by grind) (by grind) (by grind)
 ·exact iA (A:=2) (B':=7) (j:=3/2) (k:=3) (m:=2) rfl rfl (cH (by decide)) (cH (by decide)) (cH (by decide)) (by decide) (by decide) (by decide) hU uU hf hl hh (by grind) (by grind) (by grind) (by grind) (by grind) (by grind) (by grind) (by grind) (by grind) (by grind) (by grind) (by grind) (by grind)
 ·exact iA (A:=3) (B':=7) (j:=3/2) (k:=4) (m:=2) rfl rfl (cH (by decide)) (cH (by decide)) (cH (by decide)) (by decide) (by decide) (by decide) hU uU hf hl hh (by grind) (by grind) (by grind) (by grind) (by grind) (by grind) (by grind) (by grind) (by grind) (by grind) (by grind) (by grind) (by grind)
 ·exact iA (A:=5) (B':=7) (j:=3/2) (k:=4) (m:=2) rfl rfl (cH (by decide)) (cH (by decide)) (cH (by decide)) (by decide) (by decide) (by decide) hU uU hf hl hh (by grind) (by grind) (by grind) (by grind) (by grind) (by grind) (by grind) (by grind) (by grind) (by grind) (by grind) (by grind) (by grind)
 ·exact iA (A:=2) (B':=6) (j:=3/2) (k:=3) (m:=2) rfl rfl (cH (by decide)) (cH (by decide)) (cH (by decide)) (by decide) (by decide) (by decide) hU uU hf hl hh (by grind) (by grind) (by grind) (by grind) (by grind) (by grind) (by grind) (by grind) (by grind) (by grind) (by grind) (by grind) (by grind)
def J4{K:Ex}{c lt lb o k:Int}{M L:Nat}(b1 b2 b3 b4:Bool)(hK:∀n,(cf K n).natAbs<=M)(hc:c.natAbs<=30)(h1:lt.natAbs+lb.natAbs<=L)(h2:o.natAbs+2<=L)(h3:k.natAbs<=9)(n:Nat):(cf (aM c (fV K b1 b2 b3 b4 lt lb o k)) n).natAbs<=30*(10*(L*L*(L*(L*M)))):=by
 have L1:1<=L:=by omega
 have s1:d9 [-lt,lb]<=L:=by show(-lt).natAbs+(lb.natAbs+0)<=L;rw[Ot];omega
 have s2:d9 [o,1]<=L:=by show o.natAbs+(1+0)<=L;omega
 have s4:d9 [k,0,1]<=10:=by show k.natAbs+(0+(1+0))<=10;omega
 have s3:d9 (fqL o)<=L*L:=by
  show(o*o-2).natAbs+((-2*o).natAbs+(1+0))<=L*L;have e1:=OA (o*o) 2;rw[MW]at e1;have e2:(-2*o).natAbs=2*o.natAbs:=by rw[MW];rfl
  have e3:=N9 h2 h2;have e4:(o.natAbs+2)*(o.natAbs+2)=o.natAbs*o.natAbs+4*o.natAbs+4:=by grind
  have e5:(2:Int).natAbs=2:=rfl;omega
 have k1:=lf b1 hK s1 L1;have k2:=lf b2 k1 s2 L1;have k3:=lf b3 k2 s3 (N9 L1 L1);have k4:=lf b4 k3 s4 (by decide) n;rw[bA,MW];exact N9 hc k4
def DL(L B w:Rat):L*(2*(2*B)*w)=w*(8*L*B)/2:=by grind
def Ch{G q:Ex}(hG:Pln G)(hq:Pln q)(fq:Flt q)(h3:q.length=3)(d:Dv q G){x1 y1 x2 y2 B M:Rat}(hB:1<=B)(l1:x1<y1)(l2:x2<y2)(o1:vw q x1-vw q y1=1)(o2:vw q x2-vw q y2=1)(ne:vw q y2≠vw q y1)
 (bx1:Bd (2*B) x1) (by1:Bd (2*B) y1) (bx2:Bd (2*B) x2) (by2:Bd (2*B) y2) (w1:(y1-x1)*(8*(ao G:Rat)*B)<=1) (w2:(y2-x2)*(8*(ao G:Rat)*B)<=1) (c1:x1*x2<=M) (c2:x1*y2<=M) (c3:y1*x2<=M) (c4:y1*y2<=M) (is:M=x1*x2\/M=x1*y2\/M=y1*x2\/M=y1*y2) :
 ∃a s p:Int,q=au [p,s,ao G]/\ao G=a*ao q/\(p:Rat)<=(ao G:Rat)*M/\(ao G:Rat)*M<(p:Rat)+1/\((-s:Int):Rat)<=(ao G:Rat)*(y1+y2)/\(ao G:Rat)*(y1+y2)<((-s:Int):Rat)+1:=by
 obtain⟨a,ha,ea,_⟩:=zu hq hG d;obtain⟨q0,q1,q2,rfl⟩:=lE h3;have hp:0<q2:=hq.pos;have ea':ao G=a*q2:=ea;have Q0:(0:Rat)<(q2:Rat):=MP.mpr hp;have A0:(0:Rat)<(a:Rat):=MP.mpr ha;have L0:(0:Rat)<(ao G:Rat):=MP.mpr hG.pos;have LB:0<8*(ao G:Rat)*B:=ML (by grind) (by grind);have we:1/(8*(ao G:Rat)*B)*(8*(ao G:Rat)*B)=1:=MN (by grind)
 have key : -(q1:Rat)/(q2:Rat)<=y1+y2/\y1+y2-2*(1/(8*(ao G:Rat)*B)) <= -(q1:Rat)/(q2:Rat)/\(q0:Rat)/(q2:Rat)<=M/\M-2*(2*B)*(1/(8*(ao G:Rat)*B))<=(q0:Rat)/(q2:Rat):=by
  have v1:y1-x1<=1/(8*(ao G:Rat)*B):=fI LB (by rw[we];exact w1);have v2:y2-x2<=1/(8*(ao G:Rat)*B):=fI LB (by rw[we];exact w2);rcases Int.lt_or_gt_of_ne ne with z |z
  ·exact wL fq hp l1 l2 o1 o2 z bx1 by1 bx2 by2 v1 v2 c1 c2 c3 c4 is
  ·have:=wL fq hp l2 l1 o2 o1 z bx2 by2 bx1 by1 v2 v1 (by grind) (by grind) (by grind) (by grind) (M:=M) (by
    rcases is with e |e |e |e
    ·exact .inl (by grind)
    ·exact .inr (.inr (.inl (by grind)))
    ·exact .inr (.inl (by grind))
    ·exact .inr (.inr (.inr (by grind))))
   obtain⟨t1,t2,t3,t4⟩:=this;exact⟨by grind,by grind,t3,t4⟩
 obtain⟨k1,k2,k3,k4⟩:=key;have eS : -(q1:Rat)/(q2:Rat)*(q2:Rat) = -(q1:Rat):=MN (by grind);have eP:(q0:Rat)/(q2:Rat)*(q2:Rat)=(q0:Rat):=MN (by grind);refine⟨a,a*q1,a*q0,?_,ea,?_,?_,?_,?_⟩
 ·have:[a*q0,a*q1,ao G]=aM a [q0,q1,q2]:=by rw[ea'];rfl
  rw[this,ld (by omega) hq.tr,hq.plain]
 all_goals
  have eL:(ao G:Rat)=(a:Rat)*(q2:Rat):=by rw[ea',MD]
  generalize 1/(8*(ao G:Rat)*B)=w at *
  generalize -(q1:Rat)/(q2:Rat)=S at *
  generalize (q0:Rat)/(q2:Rat)=P at *
  generalize (ao G:Rat)=L at *
 ·have t:=MZ k3 (MF L0);rw[MD,<- eP,x8,<- eL];exact t
 ·have t:=MZ k4 (MF L0);rw[MD,<- eP,x8,<- eL];rw[DK,DL,we]at t;exact DJ t (by decide +kernel)
 ·rw[NE,MD];have e1 : -((a:Rat)*(q1:Rat))=L*S:=by rw[eL];grind
  rw[e1];exact MZ k1 (MF L0)
 ·rw[NE,MD];have e1 : -((a:Rat)*(q1:Rat))=L*S:=by rw[eL];grind
  rw[e1];have:=MZ k2 (MF L0)
  have p1:=MJ (MJ (MF L0) (show 0<=w by
   have:=Nj.mp λz:w<0=>by have:=NB z LB;grind
   exact this)) (show 0<=B-1 by grind)
  grind
def Dz{G:Ex}(fG:Flt G)(pG:Pln G){kb:Nat}(hB:∀c∈G.take (G.length-1),c.natAbs<=(2^kb-1)*(ao G).natAbs):Rts (pv G) (vw G) (vw G (-(2^kb))) (vw G (-(2^kb))-vw G (2^kb))/\(∀x:Rat,x <= -(2^kb)->pv G x≠0)/\∀x:Rat,2^kb<=x->pv G x≠0:=by
 have nG:=pG.ne;have l0:ao G≠0:=by have:=pG.pos;omega
 obtain⟨r,x,rfl⟩:=(dz G).resolve_left nG;have et:(r++[x]).take ((r++[x]).length-1)=r:=by simp
 rw[et,fS]at hB;rw[fS]at l0;obtain⟨f1,f2⟩:=Ac l0 hB;have sx:aj (x:Rat)≠0:=sg_ne.mpr (cN l0);have b0:(0:Rat)<2^kb:=N7 (by decide);have C:=fG.cnt
 have n1:∀y:Rat,y <= -(2^kb)->pv (r++[x]) y≠0:=λy hy=>sg_ne.mp (by
  rw[f2 y hy];split
  ·rw[M9];exact sx
  ·omega)
 have n2:∀y:Rat,2^kb<=y->pv (r++[x]) y≠0:=λy hy=>sg_ne.mp (by rw[f1 y hy];exact sx)
 refine⟨⟨C,2^kb,b0,λy hy=>⟨?_,n1 y hy⟩,λy hy=>⟨?_,n2 y hy⟩⟩,n1,n2⟩
 ·exact C.keep hy λz z1 z2=>f2 z z2
 ·have:=C.keep hy λz z1 z2=>f1 z z1
  omega
def Bi{f:Rat->Rat}{V:Rat->Int}(C:Cnt f V){zs:List (Rat×Rat)}{δ:Rat}(hδ:0<=δ)(st:St (λ_=>True) V zs)(hS:Srt δ zs){l h:Rat}(o:V l-V h=1):∃(j:Nat) (z:Rat×Rat),zs[j]?=some z/\V l=V z.1/\V h=V z.2:=by
 obtain⟨x,x1,x2⟩:=uG zs l;obtain⟨y,y1,y2⟩:=Ad zs h;obtain⟨c0,o0⟩:=oV x2;obtain⟨c1,o1⟩:=uX λz hz=>⟨hS.ok z hz,y2 z hz⟩
 have e:=st x y trivial trivial o0 o1;have m1:=C.le x1;have m2:=C.le y1;obtain⟨j,hj⟩:∃j:Nat,V x-V l=j:=⟨(V x-V l).toNat,by omega⟩;have hjl:j<zs.length:=by omega
 have ej:=List.getElem?_eq_getElem hjl;obtain⟨a,b,oa,ob⟩:=hS.at hδ (V:=V) j _ ej;have ea:=st x _ trivial trivial o0 oa;have eb:=st x _ trivial trivial o0 ob;exact⟨j,zs[j],ej,by omega,by omega⟩
def e48:(0:Rat)<=1/48:=by grind
section
variable {F G:Ex}{zd:List ((Rat×Rat)×Ex)}{dq:Ex}{low high:Rat}
def Big.few(h:Big F G zd dq low high)(x y:Rat)(hxy:x<y)(hd:y-x<1/48):vw G x<=vw G y+1:=St.few h.flt.cnt (by grind) h.srt h.st hxy hd
def Big.cop(h:Big F G zd dq low high):Cop2 F (slopeL F):=λd dn dt h1 h2=>by
 obtain⟨s,hs,es⟩:=iM h.tF h.nF;have g1:Dv d G:=by rw[h.eG];exact(Dv.plain h.tF).mpr h1
 refine h.flt.cop d dn dt g1 ?_;refine Dv.prop_right (p:=slopeL F) (x:=s) (y:=1) hs (λn=>?_) h2;rw[d6,d6,h.eG,es (n+1)];grind
def Big.tell(h:Big F G zd dq low high){l r:Rat}(lt:l<r)(o:vw G l-vw G r=1){p:Ex}(L:LS G l r p):∃e∈zd,p=e.2:=by obtain⟨j,z,ez,e1,e2⟩:=Bi h.flt.cnt e48 h.st h.srt o;rw[List.getElem?_map]at ez;obtain⟨e,he,rfl⟩:=Option.map_eq_some_iff.mp ez;have hm:=List.mem_of_getElem? he;exact⟨e,hm,uQ h.flt (h.due e hm) lt e1 e2 o L⟩
def Big.one(h:Big F G zd dq low high):vw G low-vw G high=1:=by obtain⟨z,hm,e1,e2⟩:=h.at';have hz:z∈zd.map Prod.fst:=M8.mpr ⟨_,hm,rfl⟩;obtain⟨j,hj,ej⟩:=OS.mp hz;obtain⟨a,b,oa,ob⟩:=h.srt.at e48 (V:=vw G) j z (by rw[<- ej];exact List.getElem?_eq_getElem hj);have:=h.st z.1 z.2 trivial trivial oa ob;omega
def Big.main(h:Big F G zd dq low high){l r:Rat}(lt:l<r)(e1:vw G l=vw G low)(e2:vw G r=vw G high){p:Ex}(L:LS G l r p):p=dq:=by obtain⟨z,hm,a,b⟩:=h.at';have:=h.one;exact uQ h.flt (h.due _ hm) lt (e1.trans a) (e2.trans b) (by omega) L
def Big.nth(h:Big F G zd dq low high){B:Rat}(hB:∀x,x <= -B->vw G x=vw G (-B)){j:Nat}{e:(Rat×Rat)×Ex}(he:zd[j]?=some e){l r:Rat}(lt:l<r)(o1:vw G (-B)-vw G l=j)(o2:vw G (-B)-vw G r=j+1){p:Ex}(L:LS G l r p):p=e.2:=by
 have ez:(zd.map Prod.fst)[j]?=some e.1:=by rw[List.getElem?_map,he];rfl
 obtain⟨a,b⟩:=Bj e48 h.st h.srt hB ez;exact uQ h.flt (h.due e (List.mem_of_getElem? he)) lt (by omega) (by omega) (by omega) L
def Big.all(h:Big F G zd dq low high){B:Rat}(hB:∀x,x <= -B->vw G x=vw G (-B))(hB':∀x,B<=x->vw G x=vw G B):vw G (-B)-vw G B=zd.length:=by have:=Bk h.st h.srt hB hB';rw[MC]at this;exact this
end
def Jo{f:Rat->Rat}{V:Rat->Int}(C:Cnt f V){l h:Rat}(lt:l<h)(o:V l-V h=1)(hl:f l≠0):aj (f h)≠aj (f l):=λz=>by
 by_cases hh:f h=0
 ·rw[hh]at z;exact sg_ne.mpr hl z.symm
 ·have:=C.cross lt o hl hh;have n:=sg_ne.mpr hl;omega
noncomputable def aI(x:Int):Int:=if x<0 then -x else x
def pC(x:Int):0<=aI x/\Bd ((aI x:Int):Rat) (x:Rat):=by
 have h:0<=aI x /\ -aI x<=x/\x<=aI x:=by unfold aI;split<;>omega
 refine⟨h.1,?_,?_⟩
 ·have:=Nh.mpr h.2.1
  rwa [NE]at this
 ·exact Nh.mpr h.2.2
def A8{v:Int}(hv:v≠0):(1:Rat)<=((aI v:Int):Rat)/\((0<v/\((aI v:Int):Rat)=(v:Rat))\/(v<0/\((aI v:Int):Rat) = -(v:Rat))):=by
 refine⟨Nh.mpr (show(1:Int)<=aI v by unfold aI;split<;>omega),?_⟩;rcases Int.lt_or_gt_of_ne hv with z |z
 ·exact .inr ⟨z,by unfold aI;rw[if_pos z,NE]⟩
 ·exact .inl ⟨z,by unfold aI;rw[if_neg (by omega)]⟩
structure KS(kind v:Int)(K:Ex)(low high:Rat)(far:Int):Prop where
 ex:∃B A,Sit K B A low high (far:Rat)/\B.length=(if kind=1 then 3 else if kind=0/\0<v then 1 else 0)/\A.length=(if kind=0/\v<0 then 2 else 1)
 k0:kind=0->Pln K/\(K.length=2\/(K.length=3/\∀r,pv K r≠0))
 k1:kind≠0->(∀r,pv K r≠0)/\Apt K
 kE:2<=kind->∀k:Int,0<k->Bz [k,0,1] K
 len:K.length<=(if kind=0 then 3 else if kind=1 then 5 else 4)
 hg:∃M L:Nat,(∀n,(cf K n).natAbs<=M)/\far+71<=(L:Int)/\30*(10*(L*L*(L*(L*M))))<2^100
 fr:0<=far/\far<=14000
def oX{l:Ex}{M:Nat}(h:∀x∈l,x.natAbs<=M)(n:Nat):(cf l n).natAbs<=M:=by
 by_cases hn:n<l.length
 ·rw[dR hn];exact h _ (NM hn)
 ·rw[cC (by omega)];exact MK _
def yw{l:Ex}{M:Nat}(tl:Tr l)(nl:l≠[])(h:∀n,(cf l n).natAbs<=M)(n:Nat):(cf (au l) n).natAbs<=M:=by obtain⟨s,hs,es⟩:=iM tl nl;have h1:=h n;rw[es n,MW]at h1;exact MU (N5 _ (N3.mpr hs)) h1
def ck{x:Int}{N:Nat}(h:x.natAbs<=N){y:Int}{M:Nat}(h2:y.natAbs<=M):(x*y).natAbs<=N*M:=by rw[MW];exact N9 h h2
def G7{u v w d far:Int}(hu : -1000<=u/\u<=1000)(hv' : -1000<=v/\v<=1000)(hw:1<=w)(hw2:w<=12)(hv:v≠0)(hd:d∈[2,3,5,6,7,10,11,13])(hf:far=aI u+aI v*d){low high:Rat}(hl:(w:Rat)*low=if 0<v then(u:Rat)else(u:Rat)+(v:Rat)*(d:Rat))(hh:(w:Rat)*high=if 0<v then(u:Rat)+(v:Rat)*(d:Rat)else(u:Rat)):KS 0 v (au (qdL u v w d)) low high far:=by
 obtain⟨u0,uB⟩:=pC u;obtain⟨a1,av⟩:=A8 hv;have d13:2<=d/\d<=13:=by simp only[MG,MT,or_false]at hd;omega
 have hU:(0:Rat)<=((aI u:Int):Rat):=Nh.mpr u0;obtain⟨B,A,S,lB,lA⟩:=Cs hw hw2 hv hd hU uB a1 av (far:=(far:Rat)) (by rw[hf,Ni,MD]) hl hh;have tq:Tr (qdL u v w d):=tr3 (Na (by omega) (by omega));have nq:qdL u v w d≠[]:=by simp[qdL]
 have av':aI v<=1000/\aI u<=1000/\0<=aI v:=by unfold aI;split<;>split<;>omega
 have fb:aI v*d<=1000*13:=Oj av'.1 d13.2 (by omega) (by decide);have f0:0<=aI v*d:=Nz av'.2.2 (by omega);refine⟨⟨B,A,S,?_,?_⟩,λ_=>⟨gE tq nq,.inr ⟨by rw[plain_len];rfl,λr=>nR tq nq (yn (zj hd) hv r)⟩⟩,λz=>absurd rfl z,λz=>absurd z (by decide),by rw[plain_len];show 3<=3;decide,⟨14000000,14100,yw tq nq (oX λx hx=>?_),by omega,by decide⟩,by omega,by omega⟩
 ·rw[lB,if_neg (show ¬(0:Int)=1 by decide)];by_cases z:0<v
  ·rw[if_pos z,if_pos ⟨rfl,z⟩]
  ·rw[if_neg z,if_neg λy=>z y.2]
 ·rw[lA];by_cases z:0<v
  ·rw[if_pos z,if_neg (by omega)]
  ·rw[if_neg z,if_pos ⟨rfl,by omega⟩]
 ·have nu:u.natAbs<=1000:=by omega
  have nv:v.natAbs<=1000:=by omega
  have nw:w.natAbs<=12:=by omega
  have nd:d.natAbs<=13:=by omega
  simp only[qdL,MG,MT,or_false]at hx;rcases hx with rfl |rfl |rfl
  ·have h1:=ck nu nu;have h2:=ck (ck nd nv) nv;have h3:=OA (u*u) (d*v*v);omega
  ·have h1:=ck (ck (show(-2:Int).natAbs<=2 by decide) nu) nw;omega
  ·have:=ck nw nw;omega
def G8{u w far:Int}(hu : -1000<=u/\u<=1000)(hw:1<=w)(hw2:w<=12)(hf:far=aI u){low high:Rat}(hl:(w:Rat)*low=(u:Rat)-1)(hh:(w:Rat)*high=(u:Rat)):KS 0 0 (au [-u,w]) low high far:=by
 obtain⟨u0,uB⟩:=pC u;have hU:(0:Rat)<=((aI u:Int):Rat):=Nh.mpr u0;have S:=Ct hw hw2 uB hl hh hU;rw[<- hf]at S;have tq:Tr [-u,w]:=tr2 (by omega);have nq:[-u,w]≠[]:=by simp
 have av':aI u<=1000:=by unfold aI;split<;>omega
 refine⟨⟨_,_,S,rfl,rfl⟩,λ_=>⟨gE tq nq,.inl (by rw[plain_len];rfl)⟩,λz=>absurd rfl z,λz=>absurd z (by decide),by rw[plain_len];show 2<=3;decide,⟨1000,14100,yw tq nq (oX λx hx=>?_),by omega,by decide⟩,by omega,by omega⟩;simp only[MG,MT,or_false]at hx;rcases hx with rfl |rfl<;>omega
def G9{kind u v w c far:Int}(hk:2<=kind)(hu : -1000<=u/\u<=1000)(hv' : -1000<=v/\v<=1000)(hw:1<=w)(hw2:w<=12)(hv:v≠0)(v0:Int)(hc:c∈[2,3,5,6,7,10])(hf:far=aI u+aI v*c){low high:Rat}(hl:(w:Rat)*low=if 0<v then(u:Rat)else(u:Rat)+(v:Rat)*(c:Rat))(hh:(w:Rat)*high=if 0<v then(u:Rat)+(v:Rat)*(c:Rat)else(u:Rat)):KS kind v0 (cbL u v w c) low high far:=by
 obtain⟨u0,uB⟩:=pC u;obtain⟨a1,av⟩:=A8 hv;have c10:2<=c/\c<=10:=by simp only[MG,MT,or_false]at hc;omega
 have hU:(0:Rat)<=((aI u:Int):Rat):=Nh.mpr u0;obtain⟨z,S,nr,ap,bE⟩:=Cu hw hw2 hv hc hU uB a1 av (far:=(far:Rat)) (by rw[hf,Ni,MD]) hl hh;have av':aI v<=1000/\aI u<=1000/\0<=aI v:=by unfold aI;split<;>split<;>omega
 have fb:aI v*c<=1000*10:=Oj av'.1 c10.2 (by omega) (by decide);have f0:0<=aI v*c:=Nz av'.2.2 (by omega);refine⟨⟨_,_,S,?_,?_⟩,λz=>absurd z (by omega),λ_=>⟨nr,ap⟩,λ_=>bE,?_,⟨11000000000,11100,oX λx hx=>?_,by omega,by decide⟩,by omega,by omega⟩
 ·rw[if_neg (by omega),if_neg (by omega)];rfl
 ·rw[if_neg (by omega)];rfl
 ·rw[if_neg (by omega),if_neg (by omega)];show 4<=4;decide
 ·have nu:u.natAbs<=1000:=by omega
  have nv:v.natAbs<=1000:=by omega
  have nw:w.natAbs<=12:=by omega
  have nc:c.natAbs<=10:=by omega
  simp only[cbL,MG,MT,or_false]at hx;rcases hx with rfl |rfl |rfl |rfl
  ·have h1:=ck (ck (show(-u).natAbs<=1000 by omega) nu) nu;have h2:=ck (ck (ck nc nv) nv) nv;have h3:=OA (-u*u*u) (c*v*v*v);omega
  ·have:=ck (ck (ck (show(3:Int).natAbs<=3 by decide) nu) nu) nw;omega
  ·have:=ck (ck (ck (show(-3:Int).natAbs<=3 by decide) nu) nw) nw;omega
  ·have:=ck (ck nw nw) nw;omega
def G6{u a b far:Int}(v0:Int)(hu : -1000<=u/\u<=1000)(hp:(a,b)∈[((2:Int),(3:Int)),(2,5),(3,5),(2,7),(3,7),(5,7),(2,6)])(hf:far=aI u+a+b){low high:Rat}(hl:low=(u:Rat)+(if b=3 then 1 else 2))(hh:high=(u:Rat)+(a:Rat)+(b:Rat)):KS 1 v0 (qrL u a b) low high far:=by
 obtain⟨u0,uB⟩:=pC u;have hU:(0:Rat)<=((aI u:Int):Rat):=Nh.mpr u0;obtain⟨B,z,S,lB,nr,ap⟩:=Cr hp hU uB (far:=(far:Rat)) (by rw[hf,Ni,Ni]) hl hh;have av':aI u<=1000:=by unfold aI;split<;>omega
 have ab:(2<=a/\a<=5)/\3<=b/\b<=7:=by simp only[MG,MT,or_false,Prod.mk.injEq]at hp;omega
 refine⟨⟨B,_,S,by rw[lB,if_pos rfl],?_⟩,λz=>absurd z (by decide),λ_=>⟨nr,ap⟩,λz=>absurd z (by decide),by show 5<=5;decide,⟨1100000000000,1100,oX λx hx=>?_,by omega,by decide⟩,by omega,by omega⟩
 ·rw[if_neg (by omega)];rfl
 ·have nu:u.natAbs<=1000:=by omega
  have na:a.natAbs<=5:=by omega
  have nb:b.natAbs<=7:=by omega
  have n2:(-2*u).natAbs<=2000:=by omega
  have uu:=ck nu nu
  have ns:(u*u-a-b).natAbs<=1000012:=by have h1:=OA (u*u-a) b;have h2:=OA (u*u) a;omega
  simp only[qrL,MG,MT,or_false]at hx;rcases hx with rfl |rfl |rfl |rfl |rfl
  ·have h1:=ck ns ns;have h2:=ck (ck (show(4:Int).natAbs<=4 by decide) na) nb;have h3:=OA ((u*u-a-b)*(u*u-a-b)) (4*a*b);omega
  ·have h1:=ck (show(2:Int).natAbs<=2 by decide) (ck ns n2);omega
  ·have h1:=ck (show(2:Int).natAbs<=2 by decide) ns;have h2:=ck (ck (show(4:Int).natAbs<=4 by decide) nu) nu;have h3:=Int.natAbs_add_le (2*(u*u-a-b)) (4*u*u);omega
  ·omega
  ·decide
noncomputable def d5(kind:Int)(K F:Ex):Ex:=if kind=0 then K else au F
def vD{l:Ex}{N:Nat}(h:∀n,(cf l n).natAbs<N):∀x∈l,x.natAbs<N:=λx hx=>by obtain⟨n,_,rfl⟩:=tY hx;exact h n
def KS.big{kind v:Int}{K:Ex}{low high:Rat}{far:Int}(S:KS kind v K low high far)(kk:0<=kind){c lt lb o k:Int}(b1 b2 b3 b4:Bool)(hc:c≠0)(hc':c.natAbs<=30)(hlb:0<lb)(hg:Nat.gcd lt.natAbs lb.natAbs=1)(hlow:((-lt:Int):Rat)+low*(lb:Rat)=0)(ho1:far+20<=o)(ho2:o<=far+69)(hk:0<k)(hk9:k<=9)(hlt:(lt.natAbs:Int)+lb<=far+71)(h4:b4=true->2<=kind/\b1=false) :
 ∃B A,Big (aw K (bI c b1 b2 b3 b4 lt lb o k)) (au (aw K (bI c b1 b2 b3 b4 lt lb o k))) (zdL b1 b2 b3 lt lb o low B A (d5 kind K (aw K (bI c b1 b2 b3 b4 lt lb o k)))) (d5 kind K (aw K (bI c b1 b2 b3 b4 lt lb o k))) low high/\B.length=(if kind=1 then 3 else if kind=0/\0<v then 1 else 0)/\A.length=(if kind=0/\v<0 then 2 else 1)/\(aw K (bI c b1 b2 b3 b4 lt lb o k)).length<=9/\(∀x∈aw K (bI c b1 b2 b3 b4 lt lb o k),x.natAbs<2^100)/\∀e∈zdL b1 b2 b3 lt lb o low B A (d5 kind K (aw K (bI c b1 b2 b3 b4 lt lb o k))),(∀x∈e.2,x.natAbs<2^100)/\e.2.length<=9:=by
 obtain⟨B,A,T,lB,lA⟩:=S.ex;obtain⟨M,L,hM,hL,hb⟩:=S.hg;obtain⟨f0,f14⟩:=S.fr;have len:=S.len
 have hl:K.length+(if b1 then 1 else 0)+(if b2 then 1 else 0)+(if b3 then 2 else 0)+(if b4 then 2 else 0)<=9:=by
  by_cases z4:b4=true
  ·obtain⟨k2,z1⟩:=h4 z4;rw[if_neg (by omega),if_neg (by omega)]at len;rw[z1,z4];cases b2<;>cases b3<;>simp<;>omega
  ·have:b4=false:=by cases b4<;>simp_all
   rw[this];have l5:K.length<=5:=by split at len<;>(try split at len)<;>omega
   cases b1<;>cases b2<;>cases b3<;>simp<;>omega
 obtain⟨tC,tM,nM,eF,lC⟩:=AF (K:=K) (c:=c) (lt:=lt) (lb:=lb) (o:=o) (k:=k) T.fac.tr T.fac.ne b1 b2 b3 b4 hc hlb;have lF:(aw K (bI c b1 b2 b3 b4 lt lb o k)).length<=9:=by rw[eF,dN,lC];exact hl
 have hF:∀x∈aw K (bI c b1 b2 b3 b4 lt lb o k),x.natAbs<2^100:=vD λn=>by rw[eF];exact Nu (J4 (L:=L) b1 b2 b3 b4 hM hc' (by omega) (by omega) (by omega) n) hb
 have tF:Tr (aw K (bI c b1 b2 b3 b4 lt lb o k)):=gW T.fac.tr tM
 have nF:aw K (bI c b1 b2 b3 b4 lt lb o k)≠[]:=λz=>by
  have:=dO T.fac.ne nM;rw[z]at this;have:=MR.mpr nM;have:=T.fac.l2;simp at *
  omega
 have hG:∀x∈au (aw K (bI c b1 b2 b3 b4 lt lb o k)),x.natAbs<2^100:=vD λn=>by
  obtain⟨s,hs,es⟩:=iM tF nF
  have h1:(cf (aw K (bI c b1 b2 b3 b4 lt lb o k)) n).natAbs<2^100:=by
   by_cases hn:n<(aw K (bI c b1 b2 b3 b4 lt lb o k)).length
   ·exact hF _ (by rw[dR hn];exact NM hn)
   ·rw[cC (by omega)];decide
  rw[es n,MW]at h1;exact Nu (N5 _ (N3.mpr hs)) h1
 have hKb:∀x∈K,x.natAbs<2^100:=vD λn=>by
  refine Nu (hM n) (Nu ?_ hb);have L1:1<=L:=by omega
  have h1:1*M<=L*(L*M):=by rw[<- Nat.mul_assoc];exact NJ _ (N9 L1 L1)
  have h2:1*(L*(L*M))<=L*L*(L*(L*M)):=NJ _ (N9 L1 L1);omega
 have big:=T.big (due:=d5 kind K (aw K (bI c b1 b2 b3 b4 lt lb o k))) b1 b2 b3 b4 hc hlb hg hlow (by
  have:=Nh.mpr ho1;rw[Ni]at this;exact this) hk (λhb=>S.kE (h4 hb).1 k hk) hl (by
  unfold d5;by_cases z:kind=0
  ·rw[if_pos z];exact .inl ⟨rfl,S.k0 z⟩
  ·rw[if_neg z];exact .inr ⟨rfl,S.k1 z⟩)
 refine⟨B,A,big,lB,lA,lF,hF,λe he=>?_⟩
 have hdue:(∀x∈d5 kind K (aw K (bI c b1 b2 b3 b4 lt lb o k)),x.natAbs<2^100)/\(d5 kind K (aw K (bI c b1 b2 b3 b4 lt lb o k))).length<=9:=by
  unfold d5;split
  ·exact⟨hKb,by omega⟩
  ·exact⟨hG,by rw[plain_len];exact lF⟩
 have h14:14100<2^100:=by decide
 unfold zdL at he
 rcases MS.mp he with e1 |e1
 ·split at e1
  ·rw[MH.mp e1];refine⟨λx hx=>?_,by show 2<=9;decide⟩;simp only[MG,MT,or_false]at hx;rcases hx with rfl |rfl
   ·omega
   ·decide
  ·exact nomatch e1
 rcases MS.mp e1 with e1 |e1
 ·obtain⟨z,_,rfl⟩:=M8.mp e1;exact hdue
 rcases MS.mp e1 with e1 |e1
 ·split at e1
  ·rw[MH.mp e1];refine⟨λx hx=>?_,by show 2<=9;decide⟩;simp only[MG,MT,or_false]at hx;rcases hx with rfl |rfl
   ·rw[Ot];omega
   ·omega
  ·exact nomatch e1
 rcases MS.mp e1 with e1 |e1
 ·obtain⟨z,_,rfl⟩:=M8.mp e1;exact hdue
 ·have hq:(∀x∈fqL o,x.natAbs<2^100)/\(fqL o).length<=9:=by
   refine⟨λx hx=>?_,by show 3<=9;decide⟩;have no:o.natAbs<=14100:=by omega
   have h1:=ck no no;have h2:(2:Nat)^30<2^100:=by decide
   simp only[fqL,MG,MT,or_false]at hx;rcases hx with rfl |rfl |rfl
   ·have:=OA (o*o) 2;have e2:(2:Int).natAbs=2:=rfl;have:(2:Nat)^30=1073741824:=by decide
    omega
   ·omega
   ·decide
  split at e1
  ·rcases MG.mp e1 with e1 |e1
   ·rw[e1];exact hq
   ·rw[MH.mp e1];exact hq
  ·exact nomatch e1
end RM
open PySem.W in
local macro_rules | `(tactic|walk_at "comp_ok")=>`(tactic|exact⟨by with_unfolding_all rfl,by decide +kernel,rfl,by decide +kernel,by repeat' (first |exact List.forall_mem_nil _ |refine List.forall_mem_cons.2 ⟨rfl,?_⟩),by rfl,by repeat' (first |exact .nil |refine .cons ⟨rfl,by first |exact Or.inl rfl |exact Or.inr rfl,rfl⟩ ?_)⟩)
namespace R50
open PySem L2 RM
noncomputable def top(i:Nat):Stmt:=PySem.Challenge.pw_rootspan_k50_least_polynomials.main.body.getD i (.Pass ⟨0,0,0,0⟩)
abbrev qU:Stmt:=top 10
abbrev qT:Stmt:=top 11
abbrev qJ:Stmt:=top 12
abbrev jG:Stmt:=iU (top 13) 0
abbrev sk:Stmt:=iU (top 13) 1
abbrev sr:Stmt:=iU (top 13) 2
abbrev sj:Stmt:=iU (top 13) 3
abbrev sC:Stmt:=iU (top 13) 5
abbrev ss:Stmt:=iU (top 13) 7
abbrev q9:Stmt:=top 15
abbrev rG:Stmt:=top 16
abbrev rP:Stmt:=top 17
abbrev qM:Stmt:=top 18
abbrev rK:Stmt:=top 19
abbrev rg:Stmt:=top 20
abbrev qR:Stmt:=top 21
abbrev ni:Stmt:=top 22
abbrev rc:Stmt:=top 23
abbrev qK:Stmt:=top 24
abbrev qS:Stmt:=top 25
abbrev rF:Stmt:=top 27
abbrev qV:Stmt:=top 28
abbrev rm:Stmt:=top 29
abbrev qW:Stmt:=top 31
abbrev qX:Stmt:=top 32
abbrev rL:Stmt:=top 33
abbrev rH:Stmt:=top 34
abbrev rN:Stmt:=top 36
abbrev rM:Stmt:=top 37
abbrev rj:Stmt:=top 38
abbrev rf:Stmt:=top 39
abbrev rB:Stmt:=top 40
abbrev qN:Stmt:=top 41
abbrev rC:Stmt:=top 42
abbrev qP:Stmt:=top 43
abbrev rh:Stmt:=top 44
abbrev rO:Stmt:=top 45
abbrev rE:Stmt:=top 47
abbrev rJ:Stmt:=top 48
abbrev rd:Stmt:=top 49
abbrev qI:Stmt:=top 50
abbrev qQ:Stmt:=top 52
abbrev rz:Stmt:=top 54
abbrev rD:Stmt:=top 55
abbrev rq:Stmt:=top 56
abbrev qO:Stmt:=top 57
abbrev qL:Stmt:=top 58
abbrev sD:Stmt:=iU (top 61) 0
abbrev jF:Stmt:=top 62
abbrev qZ:Stmt:=top 63
abbrev q8:Stmt:=top 64
abbrev rk:Stmt:=top 65
abbrev re:Stmt:=top 66
abbrev qY:Stmt:=top 67
abbrev nj:Stmt:=top 69
abbrev rR:Stmt:=top 70
abbrev se:Stmt:=top 71
abbrev rZ:Stmt:=top 72
abbrev r6:Stmt:=top 73
abbrev r9:Stmt:=top 74
abbrev rT:Stmt:=top 75
abbrev sh:Stmt:=top 76
abbrev rQ:Stmt:=top 77
abbrev rW:Stmt:=top 78
abbrev rV:Stmt:=top 79
abbrev sd:Stmt:=top 80
abbrev rX:Stmt:=top 81
abbrev r8:Stmt:=top 82
abbrev si:Stmt:=top 83
abbrev rS:Stmt:=top 84
abbrev rY:Stmt:=top 85
abbrev rA:Stmt:=top 86
def aJ{N P:List Str}{sc:Scope}(a:sc.kind=.function:=by rfl)(b:sc.isCoroutine=false:=by rfl)(c:sc.isGenerator=false:=by rfl)(e:N.Nodup:=by decide +kernel)(f:N.take P.length=P:=by rfl)(g:∀x∈P,sc.names.lookup x=some .local\/sc.names.lookup x=some .cell:=by decide +kernel)(h:∀y∈sc.names,y.2≠.free:=by decide +kernel):FnScope N P sc:=⟨a,b,c,e,f,g,h⟩
def mX:FnScope ["row","divisor","value"] ["row"] (aC qU):=aJ
def jy:FnScope ["one","other","greater","less","rest"] ["one","other"] (aC qT):=aJ
def CV:FnScope ["value"] ["value"] (aC qJ):=aJ
def qH:FnScope ["self","top","bottom","divisor"] ["self","top","bottom"] (aC jG):=aJ
def Dq:FnScope ["self","other"] ["self","other"] (aC sk):=aJ
def Dr:FnScope ["self","other"] ["self","other"] (aC sr):=aJ
def Dp:FnScope ["self","other"] ["self","other"] (aC sj):=aJ
def Dt:FnScope ["self","other"] ["self","other"] (aC sC):=aJ
def Ds:FnScope ["self"] ["self"] (aC ss):=aJ
def qE:FnScope ["row","length"] ["row"] (aC q9):=aJ
def Dh:FnScope ["row"] ["row"] (aC rG):=aJ
def xU:FnScope ["first","second","length"] ["first","second"] (aC rP):=aJ
def xN:FnScope ["first","second","length"] ["first","second"] (aC qM):=aJ
def Dj:FnScope ["row","place"] ["row","place"] (aC rK):=aJ
def jz:FnScope ["first","second","product","j","one","k","other"] ["first","second"] (aC rg):=aJ
def CZ:FnScope ["row"] ["row"] (aC qR):=aJ
def xO:FnScope ["row","divisor"] ["row"] (aC ni):=aJ
def xR:FnScope ["row","small"] ["row"] (aC rc):=aJ
def jw:FnScope ["row","top","bottom","above","below","value"] ["row","top","bottom"] (aC qK):=aJ
def C4:FnScope ["row","ratio"] ["row","ratio"] (aC qS):=aJ
def eV:FnScope ["first","second","size","sign","steps","factor","quotient","rest","place","lead"] ["first","second"] (aC rF):=aJ
def Da:FnScope ["row","factor"] ["row","factor"] (aC qV):=aJ
def m8:FnScope ["row","second","place","lead","kept","k","value"] ["row","second","place","lead"] (aC rm):=aJ
def Db:FnScope ["polynomial"] ["polynomial"] (aC qW):=aJ
def iD:FnScope ["first","second","row","one","other","rest"] ["first","second"] (aC qX):=aJ
def iF:FnScope ["row","ratio","many","before","polynomial","sign"] ["row","ratio"] (aC rL):=aJ
def Di:FnScope ["row","low","high"] ["row","low","high"] (aC rH):=aJ
def kO:FnScope ["row","last","greatest","size"] ["row"] (aC rN):=aJ
def fZ:FnScope ["row","chain","high","low","waiting","found","cell","many","cut","there"] ["row"] (aC rM):=aJ
def Dd:FnScope ["low","high"] ["low","high"] (aC rj):=aJ
def mY:FnScope ["row","low","high","width","reach","steps","found"] ["row","low","high","width"] (aC rf):=aJ
def jA:FnScope ["reach","width","wide","goal","steps"] ["reach","width"] (aC rB):=aJ
def gz:FnScope ["row","low","reach","bottom","start","step","found","power","value"] ["row","low","reach"] (aC qN):=aJ
def eg:FnScope ["row","end","steps","place","pieces","ahead","left","k","there"] ["row","end","steps"] (aC rC):=aJ
def kJ:FnScope ["row","found","factor","value"] ["row"] (aC qP):=aJ
def mZ:FnScope ["row","found","start","k"] ["row"] (aC rh):=aJ
def Dk:FnScope ["low","reach","place","pieces"] ["low","reach","place","pieces"] (aC rO):=aJ
def Dg:FnScope ["divisor","row"] ["divisor","row"] (aC rE):=aJ
def jB:FnScope ["first","second","one","other","rest"] ["first","second"] (aC rJ):=aJ
def xS:FnScope ["row","divisor","found"] ["row","divisor"] (aC rd):=aJ
def CU:FnScope ["row"] ["row"] (aC qI):=aJ
def jx:FnScope ["first","second","least","greatest","found"] ["first","second"] (aC qQ):=aJ
def iE:FnScope ["row","low","high","whole","width","span","line","cell","square"] ["row","low","high"] (aC rz):=aJ
def Df:FnScope ["whole"] ["whole"] (aC rD):=aJ
def xT:FnScope ["whole","span","found"] ["whole","span"] (aC rq):=aJ
def qD:FnScope ["whole","span","other","last","together"] ["whole","span","other"] (aC qO):=aJ
def CW:FnScope ["factor","ratio"] ["factor","ratio"] (aC qL):=aJ
def Du:FnScope ["self","row","low","high"] ["self","row","low","high"] (aC sD):=aJ
def kM:FnScope ["row","low","high","start","end","simple","many"] ["row","low","high"] (aC jF):=aJ
def Dc:FnScope ["height"] ["height"] (aC qZ):=aJ
def xQ:FnScope ["row","limit"] ["row"] (aC q8):=aJ
def De:FnScope ["simple","low","high"] ["simple","low","high"] (aC rk):=aJ
def kK:FnScope ["simple","low","high","row","span","half"] ["simple","low","high"] (aC re):=aJ
def xP:FnScope ["row","simple"] ["row"] (aC qY):=aJ
def Dn:FnScope ["_law_script","_law_k"] ["_law_script","_law_k"] (aC nj):=aJ
def Dl:FnScope ["_law_found"] ["_law_found"] (aC rR):=aJ
def ng:FnScope ["_law_one","_law_other","_law_rest"] ["_law_one","_law_other"] (aC se):=aJ
def xV:FnScope ["_law_found","_law_one"] ["_law_found"] (aC rZ):=aJ
def kR:FnScope ["_law_row","_law_by","_law_one"] ["_law_row"] (aC r6):=aJ
def kS:FnScope ["_law_worth_here","_law_u","_law_v","_law_w","_law_d"] ["_law_worth_here"] (aC r9):=aJ
def m9:FnScope ["_law_one","_law_other","_law_found","_law_k","_law_j"] ["_law_one","_law_other"] (aC rT):=aJ
def Do:FnScope ["_law_cell"] ["_law_cell"] (aC sh):=aJ
def qF:FnScope ["_law_script","_law_k","_law_v","_law_cell"] ["_law_script","_law_k"] (aC rQ):=aJ
def kP:FnScope ["_law_worth_here","_law_more_here","_law_u","_law_v","_law_w","_law_d"] ["_law_worth_here","_law_more_here"] (aC rW):=aJ
def gY:FnScope ["_law_script","_law_u","_law_v","_law_w","_law_d","_law_c","_law_kp"] ["_law_script"] (aC rV):=aJ
def jE:FnScope ["_law_script","_law_u","_law_a","_law_b","_law_square","_law_kp"] ["_law_script"] (aC sd):=aJ
def jC:FnScope ["_law_kp","_law_r","_law_total","_law_low","_law_k"] ["_law_kp","_law_r"] (aC rX):=aJ
def jD:FnScope ["_law_far","_law_low","_law_cell","_law_kp"] ["_law_far","_law_low","_law_cell"] (aC r8):=aJ
def nh:FnScope ["_law_kind","_law_worth_here","_law_out","_law_low","_law_cell","_law_due","_law_polys"] ["_law_kind","_law_worth_here","_law_out","_law_low","_law_cell","_law_due"] (aC si):=aJ
def Dm:FnScope ["_law_n","_law_due"] ["_law_n","_law_due"] (aC rS):=aJ
def qG:FnScope ["_law_found","_law_polys","_law_k","_law_j"] ["_law_found","_law_polys"] (aC rY):=aJ
def cR:FnScope ["_law_script","_law_kind","_law_worth_here","_law_kp","_law_span_here","_law_far","_law_due","_law_cell","_law_out","_law_handed","_law_found"] ["_law_script"] (aC rA):=aJ
structure Txt(K:PySem.W.Frag)(mg:Str->Option Value):Prop where
 abs_:mg "abs"=none
 len_:mg "len"=none
 max_:mg "max"=none
 range_:mg "range"=none
 enumerate_:mg "enumerate"=none
 reversed_:mg "reversed"=none
 list_:mg "list"=none
 sum_:mg "sum"=none
 any_:mg "any"=none
 isinstance_:mg "isinstance"=none
 int_:mg "int"=none
 bool_:mg "bool"=none
 HIGHEST_:∃t:Tok,mg "HIGHEST"=some (.int 8 t)
def mP(K:PySem.W.Frag):Sp:=λvs H Q _=>∃(a:Addr) (ns:Ex),vs=[.ref a]/\SqL K H a (ns.map V.int)/\ns.length<=63/\∀H',Q (.bl true) H'
section
variable {P:Program}{w:World}{K:PySem.W.Frag}{mg:Str->Option Value}{base:Heap}
def sJ(n:Nat):(List.replicate n [V.int 0]).flatten=(List.replicate n (0:Int)).map V.int:=by
 induction n with
 |zero=>rfl
 |succ n ih=>rw[Op,OK,ih,Op];rfl
def lQ{n j:Nat}{i:Int}(e:i=j)(h:j<n):ixN n i=some j:=by subst e;unfold ixN;rw[if_pos (OW _),if_pos (by omega)];simp
def oE(l:Ex)(j:Nat)(x:Int):(l.map V.int).set j (.int x)=(l.set j x).map V.int:=by rw[List.map_set]
def kf{l:Ex}{j:Nat}{i:Int}(e:i=j)(h:j<l.length):atI (l.map V.int) i=some (.int (cf l j)):=by subst e;exact gQ (by rw[List.getElem?_map,iV h];rfl)
def SameB(p:Addr)(H H':Hp):Prop:=∀b o,b≠p->H b=some o->H' b=some o
def SameB.refl(p:Addr)(H:Hp):SameB p H H:=λ_ _ _ h=>h
def SameB.then_new{p q:Addr}{H H1:Hp}{o:HO}(s:SameB p H H1)(h:H1 q=none):SameB p H (upd H1 q o):=λb u n e=>by rw[upd_ne (bh (s b u n e) h)];exact s b u n e
def SameB.then_upd{p:Addr}{H H1:Hp}{o:HO}(s:SameB p H H1):SameB p H (upd H1 p o):=λb u n e=>by rw[upd_ne n];exact s b u n e
def AllB(k:Nat)(l:Ex):Prop:=∀x∈l,Bits k x
def AllB.cf{k:Nat}{l:Ex}(h:AllB k l)(n:Nat):Bits k (cf l n):=by
 by_cases hn:n<l.length
 ·rw[dR hn];exact h _ (NM hn)
 ·rw[cC (NT hn)];exact Bits.zero
def fO{H H2:Hp}{p:Addr}{o:HO}(s:Same H H2)(hp:H p=none):Same H (upd H2 p o):=λb u e=>by rw[upd_ne (bh e hp)];exact s b u e
def GL(l:Ex)(x:Int):l.map V.int++[V.int x]=(l++[x]).map V.int:=by rw[Nc];rfl
noncomputable def ka(ms:Ex)(lo hi:Option Int):Ex:=(ms.drop (HT.sIx ms.length 0 lo)).take (HT.sIx ms.length ms.length hi-HT.sIx ms.length 0 lo)
def uT(ms:Ex)(lo hi:Option Int):io (ms.map V.int) lo hi=(ka ms lo hi).map V.int:=by unfold io ka;rw[MC,<- List.map_drop,<- List.map_take]
def AllB.app{k:Nat}{l r:Ex}(h1:AllB k l)(h2:AllB k r):AllB k (l++r):=λx hx=>(MS.mp hx).elim (h1 x) (h2 x)
def AllB.zeros{k n:Nat}:AllB k (List.replicate n 0):=λx hx=>by rw[List.eq_of_mem_replicate hx];exact Bits.zero
def AllB.mono{j k:Nat}{l:Ex}(h:AllB j l)(hk:j<=k:=by decide):AllB k l:=λx hx=>(h x hx).mono hk
def AllB.nil{k:Nat}:AllB k []:=λ_ h=>nomatch h
def GH{l:Ex}{x:Int}(h:x∈trim l):x∈l:=by
 unfold trim at h
 rw[List.mem_reverse]at h;exact List.mem_reverse.mp ((List.dropWhile_sublist _).subset h)
def AllB.trim{k:Nat}{l:Ex}(h:AllB k l):AllB k (trim l):=λx hx=>h x (GH hx)
def ib{l:Ex}{i:Nat}{x:V}(h:(l.map V.int)[i]?=some x):∃c,l[i]?=some c/\x=.int c/\c∈l/\l.take (i+1)=l.take i++[c]:=by
 rw[List.getElem?_map]at h;cases e:l[i]? with
 |none=>rw[e]at h;cases h
 |some c=>rw[e]at h;exact⟨c,rfl,(Option.some.inj h).symm,List.mem_of_getElem? e,by rw[NG,e];rfl⟩
section
variable {σ:St}{H:Hp}{Q:VK}{i:Nat}{k:Int}{p:Addr}{xs:List V}{v:V}
end
def mkL(H:Hp)(Q:VK)(r:Ex):Prop:=∀(p:Addr) (H':Hp),Same H H'->H p=none->H' p=some (.lst (r.map V.int))->Q (.ref p) H'
def kt(K:PySem.W.Frag):Sp:=λvs H Q _=>∃(a:Addr) (ns:Ex),vs=[.ref a]/\SqL K H a (ns.map V.int)/\mkL H Q (trim ns)
def gX(K:PySem.W.Frag):Sp:=λvs H Q _=>∃(a:Addr) (ns:Ex) (k:Nat),vs=[.ref a,.int k]/\SqL K H a (ns.map V.int)/\Q (.int (ns.getD k 0)) H
def mS(K:PySem.W.Frag)(g:Ex->Ex->Ex):Sp:=λvs H Q _=>∃(a b:Addr) (xs ys:Ex),vs=[.ref a,.ref b]/\SqL K H a (xs.map V.int)/\SqL K H b (ys.map V.int)/\xs.length<=1000000/\ys.length<=1000000/\mkL H Q (g xs ys)
def zk(i j:Nat):(if((j:Nat):Int)>((i:Nat):Int)then((j:Nat):Int)else((i:Nat):Int))=((max i j:Nat):Int):=by split<;>omega
def mT{n:Nat}(h:n<=sizeLine) : -(2^62)<=((n:Nat):Int)/\((n:Nat):Int)<2^62:=by have:=sizeLine_eq;omega
def RwH(H:Hp)(ps:List Addr)(xss:List Ex):Prop:=ps.length=xss.length/\∀(i:Nat) (p:Addr) (xs:Ex),ps[i]?=some p->xss[i]?=some xs->H p=some (.lst (xs.map V.int))
def RwH.nil{H:Hp}:RwH H [] []:=⟨rfl,λi p xs h=>by simp at h⟩
def RwH.same{H H':Hp}{ps:List Addr}{xss:List Ex}(h:RwH H ps xss)(s:Same H H'):RwH H' ps xss:=⟨h.1,λi p xs a b=>s _ _ (h.2 i p xs a b)⟩
def RwH.snoc{H:Hp}{ps:List Addr}{xss:List Ex}{p:Addr}{xs:Ex}(h:RwH H ps xss)(hp:H p=some (.lst (xs.map V.int))):RwH H (ps++[p]) (xss++[xs]):=by
 refine⟨by rw[MY,MY,h.1];rfl,λi q ys a b=>?_⟩;by_cases hi:i<ps.length
 ·rw[List.getElem?_append_left hi]at a;rw[List.getElem?_append_left (by rw[<- h.1];exact hi)]at b;exact h.2 i q ys a b
 ·rw[List.getElem?_append_right (by omega)]at a;rw[List.getElem?_append_right (by rw[<- h.1];omega),<- h.1]at b;by_cases h0:i-ps.length=0
  ·rw[h0]at a b;obtain rfl:p=q:=by simpa using a
   obtain rfl:xs=ys:=by simpa using b
   exact hp
  ·rw[List.getElem?_eq_none_iff.mpr (by simp;omega)]at a;cases a
def RwH.of_get{H:Hp}{ps:List Addr}{xss:List Ex}{i:Nat}{x:V}(h:RwH H ps xss)(hx:(ps.map V.ref)[i]?=some x):∃p xs,x=.ref p/\ps[i]?=some p/\xss[i]?=some xs/\H p=some (.lst (xs.map V.int))/\i<xss.length:=by
 rw[List.getElem?_map]at hx;cases e:ps[i]? with
 |none=>rw[e]at hx;cases hx
 |some p =>
  rw[e]at hx;have hi:i<ps.length:=(List.getElem?_eq_some_iff.mp e).1;have hi':i<xss.length:=by rw[<- h.1];exact hi
  exact⟨p,xss[i],(Option.some.inj hx).symm,rfl,List.getElem?_eq_getElem hi',h.2 i p _ e (List.getElem?_eq_getElem hi'),hi'⟩
def GM(ps:List Addr)(p:Addr):ps.map V.ref++[V.ref p]=(ps++[p]).map V.ref:=by rw[Nc];rfl
def sp2:Sp:=λvs H Q _=>∃a b:Int,vs=[.int a,.int b]/\Q (.int (Nat.gcd a.natAbs b.natAbs:Nat)) H
def mv(i:Int):(if i<0 then -i else i)=(i.natAbs:Int):=by split<;>omega
def E6(F:Fun K "shared_by_two" "shared_by_two" qT f fd)(T:Txt K mg):FnOk P w K mg base aD 1 f fd ["one","other"] sp2:=by
 refine F.ok jy (λvs H Q E h=>?_) (λ_ A _ s H vs Q E hr h=>?_)
 ·obtain⟨a,b,rfl,_⟩:=h;rfl
 ·obtain⟨a,b,rfl,k⟩:=h
  refine⟨_,(ah (ak 2 jy (cM eM (by rfl) T.abs_ PyProof.Rows.boot_abs (ac (pv 0) ad)))
   (ah (ak 3 jy (cM eM (by rfl) T.abs_ PyProof.Rows.boot_abs (ac (pv 1) ad)))
   (ah (gD PassesOwn.never (aG gJ (pv 3) ae)
     (ah (ak 4 jy (ag cA (pv 2) (pv 3)))
       (ah (ak 2 jy (pv 3))
       (ai (ak 3 jy (pv 4))))))
   (ai (aB (pv 2)))))),?_⟩
  refine⟨_,rfl,_,rfl,?_⟩;refine⟨_,rfl,_,rfl,?_⟩;refine⟨λm Q2 H'=>∃(x y:Int) (z:Option V),Q2=[some (.int a),some (.int b),some (.int x),some (.int y),z]/\H=H'/\0<=x/\0<=y/\y.natAbs=m/\Nat.gcd x.natAbs y.natAbs=Nat.gcd a.natAbs b.natAbs,⟨_,_,_,none,rfl,rfl,?_,?_,rfl,?_⟩,?_⟩
  ·rw[mv];exact OW _
  ·rw[mv];exact OW _
  ·rw[mv,mv,Nt,Nt]
  ·rintro m Q2 H' ⟨x,y,z,rfl,rfl,hx,hy,rfl,hg⟩;refine⟨_,rfl,_,_,rfl,rfl,_,rfl,?_⟩;refine de (λhn=>?_) (λh0=>?_)
   ·have hp:0<y:=by have:y≠0:=hn;omega
    refine⟨_,λ_ _ h=>h,?_⟩;refine⟨_,rfl,_,rfl,_,_,rfl,rfl,hp,?_⟩;refine⟨_,rfl,?_⟩;refine⟨_,rfl,?_⟩;have h1:=Int.emod_nonneg x (M7 hp);have h2:=O0 x hp;exact⟨(x%y).natAbs,by omega,y,x%y,_,rfl,rfl,hy,h1,rfl,by rw[zO hx hp];exact hg⟩
   ·refine⟨_,rfl,?_⟩;have e:(y:Int)=0:=h0;subst e
    have e2:(x:Int)=((Nat.gcd a.natAbs b.natAbs:Nat):Int):=by rw[<- hg];show x=((Nat.gcd x.natAbs 0:Nat):Int);rw[Nat.gcd_zero_right];omega
    rw[e2];exact k
def qc(K:PySem.W.Frag):Sp:=λvs H Q _=>∃(a:Addr) (ns:Ex),vs=[.ref a]/\SqL K H a (ns.map V.int)/\Q (.int (aA ns:Nat)) H
def E7(F:Fun K "shared" "shared" qU f fd)(T:Txt K mg)(vN:Cal P w K mg base 1 "shared_by_two" ["one","other"] sp2 IW Iu):FnOk P w K mg base aD 2 f fd ["row"] (qc K):=by
 refine F.ok mX (λvs H Q E h=>?_) (λ_ A _ s H vs Q E hr h=>?_)
 ·obtain⟨a,ns,rfl,_⟩:=h;rfl
 ·obtain⟨a,ns,rfl,hS,k⟩:=h
  refine⟨_,(ah (ak 1 mX ae)
   (ah (cT PassesOwn.never rfl (fe (K:=K) rfl (pv 0)) (aY 2 mX)
     (ai (ak 1 mX (am vN hr (ac (pv 1) (ac (pv 2) ad))))))
   (ai (aB (pv 1))))),?_⟩
  refine⟨_,rfl,a,rfl,⟨_,hS⟩,lU (K:=K) (a:=a) (xs:=ns.map V.int) (λi Q2 H'=>∃z:Option V,Q2=[some (.ref a),some (.int (aA (ns.take i):Nat)),z]/\H=H') ⟨none,rfl,rfl⟩ (λi Q2 H' _ ⟨z,_,e⟩=>by rw[<- e];exact hS) ?_ ?_⟩
  ·rintro i y Q2 H' hi ⟨z,rfl,rfl⟩;rw[List.getElem?_map]at hi;cases e:ns[i]? with
   |none=>rw[e]at hi;cases hi
   |some n =>
    rw[e]at hi;obtain rfl:=Option.some.inj hi;refine⟨_,rfl,_,rfl,_,_,rfl,?_⟩;have e3:ns.take (i+1)=ns.take i++[n]:=by rw[NG,e];rfl
    refine⟨some (.int n),?_,rfl⟩;rw[e3,zP,Nt];rfl
  ·rintro Q2 H' ⟨z,rfl,rfl⟩;refine⟨_,rfl,?_⟩;rw[MC,NU];exact k
noncomputable def gO(t b:Int):List (Str×V):=cS "bottom" (.int b) (cS "top" (.int t) [])
def BV:¬(("top":Str)="bottom"):=by decide +kernel
def ci{t b:Int}:(gO t b).lookup ("bottom":Str)=some (.int b):=by unfold gO;rw[eI,if_pos rfl]
def c7{t b:Int}:(gO t b).lookup ("top":Str)=some (.int t):=by unfold gO;rw[eI,if_neg BV,eI,if_pos rfl]
def dk{t b:Int}{m:Str}(h1:¬m="bottom")(h2:¬m="top"):(gO t b).lookup m=none:=by unfold gO;rw[eI,if_neg h1,eI,if_neg h2];rfl
structure RCI(K:PySem.W.Frag)(mg:Str->Option Value)(C:Addr):Prop where
 cl:Cls K C
 nT:NoAttr K C "top"
 nB:NoAttr K C "bottom"
 mg:mg "Ratio"=some (.ref C)
 ha:PySem.W.findIn K (.ref C) "__class__"=some (some (.builtin "object.__class__"))
 hn:PySem.W.specialIn K (.builtin "object.__class__") "__get__"=some (some (.builtin "getset_descriptor.__get__"))
 ht:PySem.W.takesIn K (.builtin "object.__class__")=some true
 hm:PySem.W.mroIn K C (.type "object")=some true
def RA(C:Addr)(H:Hp)(p:Addr)(t b:Int):Prop:=∃dx,H p=some (.ins C dx (gO t b))
def RA.same{C:Addr}{H H':Hp}{p:Addr}{t b:Int}(h:RA C H p t b)(s:Same H H'):RA C H' p t b:=let⟨dx,e⟩:=h;⟨dx,s _ _ e⟩
def mkR(C:Addr)(H:Hp)(Q:VK)(t b:Int):Prop:=∀(x:Addr) (H':Hp),Same H H'->H x=none->RA C H' x (rt t b) (rb t b)->Q (.ref x) H'
def dH(C:Addr):Sp:=λvs H Q _=>∃(p dx:Addr) (t b:Int),vs=[.ref p,.int t,.int b]/\H p=some (.ins C dx [])/\b≠0/\Bits 9000 b/\Q .non (upd H p (.ins C dx (gO (rt t b) (rb t b))))
def di{C:Addr}{H1:Hp}{q:Addr->Hp->Prop}{E:XK}{t b:Int}(hb:b≠0)(bb:Bits 9000 b)(h:∀(x:Addr) (H':Hp),Same H1 H'->H1 x=none->RA C H' x (rt t b) (rb t b)->q x H'):∀x dx:Addr,H1 x=none->H1 dx=none->dx≠x->dH C (.ref x::([.int t,.int b]++[])) (upd (upd H1 dx (.own x)) x (.ins C dx [])) (λv H2=>v=.non/\q x H2) E:=λx dx nx ndx ne=>by
 refine⟨x,dx,t,b,rfl,ar,hb,bb,rfl,?_⟩;rw[mD]
 have s0:Same H1 (upd (upd H1 dx (.own x)) x (.ins C dx (gO (rt t b) (rb t b)))):=λc o e=>by rw[upd_ne (bh e nx),upd_ne (bh e ndx)];exact e
 exact h x _ s0 nx ⟨dx,ar⟩
def Aq{t b:Int}(hb:b≠0)(bb:Bits 9000 b):Bits 9000 (dv t b):=bb.of_le (by rw[iZ];exact Nat.le_of_dvd (N3.mpr hb) (Ov _ _))
def Gf(F:FunD K "__init__" "Ratio.__init__" jG dV f fd)(T:Txt K mg)(R:RCI K mg C)(vN:Cal P w K mg base 1 "shared_by_two" ["one","other"] sp2 IW Iu):FnOk P w K mg base aD 2 f fd ["self","top","bottom"] (dH C):=by
 refine F.ok qH (λvs H Q E h=>?_) (λ_ A _ s H vs Q E hr h=>?_)
 ·obtain⟨p,dx,t,b,rfl,_⟩:=h;rfl
 ·obtain⟨p,dx,t,b,rfl,hp,hb,bb,k⟩:=h
  refine⟨_,(ah (aP (aG cB (pv 2) ae)
   (ai iK)
   aR)
   (ah (ak 3 qH (am vN hr (ac (pv 1) (ac (pv 2) ad))))
   (ah (aP (aG dJ (pv 2) ae)
     (ai (ak 3 qH (bV bU (pv 3))))
     aR)
   (ah (k6 (pv 0) (ag tu (pv 1) (pv 3)) rfl)
   (ai (k6 (pv 0) (ag tu (pv 2) (pv 3)) rfl)))))),?_⟩
  refine cp ⟨_,rfl,_,_,rfl,rfl,_,rfl,aN (λh=>absurd h hb) (λ_=>?_)⟩;refine az ⟨_,rfl,_,rfl,t,b,rfl,?_⟩;refine kY (λQ2 H'=>H=H'/\Q2=[some (.ref p),some (.int t),some (.int b),some (.int (dv t b))]) ?_ ?_
  ·rintro Q2 H' ⟨rfl,rfl⟩;refine⟨_,rfl,_,rfl,_,_,rfl,rfl,⟨oT hb,Aq hb bb⟩,_,rfl,p,C,dx,_,rfl,hp,R.cl,R.nT,by show 0<1000;decide,?_⟩;refine⟨_,rfl,_,rfl,_,_,rfl,rfl,⟨oT hb,Aq hb bb⟩,_,rfl,p,C,dx,_,rfl,ar,R.cl,R.nB,by show 1<1000;decide,?_⟩;show Q .non (upd (upd H p _) p _);rw[mD];exact k
  ·intro rest;refine⟨_,rfl,_,_,rfl,rfl,_,rfl,?_⟩;refine aN (λh=>?_) (λh=>?_)
   ·refine⟨_,rfl,_,rfl,rest _ _ ⟨rfl,?_⟩⟩;have e:dv t b = -((Nat.gcd t.natAbs b.natAbs:Nat):Int):=by unfold dv;rw[if_pos h]
    rw[e];rfl
   ·refine rest _ _ ⟨rfl,?_⟩;have e:dv t b=((Nat.gcd t.natAbs b.natAbs:Nat):Int):=by unfold dv;rw[if_neg h]
    rw[e];rfl
def kx:Sp:=λvs H Q _=>∃x:Int,vs=[.int x]/\Q (.int (sg x)) H
def EU(F:Fun K "whole_sign" "whole_sign" qJ f fd)(T:Txt K mg):FnOk P w K mg base aD 1 f fd ["value"] kx:=by
 refine F.ok CV (λvs H Q E h=>?_) (λ_ A _ s H vs Q E hr h=>?_)
 ·obtain⟨x,rfl,_⟩:=h;rfl
 ·obtain⟨x,rfl,k⟩:=h
  refine⟨_,(ah (aP (aG dJ (pv 0) ae)
   (ai (aB (bV bU ae)))
   aR)
   (ah (aP (aG eE (pv 0) ae)
     (ai (aB ae))
     aR)
   (ai (aB ae)))),?_⟩
  refine cp ⟨_,rfl,_,_,rfl,rfl,_,rfl,aN (λh=>?_) (λh=>?_)⟩
  ·have e:sg x = -1:=by unfold sg;rw[if_pos h]
   rw[e]at k;exact⟨_,rfl,k⟩
  refine cp ⟨_,rfl,_,_,rfl,rfl,_,rfl,aN (λh'=>?_) (λh'=>?_)⟩
  ·have e:sg x=1:=by unfold sg;rw[if_neg h,if_pos h']
   rw[e]at k;exact k
  ·have e:sg x=0:=by unfold sg;rw[if_neg h,if_neg h']
   rw[e]at k;exact k
def jt(C:Addr):Sp:=λvs H Q _=>∃(p q:Addr) (t b u d:Int),vs=[.ref p,.ref q]/\RA C H p t b/\RA C H q u d/\Bits 100000 t/\Bits 100000 b/\Bits 100000 u/\Bits 100000 d/\Q (.int (sg (t*d-u*b))) H
def Ge(F:Fun K "against" "Ratio.against" sC f fd)(T:Txt K mg)(R:RCI K mg C)(je:Cal P w K mg base 1 "whole_sign" ["value"] kx uH uw):FnOk P w K mg base aD 2 f fd ["self","other"] (jt C):=by
 refine F.ok Dt (λvs H Q E h=>?_) (λ_ A _ s H vs Q E hr h=>?_)
 ·obtain⟨p,q,t,b,u,d,rfl,_⟩:=h;rfl
 ·obtain⟨p,q,t,b,u,d,rfl,⟨dx,hp⟩,⟨dy,hq⟩,bt,bb,bu,bd,k⟩:=h;refine⟨_,(ai (aB (am je hr (ac (ag cg (ag aE (aQ (K:=K) rfl (pv 0) rfl) (aQ (K:=K) rfl (pv 1) rfl)) (ag aE (aQ (K:=K) rfl (pv 1) rfl) (aQ (K:=K) rfl (pv 0) rfl))) ad)))),?_⟩;refine⟨_,rfl,p,C,dx,_,_,rfl,hp,R.cl,R.nT,c7,_,rfl,q,C,dy,_,_,rfl,hq,R.cl,R.nB,ci,_,_,rfl,rfl,⟨bt.mono,bd.mono⟩,?_⟩;exact⟨_,rfl,q,C,dy,_,_,rfl,hq,R.cl,R.nT,c7,_,rfl,p,C,dx,_,_,rfl,hp,R.cl,R.nB,ci,_,_,rfl,rfl,⟨bu.mono,bb.mono⟩,_,_,rfl,rfl,_,rfl,k⟩
def Fe(F:Fun K "poly" "poly" q9 f fd)(T:Txt K mg):FnOk P w K mg base aD 1 f fd ["row"] (kt K):=by
 refine F.ok qE (λvs H Q E h=>?_) (λ_ A _ s H vs Q E hr h=>?_)
 ·obtain⟨a,ns,rfl,_⟩:=h;rfl
 ·obtain⟨a,ns,rfl,hS,k⟩:=h
  refine⟨_,(ah (ak 1 qE (cU K T.len_ (ac (pv 0) ad)))
   (ah (gD PassesOwn.never (PW.pt (g7 (aG eE (pv 1) ae) (g6 (aG cB (ce K (pv 0) (ag cg (pv 1) ae)) ae))))
     (ai (ak 1 qE (ag cg (pv 1) ae))))
   (ai (aB (oe (mU (K:=K) rfl) (pv 0) nZ (nY (pv 1))))))),?_⟩
  refine⟨_,rfl,a,_,rfl,.inl hS,?_⟩;refine⟨λm Q2 H'=>∃n:Nat,n<=ns.length/\Q2=[some (.ref a),some (.int n)]/\H=H'/\n=m/\trim (ns.take n)=trim ns,⟨_,ns.length,MI _,?_,rfl,rfl,?_⟩,?_⟩
  ·rw[MC];rfl
  ·rw[NU]
  ·rintro m Q2 H' ⟨n,hn,rfl,rfl,rfl,ht⟩
   have fin:trim (ns.take n)=ns.take n->∃v,([some (V.ref a),some (V.int n)]:St)[0]?=some (some v)/\∃v_1,([some (V.ref a),some (V.int n)]:St)[1]?=some (some v_1)/\∃i,v_1=V.int i/\sO K v none (some i) H Q:=λh=>by
    refine⟨_,rfl,_,rfl,n,rfl,a,_,rfl,hS,λp hp=>k p _ (Same.upd_new hp) hp ?_⟩;rw[ar,<- ht,h]
    have e:io (ns.map V.int) none (some (n:Int))=(ns.take n).map V.int:=by unfold io;rw[HT.sIx_none,HT.sIx_nat,Ol,NO,MC,Nat.min_eq_left hn,List.map_take]
    rw[e]
   refine⟨_,rfl,_,_,rfl,rfl,_,rfl,?_⟩;refine aN (λhp=>?_) (λhp=>?_)
   ·obtain⟨j,rfl⟩:∃j,n=j+1:=⟨n-1,by have:(0:Int)<n:=hp;omega⟩;have hj:j<ns.length:=hn;refine⟨_,rfl,_,rfl,_,_,rfl,rfl,a,_,j,.int (cf ns j),rfl,?_,hS,gQ ?_,_,_,rfl,rfl,_,rfl,?_⟩
    ·show V.int (((j+1:Nat):Int)-1)=V.int j
     congr 1;omega
    ·rw[List.getElem?_map,iV hj];rfl
    refine aN (λh0=>?_) (λh0=>?_)
    ·refine⟨_,λ_ _ h=>h,?_⟩;refine⟨_,rfl,_,_,rfl,rfl,j,NR _,j,Om hj,?_,rfl,rfl,?_⟩
     ·show[some (V.ref a),some (V.int (((j+1:Nat):Int)-1))]=[some (V.ref a),some (V.int j)]
      congr 4;omega
     ·rw[<- ht,BK hj h0]
    ·exact fin (BL hj h0)
   ·obtain rfl:n=0:=by have:¬(0:Int)<n:=hp;omega
    exact fin (by rw[List.take_zero];rfl)
def iz:Sp:=λvs H Q _=>∃(a:Addr) (xs:List V),vs=[.ref a]/\H a=some (.lst xs)/\Q (.int ((xs.length:Int)-1)) H
def FA(F:Fun K "degree" "degree" rG f fd)(T:Txt K mg):FnOk P w K mg base aD 1 f fd ["row"] iz:=by
 refine F.ok Dh (λvs H Q E h=>?_) (λ_ A _ s H vs Q E hr h=>?_)
 ·obtain⟨a,xs,rfl,_⟩:=h;rfl
 ·obtain⟨a,xs,rfl,hA,k⟩:=h;refine⟨_,(ai (aB (ag cg (cU K T.len_ (ac (pv 0) ad)) ae))),?_⟩;exact⟨_,rfl,a,_,rfl,.inl (SqL.of hA),_,_,rfl,rfl,k⟩
def FD(F:Fun K "coefficient" "coefficient" rK f fd)(T:Txt K mg):FnOk P w K mg base aD 1 f fd ["row","place"] (gX K):=by
 refine F.ok Dj (λvs H Q E h=>?_) (λ_ A _ s H vs Q E hr h=>?_)
 ·obtain⟨a,ns,k,rfl,_⟩:=h;rfl
 ·obtain⟨a,ns,n,rfl,hS,k⟩:=h
  refine⟨_,(ah (aP (aG dJ (pv 1) (cU K T.len_ (ac (pv 0) ad)))
   (ai (aB (ce K (pv 0) (pv 1))))
   aR)
   (ai (aB ae))),?_⟩
  refine⟨_,rfl,_,rfl,a,_,rfl,.inl hS,_,_,rfl,rfl,_,rfl,?_⟩;refine aN (λh1=>?_) (λh1=>?_)
  ·rw[MC]at h1;have h2:n<ns.length:=by omega
   refine⟨_,rfl,_,rfl,a,_,_,_,rfl,rfl,hS,gQ (v:=.int (ns.getD n 0)) ?_,k⟩;rw[List.getElem?_map,List.getElem?_eq_getElem h2];simp[List.getD,h2]
  ·rw[MC]at h1;have h2:ns.length<=n:=by omega
   have e:ns.getD n 0=0:=by simp[List.getD,List.getElem?_eq_none_iff.mpr h2]
   rw[e]at k;exact k
def EX(F:Fun K "taken" "taken" qM f fd)(T:Txt K mg)(jg:Cal P w K mg base 1 "poly" ["row"] (kt K) uJ uA)(mC:Cal P w K mg base 1 "coefficient" ["row","place"] (gX K) Jc IC):FnOk P w K mg base aD 2 f fd ["first","second"] (mS K cQ):=by
 refine F.ok xN (λvs H Q E h=>?_) (λ_ A _ s H vs Q E hr h=>?_)
 ·obtain⟨a,b,xs,ys,rfl,_⟩:=h;rfl
 ·obtain⟨a,b,xs,ys,rfl,hA,hB,hx,hy,k⟩:=h
  refine⟨_,(ah (ak 2 xN (cM (AN rfl) (by rfl) T.max_ PyProof.Rows.boot_max (ac (cU K T.len_ (ac (pv 0) ad)) (ac (cU K T.len_ (ac (pv 1) ad)) ad))))
   (ai (aB (am jg hr (ac (f8 (own:=["k"]) (fr:=["first","second"]) (js:=[0,1]) (by walk_at "comp_ok") rfl (gF rfl T.range_ (ac (pv 2) ad)) (λ_ _ _ _=>(fM (i:=0) (show List.Nodup (["k","first","second"]:List Str)from by decide +kernel) rfl (Or.inl rfl))) (λ_ _ _ _=>(ag cg (am mC hr (ac (pv 1) (ac (pv 0) ad))) (am mC hr (ac (pv 2) (ac (pv 0) ad)))))) ad))))),?_⟩
  refine⟨_,rfl,a,_,rfl,.inl hA,_,rfl,b,_,rfl,.inl hB,_,_,rfl,?_⟩;rw[zk,MC,MC];have hz:max xs.length ys.length<=sizeLine:=by have:=sizeLine_eq;omega
  refine⟨_,rfl,_,rfl,(mT hz).1,(mT hz).2,uW (lo:=0) (n:=max xs.length ys.length) (λi zs Q2 H'=>∃z:Option V,Q2=[z,some (.ref a),some (.ref b)]/\zs=((List.range i).map λk=>V.int (cf xs k-cf ys k))/\H=H') hz ⟨none,rfl,rfl,rfl⟩ ?_ ?_ ?_⟩
  ·rintro i zs Q2 H' _ ⟨z,rfl,rfl,rfl⟩;simp
  ·rintro i zs Q2 H' hi ⟨z,rfl,rfl,rfl⟩;refine⟨_,rfl,_,rfl,a,xs,i,?_,hA,_,rfl,_,rfl,b,ys,i,?_,hB,_,_,rfl,rfl,_,rfl,?_,rfl⟩
   ·show[V.ref a,V.int (0+(i:Int))]=_;rw[NC]
   ·show[V.ref b,V.int (0+(i:Int))]=_;rw[NC]
   ·rw[List.range_succ,Nc];rfl
  ·rintro zs Q2 H' p ⟨z,rfl,rfl,rfl⟩ hp;refine⟨p,(List.range (max xs.length ys.length)).map λk=>cf xs k-cf ys k,rfl,SqL.of ?_,?_⟩
   ·rw[ar,NP];rfl
   ·intro p' H' sm hp' e;refine k p' H' ((Same.upd_new hp).trans sm) ((Same.upd_new hp).free hp') ?_;rw[e,Ca]
def sp1(g:Ex->Ex):Sp:=λvs H Q _=>∃(a:Addr) (ns:Ex),vs=[.ref a]/\H a=some (.lst (ns.map V.int))/\ns.length<=100000/\AllB 100000 ns/\mkL H Q (g ns)
def Gs{k:Nat}{n:Nat}(h:n<2^k):Bits k (n:Int):=by show((n:Int)).natAbs<2^k;rw[Nt];exact h
def Cn{n:Nat}(h:n<=1000000):Bits 1000000 (n:Int):=(Gs (k:=20) (Nu h (by decide))).mono
def DS(f:Nat->V)(i:Nat):(List.range i).map f++[f i]=(List.range (i+1)).map f:=by rw[List.range_succ,Nc];rfl
def E3(F:Fun K "slope" "slope" qR f fd)(T:Txt K mg):FnOk P w K mg base aD 1 f fd ["row"] (sp1 slopeL):=by
 refine F.ok CZ (λvs H Q E h=>?_) (λ_ A _ s H vs Q E hr h=>?_)
 ·obtain⟨a,ns,rfl,_⟩:=h;rfl
 ·obtain⟨a,ns,rfl,hA,hn,hb,k⟩:=h;have big:=sizeLine_eq;refine⟨_,(ai (aB (f8 (own:=["k"]) (fr:=["row"]) (js:=[0]) (by walk_at "comp_ok") rfl (Eu rfl T.range_ (ac ae (ac (cU K T.len_ (ac (pv 0) ad)) ad))) (λ_ _ _ _=>(fM (i:=0) (show List.Nodup (["k","row"]:List Str)from by decide +kernel) rfl (Or.inl rfl))) (λ_ _ _ _=>(ag aE (pv 0) (ce K (pv 1) (pv 0))))))),?_⟩;have hl:(ns.map V.int).length=ns.length:=MC _;refine bC ⟨_,rfl,a,_,rfl,.inl (SqL.of hA),1,_,rfl,⟨by decide,by decide,by rw[hl];omega,by rw[hl];omega⟩,uW (lo:=1) (λi ys Q2 H'=>∃z:Option V,Q2=[z,some (.ref a)]/\ys=((List.range i).map λ(j:Nat)=>V.int (((j:Int)+1)*cf ns (j+1)))/\H=H') (by rw[hl];omega) ⟨none,rfl,rfl,rfl⟩ ?_ ?_ ?_⟩
  ·rintro i ys Q2 H' _ ⟨z,rfl,rfl,rfl⟩;simp
  ·rintro i ys Q2 H' hi ⟨z,rfl,rfl,rfl⟩;rw[hl]at hi;have hi':i+1<ns.length:=by omega
   have e0:(1:Int)+(i:Int)=((i+1:Nat):Int):=by omega
   refine⟨_,rfl,_,rfl,_,rfl,a,_,_,_,rfl,rfl,SqL.of hA,kf e0 hi',_,_,rfl,rfl,⟨by rw[e0];exact Cn (by omega),(hb.cf _).mono⟩,_,rfl,?_,rfl⟩;rw[<- DS];show _++[V.int ((1+(i:Int))*cf ns (i+1))]=_;rw[Int.add_comm 1]
  ·rintro ys Q2 H' p ⟨z,rfl,rfl,rfl⟩ hp;refine k p _ (Same.upd_new hp) hp ?_;have en:(((ns.map V.int).length:Int)-1).toNat=ns.length-1:=by rw[hl];omega
   rw[ar,en];unfold RM.slopeL;rw[NP];rfl
def pZ:Sp:=λvs H Q _=>∃(a:Addr) (ns:Ex),vs=[.ref a]/\H a=some (.lst (ns.map V.int))/\Tr ns/\ns.length<=1000000/\mkL H Q (al ns)
def HS{ns:Ex}(ht:Tr ns)(hne:ns≠[]):0<(aA ns:Int):=by
 obtain⟨r,x,rfl⟩:=(dz ns).resolve_left hne;have hx:x≠0:=tr_snoc.mp ht;have hm:x∈r++[x]:=by simp
 have h1:0<aA (r++[x]):=Nat.pos_of_dvd_of_pos (oP hm) (N3.mpr hx);omega
def E5(F:Fun K "shrunk" "shrunk" ni f fd)(T:Txt K mg)(hNS:base.NoSeer)(hTr:P.given.tree=none)(vO:Cal P w K mg base 2 "shared" ["row"] (qc K) IX Iv):FnOk P w K mg base aD 33 f fd ["row"] pZ:=by
 refine F.ok xO (λvs H Q E h=>?_) (λcdv A outer s H vs Q E hr h=>?_)
 ·obtain⟨a,ns,rfl,_⟩:=h;rfl
 ·obtain⟨a,ns,rfl,hA,ht,hn,k⟩:=h;have big:=sizeLine_eq;have hdp:(A.deeper (PyProof.Rows.envOfC (Str.ofString "shrunk") (aC ni) s.heap.objs.size f cdv)).depth+100<recursionLimit:=by have:=hr.dp;omega
  refine⟨_,(ah (ak 1 xO (am vO hr (ac (pv 0) ad)))
   (ai (aB (f8 (own:=["value"]) (fr:=["divisor"]) (js:=[1]) (by walk_at "comp_ok") rfl (fe (K:=K) rfl (pv 0)) (λ_ _ _ _=>(fM (i:=0) (show List.Nodup (["value","divisor"]:List Str)from by decide +kernel) rfl (Or.inl rfl))) (λ_ _ _ _=>(ag (EO hNS hTr hdp rfl rfl rfl rfl rfl) (pv 0) (pv 1))))))),?_⟩
  refine az ⟨_,rfl,a,ns,rfl,SqL.of hA,?_⟩;refine bC ⟨_,rfl,a,rfl,⟨_,SqL.of hA⟩,i7 (K:=K) (a:=a) (xs:=ns.map V.int) (λi ys Q2 H'=>∃(z0:Option V),Q2=[z0,some (.int (aA ns:Nat))]/\ys=((ns.take i).map λx=>x/(aA ns:Int)).map V.int/\H=H') (by rw[MC];omega) ⟨none,rfl,rfl,rfl⟩ ?_ ?_ ?_⟩
  ·rintro i ys Q2 H' _ ⟨z0,rfl,rfl,rfl⟩;exact⟨SqL.of hA,by rw[MC,MC,NK];exact OT _ _⟩
  ·rintro i x ys Q2 H' hi ⟨z0,rfl,rfl,rfl⟩;rw[List.getElem?_map]at hi;cases e:ns[i]? with
   |none=>rw[e]at hi;cases hi
   |some c =>rw[e]at hi;obtain rfl:=Option.some.inj hi;have g1:=HS ht (λz=>by rw[z]at e;simp at e);refine⟨_,rfl,_,rfl,_,_,rfl,rfl,g1,_,rfl,?_,rfl⟩;rw[NG,e];simp
  ·rintro ys Q2 H' p ⟨z0,rfl,rfl,rfl⟩ hp;refine k p _ (Same.upd_new hp) hp ?_;rw[ar,MC,NU];rfl
def kz:Sp:=λvs H Q _=>∃(a:Addr) (ns:Ex),vs=[.ref a]/\H a=some (.lst (ns.map V.int))/\Tr ns/\ns.length<=1000000/\mkL H Q (au ns)
def AW(r:Ex)(x:Int):atI ((r++[x]).map V.int) (-1)=some (.int x):=by rw[Nc];exact vC _ _
def Ff(F:Fun K "plain" "plain" rc f fd)(T:Txt K mg)(mz:Cal P w K mg base 33 "shrunk" ["row"] pZ IV Ir):FnOk P w K mg base aD 34 f fd ["row"] kz:=by
 refine F.ok xR (λvs H Q E h=>?_) (λ_ A _ s H vs Q E hr h=>?_)
 ·obtain⟨a,ns,rfl,_⟩:=h;rfl
 ·obtain⟨a,ns,rfl,hA,ht,hn,k⟩:=h;have big:=sizeLine_eq;have hu:=hr.units
  refine⟨_,(ah (ak 1 xR (am mz hr (ac (pv 0) ad)))
   (ah (aP (PW.pt (g7 (aG (hZ (K:=K) rfl hu) (pv 1) (aU ad)) (g6 (aG dJ (ce K (pv 1) (bV bU ae)) ae))))
     (ai (aB (f8 (own:=["value"]) (fr:=[]) (js:=[]) (by walk_at "comp_ok") rfl (fe (K:=K) rfl (pv 1)) (λ_ _ _ _=>(fM (i:=0) (show List.Nodup (["value"]:List Str)from by decide +kernel) rfl (Or.inl rfl))) (λ_ _ _ _=>(bV bU (pv 0))))))
     aR)
   (ai (aB (pv 1))))),?_⟩
  refine az ⟨_,rfl,a,ns,rfl,hA,ht,hn,λp H1 s1 hp e1=>?_⟩;have hsl:(al ns).length=ns.length:=MC _;have done:cF (al ns)=al ns->Q (.ref p) H1:=λe=>k p H1 s1 hp (by rw[e1];show _=some (HO.lst ((cF (al ns)).map V.int));rw[e])
  refine kY (λQ2 H'=>Q2=[some (.ref a),some (.ref p)]/\Same H H'/\H' p=some (.lst ((al ns).map V.int))/\cF (al ns)=al ns) ?_ ?_
  ·rintro Q2 H' ⟨rfl,s2,e2,e3⟩;exact⟨_,rfl,k p H' s2 hp (by rw[e2];show _=some (HO.lst ((cF (al ns)).map V.int));rw[e3])⟩
  intro rest;refine gB ⟨_,rfl,MK _,λq hq=>?_⟩;have s2:Same H (upd H1 q (.lst [])):=s1.then_new hq;have e2:upd H1 q (.lst []) p=some (.lst ((al ns).map V.int)):=by rw[upd_ne (bh e1 hq)];exact e1
  refine⟨p,q,al ns,[],rfl,rfl,SqL.of e2,SqL.of ar,_,rfl,?_⟩;refine de (λhne=>?_) (λhe=>?_)
  ·obtain⟨r,x,er⟩:=(dz (al ns)).resolve_left hne;refine⟨_,rfl,_,rfl,p,_,_,.int x,rfl,rfl,SqL.of e2,(by rw[er];exact AW r x),_,_,rfl,rfl,_,rfl,?_⟩;have elast:ao (al ns)=x:=by rw[er,fS]
   refine aN (λhx=>?_) (λhx=>?_)
   ·have hx':x<0:=hx;have epos:cF (al ns)=(al ns).map λx => -x:=by unfold cF;rw[elast,if_pos hx']
    refine bC ⟨_,rfl,p,rfl,⟨_,SqL.of e2⟩,i7 (K:=K) (a:=p) (xs:=(al ns).map V.int) (λi ys Q2 H'=>∃(z0:Option V),Q2=[z0]/\ys=(((al ns).take i).map λx => -x).map V.int/\upd H1 q (.lst [])=H') (by rw[MC,hsl];omega) ⟨none,rfl,rfl,rfl⟩ ?_ ?_ ?_⟩
    ·rintro i ys Q2 H' _ ⟨z0,rfl,rfl,rfl⟩;exact⟨SqL.of e2,by rw[MC,MC,NK];exact OT _ _⟩
    ·rintro i x ys Q2 H' hi ⟨z0,rfl,rfl,rfl⟩;rw[List.getElem?_map]at hi;cases e:(al ns)[i]? with
     |none=>rw[e]at hi;cases hi
     |some c =>rw[e]at hi;obtain rfl:=Option.some.inj hi;refine⟨_,rfl,_,rfl,_,rfl,?_,rfl⟩;rw[NG,e];simp
    ·rintro ys Q2 H' p' ⟨z0,rfl,rfl,rfl⟩ hp';refine k p' _ (s2.then_new hp') (s2.free hp') ?_;rw[ar,MC,NU];show _=some (HO.lst ((cF (al ns)).map V.int));rw[epos]
   ·exact rest _ _ ⟨rfl,s2,e2,by unfold cF;rw[elast,if_neg hx]⟩
  ·have he':al ns=[]:=he;exact rest _ _ ⟨rfl,s2,e2,by rw[he'];rfl⟩
def wV:Sp:=λvs H Q _=>∃(a:Addr) (xs:Ex) (c:Int),vs=[.ref a,.int c]/\H a=some (.lst (xs.map V.int))/\xs.length<=1000000/\Bits 1000000 c/\AllB 1000000 xs/\mkL H Q (aM c xs)
def E8(F:Fun K "scaled" "scaled" qV f fd)(T:Txt K mg):FnOk P w K mg base aD 1 f fd ["row","factor"] wV:=by
 refine F.ok Da (λvs H Q E h=>?_) (λ_ A _ s H vs Q E hr h=>?_)
 ·obtain⟨a,xs,c,rfl,_⟩:=h;rfl
 ·obtain⟨a,xs,c,rfl,hA,hn,bc,bx,k⟩:=h;have big:=sizeLine_eq;refine⟨_,(ai (aB (f8 (own:=["value"]) (fr:=["factor"]) (js:=[1]) (by walk_at "comp_ok") rfl (fe (K:=K) rfl (pv 0)) (λ_ _ _ _=>(fM (i:=0) (show List.Nodup (["value","factor"]:List Str)from by decide +kernel) rfl (Or.inl rfl))) (λ_ _ _ _=>(ag aE (pv 1) (pv 0)))))),?_⟩;refine bC ⟨_,rfl,a,rfl,⟨_,SqL.of hA⟩,i7 (K:=K) (a:=a) (xs:=xs.map V.int) (λi ys Q2 H'=>∃(z0:Option V),Q2=[z0,some (.int c)]/\ys=(aM c (xs.take i)).map V.int/\H=H') (by rw[MC];omega) ⟨none,rfl,rfl,rfl⟩ ?_ ?_ ?_⟩
  ·rintro i ys Q2 H' _ ⟨z0,rfl,rfl,rfl⟩;exact⟨SqL.of hA,by rw[MC,dN,NK];exact OT _ _⟩
  ·rintro i x ys Q2 H' hi ⟨z0,rfl,rfl,rfl⟩;obtain⟨y,_,rfl,hm,et⟩:=ib hi;refine⟨_,rfl,_,rfl,_,_,rfl,rfl,⟨bc,bx y hm⟩,_,rfl,?_,rfl⟩;rw[et];simp[aM]
  ·rintro ys Q2 H' p ⟨z0,rfl,rfl,rfl⟩ hp;refine k p _ (Same.upd_new hp) hp ?_;rw[ar,MC,NU]
def Ax(ms:Ex):ka ms none (some (-1))=ms.take (ms.length-1):=by
 unfold ka;rw[HT.sIx_none,Ol,NO]
 congr 1
 show(if(-1:Int)<0 then((-1:Int)+(ms.length:Int)).toNat else min (-1:Int).toNat ms.length)=_;rw[if_pos (by decide)];omega
def AL{ms:Ex}{n k:Nat}:cf (ms.take n) k=if k<n then cf ms k else 0:=by
 unfold cf;by_cases h:k<n
 ·rw[if_pos h];simp[List.getD,List.getElem?_take,h]
 ·rw[if_neg h];simp[List.getD,List.getElem?_take,h]
def xg:Sp:=λvs H Q _=>∃(a b:Addr) (rs ys:Ex) (p:Nat) (l:Int),vs=[.ref a,.ref b,.int p,.int l]/\H a=some (.lst (rs.map V.int))/\H b=some (.lst (ys.map V.int))/\rs.length=p+ys.length/\ys≠[]/\Bits 1000000 l/\AllB 1000000 ys/\mkL H Q (iS rs ys p l)
def Fq(F:Fun K "lowered" "lowered" rm f fd)(T:Txt K mg):FnOk P w K mg base aD 1 f fd ["row","second","place","lead"] xg:=by
 refine F.ok m8 (λvs H Q E h=>?_) (λ_ A _ s H vs Q E hr h=>?_)
 ·obtain⟨a,b,rs,ys,p,l,rfl,_⟩:=h;rfl
 ·obtain⟨a,b,rs,ys,p,l,rfl,hA,hB,hl,hy,bl,by',k⟩:=h;have hyl:=MR.mpr hy
  refine⟨_,(ah (ak 4 m8 (oe (mU (K:=K) rfl) (pv 0) nZ (nY (bV bU ae))))
   (ah (cT PassesOwn.never rfl (sU rfl T.enumerate_ (ac (oe (mU (K:=K) rfl) (pv 1) nZ (nY (bV bU ae))) ad)) (gH rfl (cy (aY 5 m8) (cy (aY 6 m8) gG)))
     (ai (eZ (ag cg (ce K (pv 4) (ag aV (pv 2) (pv 5))) (ag aE (pv 3) (pv 6))) (jP (pv 4) (ag aV (pv 2) (pv 5)) jv))))
   (ai (aB (pv 4))))),?_⟩
  refine az ⟨_,rfl,_,rfl,_,rfl,a,_,rfl,SqL.of hA,λkp hkp=>?_⟩;rw[uT,Ax];have s1:=Same.upd_new (o:=.lst ((rs.take (rs.length-1)).map V.int)) hkp;have nkb:b≠kp:=bh hB hkp;refine⟨_,rfl,_,rfl,_,rfl,b,_,rfl,SqL.of (s1 _ _ hB),λp2 hp2=>?_⟩;rw[uT,Ax];have n2:kp≠p2:=bh ar hp2;generalize hH2:upd (upd H kp (.lst ((rs.take (rs.length-1)).map V.int))) p2 (.lst ((ys.take (ys.length-1)).map V.int))=H2;have hk2:H2 kp=some (.lst ((rs.take (rs.length-1)).map V.int)):=by rw[<- hH2,upd_ne n2,ar]
  have hq2:H2 p2=some (.lst ((ys.take (ys.length-1)).map V.int)):=by rw[<- hH2,ar]
  have s2:Same H H2:=by rw[<- hH2];exact s1.then_new hp2
  have lt:(rs.take (rs.length-1)).length=rs.length-1:=by rw[NK];omega
  have lty:(ys.take (ys.length-1)).length=ys.length-1:=by rw[NK];omega
  refine⟨p2,rfl,⟨_,SqL.of hq2⟩,ur (K:=K) (a:=p2) (xs:=(ys.take (ys.length-1)).map V.int) (λi Q2 H'=>∃(acc:Ex) (z5 z6:Option V),Q2=[some (.ref a),some (.ref b),some (.int p),some (.int l),some (.ref kp),z5,z6]/\SameB kp H2 H'/\H' kp=some (.lst (acc.map V.int))/\acc.length=rs.length-1/\∀n,n<acc.length->cf acc n=cf rs n-(if p<=n/\n-p<i then l*cf ys (n-p)else 0))
   ⟨_,none,none,rfl,SameB.refl _ _,hk2,lt,λn hn=>by rw[AL,if_pos (by omega),if_neg (by omega)];omega⟩ ?_ ?_ ?_⟩
  ·rintro i Q2 H' _ ⟨acc,z5,z6,rfl,sb,_⟩;exact SqL.of (sb _ _ (Ne.symm n2) hq2)
  ·rintro i x Q2 H' q hi ⟨acc,z5,z6,rfl,sb,hpa,hal,hac⟩ hq
   have hil:i<ys.length-1:=by apply Classical.byContradiction;intro hn;rw[List.getElem?_eq_none_iff.mpr (by rw[MC,lty];omega)]at hi;cases hi
   rw[List.getElem?_map,iV (by rw[lty];exact hil),AL,if_pos hil]at hi;obtain rfl:=Option.some.inj hi;refine⟨q,_,rfl,SqT.of ar,rfl,_,_,rfl,_,_,rfl,rfl,?_⟩;have nqp:kp≠q:=bh hpa hq;have hpa':upd H' q (.tup [.int i,.int (cf ys i)]) kp=some (.lst (acc.map V.int)):=by rw[upd_ne nqp];exact hpa
   have hpi:p+i<acc.length:=by omega
   have epi:((p:Nat):Int)+((i:Nat):Int)=((p+i:Nat):Int):=by omega
   refine⟨_,rfl,_,rfl,_,rfl,_,_,rfl,rfl,kp,_,_,_,rfl,rfl,SqL.of hpa',kf epi hpi,_,rfl,_,rfl,_,_,rfl,rfl,⟨bl,by'.cf i⟩,_,_,rfl,rfl,_,rfl,_,rfl,_,rfl,_,_,rfl,rfl,kp,_,_,p+i,rfl,rfl,hpa',lQ epi (by rw[MC];exact hpi),?_⟩;refine⟨acc.set (p+i) (cf acc (p+i)-l*cf ys i),_,_,rfl,(sb.then_new hq).then_upd,by rw[ar,oE],by rw[Oo];exact hal,λn hn=>?_⟩;rw[Oo]at hn;rw[mi hpi];by_cases e:n=p+i
   ·subst e;rw[if_pos rfl,hac _ hpi,if_neg (by omega),if_pos (by omega),Nat.add_sub_cancel_left];omega
   ·rw[if_neg e,hac n hn];by_cases h1:p<=n/\n-p<i
    ·rw[if_pos h1,if_pos (by omega)]
    ·rw[if_neg h1,if_neg (by omega)]
  ·rintro Q2 H' ⟨acc,z5,z6,rfl,sb,hpa,hal,hac⟩;rw[MC,lty]at hac;refine⟨_,rfl,k kp H' (λb' o e=>sb b' o (bh e hkp) (s2 b' o e)) hkp ?_⟩;rw[hpa]
   have e:acc=iS rs ys p l:=by
    apply iY
    ·rw[hal,zr]
    ·intro n hn;have hn':n<rs.length-1:=by omega
     rw[hac n hn,oZ,if_pos hn'];by_cases h1:p<=n
     ·have h2:p<=n/\n-p<ys.length-1:=⟨h1,by omega⟩;rw[if_pos h1,if_pos h2]
     ·have h2:¬(p<=n/\n-p<ys.length-1):=λz=>h1 z.1
      rw[if_neg h1,if_neg h2]
   rw[e]
def AllB.of_cf{k:Nat}{l:Ex}(h:∀n,Bits k (RM.cf l n)):AllB k l:=λx hx=>by
 obtain⟨i,hi,rfl⟩:=OS.mp hx;have:=h i
 rwa [dR hi]at this
def vE{k:Nat}{x:Int}(h:Bits k x):Bits k ((x.natAbs:Nat):Int):=h.of_le (by rw[Nt];exact MI _)
def sg_bits{x:Int}:Bits 1 (sg x):=by show(sg x).natAbs<2^1;unfold sg;split<;>(try split)<;>decide
def kH{k:Nat}{x y:Int}(h:Bits k y):Bits k (sg x*y):=h.of_le (by
 rw[MW];have h2:(sg x).natAbs<=1:=by unfold sg;split<;>(try split)<;>decide
 calc (sg x).natAbs*y.natAbs<=1*y.natAbs:=NJ _ h2
  _=y.natAbs:=Oy _)
theorem Au{xs ys:Ex}{b:Nat}(hx:AllB b xs)(hy:AllB b ys):∀i,AllB (b+i*(b+1)) (aT xs ys i).1/\AllB (b+i*(b+1)) (aT xs ys i).2
 |0=>by rw[Nat.zero_mul];exact⟨AllB.zeros,hx⟩
 |i+1=>by
  obtain⟨h1,h2⟩:=Au hx hy i;have e:b+(i+1)*(b+1)=b+i*(b+1)+b+1:=by rw[Nat.succ_mul];omega
  have hs:Bits b (((RM.cf ys (ys.length-1)).natAbs:Nat):Int):=vE (hy.cf _);rw[e];show AllB _ (dm ys (aT xs ys i) _).1/\AllB _ (dm ys (aT xs ys i) _).2;unfold dm;dsimp only
  constructor
  ·intro x hx;rcases List.mem_or_eq_of_mem_set hx with h |rfl
   ·obtain⟨y,hy',rfl⟩:=M8.mp h;have:=hs.mul (h1 y hy');exact this.mono (by omega)
   ·exact(kH (h2.cf _)).mono (by omega)
  ·refine AllB.of_cf λn=>?_
   rw[oZ];by_cases hn:n<(aM (((RM.cf ys (ys.length-1)).natAbs:Nat):Int) (aT xs ys i).2).length-1
   ·rw[if_pos hn,bA]
    have m1:Bits (b+i*(b+1)+b) ((((RM.cf ys (ys.length-1)).natAbs:Nat):Int)*RM.cf (aT xs ys i).2 n):=by have:=hs.mul (h2.cf n);rwa [Nat.add_comm]at this
    refine m1.sub ?_;by_cases hp:(xs.length+1-ys.length-1-i)<=n
    ·rw[if_pos hp];exact(kH (h2.cf _)).mul (hy.cf _)
    ·rw[if_neg hp];exact Bits.zero
   ·rw[if_neg hn];exact Bits.zero
theorem ir{k:Nat}{b:Int}(h:Bits k b):∀n,Bits (k*n+1) (b^n)
 |0=>by show((b^0:Int)).natAbs<2^(k*0+1);rw[Nq,Nat.mul_zero];decide
 |n+1=>by rw[M6];have:=(ir h n).mul h;exact this.mono (by rw[Nat.mul_succ];omega)
def GG(H:Hp)(Q:VK)(xs ys:Ex):Prop:=∀(t q r:Addr) (H':Hp),Same H H'->H t=none->H q=none->H r=none->q≠r->q≠t->r≠t->H' t=some (.tup [.int (cP xs ys),.ref q,.ref r])->H' q=some (.lst ((cW xs ys).map V.int))->H' r=some (.lst ((bj xs ys).map V.int))->Q (.ref t) H'
def kA:Sp:=λvs H Q _=>∃(a b:Addr) (xs ys:Ex) (n:Nat),vs=[.ref a,.ref b]/\H a=some (.lst (xs.map V.int))/\H b=some (.lst (ys.map V.int))/\ys≠[]/\AllB n xs/\AllB n ys/\(xs.length+2)*(n+1)<=1000000/\ys.length<=1000000/\GG H Q xs ys
def vB{l:Ex}(h:l≠[]):atI (l.map V.int) (-1)=some (.int (cf l (l.length-1))):=by
 obtain⟨r,x,rfl⟩:=(dz l).resolve_left h;have e:(r++[x]).length-1=r.length:=by simp
 rw[e,o7,Nc];exact vC _ _
def Fz(F:Fun K "divided" "divided" rF f fd)(T:Txt K mg)(je:Cal P w K mg base 1 "whole_sign" ["value"] kx uH uw)(dW:Cal P w K mg base 1 "degree" ["row"] iz lY lW)(Bc:Cal P w K mg base 1 "scaled" ["row","factor"] wV LX Lj)(KG:Cal P w K mg base 1 "lowered" ["row","second","place","lead"] xg L9 Ls)(jg:Cal P w K mg base 1 "poly" ["row"] (kt K) uJ uA):FnOk P w K mg base aD 2 f fd ["first","second"] kA:=by
 refine F.ok eV (λvs H Q E h=>?_) (λ_ A _ s H vs Q E hr h=>?_)
 ·obtain⟨a,b,xs,ys,n,rfl,_⟩:=h;rfl
 ·obtain⟨a,b,xs,ys,nb,rfl,hA,hB,hy,bx,by',hsz,hyn,k⟩:=h;have big:=sizeLine_eq;have hu:=hr.units;have hyl:=MR.mpr hy
  have hxl:xs.length<=1000000:=by have:=Oi (xs.length+2) (show 1<=nb+1 by omega);omega
  have bsz:∀i,i<=xs.length->nb+i*(nb+1)<=1000000:=λi hi=>by have h1:=NJ (nb+1) hi;rw[Oh]at hsz;omega
  have hnb:nb<=1000000:=by have:=bsz 0 (MK _);omega
  refine⟨_,(ah (aP (aG (iQ (K:=K) rfl hu) (pv 1) (aU ad))
   (ai iK)
   aR)
   (ah (ak 2 eV (cM eM (by rfl) T.abs_ PyProof.Rows.boot_abs (ac (ce K (pv 1) (bV bU ae)) ad)))
   (ah (ak 3 eV (am je hr (ac (ce K (pv 1) (bV bU ae)) ad)))
   (ah (ak 4 eV (ag aV (ag cg (am dW hr (ac (pv 0) ad)) (am dW hr (ac (pv 1) ad))) ae))
   (ah (ak 5 eV ae)
   (ah (ak 6 eV (ag tf (aU (ac ae ad)) (pv 4)))
   (ah (ak 7 eV (hI (mn (K:=K) rfl) (by rfl) T.list_ PyProof.Rows.boot_list (ac (pv 0) ad)))
   (ah (cT PassesOwn.never rfl (yz rfl T.range_ (ac (ag cg (pv 4) ae) (ac (bV bU ae) (ac (bV bU ae) ad)))) (aY 8 eV)
     (ah (ak 9 eV (ag aE (pv 3) (ce K (pv 7) (bV bU ae))))
       (ah (ak 5 eV (ag aE (pv 5) (pv 2)))
       (ah (ak 6 eV (am Bc hr (ac (pv 6) (ac (pv 2) ad))))
       (ah (eZ (pv 9) (jP (pv 6) (pv 8) jv))
       (ai (ak 7 eV (am KG hr (ac (am Bc hr (ac (pv 7) (ac (pv 2) ad))) (ac (pv 1) (ac (pv 8) (ac (pv 9) ad))))))))))))
   (ai (aB (cL (ac (pv 5) (ac (pv 6) (ac (am jg hr (ac (pv 7) ad)) ad)))))))))))))),?_⟩
  refine cp ⟨_,rfl,MK _,λp1 hp1=>?_⟩;have s1:Same H (upd H p1 (.lst [])):=Same.upd_new hp1;refine⟨b,p1,ys,[],rfl,rfl,SqL.of (s1 _ _ hB),SqL.of ar,_,rfl,aN (λh0=>absurd h0 hy) (λ_=>?_)⟩;generalize upd H p1 (.lst [])=H1 at s1 ⊢
  refine az ⟨_,rfl,_,rfl,b,_,_,_,rfl,rfl,SqL.of (s1 _ _ hB),vB hy,_,rfl,?_⟩;rw[mv];refine az ⟨_,rfl,_,rfl,b,_,_,_,rfl,rfl,SqL.of (s1 _ _ hB),vB hy,_,rfl,?_⟩;refine az ⟨_,rfl,a,_,rfl,s1 _ _ hA,_,rfl,b,_,rfl,s1 _ _ hB,_,_,rfl,rfl,_,_,rfl,rfl,?_⟩;dsimp only
  rw[MC,MC];have est:((xs.length:Int)-1-((ys.length:Int)-1)+1).toNat=bH xs ys:=by unfold bH;omega
  generalize hst:((xs.length:Int)-1-((ys.length:Int)-1)+1)=st at est ⊢
  refine az ?_;refine az ⟨by show 1<=sizeLine;decide,λp2 hp2=>⟨_,rfl,p2,_,_,rfl,rfl,ar,by omega,by omega,by show 1*_<=_;omega,λq hq=>?_⟩⟩;rw[est,sJ];have s2:=s1.then_new (o:=.lst [V.int 0]) hp2;have s3:=s2.then_new (o:=.lst ((List.replicate (bH xs ys) (0:Int)).map V.int)) hq;have fq:H q=none:=s2.free hq;refine az ⟨_,rfl,a,_,rfl,.inl (SqL.of (s3 _ _ hA)),λr hr'=>?_⟩;have hq3:upd (upd H1 p2 (.lst [V.int 0])) q (.lst ((List.replicate (bH xs ys) (0:Int)).map V.int)) q=some (.lst ((List.replicate (bH xs ys) (0:Int)).map V.int)):=ar;have s4:=s3.then_new (o:=.lst (xs.map V.int)) hr';have fr:H r=none:=s3.free hr';have nqr:q≠r:=bh hq3 hr';generalize hH4:upd (upd (upd H1 p2 (.lst [V.int 0])) q (.lst ((List.replicate (bH xs ys) (0:Int)).map V.int))) r (.lst (xs.map V.int))=H4 at s4 ⊢
  have hq4:H4 q=some (.lst ((List.replicate (bH xs ys) (0:Int)).map V.int)):=by rw[<- hH4,upd_ne nqr];exact hq3
  have hr4:H4 r=some (.lst (xs.map V.int)):=by rw[<- hH4,ar]
  have hs:Bits nb (((cf ys (ys.length-1)).natAbs:Nat):Int):=vE (by'.cf _);refine⟨_,rfl,_,_,rfl,rfl,_,rfl,_,rfl,st-1,-1,rfl,by omega,?_⟩;have en:(st-1 - -1).toNat=bH xs ys:=by rw[<- est];congr 1;omega
  rw[en]
  refine zT (λi Q2 H'=>∃(q r:Addr) (z8 z9:Option V),Q2=[some (.ref a),some (.ref b),some (.int ((cf ys (ys.length-1)).natAbs:Nat)),some (.int (sg (cf ys (ys.length-1)))),some (.int st),some (.int (((cf ys (ys.length-1)).natAbs:Int)^i)),some (.ref q),some (.ref r),z8,z9]/\Same H H'/\H q=none/\H r=none/\q≠r/\H' q=some (.lst ((aT xs ys i).1.map V.int))/\H' r=some (.lst ((aT xs ys i).2.map V.int)))
   ⟨q,r,none,none,rfl,s4,fq,fr,nqr,hq4,hr4⟩ ?_ ?_
  ·rintro i Q2 H' hi ⟨q,r,z8,z9,rfl,sm,fq,fr,nqr,hq',hr'⟩;obtain⟨lq,lr,low,_⟩:=i6 (a:=xs) hy i (Om hi);obtain⟨bq,br⟩:=Au bx by' i;have hix:i<xs.length:=by unfold bH at hi;omega
   have bi:=bsz i (Om hix);have rne:(aT xs ys i).2≠[]:=λz=>by rw[z]at lr;simp at lr;omega
   have ep:st-1+(i:Int) * -1=((xs.length+1-ys.length-1-i:Nat):Int):=by unfold bH at hi est;omega
   refine az ⟨_,rfl,_,rfl,_,rfl,r,_,_,_,rfl,rfl,SqL.of hr',vB rne,_,_,rfl,rfl,⟨sg_bits.mono,(br.cf _).mono bi⟩,?_⟩
   have bpow:Bits 1000000 (((cf ys (ys.length-1)).natAbs:Int)^i):=(ir hs i).mono (by
    have:=NJ i (show nb<=nb+1 by omega);rw[Nat.mul_comm (nb+1) i]at this;have h2:=bsz (i+1) hix;rw[Nat.succ_mul]at h2
    omega)
   refine az ⟨_,rfl,_,rfl,_,_,rfl,rfl,⟨bpow,hs.mono hnb⟩,?_⟩;dsimp only
   rw[<- M6];refine az ⟨_,rfl,_,rfl,q,_,_,rfl,hq',by rw[lq];omega,hs.mono hnb,bq.mono bi,λq1 H2 sm2 hq1 eq1=>?_⟩;have fq1:H q1=none:=sm.free hq1;have sm2':=sm.trans sm2;have hpl:xs.length+1-ys.length-1-i<(aM ((cf ys (ys.length-1)).natAbs:Int) (aT xs ys i).1).length:=by rw[dN,lq];unfold bH at hi;omega
   refine⟨_,rfl,_,rfl,_,rfl,q1,_,_,_,rfl,rfl,eq1,lQ ep (by rw[MC];exact hpl),?_⟩;rw[oE];have sm3:Same H (upd H2 q1 (.lst (((aM ((cf ys (ys.length-1)).natAbs:Int) (aT xs ys i).1).set (xs.length+1-ys.length-1-i) (sg (cf ys (ys.length-1))*cf (aT xs ys i).2 ((aT xs ys i).2.length-1))).map V.int))):=fO sm2' fq1;have nq1r:q1≠r:=λz=>by rw[z,hr']at hq1;cases hq1
   have hr3:upd H2 q1 (.lst (((aM ((cf ys (ys.length-1)).natAbs:Int) (aT xs ys i).1).set (xs.length+1-ys.length-1-i) (sg (cf ys (ys.length-1))*cf (aT xs ys i).2 ((aT xs ys i).2.length-1))).map V.int)) r=some (.lst ((aT xs ys i).2.map V.int)):=by rw[upd_ne (Ne.symm nq1r)];exact sm2 _ _ hr'
   have hq3:upd H2 q1 (.lst (((aM ((cf ys (ys.length-1)).natAbs:Int) (aT xs ys i).1).set (xs.length+1-ys.length-1-i) (sg (cf ys (ys.length-1))*cf (aT xs ys i).2 ((aT xs ys i).2.length-1))).map V.int)) q1=some (.lst (((aM ((cf ys (ys.length-1)).natAbs:Int) (aT xs ys i).1).set (xs.length+1-ys.length-1-i) (sg (cf ys (ys.length-1))*cf (aT xs ys i).2 ((aT xs ys i).2.length-1))).map V.int)):=ar;generalize upd H2 q1 (.lst (((aM ((cf ys (ys.length-1)).natAbs:Int) (aT xs ys i).1).set (xs.length+1-ys.length-1-i) (sg (cf ys (ys.length-1))*cf (aT xs ys i).2 ((aT xs ys i).2.length-1))).map V.int))=H3 at sm3 hr3 hq3 ⊢
   refine⟨_,rfl,_,rfl,r,_,_,rfl,hr3,by rw[lr];omega,hs.mono hnb,br.mono bi,λr1 H5 sm5 hr1 er1=>?_⟩;have sm35:=sm3.trans sm5;refine⟨_,rfl,_,rfl,_,rfl,r1,b,_,_,(xs.length+1-ys.length-1-i),sg (cf ys (ys.length-1))*cf (aT xs ys i).2 ((aT xs ys i).2.length-1),?_,er1,sm35 _ _ hB,?_,hy,(kH (br.cf _)).mono bi,by'.mono hnb,λr2 H6 sm6 hr2 er2=>?_⟩
   ·rw[<- ep];rfl
   ·rw[dN,lr];unfold bH at hi;omega
   ·have nqr2:q1≠r2:=λz=>by rw[<- z,sm5 _ _ hq3]at hr2;cases hr2
    exact⟨q1,r2,_,_,rfl,sm35.trans sm6,fq1,sm35.free hr2,nqr2,sm6 _ _ (sm5 _ _ hq3),er2⟩
  ·rintro Q2 H' ⟨q,r,z8,z9,rfl,sm,fq,fr,nqr,hq',hr'⟩;refine⟨_,rfl,_,rfl,_,rfl,r,_,rfl,SqL.of hr',λr1 H2 sm2 hr1 er1=>⟨by show 3<=sizeLine;decide,λt ht=>?_⟩⟩;have nqr1:q≠r1:=λz=>by rw[<- z,hq']at hr1;cases hr1
   have ntq:q≠t:=bh (sm2 _ _ hq') ht;have ntr:r1≠t:=bh er1 ht;refine k t q r1 _ ((sm.trans sm2).then_new ht) ((sm.trans sm2).free ht) fq (sm.free hr1) nqr1 ntq ntr ar ?_ ?_
   ·rw[upd_ne ntq];exact sm2 _ _ hq'
   ·rw[upd_ne ntr];exact er1
def Vp(C:Addr)(H:Hp)(vs:List V)(a r:Addr)(ns:Ex)(t b:Int):Prop:=vs=[.ref a,.ref r]/\H a=some (.lst (ns.map V.int))/\RA C H r t b/\ns.length<=20/\AllB 99500 ns/\Bits 5000 t/\Bits 5000 b
def VpI(H:Hp)(vs:List V)(a:Addr)(ns:Ex)(t b:Int):Prop:=vs=[.ref a,.int t,.int b]/\H a=some (.lst (ns.map V.int))/\ns.length<=20/\AllB 99500 ns/\Bits 5000 t/\Bits 5000 b
def wO:Sp:=λvs H Q _=>∃(a:Addr) (ns:Ex) (t b:Int),VpI H vs a ns t b/\∀(p:Addr) (H':Hp),Same H H'->H p=none->H' p=some (.tup [.int (hv t b ns),.int (b^ns.length)])->Q (.ref p) H'
theorem ui{t b:Int}(bt:Bits 5000 t)(bb:Bits 5000 b):∀{l:Ex},AllB 99500 l->Bits (99500+1+(5000+1)*l.length) (hv t b l)
 | [],_=>by refine Bits.mono (j:=1) ?_ (by omega);show(0:Int).natAbs<2^1;decide
 |v::l,h=>by
  rw[lR];have h1:=h v (M0 ..);have h2:=ui bt bb (l:=l) λx hx=>h x (MV _ hx)
  have e1:=(h1.mul (ir bb (l.length+1))).mono (k:=99500+1+(5000+1)*l.length+5000) (by omega);have e2:=(bt.mul h2).mono (k:=99500+1+(5000+1)*l.length+5000) (by omega);exact(e1.add e2).mono (by rw[Ng];omega)
def EV(F:Fun K "value_parts" "value_parts" qK f fd)(T:Txt K mg):FnOk P w K mg base aD 1 f fd ["row","top","bottom"] wO:=by
 refine F.ok jw (λvs H Q E h=>?_) (λ_ A _ s H vs Q E hr h=>?_)
 ·obtain⟨a,ns,t,b,⟨rfl,_⟩,_⟩:=h;rfl
 ·obtain⟨a,ns,t,b,⟨rfl,hA,hn,hb,bt,bb⟩,k⟩:=h
  refine⟨_,(ah (ak 3 jw ae)
   (ah (ak 4 jw ae)
   (ah (cT PassesOwn.never rfl (sT rfl T.reversed_ (ac (pv 0) ad)) (aY 5 jw)
     (ah (ak 4 jw (ag aE (pv 4) (pv 2)))
       (ai (ak 3 jw (ag aV (ag aE (pv 3) (pv 1)) (ag aE (pv 5) (pv 4)))))))
   (ai (aB (cL (ac (pv 3) (ac (pv 4) ad)))))))),?_⟩
  have hl:(ns.map V.int).length=ns.length:=MC _;refine az ?_;refine az ?_;refine⟨_,rfl,a,_,rfl,SqL.of hA,uq (K:=K) (a:=a) (xs:=ns.map V.int) (λi Q2 H'=>∃z:Option V,Q2=[some (.ref a),some (.int t),some (.int b),some (.int (hv t b (ns.drop (ns.length-i)))),some (.int (b^i)),z]/\H=H') ⟨none,?_,rfl⟩ ?_ ?_ ?_⟩
  ·rw[NO,OU,Nq];rfl
  ·rintro i Q2 H' _ ⟨z,rfl,rfl⟩;exact SqL.of hA
  ·rintro i x Q2 H' hi hx ⟨z,rfl,rfl⟩;rw[hl]at hi hx;obtain⟨c,ec,rfl,hc,_⟩:=ib hx;have hi':i<ns.length:=hi;have e1:ns.length-(i+1)=ns.length-1-i:=by omega
   have hd:=Jw t b (l:=ns) (n:=ns.length-1-i) (by omega);have e2:ns.length-1-i+1=ns.length-i:=by omega
   have e3:ns.length-(ns.length-1-i)=i+1:=by omega
   rw[e2,e3,vc ec]at hd;have bs:=ui bt bb (l:=ns.drop (ns.length-i)) λx hx=>hb x (O1 hx)
   rw[NS]at bs;have bp:=ir bb i;have bq:=ir bb (i+1);refine⟨_,rfl,_,rfl,_,_,rfl,rfl,⟨bp.mono (by omega),bb.mono⟩,?_⟩;refine⟨_,rfl,_,rfl,_,_,rfl,rfl,⟨bs.mono (by omega),bt.mono⟩,_,rfl,_,rfl,_,_,rfl,rfl,⟨(hb c hc).mono,?_⟩,_,_,rfl,rfl,?_⟩
   ·show Bits 1000000 (b^i*b);rw[<- M6];exact bq.mono (by omega)
   refine⟨some (.int c),?_,rfl⟩;rw[e1,hd,M6 b i,Int.add_comm,No t];rfl
  ·rintro Q2 H' ⟨z,rfl,rfl⟩;rw[hl,N0,Ol];exact⟨_,rfl,_,rfl,by show 2<=sizeLine;decide,λp hp=>k p _ (Same.upd_new hp) hp ar⟩
def ky(C:Addr):Sp:=λvs H Q _=>∃(a r:Addr) (ns:Ex) (t b:Int),Vp C H vs a r ns t b/\∀H',Same H H'->Q (.int (sg (hv t b ns))) H'
def E4(F:Fun K "sign_at" "sign_at" qS f fd)(T:Txt K mg)(R:RCI K mg C)(Kr:Cal P w K mg base 1 "value_parts" ["row","top","bottom"] wO LP Ld)(je:Cal P w K mg base 1 "whole_sign" ["value"] kx uH uw):FnOk P w K mg base aD 2 f fd ["row","ratio"] (ky C):=by
 refine F.ok C4 (λvs H Q E h=>?_) (λ_ A _ s H vs Q E hr h=>?_)
 ·obtain⟨a,r,ns,t,b,⟨rfl,_⟩,_⟩:=h;rfl
 ·obtain⟨a,r,ns,t,b,hV,k⟩:=h;obtain⟨rfl,hA,⟨dx,hR⟩,hn,hbs,bt,bb⟩:=hV;refine⟨_,(ai (aB (am je hr (ac (aS K (am Kr hr (ac (pv 0) (ac (aQ (K:=K) rfl (pv 1) rfl) (ac (aQ (K:=K) rfl (pv 1) rfl) ad)))) ae) ad)))),?_⟩;refine⟨_,rfl,_,rfl,r,C,dx,_,_,rfl,hR,R.cl,R.nT,c7,_,rfl,r,C,dx,_,_,rfl,hR,R.cl,R.nB,ci,a,ns,t,b,⟨rfl,hA,hn,hbs,bt,bb⟩,λp H1 s1 hp e1=>?_⟩;exact⟨p,_,_,_,rfl,rfl,SqT.of e1,rfl,_,rfl,k H1 s1⟩
def b60:Bits 200 (10^60):=by show((10:Int)^60).natAbs<2^200;decide +kernel
def pj{xs:List V}{n:Int}(hn:n=xs.length)(h:0<n)(c:Int):∃v,v∈xs/\atI xs (c%n)=some v:=by
 have h1:=Int.emod_nonneg c (M7 h);have h2:=O0 c h;obtain⟨j,hj⟩:=OP h1;have hl:j<xs.length:=by omega
 refine⟨xs[j],NM hl,?_⟩;rw[hj];exact gQ (by simp[hl])
def Fit(one other:Ex):Prop:=Tr one/\Tr other/\∃n,AllB n one/\AllB n other/\(one.length+2)*(n+1)<=1000000/\other.length<=1000000
noncomputable def Run:Nat->Ex->Ex->Prop
 |0,one,_=>one=[]
 |n+1,one,other=>one=[]\/(Fit one other/\Run n other (aO one other))
def ze(H:Hp)(Q:VK)(xss:List Ex):Prop:=∀(l:Addr) (ps:List Addr) (H':Hp),Same H H'->H l=none->(∀p∈ps,H p=none/\p≠l)->H' l=some (.lst (ps.map V.ref))->RwH H' ps xss->Q (.ref l) H'
def RwH.upd_ne{H:Hp}{ps:List Addr}{xss:List Ex}{a:Addr}{o:HO}(h:RwH H ps xss)(hn:∀p∈ps,p≠a):RwH (upd H a o) ps xss:=⟨h.1,λi p xs e1 e2=>by rw[L2.upd_ne (hn p (List.mem_of_getElem? e1))];exact h.2 i p xs e1 e2⟩
def wY:Sp:=λvs H Q _=>∃(a b:Addr) (xs ys:Ex) (n:Nat),vs=[.ref a,.ref b]/\H a=some (.lst (xs.map V.int))/\H b=some (.lst (ys.map V.int))/\Tr xs/\Tr ys/\xs.length<=1000/\ys.length<=1000/\n<=1000/\Run n (al xs) (al ys)/\ze H Q (bR n (al xs) (al ys))
def Fa(F:Fun K "row_from" "row_from" qX f fd)(T:Txt K mg)(mz:Cal P w K mg base 33 "shrunk" ["row"] pZ IV Ir)(jh:Cal P w K mg base 2 "divided" ["first","second"] kA uL uD)(Ks:Cal P w K mg base 2 "taken" ["first","second"] (mS K cQ) LQ Le):FnOk P w K mg base aD 34 f fd ["first","second"] wY:=by
 refine F.ok iD (λvs H Q E h=>?_) (λ_ A _ s H vs Q E hr h=>?_)
 ·obtain⟨a,b,xs,ys,n,rfl,_⟩:=h;rfl
 ·obtain⟨a,b,xs,ys,n,rfl,hA,hB,xtr,ytr,hx,hy,hn,hrun,k⟩:=h;have big:=sizeLine_eq;have hu:=hr.units
  refine⟨_,(ah (ak 2 iD (aU ad))
   (ah (ak 3 iD (am mz hr (ac (pv 0) ad)))
   (ah (ak 4 iD (am mz hr (ac (pv 1) ad)))
   (ah (gD PassesOwn.never (aG (hZ (K:=K) rfl hu) (pv 3) (aU ad))
     (ah (dU (ga (pv 2) (ac (pv 3) ad)))
       (ah (ak 5 iD (sX (aG (iQ (K:=K) rfl hu) (pv 4) (aU ad)) (aU ad) (aS K (am jh hr (ac (pv 3) (ac (pv 4) ad))) ae)))
       (ah (ak 3 iD (pv 4))
       (ai (ak 4 iD (am mz hr (ac (am Ks hr (ac (aU ad) (ac (pv 5) ad))) ad))))))))
   (ai (aB (pv 2))))))),?_⟩
  refine az ⟨MK _,λl hl=>?_⟩;have s1:=Same.upd_new (o:=.lst []) hl;have hl1:upd H l (.lst []) l=some (.lst (([]:List Addr).map V.ref)):=ar;generalize upd H l (.lst [])=H1 at s1 hl1 ⊢
  refine az ⟨_,rfl,a,xs,rfl,s1 _ _ hA,xtr,by omega,λp1 H2 sm2 hp1 e1=>?_⟩;have s2:=s1.trans sm2;refine az ⟨_,rfl,b,ys,rfl,s2 _ _ hB,ytr,by omega,λp2 H3 sm3 hp2 e2=>?_⟩;have s3:=s2.trans sm3;have n1l:p1≠l:=λz=>by rw[z,hl1]at hp1;cases hp1
  have n2l:p2≠l:=λz=>by rw[z,sm2 _ _ hl1]at hp2;cases hp2
  generalize al xs=one' at hrun k e1
  generalize al ys=other at hrun k e2
  refine⟨λm Q2 H'=>∃(po pt:Addr) (one other':Ex) (ps:List Addr) (acc:List Ex) (z5:Option V),Q2=[some (.ref a),some (.ref b),some (.ref l),some (.ref po),some (.ref pt),z5]/\Same H H'/\H' l=some (.lst (ps.map V.ref))/\RwH H' ps acc/\(∀p∈ps,H p=none/\p≠l)/\H' po=some (.lst (one.map V.int))/\H' pt=some (.lst (other'.map V.int))/\H po=none/\H pt=none/\po≠l/\pt≠l/\Run m one other'/\acc++bR m one other'=bR n one' other/\ps.length+m<=1000,
   ⟨_,p1,p2,one',other,[],[],none,rfl,s3,sm3 _ _ (sm2 _ _ hl1),RwH.nil,(λp hp=>nomatch hp),sm3 _ _ e1,e2,s1.free hp1,s2.free hp2,n1l,n2l,hrun,rfl,by show 0+n<=1000;omega⟩,?_⟩
  rintro m Q2 H4 ⟨po,pt,one,other',ps,acc,z5,rfl,s4,hl4,hR4,hf4,ho4,ht4,fo,ft,nol,ntl,hrun4,hacc,hlen⟩;refine⟨_,rfl,MK _,λq hq=>?_⟩;have t5:=Same.upd_new (o:=.lst []) hq;refine⟨po,q,one,[],rfl,rfl,SqL.of (t5 _ _ ho4),SqL.of ar,_,rfl,de (λhne=>?_) (λhe=>?_)⟩
  rotate_left
  ·have he':one=[]:=he;subst he';rw[kT,Of]at hacc;refine⟨_,rfl,k l ps _ (s4.trans t5) hl hf4 (t5 _ _ hl4) ?_⟩;rw[<- hacc];exact hR4.same t5
  have hne':one≠[]:=hne
  obtain⟨m1,rfl⟩:∃m1,m=m1+1:=by
   cases m with
   |zero=>exact absurd hrun4 hne'
   |succ m1=>exact⟨m1,rfl⟩
  obtain⟨⟨otr,ttr,nb,bo,bt,hsz,htl⟩,hrun5⟩:=(show one=[]\/(Fit one other'/\Run m1 other' (aO one other'))from hrun4).resolve_left hne'
  have hacc5:(acc++[one])++bR m1 other' (aO one other')=bR n one' other:=by rw[<- hacc];show _=acc++(if one=[]then[]else one::bR m1 other' (aO one other'));rw[if_neg hne',Os];rfl
  generalize hH5:upd H4 q (.lst [])=H5 at t5 ⊢
  refine⟨_,λ_ _ h=>h,?_⟩;have hl5:=t5 _ _ hl4;refine gA ⟨_,rfl,.inl ⟨rfl,_,SqL.of hl5⟩,_,rfl,l,_,_,rfl,rfl,hl5,by rw[MC];omega,?_⟩;rw[GM];have s6:Same H (upd H5 l (.lst ((ps++[po]).map V.ref))):=fO (s4.trans t5) hl;have hl6:upd H5 l (.lst ((ps++[po]).map V.ref)) l=some (.lst ((ps++[po]).map V.ref)):=ar
  have hf6:∀p∈ps++[po],H p=none/\p≠l:=λp hp=>by
   rcases MS.mp hp with h |h
   ·exact hf4 p h
   ·rw[MH.mp h];exact⟨fo,nol⟩
  have hR6:RwH (upd H5 l (.lst ((ps++[po]).map V.ref))) (ps++[po]) (acc++[one]):=((hR4.same t5).snoc (t5 _ _ ho4)).upd_ne λp hp=>(hf6 p hp).2
  have ho6:upd H5 l (.lst ((ps++[po]).map V.ref)) po=some (.lst (one.map V.int)):=by rw[L2.upd_ne nol];exact t5 _ _ ho4
  have ht6:upd H5 l (.lst ((ps++[po]).map V.ref)) pt=some (.lst (other'.map V.int)):=by rw[L2.upd_ne ntl];exact t5 _ _ ht4
  generalize upd H5 l (.lst ((ps++[po]).map V.ref))=H6 at s6 hl6 hR6 ho6 ht6 ⊢
  refine DP (λQ2 H'=>∃pr:Addr,Q2=[some (.ref a),some (.ref b),some (.ref l),some (.ref po),some (.ref pt),some (.ref pr)]/\Same H6 H'/\H' pr=some (.lst ((rst one other').map V.int))) ?_ ?_
  case refine_2 =>
   intro rest;refine cK (DO ⟨_,rfl,MK _,λq2 hq2=>?_⟩);have t7:=Same.upd_new (o:=.lst []) hq2;refine⟨pt,q2,other',[],rfl,rfl,SqL.of (t7 _ _ ht6),SqL.of ar,_,rfl,aN (λh0=>?_) (λh0=>?_)⟩
   ·have h0':other'=[]:=h0;refine⟨MK _,λq3 hq3=>rest _ _ ⟨q3,rfl,t7.then_new hq3,?_⟩⟩;rw[ar];unfold rst;rw[if_pos h0'];rfl
   ·have h0':other'≠[]:=h0;refine⟨_,rfl,_,rfl,po,pt,one,other',nb,rfl,t7 _ _ ho6,t7 _ _ ht6,h0',bo,bt,hsz,htl,λt q' r H8 sm8 _ _ _ _ _ _ et _ er=>?_⟩;refine⟨t,_,_,_,rfl,rfl,SqT.of et,rfl,rest _ _ ⟨r,rfl,t7.trans sm8,?_⟩⟩;rw[er];unfold rst;rw[if_neg h0']
  rintro Q2 H8 ⟨pr,rfl,t8,hr8⟩;refine az ⟨_,rfl,?_⟩;refine cK ⟨MK _,λq hq=>?_⟩;have t9:=t8.then_new (o:=.lst []) hq
  have hrl:(rst one other').length<=1000000:=by
   unfold rst;split
   ·exact MK _
   ·rename_i h0
    have:=ig (a:=one) h0;omega
  refine⟨_,rfl,q,pr,[],rst one other',rfl,SqL.of ar,SqL.of (by rw[L2.upd_ne (bh hr8 hq)];exact hr8),MK _,hrl,λp9 H9 sm9 hp9 e9=>?_⟩;have hsl:(cQ [] (rst one other')).length<=1000000:=MU (ub _) (by unfold gK;rw[MC,Ny];exact Nat.max_le.mpr ⟨MK _,hrl⟩);refine⟨p9,_,rfl,e9,fD _,hsl,λp10 H10 sm10 hp10 e10=>?_⟩;have t10:Same H6 H10:=(t9.trans sm9).trans sm10;have f10:H6 p10=none:=(t9.trans sm9).free hp10;refine⟨m1,NR _,pt,p10,other',aO one other',ps++[po],acc++[one],_,rfl,s6.trans t10,t10 _ _ hl6,hR6.same t10,hf6,t10 _ _ ht6,e10,ft,s6.free f10,ntl,(λz=>by rw[z,hl6]at f10;cases f10),hrun5,hacc5,by rw[MY];show ps.length+1+m1<=1000;omega⟩
def mO:Sp:=λvs H Q _=>∃(a:Addr) (xs:Ex) (n:Nat),vs=[.ref a]/\H a=some (.lst (xs.map V.int))/\Tr xs/\AllB 90000 xs/\xs.length<=1000/\n<=1000/\Run n (al xs) (al (slopeL xs))/\ze H Q (bR n (al xs) (al (slopeL xs)))
def pP{xs:Ex}(h:Tr xs):Tr (slopeL xs):=by
 intro n hn;unfold slopeL at *
 rw[MC,Ny]at hn;rw[mj,if_pos (by omega)];exact Na (by omega) (h (n+1) (by omega))
def E9(F:Fun K "row_of" "row_of" qW f fd)(T:Txt K mg)(Kx:Cal P w K mg base 34 "row_from" ["first","second"] wY LY Lk)(vM:Cal P w K mg base 1 "slope" ["row"] (sp1 slopeL) IU Iq):FnOk P w K mg base aD 35 f fd ["polynomial"] mO:=by
 refine F.ok Db (λvs H Q E h=>?_) (λ_ A _ s H vs Q E hr h=>?_)
 ·obtain⟨a,xs,n,rfl,_⟩:=h;rfl
 ·obtain⟨a,xs,n,rfl,hA,xtr,bx,hx,hn,hrun,k⟩:=h;refine⟨_,(ai (aB (am Kx hr (ac (pv 0) (ac (am vM hr (ac (pv 0) ad)) ad))))),?_⟩;refine bC ⟨_,rfl,_,rfl,a,xs,rfl,hA,by omega,bx.mono,λp H1 s1 hp e1=>?_⟩;have hsl:(slopeL xs).length<=1000:=by unfold slopeL;rw[MC,Ny];omega
  exact⟨a,p,xs,slopeL xs,n,rfl,s1 _ _ hA,e1,xtr,pP xtr,hx,hsl,hn,hrun,λl ps H' sm hl hf e r=>k l ps H' (s1.trans sm) (s1.free hl) (λp hp=>⟨s1.free (hf p hp).1,(hf p hp).2⟩) e r⟩
noncomputable def sgs(t b:Int)(xss:List Ex):Ex:=xss.map λp=>sg (hv t b p)
def qt(C:Addr):Sp:=λvs H Q _=>∃(l r:Addr) (ps:List Addr) (xss:List Ex) (t b:Int),vs=[.ref l,.ref r]/\H l=some (.lst (ps.map V.ref))/\RwH H ps xss/\RA C H r t b/\Bits 5000 t/\Bits 5000 b/\(∀xs∈xss,xs.length<=20/\AllB 99500 xs)/\xss.length<=1000000/\∀H',Same H H'->Q (.int (chS (sgs t b xss)).1) H'
def CC(t b:Int)(xss:List Ex):∀s∈sgs t b xss,s.natAbs<=1:=λs hs=>by obtain⟨x,_,rfl⟩:=M8.mp hs;exact xI _
def CB{t b:Int}{xss:List Ex}{i:Nat}{xs:Ex}(h:xss[i]?=some xs):sgs t b (xss.take (i+1))=sgs t b (xss.take i)++[sg (hv t b xs)]:=by unfold sgs;rw[NG,h,Nc];rfl
def yK{x:Int}(h:x.natAbs<=1):Bits 1000000 x:=Bits.mono (j:=1) (Nu h (by decide)) (by decide)
def FE(F:Fun K "changes" "changes" rL f fd)(T:Txt K mg)(R:RCI K mg C)(jf:Cal P w K mg base 2 "sign_at" ["row","ratio"] (ky C) uI uz):FnOk P w K mg base aD 3 f fd ["row","ratio"] (qt C):=by
 refine F.ok iF (λvs H Q E h=>?_) (λ_ A _ s H vs Q E hr h=>?_)
 ·obtain⟨l,r,ps,xss,t,b,rfl,_⟩:=h;rfl
 ·obtain⟨l,r,ps,xss,t,b,rfl,hL,hR,hRA,bt,bb,hb,hn,k⟩:=h
  refine⟨_,(ah (ak 2 iF ae)
   (ah (ak 3 iF ae)
   (ah (cT PassesOwn.never rfl (fe (K:=K) rfl (pv 0)) (aY 4 iF)
     (ah (ak 5 iF (am jf hr (ac (pv 4) (ac (pv 1) ad))))
       (ah (aP (aG dJ (ag aE (pv 5) (pv 3)) ae)
         (ai (ak 2 iF (ag aV (pv 2) ae)))
         aR)
       (ai (aP (aG gJ (pv 5) ae)
         (ai (ak 3 iF (pv 5)))
         aR)))))
   (ai (aB (pv 2)))))),?_⟩
  have hpl:(ps.map V.ref).length=xss.length:=by rw[MC,hR.1]
  refine az ?_;refine az ?_;refine⟨_,rfl,l,rfl,⟨_,SqL.of hL⟩,lU (K:=K) (a:=l) (xs:=ps.map V.ref) (λi Q2 H'=>∃(z4 z5:Option V),Q2=[some (.ref l),some (.ref r),some (.int (chS (sgs t b (xss.take i))).1),some (.int (chS (sgs t b (xss.take i))).2),z4,z5]/\Same H H') ⟨none,none,rfl,λ_ _ e=>e⟩ ?_ ?_ ?_⟩
  ·rintro i Q2 H' _ ⟨z4,z5,rfl,sm⟩;exact SqL.of (sm _ _ hL)
  ·rintro i x Q2 H1 hi ⟨z4,z5,rfl,s1⟩;obtain⟨p,xs,rfl,ep,ex,hp,hlt⟩:=hR.of_get hi;obtain⟨hx1,hx2⟩:=hb xs (List.mem_of_getElem? ex);show cx (dS _ (fU 5)) _ _ _ _;refine az ⟨_,rfl,_,rfl,p,r,xs,t,b,⟨rfl,s1 _ _ hp,hRA.same s1,hx1,hx2,bt.mono,bb.mono⟩,λH2 sm2=>?_⟩;have s2:=s1.trans sm2;obtain⟨c1,c2,c3⟩:=JJ _ (CC t b (xss.take i));rw[CB ex,AI];have hs:=xI (hv t b xs);generalize sg (hv t b xs)=s at hs ⊢
   generalize chS (sgs t b (xss.take i))=z at c1 ⊢
   obtain⟨m,bf⟩:=z;dsimp only
   refine kY (λQ2 H'=>Q2=[some (.ref l),some (.ref r),some (.int (if s*bf<0 then m+1 else m)),some (.int bf),some (.ref p),some (.int s)]/\H2=H') ?_ ?_
   case refine_2 =>
    intro rest;refine⟨_,rfl,_,rfl,_,_,rfl,rfl,⟨yK hs,yK c1⟩,_,_,rfl,rfl,_,rfl,aN (λh1=>?_) (λh1=>?_)⟩
    ·refine cK ⟨_,rfl,_,_,rfl,rfl,rest _ _ ⟨?_,rfl⟩⟩;rw[if_pos h1];rfl
    ·refine rest _ _ ⟨?_,rfl⟩;rw[if_neg h1];rfl
   rintro Q2 H' ⟨rfl,rfl⟩;refine⟨_,rfl,_,_,rfl,rfl,_,rfl,de (λh1=>?_) (λh1=>?_)⟩
   ·refine cK ⟨_,rfl,some (.ref p),some (.int s),?_,s2⟩;unfold chF;have h1':¬s=0:=h1;rw[if_neg h1'];rfl
   ·refine⟨some (.ref p),some (.int s),?_,s2⟩;unfold chF;have h1':s=0:=h1;rw[if_pos h1']
  ·rintro Q2 H' ⟨z4,z5,rfl,sm⟩;rw[hpl,NU];exact⟨_,rfl,k H' sm⟩
def qr(C:Addr):Sp:=λvs H Q _=>∃(l r r2:Addr) (ps:List Addr) (xss:List Ex) (t b t2 b2:Int),vs=[.ref l,.ref r,.ref r2]/\H l=some (.lst (ps.map V.ref))/\RwH H ps xss/\RA C H r t b/\RA C H r2 t2 b2/\Bits 5000 t/\Bits 5000 b/\Bits 5000 t2/\Bits 5000 b2/\(∀xs∈xss,xs.length<=20/\AllB 99500 xs)/\xss.length<=1000000/\∀H',Same H H'->Q (.int ((chS (sgs t b xss)).1-(chS (sgs t2 b2 xss)).1)) H'
def FB(F:Fun K "count" "count" rH f fd)(T:Txt K mg)(R:RCI K mg C)(ki:Cal P w K mg base 3 "changes" ["row","ratio"] (qt C) Jd ID):FnOk P w K mg base aD 4 f fd ["row","low","high"] (qr C):=by
 refine F.ok Di (λvs H Q E h=>?_) (λ_ A _ s H vs Q E hr h=>?_)
 ·obtain⟨l,r,r2,ps,xss,t,b,t2,b2,rfl,_⟩:=h;rfl
 ·obtain⟨l,r,r2,ps,xss,t,b,t2,b2,rfl,hL,hR,h1,h2,bt,bb,bt2,bb2,hb,hn,k⟩:=h;refine⟨_,(ai (aB (ag cg (am ki hr (ac (pv 0) (ac (pv 1) ad))) (am ki hr (ac (pv 0) (ac (pv 2) ad)))))),?_⟩;refine bC ⟨_,rfl,_,rfl,l,r,ps,xss,t,b,rfl,hL,hR,h1,bt,bb,hb,hn,λH1 s1=>?_⟩;refine⟨_,rfl,_,rfl,l,r2,ps,xss,t2,b2,rfl,s1 _ _ hL,hR.same s1,h2.same s1,bt2,bb2,hb,hn,λH2 s2=>?_⟩;exact⟨_,_,rfl,rfl,k _ (s1.trans s2)⟩
def A7(i:Int):(if i<0 then -i else i)=(i.natAbs:Int):=by split<;>omega
def Ka{l:Ex}(h:l≠[]):atI (l.map V.int) (-1)=some (.int (ao l)):=by obtain⟨r,x,rfl⟩:=(dz l).resolve_left h;rw[fS,Nc];exact vC _ _
def JC{l:Ex}:ka l none (some (-1))=l.take (l.length-1):=by
 unfold ka;rw[HT.sIx_none]
 have e:HT.sIx l.length l.length (some (-1))=l.length-1:=by unfold HT.sIx;simp;omega
 rw[e,Ol,NO]
def isB(os:Ex)(l k:Nat):Prop:=(∀x∈os,x.natAbs<=(2^k-1)*l)/\∀j,j<k->∃x∈os,(2^j-1)*l<x.natAbs
def mR(K:PySem.W.Frag):Sp:=λvs H Q _=>∃(a:Addr) (ns:Ex),vs=[.ref a]/\SqL K H a (ns.map V.int)/\Tr ns/\ns≠[]/\ns.length<=100000/\AllB 100000 ns /\
 ∀(k:Nat) (H':Hp),k<=100000->isB (ns.take (ns.length-1)) (ao ns).natAbs k->Same H H'->Q (.int ((2^k:Nat):Int)) H'
def DZ{os:Ex}{F:Int->Prop}(h:∀g:Nat,(∀x∈os,x.natAbs<=g)->(g=0\/∃x∈os,x.natAbs=g)->F g) :
 (∀M,M∈os.map (λx=>(x.natAbs:Int))->(∀a∈os.map (λx=>(x.natAbs:Int)),a<=M)->F M)/\(os.map (λx=>(x.natAbs:Int))=[]->F 0):=by
 constructor
 ·intro M hM ha;obtain⟨x,hx,rfl⟩:=M8.mp hM;exact h x.natAbs (λy hy=>Int.ofNat_le.mp (ha _ (M8.mpr ⟨y,hy,rfl⟩))) (.inr ⟨x,hx,rfl⟩)
 ·intro e;have:os=[]:=List.map_eq_nil_iff.mp e;subst this;exact h 0 (λx hx=>nomatch hx) (.inl rfl)
def FG(F:Fun K "bound" "bound" rN f fd)(T:Txt K mg):FnOk P w K mg base aD 1 f fd ["row"] (mR K):=by
 refine F.ok kO (λvs H Q E h=>?_) (λ_ A _ s H vs Q E hr h=>?_)
 ·obtain⟨a,ns,rfl,_⟩:=h;rfl
 ·obtain⟨a,ns,rfl,hA,ht,hne,hn,hb,k⟩:=h;have big:=sizeLine_eq
  refine⟨_,(ah (ak 1 kO (cM eM (by rfl) T.abs_ PyProof.Rows.boot_abs (ac (ce K (pv 0) (bV bU ae)) ad)))
   (ah (ak 2 kO (ED (K:=K) rfl rfl (by rfl) T.max_ (f8 (own:=["value"]) (fr:=[]) (js:=[]) (by walk_at "comp_ok") rfl (fe (K:=K) rfl (oe (mU (K:=K) rfl) (pv 0) nZ (nY (bV bU ae)))) (λ_ _ _ _=>(fM (i:=0) (show List.Nodup (["value"]:List Str)from by decide +kernel) rfl (Or.inl rfl))) (λ_ _ _ _=>(cM eM (by rfl) T.abs_ PyProof.Rows.boot_abs (ac (pv 0) ad)))) ae))
   (ah (ak 3 kO ae)
   (ah (gD PassesOwn.never (aG dJ (ag aE (ag cg (pv 3) ae) (pv 1)) (pv 2))
     (ai (ak 3 kO (ag aE ae (pv 3)))))
   (ai (aB (pv 3))))))),?_⟩
  refine az ⟨_,rfl,_,rfl,a,_,_,_,rfl,rfl,hA,Ka hne,_,rfl,?_⟩;rw[A7]
  have hl0:ao ns≠0:=by obtain⟨r,x,rfl⟩:=(dz ns).resolve_left hne;rw[fS];exact tr_snoc.mp ht
  generalize hL:(ao ns).natAbs=L at k ⊢
  have hL1:1<=L:=by omega
  have bL:Bits 100000 (L:Int):=by obtain⟨r,x,rfl⟩:=(dz ns).resolve_left hne;rw[fS]at hL;exact(hb x (by simp)).of_le (by omega)
  refine az ⟨_,rfl,_,rfl,_,rfl,a,_,rfl,hA,λp1 hp1=>?_⟩;rw[uT,JC];have s1:Same H (upd H p1 (.lst ((ns.take (ns.length-1)).map V.int))):=Same.upd_new hp1;have q1:upd H p1 (.lst ((ns.take (ns.length-1)).map V.int)) p1=some (.lst ((ns.take (ns.length-1)).map V.int)):=ar;generalize hO:ns.take (ns.length-1)=os at k s1 q1 ⊢
  generalize upd H p1 (.lst (os.map V.int))=H1 at s1 q1 ⊢
  have bO:AllB 100000 os:=λx hx=>hb x (O2 (hO ▸ hx))
  have lO:os.length<=100000:=by rw[<- hO,NK];omega
  refine⟨p1,rfl,⟨_,SqL.of q1⟩,i7 (K:=K) (a:=p1) (xs:=os.map V.int) (λi ys Q2 H'=>∃(z0:Option V),Q2=[z0]/\ys=((os.take i).map λx=>(x.natAbs:Int)).map V.int/\H1=H') (by rw[MC];omega) ⟨none,rfl,rfl,rfl⟩ ?_ ?_ ?_⟩
  ·rintro i ys Q2 H' _ ⟨z0,rfl,rfl,rfl⟩;exact⟨SqL.of q1,by rw[MC,MC,NK];exact OT _ _⟩
  ·rintro i x ys Q2 H' hi ⟨z0,rfl,rfl,rfl⟩;rw[List.getElem?_map]at hi;cases e:os[i]? with
   |none=>rw[e]at hi;cases hi
   |some c =>rw[e]at hi;obtain rfl:=Option.some.inj hi;refine⟨_,rfl,_,rfl,_,rfl,?_,rfl⟩;rw[NG,e,A7];simp
  ·rintro ys Q2 H' p ⟨z0,rfl,rfl,rfl⟩ hp;rw[MC,NU];have s2:Same H (upd H1 p (.lst ((os.map λx=>(x.natAbs:Int)).map V.int))):=s1.then_new hp;refine⟨p,_,rfl,SqL.of ar,?_⟩;generalize upd H1 p (.lst ((os.map λx=>(x.natAbs:Int)).map V.int))=H2 at s2 ⊢
   refine And.symm (DZ λg hg1 hg2=>?_)
   have bg:g<2^100000:=by
    rcases hg2 with rfl |⟨x,hx,rfl⟩
    ·exact Ou (by decide)
    ·exact bO x hx
   refine az ?_;refine⟨λm Q2 H'=>∃k0:Nat,Q2=[some (.ref a),some (.int L),some (.int g),some (.int ((2^k0:Nat):Int))]/\H2=H'/\2*g+2-2^k0=m/\2^k0<=2*g+1/\∀j,j<k0->(2^j-1)*L<g,⟨_,0,rfl,rfl,rfl,by omega,λj hj=>absurd hj (OB _)⟩,?_⟩;rintro m Q2 H' ⟨k0,rfl,rfl,rfl,h2,h3⟩
   have hk0:k0<=100000:=by
    have e:2^k0<2^100001:=by rw[Nat.pow_succ 2 100000];omega
    have:=(OJ (a:=2) (by decide)).mp e;omega
   have hp:1<=2^k0:=Ou (by decide)
   have bk:Bits 100002 ((2^k0:Nat):Int):=by show((2^k0:Nat):Int).natAbs<_;rw[Nt];exact(OJ (a:=2) (by decide)).mpr (by omega)
   have bk1:Bits 100002 (((2^k0:Nat):Int)-1):=bk.of_le (by omega)
   have cast:(((2^k0:Nat):Int)-1)*(L:Int)=(((2^k0-1)*L:Nat):Int):=by rw[Int.natCast_mul,Int.natCast_sub hp];rfl
   refine⟨_,rfl,_,_,rfl,rfl,_,rfl,_,_,rfl,rfl,⟨bk1.mono,bL.mono⟩,_,rfl,_,_,rfl,rfl,_,rfl,?_⟩;rw[cast];refine aN (λhlt=>?_) (λhge=>?_)
   ·have hlt':(2^k0-1)*L<g:=by exact OC.mp hlt
    have h4:2^k0-1<g:=Nu (OR _ hL1) hlt';refine⟨_,λ_ _ h=>h,?_⟩;refine⟨_,rfl,_,_,rfl,rfl,⟨Bits.mono (j:=2) (by show(2:Int).natAbs<2^2;decide) (by decide),bk.mono⟩,?_⟩;have e2:(2:Int)*((2^k0:Nat):Int)=((2^(k0+1):Nat):Int):=by rw[Nat.pow_succ];omega
    have e3:2^(k0+1)=2*2^k0:=by rw[Nat.pow_succ];omega
    refine⟨2*g+2-2^(k0+1),by omega,k0+1,by rw[<- e2];rfl,rfl,rfl,by omega,λj hj=>?_⟩;by_cases ej:j=k0
    ·subst ej;exact hlt'
    ·exact h3 j (by omega)
   ·have hge':¬(2^k0-1)*L<g:=λz=>hge (OC.mpr z)
    refine⟨_,rfl,k k0 H2 hk0 ⟨λx hx=>MU (hg1 x hx) (by omega),λj hj=>?_⟩ s2⟩;have h5:=h3 j hj;rcases hg2 with rfl |⟨x,hx,e⟩
    ·exact absurd h5 (OB _)
    ·exact⟨x,hx,by rw[e];exact h5⟩
def vJ(one other:Ex):Prop:=Tr one/\Tr other/\∃n,AllB n one/\AllB n other/\(one.length+2)*(n+1)<=1000000/\other.length<=1000000
noncomputable def mw:Nat->Ex->Ex->Prop
 |0,_,other=>other=[]
 |n+1,one,other=>other=[]\/(vJ one other/\mw n other (au (bj one other)))
def xt:Sp:=λvs H Q _=>∃(a b:Addr) (xs ys:Ex) (n:Nat),vs=[.ref a,.ref b]/\H a=some (.lst (xs.map V.int))/\H b=some (.lst (ys.map V.int))/\Tr xs/\Tr ys/\xs.length<=1000/\ys.length<=1000/\mw n (au xs) (au ys)/\mkL H Q (c9 n (au xs) (au ys))
def FC(F:Fun K "common" "common" rJ f fd)(T:Txt K mg)(gS:Cal P w K mg base 34 "plain" ["row"] kz uK uC)(jh:Cal P w K mg base 2 "divided" ["first","second"] kA uL uD):FnOk P w K mg base aD 35 f fd ["first","second"] xt:=by
 refine F.ok jB (λvs H Q E h=>?_) (λ_ A _ s H vs Q E hr h=>?_)
 ·obtain⟨a,b,xs,ys,n,rfl,_⟩:=h;rfl
 ·obtain⟨a,b,xs,ys,n,rfl,hA,hB,xtr,ytr,hx,hy,hrun,k⟩:=h;have big:=sizeLine_eq;have hu:=hr.units
  refine⟨_,(ah (ak 2 jB (am gS hr (ac (pv 0) ad)))
   (ah (ak 3 jB (am gS hr (ac (pv 1) ad)))
   (ah (gD PassesOwn.never (aG (hZ (K:=K) rfl hu) (pv 3) (aU ad))
     (ah (ak 4 jB (am gS hr (ac (aS K (am jh hr (ac (pv 2) (ac (pv 3) ad))) ae) ad)))
       (ah (ak 2 jB (pv 3))
       (ai (ak 3 jB (pv 4))))))
   (ai (aB (pv 2)))))),?_⟩
  refine az ⟨_,rfl,a,xs,rfl,hA,xtr,by omega,λp1 H1 s1 hp1 e1=>?_⟩;refine az ⟨_,rfl,b,ys,rfl,s1 _ _ hB,ytr,by omega,λp2 H2 sm2 hp2 e2=>?_⟩;have s2:=s1.trans sm2;generalize au xs=one' at hrun k e1
  generalize au ys=other' at hrun k e2
  refine⟨λm Q2 H'=>∃(po pt:Addr) (one other:Ex) (z4:Option V),Q2=[some (.ref a),some (.ref b),some (.ref po),some (.ref pt),z4]/\Same H H'/\H' po=some (.lst (one.map V.int))/\H' pt=some (.lst (other.map V.int))/\H po=none/\H pt=none/\mw m one other/\c9 m one other=c9 n one' other',
   ⟨_,p1,p2,one',other',none,rfl,s2,sm2 _ _ e1,e2,hp1,s1.free hp2,hrun,rfl⟩,?_⟩
  rintro m Q2 H3 ⟨po,pt,one,other,z4,rfl,s3,ho,ht,fo,ft,hrun3,hcom⟩;refine⟨_,rfl,MK _,λq hq=>?_⟩;have t4:=Same.upd_new (o:=.lst []) hq;refine⟨pt,q,other,[],rfl,rfl,SqL.of (t4 _ _ ht),SqL.of ar,_,rfl,de (λhne=>?_) (λhe=>?_)⟩
  rotate_left
  ·have he':other=[]:=he;subst he';rw[AB]at hcom;refine⟨_,rfl,k po _ (s3.trans t4) fo ?_⟩;rw[<- hcom];exact t4 _ _ ho
  have hne':other≠[]:=hne
  obtain⟨m1,rfl⟩:∃m1,m=m1+1:=by
   cases m with
   |zero=>exact absurd hrun3 hne'
   |succ m1=>exact⟨m1,rfl⟩
  obtain⟨⟨otr,ttr,nb,bo,bt,hsz,htl⟩,hrun5⟩:=(show other=[]\/(vJ one other/\mw m1 other (au (bj one other)))from hrun3).resolve_left hne'
  have hcom5:c9 m1 other (au (bj one other))=c9 n one' other':=by
   rw[<- hcom];show _=if other=[]then one else c9 m1 other (au (bj one other))
   rw[if_neg hne']
  generalize hH5:upd H3 q (.lst [])=H5 at t4 ⊢
  refine⟨_,λ_ _ h=>h,?_⟩
  have hrl:(bj one other).length<=1000000:=by have:=ig (a:=one) hne';omega
  refine az ⟨_,rfl,_,rfl,po,pt,one,other,nb,rfl,t4 _ _ ho,t4 _ _ ht,hne',bo,bt,hsz,htl,λt q' r H8 sm8 _ _ _ _ _ _ et _ er=>?_⟩;refine⟨t,_,_,_,rfl,rfl,SqT.of et,rfl,r,_,rfl,er,gP _ _,hrl,λp9 H9 sm9 hp9 e9=>?_⟩;refine az ⟨_,rfl,?_⟩;refine⟨_,rfl,?_⟩;have t9:=(t4.trans sm8).trans sm9;exact⟨m1,NR _,pt,p9,other,_,_,rfl,s3.trans t9,t9 _ _ ht,e9,ft,s3.free ((t4.trans sm8).free hp9),hrun5,hcom5⟩
def w5:Sp:=λvs H Q _=>∃(a b:Addr) (xs ys:Ex) (n:Nat),vs=[.ref a,.ref b]/\H a=some (.lst (xs.map V.int))/\H b=some (.lst (ys.map V.int))/\Tr xs/\Tr ys/\AllB n xs/\AllB n ys/\(xs.length+2)*(n+1)<=1000000/\ys.length<=1000000/\ys≠[]/\bj xs ys=[]/\mkL H Q (au (cW xs ys))
def Fg(F:Fun K "part" "part" rd f fd)(T:Txt K mg)(jh:Cal P w K mg base 2 "divided" ["first","second"] kA uL uD)(gS:Cal P w K mg base 34 "plain" ["row"] kz uK uC):FnOk P w K mg base aD 35 f fd ["row","divisor"] w5:=by
 refine F.ok xS (λvs H Q E h=>?_) (λ_ A _ s H vs Q E hr h=>?_)
 ·obtain⟨a,b,xs,ys,n,rfl,_⟩:=h;rfl
 ·obtain⟨a,b,xs,ys,nb,rfl,hA,hB,xtr,ytr,bx,by',hsz,hyn,hy,hR,k⟩:=h;have hu:=hr.units
  refine⟨_,(ah (ak 2 xS (am jh hr (ac (pv 0) (ac (pv 1) ad))))
   (ah (aP (aG (hZ (K:=K) rfl hu) (aS K (pv 2) ae) (aU ad))
     (ai iK)
     aR)
   (ai (aB (am gS hr (ac (aS K (pv 2) ae) ad)))))),?_⟩
  refine az ⟨_,rfl,_,rfl,a,b,xs,ys,nb,rfl,hA,hB,hy,bx,by',hsz,hyn,λt q r H1 sm1 ft fq fr _ _ _ et eq er=>?_⟩;refine cp ⟨_,rfl,t,_,_,_,rfl,rfl,SqT.of et,rfl,MK _,λp hp=>?_⟩;have s2:=Same.upd_new (o:=.lst []) hp;refine⟨r,p,_,[],rfl,rfl,SqL.of (s2 _ _ er),SqL.of ar,_,rfl,de (λh=>absurd hR h) (λh=>?_)⟩;have lq:=As (a:=xs) hy
  have hxl:xs.length<=1000000:=by have:=Oi (xs.length+2) (show 1<=nb+1 by omega);omega
  have hN:bH xs ys<=xs.length+1:=by unfold bH;omega
  have hN2:bH xs ys<=xs.length:=by have:=MR.mpr hy;unfold bH;omega
  exact⟨_,rfl,t,_,_,_,rfl,rfl,SqT.of (s2 _ _ et),rfl,q,cW xs ys,rfl,s2 _ _ eq,uR hy xtr ytr,by omega,λp' H' sm' hp' e'=>k p' H' ((sm1.then_new hp).trans sm') ((sm1.then_new hp).free hp') e'⟩
def FI(F:Fun K "added" "added" rP f fd)(T:Txt K mg)(jg:Cal P w K mg base 1 "poly" ["row"] (kt K) uJ uA)(mC:Cal P w K mg base 1 "coefficient" ["row","place"] (gX K) Jc IC):FnOk P w K mg base aD 2 f fd ["first","second"] (mS K fB):=by
 refine F.ok xU (λvs H Q E h=>?_) (λ_ A _ s H vs Q E hr h=>?_)
 ·obtain⟨a,b,xs,ys,rfl,_⟩:=h;rfl
 ·obtain⟨a,b,xs,ys,rfl,hA,hB,hx,hy,k⟩:=h
  refine⟨_,(ah (ak 2 xU (cM (AN rfl) (by rfl) T.max_ PyProof.Rows.boot_max (ac (cU K T.len_ (ac (pv 0) ad)) (ac (cU K T.len_ (ac (pv 1) ad)) ad))))
   (ai (aB (am jg hr (ac (f8 (own:=["k"]) (fr:=["first","second"]) (js:=[0,1]) (by walk_at "comp_ok") rfl (gF rfl T.range_ (ac (pv 2) ad)) (λ_ _ _ _=>(fM (i:=0) (show List.Nodup (["k","first","second"]:List Str)from by decide +kernel) rfl (Or.inl rfl))) (λ_ _ _ _=>(ag aV (am mC hr (ac (pv 1) (ac (pv 0) ad))) (am mC hr (ac (pv 2) (ac (pv 0) ad)))))) ad))))),?_⟩
  refine⟨_,rfl,a,_,rfl,.inl hA,_,rfl,b,_,rfl,.inl hB,_,_,rfl,?_⟩;rw[zk,MC,MC];have hz:max xs.length ys.length<=sizeLine:=by have:=sizeLine_eq;omega
  refine⟨_,rfl,_,rfl,(mT hz).1,(mT hz).2,uW (lo:=0) (n:=max xs.length ys.length) (λi zs Q2 H'=>∃z:Option V,Q2=[z,some (.ref a),some (.ref b)]/\zs=((List.range i).map λk=>V.int (cf xs k+cf ys k))/\H=H') hz ⟨none,rfl,rfl,rfl⟩ ?_ ?_ ?_⟩
  ·rintro i zs Q2 H' _ ⟨z,rfl,rfl,rfl⟩;simp
  ·rintro i zs Q2 H' hi ⟨z,rfl,rfl,rfl⟩;refine⟨_,rfl,_,rfl,a,xs,i,?_,hA,_,rfl,_,rfl,b,ys,i,?_,hB,_,_,rfl,rfl,_,rfl,?_,rfl⟩
   ·show[V.ref a,V.int (0+(i:Int))]=_;rw[NC]
   ·show[V.ref b,V.int (0+(i:Int))]=_;rw[NC]
   ·rw[List.range_succ,Nc];rfl
  ·rintro zs Q2 H' p ⟨z,rfl,rfl,rfl⟩ hp;refine⟨p,(List.range (max xs.length ys.length)).map λk=>cf xs k+cf ys k,rfl,SqL.of ?_,?_⟩
   ·rw[ar,NP];rfl
   ·intro p' H' sm hp' e;refine k p' H' ((Same.upd_new hp).trans sm) ((Same.upd_new hp).free hp') ?_;rw[e,Ki]
def w8:Sp:=λvs H Q _=>∃(a b:Addr) (xs ys:Ex),vs=[.ref a,.ref b]/\H a=some (.lst (xs.map V.int))/\H b=some (.lst (ys.map V.int))/\xs.length<=1000000/\ys.length<=1000000/\AllB 1000000 xs/\AllB 1000000 ys/\mkL H Q (aw xs ys)
def Fk(F:Fun K "multiplied" "multiplied" rg f fd)(T:Txt K mg):FnOk P w K mg base aD 1 f fd ["first","second"] w8:=by
 refine F.ok jz (λvs H Q E h=>?_) (λ_ A _ s H vs Q E hr h=>?_)
 ·obtain⟨a,b,xs,ys,rfl,_⟩:=h;rfl
 ·obtain⟨a,b,xs,ys,rfl,hA,hB,hx,hy,bx,by',k⟩:=h;have hu:=hr.units
  refine⟨_,(ah (aP (PW.pt (iI (aG (iQ (K:=K) rfl hu) (pv 0) (aU ad)) (nQ (aG (iQ (K:=K) rfl hu) (pv 1) (aU ad)))))
   (ai (aB (aU ad)))
   aR)
   (ah (ak 2 jz (ag tf (aU (ac ae ad)) (ag cg (ag aV (cU K T.len_ (ac (pv 0) ad)) (cU K T.len_ (ac (pv 1) ad))) ae)))
   (ah (cT PassesOwn.never rfl (sU rfl T.enumerate_ (ac (pv 0) ad)) (gH rfl (cy (aY 3 jz) (cy (aY 4 jz) gG)))
     (ai (cT PassesOwn.never rfl (sU rfl T.enumerate_ (ac (pv 1) ad)) (gH rfl (cy (aY 5 jz) (cy (aY 6 jz) gG)))
       (ai (eZ (ag aV (ce K (pv 2) (ag aV (pv 3) (pv 5))) (ag aE (pv 4) (pv 6))) (jP (pv 2) (ag aV (pv 3) (pv 5)) jv))))))
   (ai (aB (pv 2)))))),?_⟩
  refine⟨_,rfl,MK _,λp1 hp1=>?_⟩;have s1:Same H (upd H p1 (.lst [])):=Same.upd_new hp1;refine⟨a,p1,xs,[],rfl,rfl,SqL.of (s1 _ _ hA),SqL.of ar,_,rfl,?_⟩;refine aN (λh0=>?_) (λh0=>?_)
  ·refine yb ⟨MK _,λp2 hp2=>k p2 _ (s1.then_new hp2) (s1.free hp2) ?_⟩;rw[ar];unfold aw;rw[if_pos (.inl h0)];rfl
  refine⟨_,rfl,MK _,λp2 hp2=>?_⟩;have s2:Same H (upd (upd H p1 (.lst [])) p2 (.lst [])):=s1.then_new hp2;refine⟨b,p2,ys,[],rfl,rfl,SqL.of (s2 _ _ hB),SqL.of ar,_,rfl,?_⟩;refine aN (λh1=>?_) (λh1=>?_)
  ·refine⟨MK _,λp3 hp3=>k p3 _ (s2.then_new hp3) (s2.free hp3) ?_⟩;rw[ar];unfold aw;rw[if_pos (.inr h1)];rfl
  generalize upd (upd H p1 (.lst [])) p2 (.lst [])=H2 at s2 ⊢
  obtain⟨la,ea⟩:∃la,xs.length=la+1:=⟨xs.length-1,by have:=MR.mpr h0;omega⟩;obtain⟨lb,eb⟩:∃lb,ys.length=lb+1:=⟨ys.length-1,by have:=MR.mpr h1;omega⟩;refine⟨(by show 1<=sizeLine;decide),λp3 hp3=>?_⟩;have s3:=s2.then_new (o:=.lst [V.int 0]) hp3;have big:=sizeLine_eq;refine⟨_,rfl,a,_,rfl,.inl (SqL.of (s3 _ _ hA)),_,rfl,b,_,rfl,.inl (SqL.of (s3 _ _ hB)),_,_,rfl,rfl,_,_,rfl,rfl,p3,_,_,rfl,rfl,ar,?_,?_,?_,λp hp=>?_⟩
  ·rw[MC,MC];omega
  ·rw[MC,MC];omega
  ·rw[MC,MC];show 1*_<=_;omega
  have en:(((xs.map V.int).length:Int)+((ys.map V.int).length:Int)-1).toNat=la+lb+1:=by rw[MC,MC];omega
  rw[en,sJ];have s4:=s3.then_new (o:=.lst ((List.replicate (la+lb+1) (0:Int)).map V.int)) hp;have npa:a≠p:=s3.ne hA hp;have npb:b≠p:=s3.ne hB hp;generalize hH4:upd (upd H2 p3 (.lst [V.int 0])) p (.lst ((List.replicate (la+lb+1) (0:Int)).map V.int))=H4 at s4 ⊢
  have hp4:H4 p=some (.lst ((List.replicate (la+lb+1) (0:Int)).map V.int)):=by rw[<- hH4,ar]
  refine⟨_,rfl,a,rfl,⟨_,SqL.of (s4 _ _ hA)⟩,ur (K:=K) (a:=a) (xs:=xs.map V.int) (λj Q2 H'=>∃(acc:Ex) (z3 z4 z5 z6:Option V),Q2=[some (.ref a),some (.ref b),some (.ref p),z3,z4,z5,z6]/\SameB p H4 H'/\H' p=some (.lst (acc.map V.int))/\acc.length=la+lb+1/\∀n,n<acc.length->cf acc n=sm xs ys n j)
   ⟨List.replicate (la+lb+1) 0,none,none,none,none,rfl,SameB.refl _ _,hp4,by simp,λn _=>by rw[oY];rfl⟩ ?_ ?_ ?_⟩
  ·rintro j Q2 H' _ ⟨acc,z3,z4,z5,z6,rfl,sb,_⟩;exact SqL.of (sb _ _ npa (s4 _ _ hA))
  ·rintro j x Q2 H' q hj ⟨acc,z3,z4,z5,z6,rfl,sb,hpa,hal,hac⟩ hq;rw[List.getElem?_map]at hj
   have hjl:j<xs.length:=by apply Classical.byContradiction;intro hn;rw[List.getElem?_eq_none_iff.mpr (NT hn)]at hj;cases hj
   rw[iV hjl]at hj;obtain rfl:=Option.some.inj hj;refine⟨q,_,rfl,SqT.of ar,rfl,_,_,rfl,_,_,rfl,rfl,?_⟩;have nqp:p≠q:=bh hpa hq;have sb1:SameB p H4 (upd H' q (.tup [.int j,.int (cf xs j)])):=sb.then_new hq
   refine⟨_,rfl,b,rfl,⟨_,SqL.of (sb1 _ _ npb (s4 _ _ hB))⟩,ur (K:=K) (a:=b) (xs:=ys.map V.int) (λi Q2 H'=>∃(acc:Ex) (z5 z6:Option V),Q2=[some (.ref a),some (.ref b),some (.ref p),some (.int j),some (.int (cf xs j)),z5,z6]/\SameB p H4 H'/\H' p=some (.lst (acc.map V.int))/\acc.length=la+lb+1/\∀n,n<acc.length->cf acc n=sm xs ys n j+(if j<=n/\n-j<i then tm xs ys n j else 0))
    ⟨acc,z5,z6,rfl,sb1,by rw[upd_ne nqp];exact hpa,hal,y6 hac⟩ ?_ ?_ ?_⟩
   ·rintro i Q2 H' _ ⟨acc,z5,z6,rfl,sb,_⟩;exact SqL.of (sb _ _ npb (s4 _ _ hB))
   ·rintro i x Q2 H' q hi ⟨acc,z5,z6,rfl,sb,hpa,hal,hac⟩ hq;rw[List.getElem?_map]at hi
    have hil:i<ys.length:=by apply Classical.byContradiction;intro hn;rw[List.getElem?_eq_none_iff.mpr (NT hn)]at hi;cases hi
    rw[iV hil]at hi;obtain rfl:=Option.some.inj hi;refine⟨q,_,rfl,SqT.of ar,rfl,_,_,rfl,_,_,rfl,rfl,?_⟩;have nqp:p≠q:=bh hpa hq;have hpa':upd H' q (.tup [.int i,.int (cf ys i)]) p=some (.lst (acc.map V.int)):=by rw[upd_ne nqp];exact hpa
    have hji:j+i<acc.length:=by omega
    have eji:((j:Nat):Int)+((i:Nat):Int)=((j+i:Nat):Int):=by omega
    refine⟨_,rfl,_,rfl,_,rfl,_,_,rfl,rfl,p,_,_,_,rfl,rfl,SqL.of hpa',kf eji hji,_,rfl,_,rfl,_,_,rfl,rfl,⟨bx.cf j,by'.cf i⟩,_,_,rfl,rfl,_,rfl,_,rfl,_,rfl,_,_,rfl,rfl,p,_,_,j+i,rfl,rfl,hpa',lQ eji (by rw[MC];exact hji),?_⟩;refine⟨acc.set (j+i) (cf acc (j+i)+cf xs j*cf ys i),_,_,rfl,(sb.then_new hq).then_upd,by rw[ar,oE],by rw[Oo];exact hal,y4 hjl hil hji hac⟩
   ·rintro Q2 H' ⟨acc,z5,z6,rfl,sb,hpa,hal,hac⟩;rw[MC]at hac;exact⟨acc,_,_,_,_,rfl,sb,hpa,hal,y7 hac⟩
  ·rintro Q2 H' ⟨acc,z3,z4,z5,z6,rfl,sb,hpa,hal,hac⟩;rw[MC]at hac;refine⟨_,rfl,k p H' (λb' o e=>sb b' o (s3.ne e hp) (s4 b' o e)) (s3.free hp) ?_⟩;rw[hpa]
   have e:acc=aw xs ys:=by
    apply iY
    ·rw[hal];unfold aw;rw[if_neg (by intro z;exact z.elim h0 h1),MC,Ny];omega
    ·intro n _;rw[aW,za (by omega) hac]
   rw[e]
def qh(C:Addr):Sp:=λvs H Q _=>∃(p q:Addr) (t b u d:Int) (i j:Nat),vs=[.ref p,.ref q]/\RA C H p t b/\RA C H q u d/\Bits 100000 t/\Bits i b/\Bits 100000 u/\Bits j d/\i+j<=9000/\0<b/\0<d/\mkR C H Q (t*d+u*b) (b*d)
def Ga(F:Fun K "plus" "Ratio.plus" sk f fd)(T:Txt K mg)(R:RCI K mg C)(cD:KCal P w K mg base 2 C "Ratio" ["self","top","bottom"] (dH C) fk fj fm [.int 1]):FnOk P w K mg base aD 4 f fd ["self","other"] (qh C):=by
 obtain⟨bZ,bY,bX,cz,cY,cX⟩:=cD;refine F.ok Dq (λvs H Q E h=>?_) (λ_ A _ s H vs Q E hr h=>?_)
 ·obtain⟨p,q,t,b,u,d,i,j,rfl,_⟩:=h;rfl
 ·obtain⟨p,q,t,b,u,d,i,j,rfl,⟨dx,hp⟩,⟨dy,hq⟩,bt,bb,bu,bd,hij,hb,hd,k⟩:=h;have bb':Bits 1000000 b:=bb.mono (by omega);have bd':Bits 1000000 d:=bd.mono (by omega);refine⟨_,(ai (aB (cG bY bZ (hr.mono) rfl bX cz .nil aZ (ac (ag aV (ag aE (aQ (K:=K) rfl (pv 0) rfl) (aQ (K:=K) rfl (pv 1) rfl)) (ag aE (aQ (K:=K) rfl (pv 1) rfl) (aQ (K:=K) rfl (pv 0) rfl))) (ac (ag aE (aQ (K:=K) rfl (pv 0) rfl) (aQ (K:=K) rfl (pv 1) rfl)) ad))))),?_⟩;refine⟨_,rfl,p,C,dx,_,_,rfl,hp,R.cl,R.nT,c7,_,rfl,q,C,dy,_,_,rfl,hq,R.cl,R.nB,ci,_,_,rfl,rfl,⟨bt.mono,bd'⟩,?_⟩;refine⟨_,rfl,q,C,dy,_,_,rfl,hq,R.cl,R.nT,c7,_,rfl,p,C,dx,_,_,rfl,hp,R.cl,R.nB,ci,_,_,rfl,rfl,⟨bu.mono,bb'⟩,_,_,rfl,rfl,?_⟩;refine⟨_,rfl,p,C,dx,_,_,rfl,hp,R.cl,R.nB,ci,_,rfl,q,C,dy,_,_,rfl,hq,R.cl,R.nB,ci,_,_,rfl,rfl,⟨bb',bd'⟩,?_⟩;exact di (M7 (MO hb hd)) ((bb.mul bd).mono hij) k
def qo(C:Addr):Sp:=λvs H Q _=>∃(p q:Addr) (t b u d:Int) (i j:Nat),vs=[.ref p,.ref q]/\RA C H p t b/\RA C H q u d/\Bits 100000 t/\Bits i b/\Bits 100000 u/\Bits j d/\i+j<=9000/\0<b/\0<d/\mkR C H Q (t*d-u*b) (b*d)
def Gb(F:Fun K "minus" "Ratio.minus" sr f fd)(T:Txt K mg)(R:RCI K mg C)(cD:KCal P w K mg base 2 C "Ratio" ["self","top","bottom"] (dH C) fk fj fm [.int 1]):FnOk P w K mg base aD 4 f fd ["self","other"] (qo C):=by
 obtain⟨bZ,bY,bX,cz,cY,cX⟩:=cD;refine F.ok Dr (λvs H Q E h=>?_) (λ_ A _ s H vs Q E hr h=>?_)
 ·obtain⟨p,q,t,b,u,d,i,j,rfl,_⟩:=h;rfl
 ·obtain⟨p,q,t,b,u,d,i,j,rfl,⟨dx,hp⟩,⟨dy,hq⟩,bt,bb,bu,bd,hij,hb,hd,k⟩:=h;have bb':Bits 1000000 b:=bb.mono (by omega);have bd':Bits 1000000 d:=bd.mono (by omega);refine⟨_,(ai (aB (cG bY bZ (hr.mono) rfl bX cz .nil aZ (ac (ag cg (ag aE (aQ (K:=K) rfl (pv 0) rfl) (aQ (K:=K) rfl (pv 1) rfl)) (ag aE (aQ (K:=K) rfl (pv 1) rfl) (aQ (K:=K) rfl (pv 0) rfl))) (ac (ag aE (aQ (K:=K) rfl (pv 0) rfl) (aQ (K:=K) rfl (pv 1) rfl)) ad))))),?_⟩;refine⟨_,rfl,p,C,dx,_,_,rfl,hp,R.cl,R.nT,c7,_,rfl,q,C,dy,_,_,rfl,hq,R.cl,R.nB,ci,_,_,rfl,rfl,⟨bt.mono,bd'⟩,?_⟩;refine⟨_,rfl,q,C,dy,_,_,rfl,hq,R.cl,R.nT,c7,_,rfl,p,C,dx,_,_,rfl,hp,R.cl,R.nB,ci,_,_,rfl,rfl,⟨bu.mono,bb'⟩,_,_,rfl,rfl,?_⟩;refine⟨_,rfl,p,C,dx,_,_,rfl,hp,R.cl,R.nB,ci,_,rfl,q,C,dy,_,_,rfl,hq,R.cl,R.nB,ci,_,_,rfl,rfl,⟨bb',bd'⟩,?_⟩;exact di (M7 (MO hb hd)) ((bb.mul bd).mono hij) k
def ku(C:Addr):Sp:=λvs H Q _=>∃(p q:Addr) (t b u d:Int) (i j:Nat),vs=[.ref p,.ref q]/\RA C H p t b/\RA C H q u d/\Bits 100000 t/\Bits i b/\Bits 100000 u/\Bits j d/\i+j<=9000/\0<b/\0<d/\mkR C H Q (t*u) (b*d)
def FZ(F:Fun K "times" "Ratio.times" sj f fd)(T:Txt K mg)(R:RCI K mg C)(cD:KCal P w K mg base 2 C "Ratio" ["self","top","bottom"] (dH C) fk fj fm [.int 1]):FnOk P w K mg base aD 4 f fd ["self","other"] (ku C):=by
 obtain⟨bZ,bY,bX,cz,cY,cX⟩:=cD;refine F.ok Dp (λvs H Q E h=>?_) (λ_ A _ s H vs Q E hr h=>?_)
 ·obtain⟨p,q,t,b,u,d,i,j,rfl,_⟩:=h;rfl
 ·obtain⟨p,q,t,b,u,d,i,j,rfl,⟨dx,hp⟩,⟨dy,hq⟩,bt,bb,bu,bd,hij,hb,hd,k⟩:=h;refine⟨_,(ai (aB (cG bY bZ (hr.mono) rfl bX cz .nil aZ (ac (ag aE (aQ (K:=K) rfl (pv 0) rfl) (aQ (K:=K) rfl (pv 1) rfl)) (ac (ag aE (aQ (K:=K) rfl (pv 0) rfl) (aQ (K:=K) rfl (pv 1) rfl)) ad))))),?_⟩;refine⟨_,rfl,p,C,dx,_,_,rfl,hp,R.cl,R.nT,c7,_,rfl,q,C,dy,_,_,rfl,hq,R.cl,R.nT,c7,_,_,rfl,rfl,⟨bt.mono,bu.mono⟩,?_⟩;refine⟨_,rfl,p,C,dx,_,_,rfl,hp,R.cl,R.nB,ci,_,rfl,q,C,dy,_,_,rfl,hq,R.cl,R.nB,ci,_,_,rfl,rfl,⟨bb.mono (by omega),bd.mono (by omega)⟩,?_⟩;exact di (M7 (MO hb hd)) ((bb.mul bd).mono hij) k
def Ar{l:Ex}{i:Nat}{c:Int}(hi:i<l.length)(e:l[l.length-1-i]?=some c):l.drop (l.length-(i+1))=c::l.drop (l.length-i):=by
 have h:l.length-(i+1)=l.length-1-i:=by omega
 rw[h,OV (by omega)];have h2:l.length-1-i+1=l.length-i:=by omega
 rw[h2];have h3:=List.getElem?_eq_getElem (l:=l) (i:=l.length-1-i) (by omega);rw[h3]at e;rw[Option.some.inj e]
def jO(n:Nat):(0:Int)<2^n:=NQ (by decide)
def iL(n:Nat):(2:Int)^n=((2^n:Nat):Int):=by rw[OQ];rfl
def k7{n k:Nat}(h:n<k):Bits k ((2:Int)^n):=by rw[iL];show(((2^n:Nat):Int)).natAbs<2^k;rw[Nt];exact(OJ (by decide)).mpr h
def mE:Bits 1000000 (2:Int):=Bits.mono (j:=2) (by show(2:Int).natAbs<2^2;decide) (by decide)
def ES:Bits 1000000 (1:Int):=Bits.mono (j:=1) (by show(1:Int).natAbs<2^1;decide) (by decide)
def xj(C:Addr):Sp:=λvs H Q _=>∃(r wd:Addr) (r1 r2 w1 w2:Int) (kr kw:Nat),vs=[.ref r,.ref wd]/\RA C H r r1 r2/\RA C H wd w1 w2/\0<r2/\0<w1/\Bits kr r1/\Bits 100000 r2/\Bits 100000 w1/\Bits kw w2/\kr+kw<=100000/\∀n:Nat,n<=kr+kw->r1*w2<=w1*r2*2^n->(∀j:Nat,j<n->w1*r2*2^j<r1*w2)->Q (.int n) H
def Fv(F:Fun K "halvings" "halvings" rB f fd)(T:Txt K mg)(R:RCI K mg C):FnOk P w K mg base aD 1 f fd ["reach","width"] (xj C):=by
 refine F.ok jA (λvs H Q E h=>?_) (λ_ A _ s H vs Q E hr h=>?_)
 ·obtain⟨r,wd,r1,r2,w1,w2,kr,kw,rfl,_⟩:=h;rfl
 ·obtain⟨r,wd,r1,r2,w1,w2,kr,kw,rfl,⟨dr,hR⟩,⟨dw,hW⟩,hr2,hw1,br1,br2,bw1,bw2,hkk,k⟩:=h
  refine⟨_,(ah (ak 2 jA (ag aE (aQ (K:=K) rfl (pv 0) rfl) (aQ (K:=K) rfl (pv 1) rfl)))
   (ah (ak 3 jA (ag aE (aQ (K:=K) rfl (pv 1) rfl) (aQ (K:=K) rfl (pv 0) rfl)))
   (ah (ak 4 jA ae)
   (ah (gD PassesOwn.never (aG eE (pv 2) (pv 3))
     (ah (ak 3 jA (ag aE ae (pv 3)))
       (ai (ak 4 jA (ag aV (pv 4) ae)))))
   (ai (aB (pv 4))))))),?_⟩
  refine az ⟨_,rfl,r,C,dr,_,_,rfl,hR,R.cl,R.nT,c7,_,rfl,wd,C,dw,_,_,rfl,hW,R.cl,R.nB,ci,_,_,rfl,rfl,⟨br1.mono (by omega),bw2.mono (by omega)⟩,?_⟩;refine az ⟨_,rfl,wd,C,dw,_,_,rfl,hW,R.cl,R.nT,c7,_,rfl,r,C,dr,_,_,rfl,hR,R.cl,R.nB,ci,_,_,rfl,rfl,⟨bw1.mono,br2.mono⟩,?_⟩;have bW:Bits (kr+kw) (r1*w2):=br1.mul bw2;have g0:0<w1*r2:=MO hw1 hr2;refine az ?_;dsimp only
  generalize r1*w2=W at *
  generalize w1*r2=g at *
  show cx _ _ _ _ _
  have b0:∀n:Nat,(∀j:Nat,j<n->g*2^j<W)->n<=kr+kw:=λn hn=>by
   rcases Nat.lt_or_ge (kr+kw) n with z |z
   ·have h1:=hn (kr+kw) z
    have h2:(2:Int)^(kr+kw)<=g*2^(kr+kw):=by have:=OF (show(1:Int)<=g by omega) (Nd (jO (kr+kw)));omega
    have h3:W.natAbs<2^(kr+kw):=bW;have h5:(W.natAbs:Int)<((2^(kr+kw):Nat):Int):=OC.mpr h3;rw[<- iL]at h5;generalize (2:Int)^(kr+kw)=Y at *
    omega
   ·exact z
  refine⟨λm Q2 H'=>∃n:Nat,Q2=[some (.ref r),some (.ref wd),some (.int W),some (.int (g*2^n)),some (.int n)]/\H=H'/\m=(W-g*2^n).toNat/\∀j:Nat,j<n->g*2^j<W,⟨_,0,by rw[Nq,Nl];rfl,rfl,rfl,λj hj=>absurd hj (OB _)⟩,?_⟩;rintro m Q2 H' ⟨n,rfl,rfl,rfl,hj⟩;refine⟨_,rfl,_,rfl,_,_,rfl,rfl,_,rfl,aN (λhgt=>?_) (λhle=>?_)⟩
  ·have hgt':g*2^n<W:=hgt;have gp:0<g*2^n:=MO g0 (jO n);have bg:Bits (kr+kw) (g*2^n):=bW.of_le (by omega);refine⟨_,λ_ _ h=>h,?_⟩;have e2:2*(g*2^n)=g*2^(n+1):=by rw[M6];grind
   refine az ⟨_,rfl,_,_,rfl,rfl,⟨mE,bg.mono (by omega)⟩,?_⟩;refine cK ⟨_,rfl,_,_,rfl,rfl,?_⟩;refine⟨(W-g*2^(n+1)).toNat,by rw[<- e2];omega,n+1,by rw[<- e2];rfl,rfl,rfl,λj h'=>?_⟩;by_cases ej:j=n
   ·subst ej;exact hgt'
   ·exact hj j (by omega)
  ·refine⟨_,rfl,k n (b0 n hj) ?_ hj⟩;have:¬g*2^n<W:=hle;omega
def eW{k:Nat}{t b:Int}(hb:b≠0)(h:Bits k t):Bits k (rt t b):=h.of_le (xY hb)
def eY{k:Nat}{t b:Int}(hb:b≠0)(h:Bits k b):Bits k (rb t b):=h.of_le (yd hb)
def oo:¬(("plus":Str)="bottom")/\¬(("plus":Str)="top"):=⟨by decide +kernel,by decide +kernel⟩
def ot:¬(("minus":Str)="bottom")/\¬(("minus":Str)="top"):=⟨by decide +kernel,by decide +kernel⟩
def dY:¬(("times":Str)="bottom")/\¬(("times":Str)="top"):=⟨by decide +kernel,by decide +kernel⟩
def xu(C:Addr):Sp:=λvs H Q _=>∃(l r:Addr) (l1 l2 r1 r2 pl pc:Int) (i j n:Nat),vs=[.ref l,.ref r,.int pl,.int pc]/\RA C H l l1 l2/\RA C H r r1 r2/\0<l2/\0<r2/\0<pc/\Bits i l1/\Bits i l2/\Bits j r1/\Bits j r2/\Bits n pl/\Bits n pc/\i+(j+n)<=9000 /\
 ∀(x:Addr) (H':Hp) (x1 x2:Int),Same H H'->H x=none->RA C H' x x1 x2->0<x2->x1*(l2*r2*pc)=(l1*r2*pc+r1*l2*pl)*x2->Bits (i+(j+n)+1) x1->Bits (i+(j+n)+1) x2->Nat.gcd x1.natAbs x2.natAbs=1->Q (.ref x) H'
def FH(F:Fun K "along" "along" rO f fd)(T:Txt K mg)(R:RCI K mg C)(v6:MCal P w K mg base 4 C "plus" ["self","other"] (qh C) Jl IL)(jj:MCal P w K mg base 4 C "times" ["self","other"] (ku C) uN uF)(cD:KCal P w K mg base 2 C "Ratio" ["self","top","bottom"] (dH C) fk fj fm [.int 1]):FnOk P w K mg base aD 5 f fd ["low","reach","place","pieces"] (xu C):=by
 obtain⟨vH,tT,vy⟩:=v6;obtain⟨gn,gb,gk⟩:=jj;obtain⟨bZ,bY,bX,cz,cY,cX⟩:=cD;refine F.ok Dk (λvs H Q E h=>?_) (λ_ A _ s H vs Q E hr h=>?_)
 ·obtain⟨l,r,l1,l2,r1,r2,pl,pc,i,j,n,rfl,_⟩:=h;rfl
 ·obtain⟨l,r,l1,l2,r1,r2,pl,pc,i,j,n,rfl,hL,hR,hl2,hr2,hpc,bl1,bl2,br1,br2,bpl,bpc,hijn,k⟩:=h;refine⟨_,(ai (aB (dC (pv 0) R.cl tT vH (hr.mono) vy .nil aZ (ac (dC (pv 1) R.cl gb gn (hr.mono) gk .nil aZ (ac (cG bY bZ (hr.mono) rfl bX cz .nil aZ (ac (pv 2) (ac (pv 3) ad))) ad)) ad)))),?_⟩;obtain⟨dl,hl⟩:=id hL;obtain⟨dr,hrr⟩:=id hR;have pc0:pc≠0:=M7 hpc;refine bC ⟨_,rfl,l,dl,_,rfl,hl,dk oo.1 oo.2,_,rfl,r,dr,_,rfl,hrr,dk dY.1 dY.2,_,rfl,_,rfl,di pc0 (bpc.mono (by omega)) λxa H1 s1 ha hRa=>?_⟩;have a0:0<rb pl pc:=df pc0;have ba1:Bits n (rt pl pc):=eW pc0 bpl;have ba2:Bits n (rb pl pc):=eY pc0 bpc;have ea:=fJ (t:=pl) pc0;generalize rt pl pc=a1 at *
  generalize rb pl pc=a2 at *
  refine⟨r,xa,r1,r2,a1,a2,j,n,rfl,hR.same s1,hRa,br1.mono (by omega),br2,ba1.mono (by omega),ba2,by omega,hr2,a0,λxc H2 s2 hc hRc=>?_⟩;have d0:r2*a2≠0:=M7 (MO hr2 a0);have c0:0<rb (r1*a1) (r2*a2):=df d0;have bc1:Bits (j+n) (rt (r1*a1) (r2*a2)):=eW d0 (br1.mul ba1);have bc2:Bits (j+n) (rb (r1*a1) (r2*a2)):=eY d0 (br2.mul ba2);have ec:=fJ (t:=r1*a1) d0;generalize rt (r1*a1) (r2*a2)=c1 at *
  generalize rb (r1*a1) (r2*a2)=c2 at *
  have t2:=s1.trans s2;refine⟨l,xc,l1,l2,c1,c2,i,j+n,rfl,hL.same t2,hRc,bl1.mono (by omega),bl2,bc1.mono (by omega),bc2,hijn,hl2,c0,λxx H3 s3 hx hRx=>?_⟩;have x0:l2*c2≠0:=M7 (MO hl2 c0);refine k xx H3 _ _ (t2.trans s3) (t2.free hx) hRx (df x0) (Kg a0 c0 ea ec (fJ x0)) ?_ ?_ (jM x0)
  ·refine(eW x0 ?_);exact Bits.add (bl1.mul bc2) ((bc1.mul bl2).mono (by omega))
  ·exact(eY x0 (bl2.mul bc2)).mono (by omega)
def GI{i j:Nat}{a b c:Int}{l:Ex}(hl:AllB i l)(ha:Bits j a)(hb:Bits j b)(hc:Bits (i+j) c):AllB (i+j+1) (mb a b c l):=AllB.of_cf λn=>by
 rw[ja];refine Bits.add ?_ ?_
 ·exact(ha.neg.mul (hl.cf n)).mono (by omega)
 ·split
  ·exact hc
  ·exact(hb.mul (hl.cf (n-1))).mono (by omega)
theorem wH{kv j:Nat}{m s0 s1:Int}(hm:Bits j m)(h0:Bits j s0)(h1:Bits j s1):∀{l:Ex},AllB kv l->AllB (kv+(j+1)*l.length+1) (cq m s0 s1 l)
 | [],_=>AllB.nil
 |v::l,h=>by
  have ih:=wH hm h0 h1 (l:=l) λx hx=>h x (MV _ hx)
  have hv:=h v (M0 ..)
  have:=GI (c:=v*m^l.length) ih h0.neg h1 ((hv.mul (ir hm l.length)).mono (by
   have:(j+1)*l.length=j*l.length+l.length:=by rw[Oh,Oy]
   omega))
  refine AllB.mono this ?_;rw[Ng,Nat.mul_add,Nat.mul_one];omega
def Cc{a b c:Int}{l:Ex}(hne:l≠[])(hT:Tr (mb a b c l)):fB (aw l [-a,b]) (trim [c])=mb a b c l:=by
 refine jX (fD _) hT λk=>?_
 unfold fB;rw[fW,ke,fW,M9,Gw hne,ja,ja];rcases k with _ |k
 ·show _+0+c=_+c;omega
 ·rw[if_neg (by omega),if_neg (by omega)];show _+cf [] k=_;rw[cI];omega
def BN{m s0 s1:Int}(hs:0<s1){l:Ex}(hne:l≠[])(hl:Tr l):Tr (cq m s0 s1 l):=by
 have h1:=wG m s0 s1 l;have hlen:=jp m s0 s1 l;have hp:0<l.length:=MR.mpr hne;have h2:cf l (l.length-1)≠0:=hl _ (by omega);intro n hn;have:n=l.length-1:=by omega
 subst this;rw[h1];exact Na h2 (M7 (NQ hs))
def BS{l:Ex}(hl:Tr l){i:Nat}(h:i<l.length):Tr (l.drop i):=by
 intro n hn;rw[NS]at hn
 have e:cf (l.drop i) n=cf l (i+n):=by unfold cf;simp[List.getD]
 rw[e];exact hl _ (by omega)
def wQ(C:Addr):Sp:=λvs H Q _=>∃(a l r:Addr) (ns:Ex) (l1 l2 r1 r2:Int),vs=[.ref a,.ref l,.ref r]/\H a=some (.lst (ns.map V.int))/\RA C H l l1 l2/\RA C H r r1 r2/\Tr ns/\ns≠[]/\ns.length<=12/\AllB 1000 ns/\0<l2/\0<r1/\0<r2/\Bits 1400 l1/\Bits 1400 l2/\Bits 2900 r1/\Bits 2900 r2 /\
 ∀m s0 s1:Int,0<m->s0*l2=l1*m->s1*r2=r1*m->0<s1->AllB 60000 (cq m s0 s1 ns)->mkL H Q (cq m s0 s1 ns)
def EY(F:Fun K "stretched" "stretched" qN f fd)(T:Txt K mg)(R:RCI K mg C)(vO:Cal P w K mg base 2 "shared" ["row"] (qc K) IX Iv)(KN:Cal P w K mg base 2 "added" ["first","second"] (mS K fB) Mh LC)(KC:Cal P w K mg base 1 "multiplied" ["first","second"] w8 L5 Lo)(jg:Cal P w K mg base 1 "poly" ["row"] (kt K) uJ uA):FnOk P w K mg base aD 3 f fd ["row","low","reach"] (wQ C):=by
 refine F.ok gz (λvs H Q E h=>?_) (λ_ A _ s H vs Q E hr h=>?_)
 ·obtain⟨a,l,r,ns,l1,l2,r1,r2,rfl,_⟩:=h;rfl
 ·obtain⟨a,l,r,ns,l1,l2,r1,r2,rfl,hA,⟨dl,hL⟩,⟨dr,hR⟩,hT,hne,hln,hbn,hl2,hr1,hr2,bl1,bl2,br1,br2,k⟩:=h
  refine⟨_,(ah (ak 3 gz (ag cZ (ag aE (aQ (K:=K) rfl (pv 1) rfl) (aQ (K:=K) rfl (pv 2) rfl)) (am vO hr (ac (aU (ac (aQ (K:=K) rfl (pv 1) rfl) (ac (aQ (K:=K) rfl (pv 2) rfl) ad))) ad))))
   (ah (ak 4 gz (ag aE (aQ (K:=K) rfl (pv 1) rfl) (ag cZ (pv 3) (aQ (K:=K) rfl (pv 1) rfl))))
   (ah (ak 5 gz (ag aE (aQ (K:=K) rfl (pv 2) rfl) (ag cZ (pv 3) (aQ (K:=K) rfl (pv 2) rfl))))
   (ah (ak 6 gz (aU ad))
   (ah (ak 7 gz ae)
   (ah (cT PassesOwn.never rfl (sT rfl T.reversed_ (ac (pv 0) ad)) (aY 8 gz)
     (ah (ak 6 gz (am KN hr (ac (am KC hr (ac (pv 6) (ac (aU (ac (pv 4) (ac (pv 5) ad))) ad))) (ac (am jg hr (ac (aU (ac (ag aE (pv 8) (pv 7)) ad)) ad)) ad))))
       (ai (ak 7 gz (ag aE (pv 7) (pv 3))))))
   (ai (aB (pv 6))))))))),?_⟩
  obtain⟨l',r',pl',pr',pg,el,er,em,e1,e2,pm⟩:=J3 hl2 hr2 (g:=aA [l2,r2]) (by show Nat.gcd (Nat.gcd 0 l2.natAbs) r2.natAbs=_;rw[OH]);have bg:Bits 9000 ((aA [l2,r2]:Nat):Int):=Bits.mono (j:=1400) (bl2.of_le (by rw[Nt];exact Nat.le_of_dvd (by omega) (by show Nat.gcd (Nat.gcd 0 l2.natAbs) r2.natAbs∣_;rw[OH];exact N4 _ _))) (by decide)
  have bl':Bits 1400 l':=bl2.of_le (by
   rw[el,MW]
   exact N5 _ (by omega))
  have br':Bits 2900 r':=br2.of_le (by
   rw[er,MW]
   exact N5 _ (by omega))
  refine az ⟨_,rfl,l,C,dl,_,_,rfl,hL,R.cl,R.nB,ci,_,rfl,r,C,dr,_,_,rfl,hR,R.cl,R.nB,ci,_,_,rfl,rfl,⟨bl2.mono,br2.mono⟩,?_⟩;refine⟨_,rfl,l,C,dl,_,_,rfl,hL,R.cl,R.nB,ci,_,rfl,r,C,dr,_,_,rfl,hR,R.cl,R.nB,ci,by show 2<=sizeLine;decide,λp0 hp0=>?_⟩;have s0':=Same.upd_new (o:=.lst [V.int l2,V.int r2]) hp0;refine⟨p0,[l2,r2],rfl,SqL.of ar,_,_,rfl,rfl,⟨pg,bg⟩,?_⟩;generalize upd H p0 (.lst [V.int l2,V.int r2])=H0 at s0' ⊢
  dsimp only
  rw[em];refine az ⟨_,rfl,l,C,dl,_,_,rfl,s0' _ _ hL,R.cl,R.nT,c7,_,rfl,_,rfl,l,C,dl,_,_,rfl,s0' _ _ hL,R.cl,R.nB,ci,_,_,rfl,rfl,⟨hl2,bl2.mono⟩,?_⟩;dsimp only
  rw[e1];refine⟨_,_,rfl,rfl,⟨bl1.mono,br'.mono⟩,?_⟩;refine az ⟨_,rfl,r,C,dr,_,_,rfl,s0' _ _ hR,R.cl,R.nT,c7,_,rfl,_,rfl,r,C,dr,_,_,rfl,s0' _ _ hR,R.cl,R.nB,ci,_,_,rfl,rfl,⟨hr2,br2.mono⟩,?_⟩;dsimp only
  rw[e2];refine⟨_,_,rfl,rfl,⟨br1.mono,bl'.mono⟩,?_⟩;have q0:l1*r'*l2=l1*(l2*r'):=by grind
  have q1:r1*l'*r2=r1*(l2*r'):=by
   calc r1*l'*r2=r1*l'*(((aA [l2,r2]:Nat):Int)*r'):=by rw[<- er]
    _=r1*((((aA [l2,r2]:Nat):Int)*l')*r'):=by grind
    _=r1*(l2*r'):=by rw[<- el]
  have q2:0<r1*l':=MO hr1 pl';have bm:Bits 4300 (l2*r'):=bl2.mul br';have bs0:Bits 4300 (l1*r'):=bl1.mul br';have bs1:Bits 4300 (r1*l'):=br1.mul bl';dsimp only
  generalize l2*r'=m at *
  generalize l1*r'=s0 at *
  generalize r1*l'=s1 at *
  have sb:∀{l:Ex},AllB 1000 l->l.length<=12->AllB 60000 (cq m s0 s1 l):=λ{l} h hl=>(wH bm bs0 bs1 h).mono (by omega)
  refine az ⟨MK _,λp1 hp1=>?_⟩;have s1':=s0'.then_new (o:=.lst []) hp1;have h1:upd H0 p1 (.lst []) p1=some (.lst []):=ar;have f1:H p1=none:=s0'.free hp1;generalize upd H0 p1 (.lst [])=H1 at s1' h1 ⊢
  refine az ?_;have hl:(ns.map V.int).length=ns.length:=MC _;refine⟨_,rfl,a,_,rfl,SqL.of (s1' _ _ hA),uq (K:=K) (a:=a) (xs:=ns.map V.int) (λi Q2 H'=>∃(p:Addr) (z:Option V),Q2=[some (.ref a),some (.ref l),some (.ref r),some (.int m),some (.int s0),some (.int s1),some (.ref p),some (.int (m^i)),z]/\Same H H'/\H p=none/\H' p=some (.lst ((cq m s0 s1 (ns.drop (ns.length-i))).map V.int))) ⟨p1,none,by rw[Nq];rfl,s1',f1,by rw[NO,OU];exact h1⟩ ?_ ?_ ?_⟩
  ·rintro i Q2 H' _ ⟨p,z,rfl,sm,_⟩;exact SqL.of (sm _ _ hA)
  ·rintro i x Q2 H2 hi hx ⟨p,z,rfl,s2,fp,e2'⟩;rw[hl]at hi hx;obtain⟨c,ec,rfl,hc,_⟩:=ib hx;have bc:=hbn c hc;have hd:=Ar hi ec;have len:(ns.drop (ns.length-i)).length=i:=by rw[NS];omega
   have hbd:AllB 1000 (ns.drop (ns.length-i)):=λx hx=>hbn x (O1 hx)
   have aF:=sb hbd (by omega);have lF:(cq m s0 s1 (ns.drop (ns.length-i))).length=i:=by rw[jp,len]
   have bP:Bits 60000 (m^i):=(ir bm i).mono (by omega)
   have eF:fB (aw (cq m s0 s1 (ns.drop (ns.length-i))) [s0,s1]) (trim [c*m^i])=cq m s0 s1 (ns.drop (ns.length-(i+1))):=by
    have hT':Tr (cq m s0 s1 (ns.drop (ns.length-(i+1)))):=BN q2 (by rw[hd];simp) (BS hT (by omega));rw[hd]at hT' ⊢
    have hT2:Tr (mb (-s0) s1 (c*m^i) (cq m s0 s1 (ns.drop (ns.length-i)))):=by have:cq m s0 s1 (c::ns.drop (ns.length-i))=mb (-s0) s1 (c*m^(ns.drop (ns.length-i)).length) (cq m s0 s1 (ns.drop (ns.length-i))):=rfl;rw[this,len]at hT';exact hT'
    show _=mb (-s0) s1 (c*m^(ns.drop (ns.length-i)).length) (cq m s0 s1 (ns.drop (ns.length-i)));rw[len];by_cases hi0:i=0
    ·subst hi0;have e0:cq m s0 s1 (ns.drop (ns.length-0))=[]:=by rw[NO,OU];rfl
     rw[e0]at hT2 ⊢;refine jX (fD _) hT2 λk=>?_
     unfold fB;rw[fW,ke,aW,fW,M9];show 0+_=_;rw[NC];rfl
    ·have hn':cq m s0 s1 (ns.drop (ns.length-i))≠[]:=λz=>by rw[z]at lF;exact hi0 lF.symm
     have:=Cc (a := -s0) (b:=s1) (c:=c*m^i) hn' hT2;rw[Int.neg_neg]at this;exact this
   show cx (dS _ (fU 6)) _ _ _ _
   have bs:AllB 4300 [s0,s1]:=λx hx=>by
    simp only[MG,MT,or_false]at hx;rcases hx with rfl |rfl
    ·exact bs0
    ·exact bs1
   generalize cq m s0 s1 (ns.drop (ns.length-i))=Fs at *
   refine az ⟨_,rfl,_,rfl,_,rfl,by show 2<=sizeLine;decide,λp3 hp3=>?_⟩;have s3:=s2.then_new (o:=.lst ([s0,s1].map V.int)) hp3;have e3:upd H2 p3 (.lst ([s0,s1].map V.int)) p=some (.lst (Fs.map V.int)):=(Same.upd_new hp3) _ _ e2';have h3:upd H2 p3 (.lst ([s0,s1].map V.int)) p3=some (.lst ([s0,s1].map V.int)):=ar;refine⟨p,p3,Fs,[s0,s1],rfl,e3,h3,by omega,by show 2<=1000000;decide,aF.mono,bs.mono,λp4 H4 s4 hp4 e4=>?_⟩;have t4:=s3.trans s4;refine⟨_,rfl,_,rfl,_,_,rfl,rfl,⟨bc.mono,bP.mono⟩,by show 1<=sizeLine;decide,λp5 hp5=>?_⟩;have s5:=t4.then_new (o:=.lst ([c*m^i].map V.int)) hp5;have e5:upd H4 p5 (.lst ([c*m^i].map V.int)) p4=some (.lst ((aw Fs [s0,s1]).map V.int)):=(Same.upd_new hp5) _ _ e4;have h5:upd H4 p5 (.lst ([c*m^i].map V.int)) p5=some (.lst ([c*m^i].map V.int)):=ar;refine⟨p5,[c*m^i],rfl,SqL.of h5,λp6 H6 s6 hp6 e6=>?_⟩;have t6:=s5.trans s6;refine⟨p4,p6,aw Fs [s0,s1],trim [c*m^i],rfl,SqL.of (s6 _ _ e5),SqL.of e6,?_,?_,λp7 H7 s7 hp7 e7=>?_⟩
   ·have:(aw Fs [s0,s1]).length<=1000:=by
     unfold aw;split
     ·exact MK _
     ·rw[MC,Ny];show _+2-1<=_;omega
    omega
   ·have:=ub [c*m^i];have:(trim [c*m^i]).length<=1:=this;omega
   rw[eF]at e7;refine cK ⟨_,rfl,_,rfl,_,_,rfl,rfl,⟨bP.mono,bm.mono⟩,?_⟩;refine⟨p7,some (.int c),?_,t6.trans s7,t6.free hp7,e7⟩;rw[M6];rfl
  ·rintro Q2 H' ⟨p,z,rfl,sm,fp,e⟩;rw[hl,N0,Ol]at e;exact⟨_,rfl,k m s0 s1 pm q0 q1 q2 (sb hbn hln) p H' sm fp e⟩
def wS:Sp:=λvs H Q _=>∃(a:Addr) (ns:Ex),vs=[.ref a]/\H a=some (.lst (ns.map V.int))/\ns.length<=1000/\AllB 500000 ns/\mkL H Q (cO ns)
def E1(F:Fun K "spread" "spread" qP f fd)(T:Txt K mg):FnOk P w K mg base aD 1 f fd ["row"] wS:=by
 refine F.ok kJ (λvs H Q E h=>?_) (λ_ A _ s H vs Q E hr h=>?_)
 ·obtain⟨a,ns,rfl,_⟩:=h;rfl
 ·obtain⟨a,ns,rfl,hA,hn,hb,k⟩:=h;have big:=sizeLine_eq
  refine⟨_,(ah (ak 1 kJ (aU ad))
   (ah (ak 2 kJ ae)
   (ah (cT PassesOwn.never rfl (sT rfl T.reversed_ (ac (pv 0) ad)) (aY 3 kJ)
     (ah (dU (ga (pv 1) (ac (ag aE (pv 2) (pv 3)) ad)))
       (ai (ak 2 kJ (ag aE ae (pv 2))))))
   (ah (dU (yE PySem.F.plainAttrs_list PySem.F.slot_list_reverse PySem.F.type_list_reverse Gz (pv 1)))
   (ai (aB (pv 1))))))),?_⟩
  refine az ⟨MK _,λp1 hp1=>?_⟩;have s1':=Same.upd_new (o:=.lst []) hp1;have h1:upd H p1 (.lst []) p1=some (.lst []):=ar;generalize upd H p1 (.lst [])=H1 at s1' h1 ⊢
  refine az ?_;have hl:(ns.map V.int).length=ns.length:=MC _;refine⟨_,rfl,a,_,rfl,SqL.of (s1' _ _ hA),uq (K:=K) (a:=a) (xs:=ns.map V.int) (λi Q2 H'=>∃z:Option V,Q2=[some (.ref a),some (.ref p1),some (.int (2^i)),z]/\Same H H'/\H' p1=some (.lst ((cO (ns.drop (ns.length-i))).reverse.map V.int))) ⟨none,rfl,s1',by rw[NO,OU];exact h1⟩ ?_ ?_ ?_⟩
  ·rintro i Q2 H' _ ⟨z,rfl,sm,_⟩;exact SqL.of (sm _ _ hA)
  ·rintro i x Q2 H2 hi hx ⟨z,rfl,s2,h2⟩;rw[hl]at hi hx;obtain⟨c,ec,rfl,hc,_⟩:=ib hx;have hd:=Ar hi ec;have len:(ns.drop (ns.length-i)).length=i:=by rw[NS];omega
   show cx (mJ _) _ _ _ _;refine gA ⟨_,rfl,.inl ⟨rfl,_,SqL.of h2⟩,_,rfl,_,rfl,_,_,rfl,rfl,⟨(k7 (n:=i) (k:=1001) (by omega)).mono,(hb c hc).mono⟩,p1,_,_,rfl,rfl,h2,by rw[MC,List.length_reverse,mM,len];omega,?_⟩;refine cK ⟨_,rfl,_,_,rfl,rfl,⟨mE,(k7 (n:=i) (k:=1001) (by omega)).mono⟩,?_⟩;refine⟨some (.int c),?_,fO s2 hp1,?_⟩
   ·show[some (V.ref a),some (V.ref p1),some (V.int (2*2^i)),some (V.int c)]=_;rw[M6,No]
   ·rw[ar,hd,GL];show some (HO.lst (((cO (ns.drop (ns.length-i))).reverse++[2^i*c]).map V.int))=some (HO.lst ((2^(ns.drop (ns.length-i)).length*c::cO (ns.drop (ns.length-i))).reverse.map V.int));rw[List.reverse_cons,len]
  ·rintro Q2 H2 ⟨z,rfl,s2,h2⟩;rw[hl,N0,Ol]at h2;dsimp only
   refine gA ⟨_,rfl,.inl ⟨rfl,_,SqL.of h2⟩,p1,_,rfl,rfl,h2,?_⟩;refine⟨_,rfl,k p1 _ (fO s2 hp1) hp1 ?_⟩;rw[ar,<- List.map_reverse,List.reverse_reverse]
noncomputable def dZ(m:Ex)(j:Nat):Ex:=m.take (m.length-1-j)++cE (m.drop (m.length-1-j))
theorem sZ:∀(i:Nat) (m:Ex),eD i m=m.take i++cE (m.drop i)
 |0,m=>by rw[List.take_zero,Ol];rfl
 |i+1,[]=>rfl
 |i+1,c::m=>by show c::eD i m=c::(m.take i++cE (m.drop i));rw[sZ i m]
def HK(m:Ex)(j:Nat):(dZ m j).length=m.length:=by unfold dZ;rw[MY,jo,<- MY,List.take_append_drop]
def HH(m:Ex):dZ m 0=m:=by
 unfold dZ;rw[NO];cases hd:m.drop (m.length-1)with
 |nil =>have:m.length-1=m.length\/True:=.inr trivial;have h1:m.length<=m.length-1:=List.drop_eq_nil_iff.mp hd;have:m=[]:=NV (by omega);subst this;rfl
 |cons c r =>have hl:=congrArg List.length hd;rw[NS,Ng]at hl;have:r=[]:=NV (by omega);subst this;show _++[c+0]=_;rw[Nv,<- hd,List.take_append_drop]
def HL(m:Ex){i:Nat}(h:i+1<=m.length):dZ m (m.length-1-i)=eD i m:=by
 unfold dZ;rw[sZ];have:m.length-1-(m.length-1-i)=i:=by omega
 rw[this]
def HJ(m:Ex){j:Nat}(h:j+2<=m.length):(dZ m j).set (m.length-2-j) (cf (dZ m j) (m.length-2-j)+cf (dZ m j) (m.length-1-j))=dZ m (j+1):=by
 have e1:m.length-1-(j+1)=m.length-2-j:=by omega
 have e2:m.length-1-j=m.length-2-j+1:=by omega
 have hk:m.length-2-j<m.length:=by omega
 unfold dZ;rw[e1,e2];generalize m.length-2-j=k at hk e2
 have hd:m.drop k=m[k]::m.drop (k+1):=OV hk;have ht:m.take (k+1)=m.take k++[m[k]]:=by rw[NG,List.getElem?_eq_getElem hk];rfl
 rw[hd,ht];have lt:(m.take k).length=k:=by rw[NK];omega
 have c1:cf (m.take k++[m[k]]++cE (m.drop (k+1))) k=m[k]:=by rw[Os,o8 (by omega),lt,N0];rfl
 have c2:cf (m.take k++[m[k]]++cE (m.drop (k+1))) (k+1)=(cE (m.drop (k+1))).headD 0:=by
  rw[o8 (by rw[MY,lt];exact MI _),MY,lt];show cf _ (k+1-(k+1))=_;rw[N0];cases cE (m.drop (k+1))with
  |nil=>rfl
  |cons _ _=>rfl
 rw[c1,c2];show _=m.take k++((m[k]+(cE (m.drop (k+1))).headD 0)::cE (m.drop (k+1)));rw[Os,List.set_append_right _ _ (by omega),lt,N0];rfl
theorem wE{M:Nat}:∀{l:Ex},(∀x∈l,x.natAbs<=M)->∀x∈cE l,x.natAbs<=l.length*M
 | [],_,x,hx=>nomatch hx
 |v::l,h,x,hx=>by
  have ih:=wE (l:=l) λx hx=>h x (MV _ hx)
  have hv:=h v (M0 ..)
  have hh:((cE l).headD 0).natAbs<=l.length*M:=by
   cases hs:cE l with
   |nil=>show(0:Int).natAbs<=_;exact MK _
   |cons g r=>exact ih g (by rw[hs];exact M0 ..)
  rw[Ng,Oh,Oy];rcases MG.mp hx with e |e
  ·subst e;exact MU (Int.natAbs_add_le _ _) (MU (Nat.add_le_add hv hh) (Oe (Nat.add_comm _ _)))
  ·exact MU (ih x e) (Nat.le_add_right _ _)
def EI{i k:Nat}{m:Ex}(h:AllB i m)(hl:m.length<=16):AllB (i+4) (eD k m):=by
 rw[sZ];refine AllB.app (λx hx=>(h x (O2 hx)).mono (by omega)) λx hx=>?_
 have h1:=wE (M:=2^i-1) (l:=m.drop k) (λy hy=>by have:y.natAbs<2^i:=h y (O1 hy);omega) x hx;have h2:(m.drop k).length*(2^i-1)<=16*(2^i-1):=NJ _ (by rw[NS];omega);have h3:0<2^i:=Ou (by decide);show x.natAbs<2^(i+4);have h4:2^(i+4)=2^i*16:=by rw[Nat.pow_add]
 omega
theorem zb{i:Nat}{m:Ex}(h:AllB i m)(hl:m.length<=16):∀n,AllB (i+4*n) (fR n m)
 |0=>h
 |n+1=>by have:=EI (k:=n) (zb h hl n) (by rw[ou];exact hl);exact this.mono (by omega)
def GF{i:Nat}{m:Ex}(h:AllB i m)(hl:m.length<=12):AllB (i+44) (lw m):=(zb h (by omega) _).mono (by omega)
theorem wM{i:Nat}:∀{m:Ex},AllB i m->m.length<=12->AllB (i+13) (cO m)
 | [],_,_=>AllB.nil
 |v::m,h,hl=>by
  have ih:=wM (m:=m) (λx hx=>h x (MV _ hx)) (by rw[Ng]at hl;omega);intro x hx;rcases MG.mp hx with e |e
  ·subst e;have:=(k7 (n:=m.length) (k:=13) (by rw[Ng]at hl;omega)).mul (h v (M0 ..));exact this.mono (by omega)
  ·exact ih x e
def w9:Sp:=λvs H Q _=>∃(a:Addr) (ns:Ex),vs=[.ref a]/\H a=some (.lst (ns.map V.int))/\1<=ns.length/\ns.length<=1000/\mkL H Q (lw ns)
def qC(l:Ex)(k:Nat)(v:Int):(l.map V.int).set k (.int v)=(l.set k v).map V.int:=by rw[List.map_set]
def AX{l:Ex}{k:Nat}{j:Int}(e:j=(k:Int))(h:k<l.length):atI (l.map V.int) j=some (.int (cf l k)):=by subst e;refine gQ ?_;rw[List.getElem?_map,List.getElem?_eq_getElem h];show some (V.int l[k])=_;rw[vc (List.getElem?_eq_getElem h)]
def Fm(F:Fun K "moved" "moved" rh f fd)(T:Txt K mg)(dW:Cal P w K mg base 1 "degree" ["row"] iz lY lW):FnOk P w K mg base aD 2 f fd ["row"] w9:=by
 refine F.ok mZ (λvs H Q E h=>?_) (λ_ A _ s H vs Q E hr h=>?_)
 ·obtain⟨a,ns,rfl,_⟩:=h;rfl
 ·obtain⟨a,ns,rfl,hA,hn1,hn,k⟩:=h;have big:=sizeLine_eq
  refine⟨_,(ah (ak 1 mZ (hI (mn (K:=K) rfl) (by rfl) T.list_ PyProof.Rows.boot_list (ac (pv 0) ad)))
   (ah (cT PassesOwn.never rfl (gF rfl T.range_ (ac (am dW hr (ac (pv 0) ad)) ad)) (aY 2 mZ)
     (ai (cT PassesOwn.never rfl (yz rfl T.range_ (ac (ag cg (am dW hr (ac (pv 0) ad)) ae) (ac (ag cg (pv 2) ae) (ac (bV bU ae) ad)))) (aY 3 mZ)
       (ai (eZ (ag aV (ce K (pv 1) (pv 3)) (ce K (pv 1) (ag aV (pv 3) ae))) (jP (pv 1) (pv 3) jv))))))
   (ai (aB (pv 1))))),?_⟩
  refine az ⟨_,rfl,a,_,rfl,.inl (SqL.of hA),λp hp=>?_⟩;have s1':=Same.upd_new (o:=.lst (ns.map V.int)) hp;have h1:upd H p (.lst (ns.map V.int)) p=some (.lst (ns.map V.int)):=ar;generalize upd H p (.lst (ns.map V.int))=H1 at s1' h1 ⊢
  have hl:(ns.map V.int).length=ns.length:=MC _;have ed:((ns.map V.int).length:Int)-1=((ns.length-1:Nat):Int):=by rw[hl];omega
  refine⟨_,rfl,a,_,rfl,s1' _ _ hA,_,rfl,(by rw[ed];omega),(by rw[ed];omega),?_⟩;rw[ed];refine iW (lo:=0) (n:=ns.length-1) (λi Q2 H'=>∃z2 z3:Option V,Q2=[some (.ref a),some (.ref p),z2,z3]/\Same H H'/\H' p=some (.lst ((fR i ns).map V.int))) ⟨none,none,rfl,s1',h1⟩ ?_ ?_
  ·rintro i Q2 H2 hi ⟨z2,z3,rfl,s2,h2⟩;have lm:(fR i ns).length=ns.length:=ou _ _;generalize hM:fR i ns=M at h2 lm
   obtain⟨r,er⟩:∃r,ns.length=r+2:=⟨ns.length-2,by omega⟩;have er1:ns.length-1=r+1:=by rw[er];rfl
   have er2:ns.length-2=r:=by rw[er];rfl
   have hr':r+2<=100000:=by rw[<- er];omega
   rw[er1]at hi;refine⟨_,rfl,a,_,rfl,s2 _ _ hA,_,_,rfl,rfl,_,rfl,_,_,rfl,rfl,_,rfl,(r:Int),(i:Int)-1,?_,⟨by omega,by omega,by omega,by omega⟩,?_⟩
   ·rw[ed,er1];have e1:((r+1:Nat):Int)-1=(r:Int):=by omega
    have e2:(0:Int)+(i:Int)-1=(i:Int)-1:=by omega
    dsimp only
    rw[e1,e2]
   have en:((r:Int)-((i:Int)-1)).toNat=r+1-i:=by omega
   rw[en];refine zT (λj Q2 H'=>∃z3:Option V,Q2=[some (.ref a),some (.ref p),some (.int (0+(i:Int))),z3]/\Same H H'/\H' p=some (.lst ((dZ M j).map V.int))) ⟨z3,rfl,s2,by rw[HH];exact h2⟩ ?_ ?_
   ·rintro j Q2 H3 hj ⟨z3,rfl,s3,h3⟩;have hj':j<=r:=by omega
    have lh:(dZ M j).length=r+2:=by rw[HK,lm,er]
    have hs:=HJ M (j:=j) (by rw[lm,er];omega);rw[lm,er1,er2]at hs;have k1:(r:Int)+(j:Int) * -1=((r-j:Nat):Int):=by omega
    have k2:(r:Int)+(j:Int) * -1+1=((r+1-j:Nat):Int):=by omega
    refine⟨_,rfl,_,rfl,p,_,_,_,rfl,rfl,SqL.of h3,AX k1 (by omega),_,rfl,_,rfl,_,_,rfl,rfl,p,_,_,_,rfl,rfl,SqL.of h3,AX k2 (by omega),_,_,rfl,rfl,_,rfl,_,rfl,p,_,_,r-j,rfl,rfl,h3,?_,?_⟩
    ·exact lQ k1 (by rw[MC];omega)
    refine⟨_,rfl,fO s3 hp,?_⟩;rw[ar,qC,hs]
   ·rintro Q2 H3 ⟨z3,rfl,s3,h3⟩;refine⟨_,_,rfl,s3,?_⟩
    have:dZ M (r+1-i)=fR (i+1) ns:=by rw[<- er1,<- lm,HL M (by rw[lm,er];omega),<- hM];rfl
    rw[<- this];exact h3
  ·rintro Q2 H2 ⟨z2,z3,rfl,s2,h2⟩;exact⟨_,rfl,k p H2 s2 hp h2⟩
structure RootB(ns:Ex)(ε:Int)(up:Int->Int->Prop):Prop where
 e1:ε=1\/ε = -1
 r1:∀p c,0<p->p<=c->up p c->sg (hv p c ns) = -ε
 r2:∀p c,0<p->p<=c->¬up p c->sg (hv p c ns)=ε\/sg (hv p c ns)=0
 r3:∀p c p' c',0<p->p<=c->0<p'->p'<=c'->¬up p c->p*c'<p'*c->sg (hv p' c' ns)=ε
 sc:∀p c,0<c->(up (2*p) (2*c)↔up p c)
 top:¬up 1 1
def HC(p c:Int)(l:Ex):sg (hv (2*p) (2*c) l)=sg (hv p c l):=by rw[oO];exact iC (NQ (by decide))
def xk:Sp:=λvs H Q _=>∃(a:Addr) (ns:Ex) (e:Int) (n:Nat) (ε:Int) (up:Int->Int->Prop),vs=[.ref a,.int e,.int n]/\H a=some (.lst (ns.map V.int))/\1<=ns.length/\ns.length<=12/\AllB 60000 ns/\n<=4000/\RootB ns ε up/\e=sg (hv 1 1 ns) /\
 ∀(p:Addr) (H':Hp) (pl:Nat),Same H H'->H p=none->H' p=some (.tup [.int pl,.int (2^n)])->pl<2^n->(pl=0\/up pl (2^n))->¬up ((pl:Int)+1) (2^n)->Q (.ref p) H'
def Fw(F:Fun K "halved" "halved" rC f fd)(T:Txt K mg)(Kv:Cal P w K mg base 1 "spread" ["row"] wS LV Lh)(je:Cal P w K mg base 1 "whole_sign" ["value"] kx uH uw)(KD:Cal P w K mg base 2 "moved" ["row"] w9 L6 Lp):FnOk P w K mg base aD 3 f fd ["row","end","steps"] xk:=by
 refine F.ok eg (λvs H Q E h=>?_) (λ_ A _ s H vs Q E hr h=>?_)
 ·obtain⟨a,ns,e,n,ε,up,rfl,_⟩:=h;rfl
 ·obtain⟨a,ns,e,n,ε,up,rfl,hA,h1n,hln,hbn,hn,hB,he,k⟩:=h
  refine⟨_,(ah (ak 3 eg ae)
   (ah (ak 4 eg ae)
   (ah (ak 5 eg (pv 1))
   (ah (ak 6 eg (pv 0))
   (ah (cT PassesOwn.never rfl (gF rfl T.range_ (ac (pv 2) ad)) (aY 7 eg)
     (ah (ak 3 eg (ag aE ae (pv 3)))
       (ah (ak 4 eg (ag aE ae (pv 4)))
       (ah (ak 6 eg (am Kv hr (ac (pv 6) ad)))
       (ah (ak 8 eg (am je hr (ac (cM (JR (K:=K) rfl rfl) (by rfl) T.sum_ PyProof.Rows.boot_sum (ac (pv 6) ad)) ad)))
       (ai (aP (PW.pt (g7 (aG gJ (pv 8) ae) (g6 (aG gJ (pv 8) (pv 5)))))
         (ah (ak 3 eg (ag aV (pv 3) ae))
           (ai (ak 6 eg (am KD hr (ac (pv 6) ad)))))
         (ai (ak 5 eg (pv 8))))))))))
   (ai (aB (cL (ac (pv 3) (ac (pv 4) ad)))))))))),?_⟩
  refine az ?_;refine az ?_;refine az ⟨_,rfl,?_⟩;refine az ⟨_,rfl,?_⟩;refine⟨_,rfl,n,rfl,by omega,by omega,iW (lo:=0) (n:=n) (λi Q2 H'=>∃(p:Addr) (pl:Nat) (L:Ex) (z7 z8:Option V),Q2=[some (.ref a),some (.int e),some (.int n),some (.int pl),some (.int (2^i)),some (.int (sg (hv ((pl:Int)+1) (2^i) ns))),some (.ref p),z7,z8]/\Same H H'/\H' p=some (.lst (L.map V.int))/\L.length=ns.length/\AllB (60000+60*i) L/\(∀p q:Int,2^i*hv p q L=hv (pl*q+p) (2^i*q) ns)/\pl<2^i/\(pl=0\/up pl (2^i))/\¬up ((pl:Int)+1) (2^i)) ⟨a,0,ns,none,none,by rw[he];rfl,Same.refl _,hA,rfl,hbn,λp q=>by rw[Nq,M9,M9];show _=hv (0*q+p) q ns;rw[NN,NC],by decide,.inl rfl,by rw[Nq];exact hB.top⟩ ?_ ?_⟩
  ·rintro i Q2 H1 hi ⟨p,pl,L,z7,z8,rfl,s1,h1,lL,bL,hval,hpl,hup,hnup⟩;show cx (dS _ (fU 3)) _ _ _ _;have b2i:Bits 4002 ((2:Int)^i):=k7 (by omega);have p2i:=jO i;have cpl:(pl:Int)<2^i:=by rw[iL];exact OC.mpr hpl
   have bpl:Bits 4002 (pl:Int):=b2i.of_le (by rw[iL];omega);refine az ⟨_,rfl,_,_,rfl,rfl,⟨mE,bpl.mono⟩,?_⟩;refine az ⟨_,rfl,_,_,rfl,rfl,⟨mE,b2i.mono⟩,?_⟩;refine az ⟨_,rfl,p,L,rfl,h1,by omega,bL.mono (by omega),λp2 H2 s2 hp2 e2=>?_⟩;have t2:=s1.trans s2;have lS:(cO L).length=ns.length:=by rw[mM,lL]
   have bS:AllB (60000+60*i+13) (cO L):=wM bL (by omega);have e2i:(2:Int)*2^i=2^(i+1):=by rw[M6,No]
   have vS:∀p q:Int,2^(i+1)*hv p q (cO L)=hv (((2*pl:Nat):Int)*q+p) (2^(i+1)*q) ns:=λp q=>by
    have h3:=hval p (2*q);rw[<- zJ]at h3;have h4:(2:Int)^(i+1)*hv p q (cO L)=2^i*(2*hv p q (cO L)):=by rw[M6];grind
    rw[h4,h3]
    have h5:(pl:Int)*(2*q)+p=((2*pl:Nat):Int)*q+p:=by
     have:((2*pl:Nat):Int)=2*(pl:Int):=by omega
     rw[this];grind
    have h6:(2:Int)^i*(2*q)=2^(i+1)*q:=by rw[M6];grind
    rw[h5,h6]
   refine az ⟨_,rfl,p2,cO L,rfl,SqL.of e2,_,rfl,?_⟩;have p2i1:=jO (i+1)
   have ethere:sg (cO L).sum=sg (hv (((2*pl:Nat):Int)+1) (2^(i+1)) ns):=by have h3:=vS 1 1;rw[Nl,Nl]at h3;rw[<- zH,<- h3,iC p2i1]
   have c2pl:(((2*pl:Nat):Int)+1)<=2^(i+1):=by rw[<- e2i];omega
   have hold:sg (hv ((pl:Int)+1) (2^i) ns)=sg (hv (2*((pl:Int)+1)) (2^(i+1)) ns):=by rw[<- e2i,HC]
   have plc:(pl:Int)+1<=2^i:=by omega
   generalize hth:sg (cO L).sum=th at ethere
   show fH _ _ _ _ _ _;have epl:(2:Int)*(pl:Int)=((2*pl:Nat):Int):=by omega
   have n2i:2^(i+1)=2*2^i:=by rw[Nat.pow_succ,Nat.mul_comm]
   refine dX (λQ2 H'=>Q2=[some (.ref a),some (.int e),some (.int n),some (.int (2*(pl:Int))),some (.int (2*2^i)),some (.int (sg (hv ((pl:Int)+1) (2^i) ns))),some (.ref p2),some (.int (0+(i:Int))),some (.int th)]/\H2=H') ⟨by rw[<- hth];rfl,rfl⟩ ?_;rintro Q2 H' ⟨rfl,rfl⟩;by_cases hu:up (((2*pl:Nat):Int)+1) (2^(i+1))
   ·
    have r1:=hB.r1 _ _ (by omega) c2pl hu;rw[<- ethere]at r1;have r2:=hB.r2 _ _ (by omega) plc hnup;have n0:th≠0:=by rcases hB.e1 with z |z<;>omega
    have n1:th≠sg (hv ((pl:Int)+1) (2^i) ns):=by rcases hB.e1 with z |z<;>rcases r2 with y |y<;>omega
    refine gZ (gB ⟨_,rfl,_,_,rfl,rfl,_,rfl,de (λ_=>?_) (λh0=>absurd h0 n0)⟩);refine⟨_,rfl,_,rfl,_,_,rfl,rfl,_,rfl,de (λ_=>?_) (λh0=>absurd h0 n1)⟩;refine az ⟨_,rfl,_,_,rfl,rfl,?_⟩;refine cK ⟨_,rfl,p2,cO L,rfl,e2,by omega,by omega,λp3 H3 s3 hp3 e3=>?_⟩;refine⟨p3,2*pl+1,lw (cO L),some (.int (0+(i:Int))),some (.int th),?_,t2.trans s3,e3,by rw[zc,lS],(GF bS (by omega)).mono (by omega),λp q=>?_,by omega,.inr ?_,?_⟩
    ·have q1:(2:Int)*(pl:Int)+1=((2*pl+1:Nat):Int):=by omega
     have q2:((2*pl+1:Nat):Int)+1=2*((pl:Int)+1):=by omega
     rw[q2,<- hold,<- q1,<- e2i];rfl
    ·rw[HD,vS]
     have:((2*pl:Nat):Int)*q+(p+q)=((2*pl+1:Nat):Int)*q+p:=by
      have:((2*pl+1:Nat):Int)=((2*pl:Nat):Int)+1:=by omega
      rw[this];grind
     rw[this]
    ·exact hu
    ·have q2:((2*pl+1:Nat):Int)+1=2*((pl:Int)+1):=by omega
     rw[q2,<- e2i,hB.sc _ _ p2i];exact hnup
   ·
    have r2:=hB.r2 _ _ (by omega) c2pl hu;rw[<- ethere]at r2
    have r3:=hB.r3 _ _ ((pl:Int)+1) (2^i) (by omega) c2pl (by omega) plc hu (by
     have h7:(((2*pl:Nat):Int)+1)*2^i<(2*(pl:Int)+2)*2^i:=Int.mul_lt_mul_of_pos_right (by omega) p2i;have h8:((pl:Int)+1)*2^(i+1)=(2*(pl:Int)+2)*2^i:=by rw[M6];grind
     omega)
    have low:∃(p:Addr) (q:Nat) (L':Ex) (z7 z8:Option V),[some (V.ref a),some (V.int e),some (V.int n),some (V.int (2*(pl:Int))),some (V.int (2*2^i)),some (V.int th),some (V.ref p2),some (V.int (0+(i:Int))),some (V.int th)]=[some (.ref a),some (.int e),some (.int n),some (.int q),some (.int (2^(i+1))),some (.int (sg (hv ((q:Int)+1) (2^(i+1)) ns))),some (.ref p),z7,z8]/\Same H H2/\H2 p=some (.lst (L'.map V.int))/\L'.length=ns.length/\AllB (60000+60*(i+1)) L'/\(∀p q':Int,2^(i+1)*hv p q' L'=hv (q*q'+p) (2^(i+1)*q') ns)/\q<2^(i+1)/\(q=0\/up q (2^(i+1)))/\¬up ((q:Int)+1) (2^(i+1)):=by
     refine⟨p2,2*pl,cO L,some (.int (0+(i:Int))),some (.int th),by rw[e2i,epl,ethere],t2,e2,lS,bS.mono (by omega),vS,by omega,?_,hu⟩;rcases hup with z |z
     ·exact .inl (by omega)
     ·refine .inr ?_;rw[<- epl,<- e2i,hB.sc _ _ p2i];exact z
    by_cases n0:th=0
    ·refine gZ (gB ⟨_,rfl,_,_,rfl,rfl,_,rfl,de (λh0=>absurd n0 h0) (λ_=>?_)⟩);exact dA (cK ⟨_,rfl,low⟩)
    ·have n1:th=sg (hv ((pl:Int)+1) (2^i) ns):=by
      rcases r2 with z |z
      ·rw[z,r3]
      ·exact absurd z n0
     refine gZ (gB ⟨_,rfl,_,_,rfl,rfl,_,rfl,de (λ_=>?_) (λh0=>absurd h0 n0)⟩);refine⟨_,rfl,_,rfl,_,_,rfl,rfl,_,rfl,de (λh0=>absurd n1 h0) (λ_=>?_)⟩;exact cK ⟨_,rfl,low⟩
  ·rintro Q2 H1 ⟨p,pl,L,z7,z8,rfl,s1,h1,lL,bL,hval,hpl,hup,hnup⟩;dsimp only
   refine bC ⟨_,rfl,_,rfl,by show 2<=sizeLine;decide,λp' hp'=>?_⟩;exact k p' _ pl (s1.then_new hp') (s1.free hp') ar hpl hup hnup
structure RootU(ns:Ex)(l1 l2 h1 h2 ε:Int)(Up:Int->Int->Prop):Prop where
 e1:ε=1\/ε = -1
 r1:∀x1 x2,0<x2->l1*x2<x1*l2->x1*h2<=h1*x2->Up x1 x2->sg (hv x1 x2 ns) = -ε
 r2:∀x1 x2,0<x2->l1*x2<x1*l2->x1*h2<=h1*x2->¬Up x1 x2->sg (hv x1 x2 ns)=ε\/sg (hv x1 x2 ns)=0
 r3:∀x1 x2 y1 y2,0<x2->0<y2->l1*x2<x1*l2->y1*h2<=h1*y2->¬Up x1 x2->x1*y2<y1*x2->sg (hv y1 y2 ns)=ε
 sc:∀x1 x2 y1 y2,0<x2->0<y2->x1*y2=y1*x2->Up x1 x2->Up y1 y2
 low:Up l1 l2
 top:¬Up h1 h2
structure EndsG(k:Nat)(l1 l2 h1 h2:Int):Prop where
 l2p:0<l2
 h2p:0<h2
 bl1:Bits k l1
 bl2:Bits k l2
 bh1:Bits k h1
 bh2:Bits k h2
 lt:l1*h2<h1*l2
 gl:Nat.gcd l1.natAbs l2.natAbs=1
 gh:Nat.gcd h1.natAbs h2.natAbs=1
def EndsG.mono{j k:Nat}{l1 l2 h1 h2:Int}(e:EndsG j l1 l2 h1 h2)(h:j<=k:=by decide):EndsG k l1 l2 h1 h2:=⟨e.l2p,e.h2p,e.bl1.mono h,e.bl2.mono h,e.bh1.mono h,e.bh2.mono h,e.lt,e.gl,e.gh⟩
structure NarP(l1 l2 h1 h2 w1 w2:Int)(Up:Int->Int->Prop)(kb:Nat)(n pl:Nat)(x1 x2 y1 y2:Int):Prop where
 ends:EndsG kb x1 x2 y1 y2
 ux:Up x1 x2
 uy:¬Up y1 y2
 lo:l1*x2<=x1*l2
 hi:y1*h2<=h1*y2
 wide:(y1*x2-x1*y2)*w2<=w1*(x2*y2)
 pls:pl<2^n
 ex:x1*(l2*h2*2^n)=(l1*h2*2^n+(h1*l2-l1*h2)*pl)*x2
 ey:y1*(l2*h2*2^n)=(l1*h2*2^n+(h1*l2-l1*h2)*(pl+1))*y2
 big:∀j:Nat,j<n->w1*(h2*l2)*2^j<(h1*l2-l1*h2)*w2
 fit:(h1*l2-l1*h2)*w2<=w1*(h2*l2)*2^n
def CL{x1 x2 y1 y2:Int}(hx:0<x2)(hy:0<y2)(e:x1*y2=y1*x2)(l:Ex):sg (hv x1 x2 l)=sg (hv y1 y2 l):=by
 have h1:=oO y2 x1 x2 l;have h2:=oO x2 y1 y2 l;have e1:y2*x1=x2*y1:=by rw[No y2,e,No]
 rw[e1,No y2 x2]at h1;rw[h1]at h2;have h3:=congrArg sg h2;rw[iC (NQ hy),iC (NQ hx)]at h3;exact h3
def pd{a b c:Int}(hc:0<c)(h:a*c=b*c):a=b:=O4 (M7 hc) h
def o9{a b c:Int}(hc:0<c)(h:a*c<=b*c):a<=b:=Int.le_of_mul_le_mul_right h hc
def ml{a b c:Int}(hc:0<c)(h:a*c<b*c):a<b:=Int.lt_of_mul_lt_mul_right h (Nd hc)
def AZ{l1 l2 h1 h2 r1 r2 x1 x2 pc pl:Int}(hr:0<r2)(er:r1*(h2*l2)=(h1*l2-l1*h2)*r2)(e:x1*(l2*r2*pc)=(l1*r2*pc+r1*l2*pl)*x2):x1*(l2*h2*pc)=(l1*h2*pc+(h1*l2-l1*h2)*pl)*x2:=by
 refine pd hr ?_
 calc x1*(l2*h2*pc)*r2=(x1*(l2*r2*pc))*h2:=by grind
  _=(l1*r2*pc+r1*l2*pl)*x2*h2:=by rw[e]
  _=(l1*h2*pc*r2+(r1*(h2*l2))*pl)*x2:=by grind
  _=(l1*h2*pc*r2+((h1*l2-l1*h2)*r2)*pl)*x2:=by rw[er]
  _=(l1*h2*pc+(h1*l2-l1*h2)*pl)*x2*r2:=by grind
def yV{l1 l2 h1 h2 w1 w2 x1 x2 y1 y2 pc pl:Int}(hl:0<l2)(hh:0<h2)(hx:0<x2)(hy:0<y2)(hpc:0<pc)(hp0:0<=pl)(hp1:pl+1<=pc)(hD:0<h1*l2-l1*h2)(ex:x1*(l2*h2*pc)=(l1*h2*pc+(h1*l2-l1*h2)*pl)*x2)(ey:y1*(l2*h2*pc)=(l1*h2*pc+(h1*l2-l1*h2)*(pl+1))*y2)(fit:(h1*l2-l1*h2)*w2<=w1*(h2*l2)*pc):x1*y2<y1*x2/\l1*x2<=x1*l2/\y1*h2<=h1*y2/\(y1*x2-x1*y2)*w2<=w1*(x2*y2):=by
 have hlh:0<l2*h2:=MO hl hh;have hM:0<l2*h2*pc:=MO hlh hpc;have hxy:0<x2*y2:=MO hx hy
 have hd:(y1*x2-x1*y2)*(l2*h2*pc)=(h1*l2-l1*h2)*(x2*y2):=by
  calc (y1*x2-x1*y2)*(l2*h2*pc)=(y1*(l2*h2*pc))*x2-(x1*(l2*h2*pc))*y2:=by grind
   _=((l1*h2*pc+(h1*l2-l1*h2)*(pl+1))*y2)*x2-((l1*h2*pc+(h1*l2-l1*h2)*pl)*x2)*y2:=by rw[ex,ey]
   _=(h1*l2-l1*h2)*(x2*y2):=by grind
 have hi:y1*h2<=h1*y2:=by
  refine o9 (c:=l2*pc) (MO hl hpc) ?_;have e1:y1*h2*(l2*pc)=y1*(l2*h2*pc):=by grind
  have e2:h1*y2*(l2*pc)=(l1*h2*pc+(h1*l2-l1*h2)*pc)*y2:=by grind
  rw[e1,ey,e2];refine OF ?_ (Nd hy);have:=Int.mul_le_mul_of_nonneg_left hp1 (Nd hD);omega
 generalize h1*l2-l1*h2=D at *
 refine⟨?_,?_,hi,?_⟩
 ·have h3:0<(y1*x2-x1*y2)*(l2*h2*pc):=by rw[hd];exact MO hD hxy
  have h4:0<y1*x2-x1*y2:=ml hM (by rw[NN];exact h3);omega
 ·refine o9 (c:=h2*pc) (MO hh hpc) ?_;have e1:x1*l2*(h2*pc)=x1*(l2*h2*pc):=by grind
  have e2:l1*x2*(h2*pc)=l1*h2*pc*x2:=by grind
  rw[e1,ex,e2,Int.add_mul];have:0<=D*pl*x2:=Nz (Nz (Nd hD) hp0) (Nd hx);omega
 ·refine o9 hM ?_;have e1:(y1*x2-x1*y2)*w2*(l2*h2*pc)=((y1*x2-x1*y2)*(l2*h2*pc))*w2:=by grind
  have e2:w1*(x2*y2)*(l2*h2*pc)=w1*(h2*l2)*pc*(x2*y2):=by grind
  have e3:D*(x2*y2)*w2=D*w2*(x2*y2):=by grind
  rw[e1,hd,e2,e3];exact OF fit (Nd hxy)
def ql(C:Addr):Sp:=λvs H Q _=>∃(a l h wd:Addr) (ns:Ex) (l1 l2 h1 h2 w1 w2:Int) (k kw:Nat) (ε:Int) (Up:Int->Int->Prop),vs=[.ref a,.ref l,.ref h,.ref wd]/\H a=some (.lst (ns.map V.int))/\Tr ns/\ns≠[]/\ns.length<=12/\AllB 1000 ns/\RA C H l l1 l2/\RA C H h h1 h2/\RA C H wd w1 w2/\EndsG k l1 l2 h1 h2/\0<w1/\0<w2/\Bits kw w1/\Bits kw w2/\k<=1400/\2*k+kw<=3900/\5*k+kw<=8900/\RootU ns l1 l2 h1 h2 ε Up /\
 ∀(p x y:Addr) (H':Hp) (n pl:Nat) (x1 x2 y1 y2:Int),Same H H'->H p=none->H' p=some (.tup [.ref x,.ref y])->RA C H' x x1 x2->RA C H' y y1 y2->NarP l1 l2 h1 h2 w1 w2 Up (5*k+kw+4) n pl x1 x2 y1 y2->Q (.ref p) H'
def Fj(F:Fun K "narrowed" "narrowed" rf f fd)(T:Txt K mg)(R:RCI K mg C)(v7:MCal P w K mg base 4 C "minus" ["self","other"] (qo C) Jm IM)(KI:Cal P w K mg base 1 "halvings" ["reach","width"] (xj C) Mb Lv)(KJ:Cal P w K mg base 3 "halved" ["row","end","steps"] xk Mc Lw)(Kt:Cal P w K mg base 3 "stretched" ["row","low","reach"] (wQ C) LR Lf)(jf:Cal P w K mg base 2 "sign_at" ["row","ratio"] (ky C) uI uz)(Be:Cal P w K mg base 5 "along" ["low","reach","place","pieces"] (xu C) Mg LA):FnOk P w K mg base aD 6 f fd ["row","low","high","width"] (ql C):=by
 obtain⟨vI,tU,vA⟩:=v7;refine F.ok mY (λvs H Q E h=>?_) (λ_ A _ s H vs Q E hr h=>?_)
 ·obtain⟨a,l,h,wd,ns,l1,l2,h1,h2,w1,w2,k,kw,ε,Up,rfl,_⟩:=h;rfl
 ·obtain⟨a,l,h,wd,ns,l1,l2,h1,h2,w1,w2,kb,kw,ε,Up,rfl,hA,hT,hne,hln,hbn,hl,hh,hw,en,hw1,hw2,bw1,bw2,hk1,hk2,hk3,hU,k⟩:=h
  refine⟨_,(ah (ak 4 mY (dC (pv 2) R.cl tU vI (hr.mono) vA .nil aZ (ac (pv 1) ad)))
   (ah (ak 5 mY (am KI hr (ac (pv 4) (ac (pv 3) ad))))
   (ah (aP (aG cB (pv 5) ae)
     (ai (aB (cL (ac (pv 1) (ac (pv 2) ad)))))
     aR)
   (ah (ak 6 mY (am KJ hr (ac (am Kt hr (ac (pv 0) (ac (pv 1) (ac (pv 4) ad)))) (ac (am jf hr (ac (pv 0) (ac (pv 2) ad))) (ac (pv 5) ad)))))
   (ai (aB (cL (ac (am Be hr (ac (pv 1) (ac (pv 4) (ac (aS K (pv 6) ae) (ac (aS K (pv 6) ae) ad))))) (ac (am Be hr (ac (pv 1) (ac (pv 4) (ac (ag aV (aS K (pv 6) ae) ae) (ac (aS K (pv 6) ae) ad))))) ad))))))))),?_⟩
  obtain⟨dl,hl'⟩:=id hl;obtain⟨dh,hh'⟩:=id hh;obtain⟨l2p,h2p,bl1,bl2,bh1,bh2,lt,_,_⟩:=id en;refine az ⟨_,rfl,h,dh,_,rfl,hh',dk ot.1 ot.2,_,rfl,h,l,h1,h2,l1,l2,kb,kb,rfl,hh,hl,bh1.mono (by omega),bh2,bl1.mono (by omega),bl2,by omega,h2p,l2p,λr H1 s1 fr hr1=>?_⟩;have d0:h2*l2≠0:=M7 (MO h2p l2p);have er:=fJ (t:=h1*l2-l1*h2) d0;have r2p:0<rb (h1*l2-l1*h2) (h2*l2):=df d0;have br1:Bits (2*kb+1) (rt (h1*l2-l1*h2) (h2*l2)):=eW d0 (Bits.sub ((bh1.mul bl2).mono (by omega)) ((bl1.mul bh2).mono (by omega)));have br2:Bits (2*kb+1) (rb (h1*l2-l1*h2) (h2*l2)):=eY d0 ((bh2.mul bl2).mono (by omega));generalize rt (h1*l2-l1*h2) (h2*l2)=r1 at *
  generalize rb (h1*l2-l1*h2) (h2*l2)=r2 at *
  have hD:0<h1*l2-l1*h2:=by omega
  have hhl:0<h2*l2:=MO h2p l2p;have r1p:0<r1:=ml hhl (by rw[NN,er];exact MO hD r2p);have hA1:=s1 _ _ hA;have hl1:=hl.same s1;have hh1:=hh.same s1;refine az ⟨_,rfl,_,rfl,r,wd,r1,r2,w1,w2,2*kb+1,kw,rfl,hr1,hw.same s1,r2p,hw1,br1,br2.mono (by omega),bw1.mono (by omega),bw2,by omega,λn hn hle hmin=>?_⟩
  have fit:(h1*l2-l1*h2)*w2<=w1*(h2*l2)*2^n:=by
   refine o9 r2p ?_
   calc (h1*l2-l1*h2)*w2*r2=((h1*l2-l1*h2)*r2)*w2:=by grind
    _=r1*(h2*l2)*w2:=by rw[er]
    _=r1*w2*(h2*l2):=by grind
    _<=w1*r2*2^n*(h2*l2):=OF hle (Nd hhl)
    _=w1*(h2*l2)*2^n*r2:=by grind
  have bigg:∀j:Nat,j<n->w1*(h2*l2)*2^j<(h1*l2-l1*h2)*w2:=λj hj=>by
   refine ml r2p ?_
   calc w1*(h2*l2)*2^j*r2=w1*r2*2^j*(h2*l2):=by grind
    _<r1*w2*(h2*l2):=Int.mul_lt_mul_of_pos_right (hmin j hj) hhl
    _=r1*(h2*l2)*w2:=by grind
    _=(h1*l2-l1*h2)*r2*w2:=by rw[er]
    _=(h1*l2-l1*h2)*w2*r2:=by grind
  refine cp ⟨_,rfl,_,_,rfl,rfl,_,rfl,aN (λh0=>?_) (λ_=>?_)⟩
  ·obtain rfl:n=0:=by have:(n:Int)=0:=h0;omega
   refine bC ⟨_,rfl,_,rfl,by show 2<=sizeLine;decide,λp hp=>?_⟩;have sp:=Same.upd_new (o:=.tup [V.ref l,V.ref h]) hp;have ex:l1*(l2*h2*2^0)=(l1*h2*2^0+(h1*l2-l1*h2)*((0:Nat):Int))*l2:=by rw[Nq];show _=(_+_*0)*_;grind
   have ey:h1*(l2*h2*2^0)=(l1*h2*2^0+(h1*l2-l1*h2)*(((0:Nat):Int)+1))*h2:=by rw[Nq];show _=(_+_*(0+1))*_;grind
   have nf:=yV (w1:=w1) (w2:=w2) (pc:=2^0) l2p h2p l2p h2p (jO 0) (NZ 0) (by decide) hD ex ey fit;exact k p l h _ 0 0 l1 l2 h1 h2 (s1.then_new hp) (s1.free hp) ar (hl1.same sp) (hh1.same sp) ⟨en.mono (by omega),hU.low,hU.top,NZ _,NZ _,nf.2.2.2,by decide,ex,ey,bigg,fit⟩
  refine az ⟨_,rfl,_,rfl,_,rfl,a,l,r,ns,l1,l2,r1,r2,rfl,hA1,hl1,hr1,hT,hne,hln,hbn,l2p,r1p,r2p,bl1.mono hk1,bl2.mono hk1,br1.mono (by omega),br2.mono (by omega),λm s0 s1' pm e0 e1 hs1 bS p2 H2 s2 hp2 eq2=>?_⟩;have t2:=s1.trans s2;refine⟨_,rfl,_,rfl,a,h,ns,h1,h2,⟨rfl,t2 _ _ hA,hh.same t2,by omega,hbn.mono,bh1.mono (by omega),bh2.mono (by omega)⟩,λH3 s3=>?_⟩;have t3:=t2.trans s3;have lp:0<l2*r2:=MO l2p r2p
  have top:(s0+s1')*h2=h1*m:=by
   refine pd lp ?_
   calc (s0+s1')*h2*(l2*r2)=((s0*l2)*r2+(s1'*r2)*l2)*h2:=by grind
    _=(l1*m*r2+r1*m*l2)*h2:=by rw[e0,e1]
    _=m*(l1*r2*h2+r1*(h2*l2)):=by grind
    _=m*(l1*r2*h2+(h1*l2-l1*h2)*r2):=by rw[er]
    _=h1*m*(l2*r2):=by grind
  have pt:∀p c:Int,0<p->p<=c->0<m*c/\l1*(m*c)<(s0*c+s1'*p)*l2/\(s0*c+s1'*p)*h2<=h1*(m*c):=λp c hp hc=>by
   refine⟨MO pm (by omega),?_,?_⟩
   ·have:(s0*c+s1'*p)*l2=l1*(m*c)+s1'*p*l2:=by
     calc (s0*c+s1'*p)*l2=(s0*l2)*c+s1'*p*l2:=by grind
      _=l1*m*c+s1'*p*l2:=by rw[e0]
      _=l1*(m*c)+s1'*p*l2:=by grind
    rw[this];have:=MO (MO hs1 hp) l2p;omega
   ·have h3:s1'*p<=s1'*c:=Int.mul_le_mul_of_nonneg_left hc (Nd hs1);have h4:(s0*c+s1'*p)*h2<=(s0*c+s1'*c)*h2:=OF (by omega) (Nd h2p)
    have h5:(s0*c+s1'*c)*h2=h1*(m*c):=by
     calc (s0*c+s1'*c)*h2=((s0+s1')*h2)*c:=by grind
      _=h1*m*c:=by rw[top]
      _=h1*(m*c):=by grind
    omega
  have vs:∀p c:Int,sg (hv p c (cq m s0 s1' ns))=sg (hv (s0*c+s1'*p) (m*c) ns):=λp c=>by rw[<- zI,iC pm]
  have hB:RootB (cq m s0 s1' ns) ε (λp c=>Up (s0*c+s1'*p) (m*c)):=by
   refine⟨hU.e1,λp c hp hc hu=>?_,λp c hp hc hu=>?_,λp c p' c' hp hc hp' hc' hu hlt=>?_,λp c hc=>?_,λhu=>?_⟩
   ·rw[vs];obtain⟨q1,q2,q3⟩:=pt p c hp hc;exact hU.r1 _ _ q1 q2 q3 hu
   ·rw[vs];obtain⟨q1,q2,q3⟩:=pt p c hp hc;exact hU.r2 _ _ q1 q2 q3 hu
   ·rw[vs];obtain⟨q1,q2,q3⟩:=pt p c hp hc;obtain⟨q1',q2',q3'⟩:=pt p' c' hp' hc';refine hU.r3 _ _ _ _ q1 q1' q2 q3' hu ?_;have h3:s1'*m*(p*c')<s1'*m*(p'*c):=Int.mul_lt_mul_of_pos_left hlt (MO hs1 pm);have e3:(s0*c+s1'*p)*(m*c')=s0*c*(m*c')+s1'*m*(p*c'):=by grind
    have e4:(s0*c'+s1'*p')*(m*c)=s0*c*(m*c')+s1'*m*(p'*c):=by grind
    omega
   ·have g1:0<m*c:=MO pm hc;have g2:0<m*(2*c):=MO pm (by omega);constructor
    ·exact hU.sc _ _ _ _ g2 g1 (by grind)
    ·exact hU.sc _ _ _ _ g1 g2 (by grind)
   ·refine hU.top (hU.sc _ _ _ _ (by rw[Nl];exact pm) h2p ?_ hu);rw[Nl,Nl,Nl];exact top
  have lstr:=jp m s0 s1' ns;have hn1:1<=ns.length:=MR.mpr hne;refine⟨_,rfl,p2,cq m s0 s1' ns,_,n,ε,_,rfl,s3 _ _ eq2,by omega,by omega,bS,by omega,hB,?_,λp4 H4 pl s4 hp4 e4 hpl hup hnup=>?_⟩
  ·rw[vs];refine CL h2p (by rw[Nl];exact pm) ?_ ns;rw[Nl,Nl,Nl];exact top.symm
  have t4:=t3.trans s4;have u4:=(s2.trans s3).trans s4;have b2n:Bits (n+1) ((2:Int)^n):=k7 (by omega);have cpl:(pl:Int)<2^n:=by rw[iL];exact OC.mpr hpl
  have bpl:Bits (n+1) (pl:Int):=b2n.of_le (by rw[iL];omega);have bpl1:Bits (n+1) ((pl:Int)+1):=b2n.of_le (by rw[iL];omega);have p2n:=jO n;refine bC ⟨_,rfl,_,rfl,_,rfl,p4,_,_,_,rfl,rfl,SqT.of e4,rfl,_,rfl,p4,_,_,_,rfl,rfl,SqT.of e4,rfl,l,r,l1,l2,r1,r2,pl,2^n,kb,2*kb+1,n+1,rfl,hl.same t4,hr1.same u4,l2p,r2p,p2n,bl1,bl2,br1,br2,bpl,b2n,by omega,λx H5 x1 x2 s5 hx hRx x2p ex bx1 bx2 gx=>?_⟩;have e5:=s5 _ _ e4;have t5:=t4.trans s5;have u5:=u4.trans s5;refine⟨_,rfl,_,rfl,_,rfl,p4,_,_,_,rfl,rfl,SqT.of e5,rfl,_,_,rfl,rfl,_,rfl,p4,_,_,_,rfl,rfl,SqT.of e5,rfl,l,r,l1,l2,r1,r2,pl+1,2^n,kb,2*kb+1,n+1,rfl,hl.same t5,hr1.same u5,l2p,r2p,p2n,bl1,bl2,br1,br2,bpl1,b2n,by omega,λy H6 y1 y2 s6 hy hRy y2p ey by1 by2 gy=>?_⟩;refine⟨by show 2<=sizeLine;decide,λp hp=>?_⟩;have sp:=Same.upd_new (o:=.tup [V.ref x,V.ref y]) hp;have t6:=t5.trans s6;have ex':=AZ r2p er ex;have ey':=AZ r2p er ey;have nf:=yV (w1:=w1) (w2:=w2) l2p h2p x2p y2p p2n (show(0:Int)<=(pl:Int) by omega) (by omega) hD ex' ey' fit
  have cross:∀(q z1 z2:Int),z1*(l2*r2*2^n)=(l1*r2*2^n+r1*l2*q)*z2->(s0*2^n+s1'*q)*z2=z1*(m*2^n):=λq z1 z2 ez=>by
   refine pd lp ?_
   calc (s0*2^n+s1'*q)*z2*(l2*r2)=((s0*l2)*r2*2^n+(s1'*r2)*l2*q)*z2:=by grind
    _=(l1*m*r2*2^n+r1*m*l2*q)*z2:=by rw[e0,e1]
    _=m*((l1*r2*2^n+r1*l2*q)*z2):=by grind
    _=m*(z1*(l2*r2*2^n)):=by rw[ez]
    _=z1*(m*2^n)*(l2*r2):=by grind
  have hm2:0<m*2^n:=MO pm p2n;refine k p x y _ n pl x1 x2 y1 y2 (t6.then_new hp) (t6.free hp) ar ((hRx.same s6).same sp) (hRy.same sp) ⟨⟨x2p,y2p,bx1.mono (by omega),bx2.mono (by omega),by1.mono (by omega),by2.mono (by omega),nf.1,gx,gy⟩,?_,?_,nf.2.1,nf.2.2.1,nf.2.2.2,hpl,ex',ey',bigg,fit⟩
  ·rcases hup with z |z
   ·refine hU.sc _ _ _ _ l2p x2p ?_ hU.low;rw[z]at ex';refine pd (MO h2p p2n) ?_
    calc l1*x2*(h2*2^n)=(l1*h2*2^n+(h1*l2-l1*h2)*((0:Nat):Int))*x2:=by show _=(_+_*0)*_;grind
     _=x1*(l2*h2*2^n):=ex'.symm
     _=x1*l2*(h2*2^n):=by grind
   ·exact hU.sc _ _ _ _ hm2 x2p (cross _ _ _ ex) z
  ·intro hu;exact hnup (hU.sc _ _ _ _ y2p hm2 (cross _ _ _ ey).symm hu)
structure NCI(K:PySem.W.Frag)(mg:Str->Option Value)(CN:Addr):Prop where
 cl:Cls K CN
 nP:NoAttr K CN "poly"
 nL:NoAttr K CN "low"
 nH:NoAttr K CN "high"
 mg:mg "Number"=some (.ref CN)
 ha:PySem.W.findIn K (.ref CN) "__class__"=some (some (.builtin "object.__class__"))
 hn:PySem.W.specialIn K (.builtin "object.__class__") "__get__"=some (some (.builtin "getset_descriptor.__get__"))
 ht:PySem.W.takesIn K (.builtin "object.__class__")=some true
 hm:PySem.W.mroIn K CN (.type "object")=some true
noncomputable def ic(p l h:Addr):List (Str×V):=cS "high" (.ref h) (cS "low" (.ref l) (cS "poly" (.ref p) []))
def Ew:¬(("poly":Str)="high"):=by decide +kernel
def Ep:¬(("poly":Str)="low"):=by decide +kernel
def G0:¬(("low":Str)="high"):=by decide +kernel
def zX{p l h:Addr}:(ic p l h).lookup ("high":Str)=some (.ref h):=by unfold ic;rw[eI,if_pos rfl]
def lV{p l h:Addr}:(ic p l h).lookup ("low":Str)=some (.ref l):=by unfold ic;rw[eI,if_neg G0,eI,if_pos rfl]
def zW{p l h:Addr}:(ic p l h).lookup ("poly":Str)=some (.ref p):=by unfold ic;rw[eI,if_neg Ew,eI,if_neg Ep,eI,if_pos rfl]
def NA(CN:Addr)(H:Hp)(x p l h:Addr):Prop:=∃dx,H x=some (.ins CN dx (ic p l h))
def NA.same{CN:Addr}{H H':Hp}{x p l h:Addr}(n:NA CN H x p l h)(s:Same H H'):NA CN H' x p l h:=let⟨dx,e⟩:=n;⟨dx,s _ _ e⟩
def mQ(CN:Addr):Sp:=λvs H Q _=>∃(x dx r l h:Addr) (ns:List V),vs=[.ref x,.ref r,.ref l,.ref h]/\H x=some (.ins CN dx [])/\H r=some (.lst ns)/\∀p,H p=none->Q .non (upd (upd H p (.lst ns)) x (.ins CN dx (ic p l h)))
def Gg(F:Fun K "__init__" "Number.__init__" sD f fd)(T:Txt K mg)(RN:NCI K mg CN):FnOk P w K mg base aD 1 f fd ["self","row","low","high"] (mQ CN):=by
 refine F.ok Du (λvs H Q E h=>?_) (λ_ A _ s H vs Q E hr h=>?_)
 ·obtain⟨x,dx,r,l,h,ns,rfl,_⟩:=h;rfl
 ·obtain⟨x,dx,r,l,h,ns,rfl,hx,hR,k⟩:=h
  refine⟨_,(ah (k6 (pv 0) (hI (mn (K:=K) rfl) (by rfl) T.list_ PyProof.Rows.boot_list (ac (pv 1) ad)) rfl)
   (ah (k6 (pv 0) (pv 2) rfl)
   (ai (k6 (pv 0) (pv 3) rfl)))),?_⟩
  refine⟨_,rfl,r,_,rfl,.inl (SqL.of hR),λp hp=>?_⟩;have npx:x≠p:=bh hx hp;refine⟨_,rfl,x,CN,dx,_,rfl,by rw[upd_ne npx];exact hx,RN.cl,RN.nP,by show 0<1000;decide,?_⟩;refine⟨_,rfl,_,rfl,x,CN,dx,_,rfl,ar,RN.cl,RN.nL,by show 1<1000;decide,?_⟩;refine⟨_,rfl,_,rfl,x,CN,dx,_,rfl,ar,RN.cl,RN.nH,by show 2<1000;decide,?_⟩;show Q .non (upd (upd (upd (upd H p _) x _) x _) x _);rw[mD,mD];exact k p hp
def qf:Sp:=λvs H Q _=>∃(a:Addr) (ns:Ex),vs=[.ref a]/\H a=some (.lst (ns.map V.int))/\ns.length<=1000/\AllB 300 ns/\∀H',Same H H'->Q .non H'
def J8:Bits 399 (10^60*10^60)/\(2:Int)^300<=10^60*10^60:=by
 constructor
 ·show((10:Int)^60*10^60).natAbs<2^399;decide +kernel
 ·decide +kernel
def Fd(F:Fun K "refuse_great" "refuse_great" q8 f fd)(T:Txt K mg):FnOk P w K mg base aD 1 f fd ["row"] qf:=by
 refine F.ok xQ (λvs H Q E h=>?_) (λ_ A _ s H vs Q E hr h=>?_)
 ·obtain⟨a,ns,rfl,_⟩:=h;rfl
 ·obtain⟨a,ns,rfl,hA,hl,hb,k⟩:=h;have big:=sizeLine_eq
  refine⟨_,(ah (ak 1 xQ (ag aE (ag yG ae ae) (ag yG ae ae)))
   (ai (aP (D7 (cM (JX (K:=K) rfl rfl) (by rfl) T.any_ PyProof.Rows.boot_any (ac (f8 (own:=["value"]) (fr:=["limit"]) (js:=[1]) (by walk_at "comp_ok") rfl (fe (K:=K) rfl (pv 0)) (λ_ _ _ _=>(fM (i:=0) (show List.Nodup (["value","limit"]:List Str)from by decide +kernel) rfl (Or.inl rfl))) (λ_ _ _ _=>(iO om (cM eM (by rfl) T.abs_ PyProof.Rows.boot_abs (ac (pv 0) ad)) (pv 1)))) ad)) (by intro _;rfl))
     (ai iK)
     aR))),?_⟩
  have b6:Bits 1000000 ((10:Int)^60):=b60.mono;refine az ⟨_,_,rfl,rfl,⟨by decide,by decide,by decide⟩,_,_,rfl,rfl,⟨by decide,by decide,by decide⟩,_,_,rfl,rfl,⟨b6,b6⟩,?_⟩;refine gZ ⟨_,rfl,a,rfl,⟨_,SqL.of hA⟩,i7 (K:=K) (a:=a) (xs:=ns.map V.int) (λi ys Q2 H'=>∃(z0:Option V) (bs:List Bool),Q2=[z0,some (.int (10^60*10^60))]/\ys=bs.map V.bl/\bs.length=i/\(∀x∈bs,x=false)/\H=H') (by rw[MC];omega) ⟨none,[],rfl,rfl,rfl,(λ_ h=>nomatch h),rfl⟩ ?_ ?_ ?_⟩
  ·rintro i ys Q2 H' _ ⟨z0,bs,rfl,rfl,rfl,_,rfl⟩;exact⟨SqL.of hA,by rw[MC];exact MI _⟩
  ·rintro i x ys Q2 H' hi ⟨z0,bs,rfl,rfl,rfl,hbs,rfl⟩;obtain⟨c,_,rfl,hc,_⟩:=ib hi;refine⟨_,rfl,_,rfl,_,rfl,_,_,rfl,rfl,?_⟩;refine⟨_,bs++[false],rfl,?_,by rw[MY];rfl,λx hx=>?_,rfl⟩
   ·have hlt:¬((if c<0 then -c else c)≥10^60*10^60):=by
     have h1:c.natAbs<2^300:=hb c hc;have h2:=J8.2;have h3:((2^300:Nat):Int)=(2:Int)^300:=by rw[OQ];rfl
     have h4:(c.natAbs:Int)<(2:Int)^300:=by rw[<- h3];exact OC.mpr h1
     generalize (2:Int)^300=X at h2 h4
     generalize (10:Int)^60*10^60=Y at h2 ⊢
     split<;>omega
    rw[Nc];show _++[V.bl (decide _)]=_;rw[decide_eq_false hlt];rfl
   ·rcases MS.mp hx with h |h
    ·exact hbs x h
    ·exact MH.mp h
  rintro ys Q2 H' p ⟨z0,bs,rfl,rfl,hbl,hbs,rfl⟩ hp;refine⟨p,bs,rfl,SqL.of ar,?_⟩
  have e:bs.any id=false:=by rw[List.any_eq_false];intro x hx;rw[hbs x hx];decide
  rw[e];refine⟨_,rfl,dA ?_⟩;exact k _ (Same.upd_new hp)
theorem uS{xs ys:Ex}{x y:Nat}(hx:AllB x xs)(hy:AllB y ys):∀i,AllB (x+i*(y+1)) (aT xs ys i).1/\AllB (x+i*(y+1)) (aT xs ys i).2
 |0=>by rw[Nat.zero_mul];exact⟨AllB.zeros,hx⟩
 |i+1=>by
  obtain⟨h1,h2⟩:=uS hx hy i;have e:x+(i+1)*(y+1)=x+i*(y+1)+y+1:=by rw[Nat.succ_mul];omega
  have hs:Bits y (((RM.cf ys (ys.length-1)).natAbs:Nat):Int):=vE (hy.cf _);rw[e];show AllB _ (dm ys (aT xs ys i) _).1/\AllB _ (dm ys (aT xs ys i) _).2;unfold dm;dsimp only
  constructor
  ·intro v hv;rcases List.mem_or_eq_of_mem_set hv with h |rfl
   ·obtain⟨u,hu,rfl⟩:=M8.mp h;exact(hs.mul (h1 u hu)).mono (by omega)
   ·exact(kH (h2.cf _)).mono (by omega)
  ·refine AllB.of_cf λn=>?_
   rw[oZ];by_cases hn:n<(aM (((RM.cf ys (ys.length-1)).natAbs:Nat):Int) (aT xs ys i).2).length-1
   ·rw[if_pos hn,bA]
    have m1:Bits (x+i*(y+1)+y) ((((RM.cf ys (ys.length-1)).natAbs:Nat):Int)*RM.cf (aT xs ys i).2 n):=by have:=hs.mul (h2.cf n);rwa [Nat.add_comm]at this
    refine m1.sub ?_;by_cases hp:(xs.length+1-ys.length-1-i)<=n
    ·rw[if_pos hp];exact(kH (h2.cf _)).mul (hy.cf _)
    ·rw[if_neg hp];exact Bits.zero
   ·rw[if_neg hn];exact Bits.zero
def iB{n:Nat}{l:Ex}(h:AllB n l):AllB n (al l):=by
 intro y hy;obtain⟨x,hx,rfl⟩:=M8.mp hy;obtain⟨d,hd⟩:=gN hx;by_cases hg:(aA l:Int)=0
 ·rw[hg,Int.ediv_zero];exact Bits.zero
 ·have e:x/(aA l:Int)=d:=by rw[hd];exact Int.mul_ediv_cancel_left d hg
  rw[e];refine(h x hx).of_le ?_;rw[hd,MW];exact N5 _ (N3.mpr hg)
def kG(l:Ex):(al l).length=l.length:=MC _
def xW(n:Nat)(o:Ex):Run n [] o:=by cases n with |zero=>rfl |succ n=>exact .inl rfl
def Ak(n:Nat)(o:Ex):RM.Ends n [] o:=by cases n with |zero=>rfl |succ n=>exact .inl rfl
def gr8:gr 101 8=99485:=by decide
theorem uk:∀s:Nat,s<=8->1<=s->(s+3)*(gr 101 (8-s+1)+1)<=1000000
 |0,_,h=>absurd h (by decide)
 |1,_,_=>by show 4*(99485+1)<=1000000;decide
 |2,_,_=>by show 5*(41208+1)<=1000000;decide
 |3,_,_=>by show 6*(17069+1)<=1000000;decide
 |4,_,_=>by show 7*(7070+1)<=1000000;decide
 |5,_,_=>by show 8*(2929+1)<=1000000;decide
 |6,_,_=>by show 9*(1212+1)<=1000000;decide
 |7,_,_=>by show 10*(505+1)<=1000000;decide
 |8,_,_=>by show 11*(202+1)<=1000000;decide
 |n+9,h,_=>absurd h (by omega)
def Okr(xs:Ex):Prop:=Tr xs/\AllB 99485 xs/\xs.length<=9
theorem sE:∀(n:Nat) (one other:Ex) (x y s:Nat),one.length=s+1->s<=8->other.length<=s->s<n->Tr one->Tr other->AllB x one->AllB y other->x+1<=gr 101 (8-s)->y+1<=gr 101 (8-s+1)->Run n one other/\RM.Ends n one other/\∀xs∈bR n one other,Okr xs
 |0,one,other,x,y,s,_,_,_,h,_,_,_,_,_,_=>absurd h (OB _)
 |m+1,one,other,x,y,s,hl,hs8,hol,hsm,t1,t2,b1,b2,g1,g2=>by
  have hne:one≠[]:=λz=>by rw[z]at hl;simp at hl
  have m1:gr 101 (8-s)<=99485:=by rw[<- gr8];exact fT 101 (by omega)
  have bo1:AllB 99485 one:=b1.mono (by omega)
  have eS:bR (m+1) one other=one::bR m other (aO one other):=by show(if one=[]then[]else one::bR m other (aO one other))=_;rw[if_neg hne]
  have ok1:Okr one:=⟨t1,bo1,by omega⟩;by_cases ho:other=[]
  ·subst ho
   have fit:Fit one []:=⟨t1,t2,gr 101 (8-s),b1.mono (by omega),AllB.nil,by
    rw[hl];rcases OX s with z |z
    ·rw[z];show 3*(99485+1)<=1000000;decide
    ·refine MU (Oi _ ?_) (uk s hs8 z);have:=fT 101 (show 8-s<=8-s+1 by omega)
     omega,MK _⟩
   refine⟨.inr ⟨fit,xW _ _⟩,.inr (Ak _ _),λxs hx=>?_⟩;rw[eS,kT]at hx;rw[MH.mp hx];exact ok1
  ·have hop:=MR.mpr ho;have m0:=fT 101 (show 8-s<=8-s+1 by omega);have fit:Fit one other:=⟨t1,t2,gr 101 (8-s+1),b1.mono (by omega),b2.mono (by omega),by rw[hl];exact uk s hs8 (by omega),by omega⟩;obtain⟨d,hd⟩:∃d,other.length=d+1:=⟨other.length-1,by omega⟩;have hN:bH one other=(s-d-1)+2:=by unfold bH;omega
   have e6:8-s+2+(s-d-1)=8-d+1:=by omega
   have rb:AllB (x+bH one other*(y+1)) (bj one other):=((uS b1 b2 (bH one other)).2).trim
   have nb:AllB (x+bH one other*(y+1)) (aO one other):=by
    unfold aO rst;rw[if_neg ho,mK (gP _ _)];refine iB λv hv=>?_
    obtain⟨u,hu,rfl⟩:=M8.mp hv;have:=(rb u hu).neg
    rwa [show -1*u = -u by omega]
   have nl:(aO one other).length<=d:=by unfold aO rst;rw[if_neg ho,mK (gP _ _),kG,dN];have:=ig (a:=one) ho;omega
   have nt:Tr (aO one other):=fF (fD _);have jump:=uj 101 (8-s) (s-d-1);rw[e6]at jump;have mm:=Oi (s-d-1+2) g2
   obtain⟨r1,r2,r3⟩:=sE m other (aO one other) y (x+bH one other*(y+1)) d hd (by omega) nl (by omega) t2 nt b2 nb (MU g2 (fT 101 (by omega))) (by
    rw[hN];generalize (s-d-1+2)*(y+1)=z at mm ⊢
    generalize (s-d-1+2)*gr 101 (8-s+1)=z2 at mm jump
    omega)
   refine⟨.inr ⟨fit,r1⟩,.inr r2,λxs hx=>?_⟩;rw[eS]at hx;rcases MG.mp hx with rfl |hx
   ·exact ok1
   ·exact r3 xs hx
theorem nD:∀(n:Nat) (one other:Ex),(bR n one other).length<=n
 |0,_,_=>MI _
 |n+1,one,other=>by
  show(if one=[]then[]else one::bR n other (aO one other)).length<=n+1;split
  ·exact MK _
  ·have:=nD n other (aO one other);rw[Ng];omega
def qA{n:Nat}{xs:Ex}(h:AllB n xs)(hl:xs.length<=9):AllB (n+4) (slopeL xs):=by intro x hx;obtain⟨k,hk,rfl⟩:=M8.mp hx;have hk':k<xs.length-1:=List.mem_range.mp hk;have b1:Bits 4 ((k:Int)+1):=Nu (show((k:Int)+1).natAbs<=8 by omega) (by decide);exact(b1.mul (h.cf (k+1))).mono (by omega)
def xF(xs:Ex):(slopeL xs).length=xs.length-1:=by unfold slopeL;rw[MC,Ny]
def x4{kps:Ex}(ktr:Tr kps)(kb:AllB 100 kps)(kl:kps.length<=9):Run 9 (al kps) (al (slopeL kps))/\RM.Ends 9 (al kps) (al (slopeL kps))/\∀xs∈bR 9 (al kps) (al (slopeL kps)),Okr xs:=by
 by_cases h0:kps=[]
 ·subst h0
  exact⟨xW _ _,Ak _ _,λxs hx=>by
   have e:al []=[]:=rfl;rw[e,kT]at hx
   exact nomatch hx⟩
 ·have hl:=MR.mpr h0;obtain⟨s,hs⟩:∃s,kps.length=s+1:=⟨kps.length-1,by omega⟩;refine sE 9 (al kps) (al (slopeL kps)) 100 104 s (by rw[kG,hs]) (by omega) (by rw[kG,xF,hs];omega) (by omega) (fF ktr) (fF (pP ktr)) (iB kb) (iB (qA kb (by omega))) ?_ ?_
  ·exact MU (show 101<=gr 101 0 by decide) (fT 101 (MK _))
  ·exact MU (show 105<=gr 101 1 by decide) (fT 101 (by omega))
def lc{n:Nat}{l:Ex}(h:AllB n l):AllB n (au l):=by
 unfold au cF;split
 ·intro y hy;obtain⟨x,hx,rfl⟩:=M8.mp hy;exact(iB h x hx).neg
 ·exact iB h
theorem xX:∀(n:Nat) (one other:Ex) (x y s:Nat),one.length=s+1->s<=8->other.length<=s->s<n->Tr one->Tr other->AllB x one->AllB y other->x+1<=gr 101 (8-s)->y+1<=gr 101 (8-s+1)->mw n one other
 |0,one,other,x,y,s,_,_,_,h,_,_,_,_,_,_=>absurd h (OB _)
 |m+1,one,other,x,y,s,hl,hs8,hol,hsm,t1,t2,b1,b2,g1,g2=>by
  by_cases ho:other=[]
  ·exact .inl ho
  have hop:=MR.mpr ho;obtain⟨d,hd⟩:∃d,other.length=d+1:=⟨other.length-1,by omega⟩;have hN:bH one other=(s-d-1)+2:=by unfold bH;omega
  have e6:8-s+2+(s-d-1)=8-d+1:=by omega
  have rb:AllB (x+bH one other*(y+1)) (bj one other):=((uS b1 b2 (bH one other)).2).trim;have jump:=uj 101 (8-s) (s-d-1);rw[e6]at jump;have mm:=Oi (s-d-1+2) g2;have nl:=ig (a:=one) ho;have m0:=fT 101 (show 8-s<=8-s+1 by omega);have fit:vJ one other:=⟨t1,t2,gr 101 (8-s+1),b1.mono (by omega),b2.mono (by omega),by rw[hl];exact uk s hs8 (by omega),by omega⟩
  exact .inr ⟨fit,xX m other (au (bj one other)) y (x+bH one other*(y+1)) d hd (by omega) (by rw[RM.plain_len];omega) (by omega) t2 (fY (gP _ _)) b2 (lc rb) (MU g2 (fT 101 (by omega))) (by
   rw[hN];generalize (s-d-1+2)*(y+1)=z at mm ⊢
   generalize (s-d-1+2)*gr 101 (8-s+1)=z2 at mm jump
   omega)⟩
def qd:Sp:=λvs H Q _=>∃i:Int,vs=[.int i]/\i<=8/\Q .non H
def Fc(F:Fun K "refuse_high" "refuse_high" qZ f fd)(T:Txt K mg):FnOk P w K mg base aD 1 f fd ["height"] qd:=by
 obtain⟨tH,hHIGHEST⟩:=T.HIGHEST_;refine F.ok Dc (λvs H Q E h=>?_) (λ_ A _ s H vs Q E hr h=>?_)
 ·obtain⟨i,rfl,_⟩:=h;rfl
 ·obtain⟨i,rfl,hi,k⟩:=h
  refine⟨_,(ai (aP (aG eE (pv 0) (yC (v:=.int 8) rfl hHIGHEST ⟨_,rfl⟩))
   (ai iK)
   aR)),?_⟩
  refine gZ ⟨_,rfl,_,_,rfl,rfl,_,rfl,aN (λh=>absurd (show i>8 from h) (by omega)) (λ_=>?_)⟩;exact k
structure Drw(F:Ex):Prop where
 tr:Tr F
 l2:2<=F.length
 l9:F.length<=9
 bits:AllB 100 F
 cop:Cop2 F (slopeL F)
def Drw.ne{F:Ex}(h:Drw F):F≠[]:=λz=>by have:=h.l2;rw[z]at this;simp at this
def mul_one{a:Ex}(ta:Tr a):aw a [1]=a:=jX (gW ta (λk hk=>by
 have:k=0:=by simp at hk;omega
 subst this;show(1:Int)≠0;decide)) ta λk=>by
 rw[aW,lj,dM];unfold RM.up;split<;>simp[dL]
def ER{O F:Ex}(h:Drw F)(pO:Pln O)(d1:Dv O F)(d2:Dv O (slopeL F)):O=[1]:=by
 have hl:=h.cop O pO.ne pO.tr d1 d2;have h1:=MR.mpr pO.ne
 obtain⟨x,rfl⟩:∃x,O=[x]:=by
  match O,hl,h1 with
  | [x],_,_=>exact⟨x,rfl⟩
 have p:=pO.pos;have g:=pO.prim;have g':Nat.gcd 0 x.natAbs=1:=g;rw[OH]at g';have p':0<x:=p;have:x=1:=by omega
 rw[this]
def pU:Sp:=λvs H Q _=>∃(a:Addr) (F:Ex),vs=[.ref a]/\H a=some (.lst (F.map V.int))/\Drw F/\mkL H Q (au F)
def ET(F:Fun K "without_squares" "without_squares" qI f fd)(T:Txt K mg)(Kz:Cal P w K mg base 35 "part" ["row","divisor"] w5 L3 Lm)(KM:Cal P w K mg base 35 "common" ["first","second"] xt Mf Lz)(vM:Cal P w K mg base 1 "slope" ["row"] (sp1 slopeL) IU Iq):FnOk P w K mg base aD 36 f fd ["row"] pU:=by
 refine F.ok CU (λvs H Q E h=>?_) (λ_ A _ s H vs Q E hr h=>?_)
 ·obtain⟨a,F,rfl,_⟩:=h;rfl
 ·obtain⟨a,kp,rfl,hA,hD,k⟩:=h;have hu:=hr.units;have tW:=hD.tr;have nW:=hD.ne;have bW:=hD.bits;have l2:=hD.l2;have l9:=hD.l9;have lS:=oG kp
  refine⟨_,(ah (aP (aG (iQ (K:=K) rfl hu) (pv 0) (aU ad))
   (ai (aB (aU ad)))
   aR)
   (ai (aB (am Kz hr (ac (pv 0) (ac (am KM hr (ac (pv 0) (ac (am vM hr (ac (pv 0) ad)) ad))) ad)))))),?_⟩
  refine cp ⟨_,rfl,MK _,λp0 hp0=>?_⟩;have s0:Same H (upd H p0 (.lst [])):=Same.upd_new hp0;refine⟨a,p0,kp,[],rfl,rfl,SqL.of (s0 _ _ hA),SqL.of ar,_,rfl,aN (λh0=>absurd h0 nW) (λ_=>?_)⟩;generalize upd H p0 (.lst [])=H0 at s0 ⊢
  have hA0:=s0 _ _ hA;refine bC ⟨_,rfl,_,rfl,_,rfl,a,kp,rfl,hA0,by omega,bW.mono,λp1 H1 s1 hp1 e1=>?_⟩;have t1:=s0.trans s1;have tS:=wn tW;have bS:=qA bW l9;obtain⟨s,hs⟩:∃s,kp.length=s+1:=⟨kp.length-1,by omega⟩;refine⟨a,p1,kp,slopeL kp,20,rfl,t1 _ _ hA,e1,tW,tS,by omega,by omega,xX 20 (au kp) (au (slopeL kp)) 100 104 s (by rw[RM.plain_len];omega) (by omega) (by rw[RM.plain_len];omega) (by omega) (fY tW) (fY tS) (lc bW) (lc bS) (MU (show 101<=gr 101 0 by decide) (fT 101 (MK _))) (MU (show 105<=gr 101 1 by decide) (fT 101 (by omega))),λp2 H2 s2 hp2 e2=>?_⟩;have nS:slopeL kp≠[]:=λz=>by rw[z]at lS;simp at lS;omega
  have pS:=gE tS nS;have pF:=gE tW nW;obtain⟨tO,dO1,dO2,hall,nO,more⟩:=AA 20 (au kp) (au (slopeL kp)) (by rw[RM.plain_len];omega) (fY tW) (fY tS);generalize c9 20 (au kp) (au (slopeL kp))=O at e2 tO dO1 dO2 hall nO more
  have pO:Pln O:=by
   rcases more with e |e |⟨l,tl,e⟩
   ·rw[e];exact pF
   ·rw[e];exact pS
   ·rw[e];exact gE tl λz=>nO (.inl pF.ne) (by rw[e,z];rfl)
  have d1:Dv O kp:=(Dv.plain tW).mp dO1;have d2:Dv O (slopeL kp):=(Dv.plain tS).mp dO2;have eO:=ER hD pO d1 d2;have r1:=d1.rest pO.ne pO.tr
  have r2:au (cW kp O)=au kp:=by
   have e:∀n,cP kp O*cf kp n=aH (cW kp O) O n:=λn=>by rw[jZ pO.ne,r1,cI];omega
   have m:=yy (md pO.ne pO.tr) tW nW (uR pO.ne tW pO.tr) pO e;rw[<- m,eO,mul_one (fY (uR (by simp) tW (eO ▸ pO.tr)))]
  have t2:=t1.trans s2;have bO:AllB 100 O:=by rw[eO];exactλx hx=>by rw[MH.mp hx];show(1:Int).natAbs<2^100;decide
  have lO:O.length=1:=by rw[eO];rfl
  refine⟨a,p2,kp,O,100,rfl,t2 _ _ hA,e2,tW,tO,bW,bO,by have:(kp.length+2)*(100+1)<=11*101:=NJ _ (by omega);omega,by omega,pO.ne,r1,λp3 H3 s3 hp3 e3=>?_⟩;rw[r2]at e3;exact k p3 H3 (t2.trans s3) (t2.free hp3) e3
def Ap(t:Int):dv t 1=1:=by unfold dv;rw[if_neg (by decide)];show((Nat.gcd t.natAbs 1:Nat):Int)=1;rw[Nat.gcd_one_right];rfl
def kX{Q:Hp->Prop}{H1 H2:Hp}(e:H1=H2)(h:Q H2):Q H1:=by rw[e];exact h
def eQ{k:Nat}(h:1<=k):Bits k (1:Int):=Bits.mono (j:=1) (by show(1:Int).natAbs<2^1;decide) h
def sG(t:Int):rt t 1=t:=by have h:=jH (t:=t) (b:=1) (by decide);rw[Ap,M9]at h;exact h
def sM(t:Int):rb t 1=1:=by have h:=iH (t:=t) (b:=1) (by decide);rw[Ap,M9]at h;exact h
def xf(C:Addr):Sp:=λvs H Q _=>∃(p q:Addr) (t b u d:Int),vs=[.ref p,.ref q]/\RA C H p t b/\RA C H q u d/\Bits 900 t/\Bits 900 b/\Bits 900 u/\Bits 900 d/\0<b/\0<d/\mkR C H Q (t*d+u*b) (2*b*d)
def Fn(F:Fun K "middle" "middle" rj f fd)(T:Txt K mg)(R:RCI K mg C)(cD:KCal P w K mg base 2 C "Ratio" ["self","top","bottom"] (dH C) fk fj fm [.int 1]):FnOk P w K mg base aD 4 f fd ["low","high"] (xf C):=by
 obtain⟨bZ,bY,bX,cz,cY,cX⟩:=cD;refine F.ok Dd (λvs H Q E h=>?_) (λ_ A _ s H vs Q E hr h=>?_)
 ·obtain⟨p,q,t,b,u,d,rfl,_⟩:=h;rfl
 ·obtain⟨p,q,t,b,u,d,rfl,⟨dx,hp⟩,⟨dy,hq⟩,bt,bb,bu,bd,hb,hd,k⟩:=h;have b2:Bits 2 (2:Int):=by show(2:Int).natAbs<2^2;decide
  have b2b:Bits 902 (2*b):=b2.mul bb |>.mono
  refine⟨_,(ai (aB (cG bY bZ (hr.mono) rfl bX cz .nil aZ (ac (ag aV (ag aE (aQ (K:=K) rfl (pv 0) rfl) (aQ (K:=K) rfl (pv 1) rfl)) (ag aE (aQ (K:=K) rfl (pv 1) rfl) (aQ (K:=K) rfl (pv 0) rfl))) (ac (ag aE (ag aE ae (aQ (K:=K) rfl (pv 0) rfl)) (aQ (K:=K) rfl (pv 1) rfl)) ad))))),?_⟩;refine⟨_,rfl,p,C,dx,_,_,rfl,hp,R.cl,R.nT,c7,_,rfl,q,C,dy,_,_,rfl,hq,R.cl,R.nB,ci,_,_,rfl,rfl,⟨bt.mono,bd.mono⟩,?_⟩;refine⟨_,rfl,q,C,dy,_,_,rfl,hq,R.cl,R.nT,c7,_,rfl,p,C,dx,_,_,rfl,hp,R.cl,R.nB,ci,_,_,rfl,rfl,⟨bu.mono,bb.mono⟩,_,_,rfl,rfl,?_⟩;refine⟨_,rfl,p,C,dx,_,_,rfl,hp,R.cl,R.nB,ci,_,_,rfl,rfl,⟨b2.mono,bb.mono⟩,_,rfl,q,C,dy,_,_,rfl,hq,R.cl,R.nB,ci,_,_,rfl,rfl,⟨b2b.mono,bd.mono⟩,?_⟩;exact di (M7 (MO (by omega) hd)) ((b2b.mul bd).mono) k
def oJ{os:Ex}{l j k:Nat}(h1:isB os l j)(h2:isB os l k):j=k:=by
 rcases Nat.lt_trichotomy j k with z |z |z
 ·obtain⟨x,hx,h⟩:=h2.2 j z;have:=h1.1 x hx;omega
 ·exact z
 ·obtain⟨x,hx,h⟩:=h1.2 k z;have:=h2.1 x hx;omega
def NL(H H':Hp):Prop:=∀c o,H c=some o->(∀xs,o≠.lst xs)->H' c=some o
def NL.of{H H':Hp}(s:Same H H'):NL H H':=λc o e _=>s c o e
def NL.upd{H:Hp}{p:Addr}{xs:List V}{o:HO}(hp:H p=some (.lst xs)):NL H (upd H p o):=λc o' e hn=>by
 have:c≠p:=λz=>by rw[z,hp]at e;exact hn xs (Option.some.inj e).symm
 rw[upd_ne this];exact e
def NL.trans{H1 H2 H3:Hp}(a:NL H1 H2)(b:NL H2 H3):NL H1 H3:=λc o e hn=>b c o (a c o e hn) hn
def RA.nl{C:Addr}{H H':Hp}{p:Addr}{t b:Int}(h:RA C H p t b)(s:NL H H'):RA C H' p t b:=let⟨dx,e⟩:=h;⟨dx,s _ _ e (λ_=>by simp)⟩
noncomputable def af(l1 l2:Int):Rat:=(l1:Rat)/(l2:Rat)
structure Cel where
 q:Addr
 lo:Addr
 hi:Addr
 l1:Int
 l2:Int
 h1:Int
 h2:Int
 d:Nat
noncomputable def VV(kp:Ex)(t n:Int):Int:=(chS (sgs t n (cJ kp))).1
noncomputable def Cel.a(x:Cel):Rat:=af x.l1 x.l2
noncomputable def Cel.b(x:Cel):Rat:=af x.h1 x.h2
noncomputable def Cel.cn(x:Cel)(kp:Ex):Int:=vw kp x.a-vw kp x.b
def iu{kp:Ex}{t n:Int}(hn:0<n):VV kp t n=vw kp (af t n):=by unfold VV af;rw[JK];exact Bp hn
def Par(_:Ex)(_:Int)(_:Nat)(_ _ _ _:Int):Prop:=True
structure WtH(C:Addr)(H:Hp)(kp:Ex)(kb:Nat)(x:Cel):Prop where
 tup:H x.q=some (.tup [.ref x.lo,.ref x.hi,.int (VV kp x.l1 x.l2),.int (VV kp x.h1 x.h2)])
 lo:RA C H x.lo x.l1 x.l2
 hi:RA C H x.hi x.h1 x.h2
 dy:Dya (2^kb) x.d x.l1 x.l2 x.h1 x.h2
 dd:x.d<=130
 par:Par kp (2^kb) x.d x.l1 x.l2 x.h1 x.h2
def WtH.nl{C:Addr}{H H':Hp}{kp:Ex}{kb:Nat}{x:Cel}(h:WtH C H kp kb x)(s:NL H H'):WtH C H' kp kb x:=⟨s _ _ h.tup (λ_=>by simp),h.lo.nl s,h.hi.nl s,h.dy,h.dd,h.par⟩
structure FdH(C:Addr)(H:Hp)(kp:Ex)(kb:Nat)(x:Cel):Prop where
 tup:H x.q=some (.tup [.ref x.lo,.ref x.hi])
 lo:RA C H x.lo x.l1 x.l2
 hi:RA C H x.hi x.h1 x.h2
 dy:Dya (2^kb) x.d x.l1 x.l2 x.h1 x.h2
 dd:x.d<=130
 par:Par kp (2^kb) x.d x.l1 x.l2 x.h1 x.h2
 one:x.cn kp=1
def FdH.nl{C:Addr}{H H':Hp}{kp:Ex}{kb:Nat}{x:Cel}(h:FdH C H kp kb x)(s:NL H H'):FdH C H' kp kb x:=⟨s _ _ h.tup (λ_=>by simp),h.lo.nl s,h.hi.nl s,h.dy,h.dd,h.par,h.one⟩
def lZ{kb d:Nat}{l1 l2 h1 h2:Int}(h:Dya (2^kb) d l1 l2 h1 h2)(hk:kb<=110)(hd:d<=130):Bits 250 l1/\Bits 250 l2/\Bits 250 h1/\Bits 250 h2:=by obtain⟨⟨a,b⟩,c,e⟩:=h.bits;have hp:2^(kb+d)<2^250:=(OJ (by decide)).mpr (by omega);exact⟨Nu a hp,Nu b hp,Nu c hp,Nu e hp⟩
structure Fw6(kp:Ex)(kb:Nat):Prop where
 mono:∀x y:Rat,x<y->vw kp y<=vw kp x
 few:∀x y:Rat,x<y->y-x<1/48->vw kp x<=vw kp y+1
 k110:kb<=110
structure Wk(kp:Ex):Prop where
 tr:Tr kp
 l2:2<=kp.length
 l7:kp.length<=9
 bits:AllB 100 kp
 few:∀kb,isB (kp.take (kp.length-1)) (ao kp).natAbs kb->kb<=110/\Fw6 kp kb
noncomputable def tot(kp:Ex)(ws:List Cel):Int:=(ws.map λx=>x.cn kp).sum
def pR(kp:Ex)(ws:List Cel)(x:Cel):tot kp (ws++[x])=tot kp ws+x.cn kp:=by unfold tot;rw[Nc,List.sum_append];simp
def ie{kb d:Nat}{l1 l2 h1 h2:Int}(h:Dya (2^kb) d l1 l2 h1 h2):af l1 l2<af h1 h2:=(nE h.l2p h.h2p).mpr (h.lt (NQ (by decide)))
def fh{t n:Int}(hn:0<n):af t n*(n:Rat)=(t:Rat):=MN (Oa (MP.mpr hn))
def iy(k:Nat):(((2:Int)^k:Int):Rat)=2^k:=Rat.intCast_pow 2 k
def uY{kp:Ex}{kb:Nat}(F:Fw6 kp kb){x:Cel}(h:Dya (2^kb) x.d x.l1 x.l2 x.h1 x.h2):0<=x.cn kp:=by have:=F.mono _ _ (ie h);unfold Cel.cn Cel.a Cel.b;omega
def jU{t n t' n':Int}(hn:0<n)(hn':0<n')(e:t*n'=t'*n):af t n=af t' n':=by
 have p:(0:Rat)<(n:Rat):=MP.mpr hn;have p':(0:Rat)<(n':Rat):=MP.mpr hn';have a:=fh (t:=t) hn;have b:=fh (t:=t') hn';have e':(t:Rat)*(n':Rat)=(t':Rat)*(n:Rat):=by rw[<- MD,<- MD,e]
 rw[<- a,<- b]at e';generalize af t n=u at *
 generalize af t' n'=v at *
 have q:=ML p p';have:((n:Rat)*(n':Rat))*(u-v)=0:=by grind
 rcases MQ.mp this with z |z
 ·grind
 ·grind
def oS{kb d:Nat}{l1 l2 h1 h2:Int}(h:Dya (2^kb) d l1 l2 h1 h2) : -(2^kb)<=af l1 l2/\af h1 h2<=2^kb/\(af h1 h2-af l1 l2)*2^d=2*2^kb:=by
 obtain⟨l2p,h2p,gl,gh,m,m0,m1,e1,e2⟩:=h;have D0:(0:Int)<2^d:=NQ (by decide);rw[jU l2p D0 e1,jU h2p D0 e2];have q1:=fh (t:=2*m*2^kb-2^kb*2^d) D0;have q2:=fh (t:=2*(m+1)*2^kb-2^kb*2^d) D0;have D0':(0:Rat)<2^d:=N7 (by decide);have B0':(0:Rat)<2^kb:=N7 (by decide);have m0':(0:Rat)<=(m:Rat):=Nh.mpr m0
 have m1':(m:Rat)+1<=2^d:=by have:=Nh.mpr m1;rw[Ni,iy]at this;exact this
 rw[NH,MD,MD,MD,iy,iy]at q1 q2;rw[Ni]at q2;have c1:((1:Int):Rat)=1:=rfl;have c2:((2:Int):Rat)=2:=rfl;rw[c2]at q1 q2;rw[c1]at q2;generalize af (2*m*2^kb-2^kb*2^d) (2^d)=u at *
 generalize af (2*(m+1)*2^kb-2^kb*2^d) (2^d)=v at *
 generalize (2:Rat)^d=D at *
 generalize (2:Rat)^kb=B at *
 generalize (m:Rat)=n at *
 have r1:=MJ m0' (MF B0');have r2:=Nw m1' (MF B0');refine⟨Nj.mp λz=>?_,Nj.mp λz=>?_,by grind⟩
 ·have:=NB z D0';grind
 ·have:=NB z D0';grind
def JH{kp:Ex}{kb:Nat}(F:Fw6 kp kb){x:Cel}(h:Dya (2^kb) x.d x.l1 x.l2 x.h1 x.h2)(hd:130<=x.d):x.cn kp<=1:=by
 obtain⟨a,b,c⟩:=oS h;have l:=(ie h)
 have:=F.few _ _ l (by
  have u:=pN hd;have v:=pN F.k110;have q:=MZ u (show 0<=af x.h1 x.h2-af x.l1 x.l2 by grind);have e:(2:Rat)^130=2^110*1048576:=by decide +kernel
  have p:(0:Rat)<2^110:=by decide +kernel
  rw[e]at q;generalize af x.h1 x.h2-af x.l1 x.l2=W at *
  generalize (2:Rat)^110=Z at *
  refine Nx.mp λz=>?_
  have:=Nw z (MF p)
  grind)
 unfold Cel.cn Cel.a Cel.b;omega
def EJ{kp:Ex}{kb d:Nat}{l1 l2 h1 h2 c1 c2:Int}(_:Dya (2^kb) d l1 l2 h1 h2)(_:2<=vw kp (af l1 l2)-vw kp (af h1 h2)):Par kp (2^kb) (d+1) l1 l2 c1 c2/\Par kp (2^kb) (d+1) c1 c2 h1 h2:=⟨trivial,trivial⟩
noncomputable def wgt(kp:Ex)(kb:Nat)(x:Cel):Nat:=1+2*((x.cn kp).toNat*(130-x.d))
noncomputable def fX(kp:Ex)(kb:Nat)(ws:List Cel):Nat:=(ws.map (wgt kp kb)).sum
def jl(kp:Ex)(kb:Nat)(ws:List Cel)(x:Cel):fX kp kb (ws++[x])=fX kp kb ws+wgt kp kb x:=by unfold fX;rw[Nc,List.sum_append];simp
theorem pM(kp:Ex)(kb:Nat):∀ws:List Cel,ws.length<=fX kp kb ws
 | []=>MI _
 |x::ws=>by have:=pM kp kb ws;show ws.length+1<=wgt kp kb x+fX kp kb ws;unfold wgt;omega
noncomputable def qs(ws:List Cel):List V:=ws.map λx=>V.ref x.q
def nJ(ws:List Cel)(x:Cel):qs (ws++[x])=qs ws++[V.ref x.q]:=by unfold qs;rw[Nc];rfl
def d7(xs:List Cel):Prop:=xs.Pairwise λx y=>x.b<=y.a
def DH{ys B:List Cel}{x:Cel}(h:d7 (ys++x::B)):d7 (ys++B):=List.Pairwise.sublist (List.Sublist.append_left (List.sublist_cons_self _ _) _) h
def DG{ys B:List Cel}{x x':Cel}(h1:x.a=x'.a)(h2:x.b=x'.b)(h:d7 (ys++x::B)):d7 (ys++x'::B):=by
 obtain⟨a,b,c⟩:=N8.mp h;obtain⟨b1,b2⟩:=Np.mp b;refine N8.mpr ⟨a,Np.mpr ⟨λz hz=>by rw[<- h2];exact b1 z hz,b2⟩,λy hy z hz=>?_⟩;rcases MG.mp hz with e |e
 ·rw[e,<- h1];exact c y hy x (M0 ..)
 ·exact c y hy z (MV _ e)
def DI{ys B:List Cel}{x l r:Cel}(h1:l.a=x.a)(h2:l.b=r.a)(h3:r.b=x.b)(h4:l.a<=l.b)(h5:r.a<=r.b)(h:d7 (ys++x::B)):d7 (ys++l::r::B):=by
 obtain⟨a,b,c⟩:=N8.mp h;obtain⟨b1,b2⟩:=Np.mp b;refine N8.mpr ⟨a,Np.mpr ⟨λz hz=>?_,Np.mpr ⟨λz hz=>by rw[h3];exact b1 z hz,b2⟩⟩,λy hy z hz=>?_⟩
 ·rcases MG.mp hz with e |e
  ·rw[e,h2];exact ME
  ·rw[h2];exact MX h5 (by rw[h3];exact b1 z e)
 ·have hx:=c y hy x (M0 ..);rcases MG.mp hz with e |e
  ·rw[e,h1];exact hx
  rcases MG.mp e with e |e
  ·rw[e,<- h2];exact MX hx (by rw[<- h1];exact h4)
  ·exact c y hy z (MV _ e)
def qw(C:Addr):Sp:=λvs H Q _=>(∃(a:Addr) (kp:Ex),vs=[.ref a]/\H a=some (.lst (kp.map V.int))/\Wk kp /\
 ∀(kb:Nat) (p:Addr) (ys:List Cel) (H':Hp),isB (kp.take (kp.length-1)) (ao kp).natAbs kb->Same H H'->H p=none->H' p=some (.lst (qs ys))->(∀y∈ys,FdH C H' kp kb y)->(ys.length:Int)=vw kp (af (-(2^kb)) 1)-vw kp (af (2^kb) 1)->ys.length<=12000->d7 ys->Q (.ref p) H')\/(∃(a:Addr) (ns:Ex),vs=[.ref a]/\H a=some (.lst (ns.map V.int))/\ns.length<=1/\mkL H Q [])
def FF(F:Fun K "cells" "cells" rM f fd)(T:Txt K mg)(R:RCI K mg C)(dW:Cal P w K mg base 1 "degree" ["row"] iz lY lW)(mB:Cal P w K mg base 35 "row_of" ["polynomial"] mO Ah zZ)(cD:KCal P w K mg base 2 C "Ratio" ["self","top","bottom"] (dH C) fk fj fm [.int 1])(ji:Cal P w K mg base 1 "bound" ["row"] (mR K) Ai Aa)(ki:Cal P w K mg base 3 "changes" ["row","ratio"] (qt C) Jd ID)(KE:Cal P w K mg base 4 "middle" ["low","high"] (xf C) L7 Lq):FnOk P w K mg base aD 36 f fd ["row"] (qw C):=by
 obtain⟨bZ,bY,bX,cz,cY,cX⟩:=cD;refine F.ok fZ (λvs H Q E h=>?_) (λ_ A _ s H vs Q E hr h=>?_)
 ·rcases h with⟨a,kp,rfl,_⟩ |⟨a,ns,rfl,_⟩<;>rfl
 ·obtain⟨a,rfl⟩:∃a,vs=[.ref a]:=by rcases h with⟨a,kp,rfl,_⟩ |⟨a,ns,rfl,_⟩<;>exact⟨_,rfl⟩
  have big:=sizeLine_eq
  refine⟨_,(ah (aP (aG dJ (am dW hr (ac (pv 0) ad)) ae)
   (ai (aB (aU ad)))
   aR)
   (ah (ak 1 fZ (am mB hr (ac (pv 0) ad)))
   (ah (ak 2 fZ (cG bY bZ (hr.mono) rfl bX cY cX aZ (ac (am ji hr (ac (pv 0) ad)) ad)))
   (ah (ak 3 fZ (cG bY bZ (hr.mono) rfl bX cY cX aZ (ac (bV bU (am ji hr (ac (pv 0) ad))) ad)))
   (ah (ak 4 fZ (aU (ac (cL (ac (pv 3) (ac (pv 2) (ac (am ki hr (ac (pv 1) (ac (pv 3) ad))) (ac (am ki hr (ac (pv 1) (ac (pv 2) ad))) ad))))) ad)))
   (ah (ak 5 fZ (aU ad))
   (ah (gD PassesOwn.never (aG eE (cU K T.len_ (ac (pv 4) ad)) ae)
     (ah (ak 6 fZ (yE PySem.F.plainAttrs_list PySem.F.slot_list_pop PySem.F.type_list_pop GA (pv 4)))
       (ah (ak 7 fZ (ag cg (aS K (pv 6) ae) (aS K (pv 6) ae)))
       (ah (aP (aG cB (pv 7) ae)
         (ai (dU (ga (pv 5) (ac (cL (ac (aS K (pv 6) ae) (ac (aS K (pv 6) ae) ad))) ad))))
         aR)
       (ai (aP (aG eE (pv 7) ae)
         (ah (ak 8 fZ (am KE hr (ac (aS K (pv 6) ae) (ac (aS K (pv 6) ae) ad))))
           (ah (ak 9 fZ (am ki hr (ac (pv 1) (ac (pv 8) ad))))
           (ah (dU (ga (pv 4) (ac (cL (ac (pv 8) (ac (aS K (pv 6) ae) (ac (pv 9) (ac (aS K (pv 6) ae) ad))))) ad)))
           (ai (dU (ga (pv 4) (ac (cL (ac (aS K (pv 6) ae) (ac (pv 8) (ac (aS K (pv 6) ae) (ac (pv 9) ad))))) ad)))))))
         aR))))))
   (ai (aB (pv 5)))))))))),?_⟩
  rcases h with⟨a',kp,ea,hA,hW,k⟩ |⟨a',ns,ea,hA,hl1,k⟩
  rotate_left
  ·cases ea;refine cp ⟨_,rfl,a,_,rfl,hA,_,_,rfl,rfl,_,rfl,aN (λ_=>?_) (λh0=>absurd (show((ns.map V.int).length:Int)-1<1 by rw[MC];omega) h0)⟩;exact bC ⟨MK _,λp hp=>k p _ (Same.upd_new hp) hp ar⟩
  cases ea;have hF:=hW.tr;have l7:=hW.l7;have l2':=hW.l2;have hne:kp≠[]:=λz=>by rw[z]at l2';simp at l2'
  have hml:(kp.map V.int).length=kp.length:=MC _
  obtain⟨rn,rx,rl⟩:Run 9 (al kp) (al (slopeL kp))/\(∀xs∈cJ kp,xs.length<=20/\AllB 99500 xs)/\(cJ kp).length<=9:=by obtain⟨r1,_,r3⟩:=x4 hF hW.bits l7;refine⟨r1,λxs hx=>?_,nD 9 _ _⟩;obtain⟨_,b,l⟩:=r3 xs hx;exact⟨by omega,b.mono⟩
  have vl:=Bo rl;have rl:(cJ kp).length<=1000000:=by omega
  refine cp ⟨_,rfl,a,_,rfl,hA,_,_,rfl,rfl,_,rfl,aN (λh0=>absurd (show((kp.map V.int).length:Int)-1<1 from h0) (by rw[hml];omega)) (λ_=>?_)⟩;refine az ⟨_,rfl,a,kp,9,rfl,hA,hF,hW.bits.mono,by omega,by decide,rn,λpc ps H1 s1 hpc hnew ec hR=>?_⟩;have hR':RwH H1 ps (cJ kp):=hR;refine az ⟨_,rfl,a,kp,rfl,SqL.of (s1 _ _ hA),hF,hne,by omega,hW.bits.mono,λkb H2 hkb hB s2=>di (t:=((2^kb:Nat):Int)) (b:=1) (by decide) (eQ (by decide)) λph H3 s3 hph hRh=>?_⟩;rw[sG,sM]at hRh;have t3:=(s1.trans s2).trans s3;refine az ⟨_,rfl,a,kp,rfl,SqL.of (t3 _ _ hA),hF,hne,by omega,hW.bits.mono,λkb' H4 hkb' hB' s4=>?_⟩;obtain rfl:=oJ hB hB';refine⟨_,rfl,di (t := -((2^kb:Nat):Int)) (b:=1) (by decide) (eQ (by decide)) λpl H5 s5 hpl hRl=>?_⟩;rw[sG,sM]at hRl;obtain⟨hk,hFew⟩:=hW.few kb hB;have eB:((2^kb:Nat):Int)=(2:Int)^kb:=by rw[OQ];rfl
  rw[eB]at hRh hRl;have B0:(0:Int)<2^kb:=NQ (by decide);have t5:=(t3.trans s4).trans s5;have u5:=(s2.trans s3).trans (s4.trans s5);have ec5:=u5 _ _ ec;have hR5:=hR'.same u5;have hRh5:=hRh.same (s4.trans s5);have dy0:Dya (2^kb) 0 (-(2^kb)) 1 (2^kb) 1:=Dya.start;obtain⟨b1,b2,b3,b4⟩:=lZ dy0 hk (by omega);refine az ⟨_,rfl,_,rfl,_,rfl,_,rfl,pc,pl,ps,cJ kp,_,_,rfl,ec5,hR5,hRl,b1.mono,b2.mono,rx,rl,λH6 s6=>?_⟩;refine⟨_,rfl,_,rfl,pc,ph,ps,cJ kp,_,_,rfl,s6 _ _ ec5,hR5.same s6,hRh5.same s6,b3.mono,b4.mono,rx,rl,λH7 s7=>⟨by show 4<=sizeLine;omega,λq0 hq0=>⟨by show 1<=sizeLine;omega,λpw hpw=>?_⟩⟩⟩;have u7:=s6.trans s7;have ec7:=u7 _ _ ec5;have hR7:=hR5.same u7;have hRl7:=hRl.same u7;have hRh7:=hRh5.same u7;have t7:=t5.trans u7;have w7:Same H7 (upd H7 q0 (.tup [.ref pl,.ref ph,.int (VV kp (-(2^kb)) 1),.int (VV kp (2^kb) 1)])):=Same.upd_new hq0;have e8:upd H7 q0 (.tup [.ref pl,.ref ph,.int (VV kp (-(2^kb)) 1),.int (VV kp (2^kb) 1)]) q0=some (.tup [.ref pl,.ref ph,.int (VV kp (-(2^kb)) 1),.int (VV kp (2^kb) 1)]):=ar;have hpw':upd H7 q0 (.tup [.ref pl,.ref ph,.int (VV kp (-(2^kb)) 1),.int (VV kp (2^kb) 1)]) pw=none:=hpw;refine az ⟨MK _,λpf hpf=>?_⟩;have hpf':upd (upd H7 q0 (.tup [.ref pl,.ref ph,.int (VV kp (-(2^kb)) 1),.int (VV kp (2^kb) 1)])) pw (.lst [V.ref q0]) pf=none:=hpf;show cx _ _ _ _ _;refine dX (λQ2 H'=>Q2=[some (.ref a),some (.ref pc),some (.ref ph),some (.ref pl),some (.ref pw),some (.ref pf),none,none,none,none]/\upd (upd (upd H7 q0 (.tup [.ref pl,.ref ph,.int (VV kp (-(2^kb)) 1),.int (VV kp (2^kb) 1)])) pw (.lst [V.ref q0])) pf (.lst [])=H') ⟨rfl,rfl⟩ ?_;rintro Q2 H10 ⟨rfl,eH10⟩;generalize upd H7 q0 (.tup [.ref pl,.ref ph,.int (VV kp (-(2^kb)) 1),.int (VV kp (2^kb) 1)])=H8 at w7 e8 hpw' hpf' eH10
  have sw:Same H8 (upd H8 pw (.lst [V.ref q0])):=Same.upd_new hpw';have sf:Same (upd H8 pw (.lst [V.ref q0])) H10:=by rw[<- eH10];exact Same.upd_new hpf'
  have s810:=sw.trans sf;have fw:H8 pw=none:=hpw';have ff:H8 pf=none:=sw.free hpf';have nwf:pw≠pf:=bh (ar (H:=H8) (o:=.lst [V.ref q0])) hpf';have ew10:H10 pw=some (.lst [V.ref q0]):=sf _ _ ar;have ef10:H10 pf=some (.lst []):=by rw[<- eH10];exact ar
  have x0w:WtH C H10 kp kb ⟨q0,pl,ph,-(2^kb),1,2^kb,1,0⟩:=⟨s810 _ _ e8,hRl7.same (w7.trans s810),hRh7.same (w7.trans s810),dy0,MK _,trivial⟩;clear eH10 sw sf
  have hm0:fX kp kb [⟨q0,pl,ph,-(2^kb),1,2^kb,1,0⟩]<=11000:=by
   show wgt kp kb _+0<=11000;unfold wgt;have v1:=vl (Cel.mk q0 pl ph (-(2^kb)) 1 (2^kb) 1 0).a;have v2:=vl (Cel.mk q0 pl ph (-(2^kb)) 1 (2^kb) 1 0).b;have h2:(Cel.cn ⟨q0,pl,ph,-(2^kb),1,2^kb,1,0⟩ kp).toNat<=9:=by unfold Cel.cn;omega
   have h3:=N9 h2 (show 130-0<=130 by omega);have h4:(130-(Cel.mk q0 pl ph (-(2^kb)) 1 (2^kb) 1 0).d)=130-0:=rfl;rw[h4];omega
  refine⟨λm Q2 H'=>∃(ws ys:List Cel) (z6 z7 z8 z9:Option V),m=fX kp kb ws/\Q2=[some (.ref a),some (.ref pc),some (.ref ph),some (.ref pl),some (.ref pw),some (.ref pf),z6,z7,z8,z9]/\Same H8 H'/\H' pw=some (.lst (qs ws))/\H' pf=some (.lst (qs ys))/\(∀x∈ws,WtH C H' kp kb x)/\(∀y∈ys,FdH C H' kp kb y)/\(ys.length:Int)+tot kp ws=vw kp (af (-(2^kb)) 1)-vw kp (af (2^kb) 1)/\ys.length+m<=11000/\d7 (ys++ws.reverse),
   ⟨_,[⟨q0,pl,ph,-(2^kb),1,2^kb,1,0⟩],[],none,none,none,none,rfl,rfl,s810,ew10,ef10,λx hx=>by rw[MH.mp hx];exact x0w,(λy hy=>nomatch hy),(by show(0:Int)+((vw kp (af (-(2^kb)) 1)-vw kp (af (2^kb) 1))+0)=_;omega),by show 0+_<=_;omega,by show d7 [_];exact NY _ _⟩,?_⟩
  clear hm0 x0w ew10 ef10 s810;rintro m Q2 H' ⟨ws,ys,z6,z7,z8,z9,rfl,rfl,sm,ew,ef,hws,hys,hcov,hlen,hri⟩;have hwl:=pM kp kb ws;have hql:(qs ws).length=ws.length:=MC _;refine⟨_,rfl,pw,_,rfl,.inl (SqL.of ew),_,_,rfl,rfl,_,rfl,aN (λhgt=>?_) (λhle=>?_)⟩
  rotate_left
  ·
   have h0:ws=[]:=ON.mp (by have:¬((qs ws).length:Int)>0:=hle;rw[hql]at this;omega);subst h0;refine⟨_,rfl,k kb pf ys H' hB (t7.trans (w7.trans sm)) ((t7.trans w7).free ff) ef hys (by have:tot kp []=0:=rfl;omega) (by omega) (by rw[List.reverse_nil,Of]at hri;exact hri)⟩
  ·have hnw:ws≠[]:=λz=>by rw[z]at hql;have:((qs ws).length:Int)>0:=hgt;rw[z]at this;exact absurd this (by decide)
   obtain⟨ws',x,rfl⟩:∃ws' x,ws=ws'++[x]:=⟨ws.dropLast,ws.getLast hnw,(List.dropLast_concat_getLast hnw).symm⟩;rw[jl]at hlen;rw[pR]at hcov
   replace hri:d7 (ys++x::ws'.reverse):=by rw[OM]at hri;exact hri
   rw[nJ]at ew;have hx:=hws x (by simp);have hw':∀y∈ws',WtH C H' kp kb y:=λy hy=>hws y (by simp[hy])
   clear hws hql hgt hnw;have hwl:=pM kp kb ws';refine⟨_,λ_ _ h=>h,?_⟩;rw[jl];refine az ⟨_,rfl,.inl ⟨rfl,_,SqL.of ew⟩,pw,_,V.ref x.q,rfl,rfl,ew,by rw[MY];simp,?_⟩;rw[List.dropLast_concat];have ew1:upd H' pw (.lst (qs ws')) pw=some (.lst (qs ws')):=ar;have ef1:upd H' pw (.lst (qs ws')) pf=some (.lst (qs ys)):=by rw[upd_ne (Ne.symm nwf)];exact ef
   have n1:NL H' (upd H' pw (.lst (qs ws'))):=NL.upd ew;have sm1:Same H8 (upd H' pw (.lst (qs ws'))):=fO sm fw;generalize upd H' pw (.lst (qs ws'))=K1 at ew1 ef1 n1 sm1 ⊢
   have hx1:=hx.nl n1;have hw1:∀y∈ws',WtH C K1 kp kb y:=λy hy=>(hw' y hy).nl n1
   have hy1:∀y∈ys,FdH C K1 kp kb y:=λy hy=>(hys y hy).nl n1
   clear hw' hys ew ef sm n1 hx;refine az ⟨_,rfl,x.q,_,_,_,rfl,rfl,SqT.of hx1.tup,rfl,_,rfl,x.q,_,_,_,rfl,rfl,SqT.of hx1.tup,rfl,_,_,rfl,rfl,?_⟩;have ecn:VV kp x.l1 x.l2-VV kp x.h1 x.h2=x.cn kp:=by rw[iu hx1.dy.l2p,iu hx1.dy.h2p];rfl
   dsimp only
   rw[ecn];have cn0:0<=x.cn kp:=uY hFew hx1.dy;refine kY (λQ2 H'=>∃ys:List Cel,Q2=[some (.ref a),some (.ref pc),some (.ref ph),some (.ref pl),some (.ref pw),some (.ref pf),some (.ref x.q),some (.int (x.cn kp)),z8,z9]/\Same H8 H'/\H' pw=some (.lst (qs ws'))/\H' pf=some (.lst (qs ys))/\WtH C H' kp kb x/\(∀y∈ws',WtH C H' kp kb y)/\(∀y∈ys,FdH C H' kp kb y)/\(ys.length:Int)+(tot kp ws'+(if x.cn kp=1 then 0 else x.cn kp))=vw kp (af (-(2^kb)) 1)-vw kp (af (2^kb) 1)/\ys.length+fX kp kb ws'+(if x.cn kp=1 then 0 else wgt kp kb x)<=11000/\(x.cn kp≠1->d7 (ys++x::ws'.reverse))/\d7 (ys++ws'.reverse)) ?_ ?_
   case refine_2 =>
    intro rest;refine⟨_,rfl,_,_,rfl,rfl,_,rfl,aN (λh1=>?_) (λh1=>?_)⟩
    ·have h1':x.cn kp=1:=h1;refine jJ ⟨_,rfl,.inl ⟨rfl,_,SqL.of ef1⟩,_,rfl,x.q,_,_,_,rfl,rfl,SqT.of hx1.tup,rfl,_,rfl,x.q,_,_,_,rfl,rfl,SqT.of hx1.tup,rfl,by show 2<=sizeLine;omega,λp hp=>?_⟩;have s2:Same K1 (upd K1 p (.tup [V.ref x.lo,V.ref x.hi])):=Same.upd_new hp;have e2:upd K1 p (.tup [V.ref x.lo,V.ref x.hi]) p=some (.tup [V.ref x.lo,V.ref x.hi]):=ar;generalize upd K1 p (.tup [V.ref x.lo,V.ref x.hi])=K2 at s2 e2 ⊢
     have ef2:=s2 _ _ ef1;have hyl:(qs ys).length=ys.length:=MC _;refine⟨pf,_,_,rfl,rfl,ef2,by rw[hyl];omega,?_⟩;have n3:NL K1 (upd K2 pf (.lst (qs ys++[V.ref p]))):=(NL.of s2).trans (NL.upd ef2);have n4:NL K2 (upd K2 pf (.lst (qs ys++[V.ref p]))):=NL.upd ef2;refine rest _ _ ⟨ys++[⟨p,x.lo,x.hi,x.l1,x.l2,x.h1,x.h2,x.d⟩],rfl,fO (sm1.trans s2) ff,by rw[upd_ne nwf];exact s2 _ _ ew1,by rw[ar,nJ],hx1.nl n3,λy hy=>(hw1 y hy).nl n3,λy hy=>?_,by rw[if_pos h1',MY];show((ys.length+1:Nat):Int)+_=_;omega,?_,λz=>absurd h1' z,?_⟩
     ·rcases MS.mp hy with z |z
      ·exact(hy1 y z).nl n3
      ·rw[MH.mp z];exact⟨n4 _ _ e2 (λ_=>by simp),hx1.lo.nl n3,hx1.hi.nl n3,hx1.dy,hx1.dd,hx1.par,h1'⟩
     ·rw[if_pos h1',MY];show ys.length+1+_+0<=_;have:1<=wgt kp kb x:=by unfold wgt;omega
      omega
     ·rw[Os];exact DG (x:=x) rfl rfl hri
    ·have h1':¬x.cn kp=1:=h1;exact rest _ _ ⟨ys,rfl,sm1,ew1,ef1,hx1,hw1,hy1,by rw[if_neg h1'];omega,by rw[if_neg h1'];omega,λ_=>hri,DH hri⟩
   clear hcov hlen hri hy1 hw1 hx1 ef1 ew1 sm1 ys;rintro Q2 K3 ⟨ys,rfl,sm1,ew1,ef1,hx1,hw1,hy1,hcov,hlen,hri1,hri2⟩;refine⟨_,rfl,_,_,rfl,rfl,_,rfl,aN (λh2=>?_) (λh2=>?_)⟩
   rotate_left
   ·
    have h2':¬x.cn kp>1:=h2;exact⟨fX kp kb ws',by unfold wgt;omega,ws',ys,_,_,_,_,rfl,rfl,sm1,ew1,ef1,hw1,hy1,by split at hcov<;>omega,by split at hlen<;>omega,hri2⟩
   have h2':x.cn kp>1:=h2;rw[if_neg (show ¬x.cn kp=1 by omega)]at hlen hcov
   have hdl:x.d<130:=Nat.not_le.mp λz=>by have:x.cn kp<=1:=JH hFew hx1.dy z;omega
   obtain⟨c1,c2,c3,c4⟩:=lZ hx1.dy hk hx1.dd;refine az ⟨_,rfl,x.q,_,_,_,rfl,rfl,SqT.of hx1.tup,rfl,_,rfl,x.q,_,_,_,rfl,rfl,SqT.of hx1.tup,rfl,x.lo,x.hi,_,_,_,_,rfl,hx1.lo,hx1.hi,c1.mono,c2.mono,c3.mono,c4.mono,hx1.dy.l2p,hx1.dy.h2p,λpm K4 s4 hpm hRm=>?_⟩;have n0:2*x.l2*x.h2≠0:=M7 (MO (by have:=hx1.dy.l2p;omega) hx1.dy.h2p);obtain⟨dl,dr⟩:=hx1.dy.half (df n0) (jM n0) (fJ n0);obtain⟨pl',pr'⟩:=EJ (c1:=rt (x.l1*x.h2+x.h1*x.l2) (2*x.l2*x.h2)) (c2:=rb (x.l1*x.h2+x.h1*x.l2) (2*x.l2*x.h2)) hx1.dy (show 2<=x.cn kp by omega);generalize rt (x.l1*x.h2+x.h1*x.l2) (2*x.l2*x.h2)=m1 at hRm dl dr pl' pr'
   generalize rb (x.l1*x.h2+x.h1*x.l2) (2*x.l2*x.h2)=m2 at hRm dl dr pl' pr'
   have hx4:=hx1.nl (NL.of s4);obtain⟨g1,g2,g3,g4⟩:=lZ dl hk (by omega);have sm4:=sm1.trans s4;refine az ⟨_,rfl,_,rfl,pc,pm,ps,cJ kp,m1,m2,rfl,sm4 _ _ (w7 _ _ ec7),hR7.same (w7.trans sm4),hRm,g3.mono,g4.mono,rx,rl,λK5 s5=>?_⟩;have hx5:=hx4.nl (NL.of s5);have u5:=s4.trans s5;refine gA ⟨_,rfl,.inl ⟨rfl,_,SqL.of (u5 _ _ ew1)⟩,_,rfl,_,rfl,x.q,_,_,_,rfl,rfl,SqT.of hx5.tup,rfl,_,rfl,_,rfl,x.q,_,_,_,rfl,rfl,SqT.of hx5.tup,rfl,by show 4<=sizeLine;omega,λq1 hq1=>?_⟩;have s6:Same K5 (upd K5 q1 (.tup [V.ref pm,V.ref x.hi,V.int (VV kp m1 m2),V.int (VV kp x.h1 x.h2)])):=Same.upd_new hq1;have e6:upd K5 q1 (.tup [V.ref pm,V.ref x.hi,V.int (VV kp m1 m2),V.int (VV kp x.h1 x.h2)]) q1=some (.tup [V.ref pm,V.ref x.hi,V.int (VV kp m1 m2),V.int (VV kp x.h1 x.h2)]):=ar;refine kX (H2:=upd K5 q1 (.tup [V.ref pm,V.ref x.hi,V.int (VV kp m1 m2),V.int (VV kp x.h1 x.h2)])) rfl ?_;generalize upd K5 q1 (.tup [V.ref pm,V.ref x.hi,V.int (VV kp m1 m2),V.int (VV kp x.h1 x.h2)])=K6 at s6 e6 ⊢
   have u6:=u5.trans s6;have ew6:=u6 _ _ ew1;have ef6:=u6 _ _ ef1;have hql:(qs ws').length=ws'.length:=MC _;refine⟨pw,_,_,rfl,rfl,ew6,by rw[hql];omega,?_⟩;have ew7:upd K6 pw (.lst (qs ws'++[V.ref q1])) pw=some (.lst (qs ws'++[V.ref q1])):=ar;have ef7:upd K6 pw (.lst (qs ws'++[V.ref q1])) pf=some (.lst (qs ys)):=by rw[upd_ne (Ne.symm nwf)];exact ef6
   have n7:NL K6 (upd K6 pw (.lst (qs ws'++[V.ref q1]))):=NL.upd ew6;have sm7:Same H8 (upd K6 pw (.lst (qs ws'++[V.ref q1]))):=fO (sm1.trans u6) fw;generalize upd K6 pw (.lst (qs ws'++[V.ref q1]))=K7 at ew7 ef7 n7 sm7 ⊢
   have m5:NL K5 K7:=(NL.of s6).trans n7;have hx7:=hx5.nl m5;refine jJ ⟨_,rfl,.inl ⟨rfl,_,SqL.of ew7⟩,_,rfl,x.q,_,_,_,rfl,rfl,SqT.of hx7.tup,rfl,_,rfl,_,rfl,x.q,_,_,_,rfl,rfl,SqT.of hx7.tup,rfl,_,rfl,by show 4<=sizeLine;omega,λq2 hq2=>?_⟩;have s8:Same K7 (upd K7 q2 (.tup [V.ref x.lo,V.ref pm,V.int (VV kp x.l1 x.l2),V.int (VV kp m1 m2)])):=Same.upd_new hq2;have e8':upd K7 q2 (.tup [V.ref x.lo,V.ref pm,V.int (VV kp x.l1 x.l2),V.int (VV kp m1 m2)]) q2=some (.tup [V.ref x.lo,V.ref pm,V.int (VV kp x.l1 x.l2),V.int (VV kp m1 m2)]):=ar;refine kX (H2:=upd K7 q2 (.tup [V.ref x.lo,V.ref pm,V.int (VV kp x.l1 x.l2),V.int (VV kp m1 m2)])) rfl ?_;generalize upd K7 q2 (.tup [V.ref x.lo,V.ref pm,V.int (VV kp x.l1 x.l2),V.int (VV kp m1 m2)])=K8 at s8 e8' ⊢
   have ew8:=s8 _ _ ew7;have hql8:(qs ws'++[V.ref q1]).length=ws'.length+1:=by rw[MY,hql];rfl
   refine⟨pw,_,_,rfl,rfl,ew8,by rw[hql8];omega,?_⟩;have n9:NL K8 (upd K8 pw (.lst ((qs ws'++[V.ref q1])++[V.ref q2]))):=NL.upd ew8;have m7:NL K7 (upd K8 pw (.lst ((qs ws'++[V.ref q1])++[V.ref q2]))):=(NL.of s8).trans n9;have m6:=n7.trans m7;have mm5:=m5.trans m7;have m3:=(NL.of u5).trans mm5;have ladd:x.cn kp=(Cel.mk q2 x.lo pm x.l1 x.l2 m1 m2 (x.d+1)).cn kp+(Cel.mk q1 pm x.hi m1 m2 x.h1 x.h2 (x.d+1)).cn kp:=by unfold Cel.cn Cel.a Cel.b;dsimp only;omega
   have wl:wgt kp kb ⟨q1,pm,x.hi,m1,m2,x.h1,x.h2,x.d+1⟩+wgt kp kb ⟨q2,x.lo,pm,x.l1,x.l2,m1,m2,x.d+1⟩<wgt kp kb x:=by
    have p1:0<=(Cel.mk q2 x.lo pm x.l1 x.l2 m1 m2 (x.d+1)).cn kp:=uY hFew (by assumption);have p2:0<=(Cel.mk q1 pm x.hi m1 m2 x.h1 x.h2 (x.d+1)).cn kp:=uY hFew (by assumption);unfold wgt;show 1+2*(_*(130-(x.d+1)))+(1+2*(_*(130-(x.d+1))))<_;generalize (Cel.mk q2 x.lo pm x.l1 x.l2 m1 m2 (x.d+1)).cn kp=A at *
    generalize (Cel.mk q1 pm x.hi m1 m2 x.h1 x.h2 (x.d+1)).cn kp=B at *
    obtain⟨A,rfl⟩:=OP p1;obtain⟨B,rfl⟩:=OP p2;obtain⟨t,ht⟩:∃t,130-x.d=t+1:=⟨130-x.d-1,by omega⟩;have ht':130-(x.d+1)=t:=by omega
    have hc:(x.cn kp).toNat=A+B:=by omega
    rw[hc,ht,ht'];show 1+2*(B*t)+(1+2*(A*t))<1+2*((A+B)*(t+1));have e1:(A+B)*(t+1)=A*t+B*t+(A+B):=by rw[Nat.mul_succ,Oh]
    rw[e1];omega
   refine⟨fX kp kb (ws'++[⟨q1,pm,x.hi,m1,m2,x.h1,x.h2,x.d+1⟩]++[⟨q2,x.lo,pm,x.l1,x.l2,m1,m2,x.d+1⟩]),by rw[jl,jl];omega,_,ys,_,_,_,_,rfl,rfl,fO (sm7.trans s8) fw,by rw[ar,nJ,nJ],by rw[upd_ne (Ne.symm nwf)];exact s8 _ _ ef7,λy hy=>?_,λy hy=>(hy1 y hy).nl m3,by rw[pR,pR];omega,by rw[jl,jl];omega,?_⟩
   ·rcases MS.mp hy with z |z
    ·rcases MS.mp z with z |z
     ·exact(hw1 y z).nl m3
     ·rw[MH.mp z];exact⟨m6 _ _ e6 (λ_=>by simp),(hRm.same s5).nl mm5,hx5.hi.nl mm5,dr,by show x.d+1<=_;omega,pr'⟩
    ·rw[MH.mp z];exact⟨n9 _ _ e8' (λ_=>by simp),hx5.lo.nl mm5,(hRm.same s5).nl mm5,dl,by show x.d+1<=_;omega,pl'⟩
   ·rw[OM,OM];exact DI (x:=x) rfl rfl rfl (MF (ie dl)) (MF (ie dr)) (hri1 (by omega))
def qB{x:Int}(h:x<0):sg x = -1:=by unfold sg;split<;>(try split)<;>omega
def CH{x:Int}(h:0<x):sg x=1:=by unfold sg;split<;>(try split)<;>omega
def fg:(¬("against":Str)="bottom")/\¬("against":Str)="top":=⟨by decide +kernel,by decide +kernel⟩
def Ao{b:Int}(hb:0<b):dv 1 b=1:=by unfold dv;rw[if_neg (by omega)];show((Nat.gcd 1 b.natAbs:Nat):Int)=1;rw[Nat.gcd_one_left];rfl
def DA{b:Int}(hb:0<b):rt 1 b=1:=by have h:=jH (t:=1) (b:=b) (by omega);rw[Ao hb,M9]at h;exact h
def DR{b:Int}(hb:0<b):rb 1 b=b:=by have h:=iH (t:=1) (b:=b) (by omega);rw[Ao hb,M9]at h;exact h
def GS{CN:Addr}{H3:Hp}{q:Addr->Hp->Prop}{E:XK}{r l h:Addr}{ns:List V}(e3:H3 r=some (.lst ns))(k:∀(x p:Addr) (H':Hp),Same H3 H'->H3 x=none->NA CN H' x p l h->H' p=some (.lst ns)->H3 p=none->q x H'):∀x dx:Addr,H3 x=none->H3 dx=none->dx≠x->mQ CN (.ref x::([.ref r,.ref l,.ref h]++[])) (upd (upd H3 dx (.own x)) x (.ins CN dx [])) (λv H2=>v=.non/\q x H2) E:=λx dx nx ndx ne=>by
 have npx:r≠x:=bh e3 nx;have npd:r≠dx:=bh e3 ndx;refine⟨x,dx,r,l,h,_,rfl,ar,by rw[upd_ne npx,upd_ne npd];exact e3,λq hq=>⟨rfl,?_⟩⟩;have nqx:q≠x:=λz=>by rw[z,ar]at hq;cases hq
 have nqd:q≠dx:=λz=>by rw[z,upd_ne ne,ar]at hq;cases hq
 have hq3:H3 q=none:=by rw[upd_ne nqx,upd_ne nqd]at hq;exact hq
 refine k x q _ (λc o ec=>?_) nx ⟨dx,ar⟩ (by rw[upd_ne nqx,ar]) hq3;have ncx:c≠x:=bh ec nx;have ncd:c≠dx:=bh ec ndx;have e4:upd (upd H3 dx (.own x)) x (.ins CN dx []) c=some o:=by rw[upd_ne ncx,upd_ne ncd];exact ec
 rw[upd_ne ncx,upd_ne (bh e4 hq)];exact e4
def jK{g a b:Rat}(hg:0<g)(h:g*a<=g*b):a<=b:=Nj.mp λz=>by have:=NI z hg;grind
def lN{ns:Ex}(h:ns≠[]):atI (ns.map V.int) (-1)=some (.int (ao ns)):=by obtain⟨r,x,rfl⟩:=(dz ns).resolve_left h;rw[fS];exact AW r x
def lJ{k:Nat}{ns:Ex}(h:AllB k ns):Bits k (ao ns):=h.cf _
structure Fp(G:Ex):Prop where
 flt:Flt G
 pln:Pln G
 l9:G.length<=9
 bits:AllB 100 G
 few:∀x y:Rat,x<y->y-x<1/48->vw G x<=vw G y+1
 sml:∀l h:Rat,l<h->vw G l-vw G h=1->∀p,LS G l h p->AllB 100 p/\p.length<=9
structure Gd(G:Ex)(kb:Nat):Prop where
 fp:Fp G
 isb:isB (G.take (G.length-1)) (ao G).natAbs kb
def Gd.k110{G:Ex}{kb:Nat}(h:Gd G kb):kb<=110:=by
 rcases Nat.lt_or_ge kb 111 with z |z
 ·omega
 ·obtain⟨x,hx,h2⟩:=h.isb.2 110 (by omega);have h3:x.natAbs<2^100:=h.fp.bits x (O2 hx);have hp:=h.fp.pln.pos;have h5:2^110-1<=(2^110-1)*(ao G).natAbs:=OR _ (by omega);have h4:(2:Nat)^100<2^110-1:=by decide
  omega
def Gd.bits{G:Ex}{kb:Nat}(h:Gd G kb):AllB 100 G:=h.fp.bits
def Gd.wk{G:Ex}{kb:Nat}(h:Gd G kb):Wk G:=⟨h.fp.pln.tr,h.fp.flt.l2,h.fp.l9,h.bits,λkb' hB=>by
 obtain rfl:=oJ h.isb hB
 exact⟨h.k110,λx y hxy=>h.fp.flt.cnt.mono hxy,h.fp.few,h.k110⟩⟩
def xl(C:Addr):Sp:=λvs H Q _=>∃(a:Addr) (G:Ex) (kb:Nat),vs=[.ref a]/\H a=some (.lst (G.map V.int))/\Gd G kb/\∀(x:Addr) (H':Hp),Same H H'->H x=none->RA C H' x 1 (8*ao G*2^kb)->0<8*ao G*(2:Int)^kb->Bits 520 (8*ao G*(2:Int)^kb)->Q (.ref x) H'
def Fx(F:Fun K "fine_width" "fine_width" rD f fd)(T:Txt K mg)(R:RCI K mg C)(cD:KCal P w K mg base 2 C "Ratio" ["self","top","bottom"] (dH C) fk fj fm [.int 1])(ji:Cal P w K mg base 1 "bound" ["row"] (mR K) Ai Aa):FnOk P w K mg base aD 4 f fd ["whole"] (xl C):=by
 obtain⟨bZ,bY,bX,cz,cY,cX⟩:=cD;refine F.ok Df (λvs H Q E h=>?_) (λ_ A _ s H vs Q E hr h=>?_)
 ·obtain⟨a,G,kb,rfl,_⟩:=h;rfl
 ·obtain⟨a,G,kb0,rfl,hA,hG,k⟩:=h;refine⟨_,(ai (aB (cG bY bZ (hr.mono) rfl bX cz .nil aZ (ac ae (ac (ag aE (ag aE ae (ce K (pv 0) (bV bU ae))) (am ji hr (ac (pv 0) ad))) ad))))),?_⟩;have hP:=hG.fp.pln;have l5:=hG.fp.l9;have hb:=hG.bits;have b8:Bits 4 (8:Int):=by show(8:Int).natAbs<2^4;decide
  have hp:=hP.pos;refine bC ⟨_,rfl,_,rfl,a,_,_,_,rfl,rfl,SqL.of hA,lN hP.ne,_,_,rfl,rfl,⟨b8.mono,(lJ hb).mono⟩,_,rfl,a,G,rfl,SqL.of hA,hP.tr,hP.ne,by omega,hb.mono,λkb H1 hkb hB s1=>?_⟩;obtain rfl:=oJ hG.isb hB;have hk:=hG.k110
  have b2:Bits 253 ((2^kb0:Nat):Int):=by show(((2^kb0:Nat):Int)).natAbs<2^253;rw[Nt];exact(OJ (by decide)).mpr (by omega)
  have b3:Bits 254 (8*ao G):=(b8.mul (lJ hb)).mono;have pk:(0:Int)<((2^kb0:Nat):Int):=OC.mpr (Ou (by decide));have hD:0<8*ao G*((2^kb0:Nat):Int):=MO (by omega) pk;have bD:Bits 520 (8*ao G*((2^kb0:Nat):Int)):=(b3.mul b2).mono;refine⟨_,_,rfl,rfl,⟨b3.mono,b2.mono⟩,di (t:=1) (by omega) (bD.mono) λx H2 s2 hx hR=>?_⟩;rw[DA hD,DR hD]at hR;have eB:((2^kb0:Nat):Int)=(2:Int)^kb0:=by rw[OQ];rfl
  rw[eB]at hR hD bD;exact k x H2 (s1.trans s2) (s1.free hx) hR hD bD
def xo(C:Addr):Sp:=λvs H Q _=>∃(p:Addr) (t b:Int),vs=[.ref p]/\RA C H p t b/\0<b/\Bits 9000 b/\Q (.int (t/b)) H
def Gc(F:Fun K "floor" "Ratio.floor" ss f fd)(T:Txt K mg)(R:RCI K mg C):FnOk P w K mg base aD 1 f fd ["self"] (xo C):=by
 refine F.ok Ds (λvs H Q E h=>?_) (λ_ A _ s H vs Q E hr h=>?_)
 ·obtain⟨p,t,b,rfl,_⟩:=h;rfl
 ·obtain⟨p,t,b,rfl,⟨dx,hp⟩,hb,bb,k⟩:=h;refine⟨_,(ai (aB (ag cZ (aQ (K:=K) rfl (pv 0) rfl) (aQ (K:=K) rfl (pv 0) rfl)))),?_⟩;exact⟨_,rfl,p,C,dx,_,_,rfl,hp,R.cl,R.nT,c7,_,rfl,p,C,dx,_,_,rfl,hp,R.cl,R.nB,ci,_,_,rfl,rfl,⟨hb,bb⟩,k⟩
def yT:¬(("floor":Str)="bottom")/\¬(("floor":Str)="top"):=⟨by decide +kernel,by decide +kernel⟩
def DU{a c:Int}(hc:0<c):rt a c/rb a c=a/c:=by
 have h0:c≠0:=by omega
 have e1:=jH (t:=a) h0;have e2:=iH (t:=a) h0
 have hp:0<dv a c:=by unfold dv;rw[if_neg (by omega)];have:=jW (t:=a) h0;omega
 have e3:dv a c*rt a c/(dv a c*rb a c)=rt a c/rb a c:=Int.mul_ediv_mul_of_pos _ _ hp;rw[e1,e2]at e3;exact e3.symm
def pX(C:Addr):Sp:=λvs H Q _=>∃(r:Addr) (c t b:Int),vs=[.int c,.ref r]/\RA C H r t b/\0<b/\Bits 10000 c/\Bits 10000 t/\Bits 8900 b/\∀H',Same H H'->Q (.int (c*t/b)) H'
def EW(F:Fun K "times_floor" "times_floor" qL f fd)(T:Txt K mg)(R:RCI K mg C)(cD:KCal P w K mg base 2 C "Ratio" ["self","top","bottom"] (dH C) fk fj fm [.int 1])(jj:MCal P w K mg base 4 C "times" ["self","other"] (ku C) uN uF)(KZ:MCal P w K mg base 1 C "floor" ["self"] (xo C) Mt LN):FnOk P w K mg base aD 5 f fd ["factor","ratio"] (pX C):=by
 obtain⟨bZ,bY,bX,cz,cY,cX⟩:=cD;obtain⟨gn,gb,gk⟩:=jj;obtain⟨Ko,GD,J6⟩:=KZ;refine F.ok CW (λvs H Q E h=>?_) (λ_ A _ s H vs Q E hr h=>?_)
 ·obtain⟨r,c,t,b,rfl,_⟩:=h;rfl
 ·obtain⟨r,c,t,b,rfl,hR,hb,bc,bt,bb,k⟩:=h;refine⟨_,(ai (aB (EC (dC (cG bY bZ (hr.mono) rfl bX cY cX aZ (ac (pv 0) ad)) R.cl gb gn (hr.mono) gk .nil aZ (ac (pv 1) ad)) R.cl GD Ko (hr.mono) J6 .nil aZ))),?_⟩;refine bC ⟨_,rfl,di (t:=c) (b:=1) (by decide) (eQ (by decide)) λx H1 s1 hx hX=>?_⟩;rw[sG,sM]at hX;obtain⟨dx,hX'⟩:=id hX;refine⟨x,dx,_,rfl,hX',dk dY.1 dY.2,_,rfl,x,r,c,1,t,b,1,8900,rfl,hX,hR.same s1,bc.mono,eQ (by decide),bt.mono,bb,by decide,by decide,hb,λy H2 s2 hy hY=>?_⟩;obtain⟨dy,hY'⟩:=id hY;have d0:1*b≠0:=by omega
  refine⟨y,dy,_,rfl,hY',dk yT.1 yT.2,y,_,_,rfl,hY,df d0,(eY d0 (by rw[M9];exact bb)).mono,?_⟩;rw[DU (show 0<1*b by omega),M9];exact k H2 (s1.trans s2)
noncomputable def vl(p:Int×Int):Rat:=(p.1:Rat)/(p.2:Rat)
def Bs{a b c d:Int}(hb:0<b)(hd:0<d)(h:¬c*b<a*d):(a:Rat)/(b:Rat)<=(c:Rat)/(d:Rat):=Nj.mp λz=>h ((nE hd hb).mp z)
def wc{t b:Int}(hb:0<b):((rt t b:Int):Rat)/((rb t b:Int):Rat)=(t:Rat)/(b:Rat):=by
 have h0:b≠0:=by omega
 have hc:=fJ (t:=t) h0;have hp:=df (t:=t) h0;have cb:(0:Rat)<(b:Rat):=MP.mpr hb;have cr:(0:Rat)<((rb t b:Int):Rat):=MP.mpr hp;have e1:((rt t b:Int):Rat)/((rb t b:Int):Rat)*((rb t b:Int):Rat)=((rt t b:Int):Rat):=MN (Oa cr);have e2:(t:Rat)/(b:Rat)*(b:Rat)=(t:Rat):=MN (Oa cb);have e3:((rt t b:Int):Rat)*(b:Rat)=(t:Rat)*((rb t b:Int):Rat):=by rw[<- MD,hc,MD]
 generalize ((rt t b:Int):Rat)/((rb t b:Int):Rat)=X at e1 ⊢
 generalize (t:Rat)/(b:Rat)=Y at e2 ⊢
 rw[<- e1,<- e2]at e3;have hM:=ML cr cb;have e4:(((rb t b:Int):Rat)*(b:Rat))*X=(((rb t b:Int):Rat)*(b:Rat))*Y:=by grind
 exact Rat.le_antisymm (jK hM (by rw[e4];exact ME)) (jK hM (by rw[e4];exact ME))
def Br{a b c d:Int}(hb:0<b)(hd:0<d):((a*c:Int):Rat)/((b*d:Int):Rat)=(a:Rat)/(b:Rat)*((c:Rat)/(d:Rat)):=by
 have cb:(0:Rat)<(b:Rat):=MP.mpr hb;have cd:(0:Rat)<(d:Rat):=MP.mpr hd;rw[MD,MD];have hM:=ML cb cd;have e1:(a:Rat)/(b:Rat)*(b:Rat)=(a:Rat):=MN (Oa cb);have e2:(c:Rat)/(d:Rat)*(d:Rat)=(c:Rat):=MN (Oa cd);have e3:(a:Rat)*(c:Rat)/((b:Rat)*(d:Rat))*((b:Rat)*(d:Rat))=(a:Rat)*(c:Rat):=MN (Oa hM);generalize (a:Rat)/(b:Rat)=X at e1 ⊢
 generalize (c:Rat)/(d:Rat)=Y at e2 ⊢
 generalize (a:Rat)*(c:Rat)/((b:Rat)*(d:Rat))=Z at e3 ⊢
 rw[<- e1,<- e2]at e3;have e4:((b:Rat)*(d:Rat))*Z=((b:Rat)*(d:Rat))*(X*Y):=by grind
 exact Rat.le_antisymm (jK hM (by rw[e4];exact ME)) (jK hM (by rw[e4];exact ME))
def Bt{a b c d:Int}(hb:0<b)(hd:0<d):((a*d+c*b:Int):Rat)/((b*d:Int):Rat)=(a:Rat)/(b:Rat)+(c:Rat)/(d:Rat):=by
 have cb:(0:Rat)<(b:Rat):=MP.mpr hb;have cd:(0:Rat)<(d:Rat):=MP.mpr hd;rw[Ni,MD,MD,MD];have hM:=ML cb cd;have e1:(a:Rat)/(b:Rat)*(b:Rat)=(a:Rat):=MN (Oa cb);have e2:(c:Rat)/(d:Rat)*(d:Rat)=(c:Rat):=MN (Oa cd);have e3:((a:Rat)*(d:Rat)+(c:Rat)*(b:Rat))/((b:Rat)*(d:Rat))*((b:Rat)*(d:Rat))=(a:Rat)*(d:Rat)+(c:Rat)*(b:Rat):=MN (Oa hM);generalize ((a:Rat)*(d:Rat)+(c:Rat)*(b:Rat))/((b:Rat)*(d:Rat))=Z at e3 ⊢
 generalize (a:Rat)/(b:Rat)=X at e1 ⊢
 generalize (c:Rat)/(d:Rat)=Y at e2 ⊢
 rw[<- e1,<- e2]at e3;have e4:((b:Rat)*(d:Rat))*Z=((b:Rat)*(d:Rat))*(X+Y):=by grind
 exact Rat.le_antisymm (jK hM (by rw[e4];exact ME)) (jK hM (by rw[e4];exact ME))
structure MaxP(x1 x2 y1 y2 p1 p2 q1 q2 m1 m2:Int):Prop where
 m2p:0<m2
 b1:Bits 8200 m1
 b2:Bits 8200 m2
 c1:vl (x1,x2)*vl (p1,p2)<=vl (m1,m2)
 c2:vl (x1,x2)*vl (q1,q2)<=vl (m1,m2)
 c3:vl (y1,y2)*vl (p1,p2)<=vl (m1,m2)
 c4:vl (y1,y2)*vl (q1,q2)<=vl (m1,m2)
 is:vl (m1,m2)=vl (x1,x2)*vl (p1,p2)\/vl (m1,m2)=vl (x1,x2)*vl (q1,q2)\/vl (m1,m2)=vl (y1,y2)*vl (p1,p2)\/vl (m1,m2)=vl (y1,y2)*vl (q1,q2)
structure TwoS(C:Addr)(H:Hp)(p q x y x' y':Addr)(x1 x2 y1 y2 p1 p2 q1 q2:Int):Prop where
 hp:H p=some (.tup [.ref x,.ref y])
 hq:H q=some (.tup [.ref x',.ref y'])
 hx:RA C H x x1 x2
 hy:RA C H y y1 y2
 hx':RA C H x' p1 p2
 hy':RA C H y' q1 q2
 e1:EndsG 4074 x1 x2 y1 y2
 e2:EndsG 4074 p1 p2 q1 q2
def TwoS.same{C:Addr}{H H':Hp}{p q x y x' y':Addr}{x1 x2 y1 y2 p1 p2 q1 q2:Int}(h:TwoS C H p q x y x' y' x1 x2 y1 y2 p1 p2 q1 q2)(s:Same H H'):TwoS C H' p q x y x' y' x1 x2 y1 y2 p1 p2 q1 q2:=⟨s _ _ h.hp,s _ _ h.hq,h.hx.same s,h.hy.same s,h.hx'.same s,h.hy'.same s,h.e1,h.e2⟩
def wT(C:Addr):Sp:=λvs H Q _=>∃(p q x y x' y':Addr) (x1 x2 y1 y2 p1 p2 q1 q2:Int),vs=[.ref p,.ref q]/\TwoS C H p q x y x' y' x1 x2 y1 y2 p1 p2 q1 q2/\∀(t lo hi:Addr) (H':Hp) (m1 m2:Int),Same H H'->H t=none->H' t=some (.tup [.ref lo,.ref hi])->RA C H' hi m1 m2->MaxP x1 x2 y1 y2 p1 p2 q1 q2 m1 m2->Q (.ref t) H'
structure PrH(C:Addr)(H:Hp)(r:Addr)(m1 m2:Int)(v:Rat):Prop where
 ra:RA C H r m1 m2
 m2p:0<m2
 b1:Bits 8200 m1
 b2:Bits 8200 m2
 is:vl (m1,m2)=v
def PrH.same{C:Addr}{H H':Hp}{r:Addr}{m1 m2:Int}{v:Rat}(h:PrH C H r m1 m2 v)(s:Same H H'):PrH C H' r m1 m2 v:=⟨h.ra.same s,h.m2p,h.b1,h.b2,h.is⟩
def nX{C:Addr}{H:Hp}{r:Addr}{a b c d:Int}(hb:0<b)(hd:0<d)(ba:Bits 4074 a)(bb:Bits 4074 b)(bc:Bits 4074 c)(bd:Bits 4074 d)(h:RA C H r (rt (a*c) (b*d)) (rb (a*c) (b*d))):PrH C H r (rt (a*c) (b*d)) (rb (a*c) (b*d)) (vl (a,b)*vl (c,d)):=by
 have hp:0<b*d:=MO hb hd;have h0:b*d≠0:=by omega
 refine⟨h,df h0,(eW h0 (ba.mul bc)).mono,(eY h0 (bb.mul bd)).mono,?_⟩;show((rt (a*c) (b*d):Int):Rat)/((rb (a*c) (b*d):Int):Rat)=_;rw[wc hp,Br hb hd];rfl
def E2(F:Fun K "span_product" "span_product" qQ f fd)(T:Txt K mg)(R:RCI K mg C)(jj:MCal P w K mg base 4 C "times" ["self","other"] (ku C) uN uF)(gT:MCal P w K mg base 2 C "against" ["self","other"] (jt C) oR oQ):FnOk P w K mg base aD 5 f fd ["first","second"] (wT C):=by
 obtain⟨gn,gb,gk⟩:=jj;obtain⟨gs,ge,gm⟩:=gT;refine F.ok jx (λvs H Q E h=>?_) (λ_ A _ s H vs Q E hr h=>?_)
 ·obtain⟨p,q,x,y,x',y',x1,x2,y1,y2,p1,p2,q1,q2,rfl,_⟩:=h;rfl
 ·obtain⟨p,q,x,y,x',y',x1,x2,y1,y2,p1,p2,q1,q2,rfl,h,k⟩:=h;have big:=sizeLine_eq
  refine⟨_,(ah (ak 2 jx (dC (aS K (pv 0) ae) R.cl gb gn (hr.mono) gk .nil aZ (ac (aS K (pv 1) ae) ad)))
   (ah (ak 3 jx (pv 2))
   (ah (cT PassesOwn.never rfl (Er (K:=K) rfl (cL (ac (dC (aS K (pv 0) ae) R.cl gb gn (hr.mono) gk .nil aZ (ac (aS K (pv 1) ae) ad)) (ac (dC (aS K (pv 0) ae) R.cl gb gn (hr.mono) gk .nil aZ (ac (aS K (pv 1) ae) ad)) (ac (dC (aS K (pv 0) ae) R.cl gb gn (hr.mono) gk .nil aZ (ac (aS K (pv 1) ae) ad)) ad))))) (aY 4 jx)
     (ah (aP (aG dJ (dC (pv 4) R.cl ge gs (hr.mono) gm .nil aZ (ac (pv 2) ad)) ae)
       (ai (ak 2 jx (pv 4)))
       aR)
       (ai (aP (aG eE (dC (pv 4) R.cl ge gs (hr.mono) gm .nil aZ (ac (pv 3) ad)) ae)
         (ai (ak 3 jx (pv 4)))
         aR))))
   (ai (aB (cL (ac (pv 2) (ac (pv 3) ad)))))))),?_⟩
  have e1:=h.e1;have e2:=h.e2;obtain⟨dx,hx0⟩:=id h.hx;refine az ⟨_,rfl,p,_,_,_,rfl,rfl,SqT.of h.hp,rfl,x,dx,_,rfl,hx0,dk dY.1 dY.2,_,rfl,q,_,_,_,rfl,rfl,SqT.of h.hq,rfl,x,x',x1,x2,p1,p2,4074,4074,rfl,h.hx,h.hx',e1.bl1.mono,e1.bl2,e2.bl1.mono,e2.bl2,by decide,e1.l2p,e2.l2p,λr0 H1 s1 hr0 hR0=>?_⟩;have P0:=nX e1.l2p e2.l2p e1.bl1 e1.bl2 e2.bl1 e2.bl2 hR0;refine az ⟨_,rfl,?_⟩;have h1:=h.same s1;obtain⟨dx1,hx1⟩:=id h1.hx;refine⟨_,rfl,p,_,_,_,rfl,rfl,SqT.of h1.hp,rfl,x,dx1,_,rfl,hx1,dk dY.1 dY.2,_,rfl,q,_,_,_,rfl,rfl,SqT.of h1.hq,rfl,x,y',x1,x2,q1,q2,4074,4074,rfl,h1.hx,h1.hy',e1.bl1.mono,e1.bl2,e2.bh1.mono,e2.bh2,by decide,e1.l2p,e2.h2p,λr1 H2 s2 hr1 hR1=>?_⟩;have P1:=nX e1.l2p e2.h2p e1.bl1 e1.bl2 e2.bh1 e2.bh2 hR1;have h2:=h1.same s2;obtain⟨dy2,hy2⟩:=id h2.hy;refine⟨_,rfl,p,_,_,_,rfl,rfl,SqT.of h2.hp,rfl,y,dy2,_,rfl,hy2,dk dY.1 dY.2,_,rfl,q,_,_,_,rfl,rfl,SqT.of h2.hq,rfl,y,x',y1,y2,p1,p2,4074,4074,rfl,h2.hy,h2.hx',e1.bh1.mono,e1.bh2,e2.bl1.mono,e2.bl2,by decide,e1.h2p,e2.l2p,λr2 H3 s3 hr2 hR2=>?_⟩;have P2:=nX e1.h2p e2.l2p e1.bh1 e1.bh2 e2.bl1 e2.bl2 hR2;have h3:=h2.same s3;obtain⟨dy3,hy3⟩:=id h3.hy;refine⟨_,rfl,p,_,_,_,rfl,rfl,SqT.of h3.hp,rfl,y,dy3,_,rfl,hy3,dk dY.1 dY.2,_,rfl,q,_,_,_,rfl,rfl,SqT.of h3.hq,rfl,y,y',y1,y2,q1,q2,4074,4074,rfl,h3.hy,h3.hy',e1.bh1.mono,e1.bh2,e2.bh1.mono,e2.bh2,by decide,e1.h2p,e2.h2p,λr3 H4 s4 hr3 hR3=>⟨by show 3<=sizeLine;omega,λpt hpt=>?_⟩⟩;have P3:=nX e1.h2p e2.h2p e1.bh1 e1.bh2 e2.bh1 e2.bh2 hR3;have s5:Same H4 (upd H4 pt (.tup [V.ref r1,V.ref r2,V.ref r3])):=Same.upd_new hpt;have q5:upd H4 pt (.tup [V.ref r1,V.ref r2,V.ref r3]) pt=some (.tup [V.ref r1,V.ref r2,V.ref r3]):=ar;refine kX (H2:=upd H4 pt (.tup [V.ref r1,V.ref r2,V.ref r3])) rfl ?_;generalize upd H4 pt (.tup [V.ref r1,V.ref r2,V.ref r3])=H5 at s5 q5 ⊢
  have A0:=(P0.same s2).same (s3.trans (s4.trans s5));have A1:=P1.same (s3.trans (s4.trans s5));have A2:=P2.same (s4.trans s5);have A3:=P3.same s5;have t5:=(s1.trans s2).trans (s3.trans (s4.trans s5));clear P0 P1 P2 P3 hR0 hR1 hR2 hR3
  have get:∀(i:Nat) (z:V),[V.ref r1,V.ref r2,V.ref r3][i]?=some z->∃(r:Addr) (t b:Int) (v:Rat),z=.ref r/\PrH C H5 r t b v/\[vl (x1,x2)*vl (p1,p2),vl (x1,x2)*vl (q1,q2),vl (y1,y2)*vl (p1,p2),vl (y1,y2)*vl (q1,q2)].take (i+1+1)=[vl (x1,x2)*vl (p1,p2),vl (x1,x2)*vl (q1,q2),vl (y1,y2)*vl (p1,p2),vl (y1,y2)*vl (q1,q2)].take (i+1)++[v]:=λi z hz=>by
   match i,hz with
   |0,hz=>exact⟨r1,_,_,_,(Option.some.inj hz).symm,A1,rfl⟩
   |1,hz=>exact⟨r2,_,_,_,(Option.some.inj hz).symm,A2,rfl⟩
   |2,hz=>exact⟨r3,_,_,_,(Option.some.inj hz).symm,A3,rfl⟩
  generalize hV:[vl (x1,x2)*vl (p1,p2),vl (x1,x2)*vl (q1,q2),vl (y1,y2)*vl (p1,p2),vl (y1,y2)*vl (q1,q2)]=W at get
  refine⟨pt,rfl,⟨_,SqT.of q5⟩,Ie (K:=K) (a:=pt) (xs:=[V.ref r1,V.ref r2,V.ref r3]) (λi Q2 H'=>∃(lo g:Addr) (l1 l2 g1 g2:Int) (vo vg:Rat) (z4:Option V),Q2=[some (.ref p),some (.ref q),some (.ref lo),some (.ref g),z4]/\H5=H'/\PrH C H5 lo l1 l2 vo/\PrH C H5 g g1 g2 vg/\vg∈W.take (i+1)/\∀v∈W.take (i+1),v<=vg)
   ⟨r0,r0,_,_,_,_,_,_,none,rfl,rfl,A0,A0,by rw[<- hV];exact MH.mpr rfl,λv hv=>by rw[<- hV]at hv;rw[MH.mp hv];exact ME⟩ ?_ ?_ ?_⟩
  ·rintro i Q2 H' _ ⟨lo,g,l1,l2,g1,g2,vo,vg,z4,rfl,rfl,_⟩;exact SqT.of q5
  ·rintro i z Q2 H' hi ⟨lo,g,l1,l2,g1,g2,vo,vg,z4,rfl,rfl,Po,Pg,hmem,hall⟩;obtain⟨r,t,b,v,rfl,Pr,ht⟩:=get i z hi;obtain⟨dr,hr'⟩:=id Pr.ra;dsimp only
   refine kY (λQ2 H'=>∃(lo:Addr) (l1 l2:Int) (vo:Rat),Q2=[some (.ref p),some (.ref q),some (.ref lo),some (.ref g),some (.ref r)]/\H5=H'/\PrH C H5 lo l1 l2 vo) ?_ ?_
   case refine_2 =>
    intro rest;refine⟨_,rfl,r,dr,_,rfl,hr',dk fg.1 fg.2,_,rfl,r,lo,t,b,l1,l2,rfl,Pr.ra,Po.ra,Pr.b1.mono,Pr.b2.mono,Po.b1.mono,Po.b2.mono,_,_,rfl,rfl,_,rfl,aN (λ_=>?_) (λ_=>?_)⟩
    ·exact⟨_,rfl,rest _ _ ⟨r,t,b,v,rfl,rfl,Pr⟩⟩
    ·exact rest _ _ ⟨lo,l1,l2,vo,rfl,rfl,Po⟩
   rintro Q2 H' ⟨lo',l1',l2',vo',rfl,rfl,Po'⟩;refine⟨_,rfl,r,dr,_,rfl,hr',dk fg.1 fg.2,_,rfl,r,g,t,b,g1,g2,rfl,Pr.ra,Pg.ra,Pr.b1.mono,Pr.b2.mono,Pg.b1.mono,Pg.b2.mono,_,_,rfl,rfl,_,rfl,aN (λh0=>?_) (λh0=>?_)⟩
   ·have h0':sg (t*g2-g1*b)>0:=h0
    have hlt:g1*b<t*g2:=Int.not_le.mp λz=>by
     have:sg (t*g2-g1*b)<=0:=by unfold sg;split<;>(try split)<;>omega
     omega
    have hv:vg<v:=by rw[<- Pg.is,<- Pr.is];exact(nE Pg.m2p Pr.m2p).mpr hlt
    refine⟨_,rfl,lo',r,l1',l2',t,b,vo',v,_,rfl,rfl,Po',Pr,by rw[ht];simp,λu hu=>?_⟩;rw[ht]at hu;rcases MS.mp hu with z |z
    ·exact MX (hall u z) (MF hv)
    ·rw[MH.mp z];exact ME
   ·have h0':¬sg (t*g2-g1*b)>0:=h0
    have hle:v<=vg:=by
     rw[<- Pg.is,<- Pr.is];refine Bs Pr.m2p Pg.m2p λz=>h0' ?_
     have z':g1*b<t*g2:=z;have:sg (t*g2-g1*b)=1:=CH (by omega);omega
    refine⟨lo',g,l1',l2',g1,g2,vo',vg,_,rfl,rfl,Po',Pg,by rw[ht];exact Ob _ hmem,λu hu=>?_⟩;rw[ht]at hu;rcases MS.mp hu with z |z
    ·exact hall u z
    ·rw[MH.mp z];exact hle
  ·rintro Q2 H' ⟨lo,g,l1,l2,g1,g2,vo,vg,z4,rfl,rfl,Po,Pg,hmem,hall⟩;refine⟨_,rfl,_,rfl,by show 2<=sizeLine;omega,λt ht=>?_⟩;have s6:Same H5 (upd H5 t (.tup [V.ref lo,V.ref g])):=Same.upd_new ht;refine k t lo g _ g1 g2 (t5.trans s6) (t5.free ht) ar (Pg.ra.same s6) ⟨Pg.m2p,Pg.b1,Pg.b2,?_,?_,?_,?_,?_⟩
   all_goals rw[Pg.is]
   ·exact hall _ (by rw[<- hV];exact M0 ..)
   ·exact hall _ (by rw[<- hV];exact MV _ (M0 ..))
   ·exact hall _ (by rw[<- hV];exact MV _ (MV _ (M0 ..)))
   ·exact hall _ (by rw[<- hV];exact MV _ (MV _ (MV _ (M0 ..))))
   ·rw[<- hV]at hmem;rcases MG.mp hmem with z |z
    ·exact .inl z
    rcases MG.mp z with z |z
    ·exact .inr (.inl z)
    rcases MG.mp z with z |z
    ·exact .inr (.inr (.inl z))
    ·exact .inr (.inr (.inr (MH.mp z)))
structure SqR(x1 x2 y1 y2 p1 p2 q1 q2 t1 t2 m1 m2:Int):Prop where
 mx:MaxP x1 x2 y1 y2 p1 p2 q1 q2 m1 m2
 t2p:0<t2
 bt:Bits 8200 t1
 sum:vl (t1,t2)=vl (y1,y2)+vl (q1,q2)
def wR(C:Addr):Sp:=λvs H Q _=>∃(a p q x y x' y':Addr) (ns:Ex) (x1 x2 y1 y2 p1 p2 q1 q2:Int),vs=[.ref a,.ref p,.ref q]/\H a=some (.lst (ns.map V.int))/\Pln ns/\AllB 250 ns/\TwoS C H p q x y x' y' x1 x2 y1 y2 p1 p2 q1 q2/\∀t1 t2 m1 m2:Int,SqR x1 x2 y1 y2 p1 p2 q1 q2 t1 t2 m1 m2->mkL H Q (au [ao ns*m1/m2,-(ao ns*t1/t2),ao ns])
def EZ(F:Fun K "square_of" "square_of" qO f fd)(T:Txt K mg)(R:RCI K mg C)(pE:Cal P w K mg base 5 "times_floor" ["factor","ratio"] (pX C) IT Io)(v6:MCal P w K mg base 4 C "plus" ["self","other"] (qh C) Jl IL)(Kw:Cal P w K mg base 5 "span_product" ["first","second"] (wT C) LW Li)(gS:Cal P w K mg base 34 "plain" ["row"] kz uK uC):FnOk P w K mg base aD 35 f fd ["whole","span","other"] (wR C):=by
 obtain⟨vH,tT,vy⟩:=v6;refine F.ok qD (λvs H Q E h=>?_) (λ_ A _ s H vs Q E hr h=>?_)
 ·obtain⟨a,p,q,x,y,x',y',ns,x1,x2,y1,y2,p1,p2,q1,q2,rfl,_⟩:=h;rfl
 ·obtain⟨a,p,q,x,y,x',y',ns,x1,x2,y1,y2,p1,p2,q1,q2,rfl,hA,hP,hb,h,k⟩:=h;have big:=sizeLine_eq
  refine⟨_,(ah (ak 3 qD (ce K (pv 0) (bV bU ae)))
   (ah (ak 4 qD (am pE hr (ac (pv 3) (ac (dC (aS K (pv 1) ae) R.cl tT vH (hr.mono) vy .nil aZ (ac (aS K (pv 2) ae) ad)) ad))))
   (ai (aB (am gS hr (ac (aU (ac (am pE hr (ac (pv 3) (ac (aS K (am Kw hr (ac (pv 1) (ac (pv 2) ad))) ae) ad))) (ac (bV bU (pv 4)) (ac (pv 3) ad)))) ad)))))),?_⟩
  have e1:=h.e1;have e2:=h.e2;have bl:=lJ hb;have lp:=hP.pos;refine az ⟨_,rfl,_,rfl,a,_,_,_,rfl,rfl,SqL.of hA,lN hP.ne,?_⟩;obtain⟨dy,hy0⟩:=id h.hy;have hp2:0<y2*q2:=MO e1.h2p e2.h2p;have h0:y2*q2≠0:=by omega
  have bsum:Bits 8150 (y1*q2+q1*y2):=by have a1:Bits 8148 (y1*q2):=e1.bh1.mul e2.bh2;have a2:Bits 8148 (q1*y2):=(e2.bh1.mul e1.bh2).mono;exact(a1.add a2).mono
  refine az ⟨_,rfl,_,rfl,p,_,_,_,rfl,rfl,SqT.of h.hp,rfl,y,dy,_,rfl,hy0,dk oo.1 oo.2,_,rfl,q,_,_,_,rfl,rfl,SqT.of h.hq,rfl,y,y',y1,y2,q1,q2,4074,4074,rfl,h.hy,h.hy',e1.bh1.mono,e1.bh2,e2.bh1.mono,e2.bh2,by decide,e1.h2p,e2.h2p,λr H1 s1 hr0 hR=>?_⟩;refine⟨r,ao ns,_,_,rfl,hR,df h0,bl.mono,(eW h0 bsum).mono,(eY h0 (e1.bh2.mul e2.bh2)).mono,λH2 s2=>?_⟩;have t2:=s1.trans s2;have h2:=h.same t2;refine bC ⟨_,rfl,_,rfl,_,rfl,p,q,x,y,x',y',x1,x2,y1,y2,p1,p2,q1,q2,rfl,h2,λt lo hi H3 m1 m2 s3 ht et hm mx=>?_⟩;refine⟨t,_,_,_,rfl,rfl,SqT.of et,rfl,hi,ao ns,m1,m2,rfl,hm,mx.m2p,bl.mono,mx.b1.mono,mx.b2.mono,λH4 s4=>?_⟩;refine⟨_,rfl,_,rfl,_,rfl,by show 3<=sizeLine;omega,λpl hpl=>?_⟩;have t4:=(t2.trans s3).trans s4;have trl:Tr [ao ns*m1/m2,-(ao ns*rt (y1*q2+q1*y2) (y2*q2)/rb (y1*q2+q1*y2) (y2*q2)),ao ns]:=(tr_snoc (r:=[ao ns*m1/m2,-(ao ns*rt (y1*q2+q1*y2) (y2*q2)/rb (y1*q2+q1*y2) (y2*q2))])).mpr (by omega);refine⟨pl,[ao ns*m1/m2,-(ao ns*rt (y1*q2+q1*y2) (y2*q2)/rb (y1*q2+q1*y2) (y2*q2)),ao ns],rfl,ar,trl,by show 3<=1000000;decide,λp5 H5 s5 hp5 e5=>?_⟩;have t5:=(t4.then_new (o:=.lst _) hpl).trans s5;refine k _ _ m1 m2 ⟨mx,df h0,(eW h0 bsum).mono,?_⟩ p5 H5 t5 ((t4.then_new hpl).free hp5) e5;show((rt (y1*q2+q1*y2) (y2*q2):Int):Rat)/((rb (y1*q2+q1*y2) (y2*q2):Int):Rat)=_;rw[wc hp2,Bt e1.h2p e2.h2p];rfl
def cV{a b c d:Int}(hb:0<b)(hd:0<d):af a b<af c d↔a*d<c*b:=nE hb hd
def ia{a b c d:Int}(hb:0<b)(hd:0<d):af a b<=af c d↔a*d<=c*b:=by
 constructor
 ·intro h;exact Int.not_lt.mp λz=>Nj.mpr h ((cV hd hb).mpr z)
 ·intro h;exact Nj.mp λz=>Int.not_lt.mpr h ((cV hd hb).mp z)
def eU{t n:Int}(hn:0<n)(l:Ex):sg (hv t n l)=aj (pv l (af t n)):=by rw[<- xM,ug hn];exact ju (N7 (MP.mpr hn))
def sI{G p:Ex}{l1 l2 h1 h2:Int}(hG:Flt G)(l2p:0<l2)(h2p:0<h2)(lt:l1*h2<h1*l2)(o:vw G (af l1 l2)-vw G (af h1 h2)=1)(P:Od G (af l1 l2) (af h1 h2) p):∃ε,RootU p l1 l2 h1 h2 ε (λt n=>vw G (af t n)=vw G (af l1 l2)):=by
 have lt':=(cV l2p h2p).mpr lt;obtain⟨ε,e1,s1,s2,s3⟩:=P.flt.cnt.ru lt' P.one;have D:=hG.cnt;have C:=P.flt.cnt;have o1:=P.one
 have up:∀{z:Rat},af l1 l2<=z->z<=af h1 h2->¬vw G z=vw G (af l1 l2)->vw p z=vw p (af h1 h2):=λ{z} a b n=>by
  have k:=f6 hG lt' o P a b;have:=C.le a;have:=C.le b;have:¬vw p z=vw p (af l1 l2):=λq=>n (k.mp q)
  omega
 refine⟨ε,e1,λx1 x2 hx a b u=>?_,λx1 x2 hx a b u=>?_,λx1 x2 y1 y2 hx hy a b u c=>?_,λx1 x2 y1 y2 hx hy e u=>?_,rfl,λz=>?_⟩
 ·have a':=(cV l2p hx).mpr a;have b':=(ia hx h2p).mpr b;rw[eU hx];exact s1 _ a' b' ((f6 hG lt' o P (MF a') b').mpr u)
 ·have a':=(cV l2p hx).mpr a;have b':=(ia hx h2p).mpr b;rw[eU hx];rcases s2 _ a' b' (up (MF a') b' u)with z |z
  ·exact .inl z
  ·exact .inr (by rw[z];rfl)
 ·have a':=(cV l2p hx).mpr a;have c':=(cV hx hy).mpr c;have b':=(ia hy h2p).mpr b;rw[eU hy];exact s3 _ _ a' c' b' (up (MF a') (by grind) u)
 ·have:af x1 x2=af y1 y2:=jU hx hy e;rw[<- this];exact u
 ·have z':vw G (af h1 h2)=vw G (af l1 l2):=z;omega
def yN{G:Ex}{l h:Rat}(hF:Flt G)(hP:Pln G)(o:vw G l-vw G h=1):Od G l h G:=⟨hP,hF,Dv.refl G,o⟩
structure Nr(G:Ex)(kb:Nat)(l1 l2 h1 h2 x1 x2 y1 y2:Int):Prop where
 ends:EndsG 4074 x1 x2 y1 y2
 ux:vw G (af x1 x2)=vw G (af l1 l2)
 uy:vw G (af y1 y2)=vw G (af h1 h2)
 lo:af l1 l2<=af x1 x2
 hi:af y1 y2<=af h1 h2
 wide:(af y1 y2-af x1 x2)*(8*(ao G:Rat)*2^kb)<=1
def kU{a b:Int}(hb:0<b):af a b*(b:Rat)=(a:Rat):=fh hb
def yP{G:Ex}{kb kk n pl:Nat}{l1 l2 h1 h2 x1 x2 y1 y2:Int}(hG:Flt G)(l2p:0<l2)(h2p:0<h2)(o:vw G (af l1 l2)-vw G (af h1 h2)=1)(hk:kk<=4074)(N:NarP l1 l2 h1 h2 1 (8*ao G*2^kb) (λt n=>vw G (af t n)=vw G (af l1 l2)) kk n pl x1 x2 y1 y2):Nr G kb l1 l2 h1 h2 x1 x2 y1 y2:=by
 have D:=hG.cnt;have en:=N.ends;have lo:=(ia l2p en.l2p).mpr N.lo;have hi:=(ia en.h2p h2p).mpr N.hi;have xy:=(cV en.l2p en.h2p).mpr en.lt;refine⟨en.mono hk,N.ux,?_,lo,hi,?_⟩
 ·have:=N.uy;have a:=D.le (MX lo (MF xy));have b:=D.le hi;have:¬vw G (af y1 y2)=vw G (af l1 l2):=N.uy;omega
 ·have w:=N.wide;have px:(0:Rat)<(x2:Rat):=MP.mpr en.l2p;have py:(0:Rat)<(y2:Rat):=MP.mpr en.h2p;have w':(((y1*x2-x1*y2)*(8*ao G*2^kb):Int):Rat)<=((1*(x2*y2):Int):Rat):=Nh.mpr w;rw[MD,NH,MD,MD,MD,MD,MD,MD,iy]at w';have e1:=kU (a:=x1) en.l2p;have e2:=kU (a:=y1) en.h2p;have c8:((8:Int):Rat)=8:=rfl;have c1:((1:Int):Rat)=1:=rfl;rw[c8,c1,<- e1,<- e2]at w';generalize af x1 x2=u at *
  generalize af y1 y2=v at *
  generalize 8*(ao G:Rat)*2^kb=W at *
  have pp:=ML px py;refine fI pp ?_;grind
def ut{L:Int}{y1 y2:Int}(hy:0<y2)(hL:0<L){k:Int}(h1:(k:Rat)<=(L:Rat)*af y1 y2)(h2:(L:Rat)*af y1 y2<(k:Rat)+1):L*y1/y2=k:=by
 have py:(0:Rat)<(y2:Rat):=MP.mpr hy;have e:=kU (a:=y1) hy
 have a:k*y2<=L*y1:=by
  have:=Nw h1 (MF py);have e2:(L:Rat)*af y1 y2*(y2:Rat)=(L:Rat)*(y1:Rat):=by rw[<- e];grind
  rw[e2,<- MD,<- MD]at this;exact Nh.mp this
 have b:L*y1<(k+1)*y2:=by
  have:=NB h2 py;have e2:(L:Rat)*af y1 y2*(y2:Rat)=(L:Rat)*(y1:Rat):=by rw[<- e];grind
  have e3:((k:Rat)+1)=(((k+1:Int)):Rat):=by rw[Ni];rfl
  rw[e2,e3,<- MD,<- MD]at this;exact MP.mp this
 have d:k<=L*y1/y2:=Int.le_ediv_of_mul_le hy a;have e':L*y1/y2<k+1:=Int.ediv_lt_of_lt_mul hy b;omega
def xh(C:Addr):Sp:=λvs H Q _=>∃(a p x y:Addr) (G:Ex) (kb:Nat) (l1 l2 h1 h2 x1 x2 y1 y2:Int),vs=[.ref a,.ref p]/\H a=some (.lst (G.map V.int))/\H p=some (.tup [.ref x,.ref y])/\RA C H x x1 x2/\RA C H y y1 y2/\Gd G kb/\0<l2/\0<h2/\l1*h2<h1*l2/\vw G (af l1 l2)-vw G (af h1 h2)=1/\Nr G kb l1 l2 h1 h2 x1 x2 y1 y2/\∀ln,((ln=[]/\NoR G (af l1 l2) (af h1 h2))\/(ln.length=2/\Od G (af l1 l2) (af h1 h2) ln))->mkL H Q ln
def Fr(F:Fun K "line_of" "line_of" rq f fd)(T:Txt K mg)(R:RCI K mg C)(cD:KCal P w K mg base 2 C "Ratio" ["self","top","bottom"] (dH C) fk fj fm [.int 1])(pE:Cal P w K mg base 5 "times_floor" ["factor","ratio"] (pX C) IT Io)(gT:MCal P w K mg base 2 C "against" ["self","other"] (jt C) oR oQ)(jf:Cal P w K mg base 2 "sign_at" ["row","ratio"] (ky C) uI uz):FnOk P w K mg base aD 6 f fd ["whole","span"] (xh C):=by
 obtain⟨bZ,bY,bX,cz,cY,cX⟩:=cD;obtain⟨gs,ge,gm⟩:=gT;refine F.ok xT (λvs H Q E h=>?_) (λ_ A _ s H vs Q E hr h=>?_)
 ·obtain⟨a,p,x,y,G,kb,l1,l2,h1,h2,x1,x2,y1,y2,rfl,_⟩:=h;rfl
 ·obtain⟨a,p,x,y,G,kb,l1,l2,h1,h2,x1,x2,y1,y2,rfl,hA,hp,hx,hy,hW,l2p,h2p,lt,o,hN,kk⟩:=h;have kN:NoR G (af l1 l2) (af h1 h2)->mkL H Q []:=λz=>kk [] (.inl ⟨rfl,z⟩)
  have kL:∀p:Ex,p.length=2->Od G (af l1 l2) (af h1 h2) p->mkL H Q p:=λp z O=>kk p (.inr ⟨z,O⟩)
  refine⟨_,(ah (ak 2 xT (cG bY bZ (hr.mono) rfl bX cz .nil aZ (ac (am pE hr (ac (ce K (pv 0) (bV bU ae)) (ac (aS K (pv 1) ae) ad))) (ac (ce K (pv 0) (bV bU ae)) ad))))
   (ah (aP (PW.pt (g7 (aG eE (dC (pv 2) R.cl ge gs (hr.mono) gm .nil aZ (ac (aS K (pv 1) ae) ad)) ae) (g6 (aG cB (am jf hr (ac (pv 0) (ac (pv 2) ad))) ae))))
     (ai (aB (aU (ac (bV bU (aQ (K:=K) rfl (pv 2) rfl)) (ac (aQ (K:=K) rfl (pv 2) rfl) ad)))))
     aR)
   (ai (aB (aU ad))))),?_⟩
  have big:=sizeLine_eq;have en:=hN.ends;have hb:=hW.bits;have hP:=hW.fp.pln;have l5:=hW.fp.l9;have bl:=lJ hb;have lp:=hP.pos;have lt':=(cV l2p h2p).mpr lt;have xy:=(cV en.l2p en.h2p).mpr en.lt;have B1:(1:Rat)<=2^kb:=g9 (by decide) kb;refine az ⟨_,rfl,_,rfl,a,_,_,_,rfl,rfl,SqL.of hA,lN hP.ne,_,rfl,p,_,_,_,rfl,rfl,SqT.of hp,rfl,y,ao G,y1,y2,rfl,hy,en.h2p,bl.mono,en.bh1.mono,en.bh2.mono,λH1 s1=>?_⟩;have bm:Bits 4400 (ao G*y1/y2):=Bits.of_le ((bl.mul en.bh1).mono (k:=4400) (by decide)) (O6 _ _);have l0:ao G≠0:=by omega
  have hfl:ao G*y1/y2*y2<=ao G*y1:=Int.ediv_mul_le _ (by have:=en.h2p;omega)
  have hit:∀r:Rat,af l1 l2<r->r<=af h1 h2->pv G r=0->af x1 x2<r/\af (rt (ao G*y1/y2) (ao G)) (rb (ao G*y1/y2) (ao G))=r:=λr r1 r2 hr=>by
   obtain⟨g1,g2,k,e1,e2,e3⟩:=GZ hP hW.fp.flt lt' o hN.lo xy hN.hi hN.ux hN.uy B1 hN.wide r1 r2 hr;refine⟨g1,?_⟩;rw[ut en.h2p lp e2 e3];have hc:=jU (df (t:=k) l0) lp (fJ (t:=k) l0);rw[hc];have e4:=kU (a:=k) lp;have pl:(0:Rat)<(ao G:Rat):=MP.mpr lp;rw[e1]at e4;generalize af k (ao G)=z at *
   have:(ao G:Rat)*(z-r)=0:=by grind
   rcases MQ.mp this with q |q
   ·grind
   ·grind
  have hpos:=df (t:=ao G*y1/y2) l0;have hgc:=jM (t:=ao G*y1/y2) l0;have hcr:=fJ (t:=ao G*y1/y2) l0;have bt:=eW l0 bm;have bb:=eY (t:=ao G*y1/y2) l0 bl
  have top:af (rt (ao G*y1/y2) (ao G)) (rb (ao G*y1/y2) (ao G))<=af y1 y2:=by rw[jU hpos lp hcr];exact(ia lp en.h2p).mpr (by rw[No y1];exact hfl)
  generalize ao G*y1/y2=m at bm hit hpos hgc hcr bt bb top ⊢
  refine⟨_,rfl,_,rfl,a,_,_,_,rfl,rfl,SqL.of (s1 _ _ hA),lN hP.ne,di l0 (bl.mono) λr H2 s2 hr2 hR=>?_⟩;have t2:=s1.trans s2;obtain⟨dr,hR'⟩:=id hR;generalize rt m (ao G)=m1 at *
  generalize rb m (ao G)=m2 at *
  have sgl:∀c d:Int,sg (c-d)>0↔d<c:=λc d=>by unfold sg;split<;>(try split)<;>constructor<;>intro z<;>omega
  have none:(af x1 x2<af m1 m2->pv G (af m1 m2)≠0)->NoR G (af l1 l2) (af h1 h2):=λhn r r1 r2 hr=>by obtain⟨g1,g2⟩:=hit r r1 r2 hr;rw[g2]at hn;exact hn g1 hr
  refine cp (gB ⟨_,rfl,r,dr,_,rfl,hR',dk fg.1 fg.2,_,rfl,p,_,_,_,rfl,rfl,SqT.of (t2 _ _ hp),rfl,r,x,_,_,x1,x2,rfl,hR,hx.same t2,bt.mono,bb.mono,en.bl1.mono,en.bl2.mono,_,_,rfl,rfl,_,rfl,aN (λh0=>?_) (λh0=>?_)⟩)
  ·have h0':=(cV en.l2p hpos).mpr ((sgl _ _).mp h0);refine⟨_,rfl,_,rfl,a,r,G,_,_,⟨rfl,t2 _ _ hA,hR,by omega,hb.mono,bt.mono,bb.mono⟩,λH3 s3=>⟨_,_,rfl,rfl,_,rfl,aN (λh3=>?_) (λh3=>?_)⟩⟩
   ·have h3':sg (hv m1 m2 G)=0:=h3;rw[eU hpos]at h3';have hz:pv G (af m1 m2)=0:=Classical.byContradiction λq=>sg_ne.mpr q h3'
    have hR3:=s3 _ _ hR'
    have pl:Pln [-m1,m2]:=⟨tr2 hpos,by simp,by
     show Nat.gcd (Nat.gcd 0 (-m1).natAbs) m2.natAbs=1
     rw[OH,Ot];exact hgc,hpos⟩
    have dv:Dv [-m1,m2] G:=x6 hpos hz;have fl:=hW.fp.flt.dv pl.tr (by show 2<=2;decide) (by show 2<=9;decide) dv;have in1:af l1 l2<af m1 m2:=by have:=hN.lo;grind
    have in2:af m1 m2<=af h1 h2:=MX top hN.hi
    have one:vw [-m1,m2] (af l1 l2)-vw [-m1,m2] (af h1 h2)=1:=by
     have u:=hW.fp.flt.le fl dv lt';have mo:=fl.cnt.mono lt'
     have ne:vw [-m1,m2] (af l1 l2)≠vw [-m1,m2] (af h1 h2):=λq=>fl.cnt.free lt' q in1 in2 (by
      show((-m1:Int):Rat)+af m1 m2*((m2:Rat)+af m1 m2*0)=0;have:=kU (a:=m1) hpos
      rw[NE];grind)
     omega
    refine bC ⟨_,rfl,r,C,dr,_,_,rfl,hR3,R.cl,R.nT,c7,_,rfl,_,rfl,r,C,dr,_,_,rfl,hR3,R.cl,R.nB,ci,by show 2<=sizeLine;omega,λq hq=>?_⟩;exact kL [-m1,m2] rfl ⟨pl,fl,dv,one⟩ q _ ((t2.trans s3).then_new hq) ((t2.trans s3).free hq) ar
   ·have h3':¬sg (hv m1 m2 G)=0:=h3;rw[eU hpos]at h3';exact bC ⟨MK _,λq hq=>kN (none λ_=>sg_ne.mp h3') q _ ((t2.trans s3).then_new hq) ((t2.trans s3).free hq) ar⟩
  ·have h0':¬x1*m2<m1*x2:=λz=>h0 ((sgl _ _).mpr z)
   exact dA (bC ⟨MK _,λq hq=>kN (none λz=>absurd ((cV en.l2p hpos).mp z) h0') q _ (t2.then_new hq) (t2.free hq) ar⟩)
def xq:Sp:=λvs H Q _=>∃(a b:Addr) (xs ys:Ex) (n:Nat),vs=[.ref b,.ref a]/\H a=some (.lst (xs.map V.int))/\H b=some (.lst (ys.map V.int))/\ys≠[]/\AllB n xs/\AllB n ys/\(xs.length+2)*(n+1)<=1000000/\ys.length<=1000000/\∀H',Same H H'->Q (.bl (decide (bj xs ys=[]))) H'
def Fy(F:Fun K "divides" "divides" rE f fd)(T:Txt K mg)(jh:Cal P w K mg base 2 "divided" ["first","second"] kA uL uD):FnOk P w K mg base aD 3 f fd ["divisor","row"] xq:=by
 refine F.ok Dg (λvs H Q E h=>?_) (λ_ A _ s H vs Q E hr h=>?_)
 ·obtain⟨a,b,xs,ys,n,rfl,_⟩:=h;rfl
 ·obtain⟨a,b,xs,ys,nb,rfl,hA,hB,hy,bx,by',hsz,hyn,k⟩:=h;have hu:=hr.units;refine⟨_,(ai (aB (iO (iQ (K:=K) rfl hu) (aS K (am jh hr (ac (pv 1) (ac (pv 0) ad))) ae) (aU ad)))),?_⟩;refine bC ⟨_,rfl,_,rfl,a,b,xs,ys,nb,rfl,hA,hB,hy,bx,by',hsz,hyn,λt q r H1 sm1 ht hq hr' _ _ _ et eq er=>?_⟩;refine⟨t,_,_,_,rfl,rfl,SqT.of et,rfl,MK _,λp hp=>?_⟩;exact⟨r,p,_,[],rfl,rfl,SqL.of (by rw[upd_ne (bh er hp)];exact er),SqL.of ar,k _ (sm1.then_new hp)⟩
def zo(t:Int):af t 1=(t:Rat):=by have:=fh (t:=t) (n:=1) (by decide);have c1:((1:Int):Rat)=1:=rfl;rw[c1,Rat.mul_one]at this;exact this
def zp(kb:Nat):af (2^kb) 1=(2:Rat)^kb/\af (-(2^kb)) 1 = -((2:Rat)^kb):=by
 refine⟨?_,?_⟩
 ·rw[zo,iy]
 ·rw[zo,NE,iy]
def Gd.far{G:Ex}{kb:Nat}(h:Gd G kb):(∀x:Rat,x <= -(2^kb)->vw G x=vw G (-(2^kb))/\pv G x≠0)/\∀x:Rat,2^kb<=x->vw G x=vw G (2^kb)/\pv G x≠0:=by
 obtain⟨r,n1,n2⟩:=Dz h.fp.flt h.fp.pln h.isb.1;obtain⟨B,hB,h1,h2⟩:=r.lim;have C:=h.fp.flt.cnt;have p2:(0:Rat)<2^kb:=N7 (by decide);refine⟨λx hx=>⟨?_,n1 x hx⟩,λx hx=>⟨?_,n2 x hx⟩⟩
 ·rcases MM (a:=x) (b := -B)with z |z
  ·exact(h1 x z).1
  ·have e1:=(h1 (-B) ME).1;have a:=C.le z;have b:=C.le hx;omega
 ·have key:vw G x=vw G (-(2^kb))-(vw G (-(2^kb))-vw G (2^kb)):=by
   rcases MM (a:=B) (b:=x)with z |z
   ·exact(h2 x z).1
   ·have e1:=(h2 B ME).1;have a:=C.le z;have b:=C.le hx;omega
  omega
structure Sn(G:Ex)(kb:Nat)(l1 l2 h1 h2:Int):Prop where
 gd:Gd G kb
 en:EndsG 710 l1 l2 h1 h2
 one:vw G (af l1 l2)-vw G (af h1 h2)=1
def Sn.lt{G:Ex}{kb:Nat}{l1 l2 h1 h2:Int}(s:Sn G kb l1 l2 h1 h2):af l1 l2<af h1 h2:=(cV s.en.l2p s.en.h2p).mpr s.en.lt
def xv{C:Addr}{H:Hp}{G:Ex}{kb:Nat}{c:Cel}(g:Gd G kb)(h:FdH C H G kb c):Sn G kb c.l1 c.l2 c.h1 c.h2:=by obtain⟨b1,b2,b3,b4⟩:=lZ h.dy g.k110 h.dd;have lt:=ie h.dy;exact⟨g,⟨h.dy.l2p,h.dy.h2p,b1.mono,b2.mono,b3.mono,b4.mono,(cV h.dy.l2p h.dy.h2p).mp lt,h.dy.gl,h.dy.gh⟩,h.one⟩
def yQ{G:Ex}{kb:Nat}{l1 l2 h1 h2 x1 x2 y1 y2:Int}(s:Sn G kb l1 l2 h1 h2)(N:Nr G kb l1 l2 h1 h2 x1 x2 y1 y2):Bd (2*2^kb) (af x1 x2)/\Bd (2*2^kb) (af y1 y2):=by
 obtain⟨f1,f2⟩:=s.gd.far;have B1:(1:Rat)<=2^kb:=g9 (by decide) kb;have o:=s.one;have ux:=N.ux;have uy:=N.uy;have xy:=(cV N.ends.l2p N.ends.h2p).mpr N.ends.lt;have L1:(1:Rat)<=(ao G:Rat):=Nh.mpr s.gd.fp.pln.pos;have w:=N.wide
 have w1:af y1 y2-af x1 x2<=1:=by
  have k:1<=8*(ao G:Rat)*2^kb:=by have:=MJ (show 0<=(ao G:Rat)-1 by grind) (show 0<=(2:Rat)^kb by grind);grind
  generalize 8*(ao G:Rat)*2^kb=z at *
  have:=MJ (show 0<=af y1 y2-af x1 x2 by grind) (show 0<=z-1 by grind);grind
 have a : -(2^kb)<af y1 y2:=Nx.mp λz=>by have e1:=(f1 _ z).1;have e2:=(f1 _ (show af x1 x2 <= -(2^kb) by grind)).1;omega
 have b:af x1 x2<2^kb:=Nx.mp λz=>by have e1:=(f2 _ z).1;have e2:=(f2 _ (show 2^kb<=af y1 y2 by grind)).1;omega
 exact⟨⟨by grind,by grind⟩,⟨by grind,by grind⟩⟩
def Ck{G q:Ex}{kb:Nat}{l1 l2 h1 h2 c1 c2 d1 d2 x1 x2 y1 y2 p1 p2 q1 q2 t1 t2 m1 m2:Int}(s:Sn G kb l1 l2 h1 h2)(sc:Sn G kb c1 c2 d1 d2)(N1:Nr G kb l1 l2 h1 h2 x1 x2 y1 y2)(N2:Nr G kb c1 c2 d1 d2 p1 p2 q1 q2)(Q:Od G (af l1 l2) (af h1 h2) q)(h3:q.length=3)(oc:vw q (af c1 c2)-vw q (af d1 d2)=1)(ne:vw q (af d1 d2)≠vw q (af h1 h2))(hS:SqR x1 x2 y1 y2 p1 p2 q1 q2 t1 t2 m1 m2) :
 au [ao G*m1/m2,-(ao G*t1/t2),ao G]=q:=by
 have hG:=s.gd.fp;have Qc:Od G (af c1 c2) (af d1 d2) q:=⟨Q.pln,Q.flt,Q.dv,oc⟩;have C:=Q.flt.cnt;have lt:=s.lt;have ltc:=sc.lt;have xy:=(cV N1.ends.l2p N1.ends.h2p).mpr N1.ends.lt;have pq:=(cV N2.ends.l2p N2.ends.h2p).mpr N2.ends.lt;have e1:=(f6 hG.flt lt s.one Q N1.lo (MX (MF xy) N1.hi)).mpr N1.ux;have e3:=(f6 hG.flt ltc sc.one Qc N2.lo (MX (MF pq) N2.hi)).mpr N2.ux
 have e2:vw q (af y1 y2)=vw q (af h1 h2):=by
  have a:=C.le N1.hi;have k:=(f6 hG.flt lt s.one Q (MX N1.lo (MF xy)) N1.hi);have n:¬vw G (af y1 y2)=vw G (af l1 l2):=λz=>by have:=N1.uy;have:=s.one;omega
  have n':¬vw q (af y1 y2)=vw q (af l1 l2):=λz=>n (k.mp z)
  have b:=C.le (MX N1.lo (MF xy));have:=Q.one;omega
 have e4:vw q (af q1 q2)=vw q (af d1 d2):=by
  have a:=C.le N2.hi;have k:=(f6 hG.flt ltc sc.one Qc (MX N2.lo (MF pq)) N2.hi);have n:¬vw G (af q1 q2)=vw G (af c1 c2):=λz=>by have:=N2.uy;have:=sc.one;omega
  have n':¬vw q (af q1 q2)=vw q (af c1 c2):=λz=>n (k.mp z)
  have b:=C.le (MX N2.lo (MF pq));omega
 have B1:(1:Rat)<=2^kb:=g9 (by decide) kb;have mx:=hS.mx;have i1:=mx.c1;have i2:=mx.c2;have i3:=mx.c3;have i4:=mx.c4;have im:=mx.is;have isum:=hS.sum;obtain⟨bx,by'⟩:=yQ s N1;obtain⟨bp,bq⟩:=yQ sc N2;have o1:=Q.one;obtain⟨a,sm,p,eq,ea,f1,f2,f3,f4⟩:=Ch (x1:=af x1 x2) (y1:=af y1 y2) (x2:=af p1 p2) (y2:=af q1 q2) (B:=2^kb) (M:=af m1 m2) hG.pln Q.pln Q.flt h3 Q.dv B1 xy pq (by omega) (by omega) (by omega) bx by' bp bq N1.wide N2.wide i1 i2 i3 i4 im;have lp:=hG.pln.pos;have es:af t1 t2=af y1 y2+af q1 q2:=isum;rw[<- es]at f3 f4;rw[ut mx.m2p lp f1 f2,ut hS.t2p lp f3 f4,Int.neg_neg];exact eq.symm
def qq(C:Addr):Sp:=λvs H Q _=>∃(a l h:Addr) (F G:Ex) (kb:Nat) (l1 l2 h1 h2:Int),vs=[.ref a,.ref l,.ref h]/\H a=some (.lst (F.map V.int))/\Tr F/\au F=G/\RA C H l l1 l2/\RA C H h h1 h2/\Sn G kb l1 l2 h1 h2/\∀p,LS G (af l1 l2) (af h1 h2) p->mkL H Q p
def Ft(F:Fun K "least" "least" rz f fd)(T:Txt K mg)(gS:Cal P w K mg base 34 "plain" ["row"] kz uK uC)(dW:Cal P w K mg base 1 "degree" ["row"] iz lY lW)(KK:Cal P w K mg base 4 "fine_width" ["whole"] (xl C) Md Lx)(pH:Cal P w K mg base 6 "narrowed" ["row","low","high","width"] (ql C) I9 Iz)(KH:Cal P w K mg base 6 "line_of" ["whole","span"] (xh C) Ma Lu)(vV:Cal P w K mg base 36 "cells" ["row"] (qw C) Je IE)(Ku:Cal P w K mg base 35 "square_of" ["whole","span","other"] (wR C) LU Lg)(KL:Cal P w K mg base 3 "divides" ["divisor","row"] xq Me Ly)(vU:Cal P w K mg base 4 "count" ["row","low","high"] (qr C) Jb IB)(mB:Cal P w K mg base 35 "row_of" ["polynomial"] mO Ah zZ):FnOk P w K mg base aD 37 f fd ["row","low","high"] (qq C):=by
 refine F.ok iE (λvs H Q E h=>?_) (λ_ A _ s H vs Q E hr h=>?_)
 ·obtain⟨a,l,h,F,G,kb,l1,l2,h1,h2,rfl,_⟩:=h;rfl
 ·obtain⟨a,l,h,kF,G,kb,l1,l2,h1,h2,rfl,hA,tF,eG,hl,hh,hS,k⟩:=h;have lF:kF.length=G.length:=by rw[<- eG,RM.plain_len]
  have hu:=hr.units;have big:=sizeLine_eq;have hg:=hS.gd;have en:=hS.en;have hP:=hg.fp.pln;have fG:=hg.fp.flt;have l5:=hg.fp.l9;have l2':=fG.l2;have hb:=hg.bits;have lt:=hS.lt;have hml:(G.map V.int).length=G.length:=MC _;have hL:=hP.pos;have self:=yN fG hP hS.one
  refine⟨_,(ah (ak 3 iE (am gS hr (ac (pv 0) ad)))
   (ah (aP (aG dJ (am dW hr (ac (pv 3) ad)) ae)
     (ai (aB (pv 3)))
     aR)
   (ah (ak 4 iE (am KK hr (ac (pv 3) ad)))
   (ah (ak 5 iE (am pH hr (ac (pv 3) (ac (pv 1) (ac (pv 2) (ac (pv 4) ad))))))
   (ah (ak 6 iE (am KH hr (ac (pv 3) (ac (pv 5) ad))))
   (ah (aP (aG (hZ (K:=K) rfl hu) (pv 6) (aU ad))
     (ai (aB (pv 6)))
     aR)
   (ah (aP (aG cB (am dW hr (ac (pv 3) ad)) ae)
     (ai (aB (pv 3)))
     aR)
   (ah (cT PassesOwn.never rfl (fe (K:=K) rfl (am vV hr (ac (pv 3) ad))) (aY 7 iE)
     (ah (ak 8 iE (am Ku hr (ac (pv 3) (ac (pv 5) (ac (am pH hr (ac (pv 3) (ac (aS K (pv 7) ae) (ac (aS K (pv 7) ae) (ac (pv 4) ad))))) ad)))))
       (ai (aP (PW.pt (g7 (gC (am KL hr (ac (pv 8) (ac (pv 3) ad)))) (g6 (aG cB (am vU hr (ac (am mB hr (ac (pv 8) ad)) (ac (pv 1) (ac (pv 2) ad)))) ae))))
         (ai (aB (pv 8)))
         aR))))
   (ai (aB (pv 3))))))))))),?_⟩
  refine az ⟨_,rfl,a,kF,rfl,hA,tF,by omega,λp H1 s1 hp e1=>?_⟩;rw[eG]at e1;refine cp ⟨_,rfl,p,_,rfl,e1,_,_,rfl,rfl,_,rfl,aN (λh0=>?_) (λh0=>?_)⟩
  ·have h0':((G.map V.int).length:Int)-1<2:=h0;rw[hml]at h0';exact⟨_,rfl,k G ⟨self,.inl (by omega)⟩ p H1 s1 hp e1⟩
  refine az ⟨_,rfl,p,G,kb,rfl,e1,hg,λwd H2 s2 hwd hWd hD bD=>?_⟩;have t2:=s1.trans s2;have e2:=s2 _ _ e1;obtain⟨ε,ru⟩:=sI fG en.l2p en.h2p en.lt hS.one self;refine az ⟨_,rfl,_,rfl,_,rfl,_,rfl,p,l,h,wd,G,l1,l2,h1,h2,1,8*ao G*2^kb,710,520,ε,_,rfl,e2,hP.tr,hP.ne,by omega,hb.mono,hl.same t2,hh.same t2,hWd,en,by decide,hD,eQ (by decide),bD,by decide,by decide,by decide,ru,λps x y H3 n pl x1 x2 y1 y2 s3 hps e3 hx hy nar=>?_⟩;have t3:=t2.trans s3;have ep3:=s3 _ _ e2;have N1:=yP fG en.l2p en.h2p hS.one (by decide) nar;refine az ⟨_,rfl,_,rfl,p,ps,x,y,G,kb,l1,l2,h1,h2,x1,x2,y1,y2,rfl,ep3,e3,hx,hy,hg,en.l2p,en.h2p,en.lt,hS.one,N1,λln hln pl' H4 s4 hpl e4=>?_⟩;refine cp ⟨_,rfl,MK _,λp0 hp0=>?_⟩;have s5:=Same.upd_new (o:=.lst []) hp0;refine⟨pl',p0,ln,[],rfl,rfl,SqL.of (s5 _ _ e4),SqL.of ar,_,rfl,de (λh3=>?_) (λh3=>?_)⟩
  ·have h3':ln≠[]:=h3;rcases hln with⟨z,_⟩ |⟨z,O⟩
   ·exact absurd z h3'
   ·exact⟨_,rfl,k ln ⟨O,.inl z⟩ pl' _ (t3.trans (s4.trans s5)) (t3.free hpl) (s5 _ _ e4)⟩
  have h3':ln=[]:=h3
  have hn:NoR G (af l1 l2) (af h1 h2):=by
   rcases hln with⟨_,z⟩ |⟨z,_⟩
   ·exact z
   ·rw[h3']at z;cases z
  generalize upd H4 p0 (.lst [])=H5 at s5 ⊢
  have u5:=s3.trans (s4.trans s5);have ep5:=u5 _ _ e2;refine cp ⟨_,rfl,p,_,rfl,ep5,_,_,rfl,rfl,_,rfl,aN (λh0=>?_) (λh0=>?_)⟩
  ·have h0':((G.map V.int).length:Int)-1=2:=h0;rw[hml]at h0';exact⟨_,rfl,k G ⟨self,.inr (.inl ⟨hn,by omega⟩)⟩ p H5 (t2.trans u5) hp ep5⟩
  refine⟨_,rfl,.inl ⟨p,G,rfl,ep5,hg.wk,λkb' pc ys H6 hB' s6 hpc ec hys hcov hyl hrise=>?_⟩⟩;obtain rfl:=oJ hg.isb hB';have t5:=t2.trans u5;have u6:=u5.trans s6;have hql:(qs ys).length=ys.length:=MC _;refine⟨pc,rfl,⟨_,SqL.of ec⟩,lU (K:=K) (a:=pc) (xs:=qs ys) (λi Q2 H'=>∃(z7 z8:Option V),Q2=[some (.ref a),some (.ref l),some (.ref h),some (.ref p),some (.ref wd),some (.ref ps),some (.ref pl'),z7,z8]/\Same H6 H'/\∀(j:Nat) (c:Cel),j<i->ys[j]?=some c->∀q,Od G (af l1 l2) (af h1 h2) q->q.length=3->¬(vw q c.a-vw q c.b=1/\vw q c.b≠vw q (af h1 h2))) ⟨none,none,rfl,Same.refl _,λj c hj=>absurd hj (OB _)⟩ ?_ ?_ ?_⟩
  ·rintro i Q2 H' _ ⟨z7,z8,rfl,sm,_⟩;exact SqL.of (sm _ _ ec)
  ·rintro i z Q2 H' hi ⟨z7,z8,rfl,sm,hno⟩
   have hil:i<ys.length:=by apply Classical.byContradiction;intro hn;rw[List.getElem?_eq_none_iff.mpr (by rw[hql];omega)]at hi;cases hi
   have ey:ys[i]?=some ys[i]:=List.getElem?_eq_getElem hil
   have hz:z=V.ref ys[i].q:=by
    unfold qs at hi
    rw[List.getElem?_map,ey]at hi;exact(Option.some.inj hi).symm
   subst hz;generalize hc0:ys[i]=c at *
   have hcf:=(hys c (by rw[<- hc0];exact NM hil)).nl (NL.of sm);have sc:=xv hg hcf;have dE:=sc.en;obtain⟨εc,ruc⟩:=sI fG dE.l2p dE.h2p dE.lt sc.one (yN fG hP sc.one);have u7:=u6.trans sm;have t7:=t2.trans u7;refine az ⟨_,rfl,_,rfl,_,rfl,_,rfl,c.q,_,_,_,rfl,rfl,SqT.of hcf.tup,rfl,_,rfl,c.q,_,_,_,rfl,rfl,SqT.of hcf.tup,rfl,_,rfl,p,c.lo,c.hi,wd,G,c.l1,c.l2,c.h1,c.h2,1,8*ao G*2^kb,710,520,εc,_,rfl,u7 _ _ e2,hP.tr,hP.ne,by omega,hb.mono,hcf.lo,hcf.hi,hWd.same u7,dE,by decide,hD,eQ (by decide),bD,by decide,by decide,by decide,ruc,λps' x' y' H7 n' pl7 p1 p2 q1 q2 s7 hps' e7 hx' hy' nar'=>?_⟩;have N2:=yP fG dE.l2p dE.h2p sc.one (by decide) nar';have u8:=u7.trans s7;have v8:=(s4.trans s5).trans (s6.trans (sm.trans s7));have tw:TwoS C H7 ps ps' x y x' y' x1 x2 y1 y2 p1 p2 q1 q2:=⟨v8 _ _ e3,e7,hx.same v8,hy.same v8,hx',hy',nar.ends,nar'.ends⟩;refine⟨p,ps,ps',x,y,x',y',G,x1,x2,y1,y2,p1,p2,q1,q2,rfl,u8 _ _ e2,hP,hb.mono,tw,λt1 t2' m1 m2 hS' psq H8 s8 hpsq e8=>?_⟩;have bl:=lJ hb;have trE:Tr [ao G*m1/m2,-(ao G*t1/t2'),ao G]:=(tr_snoc (r:=[ao G*m1/m2,-(ao G*t1/t2')])).mpr (by omega);have hPE:=gE trE (by simp);have hlE:(au [ao G*m1/m2,-(ao G*t1/t2'),ao G]).length=3:=RM.plain_len _
   have bE:AllB 8700 (au [ao G*m1/m2,-(ao G*t1/t2'),ao G]):=by
    refine lc λv hv=>?_
    rcases MG.mp hv with rfl |hv
    ·exact Bits.of_le ((bl.mul hS'.mx.b1).mono (k:=8700) (by decide)) (O6 _ _)
    rcases MG.mp hv with rfl |hv
    ·exact(Bits.of_le ((bl.mul hS'.bt).mono (k:=8700) (by decide)) (O6 _ _)).neg
    ·rw[MH.mp hv];exact bl.mono
   have fell:∀q,Od G (af l1 l2) (af h1 h2) q->q.length=3->vw q c.a-vw q c.b=1/\vw q c.b≠vw q (af h1 h2)->au [ao G*m1/m2,-(ao G*t1/t2'),ao G]=q:=λq O h3q hq=>Ck hS sc N1 N2 O h3q hq.1 hq.2 hS'
   generalize au [ao G*m1/m2,-(ao G*t1/t2'),ao G]=Es at e8 hPE hlE bE fell
   have u9:=u8.trans s8;have t9:=t2.trans u9
   have next:∀H',Same H8 H'->(∀q,Od G (af l1 l2) (af h1 h2) q->q.length=3->¬(vw q c.a-vw q c.b=1/\vw q c.b≠vw q (af h1 h2)))->∃(z7 z8:Option V),[some (V.ref a),some (V.ref l),some (V.ref h),some (V.ref p),some (V.ref wd),some (V.ref ps),some (V.ref pl'),some (V.ref c.q),some (V.ref psq)]=[some (V.ref a),some (V.ref l),some (V.ref h),some (V.ref p),some (V.ref wd),some (V.ref ps),some (V.ref pl'),z7,z8]/\Same H6 H'/\∀(j:Nat) (c:Cel),j<i+1->ys[j]?=some c->∀q,Od G (af l1 l2) (af h1 h2) q->q.length=3->¬(vw q c.a-vw q c.b=1/\vw q c.b≠vw q (af h1 h2)):=λH' s' hn'=>⟨_,_,rfl,sm.trans (s7.trans (s8.trans s')),λj c' hj ej=>by
    rcases Nat.lt_or_eq_of_le (Nat.lt_succ_iff.mp hj)with v |v
    ·exact hno j c' v ej
    ·subst v;rw[ey]at ej
     rw[<- Option.some.inj ej];exact hn'⟩
   refine gB ⟨_,rfl,_,rfl,p,psq,G,Es,8700,rfl,u9 _ _ e2,e8,hPE.ne,hb.mono,bE,by have:(G.length+2)*(8700+1)<=11*8701:=NJ _ (by omega);omega,by omega,λH9 s9=>?_⟩;refine⟨_,rfl,aN (λhd=>?_) (λhd=>?_)⟩
   ·have hd':bj G Es=[]:=hd;have dE':Dv Es G:=Jq hPE.ne hPE.tr hd';have fE:Flt Es:=fG.dv hPE.tr (by omega) (by omega) dE';obtain⟨rn,_,r3⟩:Run 9 (al Es) (al (slopeL Es))/\RM.Ends 9 (al Es) (al (slopeL Es))/\∀xs∈bR 9 (al Es) (al (slopeL Es)),Okr xs:=sE 9 _ _ 8700 8704 2 (by rw[kG,hlE]) (by decide) (by rw[kG,xF,hlE];decide) (by decide) (fF hPE.tr) (fF (pP hPE.tr)) (iB bE) (iB (qA bE (by omega))) (by decide) (by decide)
    have rx:∀xs∈cJ Es,xs.length<=20/\AllB 99500 xs:=λxs hx=>by obtain⟨_,b,l⟩:=r3 xs hx;exact⟨by omega,b.mono⟩
    have rl:(cJ Es).length<=1000000:=by have:=nD 9 (al Es) (al (slopeL Es));show(bR 9 _ _).length<=_;omega
    refine⟨_,rfl,psq,Es,9,rfl,s9 _ _ e8,hPE.tr,bE.mono,by omega,by decide,rn,λlr rs H10 s10 hlr hnew el hR=>?_⟩;have t10:=(t9.trans s9).trans s10;have hR':RwH H10 rs (cJ Es):=hR;refine⟨_,rfl,_,rfl,lr,l,h,rs,cJ Es,l1,l2,h1,h2,rfl,el,hR',hl.same t10,hh.same t10,en.bl1.mono,en.bl2.mono,en.bh1.mono,en.bh2.mono,rx,rl,λH11 s11=>⟨_,_,rfl,rfl,_,rfl,aN (λh4=>?_) (λh4=>?_)⟩⟩
    ·have h4':VV Es l1 l2-VV Es h1 h2=1:=h4;rw[iu en.l2p,iu en.h2p]at h4';have w11:=s9.trans (s10.trans s11);refine bC ⟨_,rfl,?_⟩;exact k Es ⟨⟨hPE,fE,dE',h4'⟩,.inr (.inl ⟨hn,hlE⟩)⟩ psq H11 (t9.trans w11) ((t2.trans u8).free hpsq) (w11 _ _ e8)
    ·have h4':¬VV Es l1 l2-VV Es h1 h2=1:=h4;rw[iu en.l2p,iu en.h2p]at h4';refine next _ (s9.trans (s10.trans s11)) λq O h3q hq=>h4' ?_
     rw[fell q O h3q hq];exact O.one
   ·have hd':¬bj G Es=[]:=hd;refine dA (next _ s9 λq O h3q hq=>hd' ?_);rw[fell q O h3q hq];exact O.dv.rest O.pln.ne O.pln.tr
  ·rintro Q2 H' ⟨z7,z8,rfl,sm,hno⟩
   have hq:NoQ G (af l1 l2) (af h1 h2):=λq pq h3q dq oq=>by
    have Oq:Od G (af l1 l2) (af h1 h2) q:=⟨pq,fG.dv pq.tr (by omega) (by omega) dq,dq,oq⟩;obtain⟨f1,f2⟩:=hg.far;obtain⟨b1,b2⟩:=zp kb;rw[b1,b2]at hcov
    obtain⟨c,hc,c1,c2⟩:=EK (cs:=ys.map λy=>(y.a,y.b)) fG Oq h3q (N7 (by decide)) f1 f2 (List.pairwise_map.mpr (by have h:=hrise;unfold d7 at h;exact h)) (λc hc=>by
     obtain⟨y,hy,rfl⟩:=M8.mp hc;have fy:=hys y hy;obtain⟨i1,i2,_⟩:=oS fy.dy
     exact⟨ie fy.dy,fy.one,i1,i2⟩) (by rw[MC];exact hcov)
    obtain⟨y,hy,rfl⟩:=M8.mp hc;obtain⟨j,hj,ej⟩:=OS.mp hy;exact hno j y (by rw[hql];exact hj) (by rw[<- ej];exact List.getElem?_eq_getElem hj) q Oq h3q ⟨c1,c2⟩
   have ep6:=(s6.trans sm) _ _ ep5;have l4:¬((G.map V.int).length:Int)-1=2:=h0;exact⟨_,rfl,k G ⟨self,.inr (.inr ⟨hn,hq,rfl⟩)⟩ p H' (t5.trans (s6.trans sm)) hp ep6⟩
def LS.sub{G p:Ex}{l h x y:Rat}(hG:Flt G)(lt:l<h)(o:vw G l-vw G h=1)(L:LS G l h p)(lx:l<=x)(xy:x<y)(yh:y<=h)(ex:vw G x=vw G l)(ey:vw G y=vw G h):LS G x y p:=by
 have C:=L.od.flt.cnt
 have px:∀{q:Ex},Od G l h q->vw q x=vw q l/\vw q y=vw q h:=λ{q} O=>by
  have a:=(f6 hG lt o O lx (MX (MF xy) yh)).mpr ex;have b:=f6 hG lt o O (MX lx (MF xy)) yh;have n:¬vw G y=vw G l:=λz=>by omega
  have n':¬vw q y=vw q l:=λz=>n (b.mp z)
  have c1:=O.flt.cnt.le (MX lx (MF xy));have c2:=O.flt.cnt.le yh;have:=O.one;exact⟨a,by omega⟩
 have nr:NoR G l h->NoR G x y:=λn r r1 r2=>n r (by grind) (by grind)
 obtain⟨e1,e2⟩:=px L.od;have o1:=L.od.one;refine⟨⟨L.od.pln,L.od.flt,L.od.dv,by omega⟩,?_⟩;rcases L.kd with z |⟨z1,z2⟩ |⟨z1,z2,z3⟩
 ·exact .inl z
 ·exact .inr (.inl ⟨nr z1,z2⟩)
 ·refine .inr (.inr ⟨nr z1,λq pq h3 dq oq=>z2 q pq h3 dq ?_,z3⟩);have fq:Flt q:=hG.dv pq.tr (by omega) (by omega) dq;have k:=hG.le fq dq lt;have c1:=fq.cnt.le lx;have c2:=fq.cnt.le yh;omega
structure Hv(l1 l2 h1 h2:Int)(d:Nat)(u1 u2 v1 v2:Int):Prop where
 u2p:0<u2
 v2p:0<v2
 gu:Nat.gcd u1.natAbs u2.natAbs=1
 gv:Nat.gcd v1.natAbs v2.natAbs=1
 at':∃m:Int,0<=m/\m+1<=2^d/\u1*(l2*h2*2^d)=(l1*h2*2^d+(h1*l2-l1*h2)*m)*u2/\v1*(l2*h2*2^d)=(l1*h2*2^d+(h1*l2-l1*h2)*(m+1))*v2
def Hv.start{k:Nat}{l1 l2 h1 h2:Int}(en:EndsG k l1 l2 h1 h2):Hv l1 l2 h1 h2 0 l1 l2 h1 h2:=⟨en.l2p,en.h2p,en.gl,en.gh,0,NZ _,by decide,by rw[Nq];grind,by rw[Nq];grind⟩
def Hv.half{kk d n pl:Nat}{l1 l2 h1 h2 u1 u2 v1 v2 w1 w2 x1 x2 y1 y2:Int}{Up:Int->Int->Prop}(h:Hv l1 l2 h1 h2 d u1 u2 v1 v2)(l2p:0<l2)(h2p:0<h2)(lt:u1*v2<v1*u2)(w1p:0<w1)(hw:w1*(v2*u2*2)=(v1*u2-u1*v2)*w2)(N:NarP u1 u2 v1 v2 w1 w2 Up kk n pl x1 x2 y1 y2):Hv l1 l2 h1 h2 (d+1) x1 x2 y1 y2:=by
 have u2p:=h.u2p;have v2p:=h.v2p;have vu:0<v2*u2:=MO v2p u2p;have wv:0<w1*(v2*u2):=MO w1p vu
 have n1:n=1:=by
  have f:=N.fit;rw[<- hw]at f;have e:w1*(v2*u2*2)=w1*(v2*u2)*2:=by grind
  rw[e]at f;have n0:n≠0:=λz=>by rw[z,Nq]at f;omega
  have n2:¬1<n:=λz=>by have b:=N.big 1 z;rw[<- hw,e,Int.pow_one]at b;omega
  omega
 subst n1;have hpl:=N.pls;obtain⟨m,m0,m1,e1,e2⟩:=h.at';have ex:=N.ex;have ey:=N.ey;rw[Int.pow_one]at ex ey;have hc:(0:Int)<u2*v2:=MO u2p v2p;refine⟨N.ends.l2p,N.ends.h2p,N.ends.gl,N.ends.gh,2*m+(pl:Int),by omega,?_,?_,?_⟩
 ·rw[M6];have hpl':pl<2:=hpl;omega
 ·rw[M6];refine OG (M7 hc) ?_;generalize (2:Int)^d=D at *
  generalize hL:l2*h2=L at *
  have a1:u2*v2*(x1*(L*(D*2)))=(x1*(u2*v2*2))*(L*D):=by grind
  have a2:(u1*v2*2+(v1*u2-u1*v2)*(pl:Int))*x2*(L*D)=((u1*(L*D))*v2*2+((v1*(L*D))*u2-(u1*(L*D))*v2)*(pl:Int))*x2:=by grind
  rw[a1,ex,a2,e1,e2];grind
 ·rw[M6];refine OG (M7 hc) ?_;generalize (2:Int)^d=D at *
  generalize hL:l2*h2=L at *
  have a1:u2*v2*(y1*(L*(D*2)))=(y1*(u2*v2*2))*(L*D):=by grind
  have a2:(u1*v2*2+(v1*u2-u1*v2)*((pl:Int)+1))*y2*(L*D)=((u1*(L*D))*v2*2+((v1*(L*D))*u2-(u1*(L*D))*v2)*((pl:Int)+1))*y2:=by grind
  rw[a1,ey,a2,e1,e2];grind
def zm{t b p q:Int}{k:Nat}(hb:0<b)(hq:0<q)(hg:Nat.gcd t.natAbs b.natAbs=1)(e:t*q=p*b)(bp:Bits k p)(bq:Bits k q):Bits k t/\Bits k b:=by
 have d1:(b.natAbs:Nat)∣q.natAbs:=by
  refine Nat.Coprime.dvd_of_dvd_mul_left (k:=b.natAbs) (m:=t.natAbs) (n:=q.natAbs) ?_ ?_
  ·rw[Nat.coprime_comm];exact hg
  ·rw[<- MW,e,MW];exact Nat.dvd_mul_left _ _
 obtain⟨c,hc⟩:=d1;have c0:0<c:=Nat.pos_of_ne_zero λz=>by rw[z]at hc;omega
 refine⟨?_,Bits.of_le bq (Nat.le_of_dvd (by omega) ⟨c,hc⟩)⟩;have e2:t.natAbs*q.natAbs=p.natAbs*b.natAbs:=by rw[<- MW,e,MW]
 rw[hc]at e2
 have e3:b.natAbs*(t.natAbs*c)=b.natAbs*p.natAbs:=by
  have:t.natAbs*(b.natAbs*c)=b.natAbs*(t.natAbs*c):=by grind
  rw[<- this,e2,Nat.mul_comm]
 have e4:t.natAbs*c=p.natAbs:=O3 (by omega) e3;refine Bits.of_le bp ?_;rw[<- e4];exact OR _ c0
def Ei{d:Nat}(h:d<=130):Bits 131 ((2:Int)^d):=by
 show((2:Int)^d).natAbs<2^131;have e:((2:Int)^d).natAbs=2^d:=by rw[Int.natAbs_pow];rfl
 rw[e];exact(OJ (by decide)).mpr (by omega)
def Hv.en{d:Nat}{l1 l2 h1 h2 u1 u2 v1 v2:Int}(en:EndsG 250 l1 l2 h1 h2)(h:Hv l1 l2 h1 h2 d u1 u2 v1 v2)(hd:d<=130):EndsG 710 u1 u2 v1 v2:=by
 obtain⟨m,m0,m1,e1,e2⟩:=h.at';have bD:=Ei hd;have D0:(0:Int)<2^d:=NQ (by decide);have lh:0<l2*h2:=MO en.l2p en.h2p;have q0:0<l2*h2*2^d:=MO lh D0;have bq:Bits 640 (l2*h2*2^d):=((en.bl2.mul en.bh2).mul bD).mono;have bW:Bits 502 (h1*l2-l1*h2):=((en.bh1.mul en.bl2).mono).sub ((en.bl1.mul en.bh2).mono);have bm:∀j:Int,0<=j->j<=2^d->Bits 131 j:=λj j0 j1=>Bits.of_le bD (by omega)
 have bp:∀j:Int,0<=j->j<=2^d->Bits 640 (l1*h2*2^d+(h1*l2-l1*h2)*j):=λj j0 j1=>(Bits.add (k:=638) (((en.bl1.mul en.bh2).mul bD).mono) ((bW.mul (bm j j0 j1)).mono)).mono
 obtain⟨a1,a2⟩:=zm h.u2p q0 h.gu e1 (bp m m0 (by omega)) bq;obtain⟨b1,b2⟩:=zm h.v2p q0 h.gv e2 (bp (m+1) (by omega) m1) bq;refine⟨h.u2p,h.v2p,a1.mono,a2.mono,b1.mono,b2.mono,?_,h.gu,h.gv⟩;have W0:=en.lt;have u2p:=h.u2p;have v2p:=h.v2p;generalize l2*h2*2^d=Z at *
 refine O5 (a:=Z) ?_ (Nd q0);have k1:Z*(u1*v2)=(u1*Z)*v2:=by grind
 have k2:Z*(v1*u2)=(v1*Z)*u2:=by grind
 rw[k1,k2,e1,e2];have k3:=MO (show 0<h1*l2-l1*h2 by omega) (MO u2p v2p);grind
def Hv.wide{d:Nat}{l1 l2 h1 h2 u1 u2 v1 v2:Int}(l2p:0<l2)(h2p:0<h2)(h:Hv l1 l2 h1 h2 d u1 u2 v1 v2):(af v1 v2-af u1 u2)*2^d=af h1 h2-af l1 l2:=by
 obtain⟨m,m0,m1,e1,e2⟩:=h.at';have q1:=fh (t:=u1) h.u2p;have q2:=fh (t:=v1) h.v2p;have q3:=fh (t:=l1) l2p;have q4:=fh (t:=h1) h2p;have pu:(0:Rat)<(u2:Rat):=MP.mpr h.u2p;have pv:(0:Rat)<(v2:Rat):=MP.mpr h.v2p;have pl:(0:Rat)<(l2:Rat):=MP.mpr l2p;have ph:(0:Rat)<(h2:Rat):=MP.mpr h2p;have f1:=congrArg (λz:Int=>(z:Rat)) e1;have f2:=congrArg (λz:Int=>(z:Rat)) e2;simp only[MD,Ni,NH,iy]at f1 f2;rw[show((1:Int):Rat)=1 from rfl]at f2;rw[<- q1,<- q3,<- q4]at f1;rw[<- q2,<- q3,<- q4]at f2;generalize af u1 u2=a at *
 generalize af v1 v2=b at *
 generalize af l1 l2=x at *
 generalize af h1 h2=y at *
 generalize (2:Rat)^d=D at *
 generalize (m:Rat)=n at *
 generalize (u2:Rat)=U at *
 generalize (v2:Rat)=V' at *
 generalize (l2:Rat)=L at *
 generalize (h2:Rat)=H' at *
 have g1:(U*(L*H'))*(a*D-(x*D+(y-x)*n))=0:=by grind
 have g2:(V'*(L*H'))*(b*D-(x*D+(y-x)*(n+1)))=0:=by grind
 have r1:a*D=x*D+(y-x)*n:=by
  rcases MQ.mp g1 with z |z
  ·have:=ML pu (ML pl ph);grind
  ·grind
 have r2:b*D=x*D+(y-x)*(n+1):=by
  rcases MQ.mp g2 with z |z
  ·have:=ML pv (ML pl ph);grind
  ·grind
 grind
def Il{G:Ex}(g:Fp G){u v:Rat}(lt:u<v)(w:(v-u)*96<1)(o:vw G u-vw G v=1)(hz:pv G u=0):False:=by
 have C:=g.flt.cnt;have few:=g.few (u-(v-u)) v (by grind) (by grind);have n:=C.mono (show u-(v-u)<u by grind);have ne:vw G (u-(v-u))≠vw G u:=λq=>C.free (show u-(v-u)<u by grind) q (show u-(v-u)<u by grind) ME hz
 omega
def NmH(C CN:Addr)(H:Hp)(x:Addr)(p:Ex)(l1 l2 h1 h2:Int):Prop:=∃q l h,NA CN H x q l h/\H q=some (.lst (p.map V.int))/\RA C H l l1 l2/\RA C H h h1 h2
def NmH.same{C CN:Addr}{H H':Hp}{x:Addr}{p:Ex}{l1 l2 h1 h2:Int}(n:NmH C CN H x p l1 l2 h1 h2)(s:Same H H'):NmH C CN H' x p l1 l2 h1 h2:=by obtain⟨q,l,h,a,b,c,d⟩:=n;exact⟨q,l,h,a.same s,s _ _ b,c.same s,d.same s⟩
structure Nm(G:Ex)(kb:Nat)(p:Ex)(l1 l2 h1 h2:Int):Prop where
 sn:Sn G kb l1 l2 h1 h2
 ls:LS G (af l1 l2) (af h1 h2) p
 ne:pv p (af l1 l2)≠0
def HI{u1 u2 v1 v2:Int}(u2p:0<u2)(v2p:0<v2)(lt:u1*v2<v1*u2):0<rt (rt (v1*u2-u1*v2) (v2*u2)*1) (rb (v1*u2-u1*v2) (v2*u2)*2)/\0<rb (rt (v1*u2-u1*v2) (v2*u2)*1) (rb (v1*u2-u1*v2) (v2*u2)*2)/\rt (rt (v1*u2-u1*v2) (v2*u2)*1) (rb (v1*u2-u1*v2) (v2*u2)*2)*(v2*u2*2)=(v1*u2-u1*v2)*rb (rt (v1*u2-u1*v2) (v2*u2)*1) (rb (v1*u2-u1*v2) (v2*u2)*2):=by
 have vu:0<v2*u2:=MO v2p u2p;have d0:v2*u2≠0:=by omega
 have c1:=fJ (t:=v1*u2-u1*v2) d0;have p1:=df (t:=v1*u2-u1*v2) d0;have D:0<v1*u2-u1*v2:=by omega
 generalize v1*u2-u1*v2=X at *
 generalize rt X (v2*u2)=a at *
 generalize rb X (v2*u2)=b at *
 have d1:b*2≠0:=by omega
 have c2:=fJ (t:=a*1) d1;have p2:=df (t:=a*1) d1;have a0:0<a:=ml vu (by rw[NN,c1];exact MO D p1);generalize rt (a*1) (b*2)=e at *
 generalize rb (a*1) (b*2)=f at *
 have e0:0<e:=ml (c:=b*2) (by omega) (by rw[NN,c2,Nl];exact MO a0 p2);refine⟨e0,p2,?_⟩;refine OG (M7 p1) ?_;have q1:b*(e*(v2*u2*2))=(e*(b*2))*(v2*u2):=by grind
 have q2:b*(X*f)=(X*b)*f:=by grind
 rw[q1,q2,c2,<- c1];grind
def qj(C CN:Addr):Sp:=λvs H Q _=>∃(a l h:Addr) (G:Ex) (kb:Nat) (l1 l2 h1 h2:Int),vs=[.ref a,.ref l,.ref h]/\H a=some (.lst (G.map V.int))/\RA C H l l1 l2/\RA C H h h1 h2/\Sn G kb l1 l2 h1 h2/\EndsG 250 l1 l2 h1 h2/\af h1 h2-af l1 l2<=2^120 /\
 ∀(x:Addr) (p:Ex) (x1 x2 y1 y2:Int) (H':Hp),Same H H'->H x=none->NmH C CN H' x p x1 x2 y1 y2->Nm G kb p x1 x2 y1 y2->vw G (af x1 x2)=vw G (af l1 l2)->vw G (af y1 y2)=vw G (af h1 h2)->Q (.ref x) H'
def Fh(F:Fun K "number_in" "number_in" re f fd)(T:Txt K mg)(R:RCI K mg C)(vT:Cal P w K mg base 37 "least" ["row","low","high"] (qq C) Ja IA)(jf:Cal P w K mg base 2 "sign_at" ["row","ratio"] (ky C) uI uz)(pH:Cal P w K mg base 6 "narrowed" ["row","low","high","width"] (ql C) I9 Iz)(v7:MCal P w K mg base 4 C "minus" ["self","other"] (qo C) Jm IM)(jj:MCal P w K mg base 4 C "times" ["self","other"] (ku C) uN uF)(cD:KCal P w K mg base 2 C "Ratio" ["self","top","bottom"] (dH C) fk fj fm [.int 1])(K9:KCal P w K mg base 1 CN "Number" ["self","row","low","high"] (mQ CN) Mu LO Mw []):FnOk P w K mg base aD 38 f fd ["simple","low","high"] (qj C CN):=by
 obtain⟨vI,tU,vA⟩:=v7;obtain⟨gn,gb,gk⟩:=jj;obtain⟨bZ,bY,bX,cz,cY,cX⟩:=cD;obtain⟨Kp,Kl,GV,J7,MB,Mz⟩:=K9;refine F.ok kK (λvs H Q E h=>?_) (λ_ A _ s H vs Q E hr h=>?_)
 ·obtain⟨a,l,h,G,kb,l1,l2,h1,h2,rfl,_⟩:=h;rfl
 ·obtain⟨a,l,h,G,kb,l1,l2,h1,h2,rfl,hA,hl,hh,hS,e0,hw0,k⟩:=h
  refine⟨_,(ah (ak 3 kK (am vT hr (ac (pv 0) (ac (pv 1) (ac (pv 2) ad)))))
   (ah (ak 4 kK (cL (ac (pv 1) (ac (pv 2) ad))))
   (ah (gD PassesOwn.never (aG cB (am jf hr (ac (pv 3) (ac (aS K (pv 4) ae) ad))) ae)
     (ah (ak 5 kK (dC (dC (aS K (pv 4) ae) R.cl tU vI (hr.mono) vA .nil aZ (ac (aS K (pv 4) ae) ad)) R.cl gb gn (hr.mono) gk .nil aZ (ac (cG bY bZ (hr.mono) rfl bX cz .nil aZ (ac ae (ac ae ad))) ad)))
       (ai (ak 4 kK (am pH hr (ac (pv 3) (ac (aS K (pv 4) ae) (ac (aS K (pv 4) ae) (ac (pv 5) ad)))))))))
   (ai (aB (cG Kl Kp (hr.mono) rfl GV J7 .nil aZ (ac (pv 3) (ac (aS K (pv 4) ae) (ac (aS K (pv 4) ae) ad))))))))),?_⟩
  have hg:=hS.gd;have fG:=hg.fp.flt;refine az ⟨_,rfl,_,rfl,_,rfl,a,l,h,G,G,kb,l1,l2,h1,h2,rfl,hA,hg.fp.pln.tr,hg.fp.pln.plain,hl,hh,hS,λrp L p H1 s1 hp e1=>?_⟩;obtain⟨br,lr⟩:=hg.fp.sml _ _ hS.lt hS.one rp L;refine az ⟨_,rfl,_,rfl,by show 2<=sizeLine;decide,λps hps=>?_⟩;have s2:=s1.then_new (o:=.tup [V.ref l,V.ref h]) hps;have q2:upd H1 ps (.tup [V.ref l,V.ref h]) ps=some (.tup [V.ref l,V.ref h]):=ar;have e2:=(Same.upd_new (o:=.tup [V.ref l,V.ref h]) hps) _ _ e1;generalize upd H1 ps (.tup [V.ref l,V.ref h])=H2 at s2 q2 e2 ⊢
  refine⟨λm Q2 H'=>∃(pt lo hi:Addr) (u1 u2 v1 v2:Int) (d':Nat) (z5:Option V),Q2=[some (.ref a),some (.ref l),some (.ref h),some (.ref p),some (.ref pt),z5]/\Same H2 H'/\H' pt=some (.tup [.ref lo,.ref hi])/\RA C H' lo u1 u2/\RA C H' hi v1 v2/\d'<=130/\m=130-d'/\Hv l1 l2 h1 h2 d' u1 u2 v1 v2/\vw G (af u1 u2)=vw G (af l1 l2)/\vw G (af v1 v2)=vw G (af h1 h2)/\LS G (af u1 u2) (af v1 v2) rp,⟨130-0,ps,l,h,l1,l2,h1,h2,0,none,rfl,Same.refl _,q2,hl.same s2,hh.same s2,MK _,rfl,Hv.start e0,rfl,rfl,L⟩,?_⟩;rintro m Q2 H3 ⟨pt,lo,hi,u1,u2,v1,v2,d',z5,rfl,s3,q3,hlo,hhi,hd',rfl,dy,eu,ev,L'⟩;have o:=hS.one;have oc:vw G (af u1 u2)-vw G (af v1 v2)=1:=by omega
  have en:=dy.en e0 hd';have sc:Sn G kb u1 u2 v1 v2:=⟨hg,en,oc⟩;have t3:=s2.trans s3;have e3:=s3 _ _ e2;refine⟨_,rfl,_,rfl,pt,_,_,_,rfl,rfl,SqT.of q3,rfl,p,lo,rp,u1,u2,⟨rfl,e3,hlo,by omega,br.mono,en.bl1.mono,en.bl2.mono⟩,λH4 s4=>⟨_,_,rfl,rfl,_,rfl,aN (λh0=>?_) (λh0=>?_)⟩⟩
  ·have h0':sg (hv u1 u2 rp)=0:=h0;rw[eU en.l2p]at h0';have hz:pv rp (af u1 u2)=0:=Classical.byContradiction λq=>sg_ne.mpr q h0'
   have dlt:d'<130:=Nat.not_le.mp λz=>Il hg.fp sc.lt (by
    have w:=dy.wide e0.l2p e0.h2p;have ed:d'=130:=by omega
    rw[ed]at w;have e:(2:Rat)^130=2^120*1024:=by decide +kernel
    have p:(0:Rat)<2^120:=by decide +kernel
    rw[e]at w;generalize af v1 v2-af u1 u2=W at *
    generalize af h1 h2-af l1 l2=W' at *
    generalize (2:Rat)^120=Z at *
    refine Nx.mp λq=>?_
    have:=Nw q (MF p)
    grind) oc (ma L'.od.dv hz)
   refine⟨_,λ_ _ h=>h,?_⟩;have q4:=s4 _ _ q3;have hlo4:=hlo.same s4;have hhi4:=hhi.same s4;obtain⟨dh,hhi'⟩:=id hhi4;refine az ⟨_,rfl,pt,_,_,_,rfl,rfl,SqT.of q4,rfl,hi,dh,_,rfl,hhi',dk ot.1 ot.2,_,rfl,pt,_,_,_,rfl,rfl,SqT.of q4,rfl,hi,lo,v1,v2,u1,u2,710,710,rfl,hhi4,hlo4,en.bh1.mono,en.bh2,en.bl1.mono,en.bl2,by decide,en.h2p,en.l2p,λr H5 s5 hr5 hR=>?_⟩;obtain⟨dr,hR'⟩:=id hR;obtain⟨w1p,w2p,hw⟩:=HI en.l2p en.h2p en.lt;have d0:v2*u2≠0:=M7 (MO en.h2p en.l2p);have br1:Bits 1421 (rt (v1*u2-u1*v2) (v2*u2)):=eW d0 (Bits.sub ((en.bh1.mul en.bl2).mono) ((en.bl1.mul en.bh2).mono));have br2:Bits 1421 (rb (v1*u2-u1*v2) (v2*u2)):=eY d0 ((en.bh2.mul en.bl2).mono);have rp0:=df (t:=v1*u2-u1*v2) d0;refine⟨r,dr,_,rfl,hR',dk dY.1 dY.2,?_⟩;have b2:Bits 2 (2:Int):=by show(2:Int).natAbs<2^2;decide
   refine di (t:=1) (b:=2) (by decide) (b2.mono) λhf H6 s6 hx6 hF=>?_
   have e12:rt 1 2=1/\rb 1 2=2:=⟨by decide,by decide⟩;rw[e12.1,e12.2]at hF;refine⟨r,hf,_,_,1,2,1421,2,rfl,hR.same s6,hF,br1.mono,br2,eQ (by decide),b2,by decide,rp0,by decide,λwd H7 s7 hwd hW=>?_⟩;have bw1:Bits 1430 (rt (rt (v1*u2-u1*v2) (v2*u2)*1) (rb (v1*u2-u1*v2) (v2*u2)*2)):=eW (by omega) (by rw[Nl];exact br1.mono);have bw2:Bits 1430 (rb (rt (v1*u2-u1*v2) (v2*u2)*1) (rb (v1*u2-u1*v2) (v2*u2)*2)):=eY (by omega) ((br2.mul b2).mono);generalize rt (rt (v1*u2-u1*v2) (v2*u2)*1) (rb (v1*u2-u1*v2) (v2*u2)*2)=w1 at *
   generalize rb (rt (v1*u2-u1*v2) (v2*u2)*1) (rb (v1*u2-u1*v2) (v2*u2)*2)=w2 at *
   have u7:=s4.trans (s5.trans (s6.trans s7));obtain⟨ε,ru⟩:=sI fG en.l2p en.h2p en.lt oc L'.od;have e7:=u7 _ _ e3;have q7:=u7 _ _ q3;refine⟨_,rfl,_,rfl,pt,_,_,_,rfl,rfl,SqT.of q7,rfl,_,rfl,pt,_,_,_,rfl,rfl,SqT.of q7,rfl,_,rfl,p,lo,hi,wd,rp,u1,u2,v1,v2,w1,w2,710,1430,ε,_,rfl,e7,L'.od.pln.tr,L'.od.pln.ne,by omega,br.mono,hlo.same u7,hhi.same u7,hW,en,w1p,w2p,bw1,bw2,by decide,by decide,by decide,ru,λpn xa ya H8 n pl x1 x2 y1 y2 s8 hpn e8 hxa hya nar=>?_⟩;have dy8:=dy.half e0.l2p e0.h2p en.lt w1p hw nar;have en8:=nar.ends;have lo8:=(ia en.l2p en8.l2p).mpr nar.lo;have hi8:=(ia en8.h2p en.h2p).mpr nar.hi;have xy8:=(cV en8.l2p en8.h2p).mpr en8.lt;have ux8:vw G (af x1 x2)=vw G (af u1 u2):=nar.ux
   have uy8:vw G (af y1 y2)=vw G (af v1 v2):=by have n':¬vw G (af y1 y2)=vw G (af u1 u2):=nar.uy;have a:=fG.cnt.le (MX lo8 (MF xy8));have b:=fG.cnt.le hi8;omega
   exact⟨130-(d'+1),by omega,pn,xa,ya,x1,x2,y1,y2,d'+1,_,rfl,s3.trans (u7.trans s8),e8,hxa,hya,by omega,rfl,dy8,by omega,by omega,LS.sub fG sc.lt oc L' lo8 xy8 hi8 ux8 uy8⟩
  ·have h0':¬sg (hv u1 u2 rp)=0:=h0;rw[eU en.l2p]at h0';have q4:=s4 _ _ q3;have e4:=s4 _ _ e3;have t4:=t3.trans s4;dsimp only
   refine bC ⟨_,rfl,_,rfl,pt,_,_,_,rfl,rfl,SqT.of q4,rfl,_,rfl,pt,_,_,_,rfl,rfl,SqT.of q4,rfl,GS e4 λx q H5 s5 hx hNA hq hqn=>?_⟩;exact k x rp u1 u2 v1 v2 H5 (t4.trans s5) (t4.free hx) ⟨q,lo,hi,hNA,hq,hlo.same (s4.trans s5),hhi.same (s4.trans s5)⟩ ⟨sc,L',sg_ne.mp h0'⟩ eu ev
def Bn{G:Ex}(h:Fp G):Wk G:=⟨h.pln.tr,h.flt.l2,h.l9,h.bits,λkb hB=>⟨(Gd.mk h hB).k110,λx y hxy=>h.flt.cnt.mono hxy,h.few,(Gd.mk h hB).k110⟩⟩
theorem Cov.at{V:Rat->Int}:∀{cs:List (Rat×Rat)} {lo hi:Rat},Cov V cs lo hi->(∀c∈cs,V c.1-V c.2=1)->∀(i:Nat) (c:Rat×Rat),cs[i]?=some c->V lo-V c.1=i/\V lo-V c.2=i+1
 |_,_,_,.nil e,_,i,c,h=>by simp at h
 |_,_,_,.cons (a:=a) (b:=b) ab e h,h1,i,c,hc=>by
  have k:=h1 (a,b) (M0 ..);dsimp only at k
  cases i with
  |zero =>
   obtain rfl:(a,b)=c:=by simpa using hc
   dsimp only
   constructor
   ·show _=(0:Int);omega
   ·show _=(0:Int)+1;omega
  |succ i =>
   have:=Cov.at h (λd hd=>h1 d (MV _ hd)) i c (by simpa using hc);have e2:((i+1:Nat):Int)=(i:Int)+1:=by omega
   rw[e2];omega
structure RtH(C CN:Addr)(H:Hp)(G:Ex)(kb:Nat)(xs:List Addr):Prop where
 len:(xs.length:Int)=vw G (-(2^kb))-vw G (2^kb)
 at':∀(i:Nat) (x:Addr),xs[i]?=some x->∃(p:Ex) (l1 l2 h1 h2:Int),NmH C CN H x p l1 l2 h1 h2/\Nm G kb p l1 l2 h1 h2/\vw G (-(2^kb))-vw G (af l1 l2)=i/\vw G (-(2^kb))-vw G (af h1 h2)=i+1
def RtH.same{C CN:Addr}{H H':Hp}{G:Ex}{kb:Nat}{xs:List Addr}(h:RtH C CN H G kb xs)(s:Same H H'):RtH C CN H' G kb xs:=⟨h.len,λi x hx=>by obtain⟨p,l1,l2,h1,h2,a,b⟩:=h.at' i x hx;exact⟨p,l1,l2,h1,h2,a.same s,b⟩⟩
def JP{C:Addr}{H:Hp}{G:Ex}{kb:Nat}{c:Cel}(g:Gd G kb)(h:FdH C H G kb c):EndsG 250 c.l1 c.l2 c.h1 c.h2:=by obtain⟨b1,b2,b3,b4⟩:=lZ h.dy g.k110 h.dd;exact⟨h.dy.l2p,h.dy.h2p,b1,b2,b3,b4,(cV h.dy.l2p h.dy.h2p).mp (ie h.dy),h.dy.gl,h.dy.gh⟩
def JO{C:Addr}{H:Hp}{G:Ex}{kb:Nat}{c:Cel}(g:Gd G kb)(h:FdH C H G kb c):af c.h1 c.h2-af c.l1 c.l2<=2^120:=by
 obtain⟨i1,i2,_⟩:=oS h.dy;have v:=pN g.k110;have e:(2:Rat)^120=2^110*1024:=by decide +kernel
 have p:(0:Rat)<2^110:=by decide +kernel
 rw[e];generalize (2:Rat)^110=Z at *
 grind
def wW(C CN:Addr):Sp:=λvs H Q _=>∃(a:Addr) (F:Ex),vs=[.ref a]/\H a=some (.lst (F.map V.int))/\Drw F/\Fp (au F)/\∀(kb:Nat) (p:Addr) (xs:List Addr) (H':Hp),Gd (au F) kb->Same H H'->H p=none->H' p=some (.lst (xs.map V.ref))->RtH C CN H' (au F) kb xs->Q (.ref p) H'
def Fb(F:Fun K "roots" "roots" qY f fd)(T:Txt K mg)(R:RCI K mg C)(vP:Cal P w K mg base 1 "refuse_high" ["height"] qd IY Iw)(dW:Cal P w K mg base 1 "degree" ["row"] iz lY lW)(vL:Cal P w K mg base 36 "without_squares" ["row"] pU IS Im)(vQ:Cal P w K mg base 1 "refuse_great" ["row"] qf IZ Ix)(vV:Cal P w K mg base 36 "cells" ["row"] (qw C) Je IE)(vR:Cal P w K mg base 38 "number_in" ["simple","low","high"] (qj C CN) I0 Iy):FnOk P w K mg base aD 39 f fd ["row"] (wW C CN):=by
 refine F.ok xP (λvs H Q E h=>?_) (λ_ A _ s H vs Q E hr h=>?_)
 ·obtain⟨a,kp,rfl,_⟩:=h;rfl
 ·obtain⟨a,kp,rfl,hA,hD,fp,k⟩:=h;have big:=sizeLine_eq;have hml:(kp.map V.int).length=kp.length:=MC _
  refine⟨_,(ah (dU (am vP hr (ac (am dW hr (ac (pv 0) ad)) ad)))
   (ah (ak 1 xP (am vL hr (ac (pv 0) ad)))
   (ah (dU (am vQ hr (ac (pv 1) ad)))
   (ai (aB (f8 (own:=["cell"]) (fr:=["simple"]) (js:=[1]) (by walk_at "comp_ok") rfl (fe (K:=K) rfl (am vV hr (ac (pv 1) ad))) (λ_ _ _ _=>(fM (i:=0) (show List.Nodup (["cell","simple"]:List Str)from by decide +kernel) rfl (Or.inl rfl))) (λ_ _ _ _=>(am vR hr (ac (pv 1) (ac (aS K (pv 0) ae) (ac (aS K (pv 0) ae) ad))))))))))),?_⟩
  refine gA ⟨_,rfl,a,_,rfl,hA,_,rfl,by rw[hml];have:=hD.l9;omega,?_⟩;refine az ⟨_,rfl,a,kp,rfl,hA,hD,λpw H1 s1 hpw e1=>?_⟩;generalize au kp=G at fp e1 k
  have l5:=fp.l9;have bG:=fp.bits;refine gA ⟨_,rfl,pw,G,rfl,e1,by omega,bG.mono,λH2 s2=>?_⟩;have t2:=s1.trans s2;have e2:=s2 _ _ e1;refine bC ⟨_,rfl,.inl ⟨pw,G,rfl,e2,Bn fp,λkb pc ys H3 hB s3 hpc ec hys hcov hyl hri=>?_⟩⟩;have hg:Gd G kb:=⟨fp,hB⟩;have t3:=t2.trans s3;have hql:(qs ys).length=ys.length:=MC _;obtain⟨b1,b2⟩:=zp kb;rw[b1,b2]at hcov;have p2:(0:Rat)<2^kb:=N7 (by decide)
  have cv:=Cov.at (uV fp.flt.cnt (ys.map λy=>(y.a,y.b)) (lo := -(2^kb)) (hi:=2^kb) (by grind) (List.pairwise_map.mpr (by have h:=hri;unfold d7 at h;exact h)) (λc hc=>by
   obtain⟨y,hy,rfl⟩:=M8.mp hc;have fy:=hys y hy;obtain⟨i1,i2,_⟩:=oS fy.dy
   exact⟨ie fy.dy,fy.one,i1,i2⟩) (by rw[MC];exact hcov)) (λc hc=>by
   obtain⟨y,hy,rfl⟩:=M8.mp hc
   exact(hys y hy).one)
  refine⟨pc,rfl,⟨_,SqL.of ec⟩,i7 (K:=K) (a:=pc) (xs:=qs ys) (λi vs Q2 H'=>∃(z0:Option V) (xs:List Addr),Q2=[z0,some (.ref pw)]/\vs=xs.map V.ref/\Same H3 H'/\xs.length=i/\∀(j:Nat) (x:Addr),xs[j]?=some x->∃(p:Ex) (l1 l2 h1 h2:Int),NmH C CN H' x p l1 l2 h1 h2/\Nm G kb p l1 l2 h1 h2/\vw G (-(2^kb))-vw G (af l1 l2)=j/\vw G (-(2^kb))-vw G (af h1 h2)=j+1) (by rw[hql];omega) ⟨none,[],rfl,rfl,Same.refl _,rfl,λj x h=>by simp at h⟩ ?_ ?_ ?_⟩
  ·rintro i vs Q2 H' _ ⟨z0,xs,rfl,rfl,sm,hxl,_⟩;exact⟨SqL.of (sm _ _ ec),by rw[MC,hxl];exact MI _⟩
  ·rintro i z vs Q2 H' hi ⟨z0,xs,rfl,rfl,sm,hxl,hN⟩
   have hil:i<ys.length:=by apply Classical.byContradiction;intro hn;rw[List.getElem?_eq_none_iff.mpr (by rw[hql];omega)]at hi;cases hi
   have ey:ys[i]?=some ys[i]:=List.getElem?_eq_getElem hil
   have hz:z=V.ref ys[i].q:=by
    unfold qs at hi
    rw[List.getElem?_map,ey]at hi;exact(Option.some.inj hi).symm
   subst hz;have hcm:ys[i]∈ys:=NM hil;obtain⟨k1,k2⟩:=cv i (ys[i].a,ys[i].b) (by rw[List.getElem?_map,ey];rfl);generalize ys[i]=c at ey hcm k1 k2
   have hcf:=(hys c hcm).nl (NL.of sm);have sc:=xv hg hcf;refine⟨_,rfl,_,rfl,c.q,_,_,_,rfl,rfl,SqT.of hcf.tup,rfl,_,rfl,c.q,_,_,_,rfl,rfl,SqT.of hcf.tup,rfl,pw,c.lo,c.hi,G,kb,c.l1,c.l2,c.h1,c.h2,rfl,(s3.trans sm) _ _ e2,hcf.lo,hcf.hi,sc,JP hg hcf,JO hg hcf,λx rp x1 x2 y1 y2 H4 s4 hx hN4 hNm ex ey4=>?_⟩;refine⟨_,xs++[x],rfl,by rw[Nc];rfl,sm.trans s4,by rw[MY,hxl];rfl,λj x' h1=>?_⟩;by_cases hj:j<xs.length
   ·rw[List.getElem?_append_left hj]at h1;obtain⟨p,l1,l2,h1',h2',a1,a2⟩:=hN j x' h1;exact⟨p,l1,l2,h1',h2',a1.same s4,a2⟩
   ·rw[List.getElem?_append_right (by omega)]at h1;by_cases h0:j-xs.length=0
    ·rw[h0]at h1;obtain rfl:x=x':=by simpa using h1
     have ej:j=i:=by omega
     subst ej;have k1':vw G (-(2^kb))-vw G (af c.l1 c.l2)=(j:Int):=k1;have k2':vw G (-(2^kb))-vw G (af c.h1 c.h2)=(j:Int)+1:=k2;exact⟨rp,x1,x2,y1,y2,hN4,hNm,by rw[ex];exact k1',by rw[ey4];exact k2'⟩
    ·rw[List.getElem?_eq_none_iff.mpr (by simp;omega)]at h1;cases h1
  ·rintro vs Q2 H' p ⟨z0,xs,rfl,rfl,sm,hxl,hN⟩ hp;rw[hql]at hxl;have sp:=Same.upd_new (o:=.lst (xs.map V.ref)) hp
   exact k kb p xs _ hg ((t3.trans sm).then_new hp) ((t3.trans sm).free hp) ar ⟨by rw[hxl];exact hcov,λj x h1=>by
    obtain⟨p',l1,l2,h1',h2',a1,a2⟩:=hN j x h1
    exact⟨p',l1,l2,h1',h2',a1.same sp,a2⟩⟩
def w6(C:Addr):Sp:=λvs H Q _=>∃(a l h:Addr) (G:Ex) (kb:Nat) (l1 l2 h1 h2:Int),vs=[.ref a,.ref l,.ref h]/\H a=some (.lst (G.map V.int))/\RA C H l l1 l2/\RA C H h h1 h2/\Sn G kb l1 l2 h1 h2/\∀H',Same H H'->Q (.int 1) H'
def Fo(F:Fun K "many_within" "many_within" rk f fd)(T:Txt K mg)(R:RCI K mg C)(gT:MCal P w K mg base 2 C "against" ["self","other"] (jt C) oR oQ)(vU:Cal P w K mg base 4 "count" ["row","low","high"] (qr C) Jb IB)(mB:Cal P w K mg base 35 "row_of" ["polynomial"] mO Ah zZ):FnOk P w K mg base aD 36 f fd ["simple","low","high"] (w6 C):=by
 obtain⟨gs,ge,gm⟩:=gT;refine F.ok De (λvs H Q E h=>?_) (λ_ A _ s H vs Q E hr h=>?_)
 ·obtain⟨a,l,h,G,kb,l1,l2,h1,h2,rfl,_⟩:=h;rfl
 ·obtain⟨a,l,h,G,kb,l1,l2,h1,h2,rfl,hA,hl,hh,hS,k⟩:=h
  refine⟨_,(ah (aP (aG om (dC (pv 1) R.cl ge gs (hr.mono) gm .nil aZ (ac (pv 2) ad)) ae)
   (ai (aB ae))
   aR)
   (ai (aB (am vU hr (ac (am mB hr (ac (pv 0) ad)) (ac (pv 1) (ac (pv 2) ad))))))),?_⟩
  have big:=sizeLine_eq;have en:=hS.en;have fp:=hS.gd.fp;have l9:=fp.l9;obtain⟨rn,_,r3⟩:=x4 fp.pln.tr fp.bits l9
  have rx:∀xs∈cJ G,xs.length<=20/\AllB 99500 xs:=λxs hx=>by obtain⟨_,b,l⟩:=r3 xs hx;exact⟨by omega,b.mono⟩
  have rl:(cJ G).length<=1000000:=by have:=nD 9 (al G) (al (slopeL G));show(bR 9 _ _).length<=_;omega
  obtain⟨dxl,hl'⟩:=id hl;refine cp ⟨_,rfl,l,dxl,_,rfl,hl',dk fg.1 fg.2,_,rfl,l,h,l1,l2,h1,h2,rfl,hl,hh,en.bl1.mono,en.bl2.mono,en.bh1.mono,en.bh2.mono,_,_,rfl,rfl,_,rfl,aN (λhge=>?_) (λ_=>?_)⟩
  ·have:sg (l1*h2-h1*l2) = -1:=qB (by have:=en.lt;omega);rw[this]at hge;exact absurd hge (by decide)
  refine bC ⟨_,rfl,a,G,9,rfl,hA,fp.pln.tr,fp.bits.mono,by omega,by decide,rn,λlr ps H1 s1 hl1 hnew el hR=>?_⟩;have hR':RwH H1 ps (cJ G):=hR;refine⟨_,rfl,_,rfl,lr,l,h,ps,cJ G,l1,l2,h1,h2,rfl,el,hR',hl.same s1,hh.same s1,en.bl1.mono,en.bl2.mono,en.bh1.mono,en.bh2.mono,rx,rl,λH2 s2=>?_⟩;have e1:VV G l1 l2-VV G h1 h2=1:=by rw[iu en.l2p,iu en.h2p];exact hS.one
  have:=k H2 (s1.trans s2);rw[<- e1]at this;exact this
def qk(C CN:Addr):Sp:=λvs H Q _=>∃(a l h:Addr) (F:Ex) (kb:Nat) (l1 l2 h1 h2:Int),vs=[.ref a,.ref l,.ref h]/\H a=some (.lst (F.map V.int))/\RA C H l l1 l2/\RA C H h h1 h2/\Drw F/\Sn (au F) kb l1 l2 h1 h2/\EndsG 250 l1 l2 h1 h2/\af h1 h2-af l1 l2<=2^120 /\
 ∀(x:Addr) (p:Ex) (x1 x2 y1 y2:Int) (H':Hp),Same H H'->H x=none->NmH C CN H' x p x1 x2 y1 y2->Nm (au F) kb p x1 x2 y1 y2->vw (au F) (af x1 x2)=vw (au F) (af l1 l2)->vw (au F) (af y1 y2)=vw (au F) (af h1 h2)->Q (.ref x) H'
def Fi(F:FunD K "number" "number" jF dV f fd)(T:Txt K mg)(R:RCI K mg C)(vP:Cal P w K mg base 1 "refuse_high" ["height"] qd IY Iw)(dW:Cal P w K mg base 1 "degree" ["row"] iz lY lW)(cD:KCal P w K mg base 2 C "Ratio" ["self","top","bottom"] (dH C) fk fj fm [.int 1])(ji:Cal P w K mg base 1 "bound" ["row"] (mR K) Ai Aa)(vL:Cal P w K mg base 36 "without_squares" ["row"] pU IS Im)(KF:Cal P w K mg base 36 "many_within" ["simple","low","high"] (w6 C) L8 Lr)(vQ:Cal P w K mg base 1 "refuse_great" ["row"] qf IZ Ix)(vR:Cal P w K mg base 38 "number_in" ["simple","low","high"] (qj C CN) I0 Iy):FnOk P w K mg base aD 39 f fd ["row","low","high"] (qk C CN):=by
 obtain⟨bZ,bY,bX,cz,cY,cX⟩:=cD;refine F.ok kM (λvs H Q E h=>?_) (λ_ A _ s H vs Q E hr h=>?_)
 ·obtain⟨a,l,h,kp,kb,l1,l2,h1,h2,rfl,_⟩:=h;rfl
 ·obtain⟨a,l,h,kp,kb,l1,l2,h1,h2,rfl,hA,hl,hh,hD,hS,e0,hw,k⟩:=h;have l9:=hD.l9;have l2':=hD.l2;have fp:=hS.gd.fp;have lG:=fp.l9;have hml:(kp.map V.int).length=kp.length:=MC _
  refine⟨_,(ah (dU (am vP hr (ac (am dW hr (ac (pv 0) ad)) ad)))
   (ah (aP (aG dJ (am dW hr (ac (pv 0) ad)) ae)
     (ai iK)
     aR)
   (ah (ak 3 kM (sX (aG yH (pv 1) yB) (cG bY bZ (hr.mono) rfl bX cY cX aZ (ac (bV bU (am ji hr (ac (pv 0) ad))) ad)) (pv 1)))
   (ah (ak 4 kM (sX (aG yH (pv 2) yB) (cG bY bZ (hr.mono) rfl bX cY cX aZ (ac (am ji hr (ac (pv 0) ad)) ad)) (pv 2)))
   (ah (ak 5 kM (am vL hr (ac (pv 0) ad)))
   (ah (ak 6 kM (am KF hr (ac (pv 5) (ac (pv 3) (ac (pv 4) ad)))))
   (ah (aP (aG gJ (pv 6) ae)
     (ai iK)
     aR)
   (ah (dU (am vQ hr (ac (pv 5) ad)))
   (ai (aB (am vR hr (ac (pv 5) (ac (pv 3) (ac (pv 4) ad)))))))))))))),?_⟩
  refine gA ⟨_,rfl,a,_,rfl,hA,_,rfl,by rw[hml];omega,?_⟩;refine cp ⟨_,rfl,a,_,rfl,hA,_,_,rfl,rfl,_,rfl,aN (λh0=>absurd (show((kp.map V.int).length:Int)-1<1 from h0) (by rw[hml];omega)) (λ_=>?_)⟩;refine az ⟨_,rfl,rfl,_,rfl,?_⟩;rw[decide_eq_false (by simp)];refine dA ⟨_,rfl,?_⟩;refine az ⟨_,rfl,rfl,_,rfl,?_⟩;rw[decide_eq_false (by simp)];refine dA ⟨_,rfl,?_⟩;refine az ⟨_,rfl,a,kp,rfl,hA,hD,λpw H1 s1 hpw e1=>?_⟩;refine az ⟨_,rfl,_,rfl,_,rfl,pw,l,h,au kp,kb,l1,l2,h1,h2,rfl,e1,hl.same s1,hh.same s1,hS,λH2 s2=>?_⟩;have e2:=s2 _ _ e1;have t2:=s1.trans s2;refine cp ⟨_,rfl,_,_,rfl,rfl,_,rfl,de (λh=>absurd rfl h) (λ_=>?_)⟩;refine gA ⟨_,rfl,pw,au kp,rfl,e2,by omega,fp.bits.mono,λH3 s3=>?_⟩;have t3:=t2.trans s3;refine bC ⟨_,rfl,_,rfl,_,rfl,pw,l,h,au kp,kb,l1,l2,h1,h2,rfl,s3 _ _ e2,hl.same t3,hh.same t3,hS,e0,hw,λx p x1 x2 y1 y2 H4 s4 hx hN hm ex ey=>?_⟩;exact k x p x1 x2 y1 y2 H4 (t3.trans s4) (t3.free hx) hN hm ex ey
def yL(F:Fun K "_law_cell_at" "_law_cell_at" nj f fd)(T:Txt K mg):FnOk P w K mg base aD 1 f fd ["_law_script","_law_k"] (gX K):=by
 refine F.ok Dn (λvs H Q E h=>?_) (λ_ A _ s H vs Q E hr h=>?_)
 ·obtain⟨a,ns,k,rfl,_⟩:=h;rfl
 ·obtain⟨a,ns,n,rfl,hS,k⟩:=h
  refine⟨_,(ah (aP (aG dJ (pv 1) (cU K T.len_ (ac (pv 0) ad)))
   (ai (aB (ce K (pv 0) (pv 1))))
   aR)
   (ai (aB ae))),?_⟩
  refine⟨_,rfl,_,rfl,a,_,rfl,.inl hS,_,_,rfl,rfl,_,rfl,?_⟩;refine aN (λh1=>?_) (λh1=>?_)
  ·rw[MC]at h1;have h2:n<ns.length:=by omega
   refine⟨_,rfl,_,rfl,a,_,_,_,rfl,rfl,hS,gQ (v:=.int (ns.getD n 0)) ?_,k⟩;rw[List.getElem?_map,List.getElem?_eq_getElem h2];simp[List.getD,h2]
  ·rw[MC]at h1;have h2:ns.length<=n:=by omega
   have e:ns.getD n 0=0:=by simp[List.getD,List.getElem?_eq_none_iff.mpr h2]
   rw[e]at k;exact k
def wN:Sp:=λvs H Q _=>∃i:Int,vs=[.int i]/\Q (.bl true) H
def FK(F:Fun K "_law_whole" "_law_whole" rR f fd)(T:Txt K mg):FnOk P w K mg base aD 1 f fd ["_law_found"] wN:=by
 refine F.ok Dl (λvs H Q E h=>?_) (λ_ A _ s H vs Q E hr h=>?_)
 ·obtain⟨i,rfl,_⟩:=h;rfl
 ·obtain⟨i,rfl,k⟩:=h;refine⟨_,(ai (aB (yF (cM (mq (K:=K) rfl) (by rfl) T.isinstance_ PyProof.Rows.boot_isinstance (ac (pv 0) (ac (og (v:=.ty "int") (by rfl) T.int_ PyProof.Rows.boot_int (by rfl)) ad))) (yA (EB (cM (mq (K:=K) rfl) (by rfl) T.isinstance_ PyProof.Rows.boot_isinstance (ac (pv 0) (ac (og (v:=.ty "bool") (by rfl) T.bool_ PyProof.Rows.boot_bool (by rfl)) ad)))))))),?_⟩;refine bC (yc (kW ⟨_,rfl,oI (.int i) (k:=true) (by rfl) ⟨_,rfl,yb ?_⟩⟩));refine DN (kW ⟨_,rfl,oI (.int i) (k:=false) (by rfl) ⟨_,rfl,?_⟩⟩);exact k
def qg:Sp:=λvs H Q _=>∃(a:Addr) (ns:Ex),vs=[.ref a]/\H a=some (.lst (ns.map V.int))/\Q (.bl true) H
def FR(F:Fun K "_law_poly" "_law_poly" rZ f fd)(T:Txt K mg)(KO:Cal P w K mg base 1 "_law_whole" ["_law_found"] wN Mi LD):FnOk P w K mg base aD 2 f fd ["_law_found"] qg:=by
 refine F.ok xV (λvs H Q E h=>?_) (λ_ A _ s H vs Q E hr h=>?_)
 ·obtain⟨a,ns,rfl,_⟩:=h;rfl
 ·obtain⟨a,ns,rfl,hA,k⟩:=h
  refine⟨_,(ah (aP (g8 (gC (cM (mq (K:=K) rfl) (by rfl) T.isinstance_ PyProof.Rows.boot_isinstance (ac (pv 0) (ac (og (v:=.ty "list") (by rfl) T.list_ PyProof.Rows.boot_list (by rfl)) ad)))))
   (ai (aB f9))
   aR)
   (ah (cT PassesOwn.never rfl (fe (K:=K) rfl (pv 0)) (aY 1 xV)
     (ai (aP (g8 (gC (am KO hr (ac (pv 1) ad))))
       (ai (aB f9))
       aR)))
   (ai (aB f9)))),?_⟩
  refine cp (iG (sL (kW ⟨_,rfl,oI (.lst hA) (k:=true) (by rfl) ⟨_,rfl,dA ?_⟩⟩)));refine⟨_,rfl,a,rfl,⟨_,SqL.of hA⟩,lU (K:=K) (a:=a) (xs:=ns.map V.int) (λi Q2 H'=>∃z:Option V,Q2=[some (.ref a),z]/\H=H') ⟨none,rfl,rfl⟩ ?_ ?_ ?_⟩
  ·rintro i Q2 H' _ ⟨z,rfl,rfl⟩;exact SqL.of hA
  ·rintro i x Q2 H' hi ⟨z,rfl,rfl⟩;obtain⟨y,_,rfl,_,_⟩:=ib hi;exact⟨_,rfl,_,rfl,_,rfl,dA ⟨_,rfl,rfl⟩⟩
  ·rintro Q2 H' ⟨z,rfl,rfl⟩;exact k
def WT(H:Hp)(p:Addr)(u v w d:Int):Prop:=H p=some (.tup [.int u,.int v,.int w,.int d])
structure WOk(u v w d:Int):Prop where
 hu : -1000<=u/\u<=1000
 hv : -1000<=v/\v<=1000
 w1:0<w
 w12:w<=12
 d2:2<=d
 d13:d<=13
def WOk.bu{u v w d:Int}(h:WOk u v w d):Bits 10 u:=by show u.natAbs<2^10;have:=h.hu;omega
def WOk.bv{u v w d:Int}(h:WOk u v w d):Bits 10 v:=by show v.natAbs<2^10;have:=h.hv;omega
def WOk.bw{u v w d:Int}(h:WOk u v w d):Bits 4 w:=by show w.natAbs<2^4;have:=h.w1;have:=h.w12;omega
def WOk.bd{u v w d:Int}(h:WOk u v w d):Bits 4 d:=by show d.natAbs<2^4;have:=h.d2;have:=h.d13;omega
def xp:Sp:=λvs H Q _=>∃x y:Int,vs=[.int x,.int y]/\0<=x/\0<=y/\Q (.int (Nat.gcd x.natAbs y.natAbs:Nat)) H
def FW(F:Fun K "_law_divisor" "_law_divisor" se f fd)(T:Txt K mg):FnOk P w K mg base aD 1 f fd ["_law_one","_law_other"] xp:=by
 refine F.ok ng (λvs H Q E h=>?_) (λ_ A _ s H vs Q E hr h=>?_)
 ·obtain⟨a,b,rfl,_⟩:=h;rfl
 ·obtain⟨a,b,rfl,ha,h0,k⟩:=h
  refine⟨_,(ah (gD PassesOwn.never (aG gJ (pv 1) ae)
   (ah (ak 2 ng (ag cA (pv 0) (pv 1)))
     (ah (ak 0 ng (pv 1))
     (ai (ak 1 ng (pv 2))))))
   (ai (aB (pv 0)))),?_⟩
  refine⟨λm Q2 H'=>∃(x y:Int) (z:Option V),Q2=[some (.int x),some (.int y),z]/\H=H'/\0<=x/\0<=y/\y.natAbs=m/\Nat.gcd x.natAbs y.natAbs=Nat.gcd a.natAbs b.natAbs,⟨_,_,_,none,rfl,rfl,ha,h0,rfl,rfl⟩,?_⟩;rintro m Q2 H' ⟨x,y,z,rfl,rfl,hx,hy,rfl,hg⟩;refine⟨_,rfl,_,_,rfl,rfl,_,rfl,?_⟩;refine de (λhn=>?_) (λh0=>?_)
  ·have hp:0<y:=by have:y≠0:=hn;omega
   refine⟨_,λ_ _ h=>h,?_⟩;refine⟨_,rfl,_,rfl,_,_,rfl,rfl,hp,?_⟩;refine⟨_,rfl,?_⟩;refine⟨_,rfl,?_⟩;have h1:=Int.emod_nonneg x (M7 hp);have h2:=O0 x hp;exact⟨(x%y).natAbs,by omega,y,x%y,_,rfl,rfl,hy,h1,rfl,by rw[zO hx hp];exact hg⟩
  ·have e:(y:Int)=0:=h0;subst e;refine⟨_,rfl,?_⟩
   have e2:(x:Int)=((Nat.gcd a.natAbs b.natAbs:Nat):Int):=by rw[<- hg];show x=((Nat.gcd x.natAbs 0:Nat):Int);rw[Nat.gcd_zero_right];omega
   rw[e2];exact k
def qi:Sp:=λvs H Q _=>∃(a:Addr) (ns:Ex),vs=[.ref a]/\H a=some (.lst (ns.map V.int))/\Tr ns/\ns≠[]/\ns.length<=100/\AllB 8000 ns/\mkL H Q (au ns)
def Eo{ns:Ex}(hT:Tr ns)(hne:ns≠[]):0<(aA ns:Int)/\(ao ns<0->ns.map (λx=>x.fdiv (-(aA ns:Int)))=au ns)/\(¬ao ns<0->ns.map (λx=>x.fdiv (aA ns:Int))=au ns):=by
 have hs:=mV (l:=ns);have l0:=zv hT hne
 have hlast:ao ns=(aA ns:Int)*ao (al ns):=by have h5:cf (aM (aA ns:Int) (al ns)) (ns.length-1)=(aA ns:Int)*cf (al ns) (ns.length-1):=bA _ _ _;rw[hs]at h5;have h6:(al ns).length=ns.length:=MC _;unfold ao;rw[h6];exact h5
 have gp:0<(aA ns:Int):=by
  refine Classical.byContradiction λz=>?_
  have:(aA ns:Int)=0:=by omega
  rw[this,NN]at hlast;exact l0 hlast
 have hd:∀x∈ns,x.fdiv (aA ns:Int)=x/(aA ns:Int):=λx hx=>Int.fdiv_eq_ediv_of_dvd (gN hx)
 have hd':∀x∈ns,x.fdiv (-(aA ns:Int)) = -(x/(aA ns:Int)):=λx hx=>by rw[Int.fdiv_eq_ediv_of_dvd (Int.neg_dvd.mpr (gN hx)),Int.ediv_neg]
 refine⟨gp,λz=>?_,λz=>?_⟩
 ·unfold au cF;rw[if_pos (Classical.byContradiction λq=>by have:=Nz (Nd gp) (Int.not_lt.mp q);omega)];unfold al;rw[NP];exact N6 λx hx=>hd' x hx
 ·unfold au cF;rw[if_neg λq=>by have:=Int.mul_neg_of_pos_of_neg gp q;omega];unfold al;exact N6 λx hx=>hd x hx
def FS(F:Fun K "_law_plain" "_law_plain" r6 f fd)(T:Txt K mg)(KW:Cal P w K mg base 1 "_law_divisor" ["_law_one","_law_other"] xp Mr LL):FnOk P w K mg base aD 2 f fd ["_law_row"] qi:=by
 refine F.ok kR (λvs H Q E h=>?_) (λ_ A _ s H vs Q E hr h=>?_)
 ·obtain⟨a,ns,rfl,_⟩:=h;rfl
 ·obtain⟨a,ns,rfl,hA,hT,hne,hl,hb,k⟩:=h;have big:=sizeLine_eq;have hS:=SqL.of (K:=K) hA
  refine⟨_,(ah (ak 1 kR ae)
   (ah (cT PassesOwn.never rfl (fe (K:=K) rfl (pv 0)) (aY 2 kR)
     (ai (ak 1 kR (am KW hr (ac (pv 1) (ac (cM eM (by rfl) T.abs_ PyProof.Rows.boot_abs (ac (pv 2) ad)) ad))))))
   (ah (aP (aG dJ (ce K (pv 0) (bV bU ae)) ae)
     (ai (ak 1 kR (bV bU (pv 1))))
     aR)
   (ai (aB (f8 (own:=["_law_one"]) (fr:=["_law_by"]) (js:=[1]) (by walk_at "comp_ok") rfl (fe (K:=K) rfl (pv 0)) (λ_ _ _ _=>(fM (i:=0) (show List.Nodup (["_law_one","_law_by"]:List Str)from by decide +kernel) rfl (Or.inl rfl))) (λ_ _ _ _=>(ag tu (pv 0) (pv 1))))))))),?_⟩
  refine az ?_;refine⟨_,rfl,a,rfl,⟨_,hS⟩,lU (K:=K) (a:=a) (xs:=ns.map V.int) (λi Q2 H'=>∃z:Option V,Q2=[some (.ref a),some (.int (aA (ns.take i):Nat)),z]/\H=H') ⟨none,rfl,rfl⟩ (λi Q2 H' _ ⟨z,_,e⟩=>by rw[<- e];exact hS) ?_ ?_⟩
  ·rintro i y Q2 H' hi ⟨z,rfl,rfl⟩;obtain⟨n,en,rfl,_,_⟩:=ib hi;refine cK ⟨_,rfl,_,rfl,_,rfl,_,_,rfl,by omega,by split<;>omega,?_⟩;have e3:ns.take (i+1)=ns.take i++[n]:=by rw[NG,en];rfl
   refine⟨some (.int n),?_,rfl⟩;have e4:(if n<0 then -n else n).natAbs=n.natAbs:=by split<;>omega
   rw[e3,zP,Nt,e4];rfl
  ·rintro Q2 H' ⟨z,rfl,rfl⟩;rw[MC,NU];dsimp only
   obtain⟨gp,eN,eP⟩:=Eo hT hne
   have bg:Bits 9000 (aA ns:Int):=by
    obtain⟨x,hx,hx0⟩:∃x∈ns,x≠0:=by obtain⟨r,x,e⟩:=(dz ns).resolve_left hne;refine⟨x,by rw[e];simp,λz=>?_⟩;rw[e,z]at hT;exact tr_snoc.mp hT rfl
    have hd:=gN hx;exact((hb x hx).mono (show 8000<=9000 by decide)).of_le (Nat.le_of_dvd (by omega) (OO.mpr hd))
   have fin:∀(y:Int) (z':Option V),y≠0->Bits 9000 y->ns.map (λx=>x.fdiv y)=au ns->mI (wz [Str.ofString "_law_one"].length [1] (uf K (kq 0)) (fU 0) (tOp (rI Bf λi j=>V.int (i.fdiv j)) (kq 0) (kq 1))) { nx:=λx H'=>Q V.non H',rt:=Q } [some (V.ref a),some (V.int y),z'] H:=λy z' hy by' ey=>by
    refine⟨_,rfl,a,rfl,⟨_,hS⟩,i7 (K:=K) (a:=a) (xs:=ns.map V.int) (λi ys Q2 H'=>∃z0:Option V,Q2=[z0,some (.int y)]/\ys=((ns.take i).map λx=>x.fdiv y).map V.int/\H=H') (by rw[MC];omega) ⟨none,rfl,rfl,rfl⟩ ?_ ?_ ?_⟩
    ·rintro i ys Q2 H' _ ⟨z0,rfl,rfl,rfl⟩;exact⟨hS,by rw[MC,MC,NK];exact OT _ _⟩
    ·rintro i x ys Q2 H' hi ⟨z0,rfl,rfl,rfl⟩;obtain⟨c,ec,rfl,hc,_⟩:=ib hi;refine⟨_,rfl,_,rfl,_,_,rfl,rfl,⟨hy,by'⟩,?_⟩;refine⟨_,rfl,?_,rfl⟩;rw[NG,ec];simp only[Option.toList_some,Nc,Oc,List.map_nil]
    ·rintro ys Q2 H' q ⟨z0,rfl,rfl,rfl⟩ hq;refine k q _ (Same.upd_new hq) hq ?_;rw[ar,MC,NU,ey]
   refine cp ⟨_,rfl,_,rfl,a,_,_,_,rfl,rfl,hS,lN hne,_,_,rfl,rfl,_,rfl,aN (λh0=>?_) (λh0=>?_)⟩
   ·refine cK ⟨_,rfl,_,rfl,?_⟩;exact fin (-(aA ns:Int)) z (by omega) bg.neg (eN h0)
   ·exact fin _ _ (by omega) bg (eP h0)
noncomputable def jV(u v w d:Int):Ex:=if v=0 then au [-u,w]else au (qdL u v w d)
def xi:Sp:=λvs H Q _=>∃(p:Addr) (u v w d:Int),vs=[.ref p]/\WT H p u v w d/\WOk u v w d/\mkL H Q (jV u v w d)
def FU(F:Fun K "_law_least" "_law_least" r9 f fd)(T:Txt K mg)(pI:Cal P w K mg base 2 "_law_plain" ["_law_row"] qi Jj IJ):FnOk P w K mg base aD 3 f fd ["_law_worth_here"] xi:=by
 refine F.ok kS (λvs H Q E h=>?_) (λ_ A _ s H vs Q E hr h=>?_)
 ·obtain⟨p,u,v,w,d,rfl,_⟩:=h;rfl
 ·obtain⟨p,u,v,w,d,rfl,hp,hW,k⟩:=h;have hw:=hW.w1
  refine⟨_,(ah (eZ (pv 0) (gH rfl (cy (aY 1 kS) (cy (aY 2 kS) (cy (aY 3 kS) (cy (aY 4 kS) gG))))))
   (ah (aP (aG cB (pv 2) ae)
     (ai (aB (am pI hr (ac (aU (ac (bV bU (pv 1)) (ac (pv 3) ad))) ad))))
     aR)
   (ai (aB (am pI hr (ac (aU (ac (ag cg (ag aE (pv 1) (pv 1)) (ag aE (ag aE (pv 4) (pv 2)) (pv 2))) (ac (ag aE (ag aE (bV bU ae) (pv 1)) (pv 3)) (ac (ag aE (pv 3) (pv 3)) ad)))) ad)))))),?_⟩
  refine⟨_,rfl,p,_,rfl,SqT.of hp,rfl,_,_,rfl,_,_,rfl,_,_,rfl,_,_,rfl,rfl,?_⟩;dsimp only
  refine dX (λQ2 H'=>Q2=[some (.ref p),some (.int u),some (.int v),some (.int w),some (.int d)]/\H=H') ⟨rfl,rfl⟩ ?_;rintro Q2 H' ⟨rfl,rfl⟩;refine cp ⟨_,rfl,_,_,rfl,rfl,_,rfl,aN (λh0=>?_) (λh0=>?_)⟩
  ·have h0':v=0:=h0;refine bC ⟨_,rfl,_,rfl,_,rfl,by show 2<=sizeLine;decide,λq hq=>?_⟩;have s1:Same H (upd H q (.lst [V.int (-u),V.int w])):=Same.upd_new hq;refine⟨q,[-u,w],rfl,ar,tr2 hw,by simp,by show 2<=100;decide,λx hx=>?_,λy H' s' hy e=>?_⟩
   ·simp only[MG,MT,or_false]at hx;rcases hx with rfl |rfl
    ·exact hW.bu.neg.mono
    ·exact hW.bw.mono
   ·refine k y H' (s1.trans s') (s1.free hy) ?_;unfold jV;rw[if_pos h0'];exact e
  ·have h0':¬v=0:=h0;have b2:Bits 1000000 (-2:Int):=Bits.mono (j:=2) (by show(-2:Int).natAbs<2^2;decide) (by decide);have bdv:Bits 30 (d*v):=(hW.bd.mul hW.bv).mono
   have b2u:Bits 30 (-2*u):=by
    have:Bits 2 (-2:Int):=by show(-2:Int).natAbs<2^2;decide
    exact(this.mul hW.bu).mono
   have ww:0<w*w:=MO hw hw;refine bC ⟨_,rfl,_,rfl,_,_,rfl,rfl,⟨hW.bu.mono,hW.bu.mono⟩,_,rfl,_,rfl,_,_,rfl,rfl,⟨hW.bd.mono,hW.bv.mono⟩,_,rfl,_,_,rfl,rfl,⟨bdv.mono,hW.bv.mono⟩,_,_,rfl,rfl,?_⟩;refine⟨_,rfl,_,rfl,_,_,rfl,rfl,⟨b2,hW.bu.mono⟩,_,rfl,_,_,rfl,rfl,⟨b2u.mono,hW.bw.mono⟩,?_⟩;refine⟨_,rfl,_,rfl,_,_,rfl,rfl,⟨hW.bw.mono,hW.bw.mono⟩,by show 3<=sizeLine;decide,λq hq=>?_⟩;have s1:Same H (upd H q (.lst [V.int (u*u-d*v*v),V.int (-2*u*w),V.int (w*w)])):=Same.upd_new hq;refine⟨q,[u*u-d*v*v,-2*u*w,w*w],rfl,ar,tr3 (by omega),by simp,by show 3<=100;decide,λx hx=>?_,λy H' s' hy e=>?_⟩
   ·simp only[MG,MT,or_false]at hx;rcases hx with rfl |rfl |rfl
    ·exact Bits.mono (Bits.sub (k:=60) ((hW.bu.mul hW.bu).mono) ((bdv.mul hW.bv).mono)) (by decide)
    ·exact(b2u.mul hW.bw).mono
    ·exact(hW.bw.mul hW.bw).mono
   ·refine k y H' (s1.trans s') (s1.free hy) ?_;unfold jV;rw[if_neg h0'];exact e
def mN:Sp:=λvs H Q _=>∃(a b:Addr) (xs ys:Ex),vs=[.ref a,.ref b]/\H a=some (.lst (xs.map V.int))/\H b=some (.lst (ys.map V.int))/\xs≠[]/\ys≠[]/\xs.length<=1000/\ys.length<=1000/\AllB 1000000 xs/\AllB 1000000 ys/\mkL H Q (aw xs ys)
def FM(F:Fun K "_law_times" "_law_times" rT f fd)(T:Txt K mg):FnOk P w K mg base aD 1 f fd ["_law_one","_law_other"] mN:=by
 refine F.ok m9 (λvs H Q E h=>?_) (λ_ A _ s H vs Q E hr h=>?_)
 ·obtain⟨a,b,xs,ys,rfl,_⟩:=h;rfl
 ·obtain⟨a,b,xs,ys,rfl,hA,hB,hx0,hy0,hx,hy,bx,by',k⟩:=h;have big:=sizeLine_eq
  refine⟨_,(ah (ak 2 m9 (ag tf (aU (ac ae ad)) (ag cg (ag aV (cU K T.len_ (ac (pv 0) ad)) (cU K T.len_ (ac (pv 1) ad))) ae)))
   (ah (cT PassesOwn.never rfl (gF rfl T.range_ (ac (cU K T.len_ (ac (pv 0) ad)) ad)) (aY 3 m9)
     (ai (cT PassesOwn.never rfl (gF rfl T.range_ (ac (cU K T.len_ (ac (pv 1) ad)) ad)) (aY 4 m9)
       (ai (eZ (ag aV (ce K (pv 2) (ag aV (pv 3) (pv 4))) (ag aE (ce K (pv 0) (pv 3)) (ce K (pv 1) (pv 4)))) (jP (pv 2) (ag aV (pv 3) (pv 4)) jv))))))
   (ai (aB (pv 2))))),?_⟩
  have hlx:(xs.map V.int).length=xs.length:=MC _;have hly:(ys.map V.int).length=ys.length:=MC _;obtain⟨la,ea⟩:∃la,xs.length=la+1:=⟨xs.length-1,by have:=MR.mpr hx0;omega⟩;obtain⟨lb,eb⟩:∃lb,ys.length=lb+1:=⟨ys.length-1,by have:=MR.mpr hy0;omega⟩;have en:((xs.map V.int).length:Int)+((ys.map V.int).length:Int)-1=((la+lb+1:Nat):Int):=by rw[hlx,hly];omega
  refine az ⟨by show 1<=sizeLine;omega,λp2 hp2=>?_⟩;have s0:=Same.upd_new (o:=.lst [V.int 0]) hp2;refine⟨_,rfl,a,_,rfl,.inl (SqL.of (s0 _ _ hA)),_,rfl,b,_,rfl,.inl (SqL.of (s0 _ _ hB)),_,_,rfl,rfl,_,_,rfl,rfl,?_⟩;dsimp only
  rw[en];refine⟨p2,_,_,rfl,rfl,ar,by omega,by omega,by show 1*_<=_;omega,λp hp=>?_⟩;rw[show((la+lb+1:Nat):Int).toNat=la+lb+1 from rfl,sJ];have s4:=s0.then_new (o:=.lst ((List.replicate (la+lb+1) (0:Int)).map V.int)) hp;have hp0:=s0.free hp;have npa:a≠p:=bh hA hp0;have npb:b≠p:=bh hB hp0;have hp4:upd (upd H p2 (.lst [V.int 0])) p (.lst ((List.replicate (la+lb+1) (0:Int)).map V.int)) p=some (.lst ((List.replicate (la+lb+1) (0:Int)).map V.int)):=ar;generalize upd (upd H p2 (.lst [V.int 0])) p (.lst ((List.replicate (la+lb+1) (0:Int)).map V.int))=H4 at s4 hp4 ⊢
  refine⟨_,rfl,a,_,rfl,.inl (SqL.of (s4 _ _ hA)),_,rfl,by rw[hlx];omega,by rw[hlx];omega,?_⟩;rw[hlx]
  refine iW (lo:=0) (n:=xs.length) (λj Q2 H'=>∃(acc:Ex) (z3 z4:Option V),Q2=[some (.ref a),some (.ref b),some (.ref p),z3,z4]/\SameB p H4 H'/\H' p=some (.lst (acc.map V.int))/\acc.length=la+lb+1/\∀n,n<acc.length->cf acc n=sm xs ys n j)
   ⟨List.replicate (la+lb+1) 0,none,none,rfl,SameB.refl _ _,hp4,by simp,λn _=>by rw[oY];rfl⟩ ?_ ?_
  ·rintro j Q2 H' hjl ⟨acc,z3,z4,rfl,sb,hpa,hal,hac⟩;have hA':=sb _ _ npa (s4 _ _ hA);have hB':=sb _ _ npb (s4 _ _ hB);refine⟨_,rfl,b,_,rfl,.inl (SqL.of hB'),_,rfl,by rw[hly];omega,by rw[hly];omega,?_⟩;rw[hly]
   refine iW (lo:=0) (n:=ys.length) (λi Q2 H'=>∃(acc:Ex) (z4:Option V),Q2=[some (.ref a),some (.ref b),some (.ref p),some (.int (0+(j:Int))),z4]/\SameB p H4 H'/\H' p=some (.lst (acc.map V.int))/\acc.length=la+lb+1/\∀n,n<acc.length->cf acc n=sm xs ys n j+(if j<=n/\n-j<i then tm xs ys n j else 0))
    ⟨acc,z4,rfl,sb,hpa,hal,y6 hac⟩ ?_ ?_
   ·rintro i Q2 H' hil ⟨acc,z4,rfl,sb,hpa,hal,hac⟩;have hA':=sb _ _ npa (s4 _ _ hA);have hB':=sb _ _ npb (s4 _ _ hB);have hji:j+i<acc.length:=by omega
    have eji:(0+((j:Nat):Int))+(0+((i:Nat):Int))=((j+i:Nat):Int):=by omega
    have e0:∀x:Nat,(0:Int)+((x:Nat):Int)=((x:Nat):Int):=λx=>by omega
    refine⟨_,rfl,_,rfl,_,rfl,_,_,rfl,rfl,p,_,_,_,rfl,rfl,SqL.of hpa,kf eji hji,_,rfl,_,rfl,a,_,_,_,rfl,rfl,SqL.of hA',kf (e0 j) hjl,_,rfl,_,rfl,b,_,_,_,rfl,rfl,SqL.of hB',kf (e0 i) hil,_,_,rfl,rfl,⟨bx.cf j,by'.cf i⟩,_,_,rfl,rfl,_,rfl,_,rfl,_,rfl,_,_,rfl,rfl,p,_,_,j+i,rfl,rfl,hpa,lQ eji (by rw[MC];exact hji),?_⟩;exact⟨acc.set (j+i) (cf acc (j+i)+cf xs j*cf ys i),_,rfl,sb.then_upd,by rw[ar,oE],by rw[Oo];exact hal,y4 hjl hil hji hac⟩
   ·rintro Q2 H' ⟨acc,z4,rfl,sb,hpa,hal,hac⟩;exact⟨acc,_,_,rfl,sb,hpa,hal,y7 hac⟩
  ·rintro Q2 H' ⟨acc,z3,z4,rfl,sb,hpa,hal,hac⟩;refine⟨_,rfl,k p H' (λb' o e=>sb b' o (bh e hp0) (s4 b' o e)) hp0 ?_⟩;rw[hpa]
   have e:acc=aw xs ys:=by
    apply iY
    ·rw[hal];unfold aw;rw[if_neg (by intro z;exact z.elim hx0 hy0),MC,Ny];omega
    ·intro n _;rw[aW,za (by omega) hac]
   rw[e]
def iR{x m:Int}(h:0<m):0<=x%m/\x%m<m:=⟨Int.emod_nonneg _ (M7 h),O0 _ h⟩
def dI{k:Int}(h0:0<=k)(h:k<2^12):Bits 9000 k:=Bits.mono (j:=12) (by show k.natAbs<2^12;omega) (by decide)
def qx:Sp:=λvs H Q _=>∃c:Int,vs=[.int c]/\∀z:Int,-1000<=z/\z<=1000->Q (.int z) H
def FX(F:Fun K "_law_amount" "_law_amount" sh f fd)(T:Txt K mg):FnOk P w K mg base aD 1 f fd ["_law_cell"] qx:=by
 refine F.ok Do (λvs H Q E h=>?_) (λ_ A _ s H vs Q E hr h=>?_)
 ·obtain⟨c,rfl,_⟩:=h;rfl
 ·obtain⟨c,rfl,k⟩:=h
  refine⟨_,(ah (aP (aG cB (ag cA (pv 0) ae) ae)
   (ai (aB (ag cg (ag cA (ag cZ (pv 0) ae) ae) ae)))
   aR)
   (ai (aB (ag cg (ag cA (ag cZ (pv 0) ae) ae) ae)))),?_⟩
  refine cp ⟨_,rfl,_,_,rfl,rfl,(by show(0:Int)<4;decide),_,_,rfl,rfl,_,rfl,aN (λ_=>?_) (λ_=>?_)⟩
  ·refine bC ⟨_,rfl,_,_,rfl,rfl,⟨by show(0:Int)<4;decide,dI (by decide) (by decide)⟩,_,_,rfl,rfl,(by show(0:Int)<2001;decide),_,_,rfl,rfl,k _ ?_⟩;obtain⟨m0,m1⟩:=iR (x:=c/4) (m:=2001) (by decide);omega
  ·refine bC ⟨_,rfl,_,_,rfl,rfl,⟨by show(0:Int)<4;decide,dI (by decide) (by decide)⟩,_,_,rfl,rfl,(by show(0:Int)<21;decide),_,_,rfl,rfl,k _ ?_⟩;obtain⟨m0,m1⟩:=iR (x:=c/4) (m:=21) (by decide);omega
noncomputable def roD:Ex:=[2,3,5,6,7,10,11,13]
def pV(K:PySem.W.Frag):Sp:=λvs H Q _=>∃(a:Addr) (ns:Ex),vs=[.ref a,.int 0]/\SqL K H a (ns.map V.int)/\∀(p:Addr) (H':Hp) (u v w d:Int),Same H H'->H p=none->WT H' p u v w d->WOk u v w d->d∈roD->Q (.ref p) H'
def tX{v:V}{ds:Ex}(h:v∈ds.map V.int):∃d:Int,v=.int d/\d∈ds:=by obtain⟨d,hd,rfl⟩:=M8.mp h;exact⟨d,rfl,hd⟩
def DE{d:Int}(h:d∈roD):2<=d/\d<=13:=by simp only[roD,MG,MT,or_false]at h;omega
def FJ(F:Fun K "_law_worth" "_law_worth" rQ f fd)(T:Txt K mg)(pJ:Cal P w K mg base 1 "_law_amount" ["_law_cell"] qx Jk IK)(eT:Cal P w K mg base 1 "_law_cell_at" ["_law_script","_law_k"] (gX K) uM uE):FnOk P w K mg base aD 2 f fd ["_law_script","_law_k"] (pV K):=by
 refine F.ok qF (λvs H Q E h=>?_) (λ_ A _ s H vs Q E hr h=>?_)
 ·obtain⟨a,ns,rfl,_⟩:=h;rfl
 ·obtain⟨a,ns,rfl,hS,k⟩:=h
  refine⟨_,(ah (ak 2 qF (ag aE (am pJ hr (ac (am eT hr (ac (pv 0) (ac (ag aV (pv 1) ae) ad))) ad)) (hI vh (by rfl) T.int_ PyProof.Rows.boot_int (ac (iO eE (ag cA (am eT hr (ac (pv 0) (ac (ag aV (pv 1) ae) ad))) ae) ae) ad))))
   (ah (ak 3 qF (am eT hr (ac (pv 0) (ac (ag aV (pv 1) ae) ad))))
   (ai (aB (cL (ac (am pJ hr (ac (am eT hr (ac (pv 0) (ac (pv 1) ad))) ad)) (ac (pv 2) (ac (ag aV ae (ag cA (ag cZ (pv 3) ae) ae)) (ac (ce K (aU (ac ae (ac ae (ac ae (ac ae (ac ae (ac ae (ac ae (ac ae ad))))))))) (ag cA (pv 3) ae)) ad))))))))),?_⟩
  refine az ⟨_,rfl,_,rfl,_,_,rfl,rfl,a,ns,1,rfl,hS,_,rfl,λz hz=>?_⟩;have hz':Bits 10 z:=by show z.natAbs<2^10;omega
  have b1:Bits 1000000 (if decide (ns.getD 1 0%5>0)=true then(1:Int)else 0):=by split;exact ES;exact Bits.zero
  refine⟨_,rfl,_,rfl,_,_,rfl,rfl,a,ns,1,rfl,hS,_,_,rfl,rfl,(by show(0:Int)<5;decide),_,_,rfl,rfl,.inr ⟨_,rfl,_,_,rfl,rfl,⟨hz'.mono,b1⟩,?_⟩⟩;show cx _ _ _ _ _;refine dX (λQ2 H'=>∃v:Int,Q2=[some (.ref a),some (.int 0),some (.int v),none]/\H=H'/\(-1000<=v/\v<=1000)) ⟨_,rfl,rfl,?_⟩ ?_
  ·split
   ·rw[Nl];exact hz
   ·rw[Nk];omega
  rintro Q2 H' ⟨v,rfl,rfl,bv⟩;refine az ⟨_,rfl,_,rfl,_,_,rfl,rfl,a,ns,2,rfl,hS,?_⟩;refine bC ⟨_,rfl,_,rfl,a,ns,0,rfl,hS,_,rfl,λu bu=>?_⟩;refine⟨_,rfl,_,rfl,_,_,rfl,rfl,⟨by show(0:Int)<8;decide,dI (by decide) (by decide)⟩,_,_,rfl,rfl,(by show(0:Int)<12;decide),_,_,rfl,rfl,by show 8<=sizeLine;decide,λp hp=>?_⟩;obtain⟨x,hx,ex⟩:=pj (xs:=[V.int 2,V.int 3,V.int 5,V.int 6,V.int 7,V.int 10,V.int 11,V.int 13]) (n:=8) rfl (by decide) (ns.getD 2 0);obtain⟨d,rfl,hd⟩:=tX (ds:=roD) hx;obtain⟨hd2,hd13⟩:=DE hd;have s1:Same H (upd H p (.lst [V.int 2,V.int 3,V.int 5,V.int 6,V.int 7,V.int 10,V.int 11,V.int 13])):=Same.upd_new hp;refine⟨_,rfl,_,_,rfl,rfl,(by show(0:Int)<8;decide),p,_,_,_,rfl,rfl,SqL.of ar,ex,by show 4<=sizeLine;decide,λq hq=>?_⟩;obtain⟨m0,m1⟩:=iR (x:=ns.getD 2 0/8) (m:=12) (by decide);exact k q _ u v _ d (s1.then_new hq) (s1.free hq) ar ⟨bu,bv,by omega,by omega,hd2,hd13⟩ hd
noncomputable def dF(u v d:Int):Int:=if 0<v then u else if v<0 then u+v*d else u-1
noncomputable def dG(u v d:Int):Int:=if 0<v then u+v*d else u
def pY(C:Addr):Sp:=λvs H Q _=>∃(p:Addr) (u v w d:Int),vs=[.ref p,.int 0]/\WT H p u v w d/\WOk u v w d/\∀(t l h:Addr) (H':Hp),Same H H'->H t=none->H' t=some (.tup [.ref l,.ref h])->RA C H' l (rt (dF u v d) w) (rb (dF u v d) w)->RA C H' h (rt (dG u v d) w) (rb (dG u v d) w)->Q (.ref t) H'
def FO(F:Fun K "_law_span" "_law_span" rW f fd)(T:Txt K mg)(R:RCI K mg C)(cD:KCal P w K mg base 2 C "Ratio" ["self","top","bottom"] (dH C) fk fj fm [.int 1]):FnOk P w K mg base aD 4 f fd ["_law_worth_here","_law_more_here"] (pY C):=by
 obtain⟨bZ,bY,bX,cz,cY,cX⟩:=cD;refine F.ok kP (λvs H Q E h=>?_) (λ_ A _ s H vs Q E hr h=>?_)
 ·obtain⟨p,u,v,w,d,rfl,_⟩:=h;rfl
 ·obtain⟨p,u,v,w,d,rfl,hp,hW,k⟩:=h;have hw:=hW.w1;have w0:w≠0:=by omega
  refine⟨_,(ah (eZ (pv 0) (gH rfl (cy (aY 2 kP) (cy (aY 3 kP) (cy (aY 4 kP) (cy (aY 5 kP) gG))))))
   (ah (aP (aG eE (pv 3) ae)
     (ai (aB (cL (ac (cG bY bZ (hr.mono) rfl bX cz .nil aZ (ac (pv 2) (ac (pv 4) ad))) (ac (cG bY bZ (hr.mono) rfl bX cz .nil aZ (ac (ag aV (ag aV (pv 2) (ag aE (pv 3) (pv 5))) (pv 1)) (ac (pv 4) ad))) ad)))))
     aR)
   (ah (aP (aG dJ (pv 3) ae)
     (ai (aB (cL (ac (cG bY bZ (hr.mono) rfl bX cz .nil aZ (ac (ag cg (ag aV (pv 2) (ag aE (pv 3) (pv 5))) (pv 1)) (ac (pv 4) ad))) (ac (cG bY bZ (hr.mono) rfl bX cz .nil aZ (ac (pv 2) (ac (pv 4) ad))) ad)))))
     aR)
   (ai (aB (cL (ac (cG bY bZ (hr.mono) rfl bX cz .nil aZ (ac (ag cg (ag cg (pv 2) ae) (pv 1)) (ac (pv 4) ad))) (ac (cG bY bZ (hr.mono) rfl bX cz .nil aZ (ac (ag aV (pv 2) (ag cZ (pv 1) ae)) (ac (pv 4) ad))) ad)))))))),?_⟩
  refine⟨_,rfl,p,_,rfl,SqT.of hp,rfl,_,_,rfl,_,_,rfl,_,_,rfl,_,_,rfl,rfl,?_⟩;dsimp only
  refine dX (λQ2 H'=>Q2=[some (.ref p),some (.int 0),some (.int u),some (.int v),some (.int w),some (.int d)]/\H=H') ⟨rfl,rfl⟩ ?_;rintro Q2 H' ⟨rfl,rfl⟩;have bw9:Bits 9000 w:=hW.bw.mono
  have fin:∀(x y:Int) (l h:Addr) (H2:Hp),x=dF u v d->y=dG u v d->Same H H2->RA C H2 l (rt x w) (rb x w)->RA C H2 h (rt y w) (rb y w)->∀q,H2 q=none->Q (.ref q) (upd H2 q (.tup [V.ref l,V.ref h])):=λx y l h H2 ex ey t2 hl hh q hq=>by subst ex ey;have sq:=Same.upd_new (o:=.tup [V.ref l,V.ref h]) hq;exact k q l h _ (t2.then_new hq) (t2.free hq) ar (hl.same sq) (hh.same sq)
  refine cp ⟨_,rfl,_,_,rfl,rfl,_,rfl,aN (λh0=>?_) (λh0=>?_)⟩
  ·have h0':0<v:=h0;refine bC ⟨_,rfl,_,rfl,di (t:=u) w0 bw9 λl H1 s1 hl hRl=>?_⟩;refine⟨_,rfl,_,rfl,_,rfl,_,_,rfl,rfl,⟨hW.bv.mono,hW.bd.mono⟩,_,_,rfl,rfl,_,rfl,_,_,rfl,rfl,_,rfl,di (t:=u+v*d+0) w0 bw9 λh H2 s2 hh hRh=>?_⟩;exact⟨by show 2<=sizeLine;decide,fin _ _ l h H2 (by unfold dF;rw[if_pos h0']) (by unfold dG;rw[if_pos h0',Nv]) (s1.trans s2) (hRl.same s2) hRh⟩
  ·have h0':¬0<v:=h0;refine cp ⟨_,rfl,_,_,rfl,rfl,_,rfl,aN (λh1=>?_) (λh1=>?_)⟩
   ·have h1':v<0:=h1;refine bC ⟨_,rfl,_,rfl,_,rfl,_,_,rfl,rfl,⟨hW.bv.mono,hW.bd.mono⟩,_,_,rfl,rfl,_,rfl,_,_,rfl,rfl,_,rfl,di (t:=u+v*d-0) w0 bw9 λl H1 s1 hl hRl=>?_⟩;refine⟨_,rfl,_,rfl,di (t:=u) w0 bw9 λh H2 s2 hh hRh=>?_⟩;exact⟨by show 2<=sizeLine;decide,fin _ _ l h H2 (by unfold dF;rw[if_neg h0',if_pos h1',Int.sub_zero]) (by unfold dG;rw[if_neg h0']) (s1.trans s2) (hRl.same s2) hRh⟩
   ·have h1':¬v<0:=h1;refine bC ⟨_,rfl,_,_,rfl,rfl,_,rfl,_,_,rfl,rfl,_,rfl,di (t:=u-1-0) w0 bw9 λl H1 s1 hl hRl=>?_⟩;refine⟨_,rfl,_,rfl,_,_,rfl,rfl,⟨by show(0:Int)<3;decide,dI (by decide) (by decide)⟩,_,_,rfl,rfl,_,rfl,di (t:=u+0/3) w0 bw9 λh H2 s2 hh hRh=>?_⟩;exact⟨by show 2<=sizeLine;decide,fin _ _ l h H2 (by unfold dF;rw[if_neg h0',if_neg h1',Int.sub_zero]) (by unfold dG;rw[if_neg h0'];show u+0/3=u;omega) (s1.trans s2) (hRl.same s2) hRh⟩
structure PAz(X:Cx)(es:List Expr)(t:TA):Prop where
 h:PA X es t
def EH{X:Cx}:PAz X [] d8:=⟨ad⟩
def iP{X:Cx}{c d:Int}{j j' o:Nat}{p p' q:Pos}{es:List Expr}{t:TA}(hr:PAz X es t):PAz X (.Tuple [.Constant (.int c) j p,.Constant (.int d) j' p'] o q::es) (cw (gw (cw (tC (.int c)) (cw (tC (.int d)) d8))) t):=⟨ac (cL (ac ae (ac ae ad))) hr.h⟩
structure PEz(X:Cx)(e:Expr)(t:TE):Prop where
 h:PE X e t
def Ez{X:Cx}{es:List Expr}{t:TA}{pos:Pos}(h:PAz X es t):PEz X (.List es pos) (pT t):=⟨aU h.h⟩
def Ey{X:Cx}{j0 j1 j2 j3 j4 j5 j6 j7 j8 j9 j10 j11 j12 j13 o0 o1 o2 o3 o4 o5 o6:Nat}{p0 p1 p2 p3 p4 p5 p6 p7 p8 p9 p10 p11 p12 p13 q0 q1 q2 q3 q4 q5 q6 pos:Pos}:PEz X (.List [.Tuple [.Constant (.int 2) j0 p0,.Constant (.int 3) j1 p1] o0 q0,.Tuple [.Constant (.int 2) j2 p2,.Constant (.int 5) j3 p3] o1 q1,.Tuple [.Constant (.int 3) j4 p4,.Constant (.int 5) j5 p5] o2 q2,.Tuple [.Constant (.int 2) j6 p6,.Constant (.int 7) j7 p7] o3 q3,.Tuple [.Constant (.int 3) j8 p8,.Constant (.int 7) j9 p9] o4 q4,.Tuple [.Constant (.int 5) j10 p10,.Constant (.int 7) j11 p11] o5 q5,.Tuple [.Constant (.int 2) j12 p12,.Constant (.int 6) j13 p13] o6 q6] pos) (pT (cw (gw (cw (tC (.int 2)) (cw (tC (.int 3)) d8))) (cw (gw (cw (tC (.int 2)) (cw (tC (.int 5)) d8))) (cw (gw (cw (tC (.int 3)) (cw (tC (.int 5)) d8))) (cw (gw (cw (tC (.int 2)) (cw (tC (.int 7)) d8))) (cw (gw (cw (tC (.int 3)) (cw (tC (.int 7)) d8))) (cw (gw (cw (tC (.int 5)) (cw (tC (.int 7)) d8))) (cw (gw (cw (tC (.int 2)) (cw (tC (.int 6)) d8))) d8)))))))):=by refine Ez ?_;refine iP ?_;refine iP ?_;refine iP ?_;refine iP ?_;refine iP ?_;refine iP ?_;refine iP ?_;exact EH
def Ea{X:Cx}{st:Stmt}{rest:List Stmt}{t u:TS}(h:PS X st t)(hr:PSz X rest u):PSz X (st::rest) (cx t u):=⟨ah h hr.h⟩
def Ed{X:Cx}{x y:Str}{a b:Expr}{o:Nat}{p1 p2 pt p pos:Pos}{te:TE}{g:TG}(he:PE X (.Subscript a b p) te)(hg:PG X (.Tuple [.Name x p1,.Name y p2] o pt) g):PS X (.Assign [.Tuple [.Name x p1,.Name y p2] o pt] (.Subscript a b p) pos) (dS te g):=eZ he hg rfl rfl rfl
def Eb{X:Cx}(K:PySem.W.Frag){a ix:Expr}{ta tix:TE}{o:Nat}{pa pb pt pi pos:Pos}{x y:Str}{g:TG}{rest:List Stmt}{u:TS}(ha:PEz X a ta)(hix:PE X ix tix)(hg:PG X (.Tuple [.Name x pa,.Name y pb] o pt) g)(hr:PSz X rest u)(hK:X.K=K:=by rfl)(hp:pD ix:=by exactλ_ _=>rfl):PSz X (.Assign [.Tuple [.Name x pa,.Name y pb] o pt] (.Subscript a ix pi) pos::rest) (cx (dS (tOp (nI K) ta tix) g) u):=⟨ah (Ed (sW (zA hK) ha.h hix hp) hg) hr.h⟩
def DQ{σ:St}{H:Hp}{D:Ends}{i:Nat}{v:V}(h:D.nx (σ.set i (some v)) H):dS (tC v) (fU i) D σ H:=h
noncomputable def roC:Ex:=[2,3,5,6,7,10]
def DF{d:Int}(h:d∈roC):2<=d/\d<=13:=by simp only[roC,MG,MT,or_false]at h;omega
def TrH(C:Addr)(H:Hp)(t:Addr)(kp:Ex)(x y w far:Int):Prop:=∃q s l h:Addr,H t=some (.tup [.ref q,.ref s,.int far])/\H q=some (.lst (kp.map V.int))/\H s=some (.tup [.ref l,.ref h])/\RA C H l (rt x w) (rb x w)/\RA C H h (rt y w) (rb y w)
noncomputable def aI(x:Int):Int:=if x<0 then -x else x
def wP(C:Addr)(K:PySem.W.Frag):Sp:=λvs H Q _=>∃(a:Addr) (ns:Ex),vs=[.ref a]/\SqL K H a (ns.map V.int)/\∀(t:Addr) (H':Hp) (u v w c:Int),Same H H'->H t=none->v≠0->WOk u v w c->c∈roC->TrH C H' t (cbL u v w c) (dF u v c) (dG u v c) w (aI u+aI v*c)->Q (.ref t) H'
def FN(F:Fun K "_law_third" "_law_third" rV f fd)(T:Txt K mg)(vW:Cal P w K mg base 2 "_law_worth" ["_law_script","_law_k"] (pV K) Jf IF)(eT:Cal P w K mg base 1 "_law_cell_at" ["_law_script","_law_k"] (gX K) uM uE)(vY:Cal P w K mg base 4 "_law_span" ["_law_worth_here","_law_more_here"] (pY C) Jh IH):FnOk P w K mg base aD 5 f fd ["_law_script"] (wP C K):=by
 refine F.ok gY (λvs H Q E h=>?_) (λ_ A _ s H vs Q E hr h=>?_)
 ·obtain⟨a,ns,rfl,_⟩:=h;rfl
 ·obtain⟨a,ns,rfl,hS,k⟩:=h
  refine⟨_,(ah (eZ (am vW hr (ac (pv 0) (ac ae ad))) (gH rfl (cy (aY 1 gY) (cy (aY 2 gY) (cy (aY 3 gY) (cy (aY 4 gY) gG))))))
   (ah (ak 5 gY (ce K (aU (ac ae (ac ae (ac ae (ac ae (ac ae (ac ae ad))))))) (ag cA (ag cZ (am eT hr (ac (pv 0) (ac ae ad))) ae) ae)))
   (ah (aP (aG cB (pv 2) ae)
     (ai (ak 2 gY ae))
     aR)
   (ah (ak 6 gY (aU (ac (ag cg (ag aE (ag aE (bV bU (pv 1)) (pv 1)) (pv 1)) (ag aE (ag aE (ag aE (pv 5) (pv 2)) (pv 2)) (pv 2))) (ac (ag aE (ag aE (ag aE ae (pv 1)) (pv 1)) (pv 3)) (ac (ag aE (ag aE (ag aE (bV bU ae) (pv 1)) (pv 3)) (pv 3)) (ac (ag aE (ag aE (pv 3) (pv 3)) (pv 3)) ad))))))
   (ai (aB (cL (ac (pv 6) (ac (am vY hr (ac (cL (ac (pv 1) (ac (pv 2) (ac (pv 3) (ac (pv 5) ad))))) (ac ae ad))) (ac (ag aV (cM eM (by rfl) T.abs_ PyProof.Rows.boot_abs (ac (pv 1) ad)) (ag aE (cM eM (by rfl) T.abs_ PyProof.Rows.boot_abs (ac (pv 2) ad)) (pv 5))) ad)))))))))),?_⟩
  refine⟨_,rfl,a,ns,rfl,hS,λp H1 u v w d s1 hp hT hW hd=>?_⟩;refine⟨p,_,rfl,SqT.of hT,rfl,_,_,rfl,_,_,rfl,_,_,rfl,_,_,rfl,rfl,?_⟩;dsimp only
  refine dX (λQ2 H'=>Q2=[some (.ref a),some (.int u),some (.int v),some (.int w),some (.int d),none,none]/\H1=H') ⟨rfl,rfl⟩ ?_;rintro Q2 H' ⟨rfl,rfl⟩;refine az ⟨by show 6<=sizeLine;decide,λp6 hp6=>?_⟩;obtain⟨x,hx,ex⟩:=pj (xs:=[V.int 2,V.int 3,V.int 5,V.int 6,V.int 7,V.int 10]) (n:=6) rfl (by decide) (ns.getD 2 0/96);obtain⟨c,rfl,hc⟩:=tX (ds:=roC) hx;obtain⟨c2,c13⟩:=DF hc;have s2:Same H1 (upd H1 p6 (.lst [V.int 2,V.int 3,V.int 5,V.int 6,V.int 7,V.int 10])):=Same.upd_new hp6;have t2:=s1.trans s2;refine⟨_,rfl,a,ns,2,rfl,t2.seq hS,_,_,rfl,rfl,⟨by show(0:Int)<96;decide,dI (by decide) (by decide)⟩,_,_,rfl,rfl,(by show(0:Int)<6;decide),p6,_,_,_,rfl,rfl,SqL.of ar,ex,?_⟩;generalize upd H1 p6 (.lst [V.int 2,V.int 3,V.int 5,V.int 6,V.int 7,V.int 10])=H2 at s2 t2
  show cx _ _ _ _ _;refine cp ⟨_,rfl,_,_,rfl,rfl,_,rfl,aN (λh0=>?_) (λh0=>?_)⟩;refine DQ ?_;dsimp only
  refine dX (λQ2 H'=>∃v':Int,Q2=[some (.ref a),some (.int u),some (.int v'),some (.int w),some (.int d),some (.int c),none]/\H2=H'/\v'≠0/\WOk u v' w c) ⟨1,rfl,rfl,by decide,hW.hu,by decide,hW.w1,hW.w12,c2,c13⟩ ?_
  rotate_left
  show cx (dS _ _) _ _ _ _;refine dX (λQ2 H'=>∃v':Int,Q2=[some (.ref a),some (.int u),some (.int v'),some (.int w),some (.int d),some (.int c),none]/\H2=H'/\v'≠0/\WOk u v' w c) ⟨v,rfl,rfl,h0,hW.hu,hW.hv,hW.w1,hW.w12,c2,c13⟩ ?_
  all_goals
   rintro Q2 H' ⟨v',rfl,rfl,hv,hW'⟩;have bu:=hW'.bu;have bv:=hW'.bv;have bw:=hW'.bw;have bc:=hW'.bd;have b3:Bits 2 (3:Int):=by show(3:Int).natAbs<2^2;decide
   have b1:=bu.neg.mul bu;have b2:=bc.mul bv;have b4:=b2.mul bv;have b5:=b3.mul bu;have b6:=b5.mul bu;have b7:=b3.neg.mul bu;have b8:=b7.mul bw;have b9:=bw.mul bw;refine az ⟨_,rfl,_,rfl,_,rfl,_,_,rfl,rfl,⟨bu.neg.mono,bu.mono⟩,_,rfl,_,_,rfl,rfl,⟨b1.mono,bu.mono⟩,_,rfl,_,rfl,_,_,rfl,rfl,⟨bc.mono,bv.mono⟩,_,rfl,_,_,rfl,rfl,⟨b2.mono,bv.mono⟩,_,rfl,_,_,rfl,rfl,⟨b4.mono,bv.mono⟩,_,_,rfl,rfl,?_⟩;refine⟨_,rfl,_,_,rfl,rfl,⟨b3.mono,bu.mono⟩,_,rfl,_,_,rfl,rfl,⟨b5.mono,bu.mono⟩,_,rfl,_,_,rfl,rfl,⟨b6.mono,bw.mono⟩,?_⟩;refine⟨_,rfl,_,rfl,_,_,rfl,rfl,⟨b3.neg.mono,bu.mono⟩,_,rfl,_,_,rfl,rfl,⟨b7.mono,bw.mono⟩,_,rfl,_,_,rfl,rfl,⟨b8.mono,bw.mono⟩,?_⟩;refine⟨_,rfl,_,rfl,_,_,rfl,rfl,⟨bw.mono,bw.mono⟩,_,rfl,_,_,rfl,rfl,⟨b9.mono,bw.mono⟩,by show 4<=sizeLine;decide,λq hq=>?_⟩;have s3:Same H2 (upd H2 q (.lst ((cbL u v' w c).map V.int))):=Same.upd_new hq;have e3:upd H2 q (.lst ((cbL u v' w c).map V.int)) q=some (.lst ((cbL u v' w c).map V.int)):=ar;show mI _ _ _ _;refine bC ⟨_,rfl,_,rfl,_,rfl,_,rfl,_,rfl,by show 4<=sizeLine;decide,λt4 ht4=>?_⟩;have t3:=t2.trans s3;have s4:=Same.upd_new (o:=.tup [V.int u,V.int v',V.int w,V.int c]) ht4;refine⟨t4,u,v',w,c,rfl,ar,hW',λsp l h H5 s5 hsp esp hl hh=>?_⟩;have s45:=s4.trans s5;have av:Bits 10 (if v'<0 then -v' else v'):=by split;exact bv.neg;exact bv
   refine⟨_,rfl,_,rfl,_,rfl,_,rfl,_,rfl,_,_,rfl,rfl,⟨av.mono,bc.mono⟩,_,_,rfl,rfl,by show 3<=sizeLine;decide,λtt htt=>?_⟩;have s6:=Same.upd_new (o:=.tup [V.ref q,V.ref sp,V.int ((if u<0 then -u else u)+(if v'<0 then -v' else v')*c)]) htt;have t5:=t3.trans s45;exact k tt _ u v' w c (t5.trans s6) (t5.free htt) hv hW' hc ⟨q,sp,l,h,ar,s6 _ _ (s45 _ _ e3),s6 _ _ esp,hl.same s6,hh.same s6⟩
def yr{a b:Int}(h:(a,b)∈[((2:Int),(3:Int)),(2,5),(3,5),(2,7),(3,7),(5,7),(2,6)]):(2<=a/\a<=5)/\3<=b/\b<=7:=by simp only[MG,MT,or_false,Prod.mk.injEq]at h;omega
def Ci(x y:Int):aw [x,y,1] [x,y,1]=[x*x,2*(x*y),2*x+y*y,2*y,1]:=nV (by rw[dO (by simp) (by simp)];rfl) λt _ _=>by rw[dB t _ _ _ (aW _ _),pv3,pv5];simp only[MD,Ni,RM.c1,RM.c2];grind
def xm(C:Addr)(K:PySem.W.Frag):Sp:=λvs H Q _=>∃(a:Addr) (ns:Ex),vs=[.ref a]/\SqL K H a (ns.map V.int)/\∀(t:Addr) (H':Hp) (u b1 b2:Int),Same H H'->H t=none -> -1000<=u/\u<=1000->(b1,b2)∈[((2:Int),(3:Int)),(2,5),(3,5),(2,7),(3,7),(5,7),(2,6)]->TrH C H' t (qrL u b1 b2) (u+(if b2=3 then 1 else 2)) (u+b1+b2) 1 (aI u+b1+b2)->Q (.ref t) H'
def FV(F:Fun K "_law_fourth" "_law_fourth" sd f fd)(T:Txt K mg)(pJ:Cal P w K mg base 1 "_law_amount" ["_law_cell"] qx Jk IK)(eT:Cal P w K mg base 1 "_law_cell_at" ["_law_script","_law_k"] (gX K) uM uE)(iw:Cal P w K mg base 1 "_law_times" ["_law_one","_law_other"] mN Aj Ab)(cD:KCal P w K mg base 2 C "Ratio" ["self","top","bottom"] (dH C) fk fj fm [.int 1]):FnOk P w K mg base aD 5 f fd ["_law_script"] (xm C K):=by
 obtain⟨bZ,bY,bX,cz,cY,cX⟩:=cD;refine F.okZ jE (λvs H Q E h=>?_) (λ_ A _ s H vs Q E hr h=>?_)
 ·obtain⟨a,ns,rfl,_⟩:=h;rfl
 ·obtain⟨a,ns,rfl,hS,k⟩:=h
  refine⟨_,(Ea (ak 1 jE (am pJ hr (ac (am eT hr (ac (pv 0) (ac ae ad))) ad)))
   (Eb K Ey (ag cA (am eT hr (ac (pv 0) (ac ae ad))) ae) (gH rfl (cy (aY 2 jE) (cy (aY 3 jE) gG))) (D9 (ah (ak 4 jE (aU (ac (ag cg (ag cg (ag aE (pv 1) (pv 1)) (pv 2)) (pv 3)) (ac (ag aE (bV bU ae) (pv 1)) (ac ae ad)))))
   (ah (ak 5 jE (am iw hr (ac (pv 4) (ac (pv 4) ad))))
   (ah (eZ (ag cg (ce K (pv 5) ae) (ag aE (ag aE ae (pv 2)) (pv 3))) (jP (pv 5) ae jv))
   (ah (aP (aG cB (pv 3) ae)
     (ai (aB (cL (ac (pv 5) (ac (cL (ac (cG bY bZ (hr.mono) rfl bX cY cX aZ (ac (ag aV (pv 1) ae) ad)) (ac (cG bY bZ (hr.mono) rfl bX cY cX aZ (ac (ag aV (ag aV (pv 1) (pv 2)) (pv 3)) ad)) ad))) (ac (ag aV (ag aV (cM eM (by rfl) T.abs_ PyProof.Rows.boot_abs (ac (pv 1) ad)) (pv 2)) (pv 3)) ad))))))
     aR)
   (ai (aB (cL (ac (pv 5) (ac (cL (ac (cG bY bZ (hr.mono) rfl bX cY cX aZ (ac (ag aV (pv 1) ae) ad)) (ac (cG bY bZ (hr.mono) rfl bX cY cX aZ (ac (ag aV (ag aV (pv 1) (pv 2)) (pv 3)) ad)) ad))) (ac (ag aV (ag aV (cM eM (by rfl) T.abs_ PyProof.Rows.boot_abs (ac (pv 1) ad)) (pv 2)) (pv 3)) ad))))))))))))),?_⟩
  refine az ⟨_,rfl,a,ns,0,rfl,hS,_,rfl,λu hu=>?_⟩;have bu:Bits 10 u:=by show u.natAbs<2^10;omega
  refine⟨by show 2<=sizeLine;decide,λt1 n1=>?_⟩;have s1:=Same.upd_new (o:=.tup [V.int 2,V.int 3]) n1;have e1:upd H t1 (.tup [V.int 2,V.int 3]) t1=some (.tup [V.int 2,V.int 3]):=ar;generalize upd H t1 (.tup [V.int 2,V.int 3])=H1 at s1 e1 ⊢
  refine⟨by show 2<=sizeLine;decide,λt2 n2=>?_⟩;have s2:=Same.upd_new (o:=.tup [V.int 2,V.int 5]) n2;have e2:upd H1 t2 (.tup [V.int 2,V.int 5]) t2=some (.tup [V.int 2,V.int 5]):=ar;generalize upd H1 t2 (.tup [V.int 2,V.int 5])=H2 at s2 e2 ⊢
  refine⟨by show 2<=sizeLine;decide,λt3 n3=>?_⟩;have s3:=Same.upd_new (o:=.tup [V.int 3,V.int 5]) n3;have e3:upd H2 t3 (.tup [V.int 3,V.int 5]) t3=some (.tup [V.int 3,V.int 5]):=ar;generalize upd H2 t3 (.tup [V.int 3,V.int 5])=H3 at s3 e3 ⊢
  refine⟨by show 2<=sizeLine;decide,λt4 n4=>?_⟩;have s4:=Same.upd_new (o:=.tup [V.int 2,V.int 7]) n4;have e4:upd H3 t4 (.tup [V.int 2,V.int 7]) t4=some (.tup [V.int 2,V.int 7]):=ar;generalize upd H3 t4 (.tup [V.int 2,V.int 7])=H4 at s4 e4 ⊢
  refine⟨by show 2<=sizeLine;decide,λt5 n5=>?_⟩;have s5:=Same.upd_new (o:=.tup [V.int 3,V.int 7]) n5;have e5:upd H4 t5 (.tup [V.int 3,V.int 7]) t5=some (.tup [V.int 3,V.int 7]):=ar;generalize upd H4 t5 (.tup [V.int 3,V.int 7])=H5 at s5 e5 ⊢
  refine⟨by show 2<=sizeLine;decide,λt6 n6=>?_⟩;have s6:=Same.upd_new (o:=.tup [V.int 5,V.int 7]) n6;have e6:upd H5 t6 (.tup [V.int 5,V.int 7]) t6=some (.tup [V.int 5,V.int 7]):=ar;generalize upd H5 t6 (.tup [V.int 5,V.int 7])=H6 at s6 e6 ⊢
  refine⟨by show 2<=sizeLine;decide,λt7 n7=>?_⟩;have s7:=Same.upd_new (o:=.tup [V.int 2,V.int 6]) n7;have e7:upd H6 t7 (.tup [V.int 2,V.int 6]) t7=some (.tup [V.int 2,V.int 6]):=ar;generalize upd H6 t7 (.tup [V.int 2,V.int 6])=H7 at s7 e7 ⊢
  refine⟨by show 7<=sizeLine;decide,λpl npl=>?_⟩;have s8:=Same.upd_new (o:=.lst [V.ref t1,V.ref t2,V.ref t3,V.ref t4,V.ref t5,V.ref t6,V.ref t7]) npl;obtain⟨x,hx,ex⟩:=pj (xs:=[V.ref t1,V.ref t2,V.ref t3,V.ref t4,V.ref t5,V.ref t6,V.ref t7]) (n:=7) rfl (by decide) (ns.getD 1 0);have u7:=s7.trans s8;have u6:=s6.trans u7;have u5:=s5.trans u6;have u4:=s4.trans u5;have u3:=s3.trans u4;have u2:=s2.trans u3;have u1:=s1.trans u2
  obtain⟨tp,b1,b2,rfl,etp,hb⟩:∃(tp:Addr) (b1 b2:Int),x=.ref tp/\upd H7 pl (.lst [V.ref t1,V.ref t2,V.ref t3,V.ref t4,V.ref t5,V.ref t6,V.ref t7]) tp=some (.tup [.int b1,.int b2])/\(b1,b2)∈[((2:Int),(3:Int)),(2,5),(3,5),(2,7),(3,7),(5,7),(2,6)]:=by
   simp only[MG,MT,or_false]at hx;rcases hx with rfl |rfl |rfl |rfl |rfl |rfl |rfl
   ·exact⟨_,_,_,rfl,u2 _ _ e1,by decide⟩
   ·exact⟨_,_,_,rfl,u3 _ _ e2,by decide⟩
   ·exact⟨_,_,_,rfl,u4 _ _ e3,by decide⟩
   ·exact⟨_,_,_,rfl,u5 _ _ e4,by decide⟩
   ·exact⟨_,_,_,rfl,u6 _ _ e5,by decide⟩
   ·exact⟨_,_,_,rfl,u7 _ _ e6,by decide⟩
   ·exact⟨_,_,_,rfl,s8 _ _ e7,by decide⟩
  refine⟨_,rfl,a,ns,1,rfl,u1.seq hS,_,_,rfl,rfl,(by show(0:Int)<7;decide),pl,_,_,_,rfl,rfl,SqL.of ar,ex,?_⟩;generalize upd H7 pl (.lst [V.ref t1,V.ref t2,V.ref t3,V.ref t4,V.ref t5,V.ref t6,V.ref t7])=H8 at u1 etp ⊢
  clear u2 u3 u4 u5 u6 u7 s8 s7 s6 s5 s4 s3 s2 s1 e1 e2 e3 e4 e5 e6 e7 hx;refine⟨tp,_,rfl,SqT.of etp,rfl,_,_,rfl,_,_,rfl,rfl,?_⟩;dsimp only
  refine dX (λQ2 H'=>Q2=[some (.ref a),some (.int u),some (.int b1),some (.int b2),none,none]/\H8=H') ⟨rfl,rfl⟩ ?_;rintro Q2 H' ⟨rfl,rfl⟩;obtain⟨k1,k2⟩:=yr hb;have bb1:Bits 3 b1:=by show b1.natAbs<2^3;omega
  have bb2:Bits 3 b2:=by show b2.natAbs<2^3;omega
  have bm2:Bits 2 (-2:Int):=by show(-2:Int).natAbs<2^2;decide
  have b4:Bits 3 (4:Int):=by show(4:Int).natAbs<2^3;decide
  refine az ⟨_,rfl,_,rfl,_,_,rfl,rfl,⟨bu.mono,bu.mono⟩,_,rfl,_,_,rfl,rfl,_,rfl,_,_,rfl,rfl,?_⟩;refine⟨_,rfl,_,rfl,_,_,rfl,rfl,⟨bm2.mono,bu.mono⟩,by show 3<=sizeLine;decide,λq nq=>?_⟩;have v1:=Same.upd_new (o:=.lst (([u*u-b1-b2,-2*u,1]:Ex).map V.int)) nq;have eq:upd H8 q (.lst (([u*u-b1-b2,-2*u,1]:Ex).map V.int)) q=some (.lst (([u*u-b1-b2,-2*u,1]:Ex).map V.int)):=ar;have bx:Bits 30 (u*u-b1-b2):=Bits.mono (Bits.sub (k:=22) (Bits.sub (k:=21) ((bu.mul bu).mono) (bb1.mono)) (bb2.mono)) (by decide)
  have bL:AllB 1000000 [u*u-b1-b2,-2*u,1]:=λz hz=>by
   simp only[MG,MT,or_false]at hz;rcases hz with rfl |rfl |rfl
   ·exact bx.mono
   ·exact(bm2.mul bu).mono
   ·exact eQ (by decide)
  show cx (dS _ _) _ _ _ _;refine az ⟨_,rfl,_,rfl,q,q,_,_,rfl,eq,eq,by simp,by simp,by show 3<=1000;decide,by show 3<=1000;decide,bL,bL,λkp H9 v2 nkp ekp=>?_⟩;rw[Ci]at ekp;have v12:=v1.trans v2;have nk:=(u1.trans v1).free nkp;refine⟨_,rfl,kp,_,_,_,rfl,rfl,SqL.of ekp,rfl,_,rfl,_,_,rfl,rfl,⟨b4.mono,bb1.mono⟩,_,rfl,_,_,rfl,rfl,⟨(b4.mul bb1).mono,bb2.mono⟩,_,_,rfl,rfl,_,rfl,kp,_,_,0,rfl,rfl,ekp,rfl,?_⟩
  have eK:(([(u*u-b1-b2)*(u*u-b1-b2),2*((u*u-b1-b2)*(-2*u)),2*(u*u-b1-b2) + -2*u*(-2*u),2*(-2*u),1]:Ex).map V.int).set 0 (V.int ((u*u-b1-b2)*(u*u-b1-b2)-4*b1*b2))=(qrL u b1 b2).map V.int:=by
   unfold qrL;have e1:2*(u*u-b1-b2) + -2*u*(-2*u)=2*(u*u-b1-b2)+4*u*u:=by grind
   have e2:2*(-2*u) = -4*u:=by omega
   rw[e1,e2];rfl
  have v3:Same H (upd H9 kp (.lst ((([(u*u-b1-b2)*(u*u-b1-b2),2*((u*u-b1-b2)*(-2*u)),2*(u*u-b1-b2) + -2*u*(-2*u),2*(-2*u),1]:Ex).map V.int).set 0 (V.int ((u*u-b1-b2)*(u*u-b1-b2)-4*b1*b2))))):=fO (u1.trans v12) nk;rw[eK]at v3;dsimp only
  have e9:upd H9 kp (.lst ((([(u*u-b1-b2)*(u*u-b1-b2),2*((u*u-b1-b2)*(-2*u)),2*(u*u-b1-b2) + -2*u*(-2*u),2*(-2*u),1]:Ex).map V.int).set 0 (V.int ((u*u-b1-b2)*(u*u-b1-b2)-4*b1*b2))))=upd H9 kp (.lst ((qrL u b1 b2).map V.int)):=by rw[eK]
  refine dX (λQ2 H'=>Q2=[some (.ref a),some (.int u),some (.int b1),some (.int b2),some (.ref q),some (.ref kp)]/\upd H9 kp (.lst ((qrL u b1 b2).map V.int))=H') ⟨rfl,e9.symm⟩ ?_;rintro Q2 H' ⟨rfl,rfl⟩;have ekq:upd H9 kp (.lst ((qrL u b1 b2).map V.int)) kp=some (.lst ((qrL u b1 b2).map V.int)):=ar;generalize upd H9 kp (.lst ((qrL u b1 b2).map V.int))=Ha at v3 ekq ⊢
  refine cp ⟨_,rfl,_,_,rfl,rfl,_,rfl,aN (λh3=>?_) (λh3=>?_)⟩
  all_goals
   refine bC ⟨_,rfl,_,rfl,_,_,rfl,rfl,di (b:=1) (by decide) (eQ (by decide)) λl Hb w1 hl hRl=>?_⟩;refine⟨_,rfl,_,rfl,_,_,rfl,rfl,_,rfl,_,_,rfl,rfl,di (b:=1) (by decide) (eQ (by decide)) λh Hc w2 hh hRh=>?_⟩;refine⟨by show 2<=sizeLine;decide,λsp nsp=>?_⟩;have w3:=Same.upd_new (o:=.tup [V.ref l,V.ref h]) nsp;have esp:upd Hc sp (.tup [V.ref l,V.ref h]) sp=some (.tup [V.ref l,V.ref h]):=ar;generalize upd Hc sp (.tup [V.ref l,V.ref h])=Hd at w3 esp ⊢
   refine⟨_,rfl,_,rfl,_,rfl,_,_,rfl,rfl,_,rfl,_,_,rfl,rfl,by show 3<=sizeLine;decide,λtt ntt=>?_⟩;have w4:=Same.upd_new (o:=.tup [V.ref kp,V.ref sp,V.int ((if u<0 then -u else u)+b1+b2)]) ntt;have x3:=w1.trans (w2.trans w3);have y3:=v3.trans x3;refine k tt _ u b1 b2 (y3.trans w4) (y3.free ntt) hu hb ⟨kp,sp,l,h,ar,w4 _ _ (x3 _ _ ekq),w4 _ _ esp,?_,(hRh.same w3).same w4⟩
  ·rw[if_pos (show b2=3 from h3)];exact((hRl.same w2).same w3).same w4
  ·rw[if_neg (show ¬b2=3 from h3)];exact((hRl.same w2).same w3).same w4
def CM(x:Int):(if decide (0<x)=true then(1:Int)else 0)-(if decide (x<0)=true then(1:Int)else 0)=sg x:=by unfold sg;by_cases a:0<x<;>by_cases b:x<0<;>simp[a,b]<;>omega
def GW{t b:Int}(bt:Bits 5000 t)(bb:Bits 5000 b)(b0:b≠0){l:Ex}(h:AllB 99500 l):Bits (99501+5001*l.length) (lv t b l):=by have h1:=ui bt bb h;rw[uh]at h1;refine h1.of_le ?_;rw[MW];exact N5 _ (N3.mpr b0)
def CG{t b:Int}(hb:0<b)(l:Ex):sg (hv t b l)=sg (lv t b l):=by rw[uh,CK,show sg b=1 from by unfold sg;rw[if_neg (by omega),if_pos hb],M9]
def wU(C:Addr):Sp:=λvs H Q _=>∃(a r:Addr) (ns:Ex) (t b:Int),vs=[.ref a,.ref r]/\H a=some (.lst (ns.map V.int))/\RA C H r t b/\ns.length<=9/\AllB 100 ns/\Bits 1500 t/\Bits 1500 b/\0<b/\Q (.int (sg (hv t b ns))) H
def FP(F:Fun K "_law_side" "_law_side" rX f fd)(T:Txt K mg)(R:RCI K mg C):FnOk P w K mg base aD 1 f fd ["_law_kp","_law_r"] (wU C):=by
 refine F.ok jC (λvs H Q E h=>?_) (λ_ A _ s H vs Q E hr h=>?_)
 ·obtain⟨a,r,ns,t,b,rfl,_⟩:=h;rfl
 ·obtain⟨a,r,ns,t,b,rfl,hA,⟨dr,hR⟩,hn,hb,bt,bb,b0,k⟩:=h
  refine⟨_,(ah (ak 2 jC ae)
   (ah (ak 3 jC ae)
   (ah (cT PassesOwn.never rfl (gF rfl T.range_ (ac (cU K T.len_ (ac (pv 0) ad)) ad)) (aY 4 jC)
     (ah (ak 2 jC (ag aV (ag aE (pv 2) (aQ (K:=K) rfl (pv 1) rfl)) (ag aE (ce K (pv 0) (ag cg (ag cg (cU K T.len_ (ac (pv 0) ad)) ae) (pv 4))) (pv 3))))
       (ai (ak 3 jC (ag aE (pv 3) (aQ (K:=K) rfl (pv 1) rfl))))))
   (ai (aB (ag cg (hI vh (by rfl) T.int_ PyProof.Rows.boot_int (ac (iO eE (pv 2) ae) ad)) (hI vh (by rfl) T.int_ PyProof.Rows.boot_int (ac (iO dJ (pv 2) ae) ad)))))))),?_⟩
  have big:=sizeLine_eq;have hl:(ns.map V.int).length=ns.length:=MC _;have bt':Bits 5000 t:=bt.mono;have bb':Bits 5000 b:=bb.mono;have hb':AllB 99500 ns:=hb.mono;refine az ?_;refine az ?_;refine⟨_,rfl,a,_,rfl,.inl (SqL.of hA),_,rfl,by rw[hl];omega,by rw[hl];omega,?_⟩;rw[hl];refine iW (lo:=0) (n:=ns.length) (λi Q2 H'=>∃z:Option V,Q2=[some (.ref a),some (.ref r),some (.int (lv t b (ns.drop (ns.length-i)))),some (.int (b^i)),z]/\H=H') ⟨none,?_,rfl⟩ ?_ ?_
  ·rw[NO,OU,Nq];rfl
  ·rintro i Q2 H' hi ⟨z,rfl,rfl⟩;have hi':i<ns.length:=hi;obtain⟨c,hc⟩:∃c,ns[ns.length-1-i]?=some c:=⟨_,List.getElem?_eq_getElem (by omega)⟩;have e1:ns.length-(i+1)=ns.length-1-i:=by omega
   have hd:=Jv t b (l:=ns) (n:=ns.length-1-i) (by omega);have e2:ns.length-1-i+1=ns.length-i:=by omega
   have e3:ns.length-(ns.length-i)=i:=by omega
   rw[e2,e3,vc hc]at hd;have bs:=GW bt' bb' (by omega) (l:=ns.drop (ns.length-i)) λx hx=>hb' x (O1 hx)
   rw[NS]at bs;have bp:=ir bb' i;have ei:((ns.map V.int).length:Int)-1-(0+(i:Int))=((ns.length-1-i:Nat):Int):=by rw[hl];omega
   have at':atI (ns.map V.int) (((ns.map V.int).length:Int)-1-(0+(i:Int)))=some (.int c):=by rw[ei];exact gQ (by rw[List.getElem?_map,hc];rfl)
   refine az ⟨_,rfl,_,rfl,r,C,dr,_,_,rfl,hR,R.cl,R.nT,c7,_,_,rfl,rfl,⟨bs.mono (by omega),bt'.mono⟩,_,rfl,_,rfl,a,_,rfl,.inl (SqL.of hA),_,_,rfl,rfl,_,rfl,_,_,rfl,rfl,a,_,_,_,rfl,rfl,SqL.of hA,at',_,rfl,_,_,rfl,rfl,⟨(hb' c (List.mem_of_getElem? hc)).mono,bp.mono (by omega)⟩,_,_,rfl,rfl,?_⟩;refine cK ⟨_,rfl,_,rfl,r,C,dr,_,_,rfl,hR,R.cl,R.nB,ci,_,_,rfl,rfl,⟨bp.mono (by omega),bb'.mono⟩,some (.int (0+(i:Int))),?_,rfl⟩;rw[e1,hd,M6 b i,No t,Int.add_comm (c*b^i)];rfl
  ·rintro Q2 H' ⟨z,rfl,rfl⟩;rw[N0,Ol];rw[CG b0,<- CM]at k;dsimp only
   exact bC ⟨_,rfl,_,_,rfl,rfl,.inr ⟨_,rfl,_,rfl,_,_,rfl,rfl,.inr ⟨_,rfl,_,_,rfl,rfl,k⟩⟩⟩
def eC{c:TT}{t1 t2 u:TS}{D:Ends}{σ:St}{H:Hp}(P:St->Hp->Prop)(hn:∀Q2 H',P Q2 H'->u D Q2 H')(h:(∀Q2 H',P Q2 H'->u D Q2 H')->c σ H λb H1=>if b=true then t1 { D with nx:=u D } σ H1 else t2 { D with nx:=u D } σ H1):cx (fH c t1 t2) u D σ H:=h hn
def B9{l:Ex}{y:Nat}(h:AllB y l):d9 l<=l.length*2^y:=by
 induction l with
 |nil=>exact MK _
 |cons c l ih =>
  have h1:c.natAbs<2^y:=h c (M0 ..);have h2:=ih λx hx=>h x (MV _ hx)
  show c.natAbs+d9 l<=(l.length+1)*2^y;rw[Oh,Oy];omega
def ol{b:Bool}{P A:Ex}{x y:Nat}(hP:AllB x P)(hA:AllB y A)(hl:A.length<=3):AllB (x+y+2) (aX b P A):=by
 have p:∀n,(cf P n).natAbs<=2^x:=λn=>Om (hP.cf n)
 have s:=B9 hA;have s2:d9 A<=3*2^y:=MU s (NJ _ hl);refine AllB.of_cf λn=>?_
 have k:=lf b p s2 (MU (show 1<=3*1 by decide) (Oi 3 (Nat.one_le_two_pow))) n;show(cf (aX b P A) n).natAbs<2^(x+y+2);have e:2^(x+y+2)=4*(2^y*2^x):=by rw[Nat.pow_add,Nat.pow_add];grind
 have q:0<2^y*2^x:=Nat.mul_pos (Nat.two_pow_pos _) (Nat.two_pow_pos _);have e2:3*2^y*2^x=3*(2^y*2^x):=Nat.mul_assoc _ _ _;omega
def oj{b:Bool}{P A:Ex}{n:Nat}(hP:P≠[])(hA:A≠[])(h1:P.length<=n)(h2:A.length<=3):(aX b P A).length<=n+2/\aX b P A≠[]:=by
 obtain⟨a,c⟩:=gI (b:=b) hP hA;refine⟨?_,c⟩;cases b with
 |true=>rw[if_pos rfl]at a;omega
 |false=>rw[if_neg (by decide)]at a;omega
noncomputable def bt(x m:Int):Bool:=decide (x%m=1)
noncomputable def roK:Ex:=[1,-1,4,-30]
def MoB(l:Ex):Prop:=l≠[]/\l.length<=1000/\AllB 1000000 l
def xb(C:Addr):Sp:=λvs H Q _=>∃(l:Addr) (o lt lb cell:Int),vs=[.int o,.ref l,.int cell]/\RA C H l lt lb/\Bits 20 o/\Bits 20 lt/\Bits 20 lb/\∀c∈roK,MoB (bI c (bt (cell/48) 2) (bt (cell/4) 2) (bt (cell/8) 2) (bt (cell/16) 3) lt lb o (1+cell/96%9))->mkL H Q (bI c (bt (cell/48) 2) (bt (cell/4) 2) (bt (cell/8) 2) (bt (cell/16) 3) lt lb o (1+cell/96%9))
def FT(F:Fun K "_law_more" "_law_more" r8 f fd)(T:Txt K mg)(R:RCI K mg C)(iw:Cal P w K mg base 1 "_law_times" ["_law_one","_law_other"] mN Aj Ab):FnOk P w K mg base aD 2 f fd ["_law_far","_law_low","_law_cell"] (xb C):=by
 refine F.ok jD (λvs H Q E h=>?_) (λ_ A _ s H vs Q E hr h=>?_)
 ·obtain⟨l,o,lt,lb,cell,rfl,_⟩:=h;rfl
 ·obtain⟨l,o,lt,lb,cell,rfl,hR,bo,blt,blb,k⟩:=h;obtain⟨dr,hR'⟩:=id hR
  refine⟨_,(ah (ak 3 jD (aU (ac (ce K (aU (ac ae (ac (bV bU ae) (ac ae (ac (bV bU ae) ad))))) (ag cA (pv 2) ae)) ad)))
   (ah (aP (aG cB (ag cA (ag cZ (pv 2) ae) ae) ae)
     (ai (ak 3 jD (am iw hr (ac (pv 3) (ac (aU (ac (bV bU (aQ (K:=K) rfl (pv 1) rfl)) (ac (aQ (K:=K) rfl (pv 1) rfl) ad))) ad)))))
     aR)
   (ah (aP (aG cB (ag cA (ag cZ (pv 2) ae) ae) ae)
     (ai (ak 3 jD (am iw hr (ac (pv 3) (ac (aU (ac (pv 0) (ac ae ad))) ad)))))
     aR)
   (ah (aP (aG cB (ag cA (ag cZ (pv 2) ae) ae) ae)
     (ai (ak 3 jD (am iw hr (ac (pv 3) (ac (aU (ac (ag cg (ag aE (pv 0) (pv 0)) ae) (ac (ag aE (bV bU ae) (pv 0)) (ac ae ad)))) ad)))))
     aR)
   (ah (aP (aG cB (ag cA (ag cZ (pv 2) ae) ae) ae)
     (ai (ak 3 jD (am iw hr (ac (pv 3) (ac (aU (ac (ag aV ae (ag cA (ag cZ (pv 2) ae) ae)) (ac ae (ac ae ad)))) ad)))))
     aR)
   (ai (aB (pv 3)))))))),?_⟩
  refine az ⟨_,rfl,_,rfl,by show 4<=sizeLine;decide,λp4 n4=>?_⟩;obtain⟨x,hx,ex⟩:=pj (xs:=[V.int 1,V.int (-1),V.int 4,V.int (-30)]) (n:=4) rfl (by decide) cell;obtain⟨c,rfl,hc⟩:=tX (ds:=roK) hx;have s1:=Same.upd_new (o:=.lst [V.int 1,V.int (-1),V.int 4,V.int (-30)]) n4;refine⟨_,rfl,_,_,rfl,rfl,(by show(0:Int)<4;decide),p4,_,_,_,rfl,rfl,SqL.of ar,ex,by show 1<=sizeLine;decide,λq0 n0=>?_⟩;have s2:=Same.upd_new (o:=.lst (([c]:Ex).map V.int)) n0;have t2:=s1.trans s2;have f0:=s1.free n0;have e0:upd (upd H p4 (.lst [V.int 1,V.int (-1),V.int 4,V.int (-30)])) q0 (.lst (([c]:Ex).map V.int)) q0=some (.lst (([c]:Ex).map V.int)):=ar
  have bc:AllB 6 [c]:=λz hz=>by rw[MH.mp hz];simp only[roK,MG,MT,or_false]at hc;show c.natAbs<2^6;omega
  have bA1:AllB 21 [-lt,lb]:=λz hz=>by
   simp only[MG,MT,or_false]at hz;rcases hz with rfl |rfl
   ·exact blt.neg.mono
   ·exact blb.mono
  have bA2:AllB 21 [o,1]:=λz hz=>by
   simp only[MG,MT,or_false]at hz;rcases hz with rfl |rfl
   ·exact bo.mono
   ·exact eQ (by decide)
  have bm2:Bits 2 (-2:Int):=by show(-2:Int).natAbs<2^2;decide
  have b2:Bits 41 (2:Int):=by show(2:Int).natAbs<2^41;decide
  have bA3:AllB 43 (fqL o):=λz hz=>by
   simp only[fqL,MG,MT,or_false]at hz;rcases hz with rfl |rfl |rfl
   ·exact Bits.mono (Bits.sub (k:=41) ((bo.mul bo).mono) b2) (by decide)
   ·exact(bm2.mul bo).mono
   ·exact eQ (by decide)
  obtain⟨k0,k9⟩:=iR (x:=cell/96) (m:=9) (by decide)
  have bA4:AllB 5 [1+cell/96%9,0,1]:=λz hz=>by
   simp only[MG,MT,or_false]at hz;rcases hz with rfl |rfl |rfl
   ·show(1+cell/96%9).natAbs<2^5;omega
   ·exact Bits.zero
   ·exact eQ (by decide)
  have n1:([c]:Ex)≠[]:=by simp
  have nq:fqL o≠[]:=by simp[fqL]
  have w1:=ol (b:=bt (cell/48) 2) bc bA1 (by show 2<=3;decide);obtain⟨l1,m1⟩:=oj (b:=bt (cell/48) 2) n1 (show[-lt,lb]≠[] by simp) (show 1<=1 from MI _) (by show 2<=3;decide);have w2:=ol (b:=bt (cell/4) 2) w1 bA2 (by show 2<=3;decide);obtain⟨l2,m2⟩:=oj (b:=bt (cell/4) 2) m1 (show[o,1]≠[] by simp) l1 (by show 2<=3;decide);have w3:=ol (b:=bt (cell/8) 2) w2 bA3 (by show 3<=3;decide);obtain⟨l3,m3⟩:=oj (b:=bt (cell/8) 2) m2 nq l2 (by show 3<=3;decide);show cx (fH _ _ _) _ _ _ _;refine dX (λQ2 H'=>Q2=[some (.int o),some (.ref l),some (.int cell),some (.ref q0)]/\upd (upd H p4 (.lst [V.int 1,V.int (-1),V.int 4,V.int (-30)])) q0 (.lst (([c]:Ex).map V.int))=H') ⟨rfl,rfl⟩ ?_;rintro Q2 H' ⟨rfl,rfl⟩;generalize upd (upd H p4 (.lst [V.int 1,V.int (-1),V.int 4,V.int (-30)])) q0 (.lst (([c]:Ex).map V.int))=Hx at t2 e0 ⊢
  refine eC (λQ2 H'=>∃q:Addr,Q2=[some (.int o),some (.ref l),some (.int cell),some (.ref q)]/\Same H H'/\H q=none/\H' q=some (.lst ((aX (bt (cell/48) 2) [c] [-lt,lb]).map V.int))) ?_ (λhn=>?_)
  rotate_left
  ·refine⟨_,rfl,_,_,rfl,rfl,⟨by show(0:Int)<48;decide,dI (by decide) (by decide)⟩,_,_,rfl,rfl,(by show(0:Int)<2;decide),_,_,rfl,rfl,_,rfl,aN (λhb=>?_) (λhb=>?_)⟩
   ·have eb:bt (cell/48) 2=true:=decide_eq_true hb;rw[eb]at hn;obtain⟨dx,hRx'⟩:=hR.same t2;refine cK ⟨_,rfl,_,rfl,l,C,dx,_,_,rfl,hRx',R.cl,R.nT,c7,_,rfl,_,rfl,l,C,dx,_,_,rfl,hRx',R.cl,R.nB,ci,by show 2<=sizeLine;decide,λqa na=>?_⟩;have sa:=Same.upd_new (o:=.lst (([-lt,lb]:Ex).map V.int)) na;refine⟨q0,qa,[c],[-lt,lb],rfl,sa _ _ e0,ar,n1,by simp,by show 1<=1000;decide,by show 2<=1000;decide,bc.mono,bA1.mono,λy Hy sy ny ey=>?_⟩;exact hn _ _ ⟨y,rfl,(t2.trans sa).trans sy,(t2.trans sa).free ny,ey⟩
   ·have eb:bt (cell/48) 2=false:=decide_eq_false hb;rw[eb]at hn;exact hn _ _ ⟨q0,rfl,t2,f0,e0⟩
  rintro Q2 H1 ⟨q1,rfl,t3',f1,e1'⟩;refine eC (λQ2 H'=>∃q:Addr,Q2=[some (.int o),some (.ref l),some (.int cell),some (.ref q)]/\Same H H'/\H q=none/\H' q=some (.lst ((aX (bt (cell/4) 2) (aX (bt (cell/48) 2) [c] [-lt,lb]) [o,1]).map V.int))) ?_ (λhn=>?_)
  rotate_left
  ·refine⟨_,rfl,_,_,rfl,rfl,⟨by show(0:Int)<4;decide,dI (by decide) (by decide)⟩,_,_,rfl,rfl,(by show(0:Int)<2;decide),_,_,rfl,rfl,_,rfl,aN (λhb=>?_) (λhb=>?_)⟩
   ·have eb:bt (cell/4) 2=true:=decide_eq_true hb;rw[eb]at hn;refine cK ⟨_,rfl,_,rfl,by show 2<=sizeLine;decide,λqa na=>?_⟩;have sa:=Same.upd_new (o:=.lst (([o,1]:Ex).map V.int)) na;refine⟨q1,qa,(aX (bt (cell/48) 2) [c] [-lt,lb]),[o,1],rfl,sa _ _ e1',ar,m1,by simp,by omega,by show 2<=1000;decide,w1.mono,bA2.mono,λy Hy sy ny ey=>?_⟩;exact hn _ _ ⟨y,rfl,(t3'.trans sa).trans sy,(t3'.trans sa).free ny,ey⟩
   ·have eb:bt (cell/4) 2=false:=decide_eq_false hb;rw[eb]at hn;exact hn _ _ ⟨q1,rfl,t3',f1,e1'⟩
  rintro Q2 H2 ⟨q2,rfl,t4',f2,e2'⟩;refine eC (λQ2 H'=>∃q:Addr,Q2=[some (.int o),some (.ref l),some (.int cell),some (.ref q)]/\Same H H'/\H q=none/\H' q=some (.lst ((aX (bt (cell/8) 2) (aX (bt (cell/4) 2) (aX (bt (cell/48) 2) [c] [-lt,lb]) [o,1]) (fqL o)).map V.int))) ?_ (λhn=>?_)
  rotate_left
  ·refine⟨_,rfl,_,_,rfl,rfl,⟨by show(0:Int)<8;decide,dI (by decide) (by decide)⟩,_,_,rfl,rfl,(by show(0:Int)<2;decide),_,_,rfl,rfl,_,rfl,aN (λhb=>?_) (λhb=>?_)⟩
   ·have eb:bt (cell/8) 2=true:=decide_eq_true hb;rw[eb]at hn;refine cK ⟨_,rfl,_,rfl,_,rfl,_,_,rfl,rfl,⟨bo.mono,bo.mono⟩,_,_,rfl,rfl,_,rfl,_,rfl,_,_,rfl,rfl,⟨bm2.mono,bo.mono⟩,by show 3<=sizeLine;decide,λqa na=>?_⟩;have sa:=Same.upd_new (o:=.lst ((fqL o:Ex).map V.int)) na;refine⟨q2,qa,(aX (bt (cell/4) 2) (aX (bt (cell/48) 2) [c] [-lt,lb]) [o,1]),fqL o,rfl,sa _ _ e2',ar,m2,nq,by omega,by show 3<=1000;decide,w2.mono,bA3.mono,λy Hy sy ny ey=>?_⟩;exact hn _ _ ⟨y,rfl,(t4'.trans sa).trans sy,(t4'.trans sa).free ny,ey⟩
   ·have eb:bt (cell/8) 2=false:=decide_eq_false hb;rw[eb]at hn;exact hn _ _ ⟨q2,rfl,t4',f2,e2'⟩
  rintro Q2 H3 ⟨q3,rfl,t5',f3,e3'⟩;refine eC (λQ2 H'=>∃q:Addr,Q2=[some (.int o),some (.ref l),some (.int cell),some (.ref q)]/\Same H H'/\H q=none/\H' q=some (.lst ((aX (bt (cell/16) 3) (aX (bt (cell/8) 2) (aX (bt (cell/4) 2) (aX (bt (cell/48) 2) [c] [-lt,lb]) [o,1]) (fqL o)) [1+cell/96%9,0,1]).map V.int))) ?_ (λhn=>?_)
  rotate_left
  ·refine⟨_,rfl,_,_,rfl,rfl,⟨by show(0:Int)<16;decide,dI (by decide) (by decide)⟩,_,_,rfl,rfl,(by show(0:Int)<3;decide),_,_,rfl,rfl,_,rfl,aN (λhb=>?_) (λhb=>?_)⟩
   ·have eb:bt (cell/16) 3=true:=decide_eq_true hb;rw[eb]at hn;refine cK ⟨_,rfl,_,rfl,_,_,rfl,rfl,⟨by show(0:Int)<96;decide,dI (by decide) (by decide)⟩,_,_,rfl,rfl,(by show(0:Int)<9;decide),_,_,rfl,rfl,by show 3<=sizeLine;decide,λqa na=>?_⟩;have sa:=Same.upd_new (o:=.lst (([1+cell/96%9,0,1]:Ex).map V.int)) na;refine⟨q3,qa,(aX (bt (cell/8) 2) (aX (bt (cell/4) 2) (aX (bt (cell/48) 2) [c] [-lt,lb]) [o,1]) (fqL o)),[1+cell/96%9,0,1],rfl,sa _ _ e3',ar,m3,by simp,by omega,by show 3<=1000;decide,w3.mono,bA4.mono,λy Hy sy ny ey=>?_⟩;exact hn _ _ ⟨y,rfl,(t5'.trans sa).trans sy,(t5'.trans sa).free ny,ey⟩
   ·have eb:bt (cell/16) 3=false:=decide_eq_false hb;rw[eb]at hn;exact hn _ _ ⟨q3,rfl,t5',f3,e3'⟩
  rintro Q2 H4 ⟨q4,rfl,t6',f4,e4'⟩;have w4:=ol (b:=bt (cell/16) 3) w3 bA4 (by show 3<=3;decide);obtain⟨l4,m4⟩:=oj (b:=bt (cell/16) 3) m3 (show[1+cell/96%9,0,1]≠[] by simp) l3 (by show 3<=3;decide);exact bC ⟨_,rfl,k c hc ⟨m4,by unfold bI;omega,w4.mono⟩ q4 H4 t6' f4 e4'⟩
structure PyH(H H':Hp)(p:Addr)(ps:List Addr)(L:List Ex)(n:Nat):Prop where
 s:Same H H'
 f:H p=none
 e:H' p=some (.lst (ps.map V.ref))
 r:RwH H' ps L
 ne:∀x∈ps,x≠p
 len:L.length<=n
def PyH.same{H H1 H2:Hp}{p:Addr}{ps:List Addr}{L:List Ex}{n:Nat}(h:PyH H H1 p ps L n)(s:Same H1 H2):PyH H H2 p ps L n:=⟨h.s.trans s,h.f,s _ _ h.e,h.r.same s,h.ne,h.len⟩
def PyH.sz{H H1:Hp}{p:Addr}{ps:List Addr}{L:List Ex}{n:Nat}(h:PyH H H1 p ps L n):ps.length<=n:=by rw[h.r.1];exact h.len
def PyH.app{H H1:Hp}{p q:Addr}{ps:List Addr}{L:List Ex}{xs:Ex}{n:Nat}(h:PyH H H1 p ps L n)(hq:H1 q=some (.lst (xs.map V.int)))(ne:q≠p):PyH H (upd H1 p (.lst (ps.map V.ref++[V.ref q]))) p (ps++[q]) (L++[xs]) (n+1):=by
 refine⟨fO h.s h.f,h.f,by rw[ar,Nc];rfl,?_,λx hx=>?_,by rw[MY];exact Nat.succ_le_succ h.len⟩
 ·exact(h.r.upd_ne h.ne).snoc (by rw[upd_ne ne];exact hq)
 ·rcases MS.mp hx with z |z
  ·exact h.ne x z
  ·rw[MH.mp z];exact ne
def PyH.grow{H H1:Hp}{p:Addr}{ps:List Addr}{L:List Ex}{n m:Nat}(h:PyH H H1 p ps L n)(hn:n<=m):PyH H H1 p ps L m:=⟨h.s,h.f,h.e,h.r,h.ne,MU h.len hn⟩
def PyH.cat{H H1:Hp}{p p2:Addr}{ps qs:List Addr}{L M:List Ex}{n:Nat}(h:PyH H H1 p ps L n)(hq:RwH H1 qs M)(n2:H1 p2=none):PyH H (upd H1 p2 (.lst (ps.map V.ref++qs.map V.ref))) p2 (ps++qs) (L++M) (n+M.length):=by
 have s2:=Same.upd_new (o:=.lst (ps.map V.ref++qs.map V.ref)) n2
 have ok:∀{rs:List Addr} {N:List Ex},RwH H1 rs N->∀x∈rs,x≠p2:=λ{rs N} hr x hx z=>by
  obtain⟨i,hi,ei⟩:=OS.mp hx;have hN:i<N.length:=by rw[<- hr.1];exact hi
  have:=hr.2 i x N[i] (by rw[<- ei];exact List.getElem?_eq_getElem hi) (List.getElem?_eq_getElem hN);rw[z,n2]at this;cases this
 refine⟨h.s.then_new n2,h.s.free n2,by rw[ar,Nc],?_,λx hx=>?_,by rw[MY];exact Nat.add_le_add_right h.len _⟩
 ·have a:=h.r.same s2;have b:=hq.same s2;refine⟨by rw[MY,MY,a.1,b.1],λi x xs e1 e2=>?_⟩;by_cases hi:i<ps.length
  ·rw[List.getElem?_append_left hi]at e1;rw[List.getElem?_append_left (by rw[<- a.1];exact hi)]at e2;exact a.2 i x xs e1 e2
  ·rw[List.getElem?_append_right (by omega)]at e1;rw[List.getElem?_append_right (by rw[<- a.1];omega),<- a.1]at e2;exact b.2 _ x xs e1 e2
 ·rcases MS.mp hx with z |z
  ·exact ok h.r x z
  ·exact ok hq x z
noncomputable def pl1(b2:Bool)(o:Int):List Ex:=if b2=true then[[o,1]]else[]
noncomputable def pl2(kind:Int)(due:Ex)(L:List Ex):List Ex:=if kind=1 then L++[due,due,due]else L
noncomputable def pl3(c:Prop)[Decidable c](x:Ex)(L:List Ex):List Ex:=if c then L++[x]else L
noncomputable def pl7(b3:Bool)(o:Int)(L:List Ex):List Ex:=if b3=true then L++[fqL o,fqL o]else L
noncomputable def k8(kind v o lt lb:Int)(b1 b2 b3:Bool)(due:Ex):List Ex:=pl7 b3 o (pl3 (kind=0/\v<0) due (pl3 (b1=true) [-lt,lb] (pl3 (kind=0/\0<v) due (pl2 kind due (pl1 b2 o)))++[due]))
def wZ(C:Addr):Sp:=λvs H Q _=>∃(wt l du:Addr) (kind u v w d o lt lb cell:Int) (due:Ex),vs=[.int kind,.ref wt,.int o,.ref l,.int cell,.ref du]/\WT H wt u v w d/\RA C H l lt lb/\H du=some (.lst (due.map V.int))/\Bits 20 o/\∀(p:Addr) (ps:List Addr) (H':Hp),PyH H H' p ps (k8 kind v o lt lb (bt (cell/48) 2) (bt (cell/4) 2) (bt (cell/8) 2) due) 10->Q (.ref p) H'
def FY(F:Fun K "_law_all_polys" "_law_all_polys" si f fd)(T:Txt K mg)(R:RCI K mg C):FnOk P w K mg base aD 1 f fd ["_law_kind","_law_worth_here","_law_out","_law_low","_law_cell","_law_due"] (wZ C):=by
 refine F.ok nh (λvs H Q E h=>?_) (λ_ A _ s H vs Q E hr h=>?_)
 ·obtain⟨wt,l,du,kind,u,v,w,d,o,lt,lb,cell,due,rfl,_⟩:=h;rfl
 ·obtain⟨wt,l,du,kind,u,v,w,d,o,lt,lb,cell,due,rfl,hT,hR,hdu,bo,k⟩:=h
  refine⟨_,(ah (ak 6 nh (aU ad))
   (ah (aP (aG cB (ag cA (ag cZ (pv 4) ae) ae) ae)
     (ai (dU (ga (pv 6) (ac (aU (ac (pv 2) (ac ae ad))) ad))))
     aR)
   (ah (aP (aG cB (pv 0) ae)
     (ai (ak 6 nh (ag yI (pv 6) (aU (ac (pv 5) (ac (pv 5) (ac (pv 5) ad)))))))
     aR)
   (ah (aP (PW.pt (g7 (aG cB (pv 0) ae) (g6 (aG eE (aS K (pv 1) ae) ae))))
     (ai (dU (ga (pv 6) (ac (pv 5) ad))))
     aR)
   (ah (aP (aG cB (ag cA (ag cZ (pv 4) ae) ae) ae)
     (ai (dU (ga (pv 6) (ac (aU (ac (bV bU (aQ (K:=K) rfl (pv 3) rfl)) (ac (aQ (K:=K) rfl (pv 3) rfl) ad))) ad))))
     aR)
   (ah (dU (ga (pv 6) (ac (pv 5) ad)))
   (ah (aP (PW.pt (g7 (aG cB (pv 0) ae) (g6 (aG dJ (aS K (pv 1) ae) ae))))
     (ai (dU (ga (pv 6) (ac (pv 5) ad))))
     aR)
   (ah (aP (aG cB (ag cA (ag cZ (pv 4) ae) ae) ae)
     (ai (ak 6 nh (ag yI (pv 6) (aU (ac (aU (ac (ag cg (ag aE (pv 2) (pv 2)) ae) (ac (ag aE (bV bU ae) (pv 2)) (ac ae ad)))) (ac (aU (ac (ag cg (ag aE (pv 2) (pv 2)) ae) (ac (ag aE (bV bU ae) (pv 2)) (ac ae ad)))) ad))))))
     aR)
   (ai (aB (pv 6))))))))))),?_⟩
  have big:=sizeLine_eq;have bm2:Bits 2 (-2:Int):=by show(-2:Int).natAbs<2^2;decide
  refine az ⟨MK _,λp0 n0=>?_⟩;have h0:PyH H (upd H p0 (.lst (([]:List Addr).map V.ref))) p0 [] [] 0:=⟨Same.upd_new n0,n0,ar,RwH.nil,(λx hx=>nomatch hx),MI _⟩;show cx (fH _ _ _) _ _ _ _;refine dX (λQ2 H'=>Q2=[some (.int kind),some (.ref wt),some (.int o),some (.ref l),some (.int cell),some (.ref du),some (.ref p0)]/\upd H p0 (.lst (([]:List Addr).map V.ref))=H') ⟨rfl,rfl⟩ ?_;rintro Q2 H' ⟨rfl,rfl⟩;generalize upd H p0 (.lst (([]:List Addr).map V.ref))=H0 at h0 ⊢
  have dn:∀{p:Addr},H p=none->du≠p:=λhp z=>by rw[z,hp]at hdu;cases hdu
  refine eC (λQ2 H'=>∃(p:Addr) (ps:List Addr),Q2=[some (.int kind),some (.ref wt),some (.int o),some (.ref l),some (.int cell),some (.ref du),some (.ref p)]/\PyH H H' p ps (pl1 (bt (cell/4) 2) o) 1) ?_ (λhn=>?_)
  rotate_left
  ·refine⟨_,rfl,_,_,rfl,rfl,⟨by show(0:Int)<4;decide,dI (by decide) (by decide)⟩,_,_,rfl,rfl,(by show(0:Int)<2;decide),_,_,rfl,rfl,_,rfl,aN (λhb=>?_) (λhb=>?_)⟩
   ·have eb:bt (cell/4) 2=true:=decide_eq_true hb;rw[eb]at hn;refine jJ ⟨_,rfl,.inl ⟨rfl,_,SqL.of h0.e⟩,_,rfl,by show 2<=sizeLine;decide,λq nq=>?_⟩;have sq:=Same.upd_new (o:=.lst (([o,1]:Ex).map V.int)) nq;have h1:=h0.same sq;have nqp:q≠p0:=λz=>by rw[z,h0.e]at nq;cases nq
    refine⟨p0,_,_,rfl,rfl,h1.e,by have:=h0.sz;rw[MC];omega,?_⟩;exact hn _ _ ⟨p0,_,rfl,h1.app ar nqp⟩
   ·have eb:bt (cell/4) 2=false:=decide_eq_false hb;rw[eb]at hn;exact hn _ _ ⟨p0,_,rfl,h0.grow (by decide)⟩
  rintro Q2 H1 ⟨p1,ps1,rfl,h1⟩;refine eC (λQ2 H'=>∃(p:Addr) (ps:List Addr),Q2=[some (.int kind),some (.ref wt),some (.int o),some (.ref l),some (.int cell),some (.ref du),some (.ref p)]/\PyH H H' p ps (pl2 kind due (pl1 (bt (cell/4) 2) o)) 4) ?_ (λhn=>?_)
  rotate_left
  ·refine⟨_,rfl,_,_,rfl,rfl,_,rfl,aN (λhb=>?_) (λhb=>?_)⟩
   ·have hdu1:=h1.s _ _ hdu;refine cK ⟨_,rfl,_,rfl,_,rfl,_,rfl,by show 3<=sizeLine;decide,λq nq=>?_⟩;have sq:=Same.upd_new (o:=.lst (([du,du,du]:List Addr).map V.ref)) nq;have h1':=h1.same sq;have hd':=sq _ _ hdu1;have rw3:RwH (upd H1 q (.lst (([du,du,du]:List Addr).map V.ref))) [du,du,du] [due,due,due]:=((RwH.nil.snoc hd').snoc hd').snoc hd';refine⟨p1,q,_,_,rfl,rfl,h1'.e,ar,by have:=h1.sz;rw[MC];show ps1.length+3<=sizeLine;omega,λp2 n2=>?_⟩;refine hn _ _ ⟨p2,ps1++[du,du,du],rfl,?_⟩;have:=h1'.cat rw3 n2;unfold pl2;rw[if_pos (show kind=1 from hb)];exact this
   ·refine hn _ _ ⟨p1,ps1,rfl,?_⟩;unfold pl2;rw[if_neg (show ¬kind=1 from hb)];exact h1.grow (by decide)
  rintro Q2 H2 ⟨p2,ps2,rfl,h2⟩;refine eC (λQ2 H'=>∃(p:Addr) (ps:List Addr),Q2=[some (.int kind),some (.ref wt),some (.int o),some (.ref l),some (.int cell),some (.ref du),some (.ref p)]/\PyH H H' p ps (pl3 (kind=0/\0<v) due (pl2 kind due (pl1 (bt (cell/4) 2) o))) 5) ?_ (λhn=>?_)
  rotate_left
  ·have no:¬(kind=0/\0<v)->_:=λhc=>hn _ _ ⟨p2,ps2,rfl,by unfold pl3;rw[if_neg hc];exact h2.grow (by decide)⟩
   refine gB ⟨_,rfl,_,_,rfl,rfl,_,rfl,aN (λhb=>?_) (λhb=>dA (no λz=>hb z.1))⟩;refine⟨_,rfl,wt,_,_,_,rfl,rfl,SqT.of (h2.s _ _ hT),rfl,_,_,rfl,rfl,_,rfl,aN (λhc=>?_) (λhc=>no λz=>hc z.2)⟩;refine jJ ⟨_,rfl,.inl ⟨rfl,_,SqL.of h2.e⟩,_,rfl,p2,_,_,rfl,rfl,h2.e,by have:=h2.sz;rw[MC];omega,?_⟩;refine hn _ _ ⟨p2,ps2++[du],rfl,?_⟩;have:=h2.app (h2.s _ _ hdu) (dn h2.f);unfold pl3;rw[if_pos ⟨hb,hc⟩];exact this
  rintro Q2 H3 ⟨p3,ps3,rfl,h3⟩;refine eC (λQ2 H'=>∃(p:Addr) (ps:List Addr),Q2=[some (.int kind),some (.ref wt),some (.int o),some (.ref l),some (.int cell),some (.ref du),some (.ref p)]/\PyH H H' p ps (pl3 (bt (cell/48) 2=true) [-lt,lb] (pl3 (kind=0/\0<v) due (pl2 kind due (pl1 (bt (cell/4) 2) o)))) 6) ?_ (λhn=>?_)
  rotate_left
  ·refine⟨_,rfl,_,_,rfl,rfl,⟨by show(0:Int)<48;decide,dI (by decide) (by decide)⟩,_,_,rfl,rfl,(by show(0:Int)<2;decide),_,_,rfl,rfl,_,rfl,aN (λhb=>?_) (λhb=>?_)⟩
   ·have eb:bt (cell/48) 2=true:=decide_eq_true hb;obtain⟨dx,hRx'⟩:=hR.same h3.s;refine jJ ⟨_,rfl,.inl ⟨rfl,_,SqL.of h3.e⟩,_,rfl,l,C,dx,_,_,rfl,hRx',R.cl,R.nT,c7,_,rfl,_,rfl,l,C,dx,_,_,rfl,hRx',R.cl,R.nB,ci,by show 2<=sizeLine;decide,λq nq=>?_⟩;have sq:=Same.upd_new (o:=.lst (([-lt,lb]:Ex).map V.int)) nq;have h3':=h3.same sq;have nqp:q≠p3:=λz=>by rw[z,h3.e]at nq;cases nq
    refine⟨p3,_,_,rfl,rfl,h3'.e,by have:=h3.sz;rw[MC];omega,?_⟩;refine hn _ _ ⟨p3,ps3++[q],rfl,?_⟩;have:=h3'.app (xs:=[-lt,lb]) ar nqp;unfold pl3 at this ⊢
    rw[if_pos eb];exact this
   ·have eb:¬bt (cell/48) 2=true:=by rw[show bt (cell/48) 2=false from decide_eq_false hb];decide
    refine hn _ _ ⟨p3,ps3,rfl,?_⟩;have:=h3.grow (m:=6) (by decide);unfold pl3 at this ⊢
    rw[if_neg eb];exact this
  rintro Q2 H4 ⟨p4,ps4,rfl,h4⟩;refine gA ⟨_,rfl,.inl ⟨rfl,_,SqL.of h4.e⟩,_,rfl,p4,_,_,rfl,rfl,h4.e,by have:=h4.sz;rw[MC];omega,?_⟩;have h5:=h4.app (h4.s _ _ hdu) (dn h4.f);generalize upd H4 p4 (.lst (ps4.map V.ref++[V.ref du]))=H5 at h5 ⊢
  generalize ps4++[du]=ps5 at h5
  refine eC (λQ2 H'=>∃(p:Addr) (ps:List Addr),Q2=[some (.int kind),some (.ref wt),some (.int o),some (.ref l),some (.int cell),some (.ref du),some (.ref p)]/\PyH H H' p ps (pl3 (kind=0/\v<0) due ((pl3 (bt (cell/48) 2=true) [-lt,lb] (pl3 (kind=0/\0<v) due (pl2 kind due (pl1 (bt (cell/4) 2) o))))++[due])) 8) ?_ (λhn=>?_)
  rotate_left
  ·have no:¬(kind=0/\v<0)->_:=λhc=>hn _ _ ⟨p4,ps5,rfl,by unfold pl3;rw[if_neg hc];exact h5.grow (by decide)⟩
   refine gB ⟨_,rfl,_,_,rfl,rfl,_,rfl,aN (λhb=>?_) (λhb=>dA (no λz=>hb z.1))⟩;refine⟨_,rfl,wt,_,_,_,rfl,rfl,SqT.of (h5.s _ _ hT),rfl,_,_,rfl,rfl,_,rfl,aN (λhc=>?_) (λhc=>no λz=>hc z.2)⟩;refine jJ ⟨_,rfl,.inl ⟨rfl,_,SqL.of h5.e⟩,_,rfl,p4,_,_,rfl,rfl,h5.e,by have:=h5.sz;rw[MC];omega,?_⟩;refine hn _ _ ⟨p4,ps5++[du],rfl,?_⟩;have:=h5.app (h5.s _ _ hdu) (dn h5.f);unfold pl3;rw[if_pos ⟨hb,hc⟩];exact this
  rintro Q2 H6 ⟨p6,ps6,rfl,h6⟩;refine eC (λQ2 H'=>∃(p:Addr) (ps:List Addr),Q2=[some (.int kind),some (.ref wt),some (.int o),some (.ref l),some (.int cell),some (.ref du),some (.ref p)]/\PyH H H' p ps (pl7 (bt (cell/8) 2) o (pl3 (kind=0/\v<0) due ((pl3 (bt (cell/48) 2=true) [-lt,lb] (pl3 (kind=0/\0<v) due (pl2 kind due (pl1 (bt (cell/4) 2) o))))++[due]))) 10) ?_ (λhn=>?_)
  rotate_left
  ·refine⟨_,rfl,_,_,rfl,rfl,⟨by show(0:Int)<8;decide,dI (by decide) (by decide)⟩,_,_,rfl,rfl,(by show(0:Int)<2;decide),_,_,rfl,rfl,_,rfl,aN (λhb=>?_) (λhb=>?_)⟩
   ·have eb:bt (cell/8) 2=true:=decide_eq_true hb;refine cK ⟨_,rfl,_,rfl,_,rfl,_,_,rfl,rfl,⟨bo.mono,bo.mono⟩,_,_,rfl,rfl,_,rfl,_,rfl,_,_,rfl,rfl,⟨bm2.mono,bo.mono⟩,by show 3<=sizeLine;decide,λqa na=>?_⟩;have sa:=Same.upd_new (o:=.lst ((fqL o).map V.int)) na;refine⟨_,rfl,_,rfl,_,_,rfl,rfl,⟨bo.mono,bo.mono⟩,_,_,rfl,rfl,_,rfl,_,rfl,_,_,rfl,rfl,⟨bm2.mono,bo.mono⟩,by show 3<=sizeLine;decide,λqb nb=>?_⟩;have sb:=Same.upd_new (o:=.lst ((fqL o).map V.int)) nb;refine⟨by show 2<=sizeLine;decide,λq nq=>?_⟩;have sq:=Same.upd_new (o:=.lst (([qa,qb]:List Addr).map V.ref)) nq;have sab:=sb.trans sq;have h6':=h6.same (sa.trans sab);have ea:upd H6 qa (.lst ((fqL o).map V.int)) qa=some (.lst ((fqL o).map V.int)):=ar;have eb':upd (upd H6 qa (.lst ((fqL o).map V.int))) qb (.lst ((fqL o).map V.int)) qb=some (.lst ((fqL o).map V.int)):=ar;have rw2:=(RwH.nil.snoc (sab _ _ ea)).snoc (sq _ _ eb');refine⟨p6,q,_,_,rfl,rfl,h6'.e,ar,by have:=h6.sz;rw[MC];show ps6.length+2<=sizeLine;omega,λp7 n7=>?_⟩;refine hn _ _ ⟨p7,ps6++[qa,qb],rfl,?_⟩;have:=h6'.cat rw2 n7;unfold pl7;rw[if_pos eb];exact this
   ·have eb:¬bt (cell/8) 2=true:=by rw[show bt (cell/8) 2=false from decide_eq_false hb];decide
    refine hn _ _ ⟨p6,ps6,rfl,?_⟩;unfold pl7;rw[if_neg eb];exact h6.grow (by decide)
  rintro Q2 H7 ⟨p7,ps7,rfl,h7⟩;exact bC ⟨_,rfl,k p7 ps7 H7 h7⟩
structure TrnP(p:Ex)(l1 l2 h1 h2:Int):Prop where
 en:EndsG 710 l1 l2 h1 h2
 l9:p.length<=9
 bits:AllB 100 p
 s0:sg (hv l1 l2 p)≠0
 s1:sg (hv h1 h2 p)≠sg (hv l1 l2 p)
def pW(C CN:Addr):Sp:=λvs H Q _=>∃(x du:Addr) (p:Ex) (l1 l2 h1 h2:Int),vs=[.ref x,.ref du]/\NmH C CN H x p l1 l2 h1 h2/\H du=some (.lst (p.map V.int))/\TrnP p l1 l2 h1 h2/\Q (.bl true) H
def FL(F:Fun K "_law_turns" "_law_turns" rS f fd)(T:Txt K mg)(R:RCI K mg C)(RN:NCI K mg CN)(v5:Cal P w K mg base 2 "_law_poly" ["_law_found"] qg Ji II)(gT:MCal P w K mg base 2 C "against" ["self","other"] (jt C) oR oQ)(vZ:Cal P w K mg base 1 "_law_side" ["_law_kp","_law_r"] (wU C) Ml LG):FnOk P w K mg base aD 3 f fd ["_law_n","_law_due"] (pW C CN):=by
 obtain⟨gs,ge,gm⟩:=gT;refine F.ok Dm (λvs H Q E h=>?_) (λ_ A _ s H vs Q E hr h=>?_)
 ·obtain⟨x,du,p,l1,l2,h1,h2,rfl,_⟩:=h;rfl
 ·obtain⟨x,du,p,l1,l2,h1,h2,rfl,hN,hdu,hU,k⟩:=h;have hu:=hr.units
  refine⟨_,(ah (aP (PW.pt (iI (g8 (gC (cM (mq (K:=K) rfl) (by rfl) T.isinstance_ PyProof.Rows.boot_isinstance (ac (pv 0) (ac (yC (v:=.ref CN) rfl RN.mg rfl) ad))))) (iI (g8 (gC (am v5 hr (ac (aQ (K:=K) rfl (pv 0) rfl) ad)))) (iI (aG (hZ (K:=K) rfl hu) (aQ (K:=K) rfl (pv 0) rfl) (pv 1)) (nQ (aG om (dC (aQ (K:=K) rfl (pv 0) rfl) R.cl ge gs (hr.mono) gm .nil aZ (ac (aQ (K:=K) rfl (pv 0) rfl) ad)) ae))))))
   (ai (aB f9))
   aR)
   (ai (aB (yF (iO gJ (am vZ hr (ac (pv 1) (ac (aQ (K:=K) rfl (pv 0) rfl) ad))) ae) (yA (iO gJ (am vZ hr (ac (pv 1) (ac (aQ (K:=K) rfl (pv 0) rfl) ad))) (am vZ hr (ac (pv 1) (ac (aQ (K:=K) rfl (pv 0) rfl) ad))))))))),?_⟩
  obtain⟨q,l,h,⟨dx,hx⟩,hq,hl,hh⟩:=id hN;obtain⟨dl,hl0⟩:=id hl;have en:=hU.en;refine cp (jI (iG (sL (kW ⟨_,rfl,Ho (.ins hx RN.cl RN.ha RN.hn RN.ht RN.hm) (k:=true) (by unfold PySem.W.kitOne;rw[if_pos (by simp)]) ⟨_,rfl,dA ?_⟩⟩))));refine jI (iG ⟨_,rfl,x,CN,dx,_,_,rfl,hx,RN.cl,RN.nP,zW,q,p,rfl,hq,_,rfl,dA ?_⟩);refine jI ⟨_,rfl,x,CN,dx,_,_,rfl,hx,RN.cl,RN.nP,zW,_,rfl,q,du,p,p,rfl,rfl,SqL.of hq,SqL.of hdu,_,rfl,de (λz=>absurd rfl z) (λ_=>?_)⟩;refine⟨_,rfl,x,CN,dx,_,_,rfl,hx,RN.cl,RN.nL,lV,l,dl,_,rfl,hl0,dk fg.1 fg.2,_,rfl,x,CN,dx,_,_,rfl,hx,RN.cl,RN.nH,zX,l,h,l1,l2,h1,h2,rfl,hl,hh,en.bl1.mono,en.bl2.mono,en.bh1.mono,en.bh2.mono,_,_,rfl,rfl,_,rfl,aN (λhge=>?_) (λ_=>?_)⟩
  ·have:sg (l1*h2-h1*l2) = -1:=qB (by have:=en.lt;omega);rw[this]at hge;exact absurd hge (by decide)
  refine bC (yc ⟨_,rfl,_,rfl,x,CN,dx,_,_,rfl,hx,RN.cl,RN.nL,lV,du,l,p,l1,l2,rfl,hdu,hl,hU.l9,hU.bits,en.bl1.mono,en.bl2.mono,en.l2p,_,_,rfl,rfl,_,rfl,de (λ_=>?_) (λz=>absurd z hU.s0)⟩);refine⟨_,rfl,_,rfl,x,CN,dx,_,_,rfl,hx,RN.cl,RN.nH,zX,du,h,p,h1,h2,rfl,hdu,hh,hU.l9,hU.bits,en.bh1.mono,en.bh2.mono,en.h2p,_,rfl,_,rfl,x,CN,dx,_,_,rfl,hx,RN.cl,RN.nL,lV,du,l,p,l1,l2,rfl,hdu,hl,hU.l9,hU.bits,en.bl1.mono,en.bl2.mono,en.l2p,_,_,rfl,rfl,?_⟩;show Q (V.bl (!decide (_=_))) H;rw[decide_eq_false hU.s1];exact k
structure RD where
 p:Ex
 l1:Int
 l2:Int
 h1:Int
 h2:Int
structure Rr(C CN:Addr)(H:Hp)(xs ps:List Addr)(ds:List RD):Prop where
 lx:xs.length=ds.length
 lp:ps.length=ds.length
 at':∀(i:Nat) (x:Addr) (d:RD),xs[i]?=some x->ds[i]?=some d->NmH C CN H x d.p d.l1 d.l2 d.h1 d.h2/\TrnP d.p d.l1 d.l2 d.h1 d.h2
 pol:∀(i:Nat) (q:Addr) (d:RD),ps[i]?=some q->ds[i]?=some d->H q=some (.lst (d.p.map V.int))
 ord:∀(i j:Nat) (d e:RD),i<j->ds[i]?=some d->ds[j]?=some e->d.l1*e.l2<e.l1*d.l2
def Rr.get{C CN:Addr}{H:Hp}{xs ps:List Addr}{ds:List RD}(h:Rr C CN H xs ps ds){i:Nat}(hi:i<ds.length):∃(x q:Addr) (d:RD),atI (xs.map V.ref) (0+(i:Int))=some (.ref x)/\atI (ps.map V.ref) (0+(i:Int))=some (.ref q)/\ds[i]?=some d/\NmH C CN H x d.p d.l1 d.l2 d.h1 d.h2/\TrnP d.p d.l1 d.l2 d.h1 d.h2/\H q=some (.lst (d.p.map V.int)):=by
 have e0:(0:Int)+(i:Int)=(i:Int):=by omega
 have hx:i<xs.length:=by rw[h.lx];exact hi
 have hp:i<ps.length:=by rw[h.lp];exact hi
 have e1:=List.getElem?_eq_getElem hi;have e2:=List.getElem?_eq_getElem hx;have e3:=List.getElem?_eq_getElem hp;obtain⟨a,b⟩:=h.at' i _ _ e2 e1;refine⟨xs[i],ps[i],ds[i],?_,?_,e1,a,b,h.pol i _ _ e3 e1⟩
 ·rw[e0];exact gQ (by rw[List.getElem?_map,e2];rfl)
 ·rw[e0];exact gQ (by rw[List.getElem?_map,e3];rfl)
def wX(C CN:Addr):Sp:=λvs H Q _=>∃(a b:Addr) (xs ps:List Addr) (ds:List RD),vs=[.ref a,.ref b]/\H a=some (.lst (xs.map V.ref))/\H b=some (.lst (ps.map V.ref))/\ds.length<=20/\Rr C CN H xs ps ds/\Q (.bl true) H
def FQ(F:Fun K "_law_roots_right" "_law_roots_right" rY f fd)(T:Txt K mg)(R:RCI K mg C)(RN:NCI K mg CN)(vX:Cal P w K mg base 3 "_law_turns" ["_law_n","_law_due"] (pW C CN) Jg IG)(gT:MCal P w K mg base 2 C "against" ["self","other"] (jt C) oR oQ):FnOk P w K mg base aD 4 f fd ["_law_found","_law_polys"] (wX C CN):=by
 obtain⟨gs,ge,gm⟩:=gT;refine F.ok qG (λvs H Q E h=>?_) (λ_ A _ s H vs Q E hr h=>?_)
 ·obtain⟨a,b,xs,ps,ds,rfl,_⟩:=h;rfl
 ·obtain⟨a,b,xs,ps,ds,rfl,hA,hB,h20,hR,k⟩:=h;have hu:=hr.units;have big:=sizeLine_eq;have la:(xs.map V.ref).length=ds.length:=by rw[MC,hR.lx]
  have lb:(ps.map V.ref).length=ds.length:=by rw[MC,hR.lp]
  refine⟨_,(ah (aP (PW.pt (iI (g8 (gC (cM (mq (K:=K) rfl) (by rfl) T.isinstance_ PyProof.Rows.boot_isinstance (ac (pv 0) (ac (og (v:=.ty "list") (by rfl) T.list_ PyProof.Rows.boot_list (by rfl)) ad))))) (nQ (aG gJ (cU K T.len_ (ac (pv 0) ad)) (cU K T.len_ (ac (pv 1) ad))))))
   (ai (aB f9))
   aR)
   (ah (cT PassesOwn.never rfl (gF rfl T.range_ (ac (cU K T.len_ (ac (pv 1) ad)) ad)) (aY 2 qG)
     (ah (aP (g8 (gC (am vX hr (ac (ce K (pv 0) (pv 2)) (ac (ce K (pv 1) (pv 2)) ad)))))
       (ai (aB f9))
       aR)
       (ai (cT PassesOwn.never rfl (gF rfl T.range_ (ac (pv 2) ad)) (aY 3 qG)
         (ai (aP (PW.pt (g7 (aG (iQ (K:=K) rfl hu) (ce K (pv 1) (pv 3)) (ce K (pv 1) (pv 2))) (g6 (aG om (dC (aQ (K:=K) rfl (ce K (pv 0) (pv 3)) rfl) R.cl ge gs (hr.mono) gm .nil aZ (ac (aQ (K:=K) rfl (ce K (pv 0) (pv 2)) rfl) ad)) ae))))
           (ai (aB f9))
           aR))))))
   (ai (aB f9)))),?_⟩
  refine cp (jI (iG (sL (kW ⟨_,rfl,oI (.lst hA) (k:=true) (by rfl) ⟨_,rfl,dA ?_⟩⟩))));refine⟨_,rfl,a,_,rfl,.inl (SqL.of hA),_,rfl,b,_,rfl,.inl (SqL.of hB),_,_,rfl,rfl,_,rfl,de (λz=>absurd (show((xs.map V.ref).length:Int)=((ps.map V.ref).length:Int) by rw[la,lb]) z) (λ_=>?_)⟩;refine⟨_,rfl,b,_,rfl,.inl (SqL.of hB),_,rfl,by rw[lb];omega,by rw[lb];omega,?_⟩;rw[lb];refine iW (lo:=0) (n:=ds.length) (λi Q2 H'=>∃z2 z3:Option V,Q2=[some (.ref a),some (.ref b),z2,z3]/\H=H') ⟨none,none,rfl,rfl⟩ ?_ ?_
  ·rintro i Q2 H' hi ⟨z2,z3,rfl,rfl⟩;obtain⟨x,q,d,ax,aq,ed,hN,hT,hq⟩:=hR.get hi;obtain⟨qp,lo,hi',⟨dx,hx⟩,hqp,hlo,hhi⟩:=id hN;obtain⟨dl,hlo0⟩:=id hlo;refine cp (iG ⟨_,rfl,_,rfl,a,_,_,_,rfl,rfl,SqL.of hA,ax,_,rfl,_,rfl,b,_,_,_,rfl,rfl,SqL.of hB,aq,x,q,d.p,d.l1,d.l2,d.h1,d.h2,rfl,hN,hq,hT,_,rfl,dA ?_⟩);refine⟨_,rfl,_,rfl,by omega,by omega,?_⟩;rw[show(0+(i:Int)).toNat=i by omega];refine iW (lo:=0) (n:=i) (λj Q2 H'=>∃z3:Option V,Q2=[some (.ref a),some (.ref b),some (.int (0+(i:Int))),z3]/\H=H') ⟨z3,rfl,rfl⟩ ?_ ?_
   ·rintro j Q2 H' hj ⟨z4,rfl,rfl⟩;obtain⟨y,qy,e,ay,aqy,ede,hNy,hTy,hqy⟩:=hR.get (i:=j) (by omega);obtain⟨qpy,ly,hy',⟨dy,hy⟩,_,hly,_⟩:=id hNy;obtain⟨dly,hly0⟩:=id hly;have ord:=hR.ord j i e d hj ede ed;refine gZ (gB ⟨_,rfl,_,rfl,b,_,_,_,rfl,rfl,SqL.of hB,aqy,_,rfl,_,rfl,b,_,_,_,rfl,rfl,SqL.of hB,aq,qy,q,e.p,d.p,rfl,rfl,SqL.of hqy,SqL.of hq,_,rfl,aN (λ_=>?_) (λ_=>dA ⟨_,rfl,rfl⟩)⟩);refine⟨_,rfl,_,rfl,a,_,_,_,rfl,rfl,SqL.of hA,ay,y,CN,dy,_,_,rfl,hy,RN.cl,RN.nL,lV,ly,dly,_,rfl,hly0,dk fg.1 fg.2,_,rfl,_,rfl,a,_,_,_,rfl,rfl,SqL.of hA,ax,x,CN,dx,_,_,rfl,hx,RN.cl,RN.nL,lV,ly,lo,e.l1,e.l2,d.l1,d.l2,rfl,hly,hlo,hTy.en.bl1.mono,hTy.en.bl2.mono,hT.en.bl1.mono,hT.en.bl2.mono,_,_,rfl,rfl,_,rfl,aN (λhge=>?_) (λ_=>⟨_,rfl,rfl⟩)⟩;have:sg (e.l1*d.l2-d.l1*e.l2) = -1:=qB (by omega);rw[this]at hge;exact absurd hge (by decide)
   ·rintro Q2 H' ⟨z4,rfl,rfl⟩;exact⟨_,_,rfl,rfl⟩
  ·rintro Q2 H' ⟨z2,z3,rfl,rfl⟩;exact k
theorem G2{P:Nat->Prop}:∀n,P n->∃k,k<=n/\P k/\∀j,j<k->¬P j
 |0,h=>⟨0,MI _,h,λj hj=>absurd hj (OB _)⟩
 |n+1,h=>by
  by_cases q:∃m,m<=n/\P m
  ·obtain⟨m,hm,hp⟩:=q
   obtain⟨k,k1,k2,k3⟩:∃k,k<=m/\P k/\∀j,j<k->¬P j:=by
    have:∀t m,m<=t->P m->∃k,k<=m/\P k/\∀j,j<k->¬P j:=by
     intro t
     induction t with
     |zero=>intro m hm hp;exact⟨m,MI _,hp,λj hj=>by omega⟩
     |succ t ih =>
      intro m hm hp;by_cases z:∃j,j<m/\P j
      ·obtain⟨j,j1,j2⟩:=z;obtain⟨k,k1,k2,k3⟩:=ih j (by omega) j2;exact⟨k,by omega,k2,k3⟩
      ·exact⟨m,MI _,hp,λj hj y=>z ⟨j,hj,y⟩⟩
    exact this m m (MI _) hp
   exact⟨k,by omega,k2,k3⟩
  ·exact⟨n+1,MI _,h,λj hj y=>q ⟨j,by omega,y⟩⟩
def HR{G:Ex}(h:Fp G):∃kb,Gd G kb:=by
 have hp:=h.pln.pos
 obtain⟨k,_,k2,k3⟩:=G2 (P:=λk=>∀x∈G.take (G.length-1),x.natAbs<=(2^k-1)*(ao G).natAbs) 110 λx hx=>by
  have h1:x.natAbs<2^100:=h.bits x (O2 hx);have h2:2^110-1<=(2^110-1)*(ao G).natAbs:=OR _ (by omega);have h3:(2:Nat)^100<2^110-1:=by decide
  omega
 refine⟨k,h,k2,λj hj=>?_⟩;obtain⟨x,hx⟩:=Classical.not_forall.mp (k3 j hj);obtain⟨h1,h2⟩:=Classical.not_imp.mp hx;exact⟨x,h1,by omega⟩
def Ic{F:Ex}{zd:List ((Rat×Rat)×Ex)}{dq:Ex}{low high:Rat}(h:Big F (au F) zd dq low high)(l9:F.length<=9)(bF:AllB 100 F)(sm:∀e∈zd,AllB 100 e.2/\e.2.length<=9):Fp (au F):=⟨h.flt,gE h.tF h.nF,by rw[RM.plain_len];exact l9,lc bF,h.few,λl r lt o p L=>by
 obtain⟨e,he,rfl⟩:=h.tell lt o L
 exact sm e he⟩
def Ju{F:Ex}{zd:List ((Rat×Rat)×Ex)}{dq:Ex}{low high:Rat}(h:Big F (au F) zd dq low high)(l9:F.length<=9)(bF:AllB 100 F):Drw F:=⟨h.tF,by have:=h.flt.l2;rw[RM.plain_len]at this;exact this,l9,bF,h.cop⟩
def wj{G p:Ex}{kb:Nat}{l1 l2 h1 h2:Int}(h:Nm G kb p l1 l2 h1 h2):TrnP p l1 l2 h1 h2:=by
 have en:=h.sn.en;obtain⟨b,l⟩:=h.sn.gd.fp.sml _ _ h.sn.lt h.sn.one p h.ls;refine⟨en,l,b,?_,?_⟩
 ·rw[eU en.l2p];exact RM.sg_ne.mpr h.ne
 ·rw[eU en.l2p,eU en.h2p];exact Jo h.ls.od.flt.cnt h.sn.lt h.ls.od.one h.ne
def DB{C CN:Addr}{H:Hp}{F:Ex}{zd:List ((Rat×Rat)×Ex)}{dq:Ex}{low high:Rat}{kb:Nat}{xs ps:List Addr}(h:Big F (au F) zd dq low high)(g:Gd (au F) kb)(hX:RtH C CN H (au F) kb xs)(hP:RwH H ps (zd.map Prod.snd)):∃ds:List RD,ds.length=zd.length/\Rr C CN H xs ps ds:=by
 obtain⟨f1,f2⟩:=g.far;have all:=h.all (B:=2^kb) (λx hx=>(f1 x hx).1) (λx hx=>(f2 x hx).1);have lx:xs.length=zd.length:=by have:=hX.len;omega
 have C0:=g.fp.flt.cnt
 have ex:∀i:Nat,∃d:RD,i<xs.length->(∀x,xs[i]?=some x->NmH C CN H x d.p d.l1 d.l2 d.h1 d.h2)/\TrnP d.p d.l1 d.l2 d.h1 d.h2/\(∀e,zd[i]?=some e->d.p=e.2)/\vw (au F) (-(2^kb))-vw (au F) (af d.l1 d.l2)=i:=λi=>by
  by_cases hi:i<xs.length
  ·have ei:=List.getElem?_eq_getElem hi;obtain⟨p,l1,l2,h1,h2,a,b,c,e⟩:=hX.at' i _ ei;refine⟨⟨p,l1,l2,h1,h2⟩,λ_=>⟨λx hx=>?_,wj b,λy hy=>?_,c⟩⟩
   ·rw[ei]at hx;rw[<- Option.some.inj hx];exact a
   ·exact h.nth (λx hx=>(f1 x hx).1) hy b.sn.lt c e b.ls
  ·exact⟨⟨[],0,1,0,1⟩,λz=>absurd z hi⟩
 refine⟨(List.range xs.length).map λi=>Classical.choose (ex i),by rw[MC,Ny,lx],?_⟩
 have at':∀(i:Nat) (d:RD),((List.range xs.length).map λi=>Classical.choose (ex i))[i]?=some d->i<xs.length/\d=Classical.choose (ex i):=λi d hd=>by rw[List.getElem?_map]at hd;obtain⟨j,hj,rfl⟩:=Option.map_eq_some_iff.mp hd;obtain⟨h1,h2⟩:=List.getElem?_eq_some_iff.mp hj;rw[Ny]at h1;rw[List.getElem_range]at h2;subst h2;exact⟨h1,rfl⟩
 refine⟨by rw[MC,Ny],by rw[MC,Ny,hP.1,MC,lx],λi x d hx hd=>?_,λi q d hq hd=>?_,λi j d e hij hd he=>?_⟩
 ·obtain⟨hi,rfl⟩:=at' i d hd;obtain⟨a,b,_⟩:=Classical.choose_spec (ex i) hi;exact⟨a x hx,b⟩
 ·obtain⟨hi,rfl⟩:=at' i d hd;obtain⟨_,_,c,_⟩:=Classical.choose_spec (ex i) hi;have hz:i<zd.length:=by omega
  have ez:=List.getElem?_eq_getElem hz;rw[c _ ez];exact hP.2 i q _ hq (by rw[List.getElem?_map,ez];rfl)
 ·obtain⟨hi,rfl⟩:=at' i d hd;obtain⟨hj,rfl⟩:=at' j e he;obtain⟨_,b1,_,d1⟩:=Classical.choose_spec (ex i) hi;obtain⟨_,b2,_,d2⟩:=Classical.choose_spec (ex j) hj;refine(cV b1.en.l2p b2.en.l2p).mp (Nx.mp λz=>?_);have:=C0.le z;omega
def GN(due:Ex)(B:List (Rat×Rat)):(B.map λz=>(z,due)).map Prod.snd=List.replicate B.length due:=by
 rw[NP]
 induction B with
 |nil=>rfl
 |cons b B ih=>rw[Oc,ih];rfl
def El{b1 b2 b3:Bool}{lt lb o kind v:Int}{low:Rat}{B A:List (Rat×Rat)}{due:Ex}(hB:B.length=if kind=1 then 3 else if kind=0/\0<v then 1 else 0)(hA:A.length=if kind=0/\v<0 then 2 else 1):(zdL b1 b2 b3 lt lb o low B A due).map Prod.snd=k8 kind v o lt lb b1 b2 b3 due:=by
 unfold zdL k8 pl1 pl2 pl3 pl7;simp only[Nc,GN,hB,hA];by_cases k1:kind=1
 ·have n1:¬(kind=0/\0<v):=by omega
  have n2:¬(kind=0/\v<0):=by omega
  rw[if_pos k1,if_neg n2,if_pos k1,if_neg n1,if_neg n2];cases b1<;>cases b2<;>cases b3<;>rfl
 ·rw[if_neg k1,if_neg k1];by_cases k2:kind=0/\0<v
  ·have n2:¬(kind=0/\v<0):=by omega
   rw[if_pos k2,if_neg n2,if_pos k2,if_neg n2];cases b1<;>cases b2<;>cases b3<;>rfl
  ·rw[if_neg k2,if_neg k2];by_cases k3:kind=0/\v<0
   ·rw[if_pos k3,if_pos k3];cases b1<;>cases b2<;>cases b3<;>rfl
   ·rw[if_neg k3,if_neg k3];cases b1<;>cases b2<;>cases b3<;>rfl
def lH{x w:Int}(hw:0<w):(w:Rat)*af (rt x w) (rb x w)=(x:Rat):=by rw[jU (df (t:=x) (by omega)) hw (fJ (t:=x) (by omega)),Rat.mul_comm];exact fh hw
def zM{u v w d:Int}(hw:0<w)(hv:v≠0):(w:Rat)*af (rt (dF u v d) w) (rb (dF u v d) w)=(if 0<v then(u:Rat)else(u:Rat)+(v:Rat)*(d:Rat))/\(w:Rat)*af (rt (dG u v d) w) (rb (dG u v d) w)=if 0<v then(u:Rat)+(v:Rat)*(d:Rat)else(u:Rat):=by
 rw[lH hw,lH hw];unfold dF dG;by_cases z:0<v
 ·rw[if_pos z,if_pos z,if_pos z,if_pos z,Ni,MD];exact⟨rfl,rfl⟩
 ·rw[if_neg z,if_pos (by omega),if_neg z,if_neg z,if_neg z,Ni,MD];exact⟨rfl,rfl⟩
def ks0{u v w d:Int}(hW:WOk u v w d)(hd:d∈roD):KS 0 v (jV u v w d) (af (rt (dF u v d) w) (rb (dF u v d) w)) (af (rt (dG u v d) w) (rb (dG u v d) w)) (RM.aI u+RM.aI v*d):=by
 have w1:=hW.w1;unfold jV;by_cases z:v=0
 ·subst z;rw[if_pos rfl];have e:RM.aI u+RM.aI 0*d=RM.aI u:=by show RM.aI u+0*d=_;omega
  rw[e];refine G8 hW.hu w1 hW.w12 rfl ?_ ?_
  ·rw[lH w1];show((u-1:Int):Rat)=_;rw[NH];rfl
  ·rw[lH w1];rfl
 ·rw[if_neg z];obtain⟨a,b⟩:=zM (u:=u) (d:=d) w1 z;exact G7 hW.hu hW.hv w1 hW.w12 z hd rfl a b
def ks2{kind u v w c:Int}(v0:Int)(hk:2<=kind)(hv:v≠0)(hW:WOk u v w c)(hc:c∈roC):KS kind v0 (cbL u v w c) (af (rt (dF u v c) w) (rb (dF u v c) w)) (af (rt (dG u v c) w) (rb (dG u v c) w)) (RM.aI u+RM.aI v*c):=by obtain⟨a,b⟩:=zM (u:=u) (d:=c) hW.w1 hv;exact G9 hk hW.hu hW.hv hW.w1 hW.w12 hv v0 hc rfl a b
def ks1{u b1 b2:Int}(v0:Int)(hu : -1000<=u/\u<=1000)(hb:(b1,b2)∈[((2:Int),(3:Int)),(2,5),(3,5),(2,7),(3,7),(5,7),(2,6)]):KS 1 v0 (qrL u b1 b2) (af (rt (u+(if b2=3 then 1 else 2)) 1) (rb (u+(if b2=3 then 1 else 2)) 1)) (af (rt (u+b1+b2) 1) (rb (u+b1+b2) 1)) (RM.aI u+b1+b2):=by
 have one:∀x:Int,af (rt x 1) (rb x 1)=(x:Rat):=λx=>by have:=lH (x:=x) (w:=1) (by decide);rw[RM.c1,NX]at this;exact this
 refine G6 v0 hu hb rfl ?_ ?_
 ·rw[one,Ni]
  congr 1
  split<;>rfl
 ·rw[one,Ni,Ni]
def v9{u v d:Int}(hd:0<d):((dF u v d).natAbs:Int)<=RM.aI u+RM.aI v*d+1/\((dG u v d).natAbs:Int)<=RM.aI u+RM.aI v*d+1:=by
 have e:RM.aI v*d=if v<0 then -(v*d)else v*d:=by unfold RM.aI;split;rw[Int.neg_mul];rfl
 have p:0<=RM.aI v*d:=Nz (by unfold RM.aI;split<;>omega) (by omega);have q : -RM.aI u<=u/\u<=RM.aI u:=by unfold RM.aI;split<;>omega
 unfold dF dG;generalize v*d=t at *
 generalize RM.aI v*d=r at *
 split<;>split at e<;>(try split)<;>omega
def tj{X:Cx}:cj X (binaryOp .Mult) (rI (λ_ j=>Bits 60 j) λi j=>.int (i*j)):=opI λ_ _ _ _ _ _ _ hc q=>PyProof.Rows.mul_int q (.of_right (by
 unfold Builtin.Int.intBits;split
 ·exact MK _
 ·rename_i j _ _ _ _ _ hn
  have h0:j.natAbs≠0:=λz=>hn (by simp[Int.natAbs_eq_zero.mp z])
  have:=(Nat.log2_lt h0).mpr hc
  omega))
def JQ{kind cell c:Int}(h:(kind<2/\c=cell%16+cell/48%2*48)\/(¬kind<2/\cell/16%3=1/\c=cell%48+cell/96*96)\/(¬kind<2/\¬cell/16%3=1/\c=cell)):bt (c/16) 3=true->2<=kind/\bt (c/48) 2=false:=λhb=>by
 have hb':c/16%3=1:=of_decide_eq_true hb;have g:2<=kind/\¬c/48%2=1:=by omega
 exact⟨g.1,decide_eq_false g.2⟩
def Jp{x y w far:Int}(w1:0<w)(w12:w<=12)(hx:(x.natAbs:Int)<=far+1)(hy:(y.natAbs:Int)<=far+1)(f:far<=14000)(lt:af (rt x w) (rb x w)<af (rt y w) (rb y w)):EndsG 20 (rt x w) (rb x w) (rt y w) (rb y w):=by
 have w0:w≠0:=by omega
 have p1:=df (t:=x) w0;have p2:=df (t:=y) w0;have c:(2:Nat)^20=1048576:=by decide
 have bx:Bits 20 x:=by show x.natAbs<2^20;omega
 have by':Bits 20 y:=by show y.natAbs<2^20;omega
 have bw:Bits 20 w:=by show w.natAbs<2^20;omega
 exact⟨p1,p2,eW w0 bx,eY w0 bw,eW w0 by',eY w0 bw,(cV p1 p2).mp lt,jM w0,jM w0⟩
structure LOk(kind v:Int)(F due:Ex)(b1 b2 b3:Bool)(o l1 l2 h1 h2:Int):Prop where
 en:EndsG 20 l1 l2 h1 h2
 wd:af h1 h2-af l1 l2<=2^120
 ne:F≠[]
 drw:Drw F
 fp:Fp (au F)
 one:vw (au F) (af l1 l2)-vw (au F) (af h1 h2)=1
 main:∀(l r:Rat) (p:Ex),l<r->vw (au F) l=vw (au F) (af l1 l2)->vw (au F) r=vw (au F) (af h1 h2)->LS (au F) l r p->p=due
 rr:∀(C CN:Addr) (H:Hp) (kb:Nat) (xs ps:List Addr),Gd (au F) kb->RtH C CN H (au F) kb xs->RwH H ps (k8 kind v o l1 l2 b1 b2 b3 due)->(k8 kind v o l1 l2 b1 b2 b3 due).length<=10->∃ds:List RD,ds.length<=20/\Rr C CN H xs ps ds
def LOk.sn{kind v:Int}{F due:Ex}{b1 b2 b3:Bool}{o l1 l2 h1 h2:Int}{kb:Nat}(h:LOk kind v F due b1 b2 b3 o l1 l2 h1 h2)(g:Gd (au F) kb):Sn (au F) kb l1 l2 h1 h2:=⟨g,h.en.mono,h.one⟩
def G5{kind v:Int}{K:Ex}{low high:Rat}{far:Int}(S:KS kind v K low high far):K≠[]/\AllB 1000000 K/\K.length<=1000:=by
 obtain⟨B,A,T,_⟩:=S.ex;obtain⟨M,L,hM,hL,hb⟩:=S.hg;have len:=S.len;have l5:K.length<=5:=by split at len<;>(try split at len)<;>omega
 refine⟨T.fac.ne,λz hz=>Bits.mono (j:=100) (show z.natAbs<2^100 from ?_) (by decide),by omega⟩;obtain⟨n,_,rfl⟩:=tY hz;refine Nu (hM n) (Nu ?_ hb);have L1:1<=L:=by have:=S.fr.1;omega
 have h1:1*M<=L*(L*M):=by rw[<- Nat.mul_assoc];exact NJ _ (N9 L1 L1)
 have h2:1*(L*(L*M))<=L*L*(L*(L*M)):=NJ _ (N9 L1 L1);omega
def G3{kind v far x y w o c k:Int}{K':Ex}{b1 b2 b3 b4:Bool}(S:KS kind v K' (af (rt x w) (rb x w)) (af (rt y w) (rb y w)) far)(kk:0<=kind)(w1:0<w)(w12:w<=12)(hx:(x.natAbs:Int)<=far+1)(hy:(y.natAbs:Int)<=far+1)(ho1:far+20<=o)(ho2:o<=far+69)(hk:0<k)(hk9:k<=9)(hc:c∈roK)(h4:b4=true->2<=kind/\b1=false):LOk kind v (aw K' (bI c b1 b2 b3 b4 (rt x w) (rb x w) o k)) (d5 kind K' (aw K' (bI c b1 b2 b3 b4 (rt x w) (rb x w) o k))) b1 b2 b3 o (rt x w) (rb x w) (rt y w) (rb y w):=by
 have w0:w≠0:=by omega
 have p1:=df (t:=x) w0
 have hc':c≠0/\c.natAbs<=30:=by simp only[roK,MG,MT,or_false]at hc;omega
 have hl:((rt x w).natAbs:Int)+rb x w<=far+71:=by have a:=xY (t:=x) w0;have b:=yd (t:=x) w0;omega
 have lm:=fh (t:=rt x w) p1;obtain⟨B,A,bg,lB,lA,l9,bF,sm⟩:=S.big kk (c:=c) (lt:=rt x w) (lb:=rb x w) (o:=o) (k:=k) b1 b2 b3 b4 hc'.1 hc'.2 p1 (jM w0) (by rw[lm,NE];grind) ho1 ho2 hk hk9 hl h4;obtain⟨B0,A0,T,_,_⟩:=S.ex;obtain⟨f0,f14⟩:=S.fr;obtain⟨lo1,lo2⟩:=T.lo;obtain⟨z,A',_,_,_,hi⟩:=T.hi;have fQ:(far:Rat)<=14000:=Nh.mpr f14;have en:=Jp w1 w12 hx hy f14 bg.lt;refine⟨en,?_,bg.nF,Ju bg l9 bF,Ic bg l9 bF sm,bg.one,λl r p lt e1 e2 L=>bg.main lt e1 e2 L,λC CN H kb xs ps g hX hP h10=>?_⟩
 ·have:(28010:Rat)<=2^120:=by decide
  grind
 ·rw[<- El (low:=af (rt x w) (rb x w)) (B:=B) (A:=A) lB lA]at hP h10;obtain⟨ds,h1,h2⟩:=DB bg g hX hP;rw[MC]at h10;exact⟨ds,by omega,h2⟩
def St1(C:Addr)(H H':Hp)(kind v:Int)(q sp:Addr)(K':Ex)(x y w far:Int):Prop:=∃l h:Addr,Same H H'/\H' q=some (.lst (K'.map V.int))/\H' sp=some (.tup [.ref l,.ref h])/\RA C H' l (rt x w) (rb x w)/\RA C H' h (rt y w) (rb y w)/\0<w/\w<=12/\KS kind v K' (af (rt x w) (rb x w)) (af (rt y w) (rb y w)) far/\(x.natAbs:Int)<=far+1/\(y.natAbs:Int)<=far+1
def Fu(F:Fun K "law" "law" rA f fd)(T:Txt K mg)(R:RCI K mg C)(RN:NCI K mg CN)(eT:Cal P w K mg base 1 "_law_cell_at" ["_law_script","_law_k"] (gX K) uM uE)(vW:Cal P w K mg base 2 "_law_worth" ["_law_script","_law_k"] (pV K) Jf IF)(KT:Cal P w K mg base 3 "_law_least" ["_law_worth_here"] xi Mp LJ)(vY:Cal P w K mg base 4 "_law_span" ["_law_worth_here","_law_more_here"] (pY C) Jh IH)(KU:Cal P w K mg base 5 "_law_fourth" ["_law_script"] (xm C K) Mq LK)(KP:Cal P w K mg base 5 "_law_third" ["_law_script"] (wP C K) Mj LF)(iw:Cal P w K mg base 1 "_law_times" ["_law_one","_law_other"] mN Aj Ab)(KR:Cal P w K mg base 2 "_law_more" ["_law_far","_law_low","_law_cell"] (xb C) Mn LI)(pI:Cal P w K mg base 2 "_law_plain" ["_law_row"] qi Jj IJ)(vT:Cal P w K mg base 37 "least" ["row","low","high"] (qq C) Ja IA)(v5:Cal P w K mg base 2 "_law_poly" ["_law_found"] qg Ji II)(vX:Cal P w K mg base 3 "_law_turns" ["_law_n","_law_due"] (pW C CN) Jg IG)(KA:CalE P w K mg base 39 "number" ["row","low","high"] (qk C CN) L4 Ln Mv [.non,.non])(KQ:Cal P w K mg base 4 "_law_roots_right" ["_law_found","_law_polys"] (wX C CN) Mm LH)(Ky:Cal P w K mg base 39 "roots" ["row"] (wW C CN) LZ Ll)(KY:Cal P w K mg base 1 "_law_all_polys" ["_law_kind","_law_worth_here","_law_out","_law_low","_law_cell","_law_due"] (wZ C) Ms LM):FnOk P w K mg base aD 41 f fd ["_law_script"] (mP K):=by
 obtain⟨Kn,GU,Hj,J5,MA,Mx⟩:=KA;refine F.ok cR (λvs H Q E h=>?_) (λ_ A _ s H vs Q E hr h=>?_)
 ·obtain⟨a,ns,rfl,_⟩:=h;rfl
 ·obtain⟨a,ns,rfl,hS,hlen,k⟩:=h;have big:=sizeLine_eq;have hu:=hr.units
  refine⟨_,(ah (ak 1 cR (ag cA (am eT hr (ac (pv 0) (ac ae ad))) ae))
   (ah (ak 2 cR (am vW hr (ac (pv 0) (ac ae ad))))
   (ah (aP (aG cB (pv 1) ae)
     (ah (ak 3 cR (am KT hr (ac (pv 2) ad)))
       (ah (ak 4 cR (am vY hr (ac (pv 2) (ac ae ad))))
       (ai (ak 5 cR (ag aV (cM eM (by rfl) T.abs_ PyProof.Rows.boot_abs (ac (aS K (pv 2) ae) ad)) (ag tj (cM eM (by rfl) T.abs_ PyProof.Rows.boot_abs (ac (aS K (pv 2) ae) ad)) (aS K (pv 2) ae)))))))
     (ai (aP (aG cB (pv 1) ae)
       (ai (eZ (am KU hr (ac (pv 0) ad)) (gH rfl (cy (aY 3 cR) (cy (aY 4 cR) (cy (aY 5 cR) gG))))))
       (ai (eZ (am KP hr (ac (pv 0) ad)) (gH rfl (cy (aY 3 cR) (cy (aY 4 cR) (cy (aY 5 cR) gG)))))))))
   (ah (ak 6 cR (hI (mn (K:=K) rfl) (by rfl) T.list_ PyProof.Rows.boot_list (ac (pv 3) ad)))
   (ah (ak 7 cR (am eT hr (ac (pv 0) (ac ae ad))))
   (ah (aP (aG dJ (pv 1) ae)
     (ai (ak 7 cR (ag aV (ag cA (pv 7) ae) (ag tj (ag cA (ag cZ (pv 7) ae) ae) ae))))
     (ai (aP (aG cB (ag cA (ag cZ (pv 7) ae) ae) ae)
       (ai (ak 7 cR (ag aV (ag cA (pv 7) ae) (ag tj (ag cZ (pv 7) ae) ae))))
       aR)))
   (ah (ak 8 cR (ag aV (ag aV (pv 5) ae) (ag cA (am eT hr (ac (pv 0) (ac ae ad))) ae)))
   (ah (ak 3 cR (am iw hr (ac (pv 3) (ac (am KR hr (ac (pv 8) (ac (aS K (pv 4) ae) (ac (pv 7) ad)))) ad))))
   (ah (aP (aG eE (pv 1) ae)
     (ai (ak 6 cR (am pI hr (ac (pv 3) ad))))
     aR)
   (ah (ak 9 cR (hI (mn (K:=K) rfl) (by rfl) T.list_ PyProof.Rows.boot_list (ac (pv 3) ad)))
   (ah (ak 10 cR (am vT hr (ac (pv 9) (ac (aS K (pv 4) ae) (ac (aS K (pv 4) ae) ad)))))
   (ah (aP (PW.pt (iI (g8 (gC (am v5 hr (ac (pv 10) ad)))) (iI (aG (hZ (K:=K) rfl hu) (pv 10) (pv 6)) (nQ (aG (hZ (K:=K) rfl hu) (pv 9) (pv 3))))))
     (ai (aB f9))
     aR)
   (ah (aP (g8 (gC (am vX hr (ac (yD Kn (hr.mono) rfl GU Hj J5 .nil aZ (ac (pv 3) (ac (aS K (pv 4) ae) (ac (aS K (pv 4) ae) ad)))) (ac (pv 6) ad)))))
     (ai (aB f9))
     aR)
   (ai (aB (am KQ hr (ac (am Ky hr (ac (pv 3) ad)) (ac (am KY hr (ac (pv 1) (ac (pv 2) (ac (pv 8) (ac (aS K (pv 4) ae) (ac (pv 7) (ac (pv 6) ad))))))) ad)))))))))))))))))),?_⟩
  refine az ⟨_,rfl,a,ns,3,rfl,hS,_,_,rfl,rfl,(by show(0:Int)<4;decide),?_⟩;show cx (dS _ _) _ _ _ _;refine dX (λQ2 H'=>Q2=[some (.ref a),some (.int (ns.getD 3 0%4)),none,none,none,none,none,none,none,none,none]/\H=H') ⟨rfl,rfl⟩ ?_;rintro Q2 H' ⟨rfl,rfl⟩;obtain⟨k0,k4⟩:=iR (x:=ns.getD 3 0) (m:=4) (by decide);generalize ns.getD 3 0%4=kind at k0 k4 ⊢
  refine az ⟨_,rfl,a,ns,rfl,hS,λwt H1 u v w d s1 nwt hT hW hd=>?_⟩;show cx (fH _ _ _) _ _ _ _;refine eC (λQ2 H'=>∃(q sp:Addr) (K':Ex) (x y w' far:Int),Q2=[some (.ref a),some (.int kind),some (.ref wt),some (.ref q),some (.ref sp),some (.int far),none,none,none,none,none]/\WT H' wt u v w d/\St1 C H H' kind v q sp K' x y w' far) ?_ (λhn=>?_)
  rotate_left
  ·refine⟨_,rfl,_,_,rfl,rfl,_,rfl,aN (λhk=>?_) (λhk=>?_)⟩
   ·have hk':kind=0:=hk;refine az ⟨_,rfl,wt,u,v,w,d,rfl,hT,hW,λq H2 s2 nq eq=>?_⟩;refine az ⟨_,rfl,wt,u,v,w,d,rfl,s2 _ _ hT,hW,λsp l h H3 s3 nsp esp hl hh=>?_⟩;have hT3:WT H3 wt u v w d:=s3 _ _ (s2 _ _ hT);have av:Bits 10 (if v<0 then -v else v):=by split;exact hW.bv.neg;exact hW.bv
    refine cK ⟨_,rfl,wt,_,_,_,rfl,rfl,SqT.of hT3,rfl,_,rfl,_,rfl,wt,_,_,_,rfl,rfl,SqT.of hT3,rfl,_,rfl,_,rfl,wt,_,_,_,rfl,rfl,SqT.of hT3,rfl,_,_,rfl,rfl,hW.bd.mono,_,_,rfl,rfl,?_⟩;obtain⟨z1,z2⟩:=v9 (u:=u) (v:=v) (show 0<d by have:=hW.d2;omega);refine hn _ _ ⟨q,sp,jV u v w d,dF u v d,dG u v d,w,RM.aI u+RM.aI v*d,rfl,hT3,l,h,s1.trans (s2.trans s3),s3 _ _ eq,esp,hl,hh,hW.w1,hW.w12,?_,z1,z2⟩;rw[hk'];exact ks0 hW hd
   ·have hk':¬kind=0:=hk;refine gZ ⟨_,rfl,_,_,rfl,rfl,_,rfl,aN (λh1=>?_) (λh1=>?_)⟩
    ·have h1':kind=1:=h1;refine⟨_,rfl,a,ns,rfl,s1.seq hS,λt H2 u' b1 b2 s2 nt hu' hb hTr=>?_⟩;obtain⟨q,sp,l,h,et,eq,esp,hl,hh⟩:=hTr;refine⟨t,_,rfl,SqT.of et,rfl,_,_,rfl,_,_,rfl,_,_,rfl,rfl,?_⟩;obtain⟨k1,k2⟩:=yr hb;have q' : -RM.aI u'<=u'/\u'<=RM.aI u':=by unfold RM.aI;split<;>omega
     refine hn _ _ ⟨q,sp,qrL u' b1 b2,_,_,1,RM.aI u'+b1+b2,rfl,s2 _ _ hT,l,h,s1.trans s2,eq,esp,hl,hh,by decide,by decide,?_,by split<;>omega,by omega⟩;rw[h1'];exact ks1 v hu' hb
    ·have h1':¬kind=1:=h1;refine⟨_,rfl,a,ns,rfl,s1.seq hS,λt H2 u' v' w' c s2 nt hv' hW' hc hTr=>?_⟩;obtain⟨q,sp,l,h,et,eq,esp,hl,hh⟩:=hTr;refine⟨t,_,rfl,SqT.of et,rfl,_,_,rfl,_,_,rfl,_,_,rfl,rfl,?_⟩;obtain⟨z1,z2⟩:=v9 (u:=u') (v:=v') (show 0<c by have:=hW'.d2;omega);exact hn _ _ ⟨q,sp,cbL u' v' w' c,_,_,w',RM.aI u'+RM.aI v'*c,rfl,s2 _ _ hT,l,h,s1.trans s2,eq,esp,hl,hh,hW'.w1,hW'.w12,ks2 v (by omega) hv' hW' hc,z1,z2⟩
  rintro Q2 H2 ⟨q,sp,K',x,y,w',far,rfl,hT2,l,h,sH,eq,esp,hl,hh,w1,w12,hK,hx,hy⟩;obtain⟨f0,f14⟩:=hK.fr;refine az ⟨_,rfl,q,_,rfl,.inl (SqL.of eq),λdu hdu=>?_⟩;have s3:Same H2 (upd H2 du (.lst (K'.map V.int))):=Same.upd_new hdu;have ed:upd H2 du (.lst (K'.map V.int)) du=some (.lst (K'.map V.int)):=ar;refine kX (H2:=upd H2 du (.lst (K'.map V.int))) rfl ?_;generalize upd H2 du (.lst (K'.map V.int))=H3 at s3 ed ⊢
  have t3:=sH.trans s3;refine az ⟨_,rfl,a,ns,5,rfl,t3.seq hS,?_⟩;generalize ns.getD 5 0=cell;show cx (fH _ _ _) _ _ _ _;refine eC (λQ2 H'=>∃c:Int,Q2=[some (.ref a),some (.int kind),some (.ref wt),some (.ref q),some (.ref sp),some (.int far),some (.ref du),some (.int c),none,none,none]/\H3=H'/\((kind<2/\c=cell%16+cell/48%2*48)\/(¬kind<2/\cell/16%3=1/\c=cell%48+cell/96*96)\/(¬kind<2/\¬cell/16%3=1/\c=cell))) ?_ (λhn=>?_)
  rotate_left
  ·refine⟨_,rfl,_,_,rfl,rfl,_,rfl,aN (λhk=>?_) (λhk=>?_)⟩
   ·refine cK ⟨_,rfl,_,_,rfl,rfl,(by show(0:Int)<16;decide),_,rfl,_,_,rfl,rfl,⟨by show(0:Int)<48;decide,dI (by decide) (by decide)⟩,_,_,rfl,rfl,(by show(0:Int)<2;decide),_,_,rfl,rfl,(by show(48:Int).natAbs<2^60;decide),_,_,rfl,rfl,?_⟩;exact hn _ _ ⟨_,rfl,rfl,.inl ⟨hk,rfl⟩⟩
   ·refine gZ ⟨_,rfl,_,_,rfl,rfl,⟨by show(0:Int)<16;decide,dI (by decide) (by decide)⟩,_,_,rfl,rfl,(by show(0:Int)<3;decide),_,_,rfl,rfl,_,rfl,aN (λhb=>?_) (λhb=>?_)⟩
    ·refine cK ⟨_,rfl,_,_,rfl,rfl,(by show(0:Int)<48;decide),_,rfl,_,_,rfl,rfl,⟨by show(0:Int)<96;decide,dI (by decide) (by decide)⟩,_,_,rfl,rfl,(by show(96:Int).natAbs<2^60;decide),_,_,rfl,rfl,?_⟩;exact hn _ _ ⟨_,rfl,rfl,.inr (.inl ⟨hk,hb,rfl⟩)⟩
    ·exact hn _ _ ⟨_,rfl,rfl,.inr (.inr ⟨hk,hb,rfl⟩)⟩
  rintro Q2 H' ⟨c,rfl,rfl,hcl⟩;have h4:=JQ hcl;obtain⟨m0,m50⟩:=iR (x:=ns.getD 4 0) (m:=50) (by decide);refine az ⟨_,rfl,_,_,rfl,rfl,_,rfl,a,ns,4,rfl,t3.seq hS,_,_,rfl,rfl,(by show(0:Int)<50;decide),_,_,rfl,rfl,?_⟩;show cx (dS _ _) _ _ _ _;refine dX (λQ2 H'=>Q2=[some (.ref a),some (.int kind),some (.ref wt),some (.ref q),some (.ref sp),some (.int far),some (.ref du),some (.int c),some (.int (far+20+ns.getD 4 0%50)),none,none]/\H3=H') ⟨rfl,rfl⟩ ?_;rintro Q2 H' ⟨rfl,rfl⟩;obtain⟨o,eo⟩:∃o,o=far+20+ns.getD 4 0%50:=⟨_,rfl⟩;rw[<- eo];have ho1:far+20<=o:=by omega
  have ho2:o<=far+69:=by omega
  have bo:Bits 20 o:=by have:(2:Nat)^20=1048576:=by decide
                        show o.natAbs<2^20;omega
  have esp3:=s3 _ _ esp;obtain⟨k0',k9'⟩:=iR (x:=c/96) (m:=9) (by decide);have hL:∀c'∈roK,LOk kind v (aw K' (bI c' (bt (c/48) 2) (bt (c/4) 2) (bt (c/8) 2) (bt (c/16) 3) (rt x w') (rb x w') o (1+c/96%9))) (d5 kind K' (aw K' (bI c' (bt (c/48) 2) (bt (c/4) 2) (bt (c/8) 2) (bt (c/16) 3) (rt x w') (rb x w') o (1+c/96%9)))) (bt (c/48) 2) (bt (c/4) 2) (bt (c/8) 2) o (rt x w') (rb x w') (rt y w') (rb y w'):=λc' hc'=>G3 hK k0 w1 w12 hx hy ho1 ho2 (by omega) (by omega) hc' h4
  have en:=(hL 1 (M0 ..)).en;obtain⟨nK,bK,lK⟩:=G5 hK;refine az ⟨_,rfl,_,rfl,_,rfl,sp,_,_,_,rfl,rfl,SqT.of esp3,rfl,_,rfl,l,o,rt x w',rb x w',c,rfl,hl.same s3,bo,en.bl1,en.bl2,λc' hc' hMo qm H4 s4 nqm em=>?_⟩;have hO:=hL c' hc';generalize bI c' (bt (c/48) 2) (bt (c/4) 2) (bt (c/8) 2) (bt (c/16) 3) (rt x w') (rb x w') o (1+c/96%9)=Mo at *
  obtain⟨nM,lM,bM⟩:=hMo;refine⟨q,qm,K',Mo,rfl,s4 _ _ (s3 _ _ eq),em,nK,nM,lK,lM,bK,bM,λkp H5 s5 nkp ekp=>?_⟩;have t5:=s4.trans s5;generalize aw K' Mo=F0 at *
  have drw:=hO.drw;show cx (fH _ _ _) _ _ _ _;refine eC (λQ2 H'=>∃du':Addr,Q2=[some (.ref a),some (.int kind),some (.ref wt),some (.ref kp),some (.ref sp),some (.int far),some (.ref du'),some (.int c),some (.int o),none,none]/\Same H5 H'/\H' du'=some (.lst ((d5 kind K' F0).map V.int))) ?_ (λhn=>?_)
  rotate_left
  ·refine⟨_,rfl,_,_,rfl,rfl,_,rfl,aN (λhk=>?_) (λhk=>?_)⟩
   ·have e:d5 kind K' F0=au F0:=if_neg (by have:kind>0:=hk;omega);rw[e]at hn;refine cK ⟨_,rfl,kp,F0,rfl,ekp,drw.tr,hO.ne,by have:=drw.l9;omega,drw.bits.mono,λz Hz sz nz ez=>?_⟩;exact hn _ _ ⟨z,rfl,sz,ez⟩
   ·have e:d5 kind K' F0=K':=if_pos (by have:¬kind>0:=hk;omega);rw[e]at hn;exact hn _ _ ⟨du,rfl,.refl _,t5 _ _ ed⟩
  rintro Q2 H6 ⟨du',rfl,s6,edu⟩;generalize d5 kind K' F0=due at *
  have ekp6:=s6 _ _ ekp;have t6:=s3.trans (t5.trans s6);refine az ⟨_,rfl,kp,_,rfl,.inl (SqL.of ekp6),λph hph=>?_⟩;have s7:Same H6 (upd H6 ph (.lst (F0.map V.int))):=Same.upd_new hph;have eh:upd H6 ph (.lst (F0.map V.int)) ph=some (.lst (F0.map V.int)):=ar;refine kX (H2:=upd H6 ph (.lst (F0.map V.int))) rfl ?_;generalize upd H6 ph (.lst (F0.map V.int))=H7 at s7 eh ⊢
  obtain⟨kb,g⟩:=HR hO.fp;have sn:=hO.sn g;have t7:=t6.trans s7;have esp7:=t7 _ _ esp;refine az ⟨_,rfl,_,rfl,sp,_,_,_,rfl,rfl,SqT.of esp7,rfl,_,rfl,sp,_,_,_,rfl,rfl,SqT.of esp7,rfl,ph,l,h,F0,_,kb,_,_,_,_,rfl,eh,drw.tr,rfl,hl.same t7,hh.same t7,sn,λp L fo H8 s8 nfo efo=>?_⟩;have ep:=hO.main _ _ p sn.lt rfl rfl L;rw[ep]at efo;have s78:=s7.trans s8;have t8:=t6.trans s78;have esp8:=t8 _ _ esp;have ekp8:=s78 _ _ ekp6;have edu8:=s78 _ _ edu;refine cp (jI (iG ⟨_,rfl,fo,_,rfl,efo,_,rfl,dA ?_⟩));refine jI ⟨_,rfl,_,rfl,fo,du',due,due,rfl,rfl,SqL.of efo,SqL.of edu8,_,rfl,de (λz=>absurd rfl z) (λ_=>?_)⟩;refine⟨_,rfl,_,rfl,ph,kp,F0,F0,rfl,rfl,SqL.of (s8 _ _ eh),SqL.of ekp8,_,rfl,de (λz=>absurd rfl z) (λ_=>?_)⟩;refine cp (iG ⟨_,rfl,_,rfl,sp,_,_,_,rfl,rfl,SqT.of esp8,rfl,_,rfl,sp,_,_,_,rfl,rfl,SqT.of esp8,rfl,kp,l,h,F0,kb,_,_,_,_,rfl,ekp8,hl.same t8,hh.same t8,drw,sn,en.mono,hO.wd,λxn pn x1 x2 y1 y2 H9 s9 nxn hN hNm e1 e2=>?_⟩);have ep':=hO.main _ _ pn hNm.sn.lt e1 e2 hNm.ls;refine⟨_,rfl,xn,du',pn,x1,x2,y1,y2,rfl,hN,by rw[ep'];exact s9 _ _ edu8,wj hNm,_,rfl,dA ?_⟩;have t9:=t8.trans s9;refine bC ⟨_,rfl,kp,F0,rfl,s9 _ _ ekp8,drw,hO.fp,λkb' rp xs H10 g' s10 nrp erp hX=>?_⟩;have t10:=t9.trans s10;refine⟨_,rfl,_,rfl,_,rfl,_,rfl,sp,_,_,_,rfl,rfl,SqT.of (t10 _ _ esp),rfl,_,rfl,_,rfl,wt,l,du',kind,u,v,w,d,o,_,_,c,due,rfl,t10 _ _ hT2,hl.same t10,s10 _ _ (s9 _ _ edu8),bo,λpp ps H11 hP=>?_⟩;obtain⟨ds,d20,hR⟩:=hO.rr C CN H11 kb' xs ps g' (hX.same hP.s) hP.r hP.len;exact⟨rp,pp,xs,ps,ds,rfl,hP.s _ _ erp,hP.e,d20,hR,k _⟩
end
def aL(K:PySem.W.Frag)(n:Str)(st:Stmt):Prop:=∃f fd,PySem.W.nsIn K mainGlobals n=some (some (.ref f))/\Fun K n n st f fd
def MtL(K:PySem.W.Frag)(C:Addr)(n q:Str)(st:Stmt):Prop:=∃f fd,PySem.W.findIn K (.ref C) n=some (some (.ref f))/\PySem.W.isFn K (.ref f)=true/\Fun K n q st f fd
structure ClL(K:PySem.W.Frag)(n:Str)(C:Addr):Prop where
 a:PySem.W.nsIn K mainGlobals n=some (some (.ref C))
 pg:PySem.W.plainGet K C Str.empty=true
 hd:PySem.W.hasDictIn K C=true
 po:PySem.W.plainOver K C=true
 sa:PySem.W.findIn K (.ref C) "__setattr__"=some (some (.builtin "object.__setattr__"))
 mkr:PySem.W.makesIn K C=true
 kc:PySem.W.keepIn K (.ref C)=true
 ha:PySem.W.findIn K (.ref C) "__class__"=some (some (.builtin "object.__class__"))
 hn:PySem.W.specialIn K (.builtin "object.__class__") "__get__"=some (some (.builtin "getset_descriptor.__get__"))
 ht:PySem.W.takesIn K (.builtin "object.__class__")=some true
 hm:PySem.W.mroIn K C (.type "object")=some true
section
variable {P:Program}{w:World}{K:PySem.W.Frag}{mg:Str->Option Value}{h base:Heap}{n q:Str}{st:Stmt}{f C:Addr}{oc kV dc pm cd ct:Value}{od an:Option Addr}{sl:Array (Option Value)}{fd:FuncData}{k:Nat}{ps:List Str}{sp:Sp}
def fnL(a:PySem.W.nsIn K mainGlobals n=some (some (.ref f)))(l:K.lookup f=some ⟨oc,od,.func (PySem.W.fnOf n n (eJ st) (dQ st) (aC st) .none kV dc pm an cd ct),sl⟩)(c:PySem.W.codeIn K cd n=true)(k:PySem.W.keepIn K (.ref f)=true):aL K n st:=⟨_,_,a,zR l c k⟩
def mtL(a:PySem.W.findIn K (.ref C) n=some (some (.ref f)))(i:PySem.W.isFn K (.ref f)=true)(l:K.lookup f=some ⟨oc,od,.func (PySem.W.fnOf n q (eJ st) (dQ st) (aC st) .none kV dc pm an cd ct),sl⟩)(c:PySem.W.codeIn K cd q=true)(k:PySem.W.keepIn K (.ref f)=true):MtL K C n q st:=⟨_,_,a,i,zR l c k⟩
def Bx(P:Program)(w:World)(base:Heap):Prop:=P=P/\w=w/\base=base
def BdR(n q:Str)(st:Stmt)(ps:List Str):Prop:=∀(kV doc pm:Value) (an:Option Addr) (cdv ct:Value) (us:List Value),us.length=ps.length->bindArgs (PySem.W.fnOf n q (eJ st) (dQ st) (aC st) .none kV doc pm an cdv ct) ⟨us,[]⟩=pure (ps.zip us)
def cal(_:Bx P w base)(X:K.In h)(G:h.Ns mainGlobals mg)(a:PySem.W.nsIn K mainGlobals n=some (some (.ref f)))(F:Fun K n n st f fd)(o:FnOk P w K mg base aD k f fd ps sp)(b:BdR n n st ps):Cal P w K mg base k n ps sp f fd:=⟨o,PySem.W.mg_of X G a,F.kp,F.binds b⟩
def lD(_:Bx P w base)(a:PySem.W.findIn K (.ref C) n=some (some (.ref f)))(i:PySem.W.isFn K (.ref f)=true)(F:Fun K n q st f fd)(o:FnOk P w K mg base aD k f fd ps sp)(b:BdR n q st ps):MCal P w K mg base k C n ps sp f fd:=⟨o,⟨a,i,F.kp⟩,F.binds b⟩
def cu{A:List Value->Prop}(h:∀a,A [a]):∀us:List Value,us.length=1->A us:=λus hl=>by
 cases us with
 |nil=>cases hl
 |cons a t=>cases NV (Nat.succ.inj hl);exact h a
def cc{A:List Value->Prop}(h:∀a b,A [a,b]):∀us:List Value,us.length=2->A us:=λus hl=>by
 cases us with
 |nil=>cases hl
 |cons a t=>exact cu (A:=λt=>A (a::t)) (h a) t (Nat.succ.inj hl)
def us3{A:List Value->Prop}(h:∀a b c,A [a,b,c]):∀us:List Value,us.length=3->A us:=λus hl=>by
 cases us with
 |nil=>cases hl
 |cons a t=>exact cc (A:=λt=>A (a::t)) (h a) t (Nat.succ.inj hl)
def us4{A:List Value->Prop}(h:∀a b c d,A [a,b,c,d]):∀us:List Value,us.length=4->A us:=λus hl=>by
 cases us with
 |nil=>cases hl
 |cons a t=>exact us3 (A:=λt=>A (a::t)) (h a) t (Nat.succ.inj hl)
def us5{A:List Value->Prop}(h:∀a b c d e,A [a,b,c,d,e]):∀us:List Value,us.length=5->A us:=λus hl=>by
 cases us with
 |nil=>cases hl
 |cons a t=>exact us4 (A:=λt=>A (a::t)) (h a) t (Nat.succ.inj hl)
def us6{A:List Value->Prop}(h:∀a b c d e f,A [a,b,c,d,e,f]):∀us:List Value,us.length=6->A us:=λus hl=>by
 cases us with
 |nil=>cases hl
 |cons a t=>exact us5 (A:=λt=>A (a::t)) (h a) t (Nat.succ.inj hl)
end
def all_mk{l:PySem.W.OpenLaw}{w:World}{K:PySem.W.Frag}{h:Heap}{mg:Str->Option Value}{fa CC1 CC2 f4 dt4 f53 dt53:Addr}(X:K.In h)(G:h.Ns mainGlobals mg)(hfa:mg "law"=some (.ref fa))
 {od4 an4 odt4 od53 an53 odt53:Option Addr} {sl4 slt4 sl53 slt53:Array (Option Value)} {oc4 kV4 dc4 pm4 cd4 ct4 oct4 oc53 kV53 dc53 pm53 cd53 ct53 oct53:Value} {nt4:Nat} {tk4_0:Tok} {nt53:Nat} {tk_HIGHEST:Tok}
 (cc1:ClL K "Ratio" CC1)
 (n1_top:PySem.W.findIn K (.ref CC1) "top"=some none)
 (n1_bottom:PySem.W.findIn K (.ref CC1) "bottom"=some none)
 (cc2:ClL K "Number" CC2)
 (n2_poly:PySem.W.findIn K (.ref CC2) "poly"=some none)
 (n2_low:PySem.W.findIn K (.ref CC2) "low"=some none)
 (n2_high:PySem.W.findIn K (.ref CC2) "high"=some none)
 (a4:PySem.W.findIn K (.ref CC1) "__init__"=some (some (.ref f4))) (i4:PySem.W.isFn K (.ref f4)=true)
 (l4:K.lookup f4=some ⟨oc4,od4,.func (PySem.W.fnOf "__init__" "Ratio.__init__" (eJ jG) (dQ jG) (aC jG) (.ref dt4) kV4 dc4 pm4 an4 cd4 ct4),sl4⟩) (c4:PySem.W.codeIn K cd4 "Ratio.__init__"=true) (k4:PySem.W.keepIn K (.ref f4)=true)
 (t4:K.lookup dt4=some ⟨oct4,odt4,.seq #[.int 1 tk4_0] nt4,slt4⟩)
 (a53:PySem.W.nsIn K mainGlobals "number"=some (some (.ref f53)))
 (l53:K.lookup f53=some ⟨oc53,od53,.func (PySem.W.fnOf "number" "number" (eJ jF) (dQ jF) (aC jF) (.ref dt53) kV53 dc53 pm53 an53 cd53 ct53),sl53⟩) (c53:PySem.W.codeIn K cd53 "number"=true) (k53:PySem.W.keepIn K (.ref f53)=true)
 (t53:K.lookup dt53=some ⟨oct53,odt53,.seq #[.none,.none] nt53,slt53⟩)
 (aI_HIGHEST:PySem.W.nsIn K mainGlobals "HIGHEST"=some (some (.int 8 tk_HIGHEST)))
 (z0:PySem.W.nsIn K mainGlobals "abs"=some none)
 (z1:PySem.W.nsIn K mainGlobals "len"=some none)
 (z2:PySem.W.nsIn K mainGlobals "max"=some none)
 (z3:PySem.W.nsIn K mainGlobals "range"=some none)
 (z4:PySem.W.nsIn K mainGlobals "enumerate"=some none)
 (z5:PySem.W.nsIn K mainGlobals "reversed"=some none)
 (z6:PySem.W.nsIn K mainGlobals "list"=some none)
 (z7:PySem.W.nsIn K mainGlobals "sum"=some none)
 (z8:PySem.W.nsIn K mainGlobals "any"=some none)
 (z9:PySem.W.nsIn K mainGlobals "isinstance"=some none)
 (z10:PySem.W.nsIn K mainGlobals "int"=some none)
 (z11:PySem.W.nsIn K mainGlobals "bool"=some none)
 (l1:aL K "shared_by_two" qT)
 (l2:aL K "shared" qU)
 (l3:aL K "whole_sign" qJ)
 (l5:MtL K CC1 "against" "Ratio.against" sC)
 (l6:aL K "poly" q9)
 (l7:aL K "degree" rG)
 (l8:aL K "coefficient" rK)
 (l9:aL K "taken" qM)
 (l10:aL K "slope" qR)
 (l11:aL K "shrunk" ni)
 (l12:aL K "plain" rc)
 (l13:aL K "scaled" qV)
 (l14:aL K "lowered" rm)
 (l15:aL K "divided" rF)
 (l16:aL K "value_parts" qK)
 (l17:aL K "sign_at" qS)
 (l18:aL K "row_from" qX)
 (l19:aL K "row_of" qW)
 (l20:aL K "changes" rL)
 (l21:aL K "count" rH)
 (l22:aL K "bound" rN)
 (l23:aL K "common" rJ)
 (l24:aL K "part" rd)
 (l25:aL K "refuse_high" qZ)
 (l26:aL K "without_squares" qI)
 (l27:MtL K CC2 "__init__" "Number.__init__" sD)
 (l28:aL K "fine_width" rD)
 (l29:MtL K CC1 "floor" "Ratio.floor" ss)
 (l30:aL K "middle" rj)
 (l31:aL K "cells" rM)
 (l32:aL K "divides" rE)
 (l33:aL K "added" rP)
 (l34:aL K "multiplied" rg)
 (l35:MtL K CC1 "plus" "Ratio.plus" sk)
 (l36:MtL K CC1 "minus" "Ratio.minus" sr)
 (l37:MtL K CC1 "times" "Ratio.times" sj)
 (l38:aL K "times_floor" qL)
 (l39:aL K "span_product" qQ)
 (l40:aL K "square_of" qO)
 (l41:aL K "line_of" rq)
 (l42:aL K "halvings" rB)
 (l43:aL K "stretched" qN)
 (l44:aL K "spread" qP)
 (l45:aL K "moved" rh)
 (l46:aL K "halved" rC)
 (l47:aL K "along" rO)
 (l48:aL K "narrowed" rf)
 (l49:aL K "refuse_great" q8)
 (l50:aL K "least" rz)
 (l51:aL K "number_in" re)
 (l52:aL K "many_within" rk)
 (l54:aL K "roots" qY)
 (l55:aL K "_law_cell_at" nj)
 (l56:aL K "_law_cell_at" nj)
 (l57:aL K "_law_whole" rR)
 (l58:aL K "_law_divisor" se)
 (l59:aL K "_law_poly" rZ)
 (l60:aL K "_law_plain" r6)
 (l61:aL K "_law_least" r9)
 (l62:aL K "_law_times" rT)
 (l63:aL K "_law_amount" sh)
 (l64:aL K "_law_worth" rQ)
 (l65:aL K "_law_span" rW)
 (l66:aL K "_law_third" rV)
 (l67:aL K "_law_fourth" sd)
 (l68:aL K "_law_side" rX)
 (l69:aL K "_law_more" r8)
 (l70:aL K "_law_all_polys" si)
 (l71:aL K "_law_turns" rS)
 (l72:aL K "_law_roots_right" rY)
 (l73:aL K "law" rA)
 (hTr:l.prog.given.tree=none)
 : ∃fd:FuncData,(∀(s:Shared) (v:Value),BindsTo s fd ⟨[v],[]⟩ [("_law_script",v)])/\∀base:Heap,K.In base->base.Ns mainGlobals mg->base.NoSeer->FnOk l.prog w K mg base aD 41 fa fd ["_law_script"] (mP K):=by
 obtain⟨_,_,a1,F1⟩:=l1;obtain⟨_,_,a2,F2⟩:=l2;obtain⟨_,_,a3,F3⟩:=l3;obtain⟨_,_,a5,i5,F5⟩:=l5;obtain⟨_,_,a6,F6⟩:=l6;obtain⟨_,_,a7,F7⟩:=l7;obtain⟨_,_,a8,F8⟩:=l8;obtain⟨_,_,a9,F9⟩:=l9;obtain⟨_,_,a10,F10⟩:=l10;obtain⟨_,_,a11,F11⟩:=l11;obtain⟨_,_,a12,F12⟩:=l12;obtain⟨_,_,a13,F13⟩:=l13;obtain⟨_,_,a14,F14⟩:=l14;obtain⟨_,_,a15,F15⟩:=l15;obtain⟨_,_,a16,F16⟩:=l16;obtain⟨_,_,a17,F17⟩:=l17;obtain⟨_,_,a18,F18⟩:=l18;obtain⟨_,_,a19,F19⟩:=l19;obtain⟨_,_,a20,F20⟩:=l20;obtain⟨_,_,a21,F21⟩:=l21;obtain⟨_,_,a22,F22⟩:=l22;obtain⟨_,_,a23,F23⟩:=l23;obtain⟨_,_,a24,F24⟩:=l24;obtain⟨_,_,a25,F25⟩:=l25;obtain⟨_,_,a26,F26⟩:=l26;obtain⟨_,_,a27,i27,F27⟩:=l27;obtain⟨_,_,a28,F28⟩:=l28;obtain⟨_,_,a29,i29,F29⟩:=l29;obtain⟨_,_,a30,F30⟩:=l30;obtain⟨_,_,a31,F31⟩:=l31;obtain⟨_,_,a32,F32⟩:=l32;obtain⟨_,_,a33,F33⟩:=l33;obtain⟨_,_,a34,F34⟩:=l34;obtain⟨_,_,a35,i35,F35⟩:=l35;obtain⟨_,_,a36,i36,F36⟩:=l36;obtain⟨_,_,a37,i37,F37⟩:=l37;obtain⟨_,_,a38,F38⟩:=l38;obtain⟨_,_,a39,F39⟩:=l39;obtain⟨_,_,a40,F40⟩:=l40;obtain⟨_,_,a41,F41⟩:=l41;obtain⟨_,_,a42,F42⟩:=l42;obtain⟨_,_,a43,F43⟩:=l43;obtain⟨_,_,a44,F44⟩:=l44;obtain⟨_,_,a45,F45⟩:=l45;obtain⟨_,_,a46,F46⟩:=l46;obtain⟨_,_,a47,F47⟩:=l47;obtain⟨_,_,a48,F48⟩:=l48;obtain⟨_,_,a49,F49⟩:=l49;obtain⟨_,_,a50,F50⟩:=l50;obtain⟨_,_,a51,F51⟩:=l51;obtain⟨_,_,a52,F52⟩:=l52;obtain⟨_,_,a54,F54⟩:=l54;obtain⟨_,_,a55,F55⟩:=l55;obtain⟨_,_,a56,F56⟩:=l56;obtain⟨_,_,a57,F57⟩:=l57;obtain⟨_,_,a58,F58⟩:=l58;obtain⟨_,_,a59,F59⟩:=l59;obtain⟨_,_,a60,F60⟩:=l60;obtain⟨_,_,a61,F61⟩:=l61;obtain⟨_,_,a62,F62⟩:=l62;obtain⟨_,_,a63,F63⟩:=l63;obtain⟨_,_,a64,F64⟩:=l64;obtain⟨_,_,a65,F65⟩:=l65;obtain⟨_,_,a66,F66⟩:=l66;obtain⟨_,_,a67,F67⟩:=l67;obtain⟨_,_,a68,F68⟩:=l68;obtain⟨_,_,a69,F69⟩:=l69;obtain⟨_,_,a70,F70⟩:=l70;obtain⟨_,_,a71,F71⟩:=l71;obtain⟨_,_,a72,F72⟩:=l72;obtain⟨_,fdL,a73,F73⟩:=l73;cases hfa.symm.trans (PySem.W.mg_of X G a73);have T:Txt K mg:=⟨PySem.W.mg_none_of X G z0,PySem.W.mg_none_of X G z1,PySem.W.mg_none_of X G z2,PySem.W.mg_none_of X G z3,PySem.W.mg_none_of X G z4,PySem.W.mg_none_of X G z5,PySem.W.mg_none_of X G z6,PySem.W.mg_none_of X G z7,PySem.W.mg_none_of X G z8,PySem.W.mg_none_of X G z9,PySem.W.mg_none_of X G z10,PySem.W.mg_none_of X G z11,⟨_,PySem.W.mg_of X G aI_HIGHEST⟩⟩;have R1:RCI K mg CC1:=⟨⟨cc1.pg,cc1.hd,cc1.po,cc1.sa⟩,n1_top,n1_bottom,PySem.W.mg_of X G cc1.a,cc1.ha,cc1.hn,cc1.ht,cc1.hm⟩;have R2:NCI K mg CC2:=⟨⟨cc2.pg,cc2.hd,cc2.po,cc2.sa⟩,n2_poly,n2_low,n2_high,PySem.W.mg_of X G cc2.a,cc2.ha,cc2.hn,cc2.ht,cc2.hm⟩;have F4:=zS (st:=jG) l4 c4 k4;have b4:=FunD.bindsD (ps:=["self","top","bottom"]) (ds:=[]) (tup:=[.int 1 tk4_0]) 3 F4 t4 rfl rfl λ_ _ _ _ _ _=>us3 λ_ _ _=>⟨_,rfl,rfl⟩
 have bD4:=FunD.bindsD (ps:=["self","top","bottom"]) (ds:=[.int 1 tk4_0]) (tup:=[.int 1 tk4_0]) 2 F4 t4 rfl rfl λ_ _ _ _ _ _=>cc λ_ _=>⟨_,rfl,rfl⟩
 have F53:=zS (st:=jF) l53 c53 k53;have b53:=FunD.bindsD (ps:=["row","low","high"]) (ds:=[]) (tup:=[.none,.none]) 3 F53 t53 rfl rfl λ_ _ _ _ _ _=>us3 λ_ _ _=>⟨_,rfl,rfl⟩
 have bD53:=FunD.bindsD (ps:=["row","low","high"]) (ds:=[.none,.none]) (tup:=[.none,.none]) 1 F53 t53 rfl rfl λ_ _ _ _ _ _=>cu λ_=>⟨_,rfl,rfl⟩
 obtain⟨_,_,_,_,_,_,_,_,_,e,_,_⟩:=F73.ex;refine⟨fdL,λs v=>.of_eq (by rw[e];rfl),λbase KB GB hNS=>?_⟩;have Z:Bx l.prog w base:=⟨rfl,rfl,rfl⟩;have C1:=cal Z X G a1 F1 (E6 F1 T) λ_ _ _ _ _ _=>cc λ_ _=>rfl
 have C2:=cal Z X G a2 F2 (E7 F2 T C1) λ_ _ _ _ _ _=>cu λ_=>rfl
 have C3:=cal Z X G a3 F3 (EU F3 T) λ_ _ _ _ _ _=>cu λ_=>rfl
 have K1:KCal l.prog w K mg base 2 CC1 "Ratio" ["self","top","bottom"] (dH CC1) _ _ _ [.int 1]:=⟨Gf F4 T R1 C1,⟨cc1.mkr,a4,i4,cc1.kc⟩,PySem.W.mg_of X G cc1.a,b4,bD4,.cons ⟨_,rfl⟩ .nil⟩;have C5:=lD Z a5 i5 F5 (Ge F5 T R1 C3) λ_ _ _ _ _ _=>cc λ_ _=>rfl
 have C6:=cal Z X G a6 F6 (Fe F6 T) λ_ _ _ _ _ _=>cu λ_=>rfl
 have C7:=cal Z X G a7 F7 (FA F7 T) λ_ _ _ _ _ _=>cu λ_=>rfl
 have C8:=cal Z X G a8 F8 (FD F8 T) λ_ _ _ _ _ _=>cc λ_ _=>rfl
 have C9:=cal Z X G a9 F9 (EX F9 T C6 C8) λ_ _ _ _ _ _=>cc λ_ _=>rfl
 have C10:=cal Z X G a10 F10 (E3 F10 T) λ_ _ _ _ _ _=>cu λ_=>rfl
 have C11:=cal Z X G a11 F11 (E5 F11 T hNS hTr C2) λ_ _ _ _ _ _=>cu λ_=>rfl
 have C12:=cal Z X G a12 F12 (Ff F12 T C11) λ_ _ _ _ _ _=>cu λ_=>rfl
 have C13:=cal Z X G a13 F13 (E8 F13 T) λ_ _ _ _ _ _=>cc λ_ _=>rfl
 have C14:=cal Z X G a14 F14 (Fq F14 T) λ_ _ _ _ _ _=>us4 λ_ _ _ _=>rfl
 have C15:=cal Z X G a15 F15 (Fz F15 T C3 C7 C13 C14 C6) λ_ _ _ _ _ _=>cc λ_ _=>rfl
 have C16:=cal Z X G a16 F16 (EV F16 T) λ_ _ _ _ _ _=>us3 λ_ _ _=>rfl
 have C17:=cal Z X G a17 F17 (E4 F17 T R1 C16 C3) λ_ _ _ _ _ _=>cc λ_ _=>rfl
 have C18:=cal Z X G a18 F18 (Fa F18 T C11 C15 C9) λ_ _ _ _ _ _=>cc λ_ _=>rfl
 have C19:=cal Z X G a19 F19 (E9 F19 T C18 C10) λ_ _ _ _ _ _=>cu λ_=>rfl
 have C20:=cal Z X G a20 F20 (FE F20 T R1 C17) λ_ _ _ _ _ _=>cc λ_ _=>rfl
 have C21:=cal Z X G a21 F21 (FB F21 T R1 C20) λ_ _ _ _ _ _=>us3 λ_ _ _=>rfl
 have C22:=cal Z X G a22 F22 (FG F22 T) λ_ _ _ _ _ _=>cu λ_=>rfl
 have C23:=cal Z X G a23 F23 (FC F23 T C12 C15) λ_ _ _ _ _ _=>cc λ_ _=>rfl
 have C24:=cal Z X G a24 F24 (Fg F24 T C15 C12) λ_ _ _ _ _ _=>cc λ_ _=>rfl
 have C25:=cal Z X G a25 F25 (Fc F25 T) λ_ _ _ _ _ _=>cu λ_=>rfl
 have C26:=cal Z X G a26 F26 (ET F26 T C24 C23 C10) λ_ _ _ _ _ _=>cu λ_=>rfl
 have b27:Binds K _ ["self","row","low","high"] []:=F27.binds (λ_ _ _ _ _ _=>us4 λ_ _ _ _=>rfl);have K2:KCal l.prog w K mg base 1 CC2 "Number" ["self","row","low","high"] (mQ CC2) _ _ _ []:=⟨Gg F27 T R2,⟨cc2.mkr,a27,i27,cc2.kc⟩,PySem.W.mg_of X G cc2.a,b27,b27,.nil⟩;have C28:=cal Z X G a28 F28 (Fx F28 T R1 K1 C22) λ_ _ _ _ _ _=>cu λ_=>rfl
 have C29:=lD Z a29 i29 F29 (Gc F29 T R1) λ_ _ _ _ _ _=>cu λ_=>rfl
 have C30:=cal Z X G a30 F30 (Fn F30 T R1 K1) λ_ _ _ _ _ _=>cc λ_ _=>rfl
 have C31:=cal Z X G a31 F31 (FF F31 T R1 C7 C19 K1 C22 C20 C30) λ_ _ _ _ _ _=>cu λ_=>rfl
 have C32:=cal Z X G a32 F32 (Fy F32 T C15) λ_ _ _ _ _ _=>cc λ_ _=>rfl
 have C33:=cal Z X G a33 F33 (FI F33 T C6 C8) λ_ _ _ _ _ _=>cc λ_ _=>rfl
 have C34:=cal Z X G a34 F34 (Fk F34 T) λ_ _ _ _ _ _=>cc λ_ _=>rfl
 have C35:=lD Z a35 i35 F35 (Ga F35 T R1 K1) λ_ _ _ _ _ _=>cc λ_ _=>rfl
 have C36:=lD Z a36 i36 F36 (Gb F36 T R1 K1) λ_ _ _ _ _ _=>cc λ_ _=>rfl
 have C37:=lD Z a37 i37 F37 (FZ F37 T R1 K1) λ_ _ _ _ _ _=>cc λ_ _=>rfl
 have C38:=cal Z X G a38 F38 (EW F38 T R1 K1 C37 C29) λ_ _ _ _ _ _=>cc λ_ _=>rfl
 have C39:=cal Z X G a39 F39 (E2 F39 T R1 C37 C5) λ_ _ _ _ _ _=>cc λ_ _=>rfl
 have C40:=cal Z X G a40 F40 (EZ F40 T R1 C38 C35 C39 C12) λ_ _ _ _ _ _=>us3 λ_ _ _=>rfl
 have C41:=cal Z X G a41 F41 (Fr F41 T R1 K1 C38 C5 C17) λ_ _ _ _ _ _=>cc λ_ _=>rfl
 have C42:=cal Z X G a42 F42 (Fv F42 T R1) λ_ _ _ _ _ _=>cc λ_ _=>rfl
 have C43:=cal Z X G a43 F43 (EY F43 T R1 C2 C33 C34 C6) λ_ _ _ _ _ _=>us3 λ_ _ _=>rfl
 have C44:=cal Z X G a44 F44 (E1 F44 T) λ_ _ _ _ _ _=>cu λ_=>rfl
 have C45:=cal Z X G a45 F45 (Fm F45 T C7) λ_ _ _ _ _ _=>cu λ_=>rfl
 have C46:=cal Z X G a46 F46 (Fw F46 T C44 C3 C45) λ_ _ _ _ _ _=>us3 λ_ _ _=>rfl
 have C47:=cal Z X G a47 F47 (FH F47 T R1 C35 C37 K1) λ_ _ _ _ _ _=>us4 λ_ _ _ _=>rfl
 have C48:=cal Z X G a48 F48 (Fj F48 T R1 C36 C42 C46 C43 C17 C47) λ_ _ _ _ _ _=>us4 λ_ _ _ _=>rfl
 have C49:=cal Z X G a49 F49 (Fd F49 T) λ_ _ _ _ _ _=>cu λ_=>rfl
 have C50:=cal Z X G a50 F50 (Ft F50 T C12 C7 C28 C48 C41 C31 C40 C32 C21 C19) λ_ _ _ _ _ _=>us3 λ_ _ _=>rfl
 have C51:=cal Z X G a51 F51 (Fh F51 T R1 C50 C17 C48 C36 C37 K1 K2) λ_ _ _ _ _ _=>us3 λ_ _ _=>rfl
 have C52:=cal Z X G a52 F52 (Fo F52 T R1 C5 C21 C19) λ_ _ _ _ _ _=>us3 λ_ _ _=>rfl
 have C53:CalE l.prog w K mg base 39 "number" ["row","low","high"] (qk CC1 CC2) _ _ _ [.non,.non]:=⟨Fi F53 T R1 C25 C7 K1 C22 C26 C52 C49 C51,PySem.W.mg_of X G a53,k53,b53,bD53,.cons rfl (.cons rfl (.nil))⟩;have C54:=cal Z X G a54 F54 (Fb F54 T R1 C25 C7 C26 C49 C31 C51) λ_ _ _ _ _ _=>cu λ_=>rfl
 have C55:=cal Z X G a55 F55 (yL F55 T) λ_ _ _ _ _ _=>cc λ_ _=>rfl
 have C56:=cal Z X G a56 F56 (yL F56 T) λ_ _ _ _ _ _=>cc λ_ _=>rfl
 have C57:=cal Z X G a57 F57 (FK F57 T) λ_ _ _ _ _ _=>cu λ_=>rfl
 have C58:=cal Z X G a58 F58 (FW F58 T) λ_ _ _ _ _ _=>cc λ_ _=>rfl
 have C59:=cal Z X G a59 F59 (FR F59 T C57) λ_ _ _ _ _ _=>cu λ_=>rfl
 have C60:=cal Z X G a60 F60 (FS F60 T C58) λ_ _ _ _ _ _=>cu λ_=>rfl
 have C61:=cal Z X G a61 F61 (FU F61 T C60) λ_ _ _ _ _ _=>cu λ_=>rfl
 have C62:=cal Z X G a62 F62 (FM F62 T) λ_ _ _ _ _ _=>cc λ_ _=>rfl
 have C63:=cal Z X G a63 F63 (FX F63 T) λ_ _ _ _ _ _=>cu λ_=>rfl
 have C64:=cal Z X G a64 F64 (FJ F64 T C63 C56) λ_ _ _ _ _ _=>cc λ_ _=>rfl
 have C65:=cal Z X G a65 F65 (FO F65 T R1 K1) λ_ _ _ _ _ _=>cc λ_ _=>rfl
 have C66:=cal Z X G a66 F66 (FN F66 T C64 C56 C65) λ_ _ _ _ _ _=>cu λ_=>rfl
 have C67:=cal Z X G a67 F67 (FV F67 T C63 C56 C62 K1) λ_ _ _ _ _ _=>cu λ_=>rfl
 have C68:=cal Z X G a68 F68 (FP F68 T R1) λ_ _ _ _ _ _=>cc λ_ _=>rfl
 have C69:=cal Z X G a69 F69 (FT F69 T R1 C62) λ_ _ _ _ _ _=>us3 λ_ _ _=>rfl
 have C70:=cal Z X G a70 F70 (FY F70 T R1) λ_ _ _ _ _ _=>us6 λ_ _ _ _ _ _=>rfl
 have C71:=cal Z X G a71 F71 (FL F71 T R1 R2 C59 C5 C68) λ_ _ _ _ _ _=>cc λ_ _=>rfl
 have C72:=cal Z X G a72 F72 (FQ F72 T R1 R2 C71 C5) λ_ _ _ _ _ _=>cc λ_ _=>rfl
 exact Fu F73 T R1 R2 C56 C64 C61 C65 C67 C66 C62 C69 C60 C50 C59 C71 C53 C72 C54 C70
def walk{l:PySem.W.OpenLaw}{q:Program}{loose:List Str}{XP:(Str->Option Value)->Heap->Prop}{YP:World->Heap->Prop}{d:DefRec}{K:Params->PySem.W.Frag}(hi:PyProof.Rows.importsNone q=true)(hn:l.most=some 63)(hdf:d.params.defaults=[])
 (hY:∀(w:World) (h:Heap),YP w h->(K w.params).In h)
 (F:∀(w:World) (mg:Str->Option Value) (fa:Addr) (h:Heap),(K w.params).In h->h.Ns mainGlobals mg->mg d.name=some (.ref fa) ->
   ∃fd:FuncData,(∀(s:Shared) (u:Value),BindsTo s fd ⟨[u],[]⟩ [("_law_script",u)])/\∀base:Heap,(K w.params).In base->base.Ns mainGlobals mg->base.NoSeer->FnOk l.prog w (K w.params) mg base aD 41 fa fd ["_law_script"] (mP (K w.params))) :
 PySem.W.WalkO q loose XP YP l.row.toRowW d [] (λf vs=>PySem.call f vs) :=
 L2.walk_ofS (n:=63) (k:=41) (x:="_law_script") (CX:=λ_=>aD) (sp:=λw=>mP (K w.params)) hi hn (by decide) hdf ⟨rfl,by decide,by decide⟩ hY F (λ_ _ a ns hl _ hS=>⟨a,ns,rfl,hS,hl,λ_=>rfl⟩) λ_ _ _ _ _ z=>z
section
end
end R50
open PySem PySem.W PyProof.Rows
set_option maxRecDepth 100000 in
set_option maxHeartbeats 0 in
theorem PySem.Challenge.cw_rootspan_k50_least_polynomials_holds : PySem.Challenge.rw_rootspan_k50_least_polynomials.Holds := by
 w_on;o_law;k_head;(case hw=>w_witness2)
 k_fill
 refine R50.walk (l:=PySem.Challenge.rw_rootspan_k50_least_polynomials) (by decide +kernel) rfl rfl (λw h Y=>PySem.W.kIn_of Y) ?F
 case F =>
  intro w mg fa h KX G hmg
  refine' R50.all_mk KX G hmg ?cc1 ?n1_top ?n1_bottom ?cc2 ?n2_poly ?n2_low ?n2_high ?a4 ?i4 ?l4 ?c4 ?k4 ?t4 ?a53 ?l53 ?c53 ?k53 ?t53 ?aI_HIGHEST ?_ ?_ ?_ ?_ ?_ ?_ ?_ ?_ ?_ ?_ ?_ ?_ ?_ ?_ ?_ ?_ ?_ ?_ ?_ ?_ ?_ ?_ ?_ ?_ ?_ ?_ ?_ ?_ ?_ ?_ ?_ ?_ ?_ ?_ ?_ ?_ ?_ ?_ ?_ ?_ ?_ ?_ ?_ ?_ ?_ ?_ ?_ ?_ ?_ ?_ ?_ ?_ ?_ ?_ ?_ ?_ ?_ ?_ ?_ ?_ ?_ ?_ ?_ ?_ ?_ ?_ ?_ ?_ ?_ ?_ ?_ ?_ ?_ ?_ ?_ ?_ ?_ ?_ ?_ ?_ ?_ ?_ ?_ rfl
  (case cc1=>apply R50.ClL.mk<;>k_is)
  (case n1_top=>k_is)
  (case n1_bottom=>k_is)
  (case cc2=>apply R50.ClL.mk<;>k_is)
  (case n2_poly=>k_is)
  (case n2_low=>k_is)
  (case n2_high=>k_is)
  (case a4=>k_is)
  (case i4=>k_is)
  (case l4=>k_is)
  (case c4=>k_is)
  (case k4=>k_is)
  (case t4=>k_is)
  (case a53=>k_is)
  (case l53=>k_is)
  (case c53=>k_is)
  (case k53=>k_is)
  (case t53=>k_is)
  (case aI_HIGHEST=>k_is)
  all_goals first | (apply R50.fnL<;>k_is) | (apply R50.mtL<;>k_is) |k_is
