import PyProof.Rows.All
import Wide.All
import OpenK.AllK
import Wide.FinOn
import Lean
import PyProof.EqAt
import PyProof.EqKinds
import PyProof.TupleCall
import PySem.Challenge.RW_rootspan_k67_no_polynomial
set_option Elab.async false
set_option linter.all false
set_option maxRecDepth 100000
noncomputable section
namespace Al
def vJ:=@Nat.le_refl
def vK:=@List.length_map
def vL:=@Bool.false_ne_true
def vM:=@List.length_append
def vN:=@Nat.lt_of_lt_of_le
def vO:=@List.mem_cons
def vP:=@Nat.ne_of_lt
def vQ:=@Nat.le_trans
def vR:=@List.length_replicate
def vS:=@List.size_toArray
def vT:=@Nat.zero_le
def vU:=@List.length_drop
def vV:=@Bool.and_eq_true
def vW:=@Nat.lt_irrefl
def vX:=@List.mem_append_right
def vY:=@Bool.eq_iff_iff
def vZ:=@List.length_cons
def v0:=@List.not_mem_nil
def v1:=@List.mem_append
def v2:=@List.replicate_succ
def v3:=@List.mem_singleton
def v4:=@List.all_eq_true
def v5:=@List.mem_cons_of_mem
def v7:=@List.append_nil
def v8:=@List.lookup_cons
def v9:=@List.cons_append
def wa:=@Nat.le_of_eq
def wb:=@List.map_append
def wc:=@List.takeWhile_cons
def we:=@List.exists_cons_of_ne_nil
def wf:=@Int.emod_nonneg
def wg:=@List.mem_cons_self
def wj:=@Int.toNat_natCast
def wk:=@List.append_assoc
def wl:=@List.drop_eq_getElem_cons
def wm:=@List.drop_eq_nil_of_le
def wn:=@Int.emod_lt_of_pos
def wo:=@Nat.lt_succ_self
def wq:=@Option.isSome_iff_exists
def wt:=@List.length_take
def wu:=@List.flatten_cons
def wv:=@Nat.le_of_not_lt
def ww:=@List.take_length
def wx:=@List.filterMap_cons
def wy:=@List.length_singleton
end Al
open Al
namespace PySem.W.Fast
def tw115116106016087404:=()
def tw7424763419766776274:=()
def tw11861795041052379903:=()
def tw6834113252217239127:=()
def tw10959034729377639384:=()
def tw5805224199101938681:=()
def tw17233978693110677640:=()
def tw13376976862315579120:=()
def tw670206125176150483:=()
def tw10210080371771244525:=()
def tw3860982741455491060:=()
def tw2162550461030592958:=()
def tw2928251851456105746:=()
def tw8780091998103861267:=()
def tw17591323363349010232:=()
def tw14019549450425818487:=()
def tw17951693997851443168:=()
def tw7880936837437589823:=()
def tw7770193413775929707:=()
def tw2222353772141793349:=()
def tw4999909422349270011:=()
def tw11926245313392378458:=()
def tw9326585182002973006:=()
def tw8016114604946297783:=()
def tw12609114032196757894:=()
def tw9714966295942218821:=()
def tw5682797293011851525:=()
def tw1076614277460302502:=()
def tw15907385427090068846:=()
def tw14665523774393825390:=()
def tw15513330484715865036:=()
def tw15696123561223377496:=()
def tw5080411900344694938:=()
def tw18444620458695081607:=()
def tw3942431784343296238:=()
def tw10521057540673715289:=()
def tw1897741682919873918:=()
def tw12168473017581163339:=()
def tw14754080288744763939:=()
def tw17333899713332927995:=()
def tw3159552632784298756:=()
def tw17791056636902441549:=()
def tw16715720626345704597:=()
def tw3712964118500365895:=()
def tw4702653791919079302:=()
def tw8472972250041890742:=()
def tw1658038739971198527:=()
def tw9971660796872469485:=()
def tw6076492800461715766:=()
def tw15056210298783218023:=()
def tw11872263228055845350:=()
def tw6141253790619222157:=()
def tw983688848958050587:=()
def tw10295339192895510449:=()
def tw6850983194018045051:=()
def tw11129082530685875303:=()
def tw16931751142193477331:=()
def tw13278656166475818689:=()
def tw5829800172384273654:=()
def tw4243010073728624441:=()
def tw14978258116846558535:=()
def tw3793285760516323493:=()
def tw11199357156962068529:=()
def tw7515120040121445318:=()
def tw6588715256802447473:=()
def tw7169579011583099143:=()
def tw4291591809784907548:=()
def tw15171672048467112168:=()
def tw10804890065191534317:=()
def tw15414558642568917848:=()
def tw12572259110740904023:=()
def tw3672735438247406320:=()
def tw2081461333354629838:=()
def tw976430107813618469:=()
def tw533680891653194259:=()
def tw4634259210124449041:=()
def tw13388099601077449955:=()
def tw4038519292466303303:=()
def tw5344135724649421788:=()
def tw2695891404658479942:=()
def tw17419982867945222733:=()
def tw8208835711477040616:=()
def tw9662427996349326360:=()
def tw192442594018234350:=()
def tw17491765677721881749:=()
def tw6018705923245329915:=()
def tw12571805290885047471:=()
def tw8685124664240889771:=()
def tw1702242141691435365:=()
def tw6223082949588548732:=()
def tw10562988623878769681:=()
def tw11077584653644846713:=()
def tw2851883649418177292:=()
def tw3027113099214559550:=()
def tw9925808376723667102:=()
def tw4579407223223118484:=()
def tw1202847708899008271:=()
def tw8934411153824860681:=()
def tw11102636277405616678:=()
def tw5094004204723290198:=()
def tw8039618001765440577:=()
def tw12306967450213841496:=()
def tw1467004288836006587:=()
def tw9810496332208084151:=()
def tw11108685846791475414:=()
def tw8446375677139796689:=()
def tw11881124626489751841:=()
def tw16331171828689734896:=()
def tw4249227596791208459:=()
def tw3868787259037276731:=()
def tw892388245370373112:=()
def tw4262956324355433521:=()
def tw8133209363657401465:=()
def tw3104561516755288859:=()
def tw18378700911582497647:=()
def tw13244982013228271886:=()
def tw3548288762978044839:=()
def tw14436280475695581537:=()
def tw7307439261594568112:=()
def tw14160739225701790784:=()
def tw12333528615743862015:=()
def tw5017238736751914442:=()
def tw11686254059655024518:=()
def tw15146987992557423532:=()
def tw12793339123179753423:=()
def tw4860208649225035900:=()
def tw17168365948511947246:=()
def tw7895203204359426964:=()
def tw7665280245023630346:=()
def tw420077864947143757:=()
def tw3166395199052129589:=()
def tw14238938402902605169:=()
def tw3096296418667246599:=()
def tw14141240424059149415:=()
def tw8290364939909763877:=()
def tw5448586522087143188:=()
def tw8311749237203377972:=()
def tw2937837726836974684:=()
def tw7579601996958451964:=()
def tw571213808441885981:=()
def tw4129538386247877683:=()
def tw2176264929407972376:=()
def tw11463030408324698818:=()
def tw3307611984105133505:=()
def tw13487330575443329977:=()
def tw18247883454168889381:=()
def tw12758621280376881194:=()
def tw3176352299769963590:=()
def tw4673462325481882287:=()
def tw9863587504815614608:=()
def tw4005557284175189142:=()
def tw9980801174419805938:=()
def tw18422792582837388729:=()
def tw7187556507798742154:=()
def tw1207250045011083504:=()
def tw14991406194108958318:=()
def tw17554521915745913082:=()
def tw7692195202122550207:=()
def tw7288797434016180567:=()
def tw15743022106776625978:=()
def tw17814380944478781708:=()
def tw17748361761152289326:=()
def tw1828700050502655835:=()
def tw3849932566050963973:=()
def tw1208192313436582358:=()
def tw4170257751902613488:=()
def tw10093726642071305537:=()
def tw3064151594458820101:=()
def tw4466192798620866236:=()
def tw11790314994013499832:=()
def tw15777179593307982399:=()
def tw13770716534356264574:=()
def tw9197795174593465121:=()
def tw5444262474010874826:=()
def tw9731228903964155461:=()
def tw13735539792011478523:=()
def tw15499000868825886242:=()
def tw10729659159536508256:=()
def tw6395380200079315339:=()
def tw8537828954885506922:=()
end PySem.W.Fast
namespace L2
open PySem PySem.Spec PyProof.Rows
abbrev Key:=Sum Int Str
noncomputable def kN:Key->Value->Bool
 |.inl k,v=>Value.isInt k v
 |.inr x,v=>Value.isStrOf x v
noncomputable def qS(w:World):Key->Int
 |.inl k=>hashInt k
 |.inr x=>hashStr w x
theorem bT:∀{k:Key} {v:Value},kN k v=true->(∃i t,k=Sum.inl i/\v=Value.int i t)\/(∃x t,k=Sum.inr x/\v=Value.str x t)
 |.inl i,v,h=>by obtain⟨t,e⟩:=Value.isInt_shape (k:=i) (v:=v) h;exact .inl ⟨i,t,rfl,e⟩
 |.inr x,v,h=>by obtain⟨t,e⟩:=Value.isStrOf_shape (x:=x) (v:=v) h;exact .inr ⟨x,t,rfl,e⟩
theorem qR(a b:Int):decide ((Sum.inl a:Key)=Sum.inl b)=(a == b):=by
 by_cases e:a=b
 ·subst e;simp
 ·have h:¬(Sum.inl a:Key)=Sum.inl b:=λq=>e (Sum.inl.inj q)
  rw[decide_eq_false h];exact(beq_eq_false_iff_ne.mpr e).symm
theorem qO(a b:Str):decide ((Sum.inr a:Key)=Sum.inr b)=decide (a=b):=by
 by_cases e:a=b
 ·subst e;simp
 ·have h:¬(Sum.inr a:Key)=Sum.inr b:=λq=>e (Sum.inr.inj q)
  rw[decide_eq_false h,decide_eq_false e]
theorem qQ(a:Int)(b:Str):decide ((Sum.inl a:Key)=Sum.inr b)=false:=decide_eq_false (λq=>nomatch q)
theorem qP(a:Str)(b:Int):decide ((Sum.inr a:Key)=Sum.inl b)=false:=decide_eq_false (λq=>nomatch q)
noncomputable def kz(prog:Program)(w:World):PySem.KeyKind prog w Key where
 is:=kN
 hash:=qS w
 inj:=λv a b ha hb=>by
  rcases bT ha with⟨i,t,rfl,rfl⟩ |⟨x,t,rfl,rfl⟩
  ·rcases bT hb with⟨j,u,rfl,e⟩ |⟨y,u,rfl,e⟩
   ·injection e with e1 _;rw[e1]
   ·exact nomatch e
  ·rcases bT hb with⟨j,u,rfl,e⟩ |⟨y,u,rfl,e⟩
   ·exact nomatch e
   ·injection e with e1 _;rw[e1]
 byValue:=λk v h=>by rcases bT h with⟨i,t,rfl,rfl⟩ |⟨x,t,rfl,rfl⟩<;>rfl
 pyHash:=λhv h=>by
  rcases bT hv with⟨i,t,rfl,rfl⟩ |⟨x,t,rfl,rfl⟩
  ·exact wpAny_pyHash_int h
  ·exact wpAny_pyHash_str h
 eqBool:=λhu hv h=>by
  rcases bT hu with⟨i,t,rfl,rfl⟩ |⟨x,t,rfl,rfl⟩
  ·rcases bT hv with⟨j,u,rfl,rfl⟩ |⟨y,u,rfl,rfl⟩
   ·rw[qR]at h;exact wpAny_eqBool_int h
   ·rw[qQ]at h;exact SeqAt.EqAt.int_str i t y u _ _ _ _ h
  ·rcases bT hv with⟨j,u,rfl,rfl⟩ |⟨y,u,rfl,rfl⟩
   ·rw[qP]at h;exact SeqAt.EqAt.str_int x t j u _ _ _ _ h
   ·rw[qO]at h;exact wpAny_eqBool_str h
 «strs»:=λk x t v h=>by
  rcases bT h with⟨i,u,rfl,e⟩ |⟨y,u,rfl,e⟩
  ·exact nomatch e
  ·injection e with e1 _
   subst e1;cases v<;>rfl
inductive V where
 |non |bl (b:Bool) |int (i:Int) |str (x:Str) |byt (b:Array UInt8) |flt (b:UInt64) |ref (a:Addr) |ty (n:String)
 deriving DecidableEq
noncomputable def RelV:V->Value->Prop
 |.non,u=>u=Value.none
 |.bl b,u=>u=Value.bool b
 |.int i,u=>∃t,u=Value.int i t
 |.str x,u=>∃t,u=Value.str x t
 |.byt b,u=>∃t,u=Value.bytes b t
 |.flt b,u=>∃t,u=Value.float b t
 |.ref a,u=>u=Value.ref a
 |.ty n,u=>u=Value.type n
abbrev Vals:List V->List Value->Prop:=Paired RelV
theorem Vals.length{xs:List V}{us:List Value}(r:Vals xs us):xs.length=us.length:=Paired.length r
theorem Vals.get:∀{xs:List V} {us:List Value} {i:Nat} {x:V},Vals xs us->xs[i]?=some x->∃u,us[i]?=some u/\RelV x u
 |_,_,_,_,.nil,e=>by simp at e
 |_,_,0,_,.cons r _,e=>by simp at e;subst e;exact⟨_,rfl,r⟩
 |_,_,i+1,x,.cons _ t,e=>by obtain⟨u,h1,h2⟩:=Vals.get (i:=i) (x:=x) t (by simpa using e);exact⟨u,by simpa using h1,h2⟩
theorem Vals.set{x:V}{u:Value}(r:RelV x u):∀{xs:List V} {us:List Value} (i:Nat),Vals xs us->Vals (xs.set i x) (us.set i u)
 |_,_,_,.nil=>.nil
 |_,_,0,.cons _ t=>.cons r t
 |_,_,i+1,.cons q t=>.cons q (Vals.set r i t)
theorem Vals.append:∀{xs ys:List V} {us ws:List Value},Vals xs us->Vals ys ws->Vals (xs++ys) (us++ws)
 |_,_,_,_,.nil,s=>s
 |_,_,_,_,.cons r t,s=>.cons r (Vals.append t s)
theorem Vals.take:∀{xs:List V} {us:List Value} (n:Nat),Vals xs us->Vals (xs.take n) (us.take n)
 |_,_,0,_=>.nil
 |_,_,_+1,.nil=>.nil
 |_,_,n+1,.cons r t=>.cons r (Vals.take n t)
theorem Vals.drop:∀{xs:List V} {us:List Value} (n:Nat),Vals xs us->Vals (xs.drop n) (us.drop n)
 |_,_,0,r=>r
 |_,_,_+1,.nil=>.nil
 |_,_,n+1,.cons _ t=>Vals.drop n t
theorem Vals.none_of:∀{xs:List V} {us:List Value} {i:Nat},Vals xs us->xs[i]?=none->us[i]?=none:=λ{xs us i} r e=>by have h1:=r.length;have h2:xs.length<=i:=List.getElem?_eq_none_iff.mp e;exact List.getElem?_eq_none_iff.mpr (by omega)
noncomputable def RelO:Option V->Option Value->Prop
 |some v,some u=>RelV v u
 |none,none=>True
 |_,_=>False
noncomputable def KV{κ:Type}:List (κ×V)->List (κ×Value)->Prop:=Paired λ(p:κ×V) (q:κ×Value)=>p.1=q.1/\RelV p.2 q.2
noncomputable def kV:Key->V
 |.inl i=>.int i
 |.inr x=>.str x
inductive HO where
 |lst (xs:List V)
 |tup (xs:List V)
 |dK (kvs:List (Key×V)) |dT (kvs:List (List Key×V))
 |set (S:Int->Bool) (n:Nat)
 |ins (C dx:Addr) (fs:List (Str×V))
 |own (x:Addr)
 |xd (fs:List (Str×V))
 |met (f x:Addr)
 |rng (lo hi:Int)
 |frz (o:Obj) (u:HO)
 |tbl (ps:Array Value)
 |ext (φ:Heap->Prop)
abbrev Hp:=Addr->Option HO
noncomputable def upd(H:Hp)(a:Addr)(o:HO):Hp:=λb=>if b=a then some o else H b
theorem ai{H:Hp}{a:Addr}{o:HO}:upd H a o a=some o:=by unfold upd;rw[if_pos rfl]
theorem upd_ne{H:Hp}{a b:Addr}{o:HO}(h:b≠a):upd H a o b=H b:=by unfold upd;rw[if_neg h]
theorem gF{H:Hp}{a:Addr}{o u:HO}:upd (upd H a o) a u=upd H a u:=by funext b;unfold upd;split<;>rfl
theorem aO{H:Hp}{a b:Addr}{o:HO}(h:H a=some o)(h':H b=none):a≠b:=by intro e;subst e;rw[h]at h';cases h'
section
variable (P:Program)(w:World)
noncomputable def ObjOk(H:Hp)(h:Heap)(a:Addr):HO->Prop
 |.lst xs=>xs.length<=sizeLine/\∃(its:List Value) (n:Nat),Vals xs its/\h.get? a=some { cls:=.type "list",data:=.seq its.toArray n }
 |.tup xs=>xs.length<=sizeLine/\∃its:List Value,Vals xs its/\IsTup h a its.toArray
 |.dK kvs=>kvs.length<=sizeLine/\(a == sysModules)=false/\∃vs,KV kvs vs/\h.DictOf (kz P w) a vs
 |.dT kvs=>kvs.length<=sizeLine/\(a == sysModules)=false/\∃xs:List (List Key×Addr×Value),
  Paired (λ(p:List Key×V) (q:List Key×Addr×Value)=>p.1=q.1/\H q.2.1=some (.tup (p.1.map kV))/\RelV p.2 q.2.2) kvs xs /\
  ∃o es ep,h.get? a=some o/\o.ExactDict/\o.data=.dict es ep/\es.toList=xs.map (entryOfKey (tupleKind (kz P w)))/\(xs.map (·.1)).Nodup
 |.set S n=>h.SetOf (intKind P w) a S n
 |.ins C dx fs=>H dx=some (.own a)/\fs.length<=1000/\dx≠a/\h.get? a=some (PySem.W.instObj C dx) /\
  ∃mA,h.Ns1 dx mA/\(∀f,RelO (fs.lookup f) (mA f))/\PySem.Within mA (fs.map (·.1))
 |.own _=>∃o,h.get? a=some o
 |.xd fs=>∃mA,h.Ns1 a mA/\∀f,RelO (fs.lookup f) (mA f)
 |.rng lo hi=>∃t u v,h.get? a=some { cls:=.type "range",data:=.fields #[.int lo t,.int hi u,.int 1 v] }
 |.frz o u=>h.get? a=some o/\ObjOk H h a u
 |.tbl ps=>h.get? a=some { cls:=.none,data:=.fields ps }
 |.met f x=>h.get? a=some (PySem.W.methodObj (.ref f) (.ref x))
 |.ext φ=>φ h/\(∃o,h.get? a=some o)/\∀h1 h2:Heap,φ h1->(∀o,h1.get? a=some o->h2.get? a=some o)->φ h2
def HOk(H:Hp)(h:Heap):Prop:=∀a o,H a=some o->ObjOk P w H h a o
end
section
variable {P:Program}{w:World}{H H':Hp}{h h':Heap}{a:Addr}{o:HO}
theorem ObjOk.lt(x:ObjOk P w H h a o):a<h.objs.size:=by
 cases o with
 |lst xs=>obtain⟨_,_,_,_,e⟩:=x;exact Heap.lt_size e
 |tup xs=>obtain⟨_,_,_,p⟩:=x;exact p.lt
 |dK kvs=>obtain⟨_,_,_,_,o,_,_,e,_⟩:=x;exact Heap.lt_size e
 |dT kvs=>obtain⟨_,_,_,_,o,_,_,e,_⟩:=x;exact Heap.lt_size e
 |set S n=>obtain⟨o,_,_,_,e,_⟩:=x;exact Heap.lt_size e
 |ins C dx fs=>obtain⟨_,_,_,e,_⟩:=x;exact Heap.lt_size e
 |own y=>obtain⟨_,e⟩:=x;exact Heap.lt_size e
 |xd fs=>obtain⟨_,⟨_,_,_,e,_⟩,_⟩:=x;exact Heap.lt_size e
 |rng lo hi=>obtain⟨_,_,_,e⟩:=x;exact Heap.lt_size e
 |frz ob u=>obtain⟨e,_⟩:=x;exact Heap.lt_size e
 |tbl ps=>exact Heap.lt_size (show h.get? a=some _ from x)
 |met f y=>exact Heap.lt_size (show h.get? a=some _ from x)
 |ext φ=>obtain⟨_,⟨_,e⟩,_⟩:=x;exact Heap.lt_size e
theorem Paired.mapP{α β:Type}{F G:α->β->Prop}:∀{l₁:List α} {l₂:List β},Paired F l₁ l₂->(∀a b,F a b->G a b)->Paired G l₁ l₂
 |_,_,.nil,_=>.nil
 |_,_,.cons r t,f=>.cons (f _ _ r) (Paired.mapP t f)
theorem ObjOk.stay(x:ObjOk P w H h a o)(k:∀b u,(b=a\/H b=some (.own a))->h.get? b=some u->h'.get? b=some u)
 (ho:∀b,H b=some (.own a)->H' b=some (.own a)) (ht:∀b xs,H b=some (.tup xs)->H' b=some (.tup xs)):ObjOk P w H' h' a o:=by
 induction o with
 |lst xs=>obtain⟨z,its,n,r,e⟩:=x;exact⟨z,its,n,r,k _ _ (.inl rfl) e⟩
 |tup xs=>obtain⟨z,its,r,ob,e,c⟩:=x;exact⟨z,its,r,ob,k _ _ (.inl rfl) e,c⟩
 |dK kvs=>obtain⟨z,y,vs,r,ob,es,ep,e,c⟩:=x;exact⟨z,y,vs,r,ob,es,ep,k _ _ (.inl rfl) e,c⟩
 |dT kvs =>obtain⟨z,y,xs,r,ob,es,ep,e,c⟩:=x;exact⟨z,y,xs,Paired.mapP r λp q z=>⟨z.1,ht _ _ z.2.1,z.2.2⟩,ob,es,ep,k _ _ (.inl rfl) e,c⟩
 |set S n=>obtain⟨ob,es,ep,t,e,c⟩:=x;exact⟨ob,es,ep,t,k _ _ (.inl rfl) e,c⟩
 |ins C dx fs =>obtain⟨d,z,ne,e,mA,⟨od,es,ep,e2,c⟩,r⟩:=x;exact⟨ho _ d,z,ne,k _ _ (.inl rfl) e,mA,⟨od,es,ep,k _ _ (.inr d) e2,c⟩,r⟩
 |own y=>obtain⟨ob,e⟩:=x;exact⟨ob,k _ _ (.inl rfl) e⟩
 |xd fs=>obtain⟨mA,⟨od,es,ep,e,c⟩,r⟩:=x;exact⟨mA,⟨od,es,ep,k _ _ (.inl rfl) e,c⟩,r⟩
 |rng lo hi=>obtain⟨t,u,v,e⟩:=x;exact⟨t,u,v,k _ _ (.inl rfl) e⟩
 |frz ob u ih=>obtain⟨e,q⟩:=x;exact⟨k _ _ (.inl rfl) e,ih q⟩
 |tbl ps =>have e:h.get? a=some { cls:=.none,data:=.fields ps }:=x;show h'.get? a=some { cls:=.none,data:=.fields ps };exact k a _ (.inl rfl) e
 |met f y =>have e:h.get? a=some (PySem.W.methodObj (.ref f) (.ref y)):=x;show h'.get? a=some (PySem.W.methodObj (.ref f) (.ref y));exact k a _ (.inl rfl) e
 |ext φ=>obtain⟨p,⟨o,e⟩,st⟩:=x;exact⟨st _ _ p λo q=>k _ _ (.inl rfl) q,⟨o,k _ _ (.inl rfl) e⟩,st⟩
theorem HOk.lt(x:HOk P w H h)(e:H a=some o):a<h.objs.size:=(x a o e).lt
theorem HOk.fresh(x:HOk P w H h)(e:h.objs.size<=a):H a=none:=by
 cases q:H a with
 |none=>rfl
 |some u=>exact absurd (vN (x.lt q) e) (vW _)
theorem HOk.kept(x:HOk P w H h)(k:∀b u,h.get? b=some u->h'.get? b=some u):HOk P w H h':=λa o e =>(x a o e).stay (λb u _ q=>k b u q) (λ_ q=>q) λ_ _ q=>q
theorem HOk.laid(x:HOk P w H h)(k:∀b u,h.get? b=some u->h'.get? b=some u)(hp:h.objs.size<=a)(new:ObjOk P w (upd H a o) h' a o):HOk P w (upd H a o) h':=λb u e=>by
 have hn:=x.fresh hp;by_cases hb:b=a
 ·subst hb;rw[ai]at e;cases e;exact new
 ·rw[upd_ne hb]at e;exact(x b u e).stay (λc v _ q=>k c v q) (λc q=>by rw[upd_ne (aO q hn)];exact q) λc xs q=>by rw[upd_ne (aO q hn)];exact q
end
def Rd(H:Hp)(a:Addr)(u:HO):Prop:=H a=some u\/∃o,H a=some (.frz o u)
theorem Rd.of{H:Hp}{a:Addr}{u:HO}(h:H a=some u):Rd H a u:=.inl h
theorem Rd.ok{P:Program}{w:World}{H:Hp}{h:Heap}{a:Addr}{u:HO}(r:Rd H a u)(x:HOk P w H h):ObjOk P w H h a u:=by
 rcases r with r |⟨o,r⟩
 ·exact x a u r
 ·obtain⟨_,q⟩:=x a _ r;exact q
noncomputable def Mut:Option HO->Prop
 |some (.lst _)=>True
 |some (.dK _)=>True
 |some (.dT _)=>True
 |some (.set _ _)=>True
 |some (.ins _ _ _)=>True
 |some (.ext _)=>True
 |_=>False
section
variable {P:Program}{w:World}{H:Hp}{h h':Heap}{x e:Addr}{o':HO}
theorem HOk.write(ok:HOk P w H h)(mu:Mut (H x))(he:e=x\/H e=some (.own x))(k:∀b u,b≠e->h.get? b=some u->h'.get? b=some u)(heo:∃u,h'.get? e=some u)
 (new:ObjOk P w (upd H x o') h' x o'):HOk P w (upd H x o') h':=λb u q=>by
 have nown:∀c y,H c=some (.own y)->c≠x:=λc y r z=>by subst z;rw[r]at mu;exact mu
 have ntup:∀c xs,H c=some (.tup xs)->c≠x:=λc xs r z=>by subst z;rw[r]at mu;exact mu
 by_cases hb:b=x
 ·subst hb;rw[ai]at q;cases q;exact new
 ·rw[upd_ne hb]at q;by_cases hbe:b=e
  ·have q':H b=some (.own x):=by
    rcases he with z |z
    ·exact absurd (hbe.trans z) hb
    ·rw[hbe];exact z
   rw[q]at q';cases q';obtain⟨v,hv⟩:=heo;exact⟨v,by rw[hbe];exact hv⟩
  ·refine(ok b u q).stay (λc v hc r=>k c v ?_ r) (λc r=>by rw[upd_ne (nown c b r)];exact r) λc xs r=>by rw[upd_ne (ntup c xs r)];exact r
   rcases hc with rfl |hc
   ·exact hbe
   ·rintro rfl;rcases he with z |z
    ·exact nown c b hc z
    ·rw[hc]at z;cases z;exact hb rfl
end
structure Un(fs ex:List Addr)(H H':Hp)(h h':Heap):Prop where
 keep:∀b o,h.get? b=some o->H b=none->b∉fs->b∉ex->h'.get? b=some o
 slot:∀b o,h.get? b=some o->H b=none->b∈fs->b∉ex->∃sl,h'.get? b=some { o with slots:=sl }
 free:∀b o,h.get? b=some o->H b=none->b∉ex->H' b=none
 there:∀b o,h.get? b=some o->b∉ex->∃o',h'.get? b=some o'
 tups:∀b xs,H b=some (.tup xs)->H' b=some (.tup xs)
 frzs:∀b o u,H b=some (.frz o u)->H' b=some (.frz o u)
 tbls:∀b ps,H b=some (.tbl ps)->∃more,H' b=some (.tbl (ps++more))
section
variable {fs fs' ex ex':List Addr}{H H1 H2:Hp}{h h1 h2 h':Heap}{a x e:Addr}{o:HO}
theorem Un.any(u:Un fs ex H H1 h h1){b:Addr}{ob:Obj}(q:h.get? b=some ob)(n:H b=none)(hx:b∉ex):∃sl,h1.get? b=some { ob with slots:=sl }:=by
 by_cases hb:b∈fs
 ·exact u.slot b ob q n hb hx
 ·exact⟨ob.slots,u.keep b ob q n hb hx⟩
theorem Un.trans(a:Un fs ex H H1 h h1)(b:Un fs ex H1 H2 h1 h2):Un fs ex H H2 h h2 where
 keep:=λc ob q n hc hx=>b.keep c ob (a.keep c ob q n hc hx) (a.free c ob q n hx) hc hx
 slot:=λc ob q n hc hx=>by obtain⟨sl,e1⟩:=a.slot c ob q n hc hx;obtain⟨sl',e2⟩:=b.slot c _ e1 (a.free c ob q n hx) hc hx;exact⟨sl',e2⟩
 free:=λc ob q n hx=>by obtain⟨o',e1⟩:=a.there c ob q hx;exact b.free c o' e1 (a.free c ob q n hx) hx
 there:=λc ob q hx=>by obtain⟨o',e1⟩:=a.there c ob q hx;exact b.there c o' e1 hx
 tups:=λc xs q=>b.tups c xs (a.tups c xs q)
 frzs:=λc ob xs q=>b.frzs c ob xs (a.frzs c ob xs q)
 tbls:=λc ps q=>by obtain⟨m1,e1⟩:=a.tbls c ps q;obtain⟨m2,e2⟩:=b.tbls c _ e1;exact⟨m1++m2,by rw[e2,Array.append_assoc]⟩
theorem Un.kept(k:∀b u,h.get? b=some u->h'.get? b=some u):Un fs ex H H h h' :=
 ⟨λb ob q _ _ _=>k b ob q,λb ob q _ _ _=>⟨ob.slots,k b ob q⟩,λ_ _ _ n _=>n,λb ob q _=>⟨ob,k b ob q⟩,λ_ _ q=>q,λ_ _ _ q=>q,λ_ ps q=>⟨#[],by rw[q];simp⟩⟩
theorem Un.refl:Un fs ex H H h h:=Un.kept λ_ _ q=>q
theorem Un.laid(k:∀b u,h.get? b=some u->h'.get? b=some u)(hp:h.objs.size<=a)(hn:H a=none):Un fs ex H (upd H a o) h h' where
 keep:=λb u q _ _ _=>k b u q
 slot:=λb u q _ _ _=>⟨u.slots,k b u q⟩
 free:=λb u q n _=>by rw[upd_ne (vP (vN (Heap.lt_size q) hp))];exact n
 there:=λb u q _=>⟨u,k b u q⟩
 tups:=λb xs q=>by rw[upd_ne (aO q hn)];exact q
 frzs:=λb u xs q=>by rw[upd_ne (aO q hn)];exact q
 tbls:=λb ps q=>⟨#[],by rw[upd_ne (aO q hn),q];simp⟩
theorem Un.write(mu:Mut (H x))(he:e=x\/H e=some (.own x))(k:∀b u,b≠e->h.get? b=some u->h'.get? b=some u)(heo:∃u,h'.get? e=some u):Un fs ex H (upd H x o) h h':=by
 have hx:∀b,H b=none->b≠x:=λb n z=>by subst z;rw[n]at mu;exact mu
 have hb:∀b,H b=none->b≠e:=λb n z=>by
  subst z;rcases he with r |r
  ·exact hx b n r
  ·rw[n]at r;cases r
 have hm:∀b u,H b=some u->¬Mut (some u)->b≠x:=λb u q nm z=>by subst z;rw[q]at mu;exact nm mu
 refine⟨λb u q n _ _=>k b u (hb b n) q,λb u q n _ _=>⟨u.slots,k b u (hb b n) q⟩,λb u q n _=>by rw[upd_ne (hx b n)];exact n,λb u q _=>?_,
  λb xs q=>by rw[upd_ne (hm b _ q λz=>z)];exact q,λb u xs q=>by rw[upd_ne (hm b _ q λz=>z)];exact q,λb ps q=>⟨#[],by rw[upd_ne (hm b _ q λz=>z),q];simp⟩⟩
 by_cases hbe:b=e
 ·subst hbe;exact heo
 ·exact⟨u,k b u hbe q⟩
theorem Un.mono(u:Un fs ex H H1 h h1)(hs:∀b∈fs,b∈fs')(hx:∀b∈ex,b∈ex'):Un fs' ex' H H1 h h1 :=
 ⟨λb ob q n hb he=>u.keep b ob q n (λz=>hb (hs b z)) λz=>he (hx b z),λ_ _ q n _ he=>u.any q n λz=>he (hx _ z),λb ob q n he=>u.free b ob q n λz=>he (hx b z),λb ob q he=>u.there b ob q λz=>he (hx b z),u.tups,u.frzs,u.tbls⟩
end
noncomputable def trk(h:Heap)(H:Hp):List Addr:=(List.range h.objs.size).filter λa=>(H a).isSome
noncomputable def bV(h:Heap)(H:Hp):Heap:=PySem.W.hideAll h (trk h H)
theorem rG(h:Heap)(H:Hp):(bV h H).objs.size=h.objs.size:=PySem.W.hideAll_size _ _
theorem rH{h:Heap}{H:Hp}{b:Addr}{o:Obj}(e:h.get? b=some o)(n:H b=none):(bV h H).get? b=some o :=
 PySem.W.hideAll_get _ e λhm=>by have q:(H b).isSome=true:=(List.mem_filter.mp hm).2;rw[n]at q;simp at q
theorem pJ{h:Heap}{H:Hp}{b:Addr}{o:Obj}(e:(bV h H).get? b=some o):h.get? b=some o/\H b=none:=by
 have e':h.get? b=some o:=PySem.W.of_hideAll (trk h H) e;refine⟨e',?_⟩;cases q:H b with
 |none=>rfl
 |some x =>have hm:b∈trk h H:=List.mem_filter.mpr ⟨List.mem_range.mpr (Heap.lt_size e'),by simp[q]⟩;have z:(bV h H).get? b=none:=PySem.W.hideAll_none (trk h H) hm;rw[z]at e;cases e
noncomputable def uB(g h:Heap)(L:Addr):List (Addr×Obj):=(List.range h.objs.size).filterMap λa=>if a=L\/(g.get? a).isSome=true then none else(h.get? a).map λo=>(a,o)
noncomputable def rest(g h:Heap)(L d:Addr):List (Addr×Obj):=(uB g h L).filter λp=>decide (p.1≠d)
structure Mod(K:PySem.W.Frag)(mg:Str->Option Value)(base:Heap):Prop where
 kin:K.In base
 glob:base.Ns mainGlobals mg
 blt:∃mb,base.Ns builtinsNs mb/\∀x:Str,x≠"__name__"->mb x=bootBuiltins x
 nolimit:base.NoLimit
structure Cx where
 prog:Program
 w:World
 K:PySem.W.Frag
 mg:Str->Option Value
 base:Heap
 A:Around
 N:List Str
 s₀:Shared
 H₀:Hp
 env:Env
 outer:List Env
 stack:List Env
 ex:List Addr
 fn:Str->Bool
 calm:Bool
 pn:List (Addr×Obj)
 xe:Value->Shared->Prop
noncomputable def frs(l:List Env):List Addr:=l.filterMap (·.frame)
abbrev Cx.fs(X:Cx):List Addr:=frs X.outer
def Vis(sc:Scope)(x:Str):Prop:=sc.names.lookup x=some .local\/sc.names.lookup x=some .cell\/sc.names.lookup x=some .free
def Loc(sc:Scope)(x:Str):Prop:=sc.names.lookup x=some .local\/sc.names.lookup x=some .cell
noncomputable def uG(env:Env)(h:Heap)(m:Str->Option Value)(x:Str)(u:Value):Prop :=
 (env.kindOf x=some .local/\m x=some u)\/((env.kindOf x=some .cell\/env.kindOf x=some .free)/\∃c,env.cells.lookup x=some c/\h.IsCell c (some u))
structure Cx.Ok(X:Cx):Prop where
 mod:Mod X.K X.mg X.base
 kind:X.env.scope.kind=.function
 glob:X.env.globals=mainGlobals
 blt:X.env.builtins=builtinsNs
 above:X.s₀.heap.objs.size<=X.env.locals
 inj:∀x y c,X.env.cells.lookup x=some c->X.env.cells.lookup y=some c->x=y
 has:∀x,(X.env.kindOf x=some .cell\/X.env.kindOf x=some .free)->∃c,X.env.cells.lookup x=some c
 cab:∀x c,X.fn x=true->X.env.cells.lookup x=some c->X.s₀.heap.objs.size<=c
 hd:X.calm=true->X.A.handled=none
 frames:X.A.frames=some X.stack
 stk:X.stack=X.outer\/(X.stack=X.env::X.outer/\X.env.frame=some X.env.locals)
 exf:∀b∈X.ex,b≠X.env.locals/\∀x c,X.env.cells.lookup x=some c->c≠b
 bs:∀b o,X.base.get? b=some o->X.s₀.heap.get? b=some o/\X.H₀ b=none
 bsz:X.base.objs.size<=X.s₀.heap.objs.size
 noex:∀b o,X.base.get? b=some o->b∉X.ex
 exfs:∀b∈X.ex,b∉X.fs
 funs:X.s₀.heap.FunFrames X.base X.outer
 frf:∀b∈X.fs,X.H₀ b=none
structure Inv(X:Cx)(pins:List (Addr×Obj))(σ:List (Option V))(H:Hp)(s:Shared):Prop where
 ok:X.Ok
 os:s.os=X.s₀.os
 bare:AllBare s.gens
 base:Un X.fs X.ex X.H₀ H X.s₀.heap s.heap
 loc:∃m,s.heap.Ns X.env.locals m/\∀(i:Nat) (x:Str) (v:V),X.N[i]?=some x->σ[i]?=some (some v)->Vis X.env.scope x->∃u,RelV v u/\uG X.env s.heap m x u
 cell:∀x c,X.env.cells.lookup x=some c->∃v,s.heap.IsCell c v
 free:H X.env.locals=none
 freeC:∀x c,X.env.cells.lookup x=some c->H c=none
 pin:∀p∈X.pn++pins,s.heap.get? p.1=some p.2/\H p.1=none/\p.1≠X.env.locals/\p.1∉X.fs/\∀v,p.2.data≠.cell v
 hok:HOk X.prog X.w H s.heap
 len:σ.length=X.N.length
section
variable {X:Cx}{pins:List (Addr×Obj)}{σ:List (Option V)}{H H':Hp}{s:Shared}{h':Heap}
theorem Cx.Ok.nofr(ok:X.Ok){b:Addr}{o:Obj}(e:X.base.get? b=some o):b∉X.fs:=λhb=>by have:=(ok.funs.mem hb).1;rw[e]at this;cases this
theorem Inv.bs(I:Inv X pins σ H s):∀b o,X.base.get? b=some o->s.heap.get? b=some o/\H b=none:=λb o e =>⟨I.base.keep b o (I.ok.bs b o e).1 (I.ok.bs b o e).2 (I.ok.nofr e) (I.ok.noex b o e),I.base.free b o (I.ok.bs b o e).1 (I.ok.bs b o e).2 (I.ok.noex b o e)⟩
theorem Inv.bk(I:Inv X pins σ H s):∀b o,X.base.get? b=some o->s.heap.get? b=some o:=λb o e=>(I.bs b o e).1
theorem Inv.mod(I:Inv X pins σ H s):Mod X.K X.mg X.base:=I.ok.mod
theorem Inv.kIn(I:Inv X pins σ H s):X.K.In s.heap:=I.ok.mod.kin.keeps I.bk
theorem Inv.nolimit(I:Inv X pins σ H s):s.heap.NoLimit:=I.ok.mod.nolimit.keeps I.bk
theorem Inv.fr(I:Inv X pins σ H s):∃m,Fr X.base X.env.locals s.heap m :=
 let⟨m,hn,_⟩:=I.loc
 ⟨m,hn,I.bk,vQ I.ok.bsz I.ok.above⟩
theorem Inv.lt(I:Inv X pins σ H s):X.env.locals<s.heap.objs.size:=let⟨_,hn,_⟩:=I.loc;hn.lt
theorem Inv.sz(I:Inv X pins σ H s):X.s₀.heap.objs.size<=s.heap.objs.size:=vQ I.ok.above (Nat.le_of_lt I.lt)
theorem Inv.nofs(I:Inv X pins σ H s){a:Addr}(h:s.heap.objs.size<=a):a∉X.fs:=λhb=>by obtain⟨_,o,ho,_⟩:=I.ok.funs.mem hb;exact absurd (vN (Heap.lt_size ho) (vQ I.sz h)) (vW _)
theorem Inv.cne(I:Inv X pins σ H s):∀x c,X.env.cells.lookup x=some c->c≠X.env.locals:=λx c e z=>by obtain⟨v,o,ho,hd⟩:=I.cell x c e;obtain⟨m,⟨o',es,ep,ho',hd',_⟩,_⟩:=I.loc;rw[z,ho']at ho;cases ho;rw[hd']at hd;cases hd
theorem Inv.funs(I:Inv X pins σ H s):s.heap.FunFrames X.base X.outer:=by
 have all:∀(l:List Env),(∀b∈frs l,b∈X.fs)->X.s₀.heap.FunFrames X.base l->s.heap.FunFrames X.base l:=by
  intro l
  induction l with
  |nil=>intro _ _;trivial
  |cons env r ih =>
   intro hs hl;obtain⟨hk,⟨L,o,hf,hn,ho,hd⟩,hr⟩:=hl;have hL:L∈X.fs:=hs L (by unfold frs;rw[wx,hf];exact wg);obtain⟨sl,e⟩:=I.base.slot L o ho (I.ok.frf L hL) hL λz=>I.ok.exfs L z hL
   exact⟨hk,⟨L,_,hf,hn,e,hd⟩,ih (λb hb=>hs b (by unfold frs;rw[wx,hf];exact v5 _ hb)) hr⟩
 exact all X.outer (λ_ hb=>hb) I.ok.funs
theorem Inv.stack(I:Inv X pins σ H s):s.heap.FunFrames X.base X.stack:=by
 rcases I.ok.stk with e |⟨e,hf⟩
 ·rw[e];exact I.funs
 ·rw[e];obtain⟨m,hn,_⟩:=I.loc;refine .cons (by rw[I.ok.kind];decide) hf hn ?_ I.funs;exact Heap.get?_none_of_le (vQ I.ok.bsz I.ok.above)
theorem Inv.stkSub(I:Inv X pins σ H s):∀b∈frs X.stack,b∈X.env.locals::X.fs:=λb hb=>by
 rcases I.ok.stk with e |⟨e,hf⟩
 ·rw[e]at hb;exact v5 _ hb
 ·rw[e]at hb;unfold frs at hb
  rw[wx,hf]at hb;exact hb
theorem Inv.stkFree(I:Inv X pins σ H s):∀b∈frs X.stack,H b=none:=λb hb=>by
 rcases vO.mp (I.stkSub b hb)with e |hb
 ·rw[e];exact I.free
 ·obtain⟨_,o,ho,_⟩:=I.ok.funs.mem hb;exact I.base.free b o ho (I.ok.frf b hb) λz=>I.ok.exfs b z hb
theorem Inv.step{g':Array GenState}{t':Nat}{d':Drawn}{ch:List Addr}(I:Inv X pins σ H s)
 (hch:∀b∈ch,(b∈X.ex\/X.s₀.heap.objs.size<=b)/\b≠X.env.locals/\(∀x c,X.env.cells.lookup x=some c->c≠b)/\∀p∈X.pn++pins,p.1≠b)
 (keep:∀b o,b≠X.env.locals->b∉X.fs->b∉ch->s.heap.get? b=some o->H b=none->h'.get? b=some o)
 (slot:∀b o,b≠X.env.locals->b∈X.fs->b∉ch->s.heap.get? b=some o->H b=none->∃sl,h'.get? b=some { o with slots:=sl }) (free:∀b o,b∉ch->s.heap.get? b=some o->H b=none->H' b=none)
 (there:∀b o,b∉ch->s.heap.get? b=some o->∃o',h'.get? b=some o')
 (tups:∀b xs,H b=some (.tup xs)->H' b=some (.tup xs)) (frzs:∀b o u,H b=some (.frz o u)->H' b=some (.frz o u)) (tbls:∀b ps,H b=some (.tbl ps)->∃more,H' b=some (.tbl (ps++more)))
 (ns:∀m,s.heap.Ns X.env.locals m->h'.Ns X.env.locals m) (hok:HOk X.prog X.w H' h') (hg:AllBare g') :
 Inv X pins σ H' { s with heap:=h',gens:=g',drawn:=d',toks:=t' }:=by
 have neL:∀b o,X.s₀.heap.get? b=some o->b≠X.env.locals:=λb o e=>vP (vN (Heap.lt_size e) I.ok.above)
 have neC:∀b o,X.s₀.heap.get? b=some o->b∉X.ex->b∉ch:=λb o e hx hb=>by
  rcases(hch b hb).1 with z |z
  ·exact hx z
  ·exact absurd (vN (Heap.lt_size e) z) (vW _)
 have cellK:∀x c,X.env.cells.lookup x=some c->∀v,s.heap.IsCell c v->h'.IsCell c v:=λx c e v ⟨o,ho,hd⟩=>by
  have nch:c∉ch:=λz=>(hch c z).2.2.1 x c e rfl
  by_cases hc:c∈X.fs
  ·obtain⟨sl,q⟩:=slot c o (I.cne x c e) hc nch ho (I.freeC x c e);exact⟨_,q,hd⟩
  ·exact⟨o,keep c o (I.cne x c e) hc nch ho (I.freeC x c e),hd⟩
 refine⟨I.ok,I.os,hg,⟨λb o e n hb hx=>?_,λb o e n hb hx=>?_,λb o e n hx=>?_,λb o e hx=>?_,λb xs e=>tups b xs (I.base.tups b xs e),λb o xs e=>frzs b o xs (I.base.frzs b o xs e),λb ps e=>?_⟩,?_,λx c e=>?_,?_,λx c e=>?_,λp hp=>?_,hok,I.len⟩
 ·exact keep b o (neL b o e) hb (neC b o e hx) (I.base.keep b o e n hb hx) (I.base.free b o e n hx)
 ·obtain⟨sl,e1⟩:=I.base.slot b o e n hb hx;obtain⟨sl',e2⟩:=slot b _ (neL b o e) hb (neC b o e hx) e1 (I.base.free b o e n hx);exact⟨sl',e2⟩
 ·obtain⟨o',e1⟩:=I.base.there b o e hx;exact free b o' (neC b o e hx) e1 (I.base.free b o e n hx)
 ·obtain⟨o',e1⟩:=I.base.there b o e hx;exact there b o' (neC b o e hx) e1
 ·obtain⟨m1,e1⟩:=I.base.tbls b ps e;obtain⟨m2,e2⟩:=tbls b _ e1;exact⟨m1++m2,by rw[e2,Array.append_assoc]⟩
 ·obtain⟨m,hn,hl⟩:=I.loc;refine⟨m,ns m hn,λi x v e1 e2 e3=>?_⟩;obtain⟨u,r,l⟩:=hl i x v e1 e2 e3;refine⟨u,r,?_⟩;rcases l with l |⟨k,c,e,z⟩
  ·exact .inl l
  ·exact .inr ⟨k,c,e,cellK x c e _ z⟩
 ·obtain⟨v,z⟩:=I.cell x c e;exact⟨v,cellK x c e v z⟩
 ·obtain⟨m,⟨o,_,_,ho,_⟩,_⟩:=I.loc;exact free _ o (λz=>(hch _ z).2.1 rfl) ho I.free
 ·obtain⟨v,o,ho,hd⟩:=I.cell x c e;exact free c o (λz=>(hch c z).2.2.1 x c e rfl) ho (I.freeC x c e)
 ·obtain⟨e,n,ne,nf,d⟩:=I.pin p hp;have nch:p.1∉ch:=λz=>(hch p.1 z).2.2.2 p hp rfl
  exact⟨keep p.1 p.2 ne nf nch e n,free p.1 p.2 nch e n,ne,nf,d⟩
theorem Inv.un{t':Nat}(I:Inv X pins σ H s)(u:Un X.fs [] H H' s.heap h')(hok:HOk X.prog X.w H' h'):Inv X pins σ H' { s with heap:=h',toks:=t' }:=by
 obtain⟨m,⟨o,es,ep,ho,r⟩,_⟩:=id I.loc;obtain⟨sl,hL⟩:=u.any ho I.free (by simp)
 exact I.step (g':=s.gens) (d':=s.drawn) (ch:=[]) (λ_ z=>nomatch z) (λb o _ hb _ e n=>u.keep b o e n hb (by simp)) (λb o _ hb _ e n=>u.slot b o e n hb (by simp)) (λb o _ e n=>u.free b o e n (by simp)) (λb o _ e=>u.there b o e (by simp)) u.tups u.frzs u.tbls (λm' hm=>by
  obtain⟨o',es',ep',ho',r'⟩:=hm;rw[ho]at ho';cases ho'
  exact⟨_,es',ep',hL,r'⟩) hok I.bare
theorem Inv.call{g':Array GenState}{t':Nat}{d':Drawn}{ch:List Addr}(I:Inv X pins σ H s)(u:Un (frs X.stack) ch H H' s.heap h')(hok:HOk X.prog X.w H' h')(hg:AllBare g')
 (hch:∀b∈ch,(b∈X.ex\/X.s₀.heap.objs.size<=b)/\b≠X.env.locals/\(∀x c,X.env.cells.lookup x=some c->c≠b)/\∀p∈X.pn++pins,p.1≠b) :
 Inv X pins σ H' { s with heap:=h',gens:=g',drawn:=d',toks:=t' }:=by
 obtain⟨m,⟨o,es,ep,ho,r⟩,_⟩:=id I.loc;obtain⟨sl,hL⟩:=u.any ho I.free λz=>(hch _ z).2.1 rfl
 exact I.step (ch:=ch) hch (λb o hL hb hc e n=>u.keep b o e n (λz=>(vO.mp (I.stkSub b z)).elim hL hb) hc) (λb o _ _ hc e n=>u.any e n hc) (λb o hc e n=>u.free b o e n hc) (λb o hc e=>u.there b o e hc) u.tups u.frzs u.tbls (λm' hm=>by
  obtain⟨o',es',ep',ho',r'⟩:=hm;rw[ho]at ho';cases ho'
  exact⟨_,es',ep',hL,r'⟩) hok hg
theorem Inv.turned{t':Nat}{it:Addr}(I:Inv X pins σ H s)(k:∀b o,b≠it->s.heap.get? b=some o->h'.get? b=some o)(hn:H it=none)(hL:it≠X.env.locals)
 (h1:it∈X.ex\/X.s₀.heap.objs.size<=it) (h2:∀x c,X.env.cells.lookup x=some c->c≠it) (h3:∀p∈X.pn++pins,p.1≠it):Inv X pins σ H { s with heap:=h',toks:=t' }:=by
 have nit:∀b u,H b=some u->b≠it:=λb u e z=>by rw[z,hn]at e;cases e
 refine I.step (g':=s.gens) (d':=s.drawn) (ch:=[it]) (λb hb=>?_) (λb o _ _ hc e _=>k b o (λz=>hc (by simp[z])) e) (λb o _ _ hc e _=>⟨o.slots,k b o (λz=>hc (by simp[z])) e⟩) (λ_ _ _ _ n=>n)
  (λb o hc e=>⟨o,k b o (λz=>hc (by simp[z])) e⟩) (λ_ _ e=>e) (λ_ _ _ e=>e) (λb ps e=>⟨#[],by rw[e];simp⟩) (λm hm=>?_) (λb u e=>?_) I.bare
 ·have e:b=it:=by simpa using hb
  subst e;exact⟨h1,hL,h2,h3⟩
 ·obtain⟨o,es,ep,ho,r⟩:=hm;exact⟨o,es,ep,k _ o (Ne.symm hL) ho,r⟩
 ·refine(I.hok b u e).stay (λc v hc q=>k c v ?_ q) (λ_ q=>q) λ_ _ q=>q
  rcases hc with z |z
  ·rw[z];exact nit b u e
  ·exact nit c _ z
theorem Inv.tok(I:Inv X pins σ H s)(t:Nat):Inv X pins σ H { s with toks:=t }:=I.un (h':=s.heap) (t':=t) Un.refl I.hok
theorem Inv.kept{t':Nat}(I:Inv X pins σ H s)(k:∀b u,s.heap.get? b=some u->h'.get? b=some u):Inv X pins σ H { s with heap:=h',toks:=t' }:=I.un (Un.kept k) (I.hok.kept k)
theorem Inv.laid{a:Addr}{o:HO}{t':Nat}(I:Inv X pins σ H s)(k:∀b u,s.heap.get? b=some u->h'.get? b=some u)(hp:s.heap.objs.size<=a)(new:ObjOk X.prog X.w (upd H a o) h' a o) :
 Inv X pins σ (upd H a o) { s with heap:=h',toks:=t' }:=I.un (Un.laid k hp (I.hok.fresh hp)) (I.hok.laid k hp new)
theorem Inv.write{x e:Addr}{o:HO}{t':Nat}(I:Inv X pins σ H s)(mu:Mut (H x))(he:e=x\/H e=some (.own x))(k:∀b u,b≠e->s.heap.get? b=some u->h'.get? b=some u)(heo:∃u,h'.get? e=some u)
 (new:ObjOk X.prog X.w (upd H x o) h' x o):Inv X pins σ (upd H x o) { s with heap:=h',toks:=t' }:=I.un (Un.write mu he k heo) (I.hok.write mu he k heo new)
theorem Inv.pins_of{pins':List (Addr×Obj)}(I:Inv X pins σ H s)(h:∀p∈pins',s.heap.get? p.1=some p.2/\H p.1=none/\p.1≠X.env.locals/\p.1∉X.fs/\∀v,p.2.data≠.cell v):Inv X pins' σ H s :=
 ⟨I.ok,I.os,I.bare,I.base,I.loc,I.cell,I.free,I.freeC,λp hp=>(v1.mp hp).elim (λz=>I.pin p (List.mem_append_left _ z)) (h p),I.hok,I.len⟩
theorem iH{N:List Str}(hN:N.Nodup){i j:Nat}{x:Str}(a:N[i]?=some x)(b:N[j]?=some x):i=j:=by obtain⟨h1,e1⟩:=List.getElem?_eq_some_iff.mp a;obtain⟨h2,e2⟩:=List.getElem?_eq_some_iff.mp b;exact(List.getElem_inj hN).mp (e1.trans e2.symm)
theorem m8{M:Model}{A:Around}{E:Value->Shared->Prop}{i:Nat}{x:Str}{v:V}{u:Value}{Q:Unit->Shared->Prop}(I:Inv X pins σ H s)(hN:X.N.Nodup)(hi:X.N[i]?=some x)(hx:Loc X.env.scope x)(r:RelV v u)
 (h:∀s',Inv X pins (σ.set i (some v)) H s'->(∃a,Heap.SameBut a s.heap s'.heap/\(a=X.env.locals\/X.env.cells.lookup x=some a))->Q () s') (hf:X.fn x=true\/X.env.scope.names.lookup x=some .local:=by first |exact .inl rfl |exact .inr rfl |assumption):wpAny M A (storeName X.env x u) Q E s:=by
 obtain⟨m,hn,hl⟩:=id I.loc;have hcls:(X.env.scope.kind == .class || (X.env.scope.kind == .module&&X.env.locals != X.env.globals))=false:=by rw[I.ok.kind];rfl
 have hiσ:i<σ.length:=by rw[I.len];exact(List.getElem?_eq_some_iff.mp hi).1
 have cne:=I.cne
 have tracked:∀{a:Addr} {h':Heap},(∃o,s.heap.get? a=some o/\H a=none)->Heap.SameBut a s.heap h'->HOk X.prog X.w H h':=λ{a h'} ha hs b ob e=>by
  obtain⟨_,_,hfree⟩:=ha;refine(I.hok b ob e).stay (λc w' hc q=>(hs.2 c ?_).trans q) (λ_ q=>q) λ_ _ q=>q
  rintro rfl;rcases hc with rfl |hc
  ·rw[hfree]at e;cases e
  ·rw[hfree]at hc;cases hc
 rcases hx with hk |hk
 ·refine wpAny_storeName_local hk hn (λh' hn' hs=>?_) hcls;obtain⟨oL,_,_,hoL,_⟩:=id hn;refine h _ ⟨I.ok,I.os,I.bare,⟨λb o e n hb hx=>?_,λb o e n hb hx=>?_,I.base.free,λb o e hx=>?_,I.base.tups,I.base.frzs,I.base.tbls⟩,⟨_,hn',λj y v' e1 e2 e3=>?_⟩,λy c e=>?_,I.free,I.freeC,λp hp=>?_,tracked ⟨oL,hoL,I.free⟩ hs,by simpa using I.len⟩ ⟨_,hs,.inl rfl⟩
  ·exact(hs.2 b (vP (vN (Heap.lt_size e) I.ok.above))).trans (I.base.keep b o e n hb hx)
  ·obtain⟨sl,e1⟩:=I.base.slot b o e n hb hx;exact⟨sl,(hs.2 b (vP (vN (Heap.lt_size e) I.ok.above))).trans e1⟩
  ·obtain⟨o',e1⟩:=I.base.there b o e hx;exact⟨o',(hs.2 b (vP (vN (Heap.lt_size e) I.ok.above))).trans e1⟩
  ·by_cases hj:j=i
   ·subst hj;rw[hi]at e1;cases e1;rw[List.getElem?_set_self hiσ]at e2;cases e2;exact⟨u,r,.inl ⟨hk,by simp⟩⟩
   ·rw[List.getElem?_set_ne (Ne.symm hj)]at e2;obtain⟨u',r',q⟩:=hl j y v' e1 e2 e3;refine⟨u',r',?_⟩;rcases q with⟨k,e⟩ |⟨k,c,e,z⟩
    ·refine .inl ⟨k,?_⟩;have:y≠x:=λe=>hj (iH hN e1 (e ▸ hi))
     simp[this,e]
    ·exact .inr ⟨k,c,e,z.sameBut hs (cne y c e)⟩
  ·obtain⟨w',z⟩:=I.cell y c e;exact⟨w',z.sameBut hs (cne y c e)⟩
  ·obtain⟨e,n,ne,nf,d⟩:=I.pin p hp;exact⟨(hs.2 p.1 ne).trans e,n,ne,nf,d⟩
 ·have hfn:X.fn x=true:=by
   rcases hf with z |z
   ·exact z
   ·rw[z]at hk;cases hk
  obtain⟨c,hc⟩:=I.ok.has x (.inl hk);obtain⟨w',z⟩:=I.cell x c hc;refine wpAny_storeName_cell I.ok.kind hk hc z (λh' hc' hs=>?_);obtain⟨oc,hoc,hocd⟩:=id z;refine h { s with heap:=h' } ⟨I.ok,I.os,I.bare,⟨λb o e n hb hx=>?_,λb o e n hb hx=>?_,I.base.free,λb o e hx=>?_,I.base.tups,I.base.frzs,I.base.tbls⟩,⟨m,hn.sameBut hs (Ne.symm (cne x c hc)),λj y v' e1 e2 e3=>?_⟩,λy c' e=>?_,I.free,I.freeC,λp hp=>?_,tracked ⟨oc,hoc,I.freeC x c hc⟩ hs,by simpa using I.len⟩ ⟨c,hs,.inr hc⟩
  ·exact(hs.2 b (vP (vN (Heap.lt_size e) (I.ok.cab x c hfn hc)))).trans (I.base.keep b o e n hb hx)
  ·obtain⟨sl,e1⟩:=I.base.slot b o e n hb hx;exact⟨sl,(hs.2 b (vP (vN (Heap.lt_size e) (I.ok.cab x c hfn hc)))).trans e1⟩
  ·obtain⟨o',e1⟩:=I.base.there b o e hx;exact⟨o',(hs.2 b (vP (vN (Heap.lt_size e) (I.ok.cab x c hfn hc)))).trans e1⟩
  ·by_cases hj:j=i
   ·subst hj;rw[hi]at e1;cases e1;rw[List.getElem?_set_self hiσ]at e2;cases e2;exact⟨u,r,.inr ⟨.inl hk,c,hc,hc'⟩⟩
   ·rw[List.getElem?_set_ne (Ne.symm hj)]at e2;obtain⟨u',r',q⟩:=hl j y v' e1 e2 e3;refine⟨u',r',?_⟩;rcases q with q |⟨k,c',e,z'⟩
    ·exact .inl q
    ·refine .inr ⟨k,c',e,z'.sameBut hs ?_⟩;rintro rfl;exact hj (iH hN e1 (I.ok.inj _ _ _ e hc ▸ hi))
  ·by_cases hcc:c'=c
   ·subst hcc;exact⟨_,hc'⟩
   ·obtain⟨w2,z2⟩:=I.cell y c' e;exact⟨w2,z2.sameBut hs hcc⟩
  ·obtain⟨e,n,ne,nf,d⟩:=I.pin p hp;refine⟨(hs.2 p.1 ?_).trans e,n,ne,nf,d⟩;intro q;rw[q,hoc]at e;have q':oc=p.2:=Option.some.inj e;exact d w' (by rw[<- q'];exact hocd)
theorem gO{M:Model}{A:Around}{E:Value->Shared->Prop}{i:Nat}{x:Str}{v:V}{u:Value}{Q:Unit->Shared->Prop}(I:Inv X pins σ H s)(hN:X.N.Nodup)(hi:X.N[i]?=some x)(hx:Loc X.env.scope x)(r:RelV v u)
 (h:∀s',Inv X pins (σ.set i (some v)) H s'->Q () s') (hf:X.fn x=true\/X.env.scope.names.lookup x=some .local:=by first |exact .inl rfl |exact .inr rfl |assumption):wpAny M A (storeName X.env x u) Q E s :=
 m8 I hN hi hx r (λs' I' _=>h s' I') hf
theorem Inv.call'{s':Shared}{ch:List Addr}(I:Inv X pins σ H s)(ho:s'.os=s.os)(u:Un (frs X.stack) ch H H' s.heap s'.heap)(hok:HOk X.prog X.w H' s'.heap)(hg:AllBare s'.gens)
 (hch:∀b∈ch,(b∈X.ex\/X.s₀.heap.objs.size<=b)/\b≠X.env.locals/\(∀x c,X.env.cells.lookup x=some c->c≠b)/\∀p∈X.pn++pins,p.1≠b):Inv X pins σ H' s':=by
 obtain⟨h',g',d',t',o'⟩:=s';have e:o'=s.os:=ho;subst e;exact I.call (g':=g') (t':=t') (d':=d') u hok hg hch
end
abbrev XK:=Value->Option Addr->Hp->Prop
abbrev St:=List (Option V)
abbrev VK:=V->Hp->Prop
abbrev TE:=St->Hp->VK->Prop
abbrev TT:=St->Hp->(Bool->Hp->Prop)->Prop
abbrev TA:=St->Hp->(List V->Hp->Prop)->Prop
structure Ends where
 nx:St->Hp->Prop
 rt:VK
 bk:St->Hp->Prop:=λ_ _=>False
 ct:St->Hp->Prop:=λ_ _=>False
abbrev TS:=Ends->St->Hp->Prop
def EP(X:Cx)(pins:List (Addr×Obj))(σ:St)(Q:VK)(u:Value)(s':Shared):Prop:=∃v H',Inv X pins σ H' s'/\RelV v u/\Q v H'
def TP(X:Cx)(pins:List (Addr×Obj))(σ:St)(Q:Bool->Hp->Prop)(b:Bool)(s':Shared):Prop:=∃H',Inv X pins σ H' s'/\Q b H'
def AP(X:Cx)(pins:List (Addr×Obj))(σ:St)(Q:List V->Hp->Prop)(us:List Value)(s':Shared):Prop:=∃vs H',Inv X pins σ H' s'/\Vals vs us/\Q vs H'
noncomputable def SP(X:Cx)(pins:List (Addr×Obj))(D:Ends)(f:Flow)(s':Shared):Prop :=
 match f with
 |.next=>∃σ' H',Inv X pins σ' H' s'/\D.nx σ' H'
 |.brk=>∃σ' H',Inv X pins σ' H' s'/\D.bk σ' H'
 |.cont=>∃σ' H',Inv X pins σ' H' s'/\D.ct σ' H'
 |.ret u=>∃v σ' H',Inv X pins σ' H' s'/\RelV v u/\D.rt v H'
noncomputable def PE(X:Cx)(e:Expr)(t:TE):Prop :=
 ∀(pins:List (Addr×Obj)) (s:Shared) (σ:St) (H:Hp) (Q:VK),Inv X pins σ H s->t σ H Q->wpAny (model X.prog X.w) X.A (eval e X.env) (EP X pins σ Q) X.xe s
noncomputable def PT(X:Cx)(e:Expr)(t:TT):Prop :=
 ∀(pins:List (Addr×Obj)) (s:Shared) (σ:St) (H:Hp) (Q:Bool->Hp->Prop),Inv X pins σ H s->t σ H Q->wpAny (model X.prog X.w) X.A (isTrue e X.env (eval e X.env)) (TP X pins σ Q) X.xe s
noncomputable def PW(X:Cx)(e:Expr)(t:TT):Prop :=
 ∀(whole:Sem Value) (pins:List (Addr×Obj)) (s:Shared) (σ:St) (H:Hp) (Q:Bool->Hp->Prop),Inv X pins σ H s->t σ H Q->wpAny (model X.prog X.w) X.A (isTrue e X.env whole) (TP X pins σ Q) X.xe s
theorem PW.pt{X:Cx}{e:Expr}{t:TT}(h:PW X e t):PT X e t:=h _
noncomputable def PA(X:Cx)(es:List Expr)(t:TA):Prop :=
 ∀(pos:Pos) (pins:List (Addr×Obj)) (s:Shared) (σ:St) (H:Hp) (Q:List V->Hp->Prop),Inv X pins σ H s->t σ H Q->wpAny (model X.prog X.w) X.A (spliced (backTo pos (starEach es X.env))) (AP X pins σ Q) X.xe s
noncomputable def PS(X:Cx)(st:Stmt)(t:TS):Prop :=
 ∀(pins:List (Addr×Obj)) (s:Shared) (σ:St) (H:Hp) (D:Ends),Inv X pins σ H s->t D σ H->wpAny (model X.prog X.w) X.A (exec st X.env) (SP X pins D) X.xe s
noncomputable def PSs(X:Cx)(st:List Stmt)(t:TS):Prop :=
 ∀(pins:List (Addr×Obj)) (s:Shared) (σ:St) (H:Hp) (D:Ends),Inv X pins σ H s->t D σ H->wpAny (model X.prog X.w) X.A (execs st X.env) (SP X pins D) X.xe s
theorem thn{α:Type}{t:Sem α}{Q Q':α->Shared->Prop}{M:Model}{A:Around}{E:Value->Shared->Prop}{s:Shared}(h:wpAny M A t Q E s)(hQ:∀a s,Q a s->Q' a s):wpAny M A t Q' E s:=wpAny_mono h hQ λ_ _ x=>x
section
variable {X:Cx}
def gI(i:Nat):TE:=λσ H Q=>∃v,σ[i]?=some (some v)/\Q v H
def tC(v:V):TE:=λ_ H Q=>Q v H
theorem oz{i:Nat}{x:Str}{pos:Pos}(hN:X.N[i]?=some x)(hv:Vis X.env.scope x)(hd:(x == ("__debug__":Str))=false:=by decide)(hcd:(x == ("__classdict__":Str))=false:=by decide):PE X (.Name x pos) (gI i):=by
 intro pins s σ H Q I h;obtain⟨v,e,h⟩:=h;obtain⟨m,hn,hl⟩:=I.loc;obtain⟨u,r,l⟩:=hl i x v hN e hv;have fin:EP X pins σ Q u s:=⟨v,H,I,r,h⟩;rcases l with⟨hk,hm⟩ |⟨hk,c,hc,hcell⟩
 ·exact wpAny_Name (wpAny_loadName_local I.ok.kind hk hn hm fin) hd
 ·rcases hk with hk |hk
  ·exact wpAny_Name (wpAny_loadName_cell I.ok.kind hk hc hcell fin) hd
  ·exact wpAny_Name (wpAny_loadName_free I.ok.kind hk hc hcell fin hcd) hd
theorem ad{i j pos}:PE X (.Constant (.int i) j pos) (tC (.int i)):=λ_ _ _ H _ I h=>wpAny_Constant_int ⟨.int i,H,I.tok _,⟨_,rfl⟩,h⟩
theorem bH{b j pos}:PE X (.Constant (.bool b) j pos) (tC (.bl b)):=λ_ _ _ H _ I h=>Constant_bool ⟨.bl b,H,I,rfl,h⟩
theorem ae{x j pos}:PE X (.Constant (.str x) j pos) (tC (.str x)):=λ_ _ _ H _ I h=>Calls.Constant_str ⟨.str x,H,I.tok _,⟨_,rfl⟩,h⟩
def Gl(X:Cx)(x:Str):Prop:=X.env.kindOf x=some .globalImplicit
theorem cT{E:Value->Shared->Prop}{pins:List (Addr×Obj)}{s:Shared}{σ:St}{H:Hp}{x:Str}{u:Value}{pos:Pos}{Q:Value->Shared->Prop}(I:Inv X pins σ H s)(hg:Gl X x)(hm:X.mg x=some u)(h:Q u s)
 (hd:(x == ("__debug__":Str))=false:=by decide):wpAny (model X.prog X.w) X.A (eval (.Name x pos) X.env) Q E s :=
 Calls.Name_function_global I.ok.kind hg (Calls.loadGlobal_global (by rw[I.ok.glob];exact I.mod.glob.keeps I.bk) hm h) hd
theorem gl{E:Value->Shared->Prop}{pins:List (Addr×Obj)}{s:Shared}{σ:St}{H:Hp}{x:Str}{u:Value}{pos:Pos}{Q:Value->Shared->Prop}(I:Inv X pins σ H s)(hg:Gl X x)(hm:X.mg x=none)(hv:bootBuiltins x=some u)(h:Q u s)
 (hn:x≠"__name__":=by decide) (hd:(x == ("__debug__":Str))=false:=by decide):wpAny (model X.prog X.w) X.A (eval (.Name x pos) X.env) Q E s:=by
 obtain⟨mb,h1,h2⟩:=I.mod.blt;exact Calls.Name_function_global I.ok.kind hg (Calls.loadGlobal_builtin (by rw[I.ok.glob];exact I.mod.glob.keeps I.bk) hm (by rw[I.ok.blt];exact h1.keeps I.bk) ((h2 x hn).trans hv) h) hd
theorem cM{x:Str}{v:V}{u:Value}{pos:Pos}(hg:Gl X x)(hm:X.mg x=some u)(r:RelV v u)(hd:(x == ("__debug__":Str))=false:=by decide):PE X (.Name x pos) (tC v) :=
 λ_ _ _ H _ I h=>cT I hg hm ⟨v,H,I,r,h⟩ hd
theorem fX{x:Str}{v:V}{u:Value}{pos:Pos}(hg:Gl X x)(hm:X.mg x=none)(hv:bootBuiltins x=some u)(r:RelV v u)(hn:x≠"__name__":=by decide)(hd:(x == ("__debug__":Str))=false:=by decide):PE X (.Name x pos) (tC v) :=
 λ_ _ _ H _ I h=>gl I hg hm hv ⟨v,H,I,r,h⟩ hn hd
variable {a b:Expr}{ta tb:TE}{pos:Pos}
def tB(t:TE):TT:=λσ H Q=>t σ H λx H1=>∃c,x=.bl c/\Q c H1
theorem bQ{e:Expr}{t:TE}(h:PE X e t)(he:∀whole,isTrue e X.env whole=(do let v <- whole;standAt e.pos;holding [v] (truthy v)):=by intro _;rfl):PT X e (tB t):=by intro pins s σ H Q I hw;refine isTrue_plain (thn (h pins s σ H _ I hw) λv s1 ⟨x,H1,I1,r1,q1⟩=>?_) (he _);obtain⟨d,rfl,q⟩:=q1;cases r1;exact wpAny_truthy_bool ⟨H1,I1,q⟩
variable {tA tB':TT}{rest:List Expr}
def gN(t u:TT):TT:=λσ H Q=>t σ H λc H1=>if c=true then u σ H1 Q else Q false H1
def tOr(t u:TT):TT:=λσ H Q=>t σ H λc H1=>if c=true then Q true H1 else u σ H1 Q
def jI(t:TT):TT:=λσ H Q=>t σ H λc H1=>Q (!c) H1
theorem bu(ha:PT X a tA):PW X (.BoolOp .And [a] pos) tA:=by
 intro wh pins s σ H Q I h;refine isTrue_and (thn (ha pins s σ H Q I h) λc s1 e=>?_);cases c with
 |true=>exact isTrue_and_nil e
 |false=>exact e
theorem eK(ha:PT X a tA):PW X (.BoolOp .Or [a] pos) tA:=by
 intro wh pins s σ H Q I h;refine isTrue_or (thn (ha pins s σ H Q I h) λc s1 e=>?_);cases c with
 |false=>exact isTrue_or_nil e
 |true=>exact e
theorem bn(ha:PT X a tA)(hb:PW X (.BoolOp .And (b::rest) pos) tB'):PW X (.BoolOp .And (a::b::rest) pos) (gN tA tB'):=by
 intro wh pins s σ H Q I h;refine isTrue_and (thn (ha pins s σ H _ I h) λc s1 ⟨H1,I1,q1⟩=>?_);cases c with
 |true=>exact hb wh pins s1 σ H1 Q I1 q1
 |false=>exact⟨H1,I1,q1⟩
theorem eL(ha:PT X a tA)(hb:PW X (.BoolOp .Or (b::rest) pos) tB'):PW X (.BoolOp .Or (a::b::rest) pos) (tOr tA tB'):=by
 intro wh pins s σ H Q I h;refine isTrue_or (thn (ha pins s σ H _ I h) λc s1 ⟨H1,I1,q1⟩=>?_);cases c with
 |true=>exact⟨H1,I1,q1⟩
 |false=>exact hb wh pins s1 σ H1 Q I1 q1
theorem eO(ha:PT X a tA):PT X (.UnaryOp .Not a pos) (jI tA):=by intro pins s σ H Q I h;exact isTrue_not (ha pins s σ H (λc H1=>Q (!c) H1) I h)
def jL(ta tb:TE):TE:=λσ H Q=>ta σ H λx H1=>∃c,x=.bl c/\if c=true then tb σ H1 Q else Q (.bl false) H1
def jG(ta tb:TE):TE:=λσ H Q=>ta σ H λx H1=>∃c,x=.bl c/\if c=true then Q (.bl true) H1 else tb σ H1 Q
def jH(ta:TE):TE:=λσ H Q=>ta σ H λx H1=>∃c,x=.bl c/\Q (.bl (!c)) H1
theorem bG{op}{t:TE}(h:PE X a t):PE X (.BoolOp op [a] pos) t:=λpins s σ H Q I hw=>BoolOp_one (h pins s σ H Q I hw)
theorem bz(ha:PE X a ta)(hb:PE X (.BoolOp .And (b::rest) pos) tb):PE X (.BoolOp .And (a::b::rest) pos) (jL ta tb):=by
 intro pins s σ H Q I h;refine BoolOp_and (thn (ha pins s σ H _ I h) λv s1 ⟨x,H1,I1,r1,q1⟩=>?_);obtain⟨c,rfl,q1⟩:=q1;cases r1;refine wpAny_truthy_bool ?_;cases c with
 |true=>exact hb pins s1 σ H1 Q I1 q1
 |false=>exact⟨.bl false,H1,I1,rfl,q1⟩
theorem oA(ha:PE X a ta)(hb:PE X (.BoolOp .Or (b::rest) pos) tb):PE X (.BoolOp .Or (a::b::rest) pos) (jG ta tb):=by
 intro pins s σ H Q I h;refine BoolOp_or (thn (ha pins s σ H _ I h) λv s1 ⟨x,H1,I1,r1,q1⟩=>?_);obtain⟨c,rfl,q1⟩:=q1;cases r1;refine wpAny_truthy_bool ?_;cases c with
 |false=>exact hb pins s1 σ H1 Q I1 q1
 |true=>exact⟨.bl true,H1,I1,rfl,q1⟩
theorem iz(ha:PE X a ta):PE X (.UnaryOp .Not a pos) (jH ta):=by intro pins s σ H Q I h;refine UnaryOp_ (thn (ha pins s σ H _ I h) λv s1 ⟨x,H1,I1,r1,q1⟩=>?_);obtain⟨c,rfl,q1⟩:=q1;cases r1;exact not_of (wpAny_truthy_bool ⟨.bl (!c),H1,I1,rfl,q1⟩)
def tIf(t:TT)(ta tb:TE):TE:=λσ H Q=>t σ H λc H1=>if c=true then ta σ H1 Q else tb σ H1 Q
theorem jZ{c:Expr}(hc:PT X c tA)(ha:PE X a ta)(hb:PE X b tb):PE X (.IfExp c a b pos) (tIf tA ta tb):=by
 intro pins s σ H Q I h;refine wpAny_IfExp (thn (hc pins s σ H _ I h) λd s1 ⟨H1,I1,q1⟩=>?_);cases d with
 |true=>exact ha pins s1 σ H1 Q I1 q1
 |false=>exact hb pins s1 σ H1 Q I1 q1
end
noncomputable def SqL(K:PySem.W.Frag)(H:Hp)(a:Addr)(xs:List V):Prop :=
 Rd H a (.lst xs) \/
  ∃(o:Obj) (its:Array Value) (n:Nat),K.lookup a=some o/\o.cls=.type "list"/\o.dict=none/\o.data=.seq its n/\its.size<=sizeLine/\Vals xs its.toList
noncomputable def SqT(K:PySem.W.Frag)(H:Hp)(a:Addr)(xs:List V):Prop :=
 Rd H a (.tup xs) \/
  ∃(o:Obj) (its:Array Value) (n:Nat),K.lookup a=some o/\o.cls=.type "tuple"/\o.data=.seq its n/\its.size<=sizeLine/\Vals xs its.toList
noncomputable def uD:Value->Option V
 |.none=>some .non
 |.bool b=>some (.bl b)
 |.int i _=>some (.int i)
 |.str x _=>some (.str x)
 |.bytes b _=>some (.byt b)
 |.float b _=>some (.flt b)
 |.ref a=>some (.ref a)
 |.type n=>some (.ty n)
 |_=>none
theorem RelV.abs{x:V}{u:Value}(r:RelV x u):uD u=some x:=by
 cases x with
 |non=>cases r;rfl
 |bl _=>cases r;rfl
 |int _=>obtain⟨t,rfl⟩:=r;rfl
 |str _=>obtain⟨t,rfl⟩:=r;rfl
 |byt _=>obtain⟨t,rfl⟩:=r;rfl
 |flt _=>obtain⟨t,rfl⟩:=r;rfl
 |ref _=>cases r;rfl
 |ty _=>cases r;rfl
theorem RelV.inj{x y:V}{u:Value}(r:RelV x u)(q:RelV y u):x=y:=Option.some.inj (r.abs.symm.trans q.abs)
theorem Vals.inj:∀{xs ys:List V} {us:List Value},Vals xs us->Vals ys us->xs=ys
 |_,_,_,.nil,.nil=>rfl
 |_,_,_,.cons r t,.cons r' t'=>by rw[r.inj r',Vals.inj t t']
section
variable {X:Cx}{pins:List (Addr×Obj)}{σ:St}{H:Hp}{s:Shared}{a:Addr}{xs ys:List V}
theorem SqL.of{K:PySem.W.Frag}(h:H a=some (.lst xs)):SqL K H a xs:=.inl (.inl h)
theorem SqT.of{K:PySem.W.Frag}(h:H a=some (.tup xs)):SqT K H a xs:=.inl (.inl h)
theorem Inv.list(I:Inv X pins σ H s)(h:SqL X.K H a xs):∃its:List Value,Vals xs its/\PlainL s.heap a its.toArray/\xs.length<=sizeLine:=by
 rcases h with h |⟨o,its,n,hk,hc,hd,hs,hz,r⟩
 ·obtain⟨z,its,n,r,e⟩:=h.ok I.hok;exact⟨its,r,⟨_,n,e,rfl,rfl,rfl⟩,z⟩
 ·refine⟨its.toList,r,⟨o,n,I.kIn a o hk,hc,hd,by simpa using hs⟩,?_⟩;have e:=r.length;simp only[Array.length_toList]at e;omega
theorem Inv.tuple(I:Inv X pins σ H s)(h:SqT X.K H a xs):∃its:List Value,Vals xs its/\IsTup s.heap a its.toArray/\xs.length<=sizeLine:=by
 rcases h with h |⟨o,its,n,hk,hc,hs,hz,r⟩
 ·obtain⟨z,its,r,p⟩:=h.ok I.hok;exact⟨its,r,p,z⟩
 ·refine⟨its.toList,r,⟨o,I.kIn a o hk,hc,n,by simpa using hs⟩,?_⟩;have e:=r.length;simp only[Array.length_toList]at e;omega
theorem Inv.list_inj(I:Inv X pins σ H s)(h:SqL X.K H a xs)(h':SqL X.K H a ys):xs=ys:=by
 obtain⟨its,r,⟨o,n,e,_,_,d⟩,_⟩:=I.list h;obtain⟨its',r',⟨o',n',e',_,_,d'⟩,_⟩:=I.list h';rw[e]at e';cases e';rw[d]at d'
 injection d' with d1 _
 have:its=its':=by simpa using congrArg Array.toList d1
 subst this;exact r.inj r'
theorem Inv.tuple_inj(I:Inv X pins σ H s)(h:SqT X.K H a xs)(h':SqT X.K H a ys):xs=ys:=by
 obtain⟨its,r,⟨o,e,_,n,d⟩,_⟩:=I.tuple h;obtain⟨its',r',⟨o',e',_,n',d'⟩,_⟩:=I.tuple h';rw[e]at e';cases e';rw[d]at d'
 injection d' with d1 _
 have:its=its':=by simpa using congrArg Array.toList d1
 subst this;exact r.inj r'
end
abbrev Cx.wish(X:Cx)(E:Value->Shared->Prop):Cx:={ X with xe:=E }
abbrev Cx.nox(X:Cx):Cx:=X.wish λ_ _=>False
theorem Cx.Ok.wish{X:Cx}(ok:X.Ok)(E:Value->Shared->Prop):(X.wish E).Ok :=
 ⟨ok.mod,ok.kind,ok.glob,ok.blt,ok.above,ok.inj,ok.has,ok.cab,ok.hd,ok.frames,ok.stk,ok.exf,ok.bs,ok.bsz,ok.noex,ok.exfs,ok.funs,ok.frf⟩
theorem Cx.Ok.unwish{X:Cx}{E:Value->Shared->Prop}(ok:(X.wish E).Ok):X.Ok :=
 ⟨ok.mod,ok.kind,ok.glob,ok.blt,ok.above,ok.inj,ok.has,ok.cab,ok.hd,ok.frames,ok.stk,ok.exf,ok.bs,ok.bsz,ok.noex,ok.exfs,ok.funs,ok.frf⟩
section
variable {X:Cx}{pins:List (Addr×Obj)}{σ:St}{H:Hp}{s:Shared}{E:Value->Shared->Prop}
theorem Inv.wish(I:Inv X pins σ H s)(E:Value->Shared->Prop):Inv (X.wish E) pins σ H s:=⟨I.ok.wish E,I.os,I.bare,I.base,I.loc,I.cell,I.free,I.freeC,I.pin,I.hok,I.len⟩
theorem Inv.unwish(I:Inv (X.wish E) pins σ H s):Inv X pins σ H s:=⟨I.ok.unwish,I.os,I.bare,I.base,I.loc,I.cell,I.free,I.freeC,I.pin,I.hok,I.len⟩
theorem SP.unwish{D:Ends}{f:Flow}{s':Shared}(h:SP (X.wish E) pins D f s'):SP X pins D f s':=by
 cases f with
 |next=>obtain⟨σ',H',I,q⟩:=h;exact⟨σ',H',I.unwish,q⟩
 |brk=>obtain⟨σ',H',I,q⟩:=h;exact⟨σ',H',I.unwish,q⟩
 |cont=>obtain⟨σ',H',I,q⟩:=h;exact⟨σ',H',I.unwish,q⟩
 |ret u=>obtain⟨v,σ',H',I,r,q⟩:=h;exact⟨v,σ',H',I.unwish,r,q⟩
theorem PE.nox{e:Expr}{t:TE}(h:PE X.nox e t):PE X e t:=λpins s σ H Q I hw =>wpAny_mono (h pins s σ H Q (I.wish _) hw) (λ_ _ ⟨v,H',I',r,q⟩=>⟨v,H',I'.unwish,r,q⟩) λ_ _ z=>False.elim z
theorem PT.nox{e:Expr}{t:TT}(h:PT X.nox e t):PT X e t:=λpins s σ H Q I hw =>wpAny_mono (h pins s σ H Q (I.wish _) hw) (λ_ _ ⟨H',I',q⟩=>⟨H',I'.unwish,q⟩) λ_ _ z=>False.elim z
theorem PSs.nox{st:List Stmt}{t:TS}(h:PSs X.nox st t):PSs X st t:=λpins s σ H D I hw =>wpAny_mono (h pins s σ H D (I.wish _) hw) (λ_ _ q=>q.unwish) λ_ _ z=>False.elim z
end
section
variable {X:Cx}{st:Stmt}{rest:List Stmt}{t u:TS}{e:Expr}{te:TE}{pos:Pos}
def gK:TS:=λD σ H=>D.nx σ H
def aV(t u:TS):TS:=λD σ H=>t { D with nx:=u D } σ H
theorem ax:PSs X [] gK:=λ_ _ σ H _ I h=>wpAny_execs_nil ⟨σ,H,I,h⟩
theorem ag(h1:PS X st t)(h2:PSs X rest u):PSs X (st::rest) (aV t u):=by
 intro pins s σ H D I h;refine wpAny_execs_cons (thn (h1 pins s σ H { D with nx:=u D } I h) λf s1 q=>?_);cases f with
 |next =>obtain⟨σ',H',I',q⟩:=q;exact h2 pins s1 σ' H' D I' q
 |ret v=>exact q
 |brk=>exact q
 |cont=>exact q
theorem af(h1:PS X st t):PSs X [st] t:=by
 intro pins s σ H D I h;refine wpAny_execs_cons (thn (h1 pins s σ H D I h) λf s1 q=>?_);cases f with
 |next=>exact wpAny_execs_nil q
 |ret v=>exact q
 |brk=>exact q
 |cont=>exact q
theorem Inv.quiet{pins:List (Addr×Obj)}{σ:St}{H:Hp}{s:Shared}(I:Inv X pins σ H s):interactive X.env=false:=by simp[interactive,I.ok.kind]
def gL(te:TE):TS:=λD σ H=>te σ H λ_ H1=>D.nx σ H1
theorem cn(he:PE X e te)(hs:swapsWith e none pos.line X.env=pure false:=by rfl):PS X (.Expr e pos) (gL te):=by intro pins s σ H D I h;exact wpAny_Expr_any (thn (he pins s σ H _ I h) λv s1 ⟨x,H1,I1,r1,q1⟩=>⟨σ,H1,I1,q1⟩) I.quiet hs
def jF(te:TE):TS:=λD σ H=>te σ H D.rt
theorem al(he:PE X e te):PS X (.Return (some e) pos) (jF te):=by intro pins s σ H D I h;exact wpAny_Return_some (thn (he pins s σ H _ I h) λv s1 ⟨x,H1,I1,r1,q1⟩=>⟨x,σ,H1,I1,r1,q1⟩)
def bO(c:TT)(t u:TS):TS:=λD σ H=>c σ H λb H1=>if b=true then t D σ H1 else u D σ H1
theorem au{c:Expr}{a b:List Stmt}{tc:TT}(hc:PT X c tc)(ha:PSs X a t)(hb:PSs X b u):PS X (.If c a b pos) (bO tc t u):=by
 intro pins s σ H D I h;refine wpAny_If (thn (hc pins s σ H _ I h) λd s1 ⟨H1,I1,q1⟩=>?_);cases d with
 |true=>exact ha pins s1 σ H1 D I1 q1
 |false=>exact hb pins s1 σ H1 D I1 q1
end
abbrev TG:=V->St->Hp->(St->Hp->Prop)->Prop
noncomputable def PG(X:Cx)(target:Expr)(t:TG):Prop :=
 ∀(pins:List (Addr×Obj)) (s:Shared) (σ:St) (H:Hp) (v:V) (u:Value) (Q:St->Hp->Prop),Inv X pins σ H s->RelV v u->t v σ H Q ->
  wpAny (model X.prog X.w) X.A (assign target X.env u) (λ_ s'=>∃σ' H',Inv X pins σ' H' s'/\Q σ' H') X.xe s
abbrev jm:=V->V->V->Hp->(Hp->Prop)->Prop
noncomputable def mf(X:Cx)(t:jm):Prop :=
 ∀(pins:List (Addr×Obj)) (s:Shared) (σ:St) (H:Hp) (o i v:V) (ov iv u:Value) (Q:Hp->Prop),Inv X pins σ H s->RelV o ov->RelV i iv->RelV v u->t o i v H Q ->
  wpAny (model X.prog X.w) X.A (setItem ov iv u) (λ_ s'=>∃H',Inv X pins σ H' s'/\Q H') X.xe s
section
variable {X:Cx}{pos:Pos}
def cV(i:Nat):TG:=λv σ H Q=>Q (σ.set i (some v)) H
theorem cL{i:Nat}{x:Str}(hN:X.N.Nodup)(hi:X.N[i]?=some x)(hx:Loc X.env.scope x)(hf:X.fn x=true\/X.env.scope.names.lookup x=some .local:=by first |exact .inl rfl |exact .inr rfl |assumption):PG X (.Name x pos) (cV i):=by intro pins s σ H v u Q I r h;exact wpAny_assign_Name (gO I hN hi hx r (λs' I'=>⟨_,H,I',h⟩) hf)
def rP(to ti:TE)(t:jm):TG:=λv σ H Q=>to σ H λo H1=>ti σ H1 λi H2=>t o i v H2 λH3=>Q σ H3
theorem cK{o i:Expr}{to ti:TE}{t:jm}(ho:PE X o to)(hi:PE X i ti)(hs:mf X t)
 (ha:∀v,assign (.Subscript o i pos) X.env v=(do
   let ov <- holding [v] (eval o X.env)
   let iv <- holding [v,ov] (eval i X.env)
   standAt pos
   holding [v,ov,iv] (setItem ov iv v)
   release [v,ov,iv] []):=by intro _;rfl):PG X (.Subscript o i pos) (rP to ti t):=by
 intro pins s σ H v u Q I r h;rw[ha];refine wpAny_bind (wpAny_holding (thn (ho pins s σ H _ I h) λov s1 ⟨x,H1,I1,r1,q1⟩=>?_));refine wpAny_bind (wpAny_holding (thn (hi pins s1 σ H1 _ I1 q1) λiv s2 ⟨y,H2,I2,r2,q2⟩=>?_));refine wpAny_bind (wpAny_standAt (wpAny_bind (wpAny_holding (thn (hs pins s2 σ H2 x y v ov iv u _ I2 r1 r2 r q2) λ_ s3 ⟨H3,I3,q3⟩=>?_))));exact wpAny_release ⟨σ,H3,I3,q3⟩
def cE(te:TE)(g:TG):TS:=λD σ H=>te σ H λx H1=>g x σ H1 D.nx
theorem cJ{tg e:Expr}{te:TE}{g:TG}(he:PE X e te)(hg:PG X tg g)(hs:swapsWithSole [tg] e pos.line X.env=pure false:=by rfl)(hw:swappedStores [tg] e X.env=pure none:=by rfl)
 (h1:(assignEach [tg] X.env).map (·.2)=[assign tg X.env]:=by rfl):PS X (.Assign [tg] e pos) (cE te g):=by
 intro pins s σ H D I h;refine wpAny_Assign_stores (thn (he pins s σ H _ I h) λv s1 ⟨x,H1,I1,r1,q1⟩=>?_) hs hw;rw[h1];exact thn (hg pins s1 σ H1 x v _ I1 r1 q1) λ_ s2 q=>q
theorem ar{i:Nat}{x:Str}{e:Expr}{te:TE}{pos':Pos}(hN:X.N.Nodup)(hi:X.N[i]?=some x)(hx:Loc X.env.scope x)(he:PE X e te)(hs:swapsWith e (some (.Name x pos')) pos.line X.env=pure false:=by rfl)(hf:X.fn x=true\/X.env.scope.names.lookup x=some .local:=by first |exact .inl rfl |exact .inr rfl |assumption) :
 PS X (.Assign [.Name x pos'] e pos) (cE te (cV i)):=by
 intro pins s σ H D I h;refine wpAny_Assign_Name (thn (he pins s σ H _ I h) λv s1 ⟨y,H1,I1,r1,q1⟩=>?_) hs;exact gO I1 hN hi hx r1 (λs2 I2=>⟨_,H1,I2,q1⟩) hf
end
section
variable {X:Cx}{pos:Pos}
def mS(c:TT)(tb:TS):TS:=λD σ H=>∃W:Nat->St->Hp->Prop,(∃m,W m σ H)/\∀m σ H,W m σ H ->
 c σ H λb H1=>if b=true then ∃N:St->Hp->Prop,(∀σ' H',N σ' H'->∃m',m'<m/\W m' σ' H')/\tb { D with nx:=N,ct:=N,bk:=D.nx } σ H1 else D.nx σ H1
theorem eP{c:Expr}{body:List Stmt}{tc:TT}{tb:TS}(hp:PassesOwn (model X.prog X.w) X.A X.env X.xe)(hc:PT X c tc)(hb:PSs X body tb):PS X (.While c body [] pos) (mS tc tb):=by
 intro pins s σ H D I h;obtain⟨W,⟨m0,w0⟩,turn⟩:=h;refine wpAny_While (codeAny_whileLoop (λn s'=>∃σ' H',Inv X pins σ' H' s'/\W n σ' H') ?_ m0 ⟨σ,H,I,w0⟩);rintro n s1 ⟨σ1,H1,I1,w1⟩;refine wpAny_passesOwn hp (thn (hc pins s1 σ1 H1 _ I1 (turn n σ1 H1 w1)) λb s2 ⟨H2,I2,q2⟩=>?_);cases b with
 |true =>
  obtain⟨N,hN,q2⟩:=q2;rw[if_pos rfl];refine wpAny_passesOwn hp (thn (hb pins s2 σ1 H2 _ I2 q2) λf s3 q3=>?_);cases f with
  |next =>obtain⟨σ3,H3,I3,n3⟩:=q3;obtain⟨m',hm,w3⟩:=hN σ3 H3 n3;exact⟨m',hm,σ3,H3,I3,w3⟩
  |cont =>obtain⟨σ3,H3,I3,n3⟩:=q3;obtain⟨m',hm,w3⟩:=hN σ3 H3 n3;exact⟨m',hm,σ3,H3,I3,w3⟩
  |brk=>exact q3
  |ret v=>exact q3
 |false =>rw[if_neg vL];exact wpAny_execs_nil ⟨σ1,H2,I2,q2⟩
end
structure It where
 go:Nat->Hp->Prop
 yld:Nat->Hp->V->Hp->Prop
 stop:Nat->Hp->Prop
noncomputable def bN(X:Cx)(pins:List (Addr×Obj))(H:Hp)(b:Addr):Prop :=
 H b=none/\b≠X.env.locals/\b∉X.fs/\(b∈X.ex\/X.s₀.heap.objs.size<=b)/\(∀x c,X.env.cells.lookup x=some c->c≠b)/\∀p∈X.pn++pins,p.1≠b
theorem Inv.fpOk{X:Cx}{pins:List (Addr×Obj)}{σ:St}{H H':Hp}{s:Shared}{b:Addr}(I:Inv X pins σ H s)(hb:s.heap.objs.size<=b)(hn:H' b=none):bN X pins H' b:=by
 refine⟨hn,Nat.ne_of_gt (vN I.lt hb),I.nofs hb,.inr (vQ I.sz hb),λx c e z=>?_,λp hp z=>?_⟩
 ·obtain⟨v,q⟩:=I.cell x c e;exact absurd (vN q.lt (by rw[z];exact hb)) (vW _)
 ·exact absurd (vN (Heap.lt_size (I.pin p hp).1) (by rw[z];exact hb)) (vW _)
structure Turn(P:Program)(w:World)(K:PySem.W.Frag)(tg:Expr)(J:It)(fp:List Addr)(it:Addr)(tn:Nat->Heap->Prop):Prop where
 mem:it∈fp
 obj:∀i h,tn i h->∀b∈fp,∃o,h.get? b=some o/\∀v,o.data≠.cell v
 keep:∀i h h',tn i h->(∀b∈fp,∀o,h.get? b=some o->h'.get? b=some o)->tn i h'
 item:∀(X:Cx),X.prog=P->X.w=w->X.K=K->X.calm=true->∀(i:Nat) (pins:List (Addr×Obj)) (s:Shared) (σ:St) (H:Hp) (E:Value->Shared->Prop),Inv X pins σ H s->(∀b∈fp,bN X pins H b)->tn i s.heap->J.go i H ->
  wpAny (model P w) X.A (pyNext (.ref it)) (λr s1=>∃u,r=some u /\
   wpAny (model P w) X.A (letOwnedTupleGo tg (.ref it) u) (λ_ s2=>∃x H',Inv X pins σ H' s2/\RelV x u/\J.yld i H x H'/\tn (i+1) s2.heap/\∀b∈fp,H' b=none) E s1) E s
 done:∀(X:Cx),X.prog=P->X.w=w->X.K=K->X.calm=true->∀(i:Nat) (pins:List (Addr×Obj)) (s:Shared) (σ:St) (H:Hp) (E:Value->Shared->Prop),Inv X pins σ H s->(∀b∈fp,bN X pins H b)->tn i s.heap->J.stop i H ->
  wpAny (model P w) X.A (pyNext (.ref it)) (λr s1=>r=none/\Inv X pins σ H s1) E s
 self:∀(A:Around) (i:Nat) (s:Shared) (Q:Value->Shared->Prop) (E:Value->Shared->Prop),tn i s.heap->Q (.ref it) s->wpAny (model P w) A (pyIter (.ref it)) Q E s
abbrev TI:=St->Hp->(It->Hp->Prop)->Prop
noncomputable def PIE(X:Cx)(pins:List (Addr×Obj))(σ:St)(tg:Expr)(R:It->Hp->Prop)(itv:Value)(s2:Shared):Prop :=
 ∃(it:Addr) (fp:List Addr) (tn:Nat->Heap->Prop) (J:It) (H':Hp),itv=.ref it/\Inv X pins σ H' s2/\Turn X.prog X.w X.K tg J fp it tn/\tn 0 s2.heap/\(∀b∈fp,bN X pins H' b)/\R J H'
noncomputable def PI(X:Cx)(tg iter:Expr)(wi:TI):Prop :=
 ∀(pins:List (Addr×Obj)) (s:Shared) (σ:St) (H:Hp) (R:It->Hp->Prop),Inv X pins σ H s->wi σ H R ->
  wpAny (model X.prog X.w) X.A (eval iter X.env) (λv s1=>wpAny (model X.prog X.w) X.A (pyIter v) (PIE X pins σ tg R) X.xe s1) X.xe s
theorem gt{M:Model}{A:Around}{E:Value->Shared->Prop}{s:Shared}{tg:Expr}{it:Addr}{u:Value}{o:Obj}{n:String}{vs:Array Value}{Q:Unit->Shared->Prop}(ho:s.heap.get? it=some o)(hc:o.cls=.type n)(hd:o.data=.fields vs)
 (hn:["enumerate","zip","dict_itemiterator","dict_reverseitemiterator","odict_iterator","itertools.zip_longest","itertools.pairwise"].contains n=false) (hQ:Q () s):wpAny M A (letOwnedTupleGo tg (.ref it) u) Q E s:=by
 unfold letOwnedTupleGo
 cases tg<;>first
  |exact wpAny_pure hQ
  | (cases u<;>first
      |exact wpAny_pure hQ
      | (refine wpAny_bind (wpAny_load ho ?_)
         rw[hc,hd];show wpAny M A (if(["enumerate","zip","dict_itemiterator","dict_reverseitemiterator","odict_iterator","itertools.zip_longest","itertools.pairwise"].contains n&&vs[0]? == some (rawInt _))=true then _ else _) Q E s;rw[if_neg (by intro h;rw[hn,Bool.false_and]at h;cases h)]
         exact wpAny_pure hQ))
noncomputable def Itl(K:PySem.W.Frag)(a:Addr):It :=
 ⟨λi H=>∃xs x,SqL K H a xs/\xs[i]?=some x,λi H x H'=>H'=H/\∀xs,SqL K H a xs->xs[i]?=some x,λi H=>∃xs,SqL K H a xs/\xs.length<=i⟩
noncomputable def Itt(K:PySem.W.Frag)(a:Addr):It :=
 ⟨λi H=>∃xs x,SqT K H a xs/\xs[i]?=some x,λi H x H'=>H'=H/\∀xs,SqT K H a xs->xs[i]?=some x,λi H=>∃xs,SqT K H a xs/\xs.length<=i⟩
noncomputable def Itr(lo:Int)(n:Nat):It:=⟨λi _=>i<n,λi H x H'=>H'=H/\x=.int (lo+i),λi _=>n<=i⟩
theorem mP{P:Program}{w:World}{K:PySem.W.Frag}{tg:Expr}(a it:Addr):Turn P w K tg (Itl K a) [it] it (λi h=>h.IsListIter it a i) where
 mem:=by simp
 obj:=λi h st b hb=>by
  have e:b=it:=by simpa using hb
  subst e;obtain⟨o,e,c,d⟩:=st;exact⟨o,e,λv z=>by rw[d]at z;cases z⟩
 keep:=λi h h' st k=>st.at λo e=>k it (by simp) o e
 item:=by
  intro X hP hw hK hc i pins s σ H E I hf st hg;subst hP hw hK;obtain⟨xs,x,hq,hx⟩:=hg;obtain⟨its,rv,p,hz⟩:=I.list hq;obtain⟨u,hu,ru⟩:=rv.get hx;obtain⟨f0,f1,f2,f3,f4,f5⟩:=hf it (by simp);refine wpAny_pyNext_list_item st p.isList (x:=u) (by simpa using hu) λh' st' sb=>?_
  have I1:Inv X pins σ H { s with heap:=h' }:=I.turned (t':=s.toks) (λb o hb e=>(sb.2 b hb).trans e) f0 f1 f3 f4 f5;obtain⟨o,e,c,d⟩:=id st';exact⟨u,rfl,gt (s:={ s with heap:=h' }) e c d (by decide) ⟨x,H,I1,ru,⟨rfl,λys hy=>by rw[I.list_inj hy hq];exact hx⟩,st',λb hb=>(hf b hb).1⟩⟩
 done:=by intro X hP hw hK hc i pins s σ H E I hf st hg;subst hP hw hK;obtain⟨xs,hq,hx⟩:=hg;obtain⟨its,rv,p,hz⟩:=I.list hq;obtain⟨f0,f1,f2,f3,f4,f5⟩:=hf it (by simp);have hl:=rv.length;exact wpAny_pyNext_list_end (I.ok.hd hc) st p.isList (by simp;omega) λh' eb=>⟨rfl,I.turned (t':=s.toks) (λb o hb e=>eb b o hb e) f0 f1 f3 f4 f5⟩
 self:=λ_ _ _ _ _ st h=>wpAny_pyIter_listiter st h
theorem mL{P:Program}{w:World}{K:PySem.W.Frag}{tg:Expr}(a it:Addr):Turn P w K tg (Itt K a) [it] it (λi h=>h.IsTupleIter it a i) where
 mem:=by simp
 obj:=λi h st b hb=>by
  have e:b=it:=by simpa using hb
  subst e;obtain⟨o,e,c,d⟩:=st;exact⟨o,e,λv z=>by rw[d]at z;cases z⟩
 keep:=λi h h' st k=>st.at λo e=>k it (by simp) o e
 item:=by
  intro X hP hw hK hc i pins s σ H E I hf st hg;subst hP hw hK;obtain⟨xs,x,hq,hx⟩:=hg;obtain⟨its,rv,p,hz⟩:=I.tuple hq;obtain⟨u,hu,ru⟩:=rv.get hx;obtain⟨f0,f1,f2,f3,f4,f5⟩:=hf it (by simp);refine wpAny_pyNext_tuple_item st (show s.heap.IsTuple a its.toArray from p) (x:=u) (by simpa using hu) λh' st' sb=>?_
  have I1:Inv X pins σ H { s with heap:=h' }:=I.turned (t':=s.toks) (λb o hb e=>(sb.2 b hb).trans e) f0 f1 f3 f4 f5;obtain⟨o,e,c,d⟩:=id st';exact⟨u,rfl,gt (s:={ s with heap:=h' }) e c d (by decide) ⟨x,H,I1,ru,⟨rfl,λys hy=>by rw[I.tuple_inj hy hq];exact hx⟩,st',λb hb=>(hf b hb).1⟩⟩
 done:=by intro X hP hw hK hc i pins s σ H E I hf st hg;subst hP hw hK;obtain⟨xs,hq,hx⟩:=hg;obtain⟨its,rv,p,hz⟩:=I.tuple hq;obtain⟨f0,f1,f2,f3,f4,f5⟩:=hf it (by simp);have hl:=rv.length;exact wpAny_pyNext_tuple_end (I.ok.hd hc) st (show s.heap.IsTuple a its.toArray from p) (by simp;omega) λh' eb=>⟨rfl,I.turned (t':=s.toks) (λb o hb e=>eb b o hb e) f0 f1 f3 f4 f5⟩
 self:=λ_ _ _ _ _ st h=>wpAny_pyIter_tupleiter st h
theorem mO{P:Program}{w:World}{K:PySem.W.Frag}{tg:Expr}(it:Addr)(lo:Int)(n:Nat):Turn P w K tg (Itr lo n) [it] it (λi h=>IsRangeIter h it (lo+(i:Nat)*1) ((n:Int)-(i:Nat)) 1) where
 mem:=by simp
 obj:=λi h st b hb=>by
  have e:b=it:=by simpa using hb
  subst e
  exact⟨_,st,λv z=>by
   have z':Data.fields _=Data.cell v:=z
   cases z'⟩
 keep:=λi h h' st k=>k it (by simp) _ st
 item:=by
  intro X hP hw hK hc i pins s σ H E I hf st hg;subst hP hw hK;obtain⟨f0,f1,f2,f3,f4,f5⟩:=hf it (by simp);have W:=Walks.range (prog:=X.prog) (w:=X.w) (I.ok.hd hc) it lo 1 n;refine W.item i s _ _ hg st λv h' tk hv st' kk=>?_
  obtain⟨t,rfl⟩:=hv;have I1:Inv X pins σ H { s with heap:=h',toks:=tk }:=I.turned (λb o hb e=>kk b o (by simpa using hb) e) f0 f1 f3 f4 f5;refine⟨_,rfl,gt (s:={ s with heap:=h',toks:=tk }) (n:="range_iterator") st' rfl rfl (by decide) ⟨.int (lo+i),H,I1,⟨t,?_⟩,⟨rfl,rfl⟩,st',λb hb=>(hf b hb).1⟩⟩;rw[Int.mul_one]
 done:=by intro X hP hw hK hc i pins s σ H E I hf st hg;subst hP hw hK;obtain⟨f0,f1,f2,f3,f4,f5⟩:=hf it (by simp);exact wpAny_pyNext_range_end (I.ok.hd hc) st (by have:n<=i:=hg;omega) λh' eb=>⟨rfl,I.turned (t':=s.toks) (λb o hb e=>eb b o hb e) f0 f1 f3 f4 f5⟩
 self:=λ_ _ _ _ _ st h=>wpAny_pyIter_rangeiter st h
section
variable {X:Cx}{tg:Expr}
def lj(K:PySem.W.Frag)(tl:TE):TI:=λσ H R=>tl σ H λx H1=>∃a,x=.ref a/\(∃xs,SqL K H1 a xs)/\R (Itl K a) H1
def li(K:PySem.W.Frag)(tl:TE):TI:=λσ H R=>tl σ H λx H1=>∃a,x=.ref a/\(∃xs,SqT K H1 a xs)/\R (Itt K a) H1
theorem oy{l:Expr}{tl:TE}(hl:PE X l tl):PI X tg l (lj X.K tl):=by
 intro pins s σ H R I h;refine thn (hl pins s σ H _ I h) λv s1 ⟨x,H1,I1,r1,q1⟩=>?_
 obtain⟨a,e,⟨xs,hq⟩,q⟩:=q1;subst e;cases r1;obtain⟨its,rv,p,hz⟩:=I1.list hq;refine wpAny_pyIter_list p.isList ?_;refine⟨s1.heap.objs.size,[s1.heap.objs.size],_,_,H1,rfl,I1.kept (t':=s1.toks) λb o e=>Heap.get?_push_of_some _ e,mP a _,⟨_,Heap.get?_push_size _ rfl,rfl,rfl⟩,λb hb=>?_,q⟩;have e:b=s1.heap.objs.size:=by simpa using hb
 subst e;exact I1.fpOk (vJ _) (I1.hok.fresh (vJ _))
theorem oq{l:Expr}{tl:TE}(hl:PE X l tl):PI X tg l (li X.K tl):=by
 intro pins s σ H R I h;refine thn (hl pins s σ H _ I h) λv s1 ⟨x,H1,I1,r1,q1⟩=>?_
 obtain⟨a,e,⟨xs,hq⟩,q⟩:=q1;subst e;cases r1;obtain⟨its,rv,p,hz⟩:=I1.tuple hq;refine wpAny_pyIter_tuple (show s1.heap.IsTuple a its.toArray from p) ?_;refine⟨s1.heap.objs.size,[s1.heap.objs.size],_,_,H1,rfl,I1.kept (t':=s1.toks) λb o e=>Heap.get?_push_of_some _ e,mL a _,⟨_,Heap.get?_push_size _ rfl,rfl,rfl⟩,λb hb=>?_,q⟩;have e:b=s1.heap.objs.size:=by simpa using hb
 subst e;exact I1.fpOk (vJ _) (I1.hok.fresh (vJ _))
theorem nV{pins:List (Addr×Obj)}{σ:St}{H:Hp}{s:Shared}{R:It->Hp->Prop}{E:Value->Shared->Prop}{lo hi:Int}{t u v:Tok}{tk:Nat}(I:Inv X pins σ H s)(h1 : -(2^62)<=lo)(h2:lo<2^62)(h3 : -(2^62)<=hi)(h4:hi<2^62)
 (q:R (Itr lo (hi-lo).toNat) H):wpAny (model X.prog X.w) X.A (pyIter (.ref s.heap.objs.size)) (PIE X pins σ tg R) E { s with heap:=s.heap.push { cls:=.type "range",data:=.fields #[.int lo t,.int hi u,.int 1 v] },toks:=tk }:=by
 refine wpAny_pyIter_range (IsRange.new ..) (small_one h1 h2 h3 h4) ?_;have I1:Inv X pins σ H { s with heap:=s.heap.push { cls:=.type "range",data:=.fields #[.int lo t,.int hi u,.int 1 v] },toks:=tk }:=I.kept λb o e=>Heap.get?_push_of_some _ e
 refine⟨(s.heap.push { cls:=.type "range",data:=.fields #[.int lo t,.int hi u,.int 1 v] }).objs.size,[(s.heap.push { cls:=.type "range",data:=.fields #[.int lo t,.int hi u,.int 1 v] }).objs.size],_,_,H,rfl,
  I1.kept (t':=tk) λb o e=>Heap.get?_push_of_some _ e,mO _ lo (hi-lo).toNat,?_,λb hb=>?_,q⟩
 ·have e1:lo+((0:Nat):Int)*1=lo:=by simp
  have e2:(((hi-lo).toNat:Nat):Int)-((0:Nat):Int)=Builtin.Range.rangeSize lo hi 1:=by rw[rangeSize_one];split<;>omega
  show IsRangeIter _ _ (lo+((0:Nat):Int)*1) ((((hi-lo).toNat:Nat):Int)-((0:Nat):Int)) 1;rw[e1,e2];exact Heap.get?_push_size _ rfl
 ·have e:b=(s.heap.push { cls:=.type "range",data:=.fields #[.int lo t,.int hi u,.int 1 v] }).objs.size:=by simpa using hb
  subst e;exact I1.fpOk (vJ _) (I1.hok.fresh (vJ _))
def rF(ta:TA):TI:=λσ H R=>ta σ H λvs H1=>∃j:Int,vs=[.int j] /\ -(2^62)<=j/\j<2^62/\R (Itr 0 j.toNat) H1
theorem iy{a:Expr}{ta:TA}{p pos:Pos}(hg:Gl X "range")(hm:X.mg "range"=none)(ha:PA X [a] ta)(hs:starEach [a] X.env=[(false,eval a X.env)]:=by rfl):PI X tg (.Call (.Name "range" p) [a] [] pos) (rF ta):=by
 intro pins s σ H R I h;refine Call_ (gl I hg hm boot_range (PyProof.Rows.callWith_type1 (thn (ha pos pins s σ H _ I h) λus s1 ⟨vs,H1,I1,r1,q1⟩=>?_) hs rfl));obtain⟨j,e,q1,q2,q⟩:=q1;subst e;cases r1 with
 |cons r rr =>cases rr;obtain⟨t,rfl⟩:=r;exact call_range_1 (nV I1 (by omega) (by omega) q1 q2 (by simpa using q))
def mY(wi:TI)(g:TG)(tb:TS):TS:=λD σ H=>wi σ H λJ H1=>∃W:Nat->Nat->St->Hp->Prop,(∃m,W 0 m σ H1)/\∀i m σ H,W i m σ H ->
 (J.stop i H/\D.nx σ H)\/(J.go i H/\∃N:St->Hp->Prop,(∀σ' H',N σ' H'->∃m',m'<m/\W (i+1) m' σ' H')/\∀x H',J.yld i H x H'->g x σ H' λσ2 H2=>tb { D with nx:=N,ct:=N,bk:=D.nx } σ2 H2)
noncomputable def fW(fp:List Addr)(h:Heap):List (Addr×Obj):=fp.filterMap λb=>(h.get? b).map λo=>(b,o)
theorem gg{fp:List Addr}{h:Heap}{b:Addr}{o:Obj}(hb:b∈fp)(e:h.get? b=some o):(b,o)∈fW fp h:=List.mem_filterMap.mpr ⟨b,hb,by rw[e];rfl⟩
theorem pI{fp:List Addr}{h:Heap}{p:Addr×Obj}(hp:p∈fW fp h):p.1∈fp/\h.get? p.1=some p.2:=by
 obtain⟨b,hb,e⟩:=List.mem_filterMap.mp hp;cases q:h.get? b with
 |none=>rw[q]at e;cases e
 |some o =>rw[q]at e;have e':(b,o)=p:=Option.some.inj e;subst e';exact⟨hb,q⟩
theorem Inv.pinned{pins:List (Addr×Obj)}{σ:St}{H:Hp}{s:Shared}{fp:List Addr}(I:Inv X pins σ H s)(hf:∀b∈fp,bN X pins H b)(ho:∀b∈fp,∃o,s.heap.get? b=some o/\∀v,o.data≠.cell v):Inv X (pins++fW fp s.heap) σ H s :=
 I.pins_of λp hp=>(v1.mp hp).elim (λz=>I.pin p (vX _ z)) λz=>by obtain⟨hb,e⟩:=pI z;obtain⟨f0,f1,f2,_⟩:=hf p.1 hb;obtain⟨o,e',d⟩:=ho p.1 hb;rw[e]at e';cases e';exact⟨e,f0,f1,f2,d⟩
theorem Inv.unpinned{pins pl:List (Addr×Obj)}{σ:St}{H:Hp}{s:Shared}(I:Inv X (pins++pl) σ H s):Inv X pins σ H s:=I.pins_of λp hp=>I.pin p (vX _ (List.mem_append_left _ hp))
theorem eR{iter:Expr}{body:List Stmt}{wi:TI}{g:TG}{tb:TS}{pos:Pos}(hp:PassesOwn (model X.prog X.w) X.A X.env X.xe)(hc:X.calm=true)(hi:PI X tg iter wi)(hg:PG X tg g)(hb:PSs X body tb)
 (hs:∀x,foldedSetIterable iter X.env x=pure x:=by intro _;rfl):PS X (.For tg iter body [] pos) (mY wi g tb):=by
 intro pins s σ H D I h;refine wpAny_For (thn (hi pins s σ H _ I h) λv s1 h1=>thn h1 λitv s2 h2=>?_) hs;obtain⟨it,fp,tn,J,H2,e,I2,T,st2,f2,W,⟨m0,w0⟩,turn⟩:=h2;subst e;have stat:∀{H':Hp},(∀b∈fp,H' b=none)->∀b∈fp,bN X pins H' b:=λhn b hb=>⟨hn b hb,(f2 b hb).2⟩
 refine codeAny_forLoop_any (λn s'=>∃i σ' H',Inv X pins σ' H' s'/\tn i s'.heap/\(∀b∈fp,H' b=none)/\W i n σ' H') ?_ m0 ⟨0,σ,H2,I2,st2,λb hb=>(f2 b hb).1,w0⟩;rintro n s3 ⟨i,σ3,H3,I3,st3,fr3,w3⟩;rcases turn i n σ3 H3 w3 with⟨stop,qn⟩ |⟨go,N,hN,step⟩
 ·refine wpAny_passesOwn hp (thn (T.done X rfl rfl rfl hc i pins s3 σ3 H3 X.xe I3 (stat fr3) st3 stop) λr s4 ⟨hr,I4⟩=>?_);subst hr;exact wpAny_execs_nil ⟨σ3,H3,I4,qn⟩
 ·refine wpAny_passesOwn hp (thn (T.item X rfl rfl rfl hc i pins s3 σ3 H3 X.xe I3 (stat fr3) st3 go) λr s4 ⟨u,hr,h4⟩=>?_);subst hr;refine wpAny_passesOwn hp (thn h4 λ_ s5 ⟨x,H5,I5,r5,y5,st5,fr5⟩=>?_);have I5':=I5.pinned (stat fr5) (T.obj _ _ st5);refine wpAny_passesOwn hp (thn (hg _ s5 σ3 H5 x u _ I5' r5 (step x H5 y5)) λ_ s6 ⟨σ6,H6,I6,q6⟩=>?_);refine wpAny_passesOwn hp (thn (hb _ s6 σ6 H6 _ I6 q6) λf s7 q7=>?_)
  have again:∀{σ7:St} {H7:Hp},Inv X (pins++fW fp s5.heap) σ7 H7 s7->N σ7 H7->∃m,m<n/\∃i σ' H',Inv X pins σ' H' s7/\tn i s7.heap/\(∀b∈fp,H' b=none)/\W i m σ' H':=λ{σ7 H7} I7 n7=>by obtain⟨m',hm,w7⟩:=hN σ7 H7 n7;refine⟨m',hm,i+1,σ7,H7,I7.unpinned,T.keep _ _ _ st5 λb hb o e=>(I7.pin (b,o) (vX _ (vX _ (gg hb e)))).1,λb hb=>?_,w7⟩;obtain⟨o,e,d⟩:=T.obj _ _ st5 b hb;exact(I7.pin (b,o) (vX _ (vX _ (gg hb e)))).2.1
  cases f with
  |next=>obtain⟨σ7,H7,I7,n7⟩:=q7;exact again I7 n7
  |cont=>obtain⟨σ7,H7,I7,n7⟩:=q7;exact again I7 n7
  |brk=>obtain⟨σ7,H7,I7,q7⟩:=q7;exact⟨σ7,H7,I7.unpinned,q7⟩
  |ret v=>obtain⟨x7,σ7,H7,I7,r7,q7⟩:=q7;exact⟨x7,σ7,H7,I7.unpinned,r7,q7⟩
end
theorem rR{K:PySem.W.Frag}{a:Addr}{xs:List V}{g:TG}{tb:TS}{D:Ends}{σ:St}{H:Hp}(Pv:Nat->St->Hp->Prop)(h0:Pv 0 σ H)(hl:∀i σ H,i<=xs.length->Pv i σ H->SqL K H a xs)
 (hs:∀i x σ H,xs[i]?=some x->Pv i σ H->g x σ H λσ2 H2=>tb { D with nx:=Pv (i+1),ct:=Pv (i+1),bk:=D.nx } σ2 H2) (hd:∀σ H,Pv xs.length σ H->D.nx σ H) :
 ∃W:Nat->Nat->St->Hp->Prop,(∃m,W 0 m σ H)/\∀i m σ H,W i m σ H ->
  ((Itl K a).stop i H/\D.nx σ H)\/((Itl K a).go i H/\∃N:St->Hp->Prop,(∀σ' H',N σ' H'->∃m',m'<m/\W (i+1) m' σ' H')/\∀x H',(Itl K a).yld i H x H'->g x σ H' λσ2 H2=>tb { D with nx:=N,ct:=N,bk:=D.nx } σ2 H2):=by
 refine⟨λi m σ H=>m=xs.length-i/\i<=xs.length/\Pv i σ H,⟨xs.length,by simp,vT _,h0⟩,?_⟩;rintro i m σ H ⟨rfl,hi,p⟩;have q:=hl i σ H hi p;by_cases hlt:i<xs.length
 ·refine .inr ⟨⟨xs,xs[i],q,by simp[hlt]⟩,Pv (i+1),λσ' H' p'=>⟨xs.length-(i+1),by omega,rfl,hlt,p'⟩,λx H' y=>?_⟩;obtain⟨e,y⟩:=y;subst e;exact hs i x σ _ (y xs q) p
 ·have e:i=xs.length:=by omega
  subst e;exact .inl ⟨⟨xs,q,vJ _⟩,hd σ H p⟩
theorem lp{K:PySem.W.Frag}{a:Addr}{xs:List V}{g:TG}{tb:TS}{D:Ends}{σ:St}{H:Hp}(Pv:Nat->St->Hp->Prop)(h0:Pv 0 σ H)(hl:∀i σ H,i<=xs.length->Pv i σ H->SqT K H a xs)
 (hs:∀i x σ H,xs[i]?=some x->Pv i σ H->g x σ H λσ2 H2=>tb { D with nx:=Pv (i+1),ct:=Pv (i+1),bk:=D.nx } σ2 H2) (hd:∀σ H,Pv xs.length σ H->D.nx σ H) :
 ∃W:Nat->Nat->St->Hp->Prop,(∃m,W 0 m σ H)/\∀i m σ H,W i m σ H ->
  ((Itt K a).stop i H/\D.nx σ H)\/((Itt K a).go i H/\∃N:St->Hp->Prop,(∀σ' H',N σ' H'->∃m',m'<m/\W (i+1) m' σ' H')/\∀x H',(Itt K a).yld i H x H'->g x σ H' λσ2 H2=>tb { D with nx:=N,ct:=N,bk:=D.nx } σ2 H2):=by
 refine⟨λi m σ H=>m=xs.length-i/\i<=xs.length/\Pv i σ H,⟨xs.length,by simp,vT _,h0⟩,?_⟩;rintro i m σ H ⟨rfl,hi,p⟩;have q:=hl i σ H hi p;by_cases hlt:i<xs.length
 ·refine .inr ⟨⟨xs,xs[i],q,by simp[hlt]⟩,Pv (i+1),λσ' H' p'=>⟨xs.length-(i+1),by omega,rfl,hlt,p'⟩,λx H' y=>?_⟩;obtain⟨e,y⟩:=y;subst e;exact hs i x σ _ (y xs q) p
 ·have e:i=xs.length:=by omega
  subst e;exact .inl ⟨⟨xs,q,vJ _⟩,hd σ H p⟩
theorem lq{lo:Int}{n:Nat}{g:TG}{tb:TS}{D:Ends}{σ:St}{H:Hp}(Pv:Nat->St->Hp->Prop)(h0:Pv 0 σ H)
 (hs:∀i σ H,i<n->Pv i σ H->g (.int (lo+i)) σ H λσ2 H2=>tb { D with nx:=Pv (i+1),ct:=Pv (i+1),bk:=D.nx } σ2 H2) (hd:∀σ H,Pv n σ H->D.nx σ H) :
 ∃W:Nat->Nat->St->Hp->Prop,(∃m,W 0 m σ H)/\∀i m σ H,W i m σ H ->
  ((Itr lo n).stop i H/\D.nx σ H)\/((Itr lo n).go i H/\∃N:St->Hp->Prop,(∀σ' H',N σ' H'->∃m',m'<m/\W (i+1) m' σ' H')/\∀x H',(Itr lo n).yld i H x H'->g x σ H' λσ2 H2=>tb { D with nx:=N,ct:=N,bk:=D.nx } σ2 H2):=by
 refine⟨λi m σ H=>m=n-i/\i<=n/\Pv i σ H,⟨n,by simp,vT _,h0⟩,?_⟩;rintro i m σ H ⟨rfl,hi,p⟩;by_cases hlt:i<n
 ·refine .inr ⟨hlt,Pv (i+1),λσ' H' p'=>⟨n-(i+1),by omega,rfl,hlt,p'⟩,λx H' y=>?_⟩;obtain⟨e,y⟩:=y;subst e y;exact hs i σ _ hlt p
 ·have e:i=n:=by omega
  subst e;exact .inl ⟨vJ _,hd σ H p⟩
abbrev R2:=V->V->Hp->VK->Prop
noncomputable def OpR(X:Cx)(f:Value->Value->Sem Value)(r:R2):Prop :=
 ∀(pins:List (Addr×Obj)) (s:Shared) (σ:St) (H:Hp) (x y:V) (v u:Value) (Q:VK),Inv X pins σ H s->RelV x v->RelV y u->r x y H Q ->
  wpAny (model X.prog X.w) X.A (f v u) (EP X pins σ Q) X.xe s
noncomputable def UnR(X:Cx)(f:Value->Sem Value)(r:V->Hp->VK->Prop):Prop :=
 ∀(pins:List (Addr×Obj)) (s:Shared) (σ:St) (H:Hp) (x:V) (v:Value) (Q:VK),Inv X pins σ H s->RelV x v->r x H Q ->
  wpAny (model X.prog X.w) X.A (f v) (EP X pins σ Q) X.xe s
noncomputable def bq(X:Cx)(f:Value)(r:List V->Hp->VK->Prop):Prop :=
 ∀(pins:List (Addr×Obj)) (s:Shared) (σ:St) (H:Hp) (xs:List V) (us:List Value) (Q:VK),Inv X pins σ H s->Vals xs us->r xs H Q ->
  wpAny (model X.prog X.w) X.A (call f us) (EP X pins σ Q) X.xe s
def tOp(r:R2)(ta tb:TE):TE:=λσ H Q=>ta σ H λx H1=>tb σ H1 λy H2=>r x y H2 Q
def tUn(r:V->Hp->VK->Prop)(ta:TE):TE:=λσ H Q=>ta σ H λx H1=>r x H1 Q
def rI(C:Int->Int->Prop)(g:Int->Int->V):R2:=λx y H Q=>∃i j,x=.int i/\y=.int j/\C i j/\Q (g i j) H
def rI0(g:Int->Int->V):R2:=λx y H Q=>∃i j,x=.int i/\y=.int j/\Q (g i j) H
noncomputable def rU(g:Int->V):V->Hp->VK->Prop:=λx H Q=>∃i,x=.int i/\Q (g i) H
section
variable {X:Cx}{a b c:Expr}{ta tb tc:TE}{pos:Pos}
theorem jj(ha:PE X a ta)(hb:PE X b tb){pins:List (Addr×Obj)}{s:Shared}{σ:St}{H:Hp}{R:V->V->Hp->Prop}(I:Inv X pins σ H s)
 (h:ta σ H λx H1=>tb σ H1 λy H2=>R x y H2) {Q:Value->Shared->Prop} {f:Value->Value->Sem Value}
 (hf:∀v u s2 x y H2,Inv X pins σ H2 s2->RelV x v->RelV y u->R x y H2->wpAny (model X.prog X.w) X.A (f v u) Q X.xe s2) :
 wpAny (model X.prog X.w) X.A (eval a X.env) (λv s₁=>wpAny (model X.prog X.w) X.A (eval b X.env) (λu s₂=>wpAny (model X.prog X.w) X.A (f v u) Q X.xe s₂) X.xe s₁) X.xe s:=by
 refine thn (ha pins s σ H _ I h) λv s1 ⟨x,H1,I1,r1,q1⟩=>?_
 refine thn (hb pins s1 σ H1 _ I1 q1) λu s2 ⟨y,H2,I2,r2,q2⟩=>?_
 exact hf v u s2 x y H2 I2 r1 r2 q2
theorem am{op:Operator}{r:R2}(ho:OpR X (binaryOp op) r)(ha:PE X a ta)(hb:PE X b tb):PE X (.BinOp a op b pos) (tOp r ta tb):=by intro pins s σ H Q I h;exact wpAny_BinOp (jj ha hb I h λv u s2 x y H2 I2 rx ry q=>ho pins s2 σ H2 x y v u Q I2 rx ry q)
theorem eU{op:UnaryOp}{r:V->Hp->VK->Prop}(ho:UnR X (unaryOp op) r)(ha:PE X a ta):PE X (.UnaryOp op a pos) (tUn r ta):=by intro pins s σ H Q I h;exact UnaryOp_ (thn (ha pins s σ H _ I h) λv s1 ⟨x,H1,I1,r1,q1⟩=>ho pins s1 σ H1 x v Q I1 r1 q1)
theorem opI{f:Value->Value->Sem Value}{C:Int->Int->Prop}{g:Int->Int->Int}
 (rule:∀(i j:Int) (t u:Tok) (s:Shared) (Q:Value->Shared->Prop) (E:Value->Shared->Prop),C i j->Q (.int (g i j) s.toks) { s with toks:=s.toks+1 }->wpAny (model X.prog X.w) X.A (f (.int i t) (.int j u)) Q E s) :
 OpR X f (rI C λi j=>.int (g i j)):=by
 intro pins s σ H x y v u Q I rx ry h;obtain⟨i,j,rfl,rfl,hc,q⟩:=h;obtain⟨t,rfl⟩:=rx;obtain⟨t',rfl⟩:=ry;exact rule i j t t' s _ _ hc ⟨.int (g i j),H,I.tok _,⟨_,rfl⟩,q⟩
theorem j9{f:Value->Value->Sem Value}{g:Int->Int->Int}
 (rule:∀(i j:Int) (t u:Tok) (s:Shared) (Q:Value->Shared->Prop) (E:Value->Shared->Prop),Q (.int (g i j) s.toks) { s with toks:=s.toks+1 }->wpAny (model X.prog X.w) X.A (f (.int i t) (.int j u)) Q E s) :
 OpR X f (rI0 λi j=>.int (g i j)):=by
 intro pins s σ H x y v u Q I rx ry h;obtain⟨i,j,rfl,rfl,q⟩:=h;obtain⟨t,rfl⟩:=rx;obtain⟨t',rfl⟩:=ry;exact rule i j t t' s _ _ ⟨.int (g i j),H,I.tok _,⟨_,rfl⟩,q⟩
theorem eY{f:Value->Value->Sem Value}{g:Int->Int->Bool}
 (rule:∀(i j:Int) (t u:Tok) (s:Shared) (Q:Value->Shared->Prop) (E:Value->Shared->Prop),Q (.bool (g i j)) s->wpAny (model X.prog X.w) X.A (f (.int i t) (.int j u)) Q E s) :
 OpR X f (rI0 λi j=>.bl (g i j)):=by
 intro pins s σ H x y v u Q I rx ry h;obtain⟨i,j,rfl,rfl,q⟩:=h;obtain⟨t,rfl⟩:=rx;obtain⟨t',rfl⟩:=ry;exact rule i j t t' s _ _ ⟨.bl (g i j),H,I,rfl,q⟩
def vD(i j:Int):Prop:=0<=j/\j<=1000000/\i.natAbs<2^64
def CMul(i j:Int):Prop:=(-(2^64)<i/\i<2^64)\/(-(2^64)<j/\j<2^64)
theorem CMul.ok{i j:Int}(h:CMul i j):IntMulOk i j:=by
 rcases h with⟨h1,h2⟩ |⟨h1,h2⟩
 ·exact .of_left (intBits_le_64 h1 h2)
 ·exact .of_right (intBits_le_64 h1 h2)
theorem bD:OpR X (binaryOp .Add) (rI0 λi j=>.int (i+j)):=j9 λ_ _ _ _ _ _ _ q=>add_int q
theorem cN:OpR X (binaryOp .Sub) (rI0 λi j=>.int (i-j)):=j9 λ_ _ _ _ _ _ _ q=>sub_int q
theorem oM:OpR X (binaryOp .Mult) (rI CMul λi j=>.int (i*j)):=opI λ_ _ _ _ _ _ _ hc q=>mul_int q hc.ok
theorem oN:OpR X (binaryOp .Mod) (rI (λ_ j=>0<j) λi j=>.int (i%j)):=opI λi j _ _ _ _ _ hc q=>by have h1:(0:Int)<j:=hc;exact mod_int' (by omega) (by rw[Int.fmod_eq_emod_of_nonneg i (by omega)];exact q)
theorem oJ:OpR X (binaryOp .Pow) (rI vD λi j=>.int (i^j.toNat)):=opI λ_ _ _ _ _ _ _ hc q=>pow_int_small hc.1 hc.2.1 hc.2.2 q
theorem unI{f:Value->Sem Value}{g:Int->Int}
 (rule:∀(i:Int) (t:Tok) (s:Shared) (Q:Value->Shared->Prop) (E:Value->Shared->Prop),Q (.int (g i) s.toks) { s with toks:=s.toks+1 }->wpAny (model X.prog X.w) X.A (f (.int i t)) Q E s) :
 UnR X f (rU λi=>.int (g i)):=by
 intro pins s σ H x v Q I rx h;obtain⟨i,rfl,q⟩:=h;obtain⟨t,rfl⟩:=rx;exact rule i t s _ _ ⟨.int (g i),H,I.tok _,⟨_,rfl⟩,q⟩
theorem ez:UnR X (unaryOp .USub) (rU λi=>.int (-i)):=unI λ_ _ _ _ _ q=>neg_int q
end
noncomputable def jQ:V->V->Bool
 |.non,.non=>true |.non,.int _=>true |.int _,.non=>true |.non,.bl _=>true |.bl _,.non=>true |.non,.str _=>true |.str _,.non=>true
 |.int _,.int _=>true |.bl _,.bl _=>true |.str _,.str _=>true |.byt _,.byt _=>true
 |.int _,.str _=>true |.str _,.int _=>true |.bl _,.str _=>true |.str _,.bl _=>true
 |_,_=>false
def rEq:R2:=λx y H Q=>jQ x y=true/\Q (.bl (decide (x=y))) H
def rNe:R2:=λx y H Q=>jQ x y=true/\Q (.bl (!decide (x=y))) H
theorem lE{i j:Int}:decide (V.int i=V.int j)=(i == j):=by rw[vY];simp
theorem lG{i j:Bool}:decide (V.bl i=V.bl j)=(i == j):=by rw[vY];simp
theorem lD{i j:Str}:decide (V.str i=V.str j)=(i == j):=by rw[vY];simp
theorem lF{i j:Array UInt8}:decide (V.byt i=V.byt j)=(i.toList == j.toList):=by rw[vY];cases i;cases j;simp
section
variable {X:Cx}{a b c:Expr}{ta tb tc:TE}{pos:Pos}
theorem aI{pins:List (Addr×Obj)}{σ:St}{H:Hp}{s:Shared}{Q:VK}{k k':Bool}(I:Inv X pins σ H s)(q:Q (.bl k) H)(e:k=k'):EP X pins σ Q (.bool k') s:=by subst e;exact⟨.bl k,H,I,rfl,q⟩
theorem aL:OpR X (compareOp .Eq) rEq:=by
 intro pins s σ H x y v u Q I rx ry h;obtain⟨hs,q⟩:=h;cases x with
 |non =>
  cases rx;cases y with
  |non=>cases ry;exact PySem.EqNone.eq_none_none (aI I q (by simp))
  |bl j=>cases ry;exact PySem.EqNone.eq_none_bool (aI I q (by simp))
  |int j=>obtain⟨t',rfl⟩:=ry;exact PySem.EqNone.eq_none_int (aI I q (by simp))
  |str j=>obtain⟨t',rfl⟩:=ry;exact PySem.EqNone.eq_none_str (aI I q (by simp))
  |_=>exact absurd (show false=true from hs) vL
 |bl i =>
  cases rx;cases y with
  |non=>cases ry;exact PySem.EqNone.eq_bool_none (aI I q (by simp))
  |bl j=>cases ry;exact eq_bool (aI I q lG)
  |str j=>obtain⟨t',rfl⟩:=ry;exact PySem.EqMixed.eq_bool_str (aI I q (by simp))
  |_=>exact absurd (show false=true from hs) vL
 |int i =>
  obtain⟨t,rfl⟩:=rx;cases y with
  |non=>cases ry;exact PySem.EqNone.eq_int_none (aI I q (by simp))
  |int j=>obtain⟨t',rfl⟩:=ry;exact eq_int (aI I q lE)
  |str j=>obtain⟨t',rfl⟩:=ry;exact PySem.EqMixed.eq_int_str (aI I q (by simp))
  |_=>exact absurd (show false=true from hs) vL
 |str i =>
  obtain⟨t,rfl⟩:=rx;cases y with
  |non=>cases ry;exact PySem.EqNone.eq_str_none (aI I q (by simp))
  |bl j=>cases ry;exact PySem.EqMixed.eq_str_bool (aI I q (by simp))
  |int j=>obtain⟨t',rfl⟩:=ry;exact PySem.EqMixed.eq_str_int (aI I q (by simp))
  |str j=>obtain⟨t',rfl⟩:=ry;exact eq_str (aI I q lD)
  |_=>exact absurd (show false=true from hs) vL
 |byt i =>
  obtain⟨t,rfl⟩:=rx;cases y with
  |byt j=>obtain⟨t',rfl⟩:=ry;exact PySem.W.eq_bytes (aI I q lF)
  |_=>exact absurd (show false=true from hs) vL
 |_=>cases y<;>exact absurd (show false=true from hs) vL
theorem d7:OpR X (compareOp .NotEq) rNe:=by
 intro pins s σ H x y v u Q I rx ry h;obtain⟨hs,q⟩:=h;cases x with
 |non =>
  cases rx;cases y with
  |non=>cases ry;exact PySem.EqNone.ne_none_none (aI I q (by simp))
  |bl j=>cases ry;exact PySem.EqNone.ne_none_bool (aI I q (by simp))
  |int j=>obtain⟨t',rfl⟩:=ry;exact PySem.EqNone.ne_none_int (aI I q (by simp))
  |str j=>obtain⟨t',rfl⟩:=ry;exact PySem.EqNone.ne_none_str (aI I q (by simp))
  |_=>exact absurd (show false=true from hs) vL
 |bl i =>
  cases rx;cases y with
  |non=>cases ry;exact PySem.EqNone.ne_bool_none (aI I q (by simp))
  |bl j=>cases ry;exact ne_bool (aI I q (congrArg not lG))
  |str j=>obtain⟨t',rfl⟩:=ry;exact PySem.EqMixed.ne_bool_str (aI I q (by simp))
  |_=>exact absurd (show false=true from hs) vL
 |int i =>
  obtain⟨t,rfl⟩:=rx;cases y with
  |non=>cases ry;exact PySem.EqNone.ne_int_none (aI I q (by simp))
  |int j=>obtain⟨t',rfl⟩:=ry;exact ne_int (aI I q (congrArg not lE))
  |str j=>obtain⟨t',rfl⟩:=ry;exact PySem.EqMixed.ne_int_str (aI I q (by simp))
  |_=>exact absurd (show false=true from hs) vL
 |str i =>
  obtain⟨t,rfl⟩:=rx;cases y with
  |non=>cases ry;exact PySem.EqNone.ne_str_none (aI I q (by simp))
  |bl j=>cases ry;exact PySem.EqMixed.ne_str_bool (aI I q (by simp))
  |int j=>obtain⟨t',rfl⟩:=ry;exact PySem.EqMixed.ne_str_int (aI I q (by simp))
  |str j=>obtain⟨t',rfl⟩:=ry;exact ne_str (aI I q (congrArg not lD))
  |_=>exact absurd (show false=true from hs) vL
 |byt i =>
  obtain⟨t,rfl⟩:=rx;cases y with
  |byt j=>obtain⟨t',rfl⟩:=ry;exact PySem.W.ne_bytes (aI I q (congrArg not lF))
  |_=>exact absurd (show false=true from hs) vL
 |_=>cases y<;>exact absurd (show false=true from hs) vL
theorem bR:OpR X (compareOp .Lt) (rI0 λi j=>.bl (decide (i<j))):=eY λ_ _ _ _ _ _ _ q=>lt_int q
theorem d9:OpR X (compareOp .Gt) (rI0 λi j=>.bl (decide (j<i))):=eY λ_ _ _ _ _ _ _ q=>gt_int q
theorem oO:OpR X (compareOp .GtE) (rI0 λi j=>.bl (decide (j<=i))):=eY λ_ _ _ _ _ _ _ q=>ge_int q
theorem cr:OpR X (compareOp .In) (λx y H Q=>∃i j,x=.str i/\y=.str j/\Q (.bl (!(Builtin.Str.occurrences j i 0 j.length 1).isEmpty)) H):=by intro pins s σ H x y v u Q I rx ry h;obtain⟨i,j,rfl,rfl,q⟩:=h;obtain⟨t,rfl⟩:=rx;obtain⟨t',rfl⟩:=ry;exact in_str (aI I q rfl)
theorem ak(b:Expr){op:CmpOp}(h:op≠.In:=by decide)(h2:op≠.NotIn:=by decide):behindInMarks op b=false:=by
 have e1:(op == CmpOp.In)=false:=by cases op<;>first |rfl |exact absurd rfl h
 have e2:(op == CmpOp.NotIn)=false:=by cases op<;>first |rfl |exact absurd rfl h2
 cases b<;>simp[behindInMarks,e1,e2]
theorem ba{op:CmpOp}{r:R2}(ho:OpR X (compareOp op) r)(ha:PE X a ta)(hb:PE X b tb)(hm:behindInMarks op b=false):PE X (.Compare a [op] [b] pos) (tOp r ta tb):=by intro pins s σ H Q I h;exact wpAny_Compare1 (jj ha hb I h λv u s2 x y H2 I2 rx ry q=>ho pins s2 σ H2 x y v u Q I2 rx ry q) hm
def gJ(t:TE):TT:=λσ H Q=>t σ H λx H'=>∃k,x=.bl k/\Q k H'
theorem aj{op:CmpOp}{r:R2}(ho:OpR X (compareOp op) r)(ha:PE X a ta)(hb:PE X b tb)(hm:behindInMarks op b=false):PT X (.Compare a [op] [b] pos) (gJ (tOp r ta tb)):=by
 intro pins s σ H Q I h
 refine wpAny_isTrue_Compare1 (thn (ha pins s σ H _ I h) λv s1 ⟨x,H1,I1,r1,q1⟩=>thn (hb pins s1 σ H1 _ I1 q1) λu s2 ⟨y,H2,I2,r2,q2⟩ =>thn (ho pins s2 σ H2 x y v u _ I2 r1 r2 q2) λc s3 ⟨z,H3,I3,r3,k,e,q3⟩=>?_) hm
 subst e;cases r3;exact wpAny_truthy_bool ⟨H3,I3,q3⟩
theorem el:(sizeLine:Nat)<2^63:=by rw[sizeLine_eq];decide
theorem iF:OpR X (binaryOp .Add) (λx y H Q=>∃i j,x=.str i/\y=.str j/\i.length+j.length<=sizeLine/\Q (.str (i++j)) H):=by intro pins s σ H x y v u Q I rx ry h;obtain⟨i,j,rfl,rfl,hz,q⟩:=h;obtain⟨t,rfl⟩:=rx;obtain⟨t',rfl⟩:=ry;exact add_str (λt' tk=>⟨.str (i++j),H,I.tok _,⟨_,rfl⟩,q⟩) hz
theorem cz{x:V}{us:List Value}(r:Vals [x] us):∃u,us=[u]/\RelV x u:=by
 cases r with
 |cons r1 r2=>cases r2;exact⟨_,rfl,r1⟩
theorem mJ{x y:V}{us:List Value}(r:Vals [x,y] us):∃u w',us=[u,w']/\RelV x u/\RelV y w':=by
 cases r with
 |cons r1 r2 =>
  cases r2 with
  |cons r3 r4=>cases r4;exact⟨_,_,rfl,r1,r3⟩
theorem lQ(hc:X.calm=true):bq X (.builtin "max") (λxs H Q=>∃i j,xs=[.int i,.int j]/\Q (.int (if j>i then j else i)) H):=by
 intro pins s σ H xs us Q I r h;obtain⟨i,j,rfl,q⟩:=h;obtain⟨u,w',rfl,⟨t,rfl⟩,⟨t',rfl⟩⟩:=mJ r;refine max_two_ints (I.ok.hd hc) λh' tk k=>⟨_,H,I.kept k,?_,q⟩
 by_cases hj:j>i
 ·rw[if_pos hj,if_pos hj];exact⟨_,rfl⟩
 ·rw[if_neg hj,if_neg hj];exact⟨_,rfl⟩
theorem da:bq X (.type "int") (λxs H Q=>(∃i,xs=[.int i]/\Q (.int i) H)\/∃k,xs=[.bl k]/\Q (.int (if k then 1 else 0)) H):=by
 intro pins s σ H xs us Q I r h;rcases h with⟨i,rfl,q⟩ |⟨k,rfl,q⟩
 ·obtain⟨u,rfl,t,rfl⟩:=cz r;exact call_int_int ⟨.int i,H,I,⟨_,rfl⟩,q⟩
 ·obtain⟨u,rfl,r1⟩:=cz r;cases r1;exact call_int_bool ⟨.int (if k then 1 else 0),H,I.tok _,⟨_,rfl⟩,q⟩
theorem lP:bq X (.type "str") (λxs H Q=>∃i,xs=[.int i]/\i.natAbs.log2<1920/\Q (.str (toString i)) H):=by intro pins s σ H xs us Q I r h;obtain⟨i,rfl,hz,q⟩:=h;obtain⟨u,rfl,t,rfl⟩:=cz r;exact PySem.P.str_of_int hz ⟨.str _,H,I.tok _,⟨_,rfl⟩,q⟩
end
structure ObjM(h:Heap)(x dx C:Addr)(mA:Str->Option Value):Prop where
 obj:h.get? x=some (PySem.W.instObj C dx)
 ns:h.Ns1 dx mA
 ne:dx≠x
theorem kK{h:Heap}{dx:Addr}{mA:Str->Option Value}(n:h.Ns1 dx mA):∃od,h.get? dx=some od/\∀name,PySem.W.lookIn name od=some (mA name):=by
 obtain⟨o,es,ep,ho,hd,hk,_,hm⟩:=n;refine⟨o,ho,λname=>?_⟩;have e:=hm name;unfold nsFind findBy at e
 rw[<- Array.find?_toList]at e;unfold PySem.W.lookIn;rw[hd];dsimp only
 split
 ·rename_i y q
  rw[q]at e;exact congrArg some e
 ·rename_i q
  rw[q]at e
  have a:es.toList.any (·.refKey)=false:=by rw[List.any_eq_false];intro y hy;obtain⟨z,t,hkey⟩:=hk y (Array.mem_toList_iff.mp hy);simp[DictEntry.refKey,hkey]
  have a':¬es.toList.any (·.refKey)=true:=by rw[a];exact vL
  rw[if_neg a'];exact congrArg some e
theorem ObjM.look{h:Heap}{x dx C:Addr}{mA:Str->Option Value}(I:ObjM h x dx C mA):∃od,PySem.W.InstAt h x (PySem.W.instObj C dx) C (some od)/\∀name,PySem.W.lookIn name od=some (mA name) :=
 let⟨od,ho,hl⟩:=kK I.ns
 ⟨od,⟨I.obj,rfl,rfl,ho⟩,hl⟩
section
variable {prog:Program}{w:World}{A:Around}{E:Value->Shared->Prop}{s:Shared}{K:PySem.W.Frag}{x dx C f:Addr}{mA:Str->Option Value}{name:Str}{v:Value}
theorem rM{expr:Bool}{Q:Value->Shared->Prop}(X:K.In s.heap)(I:ObjM s.heap x dx C mA)(hg:PySem.W.plainGet K C name=true)(hh:PySem.W.hasDictIn K C=true)
 (ha:PySem.W.findIn K (.ref C) name=some none) (hv:mA name=some v) (hv':PySem.W.handedIn v=true) (h:Q v { s with toks:=s.toks+1 }) :
 wpAny (model prog w) A (getAttr (.ref x) name expr) Q E s:=by
 obtain⟨od,J,hl⟩:=I.look;exact PySem.W.get_value X J (PySem.W.plainGet_of hg).1 (PySem.W.findObj_own hh ha rfl (by rw[hl,hv])) hv' h
theorem rL{pl:Sem Bool}{Q:Value×List Value->Shared->Prop}(X:K.In s.heap)(I:ObjM s.heap x dx C mA)(hg:PySem.W.plainGet K C name=true)
 (hf:PySem.W.findIn K (.ref C) name=some (some (.ref f))) (ht:PySem.W.isFn K (.ref f)=true) (hv:mA name=none) (h:Q (.ref f,[.ref x]) s) :
 wpAny (model prog w) A (getMethod (.ref x) name pl) Q E s:=by
 obtain⟨od,J,hl⟩:=I.look;exact PySem.W.method_fn X J (PySem.W.plainGet_of hg).1 (PySem.W.plainGet_of hg).2 hf (beq_iff_eq.mp ht) (by show(PySem.W.lookIn name od).map (·.isSome)=some false;rw[hl,hv];rfl) h
theorem nt{ns:List Str}{Q:Unit->Shared->Prop}(X:K.In s.heap)(I:ObjM s.heap x dx C mA)
 (hs:PySem.W.findIn K (.ref C) "__setattr__"=some (some (.builtin "object.__setattr__"))) (hp:PySem.W.plainOver K C=true) (ht:PySem.W.takerIn K C name=some none) (hh:PySem.W.hasDictIn K C=true)
 (hw:PySem.Within mA ns) (hsz:ns.length<=sizeLine)
 (h:∀h',ObjM h' x dx C (λy=>if y=name then some v else mA y)->Heap.SameBut dx s.heap h'->Q () { s with heap:=h',toks:=s.toks+2 }) :
 wpAny (model prog w) A (setAttr (.ref x) name v) Q E s:=by
 obtain⟨od,J,hl⟩:=I.look;refine PySem.W.set_plain X J hs (PySem.W.osa_open (s:={ s with toks:=s.toks+1 }) (r:=none) X J hp ht λb=>?_);obtain⟨cd,hc,hd'⟩:=PySem.W.any_some hh;have hx:s.heap.get? x=some ⟨.ref C,some dx,.plain,#[]⟩:=I.obj;refine wpAny_bind (wpAny_pure (wpAny_bind (wpAny_bind (wpAny_loadPart hx (wpAny_bind (PySem.W.Looks.here (s:={ s with toks:=s.toks+1 }) (PySem.W.looks_clsIn X hc) ?_))))));rw[hd'];refine wpAny_pure (a:=some dx) (wpAny_bind (wpAny_pure (wpAny_bind ?_)));refine wpAny_nsSet1 (s:={ s with toks:=s.toks+1 }) I.ns λh' hn2 hs2=>?_
 obtain⟨oD,esD,epD,hoD,hdD,hcD⟩:=hn2.count (PySem.Within.cons name v hw);refine wpAny_bind (wpAny_lookBehind hoD (by rw[hdD];exact pastItsLine_dict (vQ hcD (by rw[vZ];omega))) ?_);exact wpAny_pure (h _ ⟨(hs2.2 _ (Ne.symm I.ne)).trans I.obj,hn2,I.ne⟩ hs2)
theorem qi{R:Result->Shared->Prop}{vs:List Value}{kw:List (Str×Value)}(X:K.In s.heap)(hm:PySem.W.makesIn K C=true)
 (hi:PySem.W.findIn K (.ref C) "__init__"=some (some (.ref f))) (hf:PySem.W.typeIn K (.ref f)=some (.type "function"))
 (h:codeAny (model prog w) (A.under (.builtin "type.__call__" ⟨.ref C::vs,kw⟩)) (.call (.ref f) ⟨.ref (s.heap.objs.size+1)::vs,kw⟩) (PySem.W.InitBack (s.heap.objs.size+1) R)
   { s with heap:=(s.heap.push PySem.W.emptyDict).push (PySem.W.instObj C s.heap.objs.size) }) :
 codeAny (model prog w) A (.call (.ref C) ⟨vs,kw⟩) R s:=by
 obtain⟨hh,g,d,t,os⟩:=s;exact PySem.W.make_core (PySem.W.makes_of X hm) (PySem.W.looks_findIn X hi) (λself=>PySem.W.bind_fn X self hf) (.inl rfl) h
end
noncomputable def aM(f:Str)(v:V):List (Str×V)->List (Str×V)
 | []=>[(f,v)]
 | (g,x)::r=>if g=f then(g,v)::r else(g,x)::aM f v r
theorem bc(f g:Str)(v:V):∀fs:List (Str×V),(aM f v fs).lookup g=if g=f then some v else fs.lookup g
 | []=>by
  show List.lookup g [(f,v)]=_;by_cases h:g=f
  ·have hb:(g == f)=true:=beq_iff_eq.mpr h;simp only[List.lookup,hb,if_pos h]
  ·have hb:(g == f)=false:=beq_eq_false_iff_ne.mpr h;simp only[List.lookup,hb,if_neg h]
 | (k,x)::r=>by
  have ih:=bc f g v r;rw[show aM f v ((k,x)::r)=(if k=f then(k,v)::r else(k,x)::aM f v r)from rfl];by_cases hk:k=f
  ·rw[if_pos hk];by_cases h:g=k
   ·have hb:(g == k)=true:=beq_iff_eq.mpr h;simp only[List.lookup,hb,if_pos (h.trans hk)]
   ·have hb:(g == k)=false:=beq_eq_false_iff_ne.mpr h;simp only[List.lookup,hb,if_neg (λe:g=f=>h (e.trans hk.symm))]
  ·rw[if_neg hk];by_cases h:g=k
   ·have hb:(g == k)=true:=beq_iff_eq.mpr h;simp only[List.lookup,hb,if_neg (λe:g=f=>hk (h.symm.trans e))]
   ·have hb:(g == k)=false:=beq_eq_false_iff_ne.mpr h;simp only[List.lookup,hb];exact ih
theorem iV(f:Str)(v:V):∀fs:List (Str×V),f∈(aM f v fs).map (·.1)/\∀g,g∈fs.map (·.1)->g∈(aM f v fs).map (·.1)
 | []=>⟨by simp[aM],λg h=>by simp at h⟩
 | (k,x)::r=>by
  obtain⟨i1,i2⟩:=iV f v r;rw[show aM f v ((k,x)::r)=(if k=f then(k,v)::r else(k,x)::aM f v r)from rfl];by_cases hk:k=f
  ·rw[if_pos hk];subst hk;exact⟨by simp,λg h=>by simpa using h⟩
  ·rw[if_neg hk];refine⟨?_,λg h=>?_⟩
   ·rw[List.map_cons];exact v5 _ i1
   ·rw[List.map_cons]at h ⊢;rcases vO.mp h with e |e
    ·exact vO.mpr (.inl e)
    ·exact v5 _ (i2 g e)
theorem iU(f:Str)(v:V):∀fs:List (Str×V),(aM f v fs).length<=fs.length+1
 | []=>by simp[aM]
 | (k,x)::r=>by
  have ih:=iU f v r;rw[show aM f v ((k,x)::r)=(if k=f then(k,v)::r else(k,x)::aM f v r)from rfl];by_cases hk:k=f
  ·rw[if_pos hk,vZ,vZ];omega
  ·rw[if_neg hk,vZ,vZ];omega
theorem RelO.some_of{v:V}{o:Option Value}(r:RelO (some v) o):∃u,o=some u/\RelV v u:=by
 cases o with
 |none=>exact(show False from r).elim
 |some u=>exact⟨u,rfl,r⟩
theorem RelO.none_of{o:Option Value}(r:RelO none o):o=none:=by
 cases o with
 |none=>rfl
 |some u=>exact(show False from r).elim
theorem ll{v:V}{u:Value}(r:RelV v u):PySem.W.handedIn u=true:=by
 cases v with
 |non=>cases(show u=Value.none from r);rfl
 |bl b=>cases(show u=Value.bool b from r);rfl
 |int i=>obtain⟨t,e⟩:=(show ∃t,u=Value.int i t from r);cases e;rfl
 |str x=>obtain⟨t,e⟩:=(show ∃t,u=Value.str x t from r);cases e;rfl
 |byt b=>obtain⟨t,e⟩:=(show ∃t,u=Value.bytes b t from r);cases e;rfl
 |flt b=>obtain⟨t,e⟩:=(show ∃t,u=Value.float b t from r);cases e;rfl
 |ref a=>cases(show u=Value.ref a from r);rfl
 |ty n=>cases(show u=Value.type n from r);rfl
section
variable {P:Program}{w:World}{H H':Hp}{h h':Heap}{a C dx:Addr}{fs fs':List (Str×V)}
theorem gs(hok:HOk P w H h)(e:H a=some (.ins C dx fs)):∃mA,ObjM h a dx C mA/\(∀f,RelO (fs.lookup f) (mA f))/\PySem.Within mA (fs.map (·.1))/\fs.length<=1000/\H dx=some (.own a):=by obtain⟨d,z,ne,ob,mA,n,r,q⟩:=(show ObjOk P w H h a (.ins C dx fs)from hok a _ e);exact⟨mA,⟨ob,n,ne⟩,r,q,z,d⟩
end
structure Cls(K:PySem.W.Frag)(C:Addr):Prop where
 pg:PySem.W.plainGet K C Str.empty=true
 hd:PySem.W.hasDictIn K C=true
 po:PySem.W.plainOver K C=true
 sa:PySem.W.findIn K (.ref C) "__setattr__"=some (some (.builtin "object.__setattr__"))
theorem Cls.get{K:PySem.W.Frag}{C:Addr}(c:Cls K C)(f:Str):PySem.W.plainGet K C f=true:=c.pg
def NoAttr(K:PySem.W.Frag)(C:Addr)(f:Str):Prop:=PySem.W.findIn K (.ref C) f=some none
theorem NoAttr.taker{K:PySem.W.Frag}{C:Addr}{f:Str}(n:NoAttr K C f):PySem.W.takerIn K C f=some none:=by unfold PySem.W.takerIn;rw[show PySem.W.findIn K (.ref C) f=some none from n];rfl
structure Meth(K:PySem.W.Frag)(C:Addr)(m:Str)(f:Addr):Prop where
 at_:PySem.W.findIn K (.ref C) m=some (some (.ref f))
 fn:PySem.W.isFn K (.ref f)=true
 kp:PySem.W.keepIn K (.ref f)=true
section
variable {X:Cx}{pins:List (Addr×Obj)}{σ:St}{H:Hp}{s:Shared}{a C dx:Addr}{fs:List (Str×V)}{f:Str}{v:V}{A:Around}{E:Value->Shared->Prop}
theorem rK{b:Bool}{Q:Value->Shared->Prop}(I:Inv X pins σ H s)(e:H a=some (.ins C dx fs))(c:Cls X.K C)(n:NoAttr X.K C f)(l:fs.lookup f=some v)
 (h:∀u s',Inv X pins σ H s'->RelV v u->Q u s'):wpAny (model X.prog X.w) A (getAttr (.ref a) f b) Q E s:=by
 obtain⟨mA,O,r,_,_,_⟩:=gs I.hok e;obtain⟨u,hu,ru⟩:=RelO.some_of (v:=v) (o:=mA f) (by rw[<- l];exact r f);exact rM I.kIn O (c.get f) c.hd n hu (ll ru) (h u _ (I.tok _) ru)
theorem lm{m:Str}{g:Addr}{pl:Sem Bool}{Q:Value×List Value->Shared->Prop}(I:Inv X pins σ H s)(e:H a=some (.ins C dx fs))(c:Cls X.K C)(k:Meth X.K C m g)(l:fs.lookup m=none)
 (h:Q (.ref g,[.ref a]) s):wpAny (model X.prog X.w) A (getMethod (.ref a) m pl) Q E s:=by
 obtain⟨mA,O,r,_,_,_⟩:=gs I.hok e;have hn:mA m=none:=RelO.none_of (by rw[<- l];exact r m);exact rL I.kIn O (c.get m) k.at_ k.fn hn h
theorem nr{y:V}{u:Value}{Q:Unit->Shared->Prop}(I:Inv X pins σ H s)(e:H a=some (.ins C dx fs))(c:Cls X.K C)(n:NoAttr X.K C f)(hl:fs.length<1000)(ry:RelV y u)
 (h:∀s',Inv X pins σ (upd H a (.ins C dx (aM f y fs))) s'->Q () s'):wpAny (model X.prog X.w) A (setAttr (.ref a) f u) Q E s:=by
 obtain⟨mA,O,r,wi,_,ho⟩:=gs I.hok e;have hz:(fs.map (·.1)).length<=sizeLine:=by rw[vK,sizeLine_eq];omega
 refine nt I.kIn O c.sa c.po n.taker c.hd wi hz λh' O' sb=>h _ ?_
 have hd:∃o,h'.get? dx=some o:=let⟨o,_,_,e',_⟩:=O'.ns;⟨o,e'⟩;refine I.write (x:=a) (e:=dx) (by rw[e];exact True.intro) (.inr ho) (λb q hb z=>(sb.2 b hb).trans z) hd ?_;refine⟨by rw[upd_ne O.ne];exact ho,?_,O.ne,O'.obj,_,O'.ns,λg=>?_,λg hg=>?_⟩
 ·have:=iU f y fs;omega
 ·show RelO ((aM f y fs).lookup g) (if g=f then some u else mA g);rw[bc];by_cases q:g=f
  ·rw[if_pos q,if_pos q];exact ry
  ·rw[if_neg q,if_neg q];exact r g
 ·by_cases q:g=f
  ·rw[q];exact(iV f y fs).1
  ·refine(iV f y fs).2 g (wi g λz=>hg ?_);show(if g=f then some u else mA g)=none;rw[if_neg q];exact z
theorem Inv.made(I:Inv X pins σ H s):Inv X pins σ (upd (upd H s.heap.objs.size (.own (s.heap.objs.size+1))) (s.heap.objs.size+1) (.ins C s.heap.objs.size []))
 { s with heap:=(s.heap.push PySem.W.emptyDict).push (PySem.W.instObj C s.heap.objs.size) }:=by
 have e1:(s.heap.push PySem.W.emptyDict).get? s.heap.objs.size=some PySem.W.emptyDict:=Heap.get?_push_size s.heap rfl
 have e2:((s.heap.push PySem.W.emptyDict).push (PySem.W.instObj C s.heap.objs.size)).get? (s.heap.objs.size+1)=some (PySem.W.instObj C s.heap.objs.size):=by
  have:=Heap.get?_push_size (s.heap.push PySem.W.emptyDict) (o:=PySem.W.instObj C s.heap.objs.size) rfl
  rwa [Heap.size_push]at this
 have e3:(s.heap.push PySem.W.emptyDict).Ns s.heap.objs.size (λ_=>none):=⟨PySem.W.emptyDict,#[],_,e1,rfl,(λe he=>absurd he (by simp)),λ_=>rfl⟩;have I1:=I.laid (a:=s.heap.objs.size) (o:=.own (s.heap.objs.size+1)) (h':=s.heap.push PySem.W.emptyDict) (t':=s.toks) (λb u q=>Heap.get?_push_of_some _ q) (vJ _) ⟨_,e1⟩;refine I1.laid (a:=s.heap.objs.size+1) (o:=.ins C s.heap.objs.size []) (t':=s.toks) (λb u q=>Heap.get?_push_of_some _ q) (wa (Heap.size_push _ _)) ?_;have ne:s.heap.objs.size≠s.heap.objs.size+1:=vP (wo _);refine⟨by rw[upd_ne ne,ai],vT _,ne,e2,λ_=>none,(Heap.Ns1.of_empty e3).at λo q=>Heap.get?_push_of_some _ q,λ_=>True.intro,λy hy=>absurd rfl hy⟩
theorem md{prog:Program}{w:World}{env:Env}{e:Expr}{f:Str}{pos:Pos}{s:Shared}{Q:Value->Shared->Prop}(hb:attributeBase e f env (eval e env)=eval e env)
 (h:wpAny (model prog w) A (eval e env) (λo s₁=>wpAny (model prog w) A (getAttr o f true) Q E s₁) E s):wpAny (model prog w) A (eval (.Attribute e f pos) env) Q E s :=
 Attribute_any_ h (by rw[arm_eval_Attribute,hb])
end
def jK(K:PySem.W.Frag)(ta:TE)(f:Str):TE:=λσ H Q=>ta σ H λx H1=>∃a C dx fs v,x=.ref a/\H1 a=some (.ins C dx fs)/\Cls K C/\NoAttr K C f/\fs.lookup f=some v/\Q v H1
def nM(K:PySem.W.Frag)(ta tv:TE)(f:Str):TS:=λD σ H=>tv σ H λy H1=>ta σ H1 λx H2=>∃a C dx fs,x=.ref a/\H2 a=some (.ins C dx fs)/\Cls K C/\NoAttr K C f/\fs.length<1000 /\
 D.nx σ (upd H2 a (.ins C dx (aM f y fs)))
section
variable {X:Cx}{o e value:Expr}{f:Str}{pos pos' tpos:Pos}{ta tv:TE}
theorem oC(he:PE X e ta)(hb:attributeBase e f X.env (eval e X.env)=eval e X.env):PE X (.Attribute e f pos) (jK X.K ta f):=by intro pins s σ H Q I h;refine md hb (thn (he pins s σ H _ I h) λu s1 ⟨x,H1,I1,rx,a,C,dx,fs,v,ex,ea,c,n,l,q⟩=>?_);subst ex;obtain rfl:u=Value.ref a:=rx;exact rK I1 ea c n l λu' s2 I2 ru=>⟨v,H1,I2,ru,q⟩
theorem d6(ha:PE X o ta)(hv:PE X value tv)(hs:swapsWith value (some (.Attribute o f pos')) pos.line X.env=pure false):PS X (.Assign [.Attribute o f pos'] value pos) (nM X.K ta tv f):=by intro pins s σ H D I h;refine plainObj_wpAny_Assign_Attribute (thn (hv pins s σ H _ I h) λu s1 ⟨y,H1,I1,ry,q⟩=>thn (ha pins s1 σ H1 _ I1 q) λov s2 ⟨x,H2,I2,rx,a,C,dx,fs,ex,ea,c,n,l,q2⟩=>?_) hs;subst ex;obtain rfl:ov=Value.ref a:=rx;exact nr I2 ea c n l ry λs3 I3=>⟨σ,_,I3,q2⟩
end
section
variable {X:Cx}{pins:List (Addr×Obj)}{σ:St}{H:Hp}{s:Shared}{A:Around}{E:Value->Shared->Prop}{Q:Value->Shared->Prop}{c:Value}{b:Bool}
inductive TyOf(K:PySem.W.Frag)(H:Hp):V->Value->Prop where
 |non:TyOf K H .non (.type "NoneType")
 |bl (x:Bool):TyOf K H (.bl x) (.type "bool")
 |int (i:Int):TyOf K H (.int i) (.type "int")
 |str (x:Str):TyOf K H (.str x) (.type "str")
 |flt (x:UInt64):TyOf K H (.flt x) (.type "float")
 |lst {a:Addr} {xs:List V} (e:H a=some (.lst xs)):TyOf K H (.ref a) (.type "list")
 |frz {a:Addr} {o:Obj} {xs:List V} (e:H a=some (.frz o (.lst xs))):TyOf K H (.ref a) (.type "list")
 |tup {a:Addr} {xs:List V} (e:H a=some (.tup xs)):TyOf K H (.ref a) (.type "tuple")
 |dK {a:Addr} {kvs:List (Key×V)} (e:H a=some (.dK kvs)):TyOf K H (.ref a) (.type "dict")
 |dT {a:Addr} {kvs:List (List Key×V)} (e:H a=some (.dT kvs)):TyOf K H (.ref a) (.type "dict")
 |ins {a C dx:Addr} {fs:List (Str×V)} (e:H a=some (.ins C dx fs)) (cl:Cls K C) (ha:PySem.W.findIn K (.ref C) "__class__"=some (some (.builtin "object.__class__")))
  (hn:PySem.W.specialIn K (.builtin "object.__class__") "__get__"=some (some (.builtin "getset_descriptor.__get__"))) (htk:PySem.W.takesIn K (.builtin "object.__class__")=some true)
  (hm:PySem.W.mroIn K C (.type "object")=some true):TyOf K H (.ref a) (.ref C)
theorem rk{x:V}{u t:Value}(I:Inv X pins σ H s)(rx:RelV x u)(ty:TyOf X.K H x t)(e:PySem.W.kitOne X.K t c=some b)(h:∀tk,Q (.bool b) { s with toks:=tk }) :
 wpAny (model X.prog X.w) A (call (.builtin "isinstance") [u,c]) Q E s:=by
 cases ty with
 |non=>cases(show u=Value.none from rx);exact PySem.W.kia_one PySem.W.kitx_none I.kIn True.intro e (λz=>nomatch z) h
 |bl y=>cases(show u=Value.bool y from rx);exact PySem.W.kia_one PySem.W.kitx_bool I.kIn True.intro e (λz=>nomatch z) h
 |int i=>obtain⟨t,q⟩:=(show ∃t,u=Value.int i t from rx);cases q;exact PySem.W.kia_one PySem.W.kitx_int I.kIn True.intro e (λz=>nomatch z) h
 |str y=>obtain⟨t,q⟩:=(show ∃t,u=Value.str y t from rx);cases q;exact PySem.W.kia_one PySem.W.kitx_str I.kIn True.intro e (λz=>nomatch z) h
 |flt y=>obtain⟨t,q⟩:=(show ∃t,u=Value.float y t from rx);cases q;exact PySem.W.kia_one PySem.W.kitx_float I.kIn True.intro e (λz=>nomatch z) h
 | @lst a xs ea =>cases(show u=Value.ref a from rx);obtain⟨_,_,n,_,h1⟩:=(show ObjOk X.prog X.w H s.heap a (.lst xs)from I.hok a _ ea);exact PySem.W.kia_one PySem.W.kitx_list I.kIn ⟨_,h1,rfl⟩ e (λz=>nomatch z) h
 | @frz a ob xs ea =>cases(show u=Value.ref a from rx);obtain⟨_,_,_,n,_,h1⟩:=(show ObjOk X.prog X.w H s.heap a (.frz ob (.lst xs))from I.hok a _ ea);exact PySem.W.kia_one PySem.W.kitx_list I.kIn ⟨_,h1,rfl⟩ e (λz=>nomatch z) h
 | @tup a xs ea =>cases(show u=Value.ref a from rx);obtain⟨_,_,_,p⟩:=(show ObjOk X.prog X.w H s.heap a (.tup xs)from I.hok a _ ea);obtain⟨o,h1,h2,_⟩:=p;exact PySem.W.kia_one PySem.W.kitx_tuple I.kIn ⟨o,h1,h2⟩ e (λz=>nomatch z) h
 | @dK a kvs ea =>cases(show u=Value.ref a from rx);obtain⟨_,_,vs,_,p⟩:=(show ObjOk X.prog X.w H s.heap a (.dK kvs)from I.hok a _ ea);obtain⟨o,es,ep,h1,h2,_⟩:=p;exact PySem.W.kia_one PySem.W.kitx_dict I.kIn ⟨o,h1,h2.1⟩ e (λz=>nomatch z) h
 | @dT a kvs ea =>cases(show u=Value.ref a from rx);obtain⟨_,_,xs,_,o,es,ep,h1,h2,_⟩:=(show ObjOk X.prog X.w H s.heap a (.dT kvs)from I.hok a _ ea);exact PySem.W.kia_one PySem.W.kitx_dict I.kIn ⟨o,h1,h2.1⟩ e (λz=>nomatch z) h
 | @ins a C dx fs ea cl ha hn htk hm =>cases(show u=Value.ref a from rx);obtain⟨mA,O,_⟩:=gs I.hok ea;obtain⟨od,J,_⟩:=O.look;exact PySem.W.kia_one (PySem.W.kitx_own (cl.get _) cl.hd ha hn htk hm) I.kIn J e (λz=>nomatch z) h
end
structure Room(k:Nat)(A:Around):Prop where
 hd:A.handled=none
 dp:A.depth+3*k+5<recursionLimit
 un:A.units+16*k+200<cLine
theorem Room.mono{j k:Nat}{A:Around}(r:Room k A)(h:j<=k:=by decide):Room j A:=⟨r.hd,by have:=r.dp;omega,by have:=r.un;omega⟩
theorem Room.deeper{k:Nat}{A:Around}(r:Room (k+1) A)(env:Env):Room k (A.deeper env) :=
 ⟨r.hd,by have:=r.dp;show A.depth+1+3*k+5<_;omega,by have:=r.un;show A.units+3+16*k+200<_;omega⟩
theorem Room.in1{k:Nat}{A:Around}(r:Room (k+1) A):Room k A.in1 :=
 ⟨r.hd,by have:=r.dp;show A.depth+3*k+5<_;omega,by have:=r.un;show A.units+1+16*k+200<_;omega⟩
theorem qj{A:Around}{C:Addr}{us:List Value}{kw:List (Str×Value)}:(A.under (.builtin "type.__call__" ⟨.ref C::us,kw⟩)).depth=A.depth+1:=by first |rfl |simp[Around.under,Code.weight,Code.isCreation,Code.isGuard,Code.isCaller,Code.frames,Code.isFrame,guardIds]
theorem qh{A:Around}{C:Addr}{us:List Value}{kw:List (Str×Value)}:(A.under (.builtin "type.__call__" ⟨.ref C::us,kw⟩)).units=A.units+1:=by first |rfl |simp[Around.under,Code.cUnits,Code.frames,Code.isFrame]
theorem Room.make{k:Nat}{A:Around}(r:Room (k+1) A)(C:Addr)(us:List Value)(kw:List (Str×Value)):Room k (A.under (.builtin "type.__call__" ⟨.ref C::us,kw⟩)) :=
 ⟨r.hd,by have:=r.dp;rw[qj];omega,by have:=r.un;rw[qh];omega⟩
theorem Room.depth{k:Nat}{A:Around}(r:Room k A):A.depth<recursionLimit:=by have:=r.dp;omega
theorem Room.units{k:Nat}{A:Around}(r:Room k A):A.units+64<cLine:=by have:=r.un;omega
def eB:TA:=λ_ H Q=>Q [] H
def cD(ta:TE)(tr:TA):TA:=λσ H Q=>ta σ H λx H1=>tr σ H1 λxs H2=>Q (x::xs) H2
section
variable {X:Cx}{e:Expr}{es:List Expr}{te:TE}{t:TA}{pos:Pos}
theorem ac:PA X [] eB:=λ_ _ _ _ H Q I h=>Calls.spliced_nil ⟨[],H,I,.nil,h⟩
theorem aa(ha:PE X e te)(hr:PA X es t)(hs:starEach (e::es) X.env=(false,eval e X.env)::starEach es X.env:=by rfl):PA X (e::es) (cD te t):=by intro pos pins s σ H Q I h;rw[hs];show wpAny _ _ (spliced ((false,eval e X.env)::backTo pos (starEach es X.env))) _ _ s;refine Calls.spliced_cons (thn (ha pins s σ H _ I h) λu s1 ⟨x,H1,I1,r1,q1⟩=>?_);exact thn (hr pos pins s1 σ H1 _ I1 q1) λus s2 ⟨xs,H2,I2,r2,q2⟩=>⟨x::xs,H2,I2,.cons r1 r2,q2⟩
def fN(t:TA):TE:=λσ H Q=>t σ H λxs H1=>xs.length<=sizeLine/\∀p,H1 p=none->Q (.ref p) (upd H1 p (.tup xs))
def eC(t:TA):TE:=λσ H Q=>t σ H λxs H1=>xs.length<=sizeLine/\∀p,H1 p=none->Q (.ref p) (upd H1 p (.lst xs))
theorem bv{x1}(h:PA X es t):PE X (.Tuple es x1 pos) (fN t):=by intro pins s σ H Q I hq;refine wpAny_Tuple_spliced (thn (h pos pins s σ H _ I hq) λus s1 ⟨xs,H1,I1,r,z,q⟩=>⟨by rw[<- r.length];exact z,?_⟩);have hf:H1 s1.heap.objs.size=none:=I1.hok.fresh (vJ _);refine⟨.ref s1.heap.objs.size,upd H1 s1.heap.objs.size (.tup xs),I1.laid (t':=s1.toks) (λb u e=>Heap.get?_push_of_some _ e) (vJ _) ?_,rfl,q _ hf⟩;exact⟨z,us,r,⟨_,Heap.get?_push_size _ rfl,rfl,_,rfl⟩⟩
theorem aN(h:PA X es t):PE X (.List es pos) (eC t):=by intro pins s σ H Q I hq;refine wpAny_List_spliced (thn (h pos pins s σ H _ I hq) λus s1 ⟨xs,H1,I1,r,z,q⟩=>⟨by rw[<- r.length];exact z,?_⟩);have hf:H1 s1.heap.objs.size=none:=I1.hok.fresh (vJ _);refine⟨.ref s1.heap.objs.size,upd H1 s1.heap.objs.size (.lst xs),I1.laid (t':=s1.toks) (λb u e=>Heap.get?_push_of_some _ e) (vJ _) ?_,rfl,q _ hf⟩;exact⟨z,us,0,r,Heap.get?_push_size _ rfl⟩
end
abbrev Sp:=List V->Hp->VK->XK->Prop
abbrev CXT:=List Env->Hp->Shared->XK->Value->Shared->Prop
structure Env0(P:Program)(w:World)(K:PySem.W.Frag)(mg:Str->Option Value)(base:Heap)(A:Around)(outer:List Env)(s:Shared)(H:Hp):Prop where
 frames:A.frames=some outer
 mod:Mod K mg base
 bs:∀b o,base.get? b=some o->s.heap.get? b=some o/\H b=none
 bsz:base.objs.size<=s.heap.objs.size
 funs:s.heap.FunFrames base outer
 frf:∀b∈frs outer,H b=none
 hok:HOk P w H s.heap
 bare:AllBare s.gens
noncomputable def CE(outer:List Env)(P:Program)(w:World)(H:Hp)(s:Shared)(Q:VK)(u:Value)(s':Shared):Prop :=
 ∃v H',s'.os=s.os/\AllBare s'.gens/\Un (frs outer) [] H H' s.heap s'.heap/\HOk P w H' s'.heap/\RelV v u/\Q v H'
noncomputable def CR(CX:CXT)(outer:List Env)(P:Program)(w:World)(H:Hp)(s:Shared)(Q:VK)(E:XK)(r:Result)(s':Shared):Prop :=
 match r with
 |.ok (.ret u)=>CE outer P w H s Q u s'
 |.ok _=>False
 |.error e=>CX outer H s E e s'
structure FnOk(P:Program)(w:World)(K:PySem.W.Frag)(mg:Str->Option Value)(base:Heap)(CX:CXT)(k:Nat)(f:Addr)(fd:FuncData)(ps:List Str)(sp:Sp):Prop where
 len:∀vs H Q E,sp vs H Q E->vs.length=ps.length
 run:∀(A:Around) (outer:List Env) (s:Shared) (H:Hp) (args:Args) (us:List Value) (vs:List V) (Q:VK) (E:XK),Room k A->Env0 P w K mg base A outer s H->BindsTo s fd args (ps.zip us)->Vals vs us->sp vs H Q E ->
  codeAny (model P w) A (.call (.ref f) args) (CR CX outer P w H s Q E) s
theorem FnOk.mono{P:Program}{w:World}{K:PySem.W.Frag}{mg:Str->Option Value}{base:Heap}{CX:CXT}{j k:Nat}{f:Addr}{fd:FuncData}{ps:List Str}{sp:Sp}(F:FnOk P w K mg base CX j f fd ps sp)(h:j<=k:=by decide) :
 FnOk P w K mg base CX k f fd ps sp:=⟨F.len,λA outer s H args us vs Q E hr=>F.run A outer s H args us vs Q E (hr.mono h)⟩
theorem Env0.make{P:Program}{w:World}{K:PySem.W.Frag}{mg:Str->Option Value}{base:Heap}{A:Around}{outer:List Env}{s:Shared}{H:Hp}(e:Env0 P w K mg base A outer s H)(C:Addr)(us:List Value)(kw:List (Str×Value)) :
 Env0 P w K mg base (A.under (.builtin "type.__call__" ⟨.ref C::us,kw⟩)) outer s H:=⟨by first |exact e.frames | (simpa[Around.under,Code.envs,Code.isFrame,pushEnvs]using e.frames),e.mod,e.bs,e.bsz,e.funs,e.frf,e.hok,e.bare⟩
section
variable {X:Cx}{pins:List (Addr×Obj)}{σ:St}{H:Hp}{s s':Shared}
theorem Inv.env0(I:Inv X pins σ H s):Env0 X.prog X.w X.K X.mg X.base X.A X.stack s H :=
 ⟨I.ok.frames,I.ok.mod,I.bs,vQ I.ok.bsz I.sz,I.stack,I.stkFree,I.hok,I.bare⟩
theorem Inv.after{Q:VK}{u:Value}(I:Inv X pins σ H s)(h:CE X.stack X.prog X.w H s Q u s'):EP X pins σ Q u s':=by obtain⟨v,H',os,bare,un,hok,r,q⟩:=h;obtain⟨hh,g,d,t,os'⟩:=s';obtain rfl:os'=s.os:=os;exact⟨v,H',I.call (h':=hh) (g':=g) (d':=d) (t':=t) (ch:=[]) un hok bare (λb z=>absurd z (by simp)),r,q⟩
end
def gM(sp:Sp)(dvs:List V)(E:XK)(t:TA):TE:=λσ H Q=>t σ H λvs H1=>sp (vs++dvs) H1 Q E
def jJ(C:Addr)(m:Str)(sp:Sp)(dvs:List V)(E:XK)(ta:TE)(t:TA):TE:=λσ H Q=>ta σ H λx H1=>∃a dx fs,x=.ref a/\H1 a=some (.ins C dx fs)/\fs.lookup m=none /\
 t σ H1 λvs H2=>sp (x::(vs++dvs)) H2 Q E
def mX(C:Addr)(sp:Sp)(dvs:List V)(E:XK)(t:TA):TE:=λσ H Q=>t σ H λvs H1=>∀x dx,H1 x=none->H1 dx=none->dx≠x ->
 sp (.ref x::(vs++dvs)) (upd (upd H1 dx (.own x)) x (.ins C dx [])) (λv H2=>v=.non/\Q (.ref x) H2) E
noncomputable def Binds(K:PySem.W.Frag)(fd:FuncData)(ps:List Str)(ds:List Value):Prop :=
 ∀(s:Shared) (us:List Value),K.In s.heap->(us++ds).length=ps.length->BindsTo s fd ⟨us,[]⟩ (ps.zip (us++ds))
theorem Binds.all{K:PySem.W.Frag}{fd:FuncData}{ps:List Str}(h:∀us:List Value,us.length=ps.length->bindArgs fd ⟨us,[]⟩=pure (ps.zip us)):Binds K fd ps []:=λs us _ hl=>by rw[v7]at hl ⊢;exact .of_eq (h us hl)
def cc(CX:CXT)(X:Cx)(E:XK):Prop:=∀(pins:List (Addr×Obj)) (σ:St) (H:Hp) (s:Shared) (e:Value) (s':Shared),Inv X pins σ H s->CX X.stack H s E e s'->X.xe e s'
section
variable {X:Cx}{CX:CXT}{k:Nat}{f C:Addr}{fd:FuncData}{ps:List Str}{sp:Sp}{dvs:List V}{ds:List Value}{E:XK}{x m:Str}{p pos apos:Pos}{e o:Expr}{es:List Expr}{ta:TE}{t:TA}
theorem ii{pins:List (Addr×Obj)}{σ:St}{H:Hp}{s:Shared}{Q:VK}{us:List Value}{vs:List V}(F:FnOk X.prog X.w X.K X.mg X.base CX k f fd ps sp)(hr:Room k X.A)(hb:Binds X.K fd ps ds)(hd:Vals dvs ds)(hx:cc CX X E)
 (I:Inv X pins σ H s) (r:Vals vs us) (h:sp (vs++dvs) H Q E):wpAny (model X.prog X.w) X.A (call (.ref f) us) (EP X pins σ Q) X.xe s:=by
 have r2:Vals (vs++dvs) (us++ds):=r.append hd;have hl:(us++ds).length=ps.length:=by rw[<- r2.length];exact F.len _ _ _ _ h
 refine wpAny_call (codeAny_mono (F.run X.A X.stack s H ⟨us,[]⟩ (us++ds) (vs++dvs) Q E hr I.env0 (hb s us I.kIn hl) r2 h) λr s' hq=>?_);cases r with
 |error e=>exact hx pins σ H s e s' I hq
 |ok fl =>
  cases fl with
  |ret u=>exact I.after hq
  |next=>exact False.elim hq
  |brk=>exact False.elim hq
  |cont=>exact False.elim hq
theorem aB(F:FnOk X.prog X.w X.K X.mg X.base CX k f fd ps sp)(hr:Room k X.A)(hg:Gl X x)(hm:X.mg x=some (.ref f))(hk:PySem.W.keepIn X.K (.ref f)=true)(hb:Binds X.K fd ps ds)(hd:Vals dvs ds)(hx:cc CX X E)
 (ha:PA X (e::es) t) (hdb:(x == ("__debug__":Str))=false:=by decide) (he:starEach (e::es) X.env=(false,eval e X.env)::starEach es X.env:=by rfl) (hpl:(backTo pos (starEach es X.env)).any (·.1)=false:=by rfl) :
 PE X (.Call (.Name x p) (e::es) [] pos) (gM sp dvs E t):=by
 intro pins s σ H Q I h;refine wpAny_Call_Name_kw (cT I hg hm ?_ hdb);refine PySem.W.callWith_K (h₀:=X.base) I.ok.mod.kin hk (thn (ha pos pins s σ H _ I h) λus s1 ⟨vs,H1,I1,r,q⟩=>⟨I1.kIn,?_⟩) he hpl;exact ii F hr hb hd hx I1 r q
theorem eW{pl:Sem Bool}(he:PE X o ta)(c:Cls X.K C)(hm:Meth X.K C m f)(F:FnOk X.prog X.w X.K X.mg X.base CX k f fd ps sp)(hr:Room k X.A)(hb:Binds X.K fd ps ds)(hd:Vals dvs ds)(hx:cc CX X E)(ha:PA X (e::es) t)
 (hst:starEach (e::es) X.env=(false,eval e X.env)::starEach es X.env:=by rfl) (hpl:(backTo pos (starEach es X.env)).any (·.1)=false:=by rfl)
 (ht:eval (.Call (.Attribute o m apos) (e::es) [] pos) X.env=(do
   let ov <- eval o X.env
   standAt apos.atName
   let(f,first) <- holding [ov] (getMethod ov m pl)
   callWith pos f first (backTo pos (starEach (e::es) X.env)) (backToKw pos (keywordEach [] X.env))):=by rfl) :
 PE X (.Call (.Attribute o m apos) (e::es) [] pos) (jJ C m sp dvs E ta t):=by
 intro pins s σ H Q I h;refine PySem.W.methodCall_KW (pl:=pl) (thn (he pins s σ H _ I h) λu s1 ⟨x,H1,I1,rx,a,dx,fs,ex,ea,l,q⟩=>?_) ht;subst ex;obtain rfl:u=Value.ref a:=rx;refine lm I1 ea c hm l ?_;refine PySem.W.callWith_K (first:=[.ref a]) (h₀:=X.base) I.ok.mod.kin hm.kp (thn (ha pos pins s1 σ H1 _ I1 q) λus s2 ⟨vs,H2,I2,r,q2⟩=>⟨I2.kIn,?_⟩) hst hpl;exact ii (us:=.ref a::us) (vs:=.ref a::vs) F hr hb hd hx I2 (.cons rfl r) q2
theorem bx{pl:Sem Bool}(he:PE X o ta)(c:Cls X.K C)(hm:Meth X.K C m f)(F:FnOk X.prog X.w X.K X.mg X.base CX k f fd ps sp)(hr:Room k X.A)(hb:Binds X.K fd ps ds)(hd:Vals dvs ds)(hx:cc CX X E)
 (ht:eval (.Call (.Attribute o m apos) [] [] pos) X.env=(do
   let ov <- eval o X.env
   standAt apos.atName
   let(f,first) <- holding [ov] (getMethod ov m pl)
   callWith pos f first (backTo pos (starEach [] X.env)) (backToKw pos (keywordEach [] X.env))):=by rfl) :
 PE X (.Call (.Attribute o m apos) [] [] pos) (jJ C m sp dvs E ta eB):=by
 intro pins s σ H Q I h;refine PySem.W.methodCall_KW (pl:=pl) (thn (he pins s σ H _ I h) λu s1 ⟨x,H1,I1,rx,a,dx,fs,ex,ea,l,q⟩=>?_) ht;subst ex;obtain rfl:u=Value.ref a:=rx;refine lm I1 ea c hm l ?_;exact PySem.W.callWith_K0 (first:=[.ref a]) I1.kIn hm.kp (ii (us:=[.ref a]) (vs:=[.ref a]) F hr hb hd hx I1 (.cons rfl .nil) q)
structure Mk(K:PySem.W.Frag)(C f:Addr):Prop where
 makes:PySem.W.makesIn K C=true
 init:PySem.W.findIn K (.ref C) "__init__"=some (some (.ref f))
 fn:PySem.W.isFn K (.ref f)=true
 kp:PySem.W.keepIn K (.ref C)=true
theorem nN{pins:List (Addr×Obj)}{σ:St}{H:Hp}{s:Shared}{Q:VK}{us:List Value}{vs:List V}(M:Mk X.K C f)(F:FnOk X.prog X.w X.K X.mg X.base CX k f fd ps sp)(hr:Room (k+1) X.A)(hb:Binds X.K fd ps ds)(hd:Vals dvs ds)
 (hx:cc CX X E) (I:Inv X pins σ H s) (r:Vals vs us)
 (h:∀x dx,H x=none->H dx=none->dx≠x->sp (.ref x::(vs++dvs)) (upd (upd H dx (.own x)) x (.ins C dx [])) (λv H2=>v=.non/\Q (.ref x) H2) E) :
 wpAny (model X.prog X.w) X.A (call (.ref C) us) (EP X pins σ Q) X.xe s:=by
 have hq:=h (s.heap.objs.size+1) s.heap.objs.size (I.hok.fresh (Nat.le_succ _)) (I.hok.fresh (vJ _)) (vP (wo _));have I2:=Inv.made (C:=C) I;have r2:Vals (V.ref (s.heap.objs.size+1)::(vs++dvs)) (Value.ref (s.heap.objs.size+1)::(us++ds)):=.cons rfl (r.append hd)
 have hl:(Value.ref (s.heap.objs.size+1)::us++ds).length=ps.length:=by have e:=r2.length;rw[F.len _ _ _ _ hq]at e;exact e.symm
 refine wpAny_call (qi (f:=f) I.kIn M.makes M.init (beq_iff_eq.mp M.fn) (codeAny_mono (F.run _ X.stack _ _ ⟨Value.ref (s.heap.objs.size+1)::us,[]⟩ (Value.ref (s.heap.objs.size+1)::(us++ds)) _ _ E (hr.make C us [])
  (I2.env0.make C us []) (hb _ (Value.ref (s.heap.objs.size+1)::us) I2.kIn hl) r2 hq) λr s' hq'=>?_))
 cases r with
 |error e=>exact hx pins σ _ _ e s' I2 hq'
 |ok fl =>
  cases fl with
  |ret u =>obtain⟨v,H',I3,rv,ev,q3⟩:=I2.after hq';subst ev;exact⟨rv,⟨V.ref (s.heap.objs.size+1),H',I3,rfl,q3⟩⟩
  |next=>exact False.elim hq'
  |brk=>exact False.elim hq'
  |cont=>exact False.elim hq'
theorem oB(M:Mk X.K C f)(F:FnOk X.prog X.w X.K X.mg X.base CX k f fd ps sp)(hr:Room (k+1) X.A)(hg:Gl X x)(hm:X.mg x=some (.ref C))(hb:Binds X.K fd ps ds)(hd:Vals dvs ds)(hx:cc CX X E)
 (ha:PA X (e::es) t) (hdb:(x == ("__debug__":Str))=false:=by decide) (he:starEach (e::es) X.env=(false,eval e X.env)::starEach es X.env:=by rfl) (hpl:(backTo pos (starEach es X.env)).any (·.1)=false:=by rfl) :
 PE X (.Call (.Name x p) (e::es) [] pos) (mX C sp dvs E t):=by
 intro pins s σ H Q I h;refine wpAny_Call_Name_kw (cT I hg hm ?_ hdb);refine PySem.W.callWith_K (h₀:=X.base) I.ok.mod.kin M.kp (thn (ha pos pins s σ H _ I h) λus s1 ⟨vs,H1,I1,r,q⟩=>⟨I1.kIn,?_⟩) he hpl;exact nN M F hr hb hd hx I1 r q
end
section
variable {X:Cx}{CX:CXT}{k:Nat}{f C:Addr}{fd:FuncData}{ps ks:List Str}{sp:Sp}{E:XK}{x m:Str}{p pos apos kpos:Pos}{e o:Expr}{es:List Expr}{kws:List Keyword}{te ta:TE}{t tk:TA}{nm:Option Str}
variable {g:List Value->List Value->List Value}{gV:List V->List V->List V}
end
structure FnScope(N P:List Str)(sc:Scope):Prop where
 kind:sc.kind=.function
 co:sc.isCoroutine=false
 gen:sc.isGenerator=false
 nd:N.Nodup
 pre:N.take P.length=P
 par:∀x∈P,sc.names.lookup x=some .local\/sc.names.lookup x=some .cell
 nofree:∀y∈sc.names,y.2≠.free
theorem lS{kindOf:Str->Option NameKind}{x:Str}:∀{binds:List (Str×Value)} {m:Str->Option Value},(∀v,(x,v)∉binds)->bindL kindOf binds m x=m x
 | [],_,_=>rfl
 | (n,v)::r,m,h=>by
  unfold bindL;rw[lS λw hw=>h w (v5 _ hw)];split
  ·have:x≠n:=by rintro rfl;exact h v wg
   simp[this]
  ·rfl
theorem lU{kindOf:Str->Option NameKind}{x:Str}:∀{binds:List (Str×Value)} {m:Str->Option Value},(∀v,(x,v)∉binds)->bindC kindOf binds m x=m x
 | [],_,_=>rfl
 | (n,v)::r,m,h=>by
  unfold bindC;rw[lU λw hw=>h w (v5 _ hw)];split
  ·rfl
  ·have:x≠n:=by rintro rfl;exact h v wg
   simp[this]
theorem lT{kindOf:Str->Option NameKind}{x:Str}{v:Value}:∀{P:List Str} {vs:List Value} {i:Nat} {m:Str->Option Value},P.Nodup->P[i]?=some x->vs[i]?=some v->kindOf x=some .local ->
 bindL kindOf (P.zip vs) m x=some v
 | [],_,_,_,_,h,_,_=>by simp at h
 |_::_,[],_,_,_,_,h,_=>by simp at h
 |p::P,w::vs,0,m,nd,h1,h2,hk=>by
  simp at h1 h2;subst h1;subst h2
  show bindL kindOf ((p,w)::P.zip vs) m p=_;unfold bindL;rw[lS λv hv=>(List.nodup_cons.mp nd).1 (List.of_mem_zip hv).1,if_pos hk];simp
 |p::P,w::vs,i+1,m,nd,h1,h2,hk=>by show bindL kindOf ((p,w)::P.zip vs) m x=_;unfold bindL;exact lT (i:=i) (List.nodup_cons.mp nd).2 (by simpa using h1) (by simpa using h2) hk
theorem lV{kindOf:Str->Option NameKind}{x:Str}{v:Value}:∀{P:List Str} {vs:List Value} {i:Nat} {m:Str->Option Value},P.Nodup->P[i]?=some x->vs[i]?=some v->kindOf x≠some .local ->
 bindC kindOf (P.zip vs) m x=some v
 | [],_,_,_,_,h,_,_=>by simp at h
 |_::_,[],_,_,_,_,h,_=>by simp at h
 |p::P,w::vs,0,m,nd,h1,h2,hk=>by
  simp at h1 h2;subst h1;subst h2
  show bindC kindOf ((p,w)::P.zip vs) m p=_;unfold bindC;rw[lU λv hv=>(List.nodup_cons.mp nd).1 (List.of_mem_zip hv).1,if_neg hk];simp
 |p::P,w::vs,i+1,m,nd,h1,h2,hk=>by show bindC kindOf ((p,w)::P.zip vs) m x=_;unfold bindC;exact lV (i:=i) (List.nodup_cons.mp nd).2 (by simpa using h1) (by simpa using h2) hk
noncomputable def start(N:List Str)(vs:List V):St:=vs.map some++List.replicate (N.length-vs.length) none
noncomputable def aJ(CX:CXT)(P:Program)(w:World)(K:PySem.W.Frag)(mg:Str->Option Value)(base:Heap)(N:List Str)(qual:Str)(scope:Scope)(f:Addr)(cd:Value)(A:Around)(outer:List Env)(s:Shared)(H:Hp)(E:XK):Cx where
 prog:=P
 w:=w
 K:=K
 mg:=mg
 base:=base
 A:=A.deeper (envOfC qual scope s.heap.objs.size f cd)
 N:=N
 s₀:=s
 H₀:=H
 env:=envOfC qual scope s.heap.objs.size f cd
 outer:=outer
 stack:=envOfC qual scope s.heap.objs.size f cd::outer
 ex:=[]
 calm:=true
 fn:=λ_=>true
 pn:=[]
 xe:=λe s'=>wpAny (model P w) (A.deeper (envOfC qual scope s.heap.objs.size f cd)) (leaving (envOfC qual scope s.heap.objs.size f cd) e) (λ_ s''=>CX outer H s E e s'') (λe' s''=>CX outer H s E e' s'') s'
theorem lN{sc:Scope}{n:Nat}{x:Str}(h:sc.names.lookup x=some .cell):∃c,(cellsFrom n sc.names []).lookup x=some c:=by have q:=PySem.W.cellsFrom_some sc.names n [] (.inl h);exact wq.mp q
theorem lb{CX:CXT}{P:Program}{w:World}{K:PySem.W.Frag}{mg:Str->Option Value}{base:Heap}{N ps:List Str}{qual:Str}{scope:Scope}{f:Addr}{cd:Value}{A:Around}{outer:List Env}{s s1:Shared}{H:Hp}{E:XK}{us:List Value}{vs:List V}
 (S:FnScope N ps scope) (hd:A.handled=none) (e0:Env0 P w K mg base A outer s H) (hl:vs.length=ps.length) (r:Vals vs us)
 (x:InCallC s s.heap.objs.size (bindL (envOfC qual scope s.heap.objs.size f cd).kindOf (ps.zip us) λ_=>none) (cellsFrom (s.heap.objs.size+1) scope.names []) (bindC (envOfC qual scope s.heap.objs.size f cd).kindOf (ps.zip us) λ_=>none) s1) :
 Inv (aJ CX P w K mg base N qual scope f cd A outer s H E) [] (start N vs) H s1:=by
 have hpl:ps.length<=N.length:=by have:=congrArg List.length S.pre;rw[wt]at this;omega
 obtain⟨h1,tk,rfl,hk⟩:=x.done;have noA:∀b:Addr,b∉(aJ CX P w K mg base N qual scope f cd A outer s H E).ex:=λb z=>absurd (show b∈([]:List Addr)from z) (by simp)
 refine⟨⟨e0.mod,S.kind,rfl,rfl,vJ _,λy z c h1 h2=>?_,λy hy=>?_,λy c _ h=>?_,λ_=>hd,Around.frames_deeper e0.frames,.inr ⟨rfl,rfl⟩,λb z=>absurd z (noA b),e0.bs,e0.bsz,λb _ _=>noA b,λb z=>absurd z (noA b),e0.funs,e0.frf⟩,
  rfl,e0.bare,Un.kept hk,⟨_,x.toInCall.ns,λi y v h1 h2 h3=>?_⟩,λy c h=>⟨_,x.cell y c h⟩,e0.hok.fresh (vJ _),λy c h=>?_,λp hp=>absurd (show p∈([]:List (Addr×Obj))from hp) (by simp),e0.hok.kept hk,?_⟩
 ·exact name_of_addr x.apart (PySem.mem_of_lookup h1) (PySem.mem_of_lookup h2)
 ·have hy:scope.names.lookup y=some .cell\/scope.names.lookup y=some .free:=hy;rcases hy with hy |hy
  ·exact lN hy
  ·exact absurd rfl (S.nofree _ (PySem.mem_of_lookup hy))
 ·exact Nat.le_of_lt (x.above y c (PySem.mem_of_lookup h))
 ·have hi:i<vs.length:=by
   unfold start at h2
   by_cases hi:i<vs.length
   ·exact hi
   ·rw[List.getElem?_append_right (by simpa using hi)]at h2;rw[List.getElem?_replicate]at h2;split at h2<;>cases h2
  have ha:vs[i]?=some v:=by
   unfold start at h2
   rw[List.getElem?_append_left (by simpa using hi),List.getElem?_map]at h2;cases e:vs[i]? with
   |none=>rw[e]at h2;cases h2
   |some a=>rw[e]at h2;cases h2;rfl
  obtain⟨u,hu,rv⟩:=r.get ha
  have hp:ps[i]?=some y:=by rw[<- S.pre,List.getElem?_take_of_lt (by omega)];exact h1
  have ndP:ps.Nodup:=by rw[<- S.pre];exact S.nd.sublist (List.take_sublist _ _)
  refine⟨u,rv,?_⟩;rcases S.par y (List.mem_of_getElem? hp)with k |k
  ·exact .inl ⟨k,lT ndP hp hu k⟩
  ·obtain⟨c,e⟩:=lN (n:=s.heap.objs.size+1) k;refine .inr ⟨.inl k,c,e,?_⟩;have q:=x.cell y c e;rw[lV ndP hp hu (by show scope.names.lookup y≠_;rw[k];decide)]at q;exact q
 ·exact e0.hok.fresh (Nat.le_of_lt (x.above y c (PySem.mem_of_lookup h)))
 ·unfold start;show _=N.length;rw[vM,vK,vR];omega
theorem gu{CX:CXT}{P:Program}{w:World}{K:PySem.W.Frag}{mg:Str->Option Value}{base:Heap}{k:Nat}{f:Addr}{name qual:Str}{params:Arguments}{body:List Stmt}{scope:Scope}{dV kV doc pm cdv ct oc:Value}{an od:Option Addr}
 {osl:Array (Option Value)} {N ps:List Str} {sp:Sp} (lk:K.lookup f=some ⟨oc,od,.func (PySem.W.fnOf name qual params body scope dV kV doc pm an cdv ct),osl⟩) (hcd:PySem.W.codeIn K cdv qual=true) (S:FnScope N ps scope)
 (len:∀vs H Q E,sp vs H Q E->vs.length=ps.length)
 (hbody:∀(A:Around) (outer:List Env) (s:Shared) (H:Hp) (vs:List V) (Q:VK) (E:XK),Room k (A.deeper (envOfC qual scope s.heap.objs.size f cdv))->sp vs H Q E ->
   ∃t,PSs (aJ CX P w K mg base N qual scope f cdv A outer s H E) body t/\t { nx:=λ_ H'=>Q .non H',rt:=Q } (start N vs) H) :
 FnOk P w K mg base CX (k+1) f (PySem.W.fnOf name qual params body scope dV kV doc pm an cdv ct) ps sp:=by
 refine⟨len,λA outer s H args us vs Q E hr e0 hb r hsp=>?_⟩;have hl:=len _ _ _ _ hsp;have KX:K.In s.heap:=e0.mod.kin.keeps λb o e=>(e0.bs b o e).1
 have lim:s.heap.NoLimit:=e0.mod.nolimit.keeps λb o e=>(e0.bs b o e).1
 have hkind:∀y∈ps.zip us,scope.names.lookup y.1=some .local\/(scope.names.lookup y.1=some .cell/\((cellsFrom (s.heap.objs.size+1) scope.names []).lookup y.1).isSome=true):=λ⟨n,v⟩ hy=>by
  rcases S.par n (List.of_mem_zip hy).1 with q |q
  ·exact .inl q
  ·exact .inr ⟨q,PySem.W.cellsFrom_some _ _ _ (.inl q)⟩
 refine codeAny_call_function hr.depth (KX _ _ lk) rfl S.co S.gen rfl (PySem.W.codeRec_of KX hcd) (hb _ _ _ _ ?_);refine wpAny_newFunctionEnv_cells S.kind hkind λenv he s1 x=>?_
 subst he;refine⟨lim.keeps x.toInCall.keep,codeAny_func ?_⟩;obtain⟨t,ht,hq⟩:=hbody A outer s H vs Q E (hr.deeper _) hsp;have I:Inv (aJ CX P w K mg base N qual scope f cdv A outer s H E) [] (start N vs) H s1:=lb S hr.hd e0 hl r x;refine wpAny_mono (ht [] s1 (start N vs) H _ I hq) (λfl s' hs=>?_) λe s' hs=>hs
 have fin:∀{σ':St} {H':Hp} {v:V} {u:Value},Inv (aJ CX P w K mg base N qual scope f cdv A outer s H E) [] σ' H' s'->RelV v u->Q v H'->CE outer P w H s Q u s' :=
  λ{σ' H' v u} J rv q=>⟨v,H',J.os,J.bare,J.base,J.hok,rv,q⟩
 cases fl with
 |ret u =>obtain⟨v,σ',H',J,rv,q⟩:=hs;exact fin J rv q
 |next =>obtain⟨σ',H',J,q⟩:=hs;exact fin (v:=V.non) (u:=Value.none) J rfl q
 |brk =>obtain⟨_,_,_,q⟩:=hs;exact False.elim q
 |cont =>obtain⟨_,_,_,q⟩:=hs;exact False.elim q
section
variable {X:Cx}{x:Str}{p pos:Pos}{e:Expr}{es:List Expr}{t:TA}{id T:String}{r:List V->Hp->VK->Prop}
def tCB(r:List V->Hp->VK->Prop)(t:TA):TE:=λσ H Q=>t σ H λvs H1=>r vs H1 Q
theorem aF(hc:bq X (.builtin id) r)(hg:Gl X x)(hm:X.mg x=none)(hv:bootBuiltins x=some (.builtin id))(ha:PA X (e::es) t)(hn:x≠"__name__":=by decide)(hdb:(x == ("__debug__":Str))=false:=by decide)
 (he:starEach (e::es) X.env=(false,eval e X.env)::starEach es X.env:=by rfl) (hpl:(backTo pos (starEach es X.env)).any (·.1)=false:=by rfl):PE X (.Call (.Name x p) (e::es) [] pos) (tCB r t):=by
 intro pins s σ H Q I h;refine wpAny_Call_Name_kw (gl I hg hm hv ?_ hn hdb);exact PyProof.Rows.callWith_builtin1 (thn (ha pos pins s σ H _ I h) λus s1 ⟨vs,H1,I1,r1,q1⟩=>hc pins s1 σ H1 vs us Q I1 r1 q1) he hpl
theorem bp(hc:bq X (.type T) r)(hg:Gl X x)(hm:X.mg x=none)(hv:bootBuiltins x=some (.type T))(ha:PA X (e::es) t)(hn:x≠"__name__":=by decide)(hdb:(x == ("__debug__":Str))=false:=by decide)
 (he:starEach (e::es) X.env=(false,eval e X.env)::starEach es X.env:=by rfl) (hpl:(backTo pos (starEach es X.env)).any (·.1)=false:=by rfl):PE X (.Call (.Name x p) (e::es) [] pos) (tCB r t):=by
 intro pins s σ H Q I h;refine wpAny_Call_Name_kw (gl I hg hm hv ?_ hn hdb);exact PyProof.Rows.callWith_type1 (thn (ha pos pins s σ H _ I h) λus s1 ⟨vs,H1,I1,r1,q1⟩=>hc pins s1 σ H1 vs us Q I1 r1 q1) he hpl
end
end L2
namespace HT
open PySem PyProof.Rows
section
open PySem.SeqAt
open PySem.AutoSeq1 (wpAny_loadPart')
open PySem.MeetsSeq PySem.MeetsSeq2 PySem.MeetsSeq3
end
section
variable {prog:Program}{w:World}{A:Around}{E:Value->Shared->Prop}{s:Shared}
noncomputable def sIx(n d:Nat):Option Int->Nat
 |none=>d
 |some v=>if v<0 then(v+(n:Int)).toNat else min v.toNat n
theorem sIx_none(n d:Nat):sIx n d none=d:=rfl
theorem sIx_nat(n d k:Nat):sIx n d (some (k:Int))=min k n:=by show(if(k:Int)<0 then((k:Int)+(n:Int)).toNat else min (k:Int).toNat n)=min k n;rw[if_neg (by omega),wj]
end
end HT
namespace L2
open PySem PySem.Spec PyProof.Rows
abbrev TO:=St->Hp->(Option Int->Hp->Prop)->Prop
noncomputable def PO(X:Cx)(e:Option Expr)(t:TO):Prop :=
 ∀(pins:List (Addr×Obj)) (s:Shared) (σ:St) (H:Hp) (Q:Option Int->Hp->Prop),Inv X pins σ H s->t σ H Q ->
  wpAny (model X.prog X.w) X.A (evalPart e X.env) (λu s'=>∃o H',Inv X pins σ H' s'/\IsPart u o/\Q o H') X.xe s
noncomputable def mW:TO:=λ_ H Q=>Q none H
noncomputable def mV(t:TE):TO:=λσ H Q=>t σ H λx H1=>∃i,x=.int i/\Q (some i) H1
section
variable {X:Cx}{e:Expr}{te:TE}{lo hi:Option Expr}{tl th:TO}{pos p2:Pos}
theorem jW:PO X none mW:=by intro pins s σ H Q I h;rw[evalPart_none];exact wpAny_pure ⟨none,H,I,.none,h⟩
theorem cp(h:PE X e te):PO X (some e) (mV te):=by
 intro pins s σ H Q I hw;rw[evalPart_some];refine thn (h pins s σ H _ I hw) λu s1 ⟨x,H1,I1,r1,q1⟩=>?_
 obtain⟨i,rfl,q⟩:=q1;obtain⟨t,rfl⟩:=r1;exact⟨some i,H1,I1,.int i t,q⟩
noncomputable def SlR(X:Cx)(r:V->Option Int->Option Int->Hp->VK->Prop):Prop :=
 ∀(pins:List (Addr×Obj)) (s:Shared) (σ:St) (H:Hp) (x:V) (v vl vu:Value) (lo hi:Option Int) (sl:Addr) (Q:VK),Inv X pins σ H s->RelV x v->s.heap.IsSliceOf sl vl vu .none->IsPart vl lo->IsPart vu hi->r x lo hi H Q ->
  ∃T id,typeLookup (.type T) "__getitem__"=pure (some (.builtin id))/\s.TypeIs v T/\wpAny (model X.prog X.w) X.A (getItem v (.ref sl)) (EP X pins σ Q) X.xe s
def tSl(r:V->Option Int->Option Int->Hp->VK->Prop)(te:TE)(tl th:TO):TE:=λσ H Q=>te σ H λx H1=>tl σ H1 λl H2=>th σ H2 λu H3=>r x l u H3 Q
theorem eV{r:V->Option Int->Option Int->Hp->VK->Prop}(hr:SlR X r)(he:PE X e te)(hl:PO X lo tl)(hu:PO X hi th):PE X (.Subscript e (.Slice lo hi none p2) pos) (tSl r te tl th):=by
 intro pins s σ H Q I h;refine Subscript_ (thn (he pins s σ H _ I h) λv s1 ⟨x,H1,I1,r1,q1⟩=>?_);refine wpAny_Slice (thn (hl pins s1 σ H1 _ I1 q1) λvl s2 ⟨l,H2,I2,pl,q2⟩=>thn (hu pins s2 σ H2 _ I2 q2) λvu s3 ⟨u,H3,I3,pu,q3⟩=>?_);rw[evalPart_none];refine wpAny_pure ?_;have I4:Inv X pins σ H3 { s3 with heap:=s3.heap.push { cls:=.type "slice",data:=.fields #[vl,vu,.none] } }:=I3.kept (t':=s3.toks) λb ob q=>Heap.get?_push_of_some _ q
 obtain⟨T,id,hT,ht,hg⟩:=hr pins { s3 with heap:=s3.heap.push { cls:=.type "slice",data:=.fields #[vl,vu,.none] } } σ H3 x v vl vu l u s3.heap.objs.size Q I4 r1 (Heap.IsSliceOf.new ..) pl pu q3;show wpAny (model X.prog X.w) X.A (subscriptTail e (.Slice lo hi none p2) v (.ref s3.heap.objs.size)) (EP X pins σ Q) X.xe { s3 with heap:=s3.heap.push { cls:=.type "slice",data:=.fields #[vl,vu,.none] } };exact tail_any (ops:=[.ref s3.heap.objs.size,v]) ht hT hg (by with_unfolding_all rfl)
noncomputable def bK(xs:List V)(lo hi:Option Int):List V:=(xs.drop (HT.sIx xs.length 0 lo)).take (HT.sIx xs.length xs.length hi-HT.sIx xs.length 0 lo)
theorem tS(xs:List V)(lo hi:Option Int):(bK xs lo hi).length<=xs.length:=by unfold bK;rw[wt,vU];omega
end
noncomputable def ixN(n:Nat)(i:Int):Option Nat:=if 0<=i then(if i<n then some i.toNat else none)else if -(n:Int)<=i then some (i+n).toNat else none
noncomputable def atI{α:Type}(xs:List α)(i:Int):Option α:=(ixN xs.length i).bind λj=>xs[j]?
theorem kU{n:Nat}{i:Int}{j:Nat}(h:ixN n i=some j):seqIndex? i n=some j/\j<n /\ -(n:Int)<=i/\i<n:=by
 unfold ixN at h
 by_cases h0:0<=i
 ·rw[if_pos h0]at h;by_cases h1:i<n
  ·rw[if_pos h1]at h;have e:i.toNat=j:=Option.some.inj h;exact⟨by rw[seqIndex_of h0 h1,e],by omega,by omega,h1⟩
  ·rw[if_neg h1]at h;cases h
 ·rw[if_neg h0]at h;by_cases h1 : -(n:Int)<=i
  ·rw[if_pos h1]at h;have e:(i+n).toNat=j:=Option.some.inj h;exact⟨by rw[seqIndex_neg (by omega) h1,e],by omega,h1,by omega⟩
  ·rw[if_neg h1]at h;cases h
theorem jl{α:Type}{xs:List α}{i:Int}{v:α}(h:atI xs i=some v):∃j,seqIndex? i xs.length=some j/\xs[j]?=some v/\j<xs.length /\ -(xs.length:Int)<=i/\i<xs.length:=by
 unfold atI at h
 cases e:ixN xs.length i with
 |none=>rw[e]at h;cases h
 |some j =>rw[e]at h;obtain⟨h1,h2,h3,h4⟩:=kU e;exact⟨j,h1,h,h2,h3,h4⟩
theorem cb{α:Type}{xs:List α}{j:Nat}{v:α}(h:xs[j]?=some v):atI xs (j:Int)=some v:=by
 have hj:j<xs.length:=(List.getElem?_eq_some_iff.mp h).1
 have e:ixN xs.length (j:Int)=some j:=by unfold ixN;rw[if_pos (by omega),if_pos (by omega)];simp
 unfold atI;rw[e];exact h
theorem uz{α:Type}(xs:List α)(v:α):atI (xs++[v]) (-1)=some v:=by
 have hl:(xs++[v]).length=xs.length+1:=by simp
 have e:ixN (xs++[v]).length (-1)=some xs.length:=by
  unfold ixN;rw[hl,if_neg (by decide),if_pos (by omega)]
  congr 1
  omega
 unfold atI;rw[e];show(xs++[v])[xs.length]?=some v;simp
def uE(b:Expr):Prop:=∀o i,subscripted b false o i=operate [o,i] (getItem o i)
noncomputable def IxR(X:Cx)(r:R2):Prop :=
 ∀(value slice:Expr) (pins:List (Addr×Obj)) (s:Shared) (σ:St) (H:Hp) (x y:V) (v u:Value) (Q:VK),Inv X pins σ H s->RelV x v->RelV y u->r x y H Q ->
  subscripted slice false v u=operate [v,u] (getItem v u)->wpAny (model X.prog X.w) X.A (subscriptTail value slice v u) (EP X pins σ Q) X.xe s
noncomputable def MtR(X:Cx)(id:String)(r:V->List V->Hp->VK->Prop):Prop :=
 ∀(pins:List (Addr×Obj)) (s:Shared) (σ:St) (H:Hp) (x:V) (xs:List V) (v:Value) (us:List Value) (Q:VK),Inv X pins σ H s->RelV x v->Vals xs us->r x xs H Q ->
  wpAny (model X.prog X.w) X.A (call (.builtin id) (v::us)) (EP X pins σ Q) X.xe s
section
variable {X:Cx}{a b:Expr}{ta tb:TE}{pos:Pos}
theorem ao{r:R2}(hr:IxR X r)(ha:PE X a ta)(hb:PE X b tb)(hs:uE b):PE X (.Subscript a b pos) (tOp r ta tb):=by intro pins s σ H Q I h;exact Subscript_ (jj ha hb I h λv u s2 x y H2 I2 rx ry q=>hr a b pins s2 σ H2 x y v u Q I2 rx ry q (hs _ _))
def jU(K:PySem.W.Frag):R2:=λx y H Q=>∃p xs i v,x=.ref p/\y=.int i/\SqL K H p xs/\atI xs i=some v/\Q v H
def jT(K:PySem.W.Frag):R2:=λx y H Q=>∃p xs i v,x=.ref p/\y=.int i/\SqT K H p xs/\atI xs i=some v/\Q v H
def n5:R2:=λx y H Q=>∃z i c,x=.str z/\y=.int i/\z.length<=sizeLine/\atI z.cps.toList i=some c/\Q (.str ⟨#[c]⟩) H
theorem rj:IxR X (jU X.K):=by
 intro value slice pins s σ H x y v u Q I rx ry h hs;obtain⟨p,xs,i,z,rfl,rfl,hq,he,q⟩:=h;cases rx;obtain⟨t,rfl⟩:=ry;obtain⟨its,r,pl,hz⟩:=I.list hq;obtain⟨j,h1,h2,h3,h4,h5⟩:=jl he;obtain⟨w,ew,rw'⟩:=r.get h2;have hl:=r.length;have hn:=el;have fin:EP X pins σ Q w s:=⟨z,H,I,rw',q⟩;by_cases h0:0<=i
 ·have hj:i.toNat=j:=by rw[seqIndex_of h0 h5]at h1;exact Option.some.inj h1
  exact item_listR pl.isList h0 (by omega) (by rw[hj];simpa using ew) fin hs
 ·have hj:(i+(its.toArray.size:Int)).toNat=j:=by rw[seqIndex_neg (by omega) h4]at h1;rw[vS,<- hl];exact Option.some.inj h1
  exact subscriptTail_builtinR (x:=w) pl.isList.typeIs slot_list_getitem.lookup
   (wpAny_getItem_list_neg (Q:=λr s'=>r=w/\EP X pins σ Q r s') pl.isList (by omega) (by rw[vS]<;>omega) (by omega) (by rw[hj];simpa using ew) ⟨rfl,fin⟩) hs
theorem rh:IxR X (jT X.K):=by
 intro value slice pins s σ H x y v u Q I rx ry h hs;obtain⟨p,xs,i,z,rfl,rfl,hq,he,q⟩:=h;cases rx;obtain⟨t,rfl⟩:=ry;obtain⟨its,r,pl,hz⟩:=I.tuple hq;obtain⟨j,h1,h2,h3,h4,h5⟩:=jl he;obtain⟨w,ew,rw'⟩:=r.get h2;have hl:=r.length;have hn:=el;have fin:EP X pins σ Q w s:=⟨z,H,I,rw',q⟩
 exact subscriptTail_builtinR (x:=w) pl.typeIs slot_tuple_getitem.lookup
  (getItem_tuple (j:=j) (Q:=λr s'=>r=w/\EP X pins σ Q r s') pl (by omega) (by omega) (by rw[vS,<- hl];exact h1) (by simpa using ew) ⟨rfl,fin⟩) hs
theorem bU:IxR X n5:=by
 intro value slice pins s σ H x y v u Q I rx ry h hs;obtain⟨z,i,c,rfl,rfl,hz,he,q⟩:=h;obtain⟨t,rfl⟩:=rx;obtain⟨t',rfl⟩:=ry;obtain⟨j,h1,h2,h3,h4,h5⟩:=jl he;have hl:z.cps.toList.length=z.length:=by simp[Str.length]
 rw[hl]at h1 h4 h5;have hn:=el
 exact tail_any (typeIs_str s z t) slot_str_getitem.lookup (getItem_str (c:=c) (by
  have e1:decide (i < -(2^63:Int))=false:=decide_eq_false (by omega);have e2:decide (i≥2^63)=false:=decide_eq_false (by omega)
  rw[e1,e2,Bool.or_false]) (by rw[h1];simpa using h2) ⟨.str ⟨#[c]⟩,H,I.tok _,⟨_,rfl⟩,q⟩) hs
theorem qg(its:List Value)(n j:Nat)(u:Value):Obj.mapSeq (·.setIfInBounds j u) { cls:=.type "list",data:=.seq its.toArray n }={ cls:=.type "list",data:=.seq (its.set j u).toArray n }:=by simp[Obj.mapSeq]
theorem Inv.lst{pins:List (Addr×Obj)}{σ:St}{H:Hp}{s:Shared}{p:Addr}{xs:List V}(I:Inv X pins σ H s)(h:H p=some (.lst xs)) :
 ∃(its:List Value) (n:Nat),Vals xs its/\s.heap.get? p=some { cls:=.type "list",data:=.seq its.toArray n }/\xs.length<=sizeLine:=by
 obtain⟨z,its,n,r,e⟩:=I.hok p _ h;exact⟨its,n,r,e,z⟩
theorem Inv.lstUpd{pins:List (Addr×Obj)}{σ:St}{H:Hp}{s:Shared}{p:Addr}{xs ys:List V}{its its':List Value}{n n':Nat}{f:Obj->Obj}(I:Inv X pins σ H s)(h:H p=some (.lst xs))
 (ho:s.heap.get? p=some { cls:=.type "list",data:=.seq its.toArray n }) (hf:f { cls:=.type "list",data:=.seq its.toArray n }={ cls:=.type "list",data:=.seq its'.toArray n' }) (r:Vals ys its') (hz:ys.length<=sizeLine) (t:Nat) :
 Inv X pins σ (upd H p (.lst ys)) { s with heap:=s.heap.update p f,toks:=t }:=by
 have e:(s.heap.update p f).get? p=some { cls:=.type "list",data:=.seq its'.toArray n' }:=by rw[Heap.get?_update_self f ho (by rw[hf]<;>rfl),hf]
 refine I.write (x:=p) (e:=p) (by rw[h];trivial) (.inl rfl) (λb u hb q=>(Heap.get?_update_other _ _ (Ne.symm hb)).trans q) ⟨_,e⟩ ?_;exact⟨hz,its',n',r,e⟩
noncomputable def nY:V->V->V->Hp->(Hp->Prop)->Prop:=λo i v H Q=>∃p xs k j,o=.ref p/\i=.int k/\H p=some (.lst xs)/\ixN xs.length k=some j/\Q (upd H p (.lst (xs.set j v)))
theorem cI:mf X nY:=by
 intro pins s σ H o i v ov iv u Q I ro ri rv h;obtain⟨p,xs,k,j,rfl,rfl,hp,hj,q⟩:=h;cases ro;obtain⟨t,rfl⟩:=ri;obtain⟨its,n,r,ho,hz⟩:=I.lst hp;obtain⟨h1,h2,h3,h4⟩:=kU hj;have hl:=r.length;have hn:=el
 have I':Inv X pins σ (upd H p (.lst (xs.set j v))) { s with heap:=s.heap.update p (Obj.mapSeq (·.setIfInBounds j u)) } :=
  I.lstUpd hp ho (qg its n j u) (r.set rv j) (by rw[List.length_set];exact hz) s.toks
 by_cases h0:0<=k
 ·have hk:k.toNat=j:=by rw[seqIndex_of h0 h4]at h1;exact Option.some.inj h1
  exact PySem.W.ki_setAt ho h0 (by omega) (by rw[vS,<- hl];exact h4) (by rw[hk];exact⟨_,I',q⟩)
 ·have hk:(k+(its.toArray.size:Int)).toNat=j:=by rw[seqIndex_neg (by omega) h3]at h1;rw[vS,<- hl];exact Option.some.inj h1
  exact PySem.W.ki_setBack ho (by omega) (by rw[vS,<- hl];exact h3) (by omega) (by rw[hk];exact⟨_,I',q⟩)
theorem nj(lo hi:Option Int)(n:Nat):(sliceBounds lo hi none n).1=((HT.sIx n 0 lo:Nat):Int)/\(sliceBounds lo hi none n).2.1=((HT.sIx n n hi:Nat):Int)/\(sliceBounds lo hi none n).2.2=1:=by
 refine⟨?_,?_,rfl⟩
 ·cases lo with
  |none=>simp[sliceBounds,HT.sIx]
  |some i =>
   simp only[sliceBounds,HT.sIx,Option.getD_none,show(1:Int)>0 by decide,if_true];by_cases h:i<0
   ·simp only[h,if_true]<;>omega
   ·simp only[h,if_false]<;>omega
 ·cases hi with
  |none=>simp[sliceBounds,HT.sIx]
  |some i =>
   simp only[sliceBounds,HT.sIx,Option.getD_none,show(1:Int)>0 by decide,if_true];by_cases h:i<0
   ·simp only[h,if_true]<;>omega
   ·simp only[h,if_false]<;>omega
theorem nk(its:List Value)(lo hi:Option Int):slicePick its.toArray lo hi none=((its.drop (HT.sIx its.length 0 lo)).take (HT.sIx its.length its.length hi-HT.sIx its.length 0 lo)).toArray:=by obtain⟨h1,h2,h3⟩:=nj lo hi its.toArray.size;unfold slicePick;rw[h1,h2,h3];simp only[sliceRange_one,pick_run,vS]<;>rfl
noncomputable def fV(K:PySem.W.Frag):V->Option Int->Option Int->Hp->VK->Prop:=λx lo hi H Q=>∃a xs,x=.ref a/\SqL K H a xs/\∀p,H p=none->Q (.ref p) (upd H p (.lst (bK xs lo hi)))
theorem nl:SlR X (fV X.K):=by intro pins s σ H x v vl vu lo hi sl Q I rx hs pl pu h;obtain⟨a,xs,rfl,hx,q⟩:=h;cases rx;obtain⟨its,r,ht,hz⟩:=I.list hx;have hlen:=r.length;refine⟨"list",_,slot_list_getitem.lookup,ht.isList.typeIs,?_⟩;refine wpAny_getItem_list_slice ht.isList hs pl pu .none (by simp) ?_ (by rw[vS]<;>omega);rw[nk,<- hlen];refine⟨.ref s.heap.objs.size,_,I.laid (t':=s.toks) (o:=.lst (bK xs lo hi)) (λb ob q=>Heap.get?_push_of_some _ q) (vJ _) ?_,rfl,q _ (I.hok.fresh (vJ _))⟩;exact⟨vQ (tS xs lo hi) hz,_,0,(r.drop (HT.sIx xs.length 0 lo)).take (HT.sIx xs.length xs.length hi-HT.sIx xs.length 0 lo),Heap.get?_push_size _ rfl⟩
noncomputable def bW:V->Bool
 |.non=>true
 |.bl _=>true
 |.int _=>true
 |.str _=>true
 |_=>false
noncomputable def eqV:V->V->Bool
 |.non,.non=>true
 |.bl a,.bl b=>a == b
 |.bl a,.int b=>(if a then 1 else 0) == b
 |.int a,.bl b=>a == (if b then 1 else 0)
 |.int a,.int b=>a == b
 |.str a,.str b=>a == b
 |_,_=>false
theorem tN{A:Around}{s:Shared}{y x:V}{u v:Value}(ry:RelV y u)(rx:RelV x v)(fy:bW y=true)(fx:bW x=true):SeqAt.EqAt A s u v (eqV y x):=by
 cases y with
 |non =>
  cases ry;cases x with
  |non=>cases rx;exact SeqAt.EqAt.same _
  |bl b=>cases rx;exact SeqAt.EqAt.none_bool b
  |int b=>obtain⟨t,rfl⟩:=rx;exact SeqAt.EqAt.none_int b t
  |str b=>obtain⟨t,rfl⟩:=rx;exact SeqAt.EqAt.none_str b t
  |_=>exact absurd (show false=true from fx) vL
 |bl a =>
  cases ry;cases x with
  |non=>cases rx;exact SeqAt.EqAt.bool_none a
  |bl b=>cases rx;exact SeqAt.EqAt.bool_bool a b
  |int b=>obtain⟨t,rfl⟩:=rx;exact SeqAt.EqAt.bool_int a b t
  |str b=>obtain⟨t,rfl⟩:=rx;exact SeqAt.EqAt.bool_str a b t
  |_=>exact absurd (show false=true from fx) vL
 |int a =>
  obtain⟨t',rfl⟩:=ry;cases x with
  |non=>cases rx;exact SeqAt.EqAt.int_none a t'
  |bl b=>cases rx;exact SeqAt.EqAt.int_bool a t' b
  |int b=>obtain⟨t,rfl⟩:=rx;exact SeqAt.EqAt.int_int a t' b t
  |str b=>obtain⟨t,rfl⟩:=rx;exact SeqAt.EqAt.int_str a t' b t
  |_=>exact absurd (show false=true from fx) vL
 |str a =>
  obtain⟨t',rfl⟩:=ry;cases x with
  |non=>cases rx;exact SeqAt.EqAt.str_none a t'
  |bl b=>cases rx;exact SeqAt.EqAt.str_bool a t' b
  |int b=>obtain⟨t,rfl⟩:=rx;exact SeqAt.EqAt.str_int a t' b t
  |str b=>obtain⟨t,rfl⟩:=rx;exact SeqAt.EqAt.str_str a t' b t
  |_=>exact absurd (show false=true from fx) vL
 |_=>exact absurd (show false=true from fy) vL
noncomputable def eqU(x:V)(u:Value):Bool:=match u with
 |.none=>eqV .non x
 |.bool b=>eqV (.bl b) x
 |.int i _=>eqV (.int i) x
 |.str z _=>eqV (.str z) x
 |_=>false
theorem lz{x y:V}{u:Value}(r:RelV y u)(f:bW y=true):eqU x u=eqV y x:=by
 cases y with
 |non=>cases r;rfl
 |bl b=>cases r;rfl
 |int i=>obtain⟨t,rfl⟩:=r;rfl
 |str z=>obtain⟨t,rfl⟩:=r;rfl
 |_=>exact absurd (show false=true from f) vL
theorem fF{x:V}:∀{xs:List V} {us:List Value},Vals xs us->xs.all bW=true->us.any (eqU x)=xs.any λy=>eqV y x
 |_,_,.nil,_=>rfl
 |y::xs,u::us,.cons r t,f=>by rw[List.all_cons,vV]at f;rw[List.any_cons,List.any_cons,lz r f.1,fF t f.2]
theorem fb{A:Around}{s:Shared}{x:V}{v:Value}(rx:RelV x v)(fx:bW x=true):∀{xs:List V} {us:List Value},Vals xs us->xs.all bW=true->∀u∈us,SeqAt.EqAt A s u v (eqU x u)
 |_,_,.nil,_=>λu hu=>by cases hu
 |y::xs,u::us,.cons r t,f=>λu' hu=>by
  rw[List.all_cons,vV]at f;rcases vO.mp hu with rfl |hu
  ·rw[lz r f.1];exact tN r rx f.1 fx
  ·exact fb rx fx t f.2 u' hu
noncomputable def inV(x:V)(xs:List V):Bool:=xs.any λy=>eqV y x
def rIn(K:PySem.W.Frag)(neg:Bool):R2:=λx y H Q=>∃p xs,y=.ref p/\(SqL K H p xs\/SqT K H p xs)/\bW x=true/\xs.all bW=true/\Q (.bl (if neg then !inV x xs else inV x xs)) H
theorem j8:OpR X (compareOp .In) (rIn X.K false):=by
 intro pins s σ H x y v u Q I rx ry h;obtain⟨p,xs,rfl,hq,fx,fs,q⟩:=h;cases ry;rcases hq with hq |hq
 ·obtain⟨its,r,pl,hz⟩:=I.list hq;refine SeqAt.in_listAt (eqU x) pl.isList (λw hw=>fb rx fx r fs w (by simpa using hw)) ⟨.bl _,H,I,rfl,?_⟩;rw[show its.toArray.any (eqU x)=its.any (eqU x) by simp,fF r fs];exact q
 ·obtain⟨its,r,pl,hz⟩:=I.tuple hq;refine SeqAt.in_tupleAt (eqU x) pl (λw hw=>fb rx fx r fs w (by simpa using hw)) ⟨.bl _,H,I,rfl,?_⟩;rw[show its.toArray.any (eqU x)=its.any (eqU x) by simp,fF r fs];exact q
theorem oK:OpR X (compareOp .NotIn) (rIn X.K true):=by
 intro pins s σ H x y v u Q I rx ry h;obtain⟨p,xs,rfl,hq,fx,fs,q⟩:=h;cases ry;rcases hq with hq |hq
 ·obtain⟨its,r,pl,hz⟩:=I.list hq;refine SeqAt.notIn_listAt (eqU x) pl.isList (λw hw=>fb rx fx r fs w (by simpa using hw)) ⟨.bl _,H,I,rfl,?_⟩;rw[show its.toArray.any (eqU x)=its.any (eqU x) by simp,fF r fs];exact q
 ·obtain⟨its,r,pl,hz⟩:=I.tuple hq;refine SeqAt.notIn_tupleAt (eqU x) pl (λw hw=>fb rx fx r fs w (by simpa using hw)) ⟨.bl _,H,I,rfl,?_⟩;rw[show its.toArray.any (eqU x)=its.any (eqU x) by simp,fF r fs];exact q
theorem t7:bq X (.builtin "len") (λxs H Q=>∃p ys,xs=[.ref p]/\(SqL X.K H p ys\/SqT X.K H p ys)/\Q (.int ys.length) H):=by
 intro pins s σ H xs us Q I r h;obtain⟨p,ys,rfl,hq,q⟩:=h;obtain⟨u,rfl,rx⟩:=cz r;cases rx;have hn:=el;rcases hq with hq |hq
 ·obtain⟨its,r',pl,hz⟩:=I.list hq;have hlen:=r'.length;exact Calls.call_len_list pl.isList (by simp only[vS]<;>omega) ⟨.int ys.length,H,I.tok _,⟨s.toks+1,by rw[vS,hlen]⟩,q⟩
 ·obtain⟨its,r',pl,hz⟩:=I.tuple hq;have hlen:=r'.length;exact len_tuple pl (by simp only[vS]<;>omega) ⟨.int ys.length,H,I.tok _,⟨s.toks+1,by rw[vS,hlen]⟩,q⟩
theorem bZ:bq X (.builtin "len") (λxs H Q=>∃z,xs=[.str z]/\z.length<=sizeLine/\Q (.int z.length) H):=by intro pins s σ H xs us Q I r h;obtain⟨z,rfl,hz,q⟩:=h;obtain⟨u,rfl,t,rfl⟩:=cz r;have hn:=el;exact len_str (by omega) ⟨.int z.length,H,I.tok _,⟨_,rfl⟩,q⟩
def tyV(K:PySem.W.Frag)(T:String)(x:V)(H:Hp):Prop:=match x with
 |.str _=>T="str"
 |.int _=>T="int"
 |.ref p=>(T="list"/\∃xs,SqL K H p xs)\/(T="tuple"/\∃o,K.lookup p=some o/\o.cls=.type "tuple"/\o.dict=none) \/
  (T="dict"/\((∃kvs,H p=some (.dK kvs))\/∃kvs,H p=some (.dT kvs)))\/(T="set"/\∃S n,H p=some (.set S n))
 |_=>False
theorem mK{pins:List (Addr×Obj)}{σ:St}{H:Hp}{s:Shared}{T:String}{x:V}{v:Value}(I:Inv X pins σ H s)(r:RelV x v)(ty:tyV X.K T x H) :
 s.TypeIs v T/\∀a,v=.ref a->∃ob,s.heap.get? a=some ob/\ob.dict=none:=by
 cases x with
 |str z =>obtain⟨t,rfl⟩:=r;cases(show T="str" from ty);exact⟨typeIs_str s z t,λ_ e=>nomatch e⟩
 |int i =>obtain⟨t,rfl⟩:=r;cases(show T="int" from ty);exact⟨typeIs_int s i t,λ_ e=>nomatch e⟩
 |ref p =>
  cases r;rcases ty with⟨rfl,xs,hq⟩ |⟨rfl,o,hk,hc,hd⟩ |⟨rfl,hk⟩ |⟨rfl,S,n,hk⟩
  ·obtain⟨its,_,pl,_⟩:=I.list hq;refine⟨pl.isList.typeIs,λa e=>?_⟩;cases e;obtain⟨o,n,e,c,hd,_⟩:=pl;exact⟨o,e,hd⟩
  ·refine⟨⟨o,I.kIn p o hk,hc⟩,λa e=>?_⟩;cases e;exact⟨o,I.kIn _ o hk,hd⟩
  ·have z:∃o,s.heap.get? p=some o/\o.ExactDict:=by
    rcases hk with⟨kvs,hk⟩ |⟨kvs,hk⟩
    ·obtain⟨_,_,_,_,o,_,_,e,ex,_⟩:=I.hok p _ hk;exact⟨o,e,ex⟩
    ·obtain⟨_,_,_,_,o,_,_,e,ex,_⟩:=I.hok p _ hk;exact⟨o,e,ex⟩
   obtain⟨o,e,ex⟩:=z;refine⟨⟨o,e,ex.1⟩,λa e2=>?_⟩;cases e2;exact⟨o,e,ex.2.1⟩
  ·obtain⟨o,_,_,_,e,ex,_⟩:=I.hok p _ hk;refine⟨⟨o,e,ex.1⟩,λa e2=>?_⟩;cases e2;exact⟨o,e,ex.2.1⟩
 |_=>exact False.elim ty
def tBM(K:PySem.W.Frag)(T:String)(r:V->List V->Hp->VK->Prop)(to:TE)(t:TA):TE:=λσ H Q=>to σ H λx H1=>tyV K T x H1/\t σ H1 λxs H2=>r x xs H2 Q
variable {o e:Expr}{es:List Expr}{to:TE}{t:TA}{name:Str}{apos cpos:Pos}{T id:String}{r:V->List V->Hp->VK->Prop}
theorem iA(pa:PlainAttrs T)(slot:Slot T name id)(hty:typeOf (.builtin id)=pure (.type "method_descriptor"))(hm:MtR X id r)(ho:PE X o to)(ha:PA X (e::es) t)
 (hbase:attributeBase o name X.env (eval o X.env)=eval o X.env:=by rfl)
 (hfew:((backTo cpos (starEach (e::es) X.env)).all (λx=>!x.1)&&(backToKw cpos (keywordEach [] X.env)).all (λx=>x.1.isSome)
   && decide ((e::es).length+([]:List Keyword).length+(if([]:List Keyword).isEmpty then 0 else 1)<30))=true:=by rfl)
 (hline:(apos.endLine == cpos.line)=true:=by rfl) (hs:starEach (e::es) X.env=(false,eval e X.env)::starEach es X.env:=by rfl) (hplain:(backTo cpos (starEach es X.env)).any (·.1)=false:=by rfl) :
 PE X (.Call (.Attribute o name apos) (e::es) [] cpos) (tBM X.K T r to t):=by
 intro pins s σ H Q I h;refine wpAny_Call_method_late hbase hfew hline rfl (thn (ho pins s σ H _ I h) λv s1 ⟨x,H1,I1,r1,ty,q1⟩=>?_);obtain⟨h1,h2⟩:=mK I1 r1 ty;refine⟨T,id,pa,slot,hty,h1,h2,?_⟩;have hA:=ha cpos pins s1 σ H1 _ I1 q1;rw[hs]at hA ⊢;refine Calls.callWith_builtin (by show(false || (backTo cpos (starEach es X.env)).any (·.1))=false;rw[hplain]<;>rfl) (Calls.evalArgs_plain ?_);exact thn hA λus s2 ⟨vs,H2,I2,r2,q2⟩=>hm pins s2 σ H2 x vs v us Q I2 r1 r2 q2
end
noncomputable def MtM(X:Cx)(id:String)(r:V->List V->Hp->VK->Prop):Prop :=
 ∀(pins:List (Addr×Obj)) (s:Shared) (σ:St) (H:Hp) (x:V) (xs:List V) (v:Value) (us:List Value) (Q:VK),Inv X pins σ H s->RelV x v->Vals xs us->r x xs H Q ->
  wpAny (model X.prog X.w) X.A (call (.builtin id) (v::us)) (EP X pins σ Q) X.xe s
theorem Vals.one:∀{x:V} {us:List Value},Vals [x] us->∃u,us=[u]/\RelV x u
 |_,_,.cons r .nil=>⟨_,rfl,r⟩
theorem Vals.two:∀{x y:V} {us:List Value},Vals [x,y] us->∃u v,us=[u,v]/\RelV x u/\RelV y v
 |_,_,_,.cons r (.cons q .nil)=>⟨_,_,rfl,r,q⟩
theorem Vals.zero:∀{us:List Value},Vals [] us->us=[]
 |_,.nil=>rfl
theorem Vals.dropLast{xs:List V}{us:List Value}(h:Vals xs us):Vals xs.dropLast us.dropLast:=by
 induction h with
 |nil=>exact .nil
 |cons r t ih =>
  cases t with
  |nil=>exact .nil
  |cons q t'=>exact .cons r ih
theorem Vals.reverse{xs:List V}{us:List Value}(h:Vals xs us):Vals xs.reverse us.reverse:=by
 induction h with
 |nil=>exact .nil
 |cons r t ih=>rw[List.reverse_cons,List.reverse_cons];exact Vals.append ih (.cons r .nil)
theorem Vals.rep{xs:List V}{us:List Value}(h:Vals xs us):∀k:Nat,Vals (List.replicate k xs).flatten (List.replicate k us).flatten
 |0=>.nil
 |k+1=>by rw[v2,v2,wu,wu];exact Vals.append h (Vals.rep h k)
theorem lr(its:List Value):∀(k:Nat) (acc:List Value),
 List.foldl (λx1 x2=>x1++x2) acc.toArray (List.replicate k its.toArray)=(acc++(List.replicate k its).flatten).toArray
 |0,acc=>by simp
 |k+1,acc=>by
  have e:acc.toArray++its.toArray=(acc++its).toArray:=by simp
  have e2:(acc++its)++(List.replicate k its).flatten=acc++(List.replicate (k+1) its).flatten:=by rw[v2,wu,wk]
  rw[<- e2,<- lr its k (acc++its),<- e,v2,List.foldl_cons]
section
variable {X:Cx}{pins:List (Addr×Obj)}{σ:St}{H:Hp}{s:Shared}{l b:Addr}{xs ys zs:List V}
theorem Inv.lset{its its':List Value}{n:Nat}{f:Array Value->Array Value}{t':Nat}(I:Inv X pins σ H s)(hH:H l=some (.lst xs))
 (e:s.heap.get? l=some { cls:=.type "list",data:=.seq its.toArray n }) (hf:f its.toArray=its'.toArray) (hv:Vals ys its') (hz:ys.length<=sizeLine) :
 Inv X pins σ (upd H l (.lst ys)) { s with heap:=s.heap.update l (Obj.mapSeq f),toks:=t' }:=by
 have q:=PySem.IsL.update e f;rw[hf]at q;refine I.write (x:=l) (e:=l) (by rw[hH];exact trivial) (.inl rfl) (λb' u hb hu=>(Heap.get?_update_other s.heap (Obj.mapSeq f) (Ne.symm hb)).trans hu) ⟨_,q⟩ ?_;exact⟨hz,its',_,hv,q⟩
theorem Inv.lnew{its:List Value}{t':Nat}(I:Inv X pins σ H s)(hv:Vals ys its)(hz:ys.length<=sizeLine) :
 Inv X pins σ (upd H s.heap.objs.size (.lst ys)) { s with heap:=s.heap.push { cls:=.type "list",data:=.seq its.toArray },toks:=t' } :=
 I.laid (λ_ _ q=>Heap.get?_push_of_some _ q) (vJ _) ⟨hz,its,0,hv,Heap.get?_push_size _ rfl⟩
theorem Inv.fresh(I:Inv X pins σ H s):H s.heap.objs.size=none:=I.hok.fresh (vJ _)
theorem Inv.lstM(I:Inv X pins σ H s)(hH:H l=some (.lst xs)):xs.length<=sizeLine/\∃(its:List Value) (n:Nat),Vals xs its/\xs.length=its.length/\s.heap.get? l=some { cls:=.type "list",data:=.seq its.toArray n }:=by obtain⟨z,its,n,r,e⟩:=I.hok l _ hH;exact⟨z,its,n,r,r.length,e⟩
theorem pO{n:Nat}(h:n<=sizeLine):Builtin.List.listTooLong n=false:=by unfold Builtin.List.listTooLong;exact decide_eq_false (by omega)
end
section
variable {X:Cx}
noncomputable def n6:V->List V->Hp->VK->Prop:=λx vs H Q=>∃l xs y,x=.ref l/\vs=[y]/\H l=some (.lst xs)/\xs.length<sizeLine/\Q .non (upd H l (.lst (xs++[y])))
theorem iL:MtM X "list.append" n6:=by intro pins s σ H x vs v us Q I rx rv h;obtain⟨l,xs,y,rfl,rfl,hH,hz,q⟩:=h;cases rx;obtain⟨u,rfl,ru⟩:=rv.one;obtain⟨z,its,n,r,hl,e⟩:=I.lstM hH;refine call_meets F.slot_list_append ⟨_,e,rfl⟩ F.entry_list_append (F.args_list_append_2 _ _) (PySem.list_append l its.toArray n u (by rw[vS];omega)) ⟨e,?_⟩;refine⟨.non,_,I.lset (its':=its++[u]) hH e (by simp) (r.append (.cons ru .nil)) ?_,rfl,q⟩;rw[vM,wy];omega
def iu:R2:=λx y H Q=>∃l b xs zs,x=.ref l/\y=.ref b/\H l=some (.lst xs)/\H b=some (.lst zs)/\xs.length+zs.length<=sizeLine/\∀p,H p=none->Q (.ref p) (upd H p (.lst (xs++zs)))
theorem iE:OpR X (binaryOp .Add) iu:=by
 intro pins s σ H x y v u Q I rx ry h;obtain⟨l,b,xs,zs,rfl,rfl,hH,hB,hz,q⟩:=h;cases rx;cases ry;obtain⟨z,its,n,r,hl,e⟩:=I.lstM hH;obtain⟨z2,its2,n2,r2,hl2,e2⟩:=I.lstM hB;refine PySem.P.add_list e e2 ?_ (by rw[vS,vS];omega);have ea:its.toArray++its2.toArray=(its++its2).toArray:=by simp
 rw[ea];exact⟨.ref _,_,I.lnew (t':=s.toks) (r.append r2) (by rw[vM];omega),rfl,q _ I.fresh⟩
def nZ:R2:=λx y H Q=>∃l k xs,x=.ref l/\y=.int k/\H l=some (.lst xs) /\ -(2^63)<=k/\k<2^63/\xs.length*k.toNat<=sizeLine /\
 ∀p,H p=none->Q (.ref p) (upd H p (.lst (List.replicate k.toNat xs).flatten))
theorem qI{α:Type}(xs:List α)(k:Nat):(List.replicate k xs).flatten.length=k*xs.length:=by
 induction k with
 |zero=>simp
 |succ k ih=>rw[v2,wu,vM,ih,Nat.succ_mul,Nat.add_comm]
theorem iC:OpR X (binaryOp .Mult) nZ:=by
 intro pins s σ H x y v u Q I rx ry h;obtain⟨l,k,xs,rfl,rfl,hH,h1,h2,hz,q⟩:=h;cases rx;obtain⟨t,rfl⟩:=ry;obtain⟨z,its,n,r,hl,e⟩:=I.lstM hH;have hlen:its.toArray.size*k.toNat<=sizeLine:=by rw[vS,<- hl];exact hz
 have hcap:¬its.toArray.size*k.toNat>(2^63-1)/8:=by
  have:(sizeLine:Nat)<=(2^63-1)/8:=by decide
  omega
 have hfit:¬(!Builtin.List.listFitsIndex k)=true:=by rw[fitsIndex_both h1 h2];exact vL
 have hlong:¬Builtin.List.listTooLong (its.toArray.size*k.toNat)=true:=by rw[pO hlen];exact vL
 have hnew:List.foldl (λx1 x2=>x1++x2) #[] (List.replicate (if its.toArray.isEmpty=true then 0 else k.toNat) its.toArray)=(List.replicate k.toNat its).flatten.toArray:=by
  have f0:∀m:Nat,List.foldl (λx1 x2=>x1++x2) #[] (List.replicate m its.toArray)=(List.replicate m its).flatten.toArray:=λm=>by have:=lr its m [];rw[List.nil_append]at this;exact this
  rw[f0];cases its with
  |nil=>simp
  |cons a r'=>rw[if_neg (by simp)]
 refine wpAny_binaryOp_repeat_ref (T:="list") (U:="int") (by decide) ⟨_,e,rfl⟩ (λs'=>typeIs_int s' k t) noFill_list_mul F.fills_int_mul F.slot_int_rmul repeat_list F.slot_int_index.lookup
  (call_meets F.slot_int_rmul (typeIs_int s k t) F.entry_int_rmul (F.args_int_rmul_2 _ _) (int___rmul___int_list k t l its.toArray n)
    ⟨e,rfl,⟨_,e,rfl⟩,call_meets F.slot_list_mul ⟨_,e,rfl⟩ F.entry_list_mul (F.args_list_mul_2 _ _) (AutoListH.list___mul___list_int_3 l its.toArray n k t hfit hcap hlong) ⟨e,?_⟩⟩)
 rw[hnew];exact⟨.ref _,_,I.lnew (t':=s.toks) (r.rep k.toNat) (by rw[qI,Nat.mul_comm];exact hz),rfl,q _ I.fresh⟩
end
section
variable {prog:Program}{w:World}{A:Around}{E:Value->Shared->Prop}{s:Shared}
end
section
variable {X:Cx}
end
end L2
namespace Att
open PySem PySem.W PySem.Calls PyProof.Rows
theorem rq{P:Params}{h:Heap}:∀(ns:List Int) (vs:List Value),WellAll P h vs (ns.map WData.int)->IntsAre vs ns:=by
 intro ns
 induction ns with
 |nil =>intro vs w;rw[List.map_nil]at w;cases w;exact .nil
 |cons n ns ih =>
  intro vs w;rw[List.map_cons]at w;cases w with
  |cons a b =>cases a;exact .cons _ _ (ih _ b)
theorem nu{l:OpenLaw}{n:Nat}(hn:l.most=some n){P:Params}{h:Heap}{args:List WData}{vals:List Value}
 (hpre:l.row.toRowW.claim.pre args=true) (hwl:WellAll P h vals args) :
 ∃a vs ns,vals=[Value.ref a]/\args=[WData.list (ns.map WData.int)]/\h.get? a=some { cls:=.type "list",data:=.seq vs.toArray }/\IntsAre vs ns/\ns.length<=n:=by
 have hsh:WShape.hasAll [] args [.list .int]=true:=(pre_splitW hpre).1;have hc:l.pre.holds [] { args:=args }=true:=(pre_splitW hpre).2;obtain⟨d,r,rfl,h1,h2⟩:=hasAllW_cons hsh;obtain rfl:=hasAllW_nil h2;obtain⟨xs,rfl,h3⟩:=hasW_list h1;obtain⟨ns,rfl⟩:=items_int h3
 have hlen:ns.length<=n:=by
  unfold OpenLaw.pre at hc
  have h4:(WTm.not (.lt (.lit (.int (n:Int))) (.len (.arg 0)))).holds [] { args:=[.list (ns.map .int)] }=true:=by have h4:=(holds_andW hc).1;rw[hn]at h4;exact h4
  have h5:=condW_of h4 (w_not (w_lt w_lit (w_len_list (w_arg rfl))));rw[vK]at h5;refine wv λq=>?_
  have q':(n:Int)<((ns.length:Nat):Int):=by omega
  first
   | (rw[decide_eq_true q']at h5;exact absurd h5 (by decide))
   | (simp at h5;omega)
 cases hwl with
 |cons w1 w2 =>
  cases w2;cases w1 with
  |list ho hall=>exact⟨_,_,ns,rfl,rfl,ho,rq ns _ hall,hlen⟩
theorem om(l:OpenLaw)(args:List WData):l.row.toRowW.claim.post args (.bool true) args=true :=
 postW_of (r:=l.row.toRowW) (X:=(true == true))
  (show WShape.has [] (.bool true) .bool=true by first |rfl |decide |simp[WShape.has,WShape.arms,WShape.armsAll])
  (show(WTm.eq .res (.lit (.bool true))).value [] { args:=args,res:=some (.bool true),after:=args }=some (.bool (true == true))from w_eq_bool (w_res rfl) w_lit) rfl
theorem attach_call{l:OpenLaw}{n:Nat}{q:Program}{loose:List Str}{XP:(Str->Option Value)->Heap->Prop}{YP:World->Heap->Prop}{d:DefRec}
 (hn:l.most=some n) (hdf:d.params.defaults=[])
 (call:∀(w:World) (s₀ s₁:Shared) (mg mb:Str->Option Value) (fa:Addr) (o:Obj) (pm cd doc:Value) (a:Addr) (vs:List Value) (ns:List Int),
   Ground q loose [] XP w s₀ mg mb s₁.heap->YP w s₁.heap ->
   s₁.heap.get? fa=some o->o.data=.func (docDef d.name d.params d.body d.scope pm cd doc)->s₁.heap.CodeRec cd d.name->mg d.name=some (.ref fa) ->
   s₁.heap.get? a=some { cls:=.type "list",data:=.seq vs.toArray }->IntsAre vs ns->ns.length<=n->s₁.gens=#[] ->
   codeAny (model l.prog w) callerA (.call (.ref fa) ⟨[.ref a],[]⟩) (λr s'=>r=.ok (.ret (.bool true))/\OldK s₁.heap s'.heap/\s'.os=s₁.os/\AllBare s'.gens) s₁) :
 WalkO q loose XP YP l.row.toRowW d [] (λf vs=>PySem.call f vs):=by
 intro w s₀ s₁ mg mb G Y fa o pm cd doc dV kV ho hd hcd hD hmg hg args vals as hpre hlay hrd hwl hlo;obtain rfl:dV=.none:=Dflts.none hD hdf;obtain rfl:kV=.none:=Dflts.noKw hD;obtain⟨a,vs,ns,rfl,rfl,hobj,hints,hlen⟩:=nu hn hpre hwl;refine enter_call (codeAny_mono (call w s₀ s₁ mg mb fa o pm cd doc a vs ns G Y ho (fd_plain hd) hcd hmg hobj hints hlen hg) λr s' hq=>?_);obtain⟨rfl,h2,h3,h4⟩:=hq;exact⟨.inl ⟨.bool true,.bool true,[],rfl,λ_=>rfl,.bool true,om l _,λ_=>⟨List.Pairwise.nil,λ_ hm=>(nomatch hm)⟩⟩,h2,h3,h4⟩
section
variable {prog:Program}{w:World}{A:Around}{E:Value->Shared->Prop}{s:Shared}{K:Frag}
end
end Att
namespace L2
open PySem PySem.Spec PyProof.Rows
theorem jz:∀{vs:List Value} {ns:List Int},IntsAre vs ns->Vals (ns.map V.int) vs
 |_,_,.nil=>.nil
 |_,_,.cons n t h=>.cons ⟨t,rfl⟩ (jz h)
def jo(H:Hp):Prop:=∀b,H b=none\/∃o xs,H b=some (.frz o (.lst xs))
theorem qM{P:Program}{w:World}{K:PySem.W.Frag}{mg mb:Str->Option Value}{CX:CXT}{k:Nat}{fa a:Addr}{fd:FuncData}{x:Str}{sp:Sp}{s₁:Shared}{vs:List Value}{ns:List Int}
 (KX:K.In s₁.heap) (hns:s₁.heap.Ns mainGlobals mg) (hb:s₁.heap.Ns builtinsNs mb) (hbb:∀x:Str,x≠"__name__"->mb x=bootBuiltins x) (hlim:s₁.heap.NoLimit) (hg:s₁.gens=#[])
 (ha:s₁.heap.get? a=some { cls:=.type "list",data:=.seq vs.toArray }) (hi:IntsAre vs ns) (hl:ns.length<=sizeLine) (hr:Room k callerA)
 (F:∀base:Heap,K.In base->base.Ns mainGlobals mg->FnOk P w K mg base CX k fa fd [x] sp) (hbind:∀(s:Shared) (u:Value),BindsTo s fd ⟨[u],[]⟩ [(x,u)])
 (hsp:∀H:Hp,jo H->SqL K H a (ns.map V.int)->sp [.ref a] H (λv _=>v=.bl true) λ_ _ _=>False)
 (hCX:∀H e s',CX [] H s₁ (λ_ _ _=>False) e s'->False) :
 codeAny (model P w) callerA (.call (.ref fa) ⟨[.ref a],[]⟩) (λr s'=>r=.ok (.ret (.bool true))/\OldK s₁.heap s'.heap/\s'.os=s₁.os/\AllBare s'.gens) s₁:=by
 have rv:=jz hi;have lenV:=hi.length
 have core:∀H:Hp,jo H->SqL K H a (ns.map V.int)->HOk P w H s₁.heap->(∀b,H b≠none->b=a)->(H a≠none->K.lookup a=none) ->
  codeAny (model P w) callerA (.call (.ref fa) ⟨[.ref a],[]⟩) (λr s'=>r=.ok (.ret (.bool true))/\OldK s₁.heap s'.heap/\s'.os=s₁.os/\AllBare s'.gens) s₁:=by
  intro H hO hS hok hA hK;have base_of:∀{b:Addr} {o:Obj},s₁.heap.get? b=some o->H b=none->(bV s₁.heap H).get? b=some o:=λe n=>rH e n
  have noA:∀{b:Addr} {o:Obj} {es:Array DictEntry} {ep:Nat},s₁.heap.get? b=some o->o.data=.dict es ep->H b=none:=λ{b o es ep} e d=>by
   cases q:H b with
   |none=>rfl
   |some u =>have e':b=a:=hA b (by rw[q];simp);subst e';rw[ha]at e;cases e;have d':Data.seq vs.toArray _=Data.dict es ep:=d;cases d'
  have nsK:∀{b:Addr} {m:Str->Option Value},s₁.heap.Ns b m->(bV s₁.heap H).Ns b m:=λ{b m} ⟨o,es,ep,e,d,r⟩=>⟨o,es,ep,base_of e (noA e d),d,r⟩
  have hKb:K.In (bV s₁.heap H):=λb o e=>base_of (KX b o e) (by
   cases q:H b with
   |none=>rfl
   |some u =>
    have e':b=a:=hA b (by rw[q];simp);subst e'
    rw[hK (by rw[q];simp)]at e;cases e)
  have hM:Mod K mg (bV s₁.heap H):=⟨hKb,nsK hns,⟨mb,nsK hb,hbb⟩,let⟨mc,h1,h2⟩:=hlim;⟨mc,nsK h1,h2⟩⟩;have e0:Env0 P w K mg (bV s₁.heap H) callerA [] s₁ H:=⟨rfl,hM,λb o e=>pJ e,wa (rG _ _),trivial,λb hb=>absurd (show b∈([]:List Addr)from hb) (by simp),hok,.of_eq hg⟩;refine codeAny_mono ((F _ hKb (nsK hns)).run callerA [] s₁ H ⟨[.ref a],[]⟩ [.ref a] [.ref a] _ _ hr e0 (hbind s₁ (.ref a)) (.cons rfl .nil) (hsp H hO hS)) λr s' h=>?_
  cases r with
  |error e=>exact(hCX H e s' h).elim
  |ok fl =>
   cases fl with
   |next=>exact False.elim h
   |brk=>exact False.elim h
   |cont=>exact False.elim h
   |ret u =>
    obtain⟨v,H',os,bare,un,hok',r',q⟩:=h;have q':v=.bl true:=q;subst q';obtain rfl:u=Value.bool true:=r';refine⟨rfl,OldK.of_keep λb o e=>?_,os,bare⟩;cases q:H b with
    |none=>exact un.keep b o e q (by intro z;exact absurd (show b∈([]:List Addr)from z) (by simp)) (by simp)
    |some u =>
     rcases hO b with z |⟨ob,xs,z⟩
     ·rw[q]at z;cases z
     ·have z2:=un.frzs b ob _ z;obtain⟨e1,_⟩:=hok b _ z;obtain⟨e2,_⟩:=hok' b _ z2;rw[e]at e1;cases e1;exact e2
 cases hk:K.lookup a with
 |some o =>have e:=KX a o hk;rw[ha]at e;cases e;refine core (λ_=>none) (λ_=>.inl rfl) (.inr ⟨_,vs.toArray,_,hk,rfl,rfl,rfl,by rw[vS,lenV];exact hl,by simpa using rv⟩) (λb u z=>by have z':(none:Option HO)=some u:=z;cases z') (λb z=>absurd rfl z) λz=>absurd rfl z
 |none =>
  refine core (λb=>if b=a then some (.frz { cls:=.type "list",data:=.seq vs.toArray } (.lst (ns.map V.int)))else none) (λb=>?_) (.inl (.inr ⟨{ cls:=.type "list",data:=.seq vs.toArray },if_pos rfl⟩)) (λb u z=>?_) (λb z=>?_) λ_=>hk
  ·by_cases hb:b=a
   ·exact .inr ⟨_,_,if_pos hb⟩
   ·exact .inl (if_neg hb)
  ·by_cases hb:b=a
   ·have z':=(if_pos hb).symm.trans z;cases z';subst hb;exact⟨ha,by rw[vK];exact hl,vs,_,rv,ha⟩
   ·have z':=(if_neg hb).symm.trans z;cases z'
  ·by_cases hb:b=a
   ·exact hb
   ·exact absurd (if_neg hb) z
theorem walk_of{l:PySem.W.OpenLaw}{n k:Nat}{q:Program}{loose:List Str}{XP:(Str->Option Value)->Heap->Prop}{YP:World->Heap->Prop}{d:DefRec}{K:Params->PySem.W.Frag}{CX:World->CXT}{sp:World->Sp}{x:Str}
 (hn:l.most=some n) (hn2:n<=sizeLine) (hdf:d.params.defaults=[]) (hr:Room k callerA)
 (hY:∀(w:World) (h:Heap),YP w h->(K w.params).In h)
 (F:∀(w:World) (mg:Str->Option Value) (fa:Addr) (h:Heap),(K w.params).In h->h.Ns mainGlobals mg->mg d.name=some (.ref fa) ->
   ∃fd:FuncData,(∀(s:Shared) (u:Value),BindsTo s fd ⟨[u],[]⟩ [(x,u)]) /\
    ∀base:Heap,(K w.params).In base->base.Ns mainGlobals mg->FnOk l.prog w (K w.params) mg base (CX w) k fa fd [x] (sp w))
 (hsp:∀(w:World) (H:Hp) (a:Addr) (ns:List Int),ns.length<=n->jo H->SqL (K w.params) H a (ns.map V.int)->sp w [.ref a] H (λv _=>v=.bl true) λ_ _ _=>False)
 (hCX:∀(w:World) (H:Hp) (s:Shared) (e:Value) (s':Shared),CX w [] H s (λ_ _ _=>False) e s'->False) :
 PySem.W.WalkO q loose XP YP l.row.toRowW d [] (λf vs=>PySem.call f vs):=by
 refine Att.attach_call hn hdf λw s₀ s₁ mg mb fa o pm cd doc a vs ns G Y ho hd hcd hmg hobj hints hlen hg=>?_
 have KX:=hY w _ Y;obtain⟨fd,hb,hF⟩:=F w mg fa _ KX G.T.g hmg;exact qM KX G.T.g G.T.b G.T.builtins G.T.nolimit hg hobj hints (vQ hlen hn2) hr hF hb (λH hO hS=>hsp w H a ns hlen hO hS) λH e s'=>hCX w H s₁ e s'
noncomputable def cv(s:Stmt)(j:Nat):Stmt:=match s with
 |.ClassDef _ _ _ body _ _ _ _ _ _ _=>body.getD j (.Pass ⟨0,0,0,0⟩)
 |_=>.Pass ⟨0,0,0,0⟩
noncomputable def az(s:Stmt):Arguments:=match s with
 |.FunctionDef _ a _ _ _ _ _ _ _ _=>a
 |_=>{ posonlyargs:=[],args:=[],vararg:=none,kwonlyargs:=[],kw_defaults:=[],kwarg:=none,defaults:=[] }
noncomputable def aw(s:Stmt):List Stmt:=match s with
 |.FunctionDef _ _ b _ _ _ _ _ _ _=>b
 |_=>[]
noncomputable def ah(s:Stmt):Scope:=match s with
 |.FunctionDef _ _ _ _ _ _ sc _ _ _=>sc
 |_=>{ kind:=.function,names:=[],isGenerator:=false,isCoroutine:=false }
abbrev CX0:CXT:=λ_ _ _ _ _ _=>False
abbrev E0:XK:=λ_ _ _=>False
theorem av{X:Cx}:cc CX0 X E0:=λ_ _ _ _ _ _ _ h=>h.elim
structure Fun(K:PySem.W.Frag)(x qual:Str)(st:Stmt)(f:Addr)(fd:FuncData):Prop where
 ex:∃(oc:Value) (od:Option Addr) (kV doc pm:Value) (an:Option Addr) (cdv ct:Value) (osl:Array (Option Value)),
  fd=PySem.W.fnOf x qual (az st) (aw st) (ah st) .none kV doc pm an cdv ct/\K.lookup f=some ⟨oc,od,.func fd,osl⟩/\PySem.W.codeIn K cdv qual=true
 kp:PySem.W.keepIn K (.ref f)=true
section
variable {P:Program}{w:World}{K:PySem.W.Frag}{mg:Str->Option Value}{base:Heap}
theorem Fun.ok{x qual:Str}{st:Stmt}{f:Addr}{fd:FuncData}{N ps:List Str}{k:Nat}{sp:Sp}(F:Fun K x qual st f fd)(S:FnScope N ps (ah st))(len:∀vs H Q E,sp vs H Q E->vs.length=ps.length)
 (hbody:∀(cdv:Value) (A:Around) (outer:List Env) (s:Shared) (H:Hp) (vs:List V) (Q:VK) (E:XK),Room k (A.deeper (envOfC qual (ah st) s.heap.objs.size f cdv))->sp vs H Q E ->
   ∃t,PSs (aJ CX0 P w K mg base N qual (ah st) f cdv A outer s H E).nox (aw st) t/\t { nx:=λ_ H'=>Q .non H',rt:=Q } (start N vs) H):FnOk P w K mg base CX0 (k+1) f fd ps sp:=by
 obtain⟨oc,od,kV,doc,pm,an,cdv,ct,osl,rfl,lk,hcd⟩:=F.ex;refine gu lk hcd S len λA outer s H vs Q E hr hsp=>?_
 obtain⟨t,h,q⟩:=hbody cdv A outer s H vs Q E hr hsp;exact⟨t,h.nox,q⟩
theorem Fun.binds{x qual:Str}{st:Stmt}{f:Addr}{fd:FuncData}{ps:List Str}(F:Fun K x qual st f fd)
 (h:∀(kV doc pm:Value) (an:Option Addr) (cdv ct:Value) (us:List Value),us.length=ps.length->bindArgs (PySem.W.fnOf x qual (az st) (aw st) (ah st) .none kV doc pm an cdv ct) ⟨us,[]⟩=pure (ps.zip us)):Binds K fd ps []:=by
 obtain⟨oc,od,kV,doc,pm,an,cdv,ct,osl,rfl,lk,hcd⟩:=F.ex;exact .all (h kV doc pm an cdv ct)
theorem aE{x qual:Str}{st:Stmt}{f:Addr}{oc:Value}{od an:Option Addr}{osl:Array (Option Value)}{kV doc pm cdv ct:Value}(l:K.lookup f=some ⟨oc,od,.func (PySem.W.fnOf x qual (az st) (aw st) (ah st) .none kV doc pm an cdv ct),osl⟩)
 (c:PySem.W.codeIn K cdv qual=true) (k:PySem.W.keepIn K (.ref f)=true):Fun K x qual st f (PySem.W.fnOf x qual (az st) (aw st) (ah st) .none kV doc pm an cdv ct):=⟨⟨oc,od,kV,doc,pm,an,cdv,ct,osl,rfl,l,c⟩,k⟩
end
section
variable {X:Cx}
theorem pv(i:Nat){x:Str}{pos:Pos}(hN:X.N[i]?=some x:=by rfl)(hv:Vis X.env.scope x:=by first |exact Or.inl rfl |exact Or.inr (Or.inl rfl) |exact Or.inr (Or.inr rfl))(hd:(x == ("__debug__":Str))=false:=by decide)
 (hcd:(x == ("__classdict__":Str))=false:=by decide):PE X (.Name x pos) (gI i):=oz hN hv hd hcd
end
def Same(H H':Hp):Prop:=∀b o,H b=some o->H' b=some o
theorem Same.refl(H:Hp):Same H H:=λ_ _ h=>h
theorem Same.trans{H H1 H2:Hp}(a:Same H H1)(b:Same H1 H2):Same H H2:=λc o h=>b c o (a c o h)
theorem Same.free{H H':Hp}(e:Same H H'){l:Addr}(h:H' l=Option.none):H l=Option.none:=by
 cases q:H l with
 |none=>rfl
 |some o =>rw[e l o q]at h;cases h
theorem Same.seq{K:PySem.W.Frag}{H H':Hp}{a:Addr}{xs:List V}(e:Same H H')(h:SqL K H a xs):SqL K H' a xs:=by
 rcases h with(h |⟨o,h⟩) |h
 ·exact .inl (.inl (e _ _ h))
 ·exact .inl (.inr ⟨o,e _ _ h⟩)
 ·exact .inr h
end L2
set_option maxHeartbeats 4000000
namespace L2
open PySem PySem.Spec PyProof.Rows
noncomputable def cw(X:Cx)(N:List Str)(scope:Scope)(cl:List (Str×Addr))(C:Addr)(s₀:Shared)(H₀:Hp)(ex:List Addr):Cx where
 prog:=X.prog
 w:=X.w
 K:=X.K
 mg:=X.mg
 base:=X.base
 A:=X.A
 N:=N
 s₀:=s₀
 H₀:=H₀
 env:=compEnvC scope cl C X.env
 outer:=X.stack
 stack:=X.stack
 ex:=ex
 fn:=λ_=>false
 calm:=X.calm
 pn:=[]
 xe:=λ_ _=>False
structure CompOk(X:Cx)(fr:List Str)(js:List Nat)(scope:Scope)(cl:List (Str×Addr)):Prop where
 clos:closureFor scope X.env=pure cl
 cell:∀y∈scope.names,y.2≠.cell
 kind:scope.kind=.function
 names:∀y∈scope.names,y.2=.local->scope.names.lookup y.1=some .local
 clin:∀p∈cl,X.env.cells.lookup p.1=some p.2
 has:scope.names.all (λp=>p.2 != .free || (cl.lookup p.1).isSome)=true
 fre:Paired (λ(x:Str) (j:Nat)=>X.N[j]?=some x/\(X.env.scope.names.lookup x=some .cell\/X.env.scope.names.lookup x=some .free)/\scope.names.lookup x=some .free) fr js
theorem ik{env:Env}{x:Str}{k':NameKind}:∀{names:List (Str×NameKind)},
 (names.map λ(n,k)=>if(k == NameKind.free&&env.scope.kind == .function&&env.kindOf n == some .cell)then(n,NameKind.cell)else(n,k)).lookup x=some k' ->
 ∃k,names.lookup x=some k/\(k'=k\/(k=.free/\k'=.cell))
 | [],h=>by simp at h
 | (n,k)::r,h=>by
  have ih:=@ik env x k' r;change List.lookup x ((if(k == NameKind.free&&env.scope.kind == .function&&env.kindOf n == some .cell)=true then(n,NameKind.cell)else(n,k))::_)=_ at h
  by_cases hc:(k == NameKind.free&&env.scope.kind == .function&&env.kindOf n == some .cell)=true
  ·rw[if_pos hc]at h;cases hx:x == n with
   |true =>simp only[v8,hx]at h ⊢;cases h;refine⟨k,rfl,.inr ⟨?_,rfl⟩⟩;simp only[vV,beq_iff_eq]at hc;exact hc.1.1
   |false =>simp only[v8,hx]at h ⊢;exact ih h
  ·rw[if_neg hc]at h;cases hx:x == n with
   |true =>simp only[v8,hx]at h ⊢;cases h;exact⟨_,rfl,.inl rfl⟩
   |false =>simp only[v8,hx]at h ⊢;exact ih h
theorem jR{env:Env}{x:Str}:∀{names:List (Str×NameKind)},names.lookup x=some .free ->
 (names.map λ(n,k)=>if(k == NameKind.free&&env.scope.kind == .function&&env.kindOf n == some .cell)then(n,NameKind.cell)else(n,k)).lookup x=some .cell \/
 (names.map λ(n,k)=>if(k == NameKind.free&&env.scope.kind == .function&&env.kindOf n == some .cell)then(n,NameKind.cell)else(n,k)).lookup x=some .free
 | [],h=>by simp at h
 | (n,k)::r,h=>by
  have ih:=@jR env x r;show List.lookup x ((if(k == NameKind.free&&env.scope.kind == .function&&env.kindOf n == some .cell)=true then(n,NameKind.cell)else(n,k))::_)=_\/List.lookup x ((if(k == NameKind.free&&env.scope.kind == .function&&env.kindOf n == some .cell)=true then(n,NameKind.cell)else(n,k))::_)=_;by_cases hc:(k == NameKind.free&&env.scope.kind == .function&&env.kindOf n == some .cell)=true
  ·rw[if_pos hc];cases hx:x == n with
   |true=>simp only[v8,hx];exact .inl trivial
   |false=>simp only[v8,hx]at h ⊢;exact ih h
  ·rw[if_neg hc];cases hx:x == n with
   |true =>simp only[v8,hx]at h ⊢;cases h;exact .inr rfl
   |false=>simp only[v8,hx]at h ⊢;exact ih h
noncomputable def cU(n:Nat)(js:List Nat)(σ:St):St:=List.replicate n none++js.map λj=>(σ[j]?).join
def jq(n:Nat)(js:List Nat)(g:TG)(te:TE)(σ:St)(Q:VK)(J:It)(H1:Hp):Prop:=∃W:Nat->Nat->List V->St->Hp->Prop,(∃m,W 0 m [] (cU n js σ) H1) /\
 ∀i m ys σ' H',W i m ys σ' H' ->
  (J.stop i H'/\∀p,H' p=none->Q (.ref p) (upd H' p (.lst ys))) \/
  (J.go i H'/\ys.length<sizeLine/\∃N:V->St->Hp->Prop,(∀y σ'' H'',N y σ'' H''->∃m',m'<m/\W (i+1) m' (ys++[y]) σ'' H'')/\∀x H2,J.yld i H' x H2->g x σ' H2 λσ3 H3=>te σ3 H3 λy H4=>N y σ3 H4)
def mZ(n:Nat)(js:List Nat)(wi:TI)(g:TG)(te:TE):TE:=λσ H Q=>wi σ H λJ H1=>jq n js g te σ Q J H1
noncomputable def u0(X:Cx)(pins:List (Addr×Obj))(σ:St)(Q:VK)(D C:Addr)(s':Shared):Prop :=
 ∃H2,Inv X pins σ H2 s'/\Q (.ref D) H2/\H2 C=none/\C≠X.env.locals/\X.s₀.heap.objs.size<=C/\(∀x c,X.env.cells.lookup x=some c->c≠C)/\(∀p∈X.pn++pins,p.1≠C)/\∃m,s'.heap.Ns C m
section
variable {X:Cx}{own fr:List Str}{js:List Nat}{scope:Scope}{cl:List (Str×Addr)}{elt target iter:Expr}{pos:Pos}{wi:TI}{g:TG}{te:TE}
theorem cy(O:CompOk X fr js scope cl){x:Str}{c:Addr}(e:cl.lookup x=some c):X.env.cells.lookup x=some c:=O.clin (x,c) (PySem.mem_of_lookup e)
theorem lH{pins:List (Addr×Obj)}{σ:St}{H:Hp}{s:Shared}{fp:List Addr}{C:Addr}(O:CompOk X fr js scope cl)(I:Inv X pins σ H s)(hC:s.heap.objs.size<=C)(hf:∀b∈fp,bN X pins H b)(ho:∀b∈fp,b<s.heap.objs.size) :
 (cw X (own++fr) scope cl C s H fp).Ok:=by
 refine⟨I.ok.mod,O.kind,I.ok.glob,I.ok.blt,hC,λx y c h1 h2=>I.ok.inj x y c (cy O h1) (cy O h2),λx hx=>?_,λx c h=>(by cases h),I.ok.hd,I.ok.frames,.inl rfl,λb hb=>?_,I.bs,?_,λb o e hb=>?_,λb hb hb'=>?_,I.stack,I.stkFree⟩
 ·have key:scope.names.lookup x=some .free:=by
   have hx':(scope.names.map λ(n,k)=>if(k == NameKind.free&&X.env.scope.kind == .function&&X.env.kindOf n == some .cell)then(n,NameKind.cell)else(n,k)).lookup x=some .cell \/
    (scope.names.map λ(n,k)=>if(k == NameKind.free&&X.env.scope.kind == .function&&X.env.kindOf n == some .cell)then(n,NameKind.cell)else(n,k)).lookup x=some .free:=hx
   rcases hx' with h |h
   ·obtain⟨k,e,z⟩:=ik h;rcases z with z |⟨z,_⟩
    ·subst z;exact absurd rfl (O.cell _ (PySem.mem_of_lookup e))
    ·subst z;exact e
   ·obtain⟨k,e,z⟩:=ik h;rcases z with z |⟨_,z⟩
    ·subst z;exact e
    ·cases z
  have hm:=v4.mp O.has _ (PySem.mem_of_lookup key);have hs:(cl.lookup x).isSome=true:=by simpa using hm
  exact wq.mp hs
 ·obtain⟨f0,f1,f2,f3,f4,f5⟩:=hf b hb;exact⟨vP (vN (ho b hb) hC),λx c e=>f4 x c (cy O e)⟩
 ·exact vQ I.ok.bsz I.sz
 ·obtain⟨f0,f1,f2,f3,f4,f5⟩:=hf b hb;rcases f3 with z |z
  ·exact I.ok.noex b o e z
  ·exact absurd (vN (Heap.lt_size e) (vQ I.ok.bsz z)) (vW _)
 ·obtain⟨f0,f1,f2,f3,f4,f5⟩:=hf b hb;rcases vO.mp (I.stkSub b hb')with z |z
  ·exact f1 z
  ·exact f2 z
theorem Paired.idx{α β:Type}{F:α->β->Prop}:∀{l₁:List α} {l₂:List β},Paired F l₁ l₂->∀(i:Nat) (a:α) (b:β),l₁[i]?=some a->l₂[i]?=some b->F a b
 |_,_,.nil,_,_,_,h,_=>by simp at h
 |_,_,.cons r _,0,a,b,h1,h2=>by simp at h1 h2;subst h1;subst h2;exact r
 |_,_,.cons _ t,i+1,a,b,h1,h2=>Paired.idx t i a b (by simpa using h1) (by simpa using h2)
theorem tQ{pins:List (Addr×Obj)}{σ:St}{H:Hp}{s s':Shared}{fp:List Addr}{C:Addr}{m:Str->Option Value}(O:CompOk X fr js scope cl)(hl:fr.length=js.length)(I:Inv X pins σ H s)(hC:s.heap.objs.size<=C)(hf:∀b∈fp,bN X pins H b)
 (ho:∀b∈fp,b<s.heap.objs.size) (os:s'.os=s.os) (hg:s'.gens=s.gens) (old:∀b o,s.heap.get? b=some o->s'.heap.get? b=some o) (hn:s'.heap.Ns C m) :
 Inv (cw X (own++fr) scope cl C s H fp) [] (cU own.length js σ) H s':=by
 refine⟨lH O I hC hf ho,os,by rw[hg];exact I.bare,Un.kept old,⟨m,hn,λi x v e1 e2 e3=>?_⟩,λx c e=>?_,I.hok.fresh hC,λx c e=>I.freeC x c (cy O e),λp hp=>absurd (show p∈([]:List (Addr×Obj))from hp) (by simp),I.hok.kept old,?_⟩
 ·unfold cU at e2
  have e1':(own++fr)[i]?=some x:=e1;by_cases hi:i<own.length
  ·rw[List.getElem?_append_left (by simpa using hi),List.getElem?_replicate]at e2;split at e2<;>cases e2
  ·have hi':own.length<=i:=wv hi;rw[List.getElem?_append_right (by simpa using hi'),vR,List.getElem?_map]at e2;rw[List.getElem?_append_right hi']at e1';cases ej:js[i-own.length]? with
   |none=>rw[ej]at e2;cases e2
   |some j =>
    rw[ej]at e2;have e2':(σ[j]?).join=some v:=Option.some.inj e2
    have eσ:σ[j]?=some (some v):=by
     cases q:σ[j]? with
     |none=>rw[q]at e2';cases e2'
     |some o=>rw[q]at e2';simp at e2';rw[e2']
    obtain⟨hN,hk,hs⟩:=Paired.idx O.fre _ x j e1' ej;obtain⟨mo,hmo,hlo⟩:=I.loc;have vis:Vis X.env.scope x:=hk.elim (λz=>.inr (.inl z)) λz=>.inr (.inr z)
    obtain⟨u,r,l⟩:=hlo j x v hN eσ vis;refine⟨u,r,.inr ⟨jR hs,?_⟩⟩;have hm:=v4.mp O.has _ (PySem.mem_of_lookup hs);have hs':(cl.lookup x).isSome=true:=by simpa using hm
    obtain⟨c,ec⟩:=wq.mp hs';refine⟨c,ec,?_⟩;rcases l with⟨k,_⟩ |⟨_,c',e',z⟩
    ·have k':X.env.scope.names.lookup x=some .local:=k;rcases hk with q |q<;>(rw[q]at k';cases k')
    ·have:=cy O ec;rw[e']at this;cases this;obtain⟨oc,hoc,hd⟩:=z;exact⟨oc,old _ _ hoc,hd⟩
 ·obtain⟨v,oc,hoc,hd⟩:=I.cell x c (cy O e);exact⟨v,oc,old _ _ hoc,hd⟩
 ·unfold cU;show _=(own++fr).length;rw[vM,vM,vR,vK,hl]
theorem Un.adopt{fs ex:List Addr}{H H1:Hp}{h h1:Heap}{a:Addr}{o:HO}(u:Un fs ex H H1 h h1)(ha:h.objs.size<=a)(hn:H a=none):Un fs ex H (upd H1 a o) h h1 where
 keep:=u.keep
 slot:=u.slot
 free:=λb ob q n hx=>by rw[upd_ne (vP (vN (Heap.lt_size q) ha))];exact u.free b ob q n hx
 there:=u.there
 tups:=λb xs q=>by rw[upd_ne (aO q hn)];exact u.tups b xs q
 frzs:=λb ob xs q=>by rw[upd_ne (aO q hn)];exact u.frzs b ob xs q
 tbls:=λb ps q=>by rw[upd_ne (aO q hn)];exact u.tbls b ps q
theorem HOk.adopt{P:Program}{w:World}{H:Hp}{h:Heap}{a:Addr}{o:HO}(x:HOk P w H h)(hn:H a=none)(new:ObjOk P w (upd H a o) h a o):HOk P w (upd H a o) h:=λb u e=>by
 by_cases hb:b=a
 ·subst hb;rw[ai]at e;cases e;exact new
 ·rw[upd_ne hb]at e;exact(x b u e).stay (λc v _ q=>q) (λc q=>by rw[upd_ne (aO q hn)];exact q) λc xs q=>by rw[upd_ne (aO q hn)];exact q
theorem tW{pins:List (Addr×Obj)}{σ:St}{H:Hp}{s:Shared}{fp:List Addr}{it:Addr}{tn:Nat->Heap->Prop}{J:It}{E:Value->Shared->Prop}{Q:VK}{RR:Value->Addr->Result->Shared->Prop}(O:CompOk X fr js scope cl)(hl:fr.length=js.length)(hcm:X.calm=true)
 (I:Inv X pins σ H s) (T:Turn X.prog X.w X.K target J fp it tn) (st:tn 0 s.heap) (hf:∀b∈fp,bN X pins H b)
 (hg:∀C s₀ H₀ ex,PG (cw X (own++fr) scope cl C s₀ H₀ ex) target g) (he:∀C s₀ H₀ ex,PE (cw X (own++fr) scope cl C s₀ H₀ ex) elt te)
 (W:Nat->Nat->List V->St->Hp->Prop) {m0:Nat} (w0:W 0 m0 [] (cU own.length js σ) H)
 (turn:∀i m ys σ' H',W i m ys σ' H' ->
   (J.stop i H'/\∀p,H' p=none->Q (.ref p) (upd H' p (.lst ys))) \/
   (J.go i H'/\ys.length<sizeLine/\∃N:V->St->Hp->Prop,(∀y σ'' H'',N y σ'' H''->∃m',m'<m/\W (i+1) m' (ys++[y]) σ'' H'')/\∀x H2,J.yld i H' x H2->g x σ' H2 λσ3 H3=>te σ3 H3 λy H4=>N y σ3 H4))
 (hRR:∀D C s',u0 X pins σ Q D C s'->RR (.ref D) C (.ok .next) s') :
 wpAny (model X.prog X.w) X.A (newList []) (λacc s₃=>wpAny (model X.prog X.w) X.A (newFunctionEnv scope X.env.globals cl [] X.env.qual none .none (some X.env)) (λcenv s₄ =>
  codeAny (model X.prog X.w) X.A (.compStart (.ListComp elt [⟨target,iter,[],0⟩] scope pos) 0 (.ref it) acc { cenv with scope:=relabel scope X.env }) (RR acc cenv.locals) s₄) E s₃) E s:=by
 refine wpAny_newObj_type (wpAny_newFunctionEnv O.cell (by intro y hy;simp at hy) (λh₁ hns₁ hsb₁=>?_) O.kind);dsimp only at hns₁ hsb₁ ⊢
 generalize hH2:s.heap.push { cls:=.type "list",dict:=none,data:=.seq ([]:List Value).toArray }=H2 at hns₁ hsb₁ ⊢
 have hCs:H2.objs.size=s.heap.objs.size+1:=by rw[<- hH2,Heap.size_push]
 have hDC:s.heap.objs.size≠H2.objs.size:=by rw[hCs];exact vP (wo _)
 have hCge:s.heap.objs.size<=H2.objs.size:=by rw[hCs];exact Nat.le_succ _
 have below:∀b,b<s.heap.objs.size->b≠H2.objs.size/\b≠s.heap.objs.size:=λb hb=>⟨by rw[hCs];exact vP (Nat.lt_succ_of_lt hb),vP hb⟩
 have old:∀b o,s.heap.get? b=some o->h₁.get? b=some o:=λb o e=>hsb₁.extBut b o (below b (Heap.lt_size e)).1 (Heap.get?_push_of_some _ (hH2 ▸ Heap.get?_push_of_some _ e))
 have hacc:h₁.get? s.heap.objs.size=some { cls:=.type "list",data:=.seq ([]:List Value).toArray 0 }:=hsb₁.extBut _ _ hDC (Heap.get?_push_of_some _ (hH2 ▸ Heap.get?_push_size _ rfl));have ho:∀b∈fp,b<s.heap.objs.size:=λb hb=>by obtain⟨o,e,_⟩:=T.obj 0 _ st b hb;exact Heap.lt_size e
 generalize hDe:s.heap.objs.size=D at *
 generalize hCe:H2.objs.size=C at *
 let X':Cx:=cw X (own++fr) scope cl C s H fp
 have ok':X'.Ok:=lH O I (by rw[hDe];exact hCge) hf (by rw[hDe];exact ho)
 have hDfs:D∉X'.fs:=by
  intro z;rcases vO.mp (I.stkSub D z)with q |q
  ·exact absurd I.lt (by rw[<- q,hDe];exact vW _)
  ·exact I.nofs (wa hDe) q
 have hDfp:∀b∈fp,D≠b:=λb hb z=>absurd (ho b hb) (by rw[z];exact vW _)
 have hDcell:∀x c,cl.lookup x=some c->c≠D:=λx c e z=>by obtain⟨v,q⟩:=I.cell x c (cy O e);exact absurd q.lt (by rw[z,hDe];exact vW _)
 have fpok:∀{H':Hp} {pins':List (Addr×Obj)},(∀p∈pins',p.1=D)->(∀b∈fp,H' b=none)->∀b∈fp,bN X' pins' H' b:=λ{H' pins'} hp hn b hb=>by
  obtain⟨f0,f1,f2,f3,f4,f5⟩:=hf b hb;refine⟨hn b hb,(below b (ho b hb)).1,λz=>?_,.inl hb,λx c e=>f4 x c (cy O e),λp hp'=>?_⟩
  ·rcases vO.mp (I.stkSub b z)with q |q
   ·exact f1 q
   ·exact f2 q
  ·have hp'':p∈pins':=by simpa[X',cw]using hp'
   rw[hp p hp''];exact hDfp b hb
 have loop:∀s₃:Shared,s₃={ s with heap:=h₁,toks:=s.toks+([]:List (Str×Value)).length } ->
  codeAny (model X.prog X.w) X.A (.compLoop (.ListComp elt [⟨target,iter,[],0⟩] scope pos) 0 (.ref it) (.ref D) (compEnvC scope cl C X.env)) (RR (.ref D) C) s₃:=by
  rintro s₃ rfl
  refine PySem.W.kcp_loop (λk s'=>∃i σ' H' ys its nn,Inv X' [] σ' H' s'/\tn i s'.heap/\(∀b∈fp,H' b=none)/\H' D=none/\s'.heap.get? D=some { cls:=.type "list",data:=.seq (its:List Value).toArray nn }/\Vals ys its/\ys.length<=sizeLine/\W i k ys σ' H') ?_ m0
   ⟨0,_,H,[],[],0,tQ O hl I (by rw[hDe];exact hCge) hf (by rw[hDe];exact ho) rfl rfl (by intro b o e;exact old b o e) hns₁,T.keep _ _ _ st λb _ o e=>old b o e,λb hb=>(hf b hb).1,I.hok.fresh (wa hDe),hacc,.nil,vT _,w0⟩
  rintro k s' ⟨i,σ',H',ys,its,nn,I',st',hfn,hDn,hDo,rv,hz,w⟩;have hlen:=rv.length;have hpD:∀p∈[(D,({ cls:=.type "list",data:=.seq its.toArray nn }:Obj))],p.1=D:=λp hp=>by rw[v3.mp hp]
  have Ip:Inv X' [(D,({ cls:=.type "list",data:=.seq its.toArray nn }:Obj))] σ' H' s':=I'.pins_of λp hp=>by rw[v3.mp hp];exact⟨hDo,hDn,hDC,hDfs,λv z=>by cases z⟩
  rcases turn i k ys σ' H' w with⟨stop,fin⟩ |⟨go,hlt,N,hN,step⟩
  ·refine wpAny_mono (T.done X' rfl rfl rfl hcm i _ s' σ' H' (λ_ _=>False) Ip (fpok hpD hfn) st' stop) (λr s4 ⟨hr,I4⟩=>?_) λ_ _ z=>False.elim z
   subst hr;refine hRR D C s4 ?_;have hD4:s4.heap.get? D=some { cls:=.type "list",data:=.seq its.toArray nn }:=(I4.pin _ (vX _ (v3.mpr rfl))).1;have un:Un (frs X.stack) fp H (upd H' D (.lst ys)) s.heap s4.heap:=Un.adopt I4.base (wa hDe) (I.hok.fresh (wa hDe));have hok:HOk X.prog X.w (upd H' D (.lst ys)) s4.heap:=HOk.adopt I4.hok hDn ⟨hz,its,nn,rv,hD4⟩;refine⟨upd H' D (.lst ys),I.call' I4.os un hok I4.bare λb hb=>?_,fin D hDn,?_,?_,?_,λx c e z=>?_,λp hp z=>?_,?_⟩
   ·obtain⟨f0,f1,f2,f3,f4,f5⟩:=hf b hb;exact⟨f3,f1,f4,f5⟩
   ·rw[upd_ne (Ne.symm hDC)];exact I4.free
   ·exact Nat.ne_of_gt (vN I.lt (by rw[hDe];exact hCge))
   ·exact vQ I.sz (by rw[hDe];exact hCge)
   ·obtain⟨v,q⟩:=I.cell x c e;exact absurd (vN q.lt (by rw[hDe,z];exact hCge)) (vW _)
   ·exact absurd (vN (Heap.lt_size (I.pin p hp).1) (by rw[hDe,z];exact hCge)) (vW _)
   ·obtain⟨m',hn',_⟩:=I4.loc;exact⟨m',hn'⟩
  ·refine wpAny_mono (T.item X' rfl rfl rfl hcm i _ s' σ' H' (λ_ _=>False) Ip (fpok hpD hfn) st' go) (λr s4 ⟨u,hr,h4⟩=>?_) λ_ _ z=>False.elim z
   subst hr;refine wpAny_mono h4 (λ_ s5 ⟨x,H5,I5,r5,y5,st5,fr5⟩=>?_) λ_ _ z=>False.elim z
   have I5':=I5.pinned (fpok hpD fr5) (T.obj _ _ st5);refine wpAny_mono (hg C s H fp _ s5 σ' H5 x u _ I5' r5 (step x H5 y5)) (λ_ s6 ⟨σ6,H6,I6,q6⟩=>?_) λ_ _ z=>False.elim z
   refine wpAny_mono (he C s H fp _ s6 σ6 H6 _ I6 q6) (λv s7 ⟨y,H7,I7,r7,n7⟩=>?_) λ_ _ z=>False.elim z
   obtain⟨m',hm',w7⟩:=hN y σ6 H7 n7;have hD7:=I7.pin (D,{ cls:=.type "list",data:=.seq its.toArray nn }) (vX _ (List.mem_append_left _ (v3.mpr rfl)));refine append_at hD7.1 (λh8 sb hD8=>?_) (by rw[vS,<- hlen];exact hz);have I7':Inv X' [] σ6 H7 s7:=I7.pins_of λp hp=>absurd hp (by simp)
   have I8:Inv X' [] σ6 H7 { s7 with heap:=h8 }:=I7'.turned (t':=s7.toks) (it:=D) (λb o hb e=>(sb.2 b hb).trans e) hD7.2.1 hDC (.inr (wa hDe)) hDcell (λp hp=>absurd (show p∈([]:List (Addr×Obj))from hp) (by simp));refine⟨m',hm',i+1,σ6,H7,ys++[y],its++[v],nn+1,I8,T.keep _ _ _ st5 λb hb o e=>?_,λb hb=>?_,hD7.2.1,?_,rv.append (.cons r7 .nil),?_,w7⟩
   ·exact(sb.2 b (λz=>hDfp b hb z.symm)).trans (I7.pin (b,o) (vX _ (vX _ (gg hb e)))).1
   ·obtain⟨o,e,d⟩:=T.obj _ _ st5 b hb;exact(I7.pin (b,o) (vX _ (vX _ (gg hb e)))).2.1
   ·rw[hD8,List.push_toArray]
   ·rw[vM,wy];exact hlt
 exact codeAny_compStart_list (loop _ rfl) (T.self _ 0 _ _ _ (T.keep _ _ _ st λb _ o e=>old b o e) (loop _ rfl))
theorem j0(O:CompOk X fr js scope cl)(hcm:X.calm=true)(hi:PI X target iter wi)(hg:∀C s₀ H₀ ex,PG (cw X (own++fr) scope cl C s₀ H₀ ex) target g)(he:∀C s₀ H₀ ex,PE (cw X (own++fr) scope cl C s₀ H₀ ex) elt te)
 (hs:∀x,foldedSetIterable iter X.env x=pure x:=by intro _;rfl):PE X (.ListComp elt [⟨target,iter,[],0⟩] scope pos) (mZ own.length js wi g te):=by
 intro pins s σ H Q I h;rw[eval_ListComp];refine wpAny_comprehension_free (use:=none) rfl hs O.clos O.kind O.names (thn (hi pins s σ H _ I h) λx s1 h1=>thn h1 λitv s2 h2=>?_);obtain⟨it,fp,tn,J,H2,rfl,I2,T,st,hf,W,⟨m0,w0⟩,turn⟩:=h2;refine tW (RR:=λacc C=>compPost (model X.prog X.w) X.A X.xe none (EP X pins σ Q) acc C) O (Paired.length O.fre) hcm I2 T st hf hg he W w0 turn ?_;rintro D C s' ⟨H3,I3,q,c1,c2,c3,c4,c5,m,hn⟩;exact⟨m,hn,λh' sb=>⟨.ref D,H3,I3.turned (t':=s'.toks) (it:=C) (λb o hb e=>(sb.2 b hb).trans e) c1 c2 (.inr c3) c4 c5,rfl,q⟩⟩
end
theorem tV{k:Nat}{js:List Nat}{lo:Int}{n:Nat}{g:TG}{te:TE}{σ0:St}{H:Hp}{Q:VK}(Pv:Nat->List V->St->Hp->Prop)(hz:n<=sizeLine)(h0:Pv 0 [] (cU k js σ0) H)(hl:∀i ys σ H,i<=n->Pv i ys σ H->ys.length<=i)
 (hs:∀i ys σ H,i<n->Pv i ys σ H->g (.int (lo+i)) σ H λσ2 H2=>te σ2 H2 λy H3=>Pv (i+1) (ys++[y]) σ2 H3) (hd:∀ys σ H p,Pv n ys σ H->H p=none->Q (.ref p) (upd H p (.lst ys))) :
 jq k js g te σ0 Q (Itr lo n) H:=by
 refine⟨λi m ys σ H=>m=n-i/\i<=n/\Pv i ys σ H,⟨n,by simp,vT _,h0⟩,?_⟩;rintro i m ys σ H ⟨rfl,hi,p⟩;have hy:=hl i ys σ H hi p;by_cases hlt:i<n
 ·refine .inr ⟨hlt,by omega,λy σ'' H''=>Pv (i+1) (ys++[y]) σ'' H'',λy σ' H' p'=>⟨n-(i+1),by omega,rfl,hlt,p'⟩,λx H' y=>?_⟩;obtain⟨e,y⟩:=y;subst e y;exact hs i ys σ _ hlt p
 ·have e:i=n:=by omega
  subst e;exact .inl ⟨vJ _,λr hr=>hd ys σ H r p hr⟩
def Bits(k:Nat)(i:Int):Prop:=i.natAbs<2^k
theorem Bits.mono{j k:Nat}{i:Int}(h:Bits j i)(hk:j<=k:=by decide):Bits k i:=vN h (Nat.pow_le_pow_right (by decide) hk)
theorem Bits.mul{j k:Nat}{a b:Int}(ha:Bits j a)(hb:Bits k b):Bits (j+k) (a*b):=by
 unfold Bits at *
 rw[Int.natAbs_mul,Nat.pow_add];exact Nat.mul_lt_mul_of_lt_of_lt ha hb
theorem Bits.add{k:Nat}{a b:Int}(ha:Bits k a)(hb:Bits k b):Bits (k+1) (a+b):=by
 unfold Bits at *
 have:=Int.natAbs_add_le a b;rw[Nat.pow_succ];omega
theorem Bits.neg{k:Nat}{a:Int}(ha:Bits k a):Bits k (-a):=by unfold Bits at *;rwa [Int.natAbs_neg]
theorem Bits.sub{k:Nat}{a b:Int}(ha:Bits k a)(hb:Bits k b):Bits (k+1) (a-b):=by rw[Int.sub_eq_add_neg];exact ha.add hb.neg
theorem Bits.zero{k:Nat}:Bits k 0:=Nat.pow_pos (by decide)
theorem Bits.log{k:Nat}{i:Int}(h:Bits k i)(hk:0<k):i.natAbs.log2<k:=by
 by_cases h0:i.natAbs=0
 ·rw[h0];simpa using hk
 ·exact(Nat.log2_lt h0).mpr h
theorem Bits.int{k:Nat}{i:Int}(h:Bits k i)(hk:k<=1000000):Builtin.Int.intBits i<=2^20:=by
 have e:(2:Nat)^20=1048576:=by decide
 unfold Builtin.Int.intBits;split
 ·exact vT _
 ·rename_i hn
  have h0:i.natAbs≠0:=by intro z;have:i=0:=Int.natAbs_eq_zero.mp z;exact hn (by simp[this])
  have:=(Nat.log2_lt h0).mpr h;omega
section
variable {X:Cx}{a b:Expr}{ta tb:TE}{pos:Pos}
def vE(i j:Int):Prop:=Bits 1000000 i/\Bits 1000000 j
theorem fY:OpR X (binaryOp .Mult) (rI vE λi j=>.int (i*j)):=opI λ_ _ _ _ _ _ _ hc q=>mul_int q (.of_bits (hc.1.int (vJ _)) (hc.2.int (vJ _)))
theorem bh:OpR X (binaryOp .Mod) (rI (λ_ j=>0<j) λi j=>.int (i%j)):=oN
def vF(_ j:Int):Prop:=0<j/\Bits 9000 j
theorem eX:OpR X (binaryOp .FloorDiv) (rI vF λi j=>.int (i/j)):=opI λi j _ _ _ _ _ hc q=>by refine floordiv_int (Int.ne_of_gt hc.1) ?_ (.inl (PyProof.noPylong_of_log2 (hc.2.log (by decide))));rw[Int.fdiv_eq_ediv_of_nonneg _ (Int.le_of_lt hc.1)];exact q
theorem cu:OpR X (compareOp .Eq) (rI0 λi j=>.bl (decide (i=j))):=eY λ_ _ _ _ _ _ _ q=>eq_int (by rw[Bool.beq_eq_decide_eq];exact q)
theorem j7:OpR X (compareOp .NotEq) (rI0 λi j=>.bl (!decide (i=j))):=eY λ_ _ _ _ _ _ _ q=>ne_int (by rw[bne,Bool.beq_eq_decide_eq];exact q)
noncomputable def eI(K:PySem.W.Frag):List V->Hp->VK->Prop:=λxs H Q=>∃(x:V) (t c:Value) (n:V) (k:Bool),xs=[x,n]/\RelV n c/\(∀u,RelV n u->u=c)/\TyOf K H x t/\PySem.W.kitOne K t c=some k/\Q (.bl k) H
theorem t8:bq X (.builtin "isinstance") (eI X.K):=by intro pins s σ H xs us Q I r h;obtain⟨x,t,c,n,k,rfl,rn,hn,ty,e,q⟩:=h;obtain⟨u1,u2,rfl,r1,r2⟩:=r.two;obtain rfl:=hn u2 r2;exact rk I r1 ty e λtk=>⟨.bl k,H,I.tok tk,rfl,q⟩
theorem iY{K:PySem.W.Frag}{H:Hp}{Q:VK}{x:V}{n:String}{t:Value}{k:Bool}(ty:TyOf K H x t)(e:PySem.W.kitOne K t (.type n)=some k)(q:Q (.bl k) H):eI K [x,.ty n] H Q :=
 ⟨x,t,.type n,.ty n,k,rfl,rfl,λ_ h=>h,ty,e,q⟩
end
section
variable {D:Ends}{σ:St}{H:Hp}{Q:VK}{t u:TS}{te ta tb:TE}{c:TT}{i:Nat}{v:V}{r:R2}
theorem jS(P:St->Hp->Prop)(h1:∀σ' H',P σ' H'->u D σ' H')(h2:(∀σ' H',P σ' H'->u D σ' H')->t { D with nx:=u D } σ H):aV t u D σ H:=h2 h1
theorem cm(P:St->Hp->Prop)(h:P σ H)(h1:∀σ' H',P σ' H'->u D σ' H'):u D σ H:=h1 σ H h
theorem aK(h:te σ H λx H1=>u D (σ.set i (some x)) H1):aV (cE te (cV i)) u D σ H:=h
theorem il(h:te σ H λ_ H1=>u D σ H1):aV (gL te) u D σ H:=h
theorem aQ{t1:TS}(h:c σ H λb H1=>if b=true then t1 { D with nx:=u D } σ H1 else u D σ H1):aV (bO c t1 gK) u D σ H:=h
theorem iq{K:PySem.W.Frag}{n:V}(h:ta σ H λx H1=>eI K [x,n] H1 Q):tCB (eI K) (cD ta (cD (tC n) eB)) σ H Q:=h
theorem bf{t1 t2:TS}(P:St->Hp->Prop)(h1:∀σ' H',P σ' H'->u D σ' H')(h2:(∀σ' H',P σ' H'->u D σ' H')->c σ H λb H1=>if b=true then t1 { D with nx:=u D } σ H1 else t2 { D with nx:=u D } σ H1):aV (bO c t1 t2) u D σ H:=h2 h1
theorem aZ(h:te σ H λx H1=>D.nx (σ.set i (some x)) H1):cE te (cV i) D σ H:=h
theorem aH(h:te σ H D.rt):jF te D σ H:=h
theorem fU(h:te σ H λ_ H1=>D.nx σ H1):gL te D σ H:=h
theorem ip(h:D.nx σ H):gK D σ H:=h
theorem aY(h:c σ H λb H1=>if b=true then t D σ H1 else u D σ H1):bO c t u D σ H:=h
theorem nU{K:Bool->Hp->Prop}(h:te σ H λx H'=>∃k,x=.bl k/\K k H'):tB te σ H K:=h
theorem fS{K:Bool->Hp->Prop}{tt:TT}(h:tt σ H λk H1=>K (!k) H1):jI tt σ H K:=h
theorem bg{K:Bool->Hp->Prop}{t1 t2:TT}(h:t1 σ H λk H1=>if k=true then t2 σ H1 K else K false H1):gN t1 t2 σ H K:=h
theorem eF{K:Bool->Hp->Prop}{t1 t2:TT}(h:t1 σ H λk H1=>if k=true then K true H1 else t2 σ H1 K):tOr t1 t2 σ H K:=h
theorem br(h:ta σ H λx H1=>∃k,x=.bl k/\if k=true then tb σ H1 Q else Q (.bl false) H1):jL ta tb σ H Q:=h
theorem nQ(h:ta σ H λx H1=>∃k,x=.bl k/\if k=true then Q (.bl true) H1 else tb σ H1 Q):jG ta tb σ H Q:=h
theorem io(h:ta σ H λx H1=>∃k,x=.bl k/\Q (.bl (!k)) H1):jH ta σ H Q:=h
theorem aD{A B:Prop}(h:A):if true=true then A else B:=by rw[if_pos rfl];exact h
theorem aC{A B:Prop}(h:B):if false=true then A else B:=by rw[if_neg vL];exact h
theorem aq{p A B:Prop}[Decidable p](h1:p->A)(h2:¬p->B):if decide p=true then A else B:=by
 by_cases hp:p
 ·rw[if_pos (decide_eq_true hp)];exact h1 hp
 ·rw[if_neg (by rw[decide_eq_false hp];exact vL)];exact h2 hp
theorem eG{p A B:Prop}[Decidable p](h1:¬p->A)(h2:p->B):if(!decide p)=true then A else B:=by
 by_cases hp:p
 ·rw[if_neg (by rw[decide_eq_true hp];exact vL)];exact h2 hp
 ·rw[if_pos (by rw[decide_eq_false hp];rfl)];exact h1 hp
end
structure Cal(P:Program)(w:World)(K:PySem.W.Frag)(mg:Str->Option Value)(base:Heap)(k:Nat)(x:Str)(ps:List Str)(sp:Sp)(f:Addr)(fd:FuncData):Prop where
 ok:FnOk P w K mg base CX0 k f fd ps sp
 mg:mg x=some (.ref f)
 kp:PySem.W.keepIn K (.ref f)=true
 bd:Binds K fd ps []
theorem Same.upd_new{H:Hp}{p:Addr}{o:HO}(h:H p=none):Same H (upd H p o):=λb u e=>by rw[upd_ne (aO e h)];exact e
theorem Same.then_new{H H1:Hp}{p:Addr}{o:HO}(s:Same H H1)(h:H1 p=none):Same H (upd H1 p o):=s.trans (Same.upd_new h)
theorem Same.ne{H H1:Hp}{a p:Addr}{o:HO}(s:Same H H1)(e:H a=some o)(h:H1 p=none):a≠p:=aO (s a o e) h
section
variable {X:Cx}{K:PySem.W.Frag}
theorem ay(h:X.K=K):IxR X (jU K):=by subst h;exact rj
theorem kT(h:X.K=K):IxR X (jT K):=by subst h;exact rh
theorem ig(h:X.K=K):SlR X (fV K):=by subst h;exact nl
noncomputable def n0(K:PySem.W.Frag):List V->Hp->VK->Prop:=λxs H Q=>∃p ys,xs=[.ref p]/\(SqL K H p ys\/SqT K H p ys)/\Q (.int ys.length) H
theorem bj(h:X.K=K):bq X (.builtin "len") (n0 K):=by subst h;exact t7
theorem ji(h:X.K=K):bq X (.builtin "isinstance") (eI K):=by subst h;exact t8
theorem ou{tg l:Expr}{tl:TE}(h:X.K=K)(hl:PE X l tl):PI X tg l (lj K tl):=by subst h;exact oy hl
theorem jX{tg l:Expr}{tl:TE}(h:X.K=K)(hl:PE X l tl):PI X tg l (li K tl):=by subst h;exact oq hl
theorem bo{e:Expr}{ta:TE}{f:Str}{pos:Pos}(h:X.K=K)(he:PE X e ta)(hb:attributeBase e f X.env (eval e X.env)=eval e X.env):PE X (.Attribute e f pos) (jK K ta f):=by subst h;exact oC he hb
end
section
variable {X:Cx}
end
section
variable {X:Cx}{tg:Expr}
end
structure FunD(K:PySem.W.Frag)(x qual:Str)(st:Stmt)(dV:Value)(f:Addr)(fd:FuncData):Prop where
 ex:∃(oc:Value) (od:Option Addr) (kV doc pm:Value) (an:Option Addr) (cdv ct:Value) (osl:Array (Option Value)),
  fd=PySem.W.fnOf x qual (az st) (aw st) (ah st) dV kV doc pm an cdv ct/\K.lookup f=some ⟨oc,od,.func fd,osl⟩/\PySem.W.codeIn K cdv qual=true
 kp:PySem.W.keepIn K (.ref f)=true
section
variable {P:Program}{w:World}{K:PySem.W.Frag}{mg:Str->Option Value}{base:Heap}
theorem FunD.ok{x qual:Str}{st:Stmt}{dV:Value}{f:Addr}{fd:FuncData}{N ps:List Str}{k:Nat}{sp:Sp}(F:FunD K x qual st dV f fd)(S:FnScope N ps (ah st))(len:∀vs H Q E,sp vs H Q E->vs.length=ps.length)
 (hbody:∀(cdv:Value) (A:Around) (outer:List Env) (s:Shared) (H:Hp) (vs:List V) (Q:VK) (E:XK),Room k (A.deeper (envOfC qual (ah st) s.heap.objs.size f cdv))->sp vs H Q E ->
   ∃t,PSs (aJ CX0 P w K mg base N qual (ah st) f cdv A outer s H E).nox (aw st) t/\t { nx:=λ_ H'=>Q .non H',rt:=Q } (start N vs) H):FnOk P w K mg base CX0 (k+1) f fd ps sp:=by
 obtain⟨oc,od,kV,doc,pm,an,cdv,ct,osl,rfl,lk,hcd⟩:=F.ex;refine gu lk hcd S len λA outer s H vs Q E hr hsp=>?_
 obtain⟨t,h,q⟩:=hbody cdv A outer s H vs Q E hr hsp;exact⟨t,h.nox,q⟩
theorem FunD.binds{x qual:Str}{st:Stmt}{dV:Value}{f:Addr}{fd:FuncData}{ps:List Str}(F:FunD K x qual st dV f fd)
 (h:∀(kV doc pm:Value) (an:Option Addr) (cdv ct:Value) (us:List Value),us.length=ps.length->bindArgs (PySem.W.fnOf x qual (az st) (aw st) (ah st) dV kV doc pm an cdv ct) ⟨us,[]⟩=pure (ps.zip us)):Binds K fd ps []:=by
 obtain⟨oc,od,kV,doc,pm,an,cdv,ct,osl,rfl,lk,hcd⟩:=F.ex;exact .all (h kV doc pm an cdv ct)
end
structure MCal(P:Program)(w:World)(K:PySem.W.Frag)(mg:Str->Option Value)(base:Heap)(k:Nat)(C:Addr)(m:Str)(ps:List Str)(sp:Sp)(f:Addr)(fd:FuncData):Prop where
 ok:FnOk P w K mg base CX0 k f fd ps sp
 mt:Meth K C m f
 bd:Binds K fd ps []
structure KCal(P:Program)(w:World)(K:PySem.W.Frag)(mg:Str->Option Value)(base:Heap)(k:Nat)(C:Addr)(x:Str)(ps:List Str)(sp:Sp)(f:Addr)(fd:FuncData)(ds:List Value)(dvs:List V):Prop where
 ok:FnOk P w K mg base CX0 k f fd ps sp
 mkr:Mk K C f
 mg:mg x=some (.ref C)
 bd:Binds K fd ps []
 bdD:Binds K fd ps ds
 vd:Vals dvs ds
section
variable {prog:Program}{w:World}{A:Around}{E:Value->Shared->Prop}{s:Shared}
end
section
variable {X:Cx}{K:PySem.W.Frag}
end
noncomputable def CXW(P:Program)(w:World):CXT:=λouter H s E e s'=>∃(ea:Addr) (cls a0:Value) (B:Heap) (H':Hp),e=.ref ea/\s'.os=s.os/\AllBare s'.gens/\Un (frs outer) [] H H' s.heap s'.heap/\HOk P w H' s'.heap /\
 Heap.FlyingW B outer ea cls a0 s'.heap/\(∀b o,s.heap.get? b=some o->b∉frs outer->∃o',s'.heap.get? b=some o'/\B.get? b=some o')/\(∀b x,H' b=some x->∃o',s'.heap.get? b=some o'/\B.get? b=some o')/\H' ea=none/\s.heap.get? ea=none/\E cls none H'
theorem Un.back{fs:List Addr}{H H1:Hp}{h h1 h2:Heap}(u:Un fs [] H H1 h h1)(k:∀b o,h.get? b=some o->b∉fs->∃o',h1.get? b=some o'/\h2.get? b=some o')
 (hf:∀b∈fs,H b=none) (hd:∀b∈fs,∀o,h1.get? b=some o->∀vs,o.data≠.fields vs) (sl:h1.UpToSlots h2):Un fs [] H H1 h h2 where
 keep:=λb o e n hb hx=>by obtain⟨o',e1,e2⟩:=k b o e hb;rw[u.keep b o e n hb hx]at e1;cases e1;exact e2
 slot:=λb o e n hb hx=>by obtain⟨s1,e1⟩:=u.slot b o e n hb hx;obtain⟨s2,e2⟩:=sl b _ e1 (hd b hb _ e1);exact⟨s2,e2⟩
 free:=u.free
 there:=λb o e hx=>by
  by_cases hb:b∈fs
  ·obtain⟨s1,e1⟩:=u.slot b o e (hf b hb) hb hx;obtain⟨s2,e2⟩:=sl b _ e1 (hd b hb _ e1);exact⟨_,e2⟩
  ·obtain⟨o',_,e2⟩:=k b o e hb;exact⟨o',e2⟩
 tups:=u.tups
 frzs:=u.frzs
 tbls:=u.tbls
theorem HOk.back{P:Program}{w:World}{H:Hp}{h h' B:Heap}(x:HOk P w H h)(k:∀b y,H b=some y->∃o',h.get? b=some o'/\B.get? b=some o')(st:B.StaysIn h'):HOk P w H h':=λa o e=>by
 refine(x a o e).stay (λb u hb q=>?_) (λ_ z=>z) λ_ _ z=>z
 have hn:∃y,H b=some y:=by
  rcases hb with rfl |hb
  ·exact⟨_,e⟩
  ·exact⟨_,hb⟩
 obtain⟨y,hy⟩:=hn;obtain⟨o',e1,e2⟩:=k b y hy;rw[q]at e1;cases e1;exact st _ _ e2
theorem pK{P:Program}{w:World}{H:Hp}{h:Heap}{a:Addr}{o:HO}(x:ObjOk P w H h a o):∃u,h.get? a=some u:=by
 induction o with
 |lst xs=>obtain⟨_,_,_,_,e⟩:=x;exact⟨_,e⟩
 |tup xs=>obtain⟨z,its,r,ob,e,c⟩:=x;exact⟨_,e⟩
 |dK kvs=>obtain⟨z,y,vs,r,ob,es,ep,e,c⟩:=x;exact⟨_,e⟩
 |dT kvs=>obtain⟨z,y,xs,r,ob,es,ep,e,c⟩:=x;exact⟨_,e⟩
 |set S n=>obtain⟨ob,es,ep,t,e,c⟩:=x;exact⟨_,e⟩
 |ins C dx fs=>obtain⟨d,z,ne,e,_⟩:=x;exact⟨_,e⟩
 |own y=>obtain⟨ob,e⟩:=x;exact⟨_,e⟩
 |xd fs=>obtain⟨mA,⟨od,es,ep,e,c⟩,r⟩:=x;exact⟨_,e⟩
 |rng lo hi=>obtain⟨t,u,v,e⟩:=x;exact⟨_,e⟩
 |frz ob u ih=>exact⟨_,x.1⟩
 |tbl ps=>exact⟨_,x⟩
 |met f y=>exact⟨_,x⟩
 |ext φ=>obtain⟨p,⟨o,e⟩,st⟩:=x;exact⟨_,e⟩
theorem ln{env:Env}{outer:List Env}{L:Addr}(h:env.frame=some L):frs (env::outer)=L::frs outer:=by unfold frs;rw[wx,h]
section
variable {P:Program}{w:World}{K:PySem.W.Frag}{mg:Str->Option Value}{base:Heap}{N:List Str}{qual:Str}{scope:Scope}{f:Addr}{cd:Value}{A:Around}{outer:List Env}{s:Shared}{H:Hp}{E:XK}{pins:List (Addr×Obj)}{σ:St}{H1:Hp}{s1:Shared}
theorem rQ(I:Inv (aJ (CXW P w) P w K mg base N qual scope f cd A outer s H E) pins σ H1 s1):∀b∈frs outer,∀o,s1.heap.get? b=some o->∀vs,o.data≠.fields vs:=λb hb o e=>by obtain⟨_,o',e',hd⟩:=I.funs.mem hb;have e'':s1.heap.get? b=some o':=e';rw[e]at e'';cases e'';exact hd
theorem mC{E':XK}{e:Value}{s2:Shared}(I:Inv (aJ (CXW P w) P w K mg base N qual scope f cd A outer s H E) pins σ H1 s1)(h:CXW P w (aJ (CXW P w) P w K mg base N qual scope f cd A outer s H E).stack H1 s1 E' e s2)(hE:∀c d H',E' c d H'->E c d H') :
 (aJ (CXW P w) P w K mg base N qual scope f cd A outer s H E).xe e s2:=by
 obtain⟨ea,cls,a0,B,H2,rfl,os,bare,un,hok,fl,b1,b2,he,hn,hE'⟩:=h;have J:Inv (aJ (CXW P w) P w K mg base N qual scope f cd A outer s H E) pins σ H2 s2:=I.call' os un hok bare (λb hb=>nomatch hb);have hfrm:(envOfC qual scope s.heap.objs.size f cd).frame=some s.heap.objs.size:=rfl;have efr:frs (envOfC qual scope s.heap.objs.size f cd::outer)=s.heap.objs.size::frs outer:=ln hfrm
 have b1':∀b o,s.heap.get? b=some o->b∉frs outer->∃o',s2.heap.get? b=some o'/\B.get? b=some o':=λb o q hb=>by
  obtain⟨o',q'⟩:=I.base.there b o q (λz=>nomatch z);refine b1 b o' q' ?_;show b∉frs (envOfC qual scope s.heap.objs.size f cd::outer);rw[efr];intro z;rcases vO.mp z with z |z
  ·exact absurd (Heap.lt_size q) (by rw[z];exact vW _)
  ·exact hb z
 refine wpAny_leaves_onW (L:=s.heap.objs.size) I.ok.frames hfrm fl λh'' fl' up=>?_
 refine⟨ea,cls,a0,B,H2,rfl,J.os,J.bare,?_,J.hok.back b2 fl'.1,fl',λb o q hb=>?_,λb x q=>?_,he,?_,hE _ _ _ hE'⟩
 ·exact J.base.back (λb o q hb=>let⟨o',q1,q2⟩:=b1' b o q hb;⟨o',q1,fl'.1 _ _ q2⟩) I.ok.frf (rQ J) up
 ·obtain⟨o',q1,q2⟩:=b1' b o q hb;exact⟨o',fl'.1 _ _ q2,q2⟩
 ·obtain⟨o',q1,q2⟩:=b2 b x q;exact⟨o',fl'.1 _ _ q2,q2⟩
 ·cases q:s.heap.get? ea with
  |none=>rfl
  |some o=>obtain⟨o',q'⟩:=I.base.there ea o q (λz=>nomatch z);rw[hn]at q';cases q'
end
section
variable {P:Program}{w:World}{K:PySem.W.Frag}{mg:Str->Option Value}{base:Heap}
end
section
variable {X:Cx}{pins:List (Addr×Obj)}{σ:St}{H1 H2:Hp}{s1 s2:Shared}
theorem lO{B h3:Heap}{ea:Addr}{cls a0:Value}(I:Inv X pins σ H1 s1)(os:s2.os=s1.os)(bare:AllBare s2.gens)(un:Un (frs X.stack) [] H1 H2 s1.heap s2.heap)(hok:HOk X.prog X.w H2 s2.heap)(fl:Heap.FlyingW B X.stack ea cls a0 s2.heap)
 (b1:∀b o,s1.heap.get? b=some o->b∉frs X.stack->∃o',s2.heap.get? b=some o'/\B.get? b=some o') (b2:∀b x,H2 b=some x->∃o',s2.heap.get? b=some o'/\B.get? b=some o') (st:B.StaysIn h3) (up:s2.heap.UpToSlots h3) :
 Inv X pins σ H2 { s2 with heap:=h3 }:=by
 refine I.call' (s':={ s2 with heap:=h3 }) (ch:=[]) os (un.back (λb o q hb=>let⟨o',q1,q2⟩:=b1 b o q hb;⟨o',q1,st _ _ q2⟩) I.stkFree (λb hb o e=>?_) up) (hok.back b2 st) bare (λb hb=>nomatch hb);obtain⟨_,o',e',hd⟩:=fl.2.2.1.mem hb;rw[e]at e';cases e';exact hd
end
section
variable {X:Cx}{CX:CXT}{k:Nat}{f C:Addr}{fd:FuncData}{ps:List Str}{sp:Sp}{dvs:List V}{ds:List Value}{E:XK}{x m:Str}{p pos apos:Pos}{e o:Expr}{es:List Expr}{ta:TE}{t:TA}{pins:List (Addr×Obj)}{σ:St}
def me(CX:CXT)(X:Cx)(pins:List (Addr×Obj))(σ:St)(E:XK):Prop:=∀(H:Hp) (s:Shared) (e:Value) (s':Shared),Inv X pins σ H s->CX X.stack H s E e s'->X.xe e s'
theorem nP{H:Hp}{s:Shared}{Q:VK}{us:List Value}{vs:List V}(F:FnOk X.prog X.w X.K X.mg X.base CX k f fd ps sp)(hr:Room k X.A)(hb:Binds X.K fd ps ds)(hd:Vals dvs ds)(hx:me CX X pins σ E)
 (I:Inv X pins σ H s) (r:Vals vs us) (h:sp (vs++dvs) H Q E):wpAny (model X.prog X.w) X.A (call (.ref f) us) (EP X pins σ Q) X.xe s:=by
 have r2:Vals (vs++dvs) (us++ds):=r.append hd;have hl:(us++ds).length=ps.length:=by rw[<- r2.length];exact F.len _ _ _ _ h
 refine wpAny_call (codeAny_mono (F.run X.A X.stack s H ⟨us,[]⟩ (us++ds) (vs++dvs) Q E hr I.env0 (hb s us I.kIn hl) r2 h) λr s' hq=>?_);cases r with
 |error e=>exact hx H s e s' I hq
 |ok fl =>
  cases fl with
  |ret u=>exact I.after hq
  |next=>exact False.elim hq
  |brk=>exact False.elim hq
  |cont=>exact False.elim hq
end
abbrev cxH(X:Cx)(ea:Addr)(oe:Obj):Cx:={ X with A:=X.A.mark (some (.ref ea)),calm:=false,pn:=(ea,oe)::X.pn,xe:=λ_ _=>False }
section
variable {X:Cx}{pins:List (Addr×Obj)}{σ:St}{H:Hp}{s:Shared}{ea:Addr}{oe:Obj}
theorem Inv.held(I:Inv X pins σ H s)(he:s.heap.get? ea=some oe)(hn:H ea=none)(hL:ea≠X.env.locals)(hf:ea∉X.fs)(hd:∀v,oe.data≠.cell v):Inv (cxH X ea oe) pins σ H s:=by
 have ok:=I.ok
 exact⟨⟨ok.mod,ok.kind,ok.glob,ok.blt,ok.above,ok.inj,ok.has,ok.cab,(λz=>nomatch z),ok.frames,ok.stk,ok.exf,ok.bs,ok.bsz,ok.noex,ok.exfs,ok.funs,ok.frf⟩,I.os,I.bare,I.base,I.loc,I.cell,I.free,I.freeC,
  λp hp=>by
   rcases vO.mp hp with rfl |hp
   ·exact⟨he,hn,hL,hf,hd⟩
   ·exact I.pin p hp,I.hok,I.len⟩
theorem Inv.unheld(ok:X.Ok)(I:Inv (cxH X ea oe) pins σ H s):Inv X pins σ H s :=
 ⟨ok,I.os,I.bare,I.base,I.loc,I.cell,I.free,I.freeC,λp hp=>I.pin p (v5 _ hp),I.hok,I.len⟩
theorem rJ{M:Model}{A:Around}{E:Value->Shared->Prop}{i:Nat}{x:Str}{pos:Pos}{Q:Unit->Shared->Prop}(I:Inv X pins σ H s)(hN:X.N.Nodup)(hi:X.N[i]?=some x)(hk:X.env.scope.names.lookup x=some .local)
 (h:∀s',Inv X pins (σ.set i none) H s'->Q () s'):wpAny M A (do bindName X.env x .none;unbindBehindTheSuite X.env x pos) Q E s:=by
 obtain⟨m,hn,hl⟩:=id I.loc;have hcls:(X.env.scope.kind == .class || (X.env.scope.kind == .module&&X.env.locals != X.env.globals))=false:=by rw[I.ok.kind];rfl
 have hiσ:i<σ.length:=by rw[I.len];exact(List.getElem?_eq_some_iff.mp hi).1
 have cne:=I.cne
 have tracked:∀{a:Addr} {h':Heap},(∃o,s.heap.get? a=some o/\H a=none)->Heap.SameBut a s.heap h'->HOk X.prog X.w H h':=λ{a h'} ha hs b ob e=>by
  obtain⟨_,_,hfree⟩:=ha;refine(I.hok b ob e).stay (λc w' hc q=>(hs.2 c ?_).trans q) (λ_ q=>q) λ_ _ q=>q
  rintro rfl;rcases hc with rfl |hc
  ·rw[hfree]at e;cases e
  ·rw[hfree]at hc;cases hc
 refine wpAny_nameGoes_keeps hk hn hcls λh' v hn' hs=>?_
 obtain⟨oL,_,_,hoL,_⟩:=id hn;refine h _ ⟨I.ok,I.os,I.bare,⟨λb o e n hb hx=>?_,λb o e n hb hx=>?_,I.base.free,λb o e hx=>?_,I.base.tups,I.base.frzs,I.base.tbls⟩,⟨_,hn',λj y v' e1 e2 e3=>?_⟩,λy c e=>?_,I.free,I.freeC,λp hp=>?_,tracked ⟨oL,hoL,I.free⟩ hs,by simpa using I.len⟩
 ·exact(hs.2 b (vP (vN (Heap.lt_size e) I.ok.above))).trans (I.base.keep b o e n hb hx)
 ·obtain⟨sl,e1⟩:=I.base.slot b o e n hb hx;exact⟨sl,(hs.2 b (vP (vN (Heap.lt_size e) I.ok.above))).trans e1⟩
 ·obtain⟨o',e1⟩:=I.base.there b o e hx;exact⟨o',(hs.2 b (vP (vN (Heap.lt_size e) I.ok.above))).trans e1⟩
 ·by_cases hj:j=i
  ·subst hj;rw[List.getElem?_set_self hiσ]at e2;cases e2
  ·rw[List.getElem?_set_ne (Ne.symm hj)]at e2;obtain⟨u',r',q⟩:=hl j y v' e1 e2 e3;refine⟨u',r',?_⟩;rcases q with⟨k,e⟩ |⟨k,c,e,z⟩
   ·refine .inl ⟨k,?_⟩;have:y≠x:=λe=>hj (iH hN e1 (e ▸ hi))
    simp[this,e]
   ·exact .inr ⟨k,c,e,z.sameBut hs (cne y c e)⟩
 ·obtain⟨w',z⟩:=I.cell y c e;exact⟨w',z.sameBut hs (cne y c e)⟩
 ·obtain⟨e,n,ne,nf,d⟩:=I.pin p hp;exact⟨(hs.2 p.1 ne).trans e,n,ne,nf,d⟩
theorem i0(I:Inv (cxH X ea oe) pins σ H s):s.heap.get? ea=some oe:=(I.pin (ea,oe) (wg ..)).1
end
section
variable {X:Cx}{k:Nat}{f C R:Addr}{fd:FuncData}{ps:List Str}{sp:Sp}{dvs:List V}{ds:List Value}{m r n:Str}{pos apos cpos epos np hpos:Pos}{e o:Expr}{es:List Expr}{ta:TE}{t:TA}{i:Nat}{b₀:Stmt}{suite:List Stmt}{th:Addr->Obj->TS}
end
open PySem PySem.Spec PyProof.Rows PySem.W PySem.Calls PySem.Builtin PySem.Builtin.ObjectAttr PySem.Builtin.Getset_descriptor
section
variable {prog:Program}{w:World}{A:Around}{E:Value->Shared->Prop}{s:Shared}{K:Frag}{x D:Addr}{M:Model}{h:Heap}
theorem tI{a g:Value}{name:Str}(X:K.In h)(ha:findIn K (.ref D) name=some (some a))(hg:specialIn K a "__get__"=some (some g))(ht:takesIn K a=some true):Looks M h (find (.ref x) (.ref D) name) (.bind g a):=by have L1:=looks_findIn (M:=M) X ha;have L2:Looks M h (getOf (some a)) (some g):=looks_specialIn X hg;have L3:=looks_takesIn (M:=M) X ht;exact L1.andThen (L2.andThen ((show Looks M h (dataDescriptor? (some a) (some g)) (some (g,a))from L3.andThen .now).andThen (Looks.tag .now)))
theorem tJ{R:Result->Shared->Prop}{tp:Value}(X:K.In s.heap)(L0:Looks (model prog w) s.heap (typeOf (.ref x)) (.ref D))(hm:mroIn K D (.type "object")=some true)
 (h:R (.ok (.ret (.ref D))) s):codeAny (model prog w) A (.call (.builtin "getset_descriptor.__get__") ⟨[.builtin "object.__class__",.ref x,tp],[]⟩) R s:=by
 obtain⟨hh,g,dr,t,os⟩:=s;have L1:=looks_mroIn (M:=model prog w) X hm;refine codeAny_call_builtin KF.slot_gs.plain KF.entry_gs (KF.slot_gs.check _ _ _ _ _ _ _ _ KF.type_class (KF.args_gs _ _ _) ?_);unfold Builtin.«getset_descriptor.__get__» descrGet;rw[dga_obj];refine wpAny_bind (wpAny_pure ?_);unfold descrGetter descrCheckInstance descrNameAndClass isInstance;simp only[KF.owner_class]
 repeat lk
 refine⟨Code.quiet_builtin _ (by decide +kernel),codeAny_builtin KF.entry_class ?_⟩;unfold Builtin.«object.__class__» shownTypeOf
 repeat lk
 exact h
theorem lx{nameV:Value}{Q:Unit->Shared->Prop}{g:Array GenState}{d:Drawn}{t:Nat}{os:OsState}(X:K.In h)(LT:Looks M h (typeOf (.ref x)) (.ref D))(hmB:mroIn K D (.type "BaseException")=some true)(hq:Q () ⟨h,g,d,t,os⟩) :
 wpAny M A (checkBuiltinCall "BaseException.__getattribute__" ⟨[.ref x,nameV],[]⟩) Q E ⟨h,g,d,t,os⟩:=by
 have hk:builtinKind "BaseException.__getattribute__"=some .slot:=by decide +kernel
 have hsplit:splitId "BaseException.__getattribute__"=some ("BaseException","__getattribute__"):=by decide +kernel
 have ha:=F.args_bexc_ga (.ref x) nameV;have LI:Looks M h (isInstance (.ref x) (.type "BaseException")) true:=LT.andThen (looks_mroIn X hmB);simp only[checkBuiltinCall,hk,hsplit];refine wpAny_bind (LI.at ?_)
 repeat (first |assumption |wp_step)
theorem tK{Q:Option Value->Shared->Prop}(hga:findIn K (.ref D) "__getattribute__"=some (some (.builtin "BaseException.__getattribute__")))(hgn:findIn K (.ref D) "__getattr__"=some none)(hmB:mroIn K D (.type "BaseException")=some true)(ha:findIn K (.ref D) "__class__"=some (some (.builtin "object.__class__")))
 (hn:specialIn K (.builtin "object.__class__") "__get__"=some (some (.builtin "getset_descriptor.__get__"))) (htk:takesIn K (.builtin "object.__class__")=some true) (hm:mroIn K D (.type "object")=some true)
 (X:K.In s.heap) (LT:Looks (model prog w) s.heap (typeOf (.ref x)) (.ref D)) (h:Q (some (.ref D)) { s with toks:=s.toks+1 }):wpAny (model prog w) A (getAttr? (.ref x) "__class__") Q E s:=by
 obtain⟨hh,g,d,t,os⟩:=s;have L1:=looks_findIn (M:=model prog w) X hga;have LF:Looks (model prog w) hh (find (.ref x) (.ref D) "__class__") (.bind (.builtin "getset_descriptor.__get__") (.builtin "object.__class__")):=tI X ha hn htk;have L2:=looks_findIn (M:=model prog w) X hgn;have f3:=F.excAttr_ValueError.ga.bind (.ref x);have hx2:(Value.builtin "BaseException.__getattribute__" == Value.builtin "object.__getattribute__")=false:=by decide +kernel
 have hx1:(onTheHeap (Value.ref D)&&Value.builtin "BaseException.__getattribute__" == Value.builtin "object.__getattribute__")=false:=by rw[hx2];rfl
 unfold getAttr? getAttrBy? getAttrBy;refine wpAny_bind (wpAny_mkText (wpAny_bind (wpAny_attempt (wpAny_holding (wpAny_bind (LT.at (wpAny_bind (L1.at ?_))))))));dsimp only
 rw[if_neg (by rw[hx1];exact vL)];unfold getAttrByItsOwn
 repeat (any_goals (first |assumption | (with_reducible refine wpAny_bind (L2.at ?_)) | (with_reducible refine L2.at ?_) |wp_step))
 refine codeAny_call_builtin F.excAttr_ValueError.ga.plain F.entry_bexc_ga (lx X LT hmB ?_)
 repeat (any_goals (first |assumption | (with_reducible refine wpAny_bind (LT.at ?_)) | (with_reducible refine LT.at ?_) | (with_reducible refine wpAny_bind (LF.at ?_)) | (with_reducible refine LF.at ?_) |wp_step))
 refine tJ X LT hm ?_
 repeat (any_goals (first |assumption |wp_step))
theorem qN{oe:Obj}(hc:oe.cls=.ref D)(hcl:(clsIn K D).isSome=true)(hga:findIn K (.ref D) "__getattribute__"=some (some (.builtin "BaseException.__getattribute__")))(hgn:findIn K (.ref D) "__getattr__"=some none)(hmB:mroIn K D (.type "BaseException")=some true)(ha:findIn K (.ref D) "__class__"=some (some (.builtin "object.__class__")))
 (hn:specialIn K (.builtin "object.__class__") "__get__"=some (some (.builtin "getset_descriptor.__get__"))) (htk:takesIn K (.builtin "object.__class__")=some true) (hm:mroIn K D (.type "object")=some true) :
 KitX K (.ref x) (.ref D) (λh=>h.get? x=some oe) where
 ty:=λ_ _ _ I=>hc ▸ (Looks.ld I).andThen .now
 it:=λ_ _ X _=>by
  obtain⟨cdD,hcD⟩:=wq.mp hcl;unfold clsIn at hcD
  split at hcD
  ·rename_i c' d' cd' sl' ho
   intro A' Q' E' s' k q;unfold isType loadHead;exact wpAny_bind (wpAny_loadPart (k _ _ (X _ _ ho)) (wpAny_pure q))
  ·cases hcD
 ne:=λh tp dd its n sl X htp=>by
  obtain⟨cdD,hcD⟩:=wq.mp hcl;refine Bool.eq_false_iff.mpr λq=>?_
  have e:D=tp:=Value.ref.inj (beq_iff_eq.mp q);subst e;unfold clsIn at hcD
  split at hcD
  ·rename_i c' d' cd' sl' ho
   have z:=(X _ _ ho).symm.trans htp;cases z
  ·cases hcD
 ca:=λX I k=>tK hga hgn hmB ha hn htk hm X (hc ▸ (Looks.ld I).andThen .now) k
end
theorem tX{K:PySem.W.Frag}{C:Addr}{b:Value}{k:Bool}(h:mroIn K C b=some k):(clsIn K C).isSome=true:=by
 unfold mroIn at h
 cases e:clsIn K C with
 |none=>rw[e]at h;cases h
 |some _=>rfl
structure ECls(K:PySem.W.Frag)(D:Addr):Prop where
 cl:(clsIn K D).isSome=true
 ga:findIn K (.ref D) "__getattribute__"=some (some (.builtin "BaseException.__getattribute__"))
 gn:findIn K (.ref D) "__getattr__"=some none
 mB:mroIn K D (.type "BaseException")=some true
 ha:findIn K (.ref D) "__class__"=some (some (.builtin "object.__class__"))
 hn:specialIn K (.builtin "object.__class__") "__get__"=some (some (.builtin "getset_descriptor.__get__"))
 ht:takesIn K (.builtin "object.__class__")=some true
 hm:mroIn K D (.type "object")=some true
section
variable {X:Cx}{tg:Expr}
end
end L2
theorem PyProof.Rows.boot_ValueError:PySem.bootBuiltins "ValueError"=some (.type "ValueError"):=by decide +kernel
namespace L2
open PySem PySem.Spec PyProof.Rows
section
variable {X:Cx}{CX:CXT}{k:Nat}{f C R:Addr}{fd:FuncData}{ps:List Str}{sp:Sp}{dvs:List V}{ds:List Value}{m r n x:Str}{p pos apos cpos epos np hpos:Pos}{e o ex:Expr}{es:List Expr}{ta:TE}{t:TA}{i:Nat}{b₀:Stmt}{suite:List Stmt}{th:Addr->Obj->TS}{tx:XK->TE}
noncomputable def eJ(K:PySem.W.Frag)(ea:Addr)(oe:Obj):List V->Hp->VK->Prop:=λxs H Q=>∃(D:Addr) (c:Value) (y:V) (k:Bool),xs=[.ref ea,y]/\RelV y c/\(∀u,RelV y u->u=c)/\oe.cls=.ref D/\ECls K D/\PySem.W.kitOne K (.ref D) c=some k/\Q (.bl k) H
theorem gx{X:Cx}{ea:Addr}{oe:Obj}:bq (cxH X ea oe) (.builtin "isinstance") (eJ X.K ea oe):=by intro pins s σ H xs us Q I r h;obtain⟨D,c,y,k,rfl,_,hy,hc,T,e,q⟩:=h;obtain⟨u1,u2,rfl,r1,r2⟩:=r.two;obtain rfl:u1=Value.ref ea:=r1;obtain rfl:=hy u2 r2;exact PySem.W.kia_one (qN hc T.cl T.ga T.gn T.mB T.ha T.hn T.ht T.hm) I.kIn (i0 I) e (λz=>nomatch z) λtk=>⟨.bl k,H,I.tok tk,rfl,q⟩
theorem iZ{K:PySem.W.Frag}{ea D C:Addr}{oe:Obj}{H:Hp}{Q:VK}{k:Bool}(hc:oe.cls=.ref D)(T:ECls K D)(e:PySem.W.kitOne K (.ref D) (.ref C)=some k)(q:Q (.bl k) H):eJ K ea oe [.ref ea,.ref C] H Q:=⟨D,.ref C,.ref C,k,rfl,rfl,λ_ z=>z,hc,T,e,q⟩
theorem rl{K:PySem.W.Frag}{ea D:Addr}{n:String}{oe:Obj}{H:Hp}{Q:VK}{k:Bool}(hc:oe.cls=.ref D)(T:ECls K D)(e:PySem.W.kitOne K (.ref D) (.type n)=some k)(q:Q (.bl k) H):eJ K ea oe [.ref ea,.ty n] H Q:=⟨D,.type n,.ty n,k,rfl,rfl,λ_ z=>z,hc,T,e,q⟩
theorem fT{K:PySem.W.Frag}{ea:Addr}{oe:Obj}{σ:St}{H:Hp}{Q:VK}{te:TE}{y:V}(h:te σ H λx H1=>eJ K ea oe [x,y] H1 Q):tCB (eJ K ea oe) (cD te (cD (tC y) eB)) σ H Q:=h
end
section
variable {X:Cx}{R R2:Addr}{r r2 n n2:Str}{pos epos np hpos np2 hpos2:Pos}{ex:Expr}{i i2:Nat}{b₀ b₂:Stmt}{suite suite2:List Stmt}{th th2:Addr->Obj->TS}{tx:XK->TE}
end
section
variable {X:Cx}{K:PySem.W.Frag}
end
section
variable {X:Cx}
end
end L2
namespace RM
open PySem
theorem ofS(s:String):Str.ofString s=⟨(s.toList.map Char.toNat).toArray⟩:=by unfold Str.ofString;rw[cpsOfBytes_string]
noncomputable def aR(n:Nat):List Nat:=(Nat.toDigits 10 n).map Char.toNat
theorem rs(n:Nat):Str.ofString (toString (n:Int))=⟨(aR n).toArray⟩:=by rw[ofS];show(⟨(((Nat.repr n)).toList.map Char.toNat).toArray⟩:Str)=_;unfold Nat.repr aR;rw[String.toList_ofList]
theorem lC:∀d,d<10->(Nat.digitChar d).toNat=48+d:=by decide
theorem eZ{n:Nat}(h:n<10):aR n=[48+n]:=by unfold aR;rw[Nat.toDigits_of_lt_base h];show[_]=_;rw[lC n h]
theorem iG{n:Nat}(h:10<=n):aR n=aR (n/10)++[48+n%10]:=by unfold aR;rw[Nat.toDigits_of_base_le (by decide) h,wb];show _++[_]=_;rw[lC _ (Nat.mod_lt _ (by decide))]
noncomputable def pad:Nat->Nat->List Nat
 |0,_=>[]
 |k+1,r=>pad k (r/10)++[48+r%10]
theorem j2:∀k,pad k 0=List.replicate k 48
 |0=>rfl
 |k+1=>by show pad k (0/10)++[48+0%10]=_;rw[Nat.zero_div,j2 k,List.replicate_succ']
theorem j3:∀(k r:Nat),r<10^(k+1)->(aR r).length<=k+1/\pad (k+1) r=List.replicate (k+1-(aR r).length) 48++aR r
 |0,r,h=>by
  have h':r<10:=by simpa using h
  rw[eZ h'];refine⟨vJ _,?_⟩;show pad 0 (r/10)++[48+r%10]=_;rw[Nat.mod_eq_of_lt h'];rfl
 |k+1,r,h=>by
  by_cases h':r<10
  ·rw[eZ h'];refine⟨by show 1<=k+1+1;omega,?_⟩;show pad (k+1) (r/10)++[48+r%10]=List.replicate (k+1) 48++[48+r];rw[Nat.mod_eq_of_lt h',Nat.div_eq_of_lt h',j2]
  ·have h3:r/10<10^(k+1):=by rw[Nat.pow_succ]at h;omega
   obtain⟨i1,i2⟩:=j3 k (r/10) h3;rw[iG (by omega)];refine⟨by rw[vM];show _+1<=_;omega,?_⟩;show pad (k+1) (r/10)++[48+r%10]=_;rw[i2,vM,wk];have e:k+1+1-((aR (r/10)).length+[48+r%10].length)=k+1-(aR (r/10)).length:=by show k+1+1-((aR (r/10)).length+1)=_;omega
   rw[e]
theorem t6(a b:List Nat):(⟨a.toArray⟩:Str)++(⟨b.toArray⟩:Str)=⟨(a++b).toArray⟩:=by show(⟨a.toArray++b.toArray⟩:Str)=_;refine congrArg Str.mk ?_;simp
end RM
namespace L2
open PySem PySem.Spec PyProof.Rows
def Top(val:Nat->Int)(n:Nat)(M:Int):Prop:=(∃i,i<n/\val i=M)/\∀i,i<n->val i<=M
theorem Top.more{val:Nat->Int}{n:Nat}{M:Int}(h:Top val n M)(hn:val n>M):Top val (n+1) (val n) :=
 ⟨⟨n,by omega,rfl⟩,λi hi=>by
   by_cases e:i=n
   ·subst e;exact Int.le_refl _
   ·have:=h.2 i (by omega);omega⟩
section
variable {prog:Program}{w:World}{A:Around}{R:Result->Shared->Prop}{I S:Addr}{fp wr:List Addr}{n:Nat}{P:Nat->Value->Prop}{St:Nat->Heap->Prop}{val:Nat->Int}{d:Value}
end
section
variable {prog:Program}{w:World}{A:Around}{E:Value->Shared->Prop}{s:Shared}{l:Addr}{xs:Array (Int×Tok)}{d:Value}
end
section
variable {X:Cx}{K:PySem.W.Frag}{e ed:Expr}{ta td:TE}{p pos kp:Pos}
end
theorem lR:∀{bs:List Bool} {us:List Value},Vals (bs.map V.bl) us->us=bs.map Value.bool
 | [],_,h=>by cases h;rfl
 |b::bs,_,h=>by
  cases h with
  |cons r rr =>cases r;rw[lR rr];rfl
section
variable {X:Cx}
noncomputable def nX:V->Option Int->Option Int->Hp->VK->Prop:=λx lo hi H Q=>∃z,x=.str z/\z.length<=sizeLine/\Q (.str (Txt.slice z lo hi)) H
theorem jP:SlR X nX:=by
 intro pins s σ H x v vl vu lo hi sl Q I rx hs pl pu h;obtain⟨z,rfl,hz,q⟩:=h;obtain⟨t,rfl⟩:=rx;obtain⟨o,ho,hc,hd⟩:=hs;refine⟨"str",_,F.slot_str_getitem.lookup,typeIs_str _ _ _,?_⟩;cases pl with
 |none =>
  cases pu with
  |none=>exact wpAny_getItem_str_slice (l:=none) (u:=none) (st:=none) ⟨o,ho,hc,hd⟩ rfl (post_val_or_str ⟨vQ (Txt.slice_le z _ _) hz,λt' k=>⟨.str _,H,I.tok _,⟨_,rfl⟩,q⟩⟩)
  |int j uj=>exact wpAny_getItem_str_slice (l:=none) (u:=some (j,uj)) (st:=none) ⟨o,ho,hc,hd⟩ rfl (post_val_or_str ⟨vQ (Txt.slice_le z _ _) hz,λt' k=>⟨.str _,H,I.tok _,⟨_,rfl⟩,q⟩⟩)
 |int i ui =>
  cases pu with
  |none=>exact wpAny_getItem_str_slice (l:=some (i,ui)) (u:=none) (st:=none) ⟨o,ho,hc,hd⟩ rfl (post_val_or_str ⟨vQ (Txt.slice_le z _ _) hz,λt' k=>⟨.str _,H,I.tok _,⟨_,rfl⟩,q⟩⟩)
  |int j uj=>exact wpAny_getItem_str_slice (l:=some (i,ui)) (u:=some (j,uj)) (st:=none) ⟨o,ho,hc,hd⟩ rfl (post_val_or_str ⟨vQ (Txt.slice_le z _ _) hz,λt' k=>⟨.str _,H,I.tok _,⟨_,rfl⟩,q⟩⟩)
end
noncomputable def Its(z:Str):It:=⟨λi _=>i<z.cps.size,λi H x H'=>H'=H/\∃c,z.cps[i]?=some c/\x=.str ⟨#[c]⟩,λi _=>z.cps.size<=i⟩
theorem mM{P:Program}{w:World}{K:PySem.W.Frag}{tg:Expr}(z:Str)(t:Tok)(it:Addr):Turn P w K tg (Its z) [it] it (λi h=>h.IsStrIter it "str_ascii_iterator" z t i) where
 mem:=by simp
 obj:=λi h st b hb=>by
  have e:b=it:=by simpa using hb
  subst e;obtain⟨o,e,c,d⟩:=st;exact⟨o,e,λv z=>by rw[d]at z;cases z⟩
 keep:=λi h h' st k=>let⟨o,ho,r⟩:=st;⟨o,k it (by simp) o ho,r⟩
 item:=by
  intro X hP hw hK hc i pins s σ H E I hf st hg;subst hP hw hK;obtain⟨f0,f1,f2,f3,f4,f5⟩:=hf it (by simp);have hi:i<z.cps.size:=hg;have hx:z.cps[i]?=some z.cps[i]:=by simp[hi]
  refine wpAny_pyNext_ascii_item st hx λh' st' sb=>?_
  have I1:Inv X pins σ H { s with heap:=h',toks:=s.toks+1 }:=I.turned (t':=s.toks+1) (λb o hb e=>(sb.2 b hb).trans e) f0 f1 f3 f4 f5;obtain⟨o,e,c,d⟩:=id st';exact⟨_,rfl,gt (s:={ s with heap:=h',toks:=s.toks+1 }) e c d (by decide) ⟨.str ⟨#[z.cps[i]]⟩,H,I1,⟨_,rfl⟩,⟨rfl,_,hx,rfl⟩,st',λb hb=>(hf b hb).1⟩⟩
 done:=by intro X hP hw hK hc i pins s σ H E I hf st hg;subst hP hw hK;obtain⟨f0,f1,f2,f3,f4,f5⟩:=hf it (by simp);have hi:z.cps.size<=i:=hg;exact wpAny_pyNext_ascii_end (I.ok.hd hc) st (by simp[hi]) λh' eb=>⟨rfl,I.turned (t':=s.toks) (λb o hb e=>eb b o hb e) f0 f1 f3 f4 f5⟩
 self:=λ_ _ _ _ _ st h=>wpAny_pyIter_striter_ascii st h
def rE(tl:TE):TI:=λσ H R=>tl σ H λx H1=>∃z,x=.str z/\z.cps.all (·<128)=true/\R (Its z) H1
section
variable {X:Cx}{tg:Expr}{K:PySem.W.Frag}
theorem ot{l:Expr}{tl:TE}(hl:PE X l tl):PI X tg l (rE tl):=by
 intro pins s σ H R I h;refine thn (hl pins s σ H _ I h) λv s1 ⟨x,H1,I1,r1,q1⟩=>?_
 obtain⟨z,e,ha,q⟩:=q1;subst e;obtain⟨t,rfl⟩:=r1;refine wpAny_pyIter_ascii ha ?_;refine⟨s1.heap.objs.size,[s1.heap.objs.size],_,_,H1,rfl,I1.kept (t':=s1.toks) λb o e=>Heap.get?_push_of_some _ e,mM z t _,⟨_,Heap.get?_push_size _ rfl,rfl,rfl⟩,λb hb=>?_,q⟩;have e:b=s1.heap.objs.size:=by simpa using hb
 subst e;exact I1.fpOk (vJ _) (I1.hok.fresh (vJ _))
theorem tU{k:Nat}{js:List Nat}{z:Str}{g:TG}{te:TE}{σ0:St}{H:Hp}{Q:VK}(Pv:Nat->List V->St->Hp->Prop)(hz:z.cps.size<=sizeLine)(h0:Pv 0 [] (cU k js σ0) H)(hl:∀i ys σ H,i<=z.cps.size->Pv i ys σ H->ys.length<=i)
 (hs:∀i c ys σ H,z.cps[i]?=some c->Pv i ys σ H->g (.str ⟨#[c]⟩) σ H λσ2 H2=>te σ2 H2 λy H3=>Pv (i+1) (ys++[y]) σ2 H3) (hd:∀ys σ H p,Pv z.cps.size ys σ H->H p=none->Q (.ref p) (upd H p (.lst ys))) :
 jq k js g te σ0 Q (Its z) H:=by
 refine⟨λi m ys σ H=>m=z.cps.size-i/\i<=z.cps.size/\Pv i ys σ H,⟨z.cps.size,by simp,vT _,h0⟩,?_⟩;rintro i m ys σ H ⟨rfl,hi,p⟩;have hy:=hl i ys σ H hi p;by_cases hlt:i<z.cps.size
 ·refine .inr ⟨hlt,by omega,λy σ'' H''=>Pv (i+1) (ys++[y]) σ'' H'',λy σ' H' p'=>⟨z.cps.size-(i+1),by omega,rfl,hlt,p'⟩,λx H' y=>?_⟩;obtain⟨e,c,hc,y⟩:=y;subst e y;exact hs i c ys σ _ hc p
 ·have e:i=z.cps.size:=by omega
  subst e;exact .inl ⟨vJ _,λr hr=>hd ys σ H r p hr⟩
theorem d8(h:X.K=K):OpR X (compareOp .In) (rIn K false):=by subst h;exact j8
theorem iD(h:X.K=K):OpR X (compareOp .NotIn) (rIn K true):=by subst h;exact oK
theorem gy:bq X (.type "int") (λxs H Q=>∃(z:Str) (n:Int),xs=[.str z]/\z.length<=640/\PySem.intText? z=some n/\Q (.int n) H):=by intro pins s σ H xs us Q I r h;obtain⟨z,n,rfl,hl,hn,q⟩:=h;obtain⟨u,rfl,rx⟩:=cz r;obtain⟨t,rfl⟩:=rx;exact PySem.W.KIN.call_text hn hl ⟨.int n,H,I.tok _,⟨_,rfl⟩,q⟩
theorem uA(bs:List Bool):(List.range bs.length).all (λi=>bs.getD i false)=bs.all id:=by
 rw[vY,v4,v4];constructor
 ·intro h b hb;obtain⟨i,hi,rfl⟩:=List.getElem_of_mem hb;have:=h i (List.mem_range.mpr hi);simpa[List.getD,List.getElem?_eq_getElem hi]using this
 ·intro h i hi;have hi':=List.mem_range.mp hi;have:=h bs[i] (List.getElem_mem hi');simpa[List.getD,List.getElem?_eq_getElem hi']using this
end
theorem t9{X:Cx}{K:PySem.W.Frag}(hK:X.K=K)(hc:X.calm=true):bq X (.builtin "all") (λxs H Q=>∃(p:Addr) (bs:List Bool),xs=[.ref p]/\SqL K H p (bs.map V.bl)/\Q (.bl (bs.all id)) H):=by
 subst hK;intro pins s σ H xs us Q I r h;obtain⟨p,bs,rfl,hq,q⟩:=h;obtain⟨u,rfl,rx⟩:=cz r;cases rx;obtain⟨its,r',pl,hz⟩:=I.list hq;have e:=lR r';subst e;have hl:=pl.isList;have hlt:p<s.heap.objs.size:=by obtain⟨_,e,_⟩:=hl;exact Heap.lt_size e
 refine call_all_walk (wpAny_pyIter_list hl ?_);refine⟨_,_,_,_,_,_,λi=>bs.getD i false,rfl,Walks.list (A:=X.A.in1) (I.ok.hd hc) _ p (vP hlt) _,⟨⟨_,Heap.get?_push_size _ rfl,rfl,rfl⟩,hl.push _⟩,λi v s' Q' E' hP hQ=>?_,λh' tk hk=>?_⟩
 ·have e:v=.bool (bs.getD i false):=by have hP':((bs.map Value.bool).toArray)[i]?=some v:=hP;simp only[List.getElem?_toArray,List.getElem?_map,Option.map_eq_some_iff]at hP';obtain⟨b,hb,rfl⟩:=hP';simp[List.getD,hb]
  subst e;exact wpAny_truthy_bool hQ
 ·refine⟨.bl (bs.all id),H,I.kept (old_kept hk),?_,q⟩;show Value.bool _=Value.bool _;rw[<- uA bs];simp
def KD(h h':Heap):Prop:=∀b o,h.get? b=some o->∃o',h'.get? b=some o'/\o'.dict=o.dict
theorem KD.refl(h:Heap):KD h h:=λ_ o e=>⟨o,e,rfl⟩
theorem KD.trans{a b c:Heap}(x:KD a b)(y:KD b c):KD a c:=λp o e=>by obtain⟨o1,e1,d1⟩:=x p o e;obtain⟨o2,e2,d2⟩:=y p o1 e1;exact⟨o2,e2,d2.trans d1⟩
theorem KD.push(h:Heap)(o:Obj):KD h (h.push o):=λb u e=>⟨u,Heap.get?_push_of_some _ e,rfl⟩
def jn(f:Obj->Obj):Prop:=∀o:Obj,o.isFreed=false->(f o).isFreed=false/\(f o).dict=o.dict
theorem KD.upd(h:Heap)(a:Addr){f:Obj->Obj}(hf:jn f):KD h (h.update a f):=λb u e=>by
 by_cases z:a=b
 ·subst z;obtain⟨h1,h2⟩:=hf u (Heap.get?_some_iff.mp e).2;exact⟨f u,Heap.get?_update_self f e h1,h2⟩
 ·exact⟨u,(Heap.get?_update_other h f z).trans e,rfl⟩
inductive Mild{α:Type}:Sem α->Prop
 |pure (a:α):Mild (.pure a)
 |unsupported (x:String):Mild (.unsupported x)
 |rule {t:String} {k:Unit->Sem α}:(∀u,Mild (k u))->Mild (.rule t k)
 |at{p:Pos} {k:Unit->Sem α}:(∀u,Mild (k u))->Mild (.at p k)
 |load {a:Addr} {p:Option Value} {k:Obj->Sem α}:(∀o,Mild (k o))->Mild (.load a p k)
 |update {a:Addr} {p:Option Value} {f:Obj->Obj} {k:Unit->Sem α}:jn f->(∀u,Mild (k u))->Mild (.update a p f k)
 |alloc {o:Obj} {k:Addr->Sem α}:(∀a,Mild (k a))->Mild (.alloc o k)
 |stack {k:List (Code×Pos)->Sem α}:(∀l,Mild (k l))->Mild (.stack k)
theorem aP{α β:Type}{t:Sem α}{f:α->Sem β}(ht:Mild t)(hf:∀a,Mild (f a)):Mild (t >>= f):=by
 show Mild (t.bind f)
 induction ht with
 |pure a=>exact hf a
 |unsupported x=>exact .unsupported x
 |rule _ ih=>exact .rule ih
 | «at» _ ih=>exact .at ih
 |load _ ih=>exact .load ih
 |update s _ ih=>exact .update s ih
 |alloc _ ih=>exact .alloc ih
 |stack _ ih=>exact .stack ih
theorem bJ{α:Type}(a:α):Mild (pure a:Sem α):=.pure a
theorem mE{α:Type}(M:Model)(Γ:PySem.Ctx){h0:Heap}{t:Sem α}(m:Mild t){Q:α->Pos->Shared->Prop}{E E':Value->Pos->Shared->Prop}:∀{p:Pos} {s:Shared},KD h0 s.heap->Sem.wp M Γ t Q E p s->Sem.wp M Γ t (λa p' s'=>Q a p' s'/\KD h0 s'.heap) E' p s:=by
 induction m with
 |pure a=>intro p s hk h;rw[Sem.wp]at h ⊢;exact⟨h,hk⟩
 |unsupported x=>intro p s hk h;rw[Sem.wp]at h;exact h.elim
 |rule _ ih=>intro p s hk h;rw[Sem.wp]at h ⊢;exact ih () hk h
 | «at» _ ih=>intro p s hk h;rw[Sem.wp]at h ⊢;exact ih () hk h
 |load _ ih =>intro p s hk h;rw[Sem.wp]at h ⊢;obtain⟨o,e,h⟩:=h;exact⟨o,e,ih o hk h⟩
 |update sf _ ih =>intro p s hk h;rw[Sem.wp]at h ⊢;exact⟨h.1,ih () (hk.trans (KD.upd s.heap _ sf)) h.2⟩
 |alloc _ ih =>intro p s hk h;rw[Sem.wp]at h ⊢;exact ih _ (hk.trans (KD.push s.heap _)) h
 |stack _ ih=>intro p s hk h;rw[Sem.wp]at h ⊢;exact ih _ hk h
theorem er{α:Type}{M:Model}{A:Around}{t:Sem α}{Q:α->Shared->Prop}{E E':Value->Shared->Prop}{s:Shared}(m:Mild t)(h:wpAny M A t Q E s):wpAny M A t (λa s'=>Q a s'/\KD s.heap s'.heap) E' s:=λΓ p hΓ =>mE M Γ m (KD.refl _) (h Γ p hΓ)
theorem ng(f:Array Value->Array Value):jn (Obj.mapFields f):=λo h=>by
 unfold Obj.mapFields;split
 ·exact⟨rfl,rfl⟩
 ·exact⟨h,rfl⟩
theorem iR(a:Addr):Mild (load a):=.load λ_=>.pure _
theorem p9(v:Value):Mild (fieldsOf v):=by
 unfold fieldsOf;split
 ·refine aP (iR _) λo=>?_
  split<;>constructor
 ·constructor
theorem gf(v:Value)(i:Nat):Mild (field v i):=by
 unfold field;refine aP (p9 v) λvs=>?_
 split<;>constructor
theorem iQ(v:Value)(i:Nat)(x:Value):Mild (setField v i x):=by
 unfold setField;split
 ·unfold updateField;refine aP (iR _) λo=>?_
  split
  ·split
   ·exact .update (ng _) λ_=>bJ _
   ·constructor
  ·constructor
 ·constructor
theorem iP(e:Value)(fr:Option Addr):Mild (setFlight e fr):=by
 unfold setFlight;refine aP (gf e 1) λtb=>?_
 split
 ·exact iQ _ _ _
 ·constructor
theorem iO:Mild (stack:Sem (List (Code×Pos))):=.stack λ_=>.pure _
theorem kB:∀l:List Env,Mild (readyFrames l)
 | []=>bJ _
 |env::outer=>by
  unfold readyFrames;split
  ·refine aP (iR _) λo=>?_
   split
   ·constructor
   ·refine aP ?_ λim=>aP ?_ λbk=>aP ?_ λ_=>kB outer
    ·unfold behindIsImport;split
     ·constructor
     ·split
      ·constructor
      ·exact aP (gf _ _) λ_=>bJ _
    ·unfold keptBack;split
     ·split
      ·constructor
      ·refine aP ?_ λb=>bJ _
       unfold underTheClaimsCaller;exact aP iO λ_=>bJ _
     ·constructor
    ·exact .update (λo h=>⟨by obtain⟨a,b,c,d⟩:=o;cases c<;>first |rfl |exact h,rfl⟩) λ_=>bJ _
  ·constructor
theorem p8(env:Env):Mild (PySem.frameOf env):=by
 unfold PySem.frameOf frameEnvs;refine aP ?_ λl=>aP ?_ λo=>?_
 ·exact aP iO λ_=>bJ _
 ·generalize l.dropWhile _=l';unfold frameObject;split
  ·constructor
  ·exact aP (kB _) λ_=>bJ _
 ·split<;>constructor
theorem qa(f:Addr)(b:Bool):Mild (entryPlaceOf f b):=by
 unfold entryPlaceOf;refine aP iO λl=>?_
 split<;>constructor
theorem pZ(ty:String)(vs:List Value):Mild (newFields ty vs):=by
 have as':∀dt:Data,Mild (newObjAsIs (.type ty) dt none):=λdt=>by
  unfold newObjAsIs;refine aP (.alloc λ_=>.pure _) λa=>?_
  exact bJ _
 unfold newFields newObj;dsimp only
 split
 ·exact aP (.unsupported _) λ_=>as' _
 ·exact as' _
theorem p7(a b c d e:Value)(pl:List Value):Mild (EntryCells.newEntry a b c d e pl):=pZ _ _
theorem kA(e hd:Value)(env:Env)(f:Addr):Mild (do setField e 1 (<- EntryCells.newEntry hd (<- PySem.frameOf env) .none (rawInt f) .none (<- entryPlaceOf f (hd != .none))):Sem Unit) :=
 aP (p8 env) λfr=>aP (qa _ _) λpl=>aP (p7 _ _ _ _ _ _) λne=>iQ _ _ _
theorem kC(e:Value)(env:Env):Mild (noteFrame e env):=by
 unfold noteFrame;split
 ·refine aP (gf _ _) λhd=>?_
  dsimp only
  split
  ·refine aP (gf _ _) λx=>?_
   split
   ·exact bJ _
   ·exact aP (iQ _ _ _) λ_=>kA _ _ _ _
  ·exact kA _ _ _ _
 ·constructor
theorem kD(env:Env)(e:Value):Mild (leaving env e):=aP (kC e env) λ_=>iP e none
open PySem PySem.Spec PyProof.Rows PySem.W PySem.Calls PySem.Builtin PySem.Builtin.ObjectAttr
noncomputable def ey:List Value:=[.type "ValueError",.type "Exception",.type "BaseException",.type "object"]
noncomputable def cO:List Value->Bool
 |.ref _::r=>r == ey ||cO r
 |_=>false
theorem jx(self:Value):∀{l:List Value},cO l=true->refuseLoop self "__setattr__" l=pure ()
 |.ref c::r,e=>by
  rw[refuseLoop_ref];rcases Bool.or_eq_true_iff.mp (show(r == ey ||cO r)=true from e)with q |q
  ·rw[beq_iff_eq.mp q];exact PySem.F.store_ValueError.passes self
  ·exact jx self q
theorem jy:∀{l:List Value},cO l=true->l.contains (.type "object")=true
 |.ref c::r,e=>by
  rcases Bool.or_eq_true_iff.mp (show(r == ey ||cO r)=true from e)with q |q
  ·rw[beq_iff_eq.mp q];rfl
  ·rw[List.contains_cons,jy q,Bool.or_true]
structure XCls(K:Frag)(C:Addr):Prop where
 ve:∃cd,clsIn K C=some cd/\cO cd.mro=true/\cd.hasDict=true
 sa:findIn K (.ref C) "__setattr__"=some (some (.builtin "object.__setattr__"))
noncomputable def gE(K:Frag)(C:Addr):Bool:=(match clsIn K C with |some cd=>cO cd.mro&&cd.hasDict |none=>false)&&findIn K (.ref C) "__setattr__" == some (some (.builtin "object.__setattr__"))
theorem XCls.of{K:Frag}{C:Addr}(h:gE K C=true):XCls K C:=by
 unfold gE at h
 obtain⟨h1,h2⟩:=Bool.and_eq_true_iff.mp h;refine⟨?_,beq_iff_eq.mp h2⟩;cases e:clsIn K C with
 |none=>rw[e]at h1;cases h1
 |some cd=>rw[e]at h1;obtain⟨a,b⟩:=Bool.and_eq_true_iff.mp h1;exact⟨cd,rfl,a,b⟩
section
variable {prog:Program}{w:World}{A:Around}{E:Value->Shared->Prop}{s:Shared}{K:Frag}{x C:Addr}
theorem mw{ox:Obj}{vs:Array Value}{name:Str}{v:Value}{Q:Unit->Shared->Prop}(X:K.In s.heap)(T:XCls K C)(hx:s.heap.get? x=some ox)(hc:ox.cls=.ref C)(hd:ox.dict=none)(hf:ox.data=.fields vs)(hn:findIn K (.ref C) name=some none)
 (h:∀h' tk,h'.get? x=some { ox with dict:=some s.heap.objs.size }->h'.Ns1 s.heap.objs.size (λy=>if y=name then some v else none)->(∀b o,b≠x->s.heap.get? b=some o->h'.get? b=some o)->Q () { s with heap:=h',toks:=tk }) :
 wpAny (model prog w) A (setAttr (.ref x) name v) Q E s:=by
 obtain⟨hh,g,d,t,os⟩:=s;obtain⟨cd,hcd,hve,hdict⟩:=T.ve;have I:PySem.W.InstAt hh x ox C none:=⟨hx,hc,by unfold notCls;rw[hf],by rw[hd];trivial⟩;refine set_plain X I T.sa ?_;show codeAny _ _ (.call (.builtin "object.__setattr__") ⟨[.ref x,.str name t,v],[]⟩) _ ⟨hh,g,d,t+1,os⟩;have SF:=PySem.F.store_object
 have ne:cd.mro.isEmpty=false:=by
  cases q:cd.mro with
  |nil=>rw[q]at hve;cases hve
  |cons _ _=>rfl
 have sub:Looks (model prog w) hh (isInstance (.ref x) (.type "object")) true:=I.type.andThen (looks_mroIn X (by unfold mroIn;rw[hcd,Option.bind_some,if_neg (by rw[ne];decide),jy hve]));refine codeAny_call_builtin SF.slot.plain SF.entry (@check_slot (model prog w) _ _ _ "object.__setattr__" "object" "__setattr__" (.ref x) [.str name t,v] [] _ SF.kind SF.split sub (SF.args (.ref x) (.str name t) v) ?_);have hm:Looks (model prog w) hh (mroOf (.ref C)) cd.mro:=(looks_clsIn X hcd).andThen .now;rw[osa_eq,refuse_eq];refine wpAny_bind (wpAny_bind (I.type.here (wpAny_bind (hm.here ?_))));rw[jx _ hve];refine wpAny_pure (wpAny_bind (I.type.here (wpAny_bind (Looks.here (s:=⟨hh,g,d,t+1,os⟩) (looks_findIn X hn) (wpAny_bind (wpAny_pure ?_))))));show wpAny _ _ (storeInOwnDict (.ref x) (.ref C) (.str name t) name v false) _ _ _;unfold storeInOwnDict;refine wpAny_bind (wpAny_pure ?_);show wpAny _ _ (ownDictForStores (.ref x) >>= _) _ _ _;have hxs:x≠hh.objs.size:=vP (Heap.lt_size hx);have hx1:(hh.push { cls:=.type "dict",data:=.dict #[] }).get? x=some ox:=Heap.get?_push_of_some _ hx;show wpAny _ _ (instanceDict x true >>= _) _ _ _;unfold instanceDict;refine wpAny_bind (wpAny_bind (wpAny_loadPart hx ?_));rw[hc,hd,hf];refine wpAny_bind (Looks.here (s:=⟨hh,g,d,t+1,os⟩) (looks_clsIn X hcd) ?_);rw[hdict];have td:typeHasDict (.ref C)=true:=by rfl
 rw[if_neg (by decide),td];dsimp only
 rw[if_neg (by decide)];refine wpAny_bind (wpAny_alloc' (wpAny_bind (wpAny_update' hx1 (wpAny_pure ?_))));have hgd:((hh.push { cls:=.type "dict",data:=.dict #[] }).update x λo=>{ o with dict:=some hh.objs.size }).get? hh.objs.size=some { cls:=.type "dict",data:=.dict #[] }:=(Heap.get?_update_other _ _ hxs).trans (Heap.get?_push_size _ rfl);have hnd:((hh.push { cls:=.type "dict",data:=.dict #[] }).update x λo=>{ o with dict:=some hh.objs.size }).Ns hh.objs.size (λ_=>none):=⟨_,#[],_,hgd,rfl,λe he=>absurd he (by simp),λ_=>rfl⟩;show wpAny _ _ (storeInDict hh.objs.size (.str name t) name v) _ _ _;unfold storeInDict newKeyGuard;refine wpAny_bind (wpAny_pure (wpAny_bind (wpAny_nsSet1 (Heap.Ns1.of_empty hnd) λh' hn' hs=>?_)));obtain⟨oD,esD,epD,hoD,hdD,hcD⟩:=hn'.count (Within.cons name v Within.nil);have hlen:esD.size<=sizeLine:=vQ hcD (by rw[vZ,List.length_nil,sizeLine_eq];omega);refine wpAny_bind (wpAny_lookBehind hoD (by rw[hdD];exact pastItsLine_dict (Nat.le_succ_of_le hlen)) (wpAny_pure ?_));refine h h' _ ?_ hn' λb o hb e=>?_
 ·refine(hs.2 x hxs).trans (Heap.get?_update_self _ hx1 ?_);have fr:=(Heap.get?_some_iff.mp hx).2;obtain⟨oc,od,odt,osl⟩:=ox;cases odt<;>first |rfl |exact fr
 ·exact(hs.2 b (vP (Heap.lt_size e))).trans ((Heap.get?_update_other _ _ (Ne.symm hb)).trans (Heap.get?_push_of_some _ e))
theorem mx{ox:Obj}{dx:Addr}{vs:Array Value}{mA:Str->Option Value}{name:Str}{v:Value}{expr:Bool}{Q:Value->Shared->Prop}(X:K.In s.heap)(T:XCls K C)(Te:ECls K C)(hx:s.heap.get? x=some ox)(hc:ox.cls=.ref C)(hd:ox.dict=some dx)(hf:ox.data=.fields vs)(hn:findIn K (.ref C) name=some none)(hns:s.heap.Ns1 dx mA)(hv:mA name=some v)(hh:handedIn v=true)
 (h:Q v { s with toks:=s.toks+1 }):wpAny (model prog w) A (getAttr (.ref x) name expr) Q E s:=by
 obtain⟨hp,g,d,t,os⟩:=s;obtain⟨cd,hcd,hve,hdict⟩:=T.ve;obtain⟨od,hod,hlk⟩:=kK hns;have I:PySem.W.InstAt hp x ox C (some od):=⟨hx,hc,by unfold notCls;rw[hf],by rw[hd];exact hod⟩;have LT:=I.type (M:=model prog w);have L1:=looks_findIn (M:=model prog w) X Te.ga;have L2:=looks_findIn (M:=model prog w) X Te.gn
 have ff:findObj K C (some od) name=some (.value v):=by unfold findObj;rw[hcd,hn,Option.bind_some,Option.bind_some];show(PySem.W.ownOf cd (some od) name).bind _=_;unfold PySem.W.ownOf;rw[if_pos hdict];show(lookIn name od).bind _=_;rw[hlk,hv];rfl
 have LF:=looks_find (M:=model prog w) X I ff;have f3:=F.excAttr_ValueError.ga.bind (.ref x);have hx2:(Value.builtin "BaseException.__getattribute__" == Value.builtin "object.__getattribute__")=false:=by decide +kernel
 have hx1:(onTheHeap (Value.ref C)&&Value.builtin "BaseException.__getattribute__" == Value.builtin "object.__getattribute__")=false:=by rw[hx2];rfl
 have ho:=handedOut_of hh;unfold getAttr getAttrBy;refine wpAny_bind (wpAny_mkText (wpAny_holding (wpAny_bind (LT.at (wpAny_bind (L1.at ?_))))));dsimp only
 rw[if_neg (by rw[hx1];exact vL)];unfold getAttrByItsOwn
 repeat (any_goals (first |assumption | (with_reducible refine wpAny_bind (L2.at ?_)) | (with_reducible refine L2.at ?_) |wp_step))
 have hb:(expr&&onTheHeap (Value.builtin "BaseException.__getattribute__"))=false:=by cases expr<;>rfl
 rw[if_neg (by rw[hb];exact vL)]
 repeat (any_goals (first |assumption |wp_step))
 refine codeAny_call_builtin F.excAttr_ValueError.ga.plain F.entry_bexc_ga (lx X LT Te.mB ?_)
 repeat (any_goals (first |assumption | (with_reducible refine wpAny_bind (LT.at ?_)) | (with_reducible refine LT.at ?_) | (with_reducible refine wpAny_bind (LF.at ?_)) | (with_reducible refine LF.at ?_) |wp_step))
end
section
variable {prog:Program}{w:World}{A:Around}{E:Value->Shared->Prop}{h:Heap}{g:Array GenState}{d:Drawn}{t:Nat}{os:OsState}
variable {nm q:Str}{C N fI:Addr}{bs bm bmB:List Value}{hdct:Bool}{sn:List Str}{sub:List Value}{ab:Bool}{col:Option Bool}{dd:Option Addr}{k0 k1 k2 k3 k5:Option Value}{B newId initId:String}{mN:Str->Option Value}{oI:Obj}{rest:List Value}
noncomputable def aT(C t:Addr):Obj:={ cls:=.ref C,data:=.fields #[.ref t,.none,.none,.none,.bool false,.none] }
theorem mv(F:ExcBaseFacts B newId initId bmB)(T:OwnTail h bmB bm){Q:Fin->Shared->Prop}(hC:h.get? C=some (excClassObj nm q C N bs bm hdct sn sub ab col dd k0 k1 k2 k3 k5 newId))(hn:h.Ns N mN)(hi:mN "__init__"=some (.ref fI))(hfI:h.get? fI=some oI)(hfc:oI.cls=.type "function")(hrest:rest.length<=sizeLine)
 (hq:wpAny (model prog w) A (call (.ref fI) (.ref (h.objs.size+1)::rest)) (λr s'=>r=.none/\Q (.done (.ret (.ref (h.objs.size+1)))) s') E ⟨(h.push { cls:=.type "tuple",data:=.seq rest.toArray }).push (aT C h.objs.size),g,d,t,os⟩) :
 wpAny (model prog w) A (Builtin.«type.__call__» ⟨.ref C::rest,[]⟩) Q E ⟨h,g,d,t,os⟩:=by
 have kk:∀b o,h.get? b=some o->((h.push { cls:=.type "tuple",data:=.seq rest.toArray }).push (aT C h.objs.size)).get? b=some o:=λb o e=>Heap.get?_push_of_some _ (Heap.get?_push_of_some _ e)
 have g0:((h.push { cls:=.type "tuple",data:=.seq rest.toArray }).push (aT C h.objs.size)).get? (h.objs.size+1)=some (aT C h.objs.size):=by
  have:=Heap.get?_push_size (h.push { cls:=.type "tuple",data:=.seq rest.toArray }) (o:=aT C h.objs.size) rfl
  rwa [Heap.size_push]at this
 have cC:(Value.ref C::bm).contains (.ref C)=true:=by simp
 repeat (first |with_reducible refine wpAny_loadPart_at hC ?_ |with_reducible refine wpAny_madeBy_exc hC ?_ |wp_step)
 refine codeAny_call_builtin_code (Code.quiet_builtin _ F.quiet) (wpAny_check_new_subT F T hC (codeAny_exc_new_subT F T hC ?_ hrest));have hC':=kk _ _ hC;have hn':=hn.keeps kk;have T':=T.keeps kk;have hf':=kk _ _ hfI;show wpAny _ _ _ _ _ ⟨(h.push { cls:=.type "tuple",data:=.seq rest.toArray }).push (aT C h.objs.size),g,d,t,os⟩;generalize (h.push { cls:=.type "tuple",data:=.seq rest.toArray }).push (aT C h.objs.size)=h2 at *
 unfold aT at g0
 unfold isInstance
 repeat (first |with_reducible refine wpAny_loadPart_at g0 ?_ | (with_reducible refine wpAny_isSubtype_exc hC' ?_;rw[cC]) |wp_step)
 show wpAny _ _ (typeLookup (.ref C) _) _ _ _;refine wpAny_typeLookup_tail hC' hn' T' F.mroIs F.init.lookup ?_;rw[hi];refine wpAny_holding (wpAny_bind ?_);unfold bindSpecial;refine wpAny_bind (wpAny_typeOf (T:="function") ⟨_,hf',hfc⟩ ?_);rw[if_pos (by decide)];refine wpAny_pure (wpAny_bind (wpAny_mono hq (λr s' hr=>?_) λ_ _ z=>z));obtain⟨rfl,z⟩:=hr
 wp_walk
 exact z
theorem mD(F:ExcBaseFacts B newId initId bmB)(T:OwnTail h bmB bm){Q:Value->Shared->Prop}(hC:h.get? C=some (excClassObj nm q C N bs bm hdct sn sub ab col dd k0 k1 k2 k3 k5 newId))(hn:h.Ns N mN)(hi:mN "__init__"=some (.ref fI))(hfI:h.get? fI=some oI)(hfc:oI.cls=.type "function")(hrest:rest.length<=sizeLine)
 (hq:wpAny (model prog w) (A.under (.builtin "type.__call__" ⟨.ref C::rest,[]⟩)) (call (.ref fI) (.ref (h.objs.size+1)::rest)) (λr s'=>r=.none/\Q (.ref (h.objs.size+1)) s') E ⟨(h.push { cls:=.type "tuple",data:=.seq rest.toArray }).push (aT C h.objs.size),g,d,t,os⟩) :
 wpAny (model prog w) A (call (.ref C) rest) Q E ⟨h,g,d,t,os⟩:=by
 have a1:=tc_lookup;have a2:=tc_bind (.ref C);have hT:(⟨h,g,d,t,os⟩:Shared).TypeIs (.ref C) "type":=⟨_,hC,rfl⟩;refine wpAny_call (codeAny_of_tree ?_);show wpAny _ _ (callAny (.ref C) _) _ _ _
 repeat (any_goals (first |assumption |with_reducible refine wpAny_loadPart_at hC ?_ |wp_step))
 refine⟨rfl,codeAny_call_builtin_at (Code.quiet_builtin _ (by decide +kernel)) entry_typeCall (wpAny_check_type_call_sub hC (mv F T hC hn hi hfI hfc hrest ?_))⟩;exact hq
end
section
variable {M:Model}{A:Around}{E:Value->Shared->Prop}{s:Shared}{env:Env}
variable {nm q:Str}{C N:Addr}{bs bm:List Value}{hdct:Bool}{sn:List Str}{sub:List Value}{ab:Bool}{col:Option Bool}{dd:Option Addr}{k0 k1 k2 k3 k5:Option Value}{newId:String}
theorem nW{x:Sem Value}{Q:Flow->Shared->Prop}(hbase:bm.contains (.type "BaseException")=true)(hh:A.handled=none)
 (hx:wpAny M A x (λv s1=>∃e t d,v=.ref e/\s1.heap.get? C=some (excClassObj nm q C N bs bm hdct sn sub ab col dd k0 k1 k2 k3 k5 newId)/\s1.heap.get? e=some { aT C t with dict:=d }/\E (.ref e) s1) E s) :
 wpAny M A (raiseStmt env (some x) none) Q E s:=by
 have cB:(Value.ref C::bm).contains (.type "BaseException")=true:=by rw[List.contains_cons,hbase,Bool.or_true]
 unfold raiseStmt;refine wpAny_bind (wpAny_mono hx (λv s1 h1=>?_) λ_ _ z=>z);obtain⟨e,t,d,rfl,hC,he,hE⟩:=h1;obtain⟨hp,g,d',tk,os⟩:=s1;unfold aT at he
 repeat (first |with_reducible refine wpAny_loadPart_at he ?_ |with_reducible refine wpAny_loadPart_at hC ?_ | (with_reducible refine wpAny_isSubtype_exc hC ?_;rw[cB]) |wp_step)
 exact wpAny_raiseNew_none hh hE
end
noncomputable def CXV(P:Program)(w:World):CXT:=λouter H s E e s'=>∃d:Option Addr,CXW P w outer H s (λc _ H'=>E c d H') e s'/\∃ea ob,e=.ref ea/\s'.heap.get? ea=some ob/\ob.dict=d
noncomputable def EX(C a:Addr)(d:Option Addr):HO:=.ext λh=>∃t,h.get? a=some { aT C t with dict:=d }
theorem ly{P:Program}{w:World}{H:Hp}{h:Heap}{C a t:Addr}{d:Option Addr}(e:h.get? a=some { aT C t with dict:=d }):ObjOk P w H h a (EX C a d):=⟨⟨t,e⟩,⟨_,e⟩,λh1 h2 ⟨t',e'⟩ k=>⟨t',k _ e'⟩⟩
section
variable {P:Program}{w:World}{K:PySem.W.Frag}{mg:Str->Option Value}{base:Heap}{N:List Str}{qual:Str}{scope:Scope}{f:Addr}{cd:Value}{A:Around}{outer:List Env}{s:Shared}{H:Hp}{E:XK}{pins:List (Addr×Obj)}{σ:St}{H1:Hp}{s1:Shared}
theorem my{e C:Addr}{oe:Obj}{vs:Array Value}{a0:Value}(I:Inv (aJ (CXV P w) P w K mg base N qual scope f cd A outer s H E) pins σ H1 s1)(he:s1.heap.get? e=some oe)(hc:oe.cls=.ref C)(hd:oe.data=.fields vs)(h0:vs[0]?=some a0)(h1:vs[1]?=some .none)(hn:H1 e=none)(hs:s.heap.get? e=none)(hE:E (.ref C) oe.dict H1) :
 (aJ (CXV P w) P w K mg base N qual scope f cd A outer s H E).xe (.ref e) s1:=by
 have hst:=I.stack;have hfree:=I.stkFree;have hfrm:(envOfC qual scope s.heap.objs.size f cd).frame=some s.heap.objs.size:=rfl;have efr:frs (envOfC qual scope s.heap.objs.size f cd::outer)=s.heap.objs.size::frs outer:=ln hfrm;have hin:∀env∈(envOfC qual scope s.heap.objs.size f cd::outer),∀b,env.frame=some b->b∈e::frs (envOfC qual scope s.heap.objs.size f cd::outer):=λenv hv b hb=>v5 _ (List.mem_filterMap.mpr ⟨env,hv,hb⟩)
 have b1:∀b o,s.heap.get? b=some o->b∉frs outer->∃o',s1.heap.get? b=some o'/\(PySem.W.hideAll s1.heap (e::frs (envOfC qual scope s.heap.objs.size f cd::outer))).get? b=some o':=λb o q hb=>by
  obtain⟨o',q'⟩:=I.base.there b o q (λz=>nomatch z);refine⟨o',q',PySem.W.hideAll_get _ q' λz=>?_⟩;rw[efr]at z;rcases vO.mp z with z |z
  ·rw[z,hs]at q;cases q
  ·rcases vO.mp z with z |z
   ·exact absurd (Heap.lt_size q) (by rw[z];exact vW _)
   ·exact hb z
 have b2:∀b x,H1 b=some x->∃o',s1.heap.get? b=some o'/\(PySem.W.hideAll s1.heap (e::frs (envOfC qual scope s.heap.objs.size f cd::outer))).get? b=some o':=λb x q=>by
  obtain⟨o',q'⟩:∃o',s1.heap.get? b=some o':=pK (I.hok b x q);refine⟨o',q',PySem.W.hideAll_get _ q' λz=>?_⟩;rcases vO.mp z with z |z
  ·rw[z,hn]at q;cases q
  ·rw[hfree b z]at q;cases q
 have hB:(PySem.W.hideAll s1.heap (e::frs (envOfC qual scope s.heap.objs.size f cd::outer))).get? e=none:=PySem.W.hideAll_none _ (wg ..)
 have fd:∀b∈frs outer,∀o,s1.heap.get? b=some o->∀ws,o.data≠.fields ws:=λb hb o q=>by obtain⟨_,o',q',hdd⟩:=I.funs.mem hb;have q'':s1.heap.get? b=some o':=q';rw[q]at q'';cases q'';exact hdd
 refine wpAny_mono (er (E':=λ_ _=>False) (kD _ _) (wpAny_leaving_firstW (L:=s.heap.objs.size) (a0:=a0) I.ok.frames (PySem.W.funFrames_hide hst hin) hfrm he (λb o q=>PySem.W.of_hideAll _ q) hB hd h1 h0 (Q:=λ_ s''=>∃h'',s''={ s1 with heap:=h'' }/\Heap.FlyingW (PySem.W.hideAll s1.heap (e::frs (envOfC qual scope s.heap.objs.size f cd::outer))) outer e oe.cls a0 h''/\s1.heap.UpToSlots h'') (E:=λ_ _=>False) λh' hL=>?_)) (λ_ s'' hq=>?_) (λ_ _ z=>z.elim)
 ·obtain⟨k1,⟨_,_,k2⟩,k3,k4⟩:=hL;exact⟨h',rfl,⟨k1,hB,k2,k3⟩,k4⟩
 ·obtain⟨⟨h'',rfl,fl,up⟩,kd⟩:=hq;obtain⟨o',eo',od'⟩:=kd e oe he;rw[hc]at fl;refine⟨oe.dict,⟨e,.ref C,a0,_,H1,rfl,I.os,I.bare,?_,I.hok.back b2 fl.1,fl,λb o q hb=>?_,λb x q=>?_,hn,hs,hE⟩,e,o',rfl,eo',od'⟩
  ·exact I.base.back (λb o q hb=>let⟨o',q1,q2⟩:=b1 b o q hb;⟨o',q1,fl.1 _ _ q2⟩) I.ok.frf fd up
  ·obtain⟨o',q1,q2⟩:=b1 b o q hb;exact⟨o',fl.1 _ _ q2,q2⟩
  ·obtain⟨o',q1,q2⟩:=b2 b x q;exact⟨o',fl.1 _ _ q2,q2⟩
theorem mz{E':XK}{e:Value}{s2:Shared}(I:Inv (aJ (CXV P w) P w K mg base N qual scope f cd A outer s H E) pins σ H1 s1)(h:CXV P w (aJ (CXV P w) P w K mg base N qual scope f cd A outer s H E).stack H1 s1 E' e s2)(hE:∀c d H',E' c d H'->E c d H') :
 (aJ (CXV P w) P w K mg base N qual scope f cd A outer s H E).xe e s2:=by
 obtain⟨d,hW,ea,ob,rfl,eo,ed⟩:=h;have I':Inv (aJ (CXW P w) P w K mg base N qual scope f cd A outer s H (λc _ H'=>E c d H')) pins σ H1 s1:=(I.wish (aJ (CXW P w) P w K mg base N qual scope f cd A outer s H (λc _ H'=>E c d H')).xe);have x:=mC (E':=λc _ H'=>E' c d H') I' hW (λc _ H' z=>hE c d H' z);have x':wpAny (model P w) (A.deeper (envOfC qual scope s.heap.objs.size f cd)) (leaving (envOfC qual scope s.heap.objs.size f cd) (.ref ea)) (λ_ s''=>CXW P w outer H s (λc _ H'=>E c d H') (.ref ea) s'') (λe' s''=>CXW P w outer H s (λc _ H'=>E c d H') e' s'') s2:=x;refine wpAny_mono (er (E':=λ_ _=>False) (kD _ _) x') (λ_ s'' hq=>?_) (λ_ _ z=>z.elim);obtain⟨h1,kd⟩:=hq;obtain⟨o',eo',od'⟩:=kd ea ob eo;exact⟨d,h1,ea,o',rfl,eo',od'.trans ed⟩
theorem cq{E':XK}(hE:∀c d H',E' c d H'->E c d H'):cc (CXV P w) (aJ (CXV P w) P w K mg base N qual scope f cd A outer s H E) E':=λ_ _ _ _ _ _ I h=>mz I h hE
theorem j1{X:Cx}:cc (CXV X.prog X.w) X E0:=λ_ _ _ _ _ _ _ h=>by obtain⟨_,h,_⟩:=h;obtain⟨_,_,_,_,_,_,_,_,_,_,_,_,_,_,_,z⟩:=h;exact z.elim
end
section
variable {X:Cx}{pins:List (Addr×Obj)}{σ:St}{H:Hp}{s:Shared}{a C:Addr}{f:Str}
theorem rp{h':Heap}{tk:Nat}{t:Addr}{y:V}{u:Value}(I:Inv X pins σ H s)(e:H a=some (EX C a none))(ry:RelV y u)(ha:h'.get? a=some { aT C t with dict:=some s.heap.objs.size })(hn:h'.Ns1 s.heap.objs.size (λg=>if g=f then some u else none))(k:∀b o,b≠a->s.heap.get? b=some o->h'.get? b=some o) :
 Inv X pins σ (upd (upd H s.heap.objs.size (.xd [(f,y)])) a (EX C a (some s.heap.objs.size))) { s with heap:=h',toks:=tk }:=by
 have fr:H s.heap.objs.size=none:=I.hok.fresh (vJ _);have nd:a≠s.heap.objs.size:=aO e fr;have other:∀b,b≠a->b≠s.heap.objs.size->upd (upd H s.heap.objs.size (.xd [(f,y)])) a (EX C a (some s.heap.objs.size)) b=H b:=λb h1 h2=>by rw[upd_ne h1,upd_ne h2]
 have na:∀b o,H b=some o->(∀φ,o≠.ext φ)->b≠a:=λb o q h1 z=>by rw[z,e]at q;exact h1 _ (Option.some.inj q).symm
 have ns:∀b o,s.heap.get? b=some o->b≠s.heap.objs.size:=λb o q=>vP (Heap.lt_size q)
 have nf:∀b o,H b=some o->b≠s.heap.objs.size:=λb o q=>aO q fr
 refine I.un ⟨λb o q n _ _=>k b o (λz=>by rw[z,e]at n;cases n) q,λb o q n _ _=>⟨o.slots,k b o (λz=>by rw[z,e]at n;cases n) q⟩,λb o q n _=>?_,λb o q _=>?_,λb xs q=>?_,λb o u q=>?_,λb ps q=>⟨#[],?_⟩⟩ λb o q=>?_
 ·rw[other b (λz=>by rw[z,e]at n;cases n) (ns b o q)];exact n
 ·by_cases z:b=a
  ·exact⟨_,by rw[z];exact ha⟩
  ·exact⟨o,k b o z q⟩
 ·rw[other b (na b _ q λφ z=>by cases z) (nf b _ q)];exact q
 ·rw[other b (na b _ q λφ z=>by cases z) (nf b _ q)];exact q
 ·rw[other b (na b _ q λφ z=>by cases z) (nf b _ q),Array.append_empty];exact q
 ·by_cases z:b=a
  ·subst z;rw[ai]at q;cases q;exact ly ha
  ·rw[upd_ne z]at q;by_cases z2:b=s.heap.objs.size
   ·subst z2;rw[ai]at q;cases q;refine⟨_,hn,λg=>?_⟩;by_cases zg:g=f
    ·subst zg;rw[if_pos rfl];show RelO (List.lookup g [(g,y)]) (some u);simp only[List.lookup,beq_self_eq_true];exact ry
    ·rw[if_neg zg];have:(g == f)=false:=beq_false_of_ne zg;show RelO (List.lookup g [(f,y)]) none;simp only[List.lookup,this];trivial
   ·rw[upd_ne z2]at q;refine(I.hok b o q).stay (λc v hc r=>k c v ?_ r) (λc r=>?_) λc xs r=>?_
    ·rcases hc with rfl |hc
     ·exact z
     ·exact na c _ hc λφ z=>by cases z
    ·rw[other c (na c _ r λφ z=>by cases z) (nf c _ r)];exact r
    ·rw[other c (na c _ r λφ z=>by cases z) (nf c _ r)];exact r
end
def sXf(K:PySem.W.Frag)(ta tv:TE)(f:Str):TS:=λD σ H=>tv σ H λy H1=>ta σ H1 λx H2=>∃a C,x=.ref a/\H2 a=some (EX C a none)/\XCls K C/\NoAttr K C f/\∀dx,H2 dx=none->dx≠a->D.nx σ (upd (upd H2 dx (.xd [(f,y)])) a (EX C a (some dx)))
section
variable {X:Cx}{o value:Expr}{f:Str}{pos pos':Pos}{ta tv:TE}
theorem oi(ha:PE X o ta)(hv:PE X value tv)(hs:swapsWith value (some (.Attribute o f pos')) pos.line X.env=pure false):PS X (.Assign [.Attribute o f pos'] value pos) (sXf X.K ta tv f):=by intro pins s σ H D I h;refine plainObj_wpAny_Assign_Attribute (thn (hv pins s σ H _ I h) λu s1 ⟨y,H1,I1,ry,q⟩=>thn (ha pins s1 σ H1 _ I1 q) λov s2 ⟨x,H2,I2,rx,a,C,ex,ea,c,n,q2⟩=>?_) hs;subst ex;obtain rfl:ov=Value.ref a:=rx;obtain⟨⟨t,et⟩,_,_⟩:=(show ObjOk X.prog X.w H2 s2.heap a (EX C a none)from I2.hok a _ ea);have fr:H2 s2.heap.objs.size=none:=I2.hok.fresh (vJ _);refine mw I2.kIn c et rfl rfl rfl n λh' tk e1 e2 e3=>⟨σ,_,rp (t:=t) I2 ea ry e1 e2 e3,q2 _ fr (Ne.symm (aO ea fr))⟩
end
def fO(C:Addr)(f:Str):Sp:=λvs H Q _=>∃(e:Addr) (v:V),vs=[.ref e,v]/\H e=some (EX C e none)/\∀dx,H dx=none->dx≠e->Q .non (upd (upd H dx (.xd [(f,v)])) e (EX C e (some dx)))
structure OwnX(x:Str)(C fI:Addr)(bmB:List Value)(newId:String)(mg:Str->Option Value)(h:Heap):Prop where
 bound:mg x=some (.ref C)
 obj:∃bm N nm q bs hdct sn sub ab col dd k0 k1 k2 k3 k5 mN,h.get? C=some (excClassObj nm q C N bs bm hdct sn sub ab col dd k0 k1 k2 k3 k5 newId)/\h.Ns N mN/\mN "__init__"=some (.ref fI)/\OwnTail h bmB bm
 fn:∃oI,h.get? fI=some oI/\oI.cls=.type "function"
def mU(E:XK)(c:Value)(f:Str)(t:TA):TS:=λ_ σ H=>t σ H λvs H1=>∃v,vs=[v]/\∀dx,H1 dx=none->E c (some dx) (upd H1 dx (.xd [(f,v)]))
section
variable {X:Cx}{pins:List (Addr×Obj)}{σ:St}{H:Hp}{s:Shared}{a:Addr}{φ:Heap->Prop}
theorem Inv.untrack{H':Hp}{s':Shared}(I:Inv X pins σ H s)(e:H a=some (.ext φ))(J:Inv X pins σ H' s')(hn:H' a=none):Inv X pins σ (λb=>if b=a then none else H b) s:=by
 have other:∀b,b≠a->(if b=a then none else H b)=H b:=λb h1=>if_neg h1
 have na:∀b o,H b=some o->(∀φ,o≠.ext φ)->b≠a:=λb o q h1 z=>by rw[z,e]at q;exact h1 _ (Option.some.inj q).symm
 refine⟨I.ok,I.os,I.bare,⟨I.base.keep,I.base.slot,λb o q n hx=>?_,I.base.there,λb xs q=>?_,λb o u q=>?_,λb ps q=>?_⟩,I.loc,I.cell,?_,λx c q=>?_,λp hp=>?_,λb o q=>?_,I.len⟩
 ·show(if b=a then none else H b)=none;split
  ·rfl
  ·exact I.base.free b o q n hx
 ·have z:b≠a:=λz=>by have:=J.base.tups b xs q;rw[z,hn]at this;cases this
  rw[other b z];exact I.base.tups b xs q
 ·have z:b≠a:=λz=>by have:=J.base.frzs b o u q;rw[z,hn]at this;cases this
  rw[other b z];exact I.base.frzs b o u q
 ·have z:b≠a:=λz=>by obtain⟨m,this⟩:=J.base.tbls b ps q;rw[z,hn]at this;cases this
  rw[other b z];exact I.base.tbls b ps q
 ·show(if X.env.locals=a then none else H X.env.locals)=none;split
  ·rfl
  ·exact I.free
 ·show(if c=a then none else H c)=none;split
  ·rfl
  ·exact I.freeC x c q
 ·obtain⟨h1,h2,h3⟩:=I.pin p hp;refine⟨h1,?_,h3⟩;show(if p.1=a then none else H p.1)=none;split
  ·rfl
  ·exact h2
 ·have q':(if b=a then none else H b)=some o:=q;by_cases z:b=a
  ·rw[if_pos z]at q';cases q'
  ·rw[if_neg z]at q';refine(I.hok b o q').stay (λ_ _ _ r=>r) (λc r=>?_) λc xs r=>?_
   ·rw[other c (na c _ r λφ z=>by cases z)];exact r
   ·rw[other c (na c _ r λφ z=>by cases z)];exact r
end
section
variable {P:Program}{w:World}{K:PySem.W.Frag}{mg:Str->Option Value}{base:Heap}{N:List Str}{qual:Str}{scope:Scope}{f:Addr}{cd:Value}{A:Around}{outer:List Env}{s:Shared}{H:Hp}{E:XK}
theorem iw{x att:Str}{C fI:Addr}{bmB:List Value}{Bn newId initId:String}{np cpos pos:Pos}{e:Expr}{t:TA}{fd:FuncData}{ps:List Str}{k:Nat}(hg:Gl (aJ (CXV P w) P w K mg base N qual scope f cd A outer s H E) x)(O:OwnX x C fI bmB newId mg base)(FB:ExcBaseFacts Bn newId initId bmB)
 (F:FnOk P w K mg base CX0 k fI fd ps (fO C att)) (hr:Room (k+1) (aJ (CXV P w) P w K mg base N qual scope f cd A outer s H E).A) (hb:Binds K fd ps []) (hk:PySem.W.keepIn K (.ref C)=true) (ha:PA (aJ (CXV P w) P w K mg base N qual scope f cd A outer s H E) [e] t)
 (hdb:(x == ("__debug__":Str))=false:=by decide) (he:starEach [e] (envOfC qual scope s.heap.objs.size f cd)=(false,eval e (envOfC qual scope s.heap.objs.size f cd))::starEach [] (envOfC qual scope s.heap.objs.size f cd):=by rfl) (hpl:(backTo cpos (starEach [] (envOfC qual scope s.heap.objs.size f cd))).any (·.1)=false:=by rfl) :
 PS (aJ (CXV P w) P w K mg base N qual scope f cd A outer s H E) (.Raise (some (.Call (.Name x np) [e] [] cpos)) none pos) (mU E (.ref C) att t):=by
 intro pins s1 σ H1 D I h;obtain⟨tl,NN,nm,q,bs,hdct,sn,sub,ab,col,dd,k0,k1,k2,k3,k5,mN,hC,hN,hi,T⟩:=O.obj;obtain⟨oI,hfI,hfc⟩:=O.fn;rw[arm_exec_Raise];refine wpAny_bind (wpAny_standAt ?_);refine nW (C:=C) (nm:=nm) (q:=q) (N:=NN) (bs:=bs) (bm:=tl) (hdct:=hdct) (sn:=sn) (sub:=sub) (ab:=ab) (col:=col) (dd:=dd) (k0:=k0) (k1:=k1) (k2:=k2) (k3:=k3) (k5:=k5) (newId:=newId) (T.hasType FB.hasBase) (I.ok.hd rfl) ?_;refine wpAny_bind (wpAny_mono ?_ (λv s3 h3=>wpAny_bind (wpAny_standAt (wpAny_pure h3))) λ_ _ z=>z);refine wpAny_Call_Name_kw (cT I hg O.bound ?_ hdb);refine PySem.W.callWith_K (h₀:=base) I.ok.mod.kin hk (thn (ha cpos pins s1 σ H1 _ I h) λus s2 ⟨vs,H2,I2,r,v,ev,q2⟩=>⟨I2.kIn,?_⟩) he hpl;subst ev;obtain⟨hh,g,d,tt,os⟩:=s2;have hlen:us.length<=sizeLine:=by rw[<- r.length];show 1<=sizeLine;decide
 show wpAny _ _ (call (.ref C) us) _ _ ⟨hh,g,d,tt,os⟩;refine mD FB (T.keeps I2.bk) (I2.bk _ _ hC) (hN.keeps I2.bk) hi (I2.bk _ _ hfI) hfc hlen ?_
 have ge:((hh.push { cls:=.type "tuple",data:=.seq us.toArray }).push (aT C hh.objs.size)).get? (hh.objs.size+1)=some (aT C hh.objs.size):=by
  have:=Heap.get?_push_size (hh.push { cls:=.type "tuple",data:=.seq us.toArray }) (o:=aT C hh.objs.size) rfl
  rwa [Heap.size_push]at this
 have I3:Inv (aJ (CXV P w) P w K mg base N qual scope f cd A outer s H E) pins σ (upd H2 (hh.objs.size+1) (EX C (hh.objs.size+1) none)) ⟨(hh.push { cls:=.type "tuple",data:=.seq us.toArray }).push (aT C hh.objs.size),g,d,tt,os⟩ :=
  I2.laid (a:=hh.objs.size+1) (o:=EX C (hh.objs.size+1) none) (t':=tt) (λb u z=>Heap.get?_push_of_some _ (Heap.get?_push_of_some _ z)) (Nat.le_succ _) (ly (t:=hh.objs.size) ge)
 have fr:H2 (hh.objs.size+1)=none:=I2.hok.fresh (Nat.le_succ _);generalize hea:hh.objs.size+1=ea at ge I3 fr ⊢
 generalize (hh.push { cls:=.type "tuple",data:=.seq us.toArray }).push (aT C hh.objs.size)=h3 at ge I3 ⊢
 have sp0:fO C att [V.ref ea,v] (upd H2 ea (EX C ea none)) (λv' H'=>v'=.non/\∃dx,H2 dx=none/\dx≠ea/\H'=upd (upd (upd H2 ea (EX C ea none)) dx (.xd [(att,v)])) ea (EX C ea (some dx))) E0 :=
  ⟨ea,v,rfl,ai,λdx h1 h2=>⟨rfl,dx,by rwa [upd_ne h2]at h1,h2,rfl⟩⟩
 have r2:Vals [V.ref ea,v] (Value.ref ea::us):=.cons rfl r
 have hl:(Value.ref ea::us++[]).length=ps.length:=by have z:=r2.length;rw[F.len _ _ _ _ sp0]at z;rw[v7];exact z.symm
 have hbb:=hb _ (Value.ref ea::us) I3.kIn hl;rw[v7]at hbb;refine wpAny_call (codeAny_mono (F.run _ (aJ (CXV P w) P w K mg base N qual scope f cd A outer s H E).stack _ _ ⟨Value.ref ea::us,[]⟩ (Value.ref ea::us) _ _ E0 (hr.make C us []) (I3.env0.make C us []) hbb r2 sp0) λr' s' hq'=>?_);cases r' with
 |error e'=>exact(show False from hq').elim
 |ok fl =>
  cases fl with
  |ret u =>
   obtain⟨v',H',I4,rv,ev,dx,hdx,hde,eH⟩:=I3.after hq';subst ev;subst eH;refine⟨rv,?_⟩;obtain⟨⟨t4,et4⟩,_,_⟩:=(show ObjOk P w _ s'.heap ea (EX C ea (some dx))from I4.hok ea _ ai)
   have sn':s.heap.get? ea=none:=by
    cases z:s.heap.get? ea with
    |none=>rfl
    |some o =>obtain⟨o',z'⟩:=I2.base.there ea o z (λz=>nomatch z);exact absurd (Heap.lt_size z') (by rw[<- hea];show ¬hh.objs.size+1<hh.objs.size;omega)
   have I5:=I4.untrack (a:=ea) ai I2 fr
   have eH5:(λb=>if b=ea then none else upd (upd (upd H2 ea (EX C ea none)) dx (.xd [(att,v)])) ea (EX C ea (some dx)) b)=upd H2 dx (.xd [(att,v)]):=funext λb=>by
    by_cases z:b=ea
    ·rw[if_pos z,z,upd_ne (Ne.symm hde),fr]
    ·rw[if_neg z,upd_ne z];by_cases z2:b=dx
     ·rw[z2,ai,ai]
     ·rw[upd_ne z2,upd_ne z,upd_ne z2]
   rw[eH5]at I5;refine⟨ea,t4,some dx,rfl,I5.bk _ _ hC,et4,?_⟩;exact my I5 et4 rfl rfl rfl rfl (by rw[upd_ne (Ne.symm hde)];exact fr) sn' (q2 dx hdx)
  |next=>exact(show False from hq').elim
  |brk=>exact(show False from hq').elim
  |cont=>exact(show False from hq').elim
end
section
variable {P:Program}{w:World}{K:PySem.W.Frag}{mg:Str->Option Value}{base:Heap}
theorem Fun.okV{x qual:Str}{st:Stmt}{f:Addr}{fd:FuncData}{N ps:List Str}{k:Nat}{sp:Sp}(F:Fun K x qual st f fd)(S:FnScope N ps (ah st))(len:∀vs H Q E,sp vs H Q E->vs.length=ps.length)
 (hbody:∀(cdv:Value) (A:Around) (outer:List Env) (s:Shared) (H:Hp) (vs:List V) (Q:VK) (E:XK),Room k (A.deeper (envOfC qual (ah st) s.heap.objs.size f cdv))->sp vs H Q E ->
   ∃t,PSs (aJ (CXV P w) P w K mg base N qual (ah st) f cdv A outer s H E) (aw st) t/\t { nx:=λ_ H'=>Q .non H',rt:=Q } (start N vs) H):FnOk P w K mg base (CXV P w) (k+1) f fd ps sp:=by
 obtain⟨oc,od,kV,doc,pm,an,cdv,ct,osl,rfl,lk,hcd⟩:=F.ex;exact gu lk hcd S len λA outer s H vs Q E hr hsp=>hbody cdv A outer s H vs Q E hr hsp
theorem FunD.okV{x qual:Str}{st:Stmt}{dV:Value}{f:Addr}{fd:FuncData}{N ps:List Str}{k:Nat}{sp:Sp}(F:FunD K x qual st dV f fd)(S:FnScope N ps (ah st))(len:∀vs H Q E,sp vs H Q E->vs.length=ps.length)
 (hbody:∀(cdv:Value) (A:Around) (outer:List Env) (s:Shared) (H:Hp) (vs:List V) (Q:VK) (E:XK),Room k (A.deeper (envOfC qual (ah st) s.heap.objs.size f cdv))->sp vs H Q E ->
   ∃t,PSs (aJ (CXV P w) P w K mg base N qual (ah st) f cdv A outer s H E) (aw st) t/\t { nx:=λ_ H'=>Q .non H',rt:=Q } (start N vs) H):FnOk P w K mg base (CXV P w) (k+1) f fd ps sp:=by
 obtain⟨oc,od,kV,doc,pm,an,cdv,ct,osl,rfl,lk,hcd⟩:=F.ex;exact gu lk hcd S len λA outer s H vs Q E hr hsp=>hbody cdv A outer s H vs Q E hr hsp
end
section
variable {P:Program}{w:World}{K:PySem.W.Frag}{mg:Str->Option Value}{base:Heap}{N:List Str}{qual:Str}{scope:Scope}{f:Addr}{cd:Value}{A:Around}{outer:List Env}{s:Shared}{H:Hp}{E:XK}
end
def PXV(X:Cx)(x:Expr)(tx:XK->TE):Prop:=∀(W:Value->Shared->Prop) (pins:List (Addr×Obj)) (σ:St) (s:Shared) (H:Hp) (Q:VK) (E:XK),me (CXV X.prog X.w) (X.wish W) pins σ E->Inv (X.wish W) pins σ H s->tx E σ H Q ->
 wpAny (model X.prog X.w) X.A (eval x X.env) (EP (X.wish W) pins σ Q) W s
def mr(K:PySem.W.Frag)(R:Addr)(i:Nat)(th:Addr->Obj->TS)(D:Ends)(σ:St):XK:=λcls d H'=>PySem.W.exmOne K cls (.ref R)=some true /\
 ∀ea oe vs,oe.cls=cls->oe.dict=d->oe.data=.fields vs->H' ea=none->th ea oe { nx:=λσ'' H''=>D.nx (σ''.set i none) H'',rt:=λ_ _=>False,bk:=λ_ _=>False,ct:=λ_ _=>False } (σ.set i (some (.ref ea))) H'
def mT(K:PySem.W.Frag)(tx:XK->TE)(R:Addr)(i:Nat)(th:Addr->Obj->TS):TS:=λD σ H=>tx (mr K R i th D σ) σ H λ_ H'=>D.nx σ H'
section
variable {X:Cx}{k:Nat}{f R R2:Addr}{fd:FuncData}{ps:List Str}{sp:Sp}{dvs:List V}{ds:List Value}{r r2 n n2 x:Str}{p pos epos np hpos np2 hpos2:Pos}{e ex:Expr}{es:List Expr}{t:TA}{i i2:Nat}{b₀ b₂:Stmt}{suite suite2:List Stmt}{th th2:Addr->Obj->TS}{tx:XK->TE}
theorem n8(F:FnOk X.prog X.w X.K X.mg X.base (CXV X.prog X.w) k f fd ps sp)(hr:Room k X.A)(hg:∀W,Gl (X.wish W) x)(hm:X.mg x=some (.ref f))(hk:PySem.W.keepIn X.K (.ref f)=true)(hb:Binds X.K fd ps ds)(hd:Vals dvs ds)
 (ha:∀W,PA (X.wish W) (e::es) t) (hdb:(x == ("__debug__":Str))=false:=by decide) (he:starEach (e::es) X.env=(false,eval e X.env)::starEach es X.env:=by rfl) (hpl:(backTo pos (starEach es X.env)).any (·.1)=false:=by rfl) :
 PXV X (.Call (.Name x p) (e::es) [] pos) (λE=>gM sp dvs E t):=by
 intro W pins σ s H Q E hx I h;refine wpAny_Call_Name_kw (cT (X:=X.wish W) I (hg W) hm ?_ hdb);refine PySem.W.callWith_K (h₀:=X.base) I.ok.mod.kin hk (thn (ha W pos pins s σ H _ I h) λus s1 ⟨vs,H1,I1,r,q⟩=>⟨I1.kIn,?_⟩) he hpl;exact nP (X:=X.wish W) F hr hb hd hx I1 r q
theorem t5{L:Addr}{pins:List (Addr×Obj)}{σ:St}{H1 H2:Hp}{s1 s2:Shared}{B:Heap}{ea:Addr}{cls a0:Value}{d:Option Addr}{hs:List ExceptHandler}{Q:Flow->Shared->Prop}(hstk:X.stack=X.env::X.outer)(hfr:X.env.frame=some L)(I1:Inv X pins σ H1 s1)(os:s2.os=s1.os)(bare:AllBare s2.gens)(un:Un (frs X.stack) [] H1 H2 s1.heap s2.heap)(hok:HOk X.prog X.w H2 s2.heap)(fl:Heap.FlyingW B X.stack ea cls a0 s2.heap)
 (b1:∀b o,s1.heap.get? b=some o->b∉frs X.stack->∃o',s2.heap.get? b=some o'/\B.get? b=some o') (b2:∀b x,H2 b=some x->∃o',s2.heap.get? b=some o'/\B.get? b=some o') (hea:H2 ea=none) (hnew:s1.heap.get? ea=none) (hd:∃ob,s2.heap.get? ea=some ob/\ob.dict=d)
 (k:∀h4 oe vs,Heap.FlyingW B (X.env::X.outer) ea cls a0 h4->oe.cls=cls->oe.dict=d->oe.data=.fields vs->Inv (cxH X ea oe) pins σ H2 { s2 with heap:=h4 }->(∀h5,B.StaysIn h5->h4.UpToSlots h5->Inv X pins σ H2 { s2 with heap:=h5 })->wpAny (model X.prog X.w) X.A (handleBy (.ref ea) X.env hs) Q X.xe { s2 with heap:=h4 }) :
 wpAny (model X.prog X.w) X.A (noteFrame (.ref ea) X.env) (λ_ s₂=>wpAny (model X.prog X.w) X.A (setFlight (.ref ea) none) (λ_ s₃=>wpAny (model X.prog X.w) X.A (handleBy (.ref ea) X.env hs) Q X.xe s₃) X.xe s₂) X.xe s2:=by
 obtain⟨ob,eob,dob⟩:=hd;have fl0:Heap.FlyingW B (X.env::X.outer) ea cls a0 s2.heap:=by rw[<- hstk];exact fl
 refine wpAny_mono (er (E':=λ_ _=>False) (kC _ _) (wpAny_looks_onW (E:=λ_ _=>False) (L:=L) (Q:=λ_ s'=>∃h3,s'={ s2 with heap:=h3 }/\Heap.HeldW B (X.env::X.outer) ea cls a0 L h3/\s2.heap.UpToSlots h3) (by rw[I1.ok.frames,hstk]) hfr fl0 λh3 hd3 up3=>⟨h3,rfl,hd3,up3⟩)) (λ_ s' hq=>?_) λ_ _ z=>z.elim
 obtain⟨⟨h3,rfl,hd3,up3⟩,kd3⟩:=hq;obtain⟨o3,e3,d3⟩:=kd3 ea ob eob;refine wpAny_mono (er (E':=λ_ _=>False) (iP _ _) (wpAny_landsW (E:=λ_ _=>False) (Q:=λ_ s'=>∃h4,s'={ s2 with heap:=h4 }/\Heap.FlyingW B (X.env::X.outer) ea cls a0 h4/\h3.UpToSlots h4) hd3 λh4 fl4 up4=>⟨h4,rfl,fl4,up4⟩)) (λ_ s' hq=>?_) λ_ _ z=>z.elim
 obtain⟨⟨h4,rfl,fl4,up4⟩,kd4⟩:=hq;obtain⟨o4,e4,d4⟩:=kd4 ea o3 e3;have up04:=up3.trans up4;have J4:Inv X pins σ H2 { s2 with heap:=h4 }:=lO I1 os bare un hok fl b1 b2 fl4.1 up04
 have neL:ea≠X.env.locals:=λz=>by obtain⟨mm,hn',_⟩:=I1.loc;obtain⟨oL,_,_,hoL,_⟩:=hn';rw[<- z,hnew]at hoL;cases hoL
 have neF:ea∉X.fs:=λz=>by obtain⟨_,o',e',_⟩:=I1.funs.mem z;rw[hnew]at e';cases e'
 obtain⟨oe4,vs4,ge4,ce4,de4,_⟩:=fl4.first;have e4':h4.get? ea=some o4:=e4;have eo:oe4=o4:=Option.some.inj (ge4.symm.trans e4');exact k h4 oe4 vs4 fl4 ce4 (by rw[eo];exact(d4.trans d3).trans dob) de4 (J4.held ge4 hea neL neF (λv z=>by rw[de4]at z;cases z)) λh5 st up5=>lO I1 os bare un hok fl b1 b2 st (up04.trans up5)
theorem m6{pins:List (Addr×Obj)}{σ:St}{H2:Hp}{s2:Shared}{D:Ends}{B h4:Heap}{ea:Addr}{cls a0:Value}{d:Option Addr}{oe4:Obj}(hok0:X.Ok)(fl4:Heap.FlyingW B (X.env::X.outer) ea cls a0 h4)(hc4:h4.get? ea=some oe4)(hd4:oe4.dict=d)(J:∀h5,B.StaysIn h5->h4.UpToSlots h5->Inv X pins σ H2 { s2 with heap:=h5 })
 (hea:H2 ea=none) (neL:ea≠X.env.locals) (neF:ea∉X.fs) (hN:X.N.Nodup) (hi:X.N[i]?=some n) (hk:X.env.scope.names.lookup n=some .local) (hsu:∀ea oe,PSs (cxH X ea oe) (b₀::suite) (th ea oe))
 (hth:∀ea oe vs,oe.cls=cls->oe.dict=d->oe.data=.fields vs->H2 ea=none->th ea oe { nx:=λσ'' H''=>D.nx (σ''.set i none) H'',rt:=λ_ _=>False,bk:=λ_ _=>False,ct:=λ_ _=>False } (σ.set i (some (.ref ea))) H2) :
 wpAny (model X.prog X.w) (X.A.mark (some (.ref ea))) (setFlight (.ref ea) none) (λ_ s5=>∃oe5,Inv (cxH X ea oe5) pins σ H2 s5/\th ea oe5 { nx:=λσ'' H''=>D.nx (σ''.set i none) H'',rt:=λ_ _=>False,bk:=λ_ _=>False,ct:=λ_ _=>False } (σ.set i (some (.ref ea))) H2) (λ_ _=>False) { s2 with heap:=h4 }:=by
 refine wpAny_mono (er (E':=λ_ _=>False) (iP _ _) (lands_againW (s:={ s2 with heap:=h4 }) (E:=λ_ _=>False) (Q:=λ_ s'=>∃h5,s'={ s2 with heap:=h5 }/\Heap.FlyingW B (X.env::X.outer) ea cls a0 h5/\h4.UpToSlots h5) fl4 λh5 fl5 up5=>⟨h5,rfl,fl5,up5⟩)) (λ_ s' hq=>?_) λ_ _ z=>z.elim
 obtain⟨⟨h5,rfl,fl5,up5⟩,kd5⟩:=hq;obtain⟨o5,e5,d5⟩:=kd5 ea oe4 hc4;obtain⟨oe5,vs5,ge5,ce5,de5,_⟩:=fl5.first;have e5':h5.get? ea=some o5:=e5;have eo:oe5=o5:=Option.some.inj (ge5.symm.trans e5');exact⟨oe5,(J h5 fl5.1 up5).held ge5 hea neL neF (λv z=>by rw[de5]at z;cases z),hth ea oe5 vs5 ce5 (by rw[eo];exact d5.trans hd4) de5 hea⟩
theorem m7{pins:List (Addr×Obj)}{H2:Hp}{s5:Shared}{σ:St}{D:Ends}{ea:Addr}{oe5:Obj}(ok:X.Ok)(hN:X.N.Nodup)(hi:X.N[i]?=some n)(hk:X.env.scope.names.lookup n=some .local)(hsu:∀ea oe,PSs (cxH X ea oe) (b₀::suite) (th ea oe))(I5:Inv (cxH X ea oe5) pins σ H2 s5)
 (ht:th ea oe5 { nx:=λσ'' H''=>D.nx (σ''.set i none) H'',rt:=λ_ _=>False,bk:=λ_ _=>False,ct:=λ_ _=>False } (σ.set i (some (.ref ea))) H2) {Q:Flow->Shared->Prop} {E:Value->Shared->Prop}
 (k:∀s7,(∃σ' H',Inv X pins σ' H' s7/\D.nx (σ'.set i none) H')->Q .next s7) (s6:Shared) (I6:Inv (cxH X ea oe5) pins (σ.set i (some (.ref ea))) H2 s6):wpAny (model X.prog X.w) (X.A.mark (some (.ref ea))) (execs (b₀::suite) X.env) Q E s6:=by
 refine wpAny_mono (hsu ea oe5 pins s6 _ H2 _ I6 ht) (λfw s7 hs7=>?_) λ_ _ z=>z.elim
 cases fw with
 |next =>obtain⟨σ',H',I7,q7⟩:=hs7;exact k s7 ⟨σ',H',Inv.unheld ok I7,q7⟩
 |ret u=>obtain⟨_,_,_,_,_,z⟩:=hs7;exact z.elim
 |brk=>obtain⟨_,_,_,z⟩:=hs7;exact z.elim
 |cont=>obtain⟨_,_,_,z⟩:=hs7;exact z.elim
theorem oj{L:Addr}(hstk:X.stack=X.env::X.outer)(hfr:X.env.frame=some L)(hx:PXV X ex tx)
 (hg:∀ea oe,Gl (cxH X ea oe) r) (hR:X.mg r=some (.ref R)) (hN:X.N.Nodup) (hi:X.N[i]?=some n) (hk:X.env.scope.names.lookup n=some .local) (hsu:∀ea oe,PSs (cxH X ea oe) (b₀::suite) (th ea oe))
 (hsw:swapsWith ex none epos.line X.env=pure false:=by rfl) (hdb:(r == ("__debug__":Str))=false:=by decide) :
 PS X (.Try [.Expr ex epos] [.ExceptHandler (some (.Name r np)) (some n) (b₀::suite) hpos] [] [] pos) (mT X.K tx R i th):=by
 intro pins s σ H D I h;refine wpAny_Try_except ?_;generalize hW:(λe s₁=>wpAny (model X.prog X.w) X.A (noteFrame e X.env) (λ_ s₂=>wpAny (model X.prog X.w) X.A (setFlight e none) (λ_ s₃=>wpAny (model X.prog X.w) X.A (handleBy e X.env [.ExceptHandler (some (.Name r np)) (some n) (b₀::suite) hpos]) (SP X pins D) X.xe s₃) X.xe s₂) X.xe s₁:Value->Shared->Prop)=W;refine wpAny_execs_cons ?_;refine wpAny_Expr_any (wpAny_mono (hx W pins σ s H (λ_ H'=>D.nx σ H') (mr X.K R i th D σ) ?_ (I.wish W) h) (λv s1 hv=>?_) λ_ _ x=>x) I.quiet hsw
 rotate_left
 ·obtain⟨x,H1,I1,r1,q1⟩:=hv;exact wpAny_execs_nil (wpAny_execs_nil ⟨σ,H1,I1.unwish,q1⟩)
 intro H1 s1 ev s2 I1w hcx;have I1:=I1w.unwish;obtain⟨d,⟨ea,cls,a0,B,H2,rfl,os,bare,un,hok,fl,b1,b2,hea,hnew,hhit,hth⟩,ea',ob,eea,eob,dob⟩:=hcx;cases eea;show W (.ref ea) s2;rw[<- hW];refine t5 hstk hfr I1 os bare un hok fl b1 b2 hea hnew ⟨ob,eob,dob⟩ λh4 oe4 vs4 fl4 ce4 dd4 de4 K4 J=>?_
 have ge4:h4.get? ea=some oe4:=i0 K4;have pe:=K4.pin (ea,oe4) (wg ..);have LT:PySem.W.Looks (model X.prog X.w) h4 (typeOf (.ref ea)) cls:=by rw[<- ce4];exact(PySem.W.Looks.ld ge4).andThen .now
 refine wpAny_handleBy_cons (codeAny_handlers_test (cT K4 (hg ea oe4) hR ((PySem.W.exm_one K4.kIn LT hhit).here ?_) hdb)) (λz=>nomatch z);show codeAny _ _ _ _ _;refine codeAny_handlers_suite_as (wpAny_mono (m6 I.ok fl4 ge4 dd4 J hea pe.2.2.1 pe.2.2.2.1 hN hi hk hsu hth) (λ_ s5 ⟨oe5,K5,ht⟩=>?_) λ_ _ z=>z.elim);refine gO (X:=cxH X ea oe5) (v:=.ref ea) K5 hN hi (.inl hk) rfl (λs6 I6=>?_) (.inr hk);refine m7 I.ok hN hi hk hsu K5 ht (λs7 ⟨σ',H',I7,q7⟩=>?_) s6 I6;show wpAny _ _ _ _ _ _;exact rJ I7 hN hi hk λs8 I8=>⟨_,H',I8,q7⟩
end
def mR(K:PySem.W.Frag)(ea:Addr)(oe:Obj)(ta:TE)(f:Str):TE:=λσ H Q=>ta σ H λx H1=>∃(D dx:Addr) (vs:Array Value) (fs:List (Str×V)) (v:V),x=.ref ea/\oe.cls=.ref D/\oe.dict=some dx/\oe.data=.fields vs/\XCls K D/\ECls K D/\NoAttr K D f/\H1 dx=some (.xd fs)/\fs.lookup f=some v/\Q v H1
theorem jY{X:Cx}{ea:Addr}{oe:Obj}{e:Expr}{f:Str}{pos:Pos}{ta:TE}(he:PE (cxH X ea oe) e ta)(hb:attributeBase e f X.env (eval e X.env)=eval e X.env):PE (cxH X ea oe) (.Attribute e f pos) (mR X.K ea oe ta f):=by intro pins s σ H Q I h;refine md hb (thn (he pins s σ H _ I h) λu s1 ⟨x,H1,I1,rx,D,dx,vs,fs,v,ex,hc,hd,hf,T,Te,n,hx,l,q⟩=>?_);subst ex;obtain rfl:u=Value.ref ea:=rx;obtain⟨mA,hns,hr⟩:=(show ObjOk X.prog X.w H1 s1.heap dx (.xd fs)from I1.hok dx _ hx);obtain⟨u',hu,ru⟩:=RelO.some_of (v:=v) (o:=mA f) (by rw[<- l];exact hr f);exact mx I1.kIn T Te (i0 I1) hc hd hf n hns hu (ll ru) ⟨v,H1,I1.tok _,ru,q⟩
noncomputable def jc(K:PySem.W.Frag)(C fI:Addr)(bmB:List Value)(newId:String):Bool:=match K.lookup C with
 |some ⟨.type "type",_,.cls cd,sl⟩=>(match cd.mro,sl.toList with
  |.ref C'::bm,[_,_,_,_,some (.builtin n),_]=>C' == C&&n == newId&&!cd.hasDel&&PySem.W.tailIn K bmB bm&&PySem.W.nsOkIn K cd.ns&&PySem.W.nsIn K cd.ns "__init__" == some (some (.ref fI))&&PySem.W.typeIn K (.ref fI) == some (.type "function")
  |_,_=>false)
 |_=>false
theorem pN{K:PySem.W.Frag}{h:Heap}{N:Addr}{mN:Str->Option Value}{x:Str}{v:Value}(X:K.In h)(G:h.Ns N mN)(e:PySem.W.nsIn K N x=some (some v)):mN x=some v:=by
 obtain⟨ob,es,ep,hob,hdat,_,hfind⟩:=G;unfold PySem.W.nsIn at e
 cases hl:K.lookup N with
 |none=>rw[hl]at e;cases e
 |some oo =>
  obtain rfl:ob=oo:=Option.some.inj (hob.symm.trans (X _ _ hl));obtain⟨c1,c2,c3,c4⟩:=ob;have hdat':c3=.dict es ep:=hdat;subst hdat';rw[hl]at e;dsimp only at e
  have hf:=hfind x;unfold nsFind findBy at hf
  rw[<- Array.find?_toList]at hf;cases hq:es.toList.find? (·.key.isStr x)with
  |none =>
   rw[hq]at e;dsimp only at e
   split at e<;>cases e
  |some en =>rw[hq]at e hf;rw[<- hf];exact Option.some.inj e
theorem oH{K:PySem.W.Frag}{h₀:Heap}{mg:Str->Option Value}{x:Str}{C fI:Addr}{bmB:List Value}{newId:String}(X:K.In h₀)(G:h₀.Ns mainGlobals mg)(e:PySem.W.nsIn K mainGlobals x=some (some (.ref C)))(q:jc K C fI bmB newId=true):OwnX x C fI bmB newId mg h₀:=by
 unfold jc at q
 split at q
 ·rename_i dd cd sl ho
  split at q
  ·rename_i C' bm k0 k1 k2 k3 n k5 hm hs
   simp only[vV,beq_iff_eq,Bool.not_eq_true']at q;obtain⟨⟨⟨⟨⟨⟨rfl,rfl⟩,hdel⟩,ht⟩,hok⟩,hni⟩,hfn⟩:=q;obtain⟨nm,bs,mro,ns,qn,hd,sn,sub,ab,col,del⟩:=cd;dsimp only at hm hdel hok hni
   subst hm hdel
   have hsl:sl=#[k0,k1,k2,k3,some (.builtin n),k5]:=by
    obtain⟨l⟩:=sl;simp only at hs
    rw[hs]
   subst hsl;refine⟨PySem.W.mg_of X G e,⟨bm,ns,nm,qn,bs,hd,sn,sub,ab,col,dd,k0,k1,k2,k3,k5,_,X _ _ ho,.of_isNs (PySem.W.isNs_of_in X hok),pN X (.of_isNs (PySem.W.isNs_of_in X hok)) hni,PySem.W.tail_of_in X ht⟩,?_⟩;obtain⟨oI,h1,h2⟩:=Option.map_eq_some_iff.mp (show(K.lookup fI).map (·.cls)=some (.type "function")from hfn);exact⟨oI,X _ _ h1,h2⟩
  ·cases q
 ·cases q
structure CalV(P:Program)(w:World)(K:PySem.W.Frag)(mg:Str->Option Value)(base:Heap)(k:Nat)(x:Str)(ps:List Str)(sp:Sp)(f:Addr)(fd:FuncData):Prop where
 ok:FnOk P w K mg base (CXV P w) k f fd ps sp
 mg:mg x=some (.ref f)
 kp:PySem.W.keepIn K (.ref f)=true
 bd:Binds K fd ps []
structure MCalV(P:Program)(w:World)(K:PySem.W.Frag)(mg:Str->Option Value)(base:Heap)(k:Nat)(C:Addr)(m:Str)(ps:List Str)(sp:Sp)(f:Addr)(fd:FuncData):Prop where
 ok:FnOk P w K mg base (CXV P w) k f fd ps sp
 mt:Meth K C m f
 bd:Binds K fd ps []
structure XCal(P:Program)(w:World)(K:PySem.W.Frag)(mg:Str->Option Value)(base:Heap)(k:Nat)(C:Addr)(x att:Str)(ps:List Str)(f:Addr)(fd:FuncData):Prop where
 ok:FnOk P w K mg base CX0 k f fd ps (fO C att)
 ow:OwnX x C f ey "ValueError.__new__" mg base
 kp:PySem.W.keepIn K (.ref C)=true
 bd:Binds K fd ps []
 xc:XCls K C
 ec:ECls K C
 na:NoAttr K C att
variable {X:Cx}
theorem j6:OpR X (binaryOp .Mult) (λx y H Q=>∃(i:Str) (n:Int),x=.str i/\y=.int n/\i.length=1/\0<=n/\n<=1000/\Q (.str (Txt.mul i n)) H):=by intro pins s σ H x y v u Q I rx ry h;obtain⟨i,n,rfl,rfl,hl,h0,h1,q⟩:=h;obtain⟨t,rfl⟩:=rx;obtain⟨t',rfl⟩:=ry;exact PySem.W.KXi.mul hl (by decide) (by omega) (by omega) λt' k _ _=>⟨.str (Txt.mul i n),H,I.tok _,⟨_,rfl⟩,q⟩
inductive SL:List Expr->List Str->Prop
 |nil:SL [] []
 |cons {x:Str} {j:Nat} {pos:Pos} {es:List Expr} {xs:List Str} (h:SL es xs):SL (.Constant (.str x) j pos::es) (x::xs)
def cA(xs:List Str):TA:=λ_ H Q=>Q (xs.map V.str) H
theorem iB{es:List Expr}{xs:List Str}(h:SL es xs):PA X es (cA xs):=by
 induction h with
 |nil=>exact ac
 | @cons x j pos es xs h ih =>have:=aa (X:=X) (e:=.Constant (.str x) j pos) ae ih (by simp only[starEach]);intro pos pins s σ H Q I hh;exact this pos pins s σ H Q I hh
theorem n9{K:PySem.W.Frag}{a:Expr}{ta:TE}{es:List Expr}{xs:List Str}{k:Nat}{pos pos':Pos}(hK:X.K=K)(ha:PE X a ta)(h:SL es xs):PT X (.Compare a [.In] [.Tuple es k pos'] pos) (gJ (tOp (rIn K false) ta (fN (cA xs)))) :=
 aj (by subst hK;exact j8) ha (bv (iB h)) rfl
theorem ol{i:Nat}{x:Str}{es:List Expr}{xs:List Str}{pos pos' pos2:Pos}(hN:X.N.Nodup)(hi:X.N[i]?=some x)(hx:Loc X.env.scope x)(h:SL es xs)(hs:swapsWith (.List es pos2) (some (.Name x pos')) pos.line X.env=pure false:=by rfl)(hf:X.fn x=true\/X.env.scope.names.lookup x=some .local:=by first |exact .inl rfl |exact .inr rfl |assumption):PS X (.Assign [.Name x pos'] (.List es pos2) pos) (cE (eC (cA xs)) (cV i)) :=
 ar hN hi hx (aN (iB h)) hs hf
theorem oE{a:Expr}{ta:TE}{es:List Expr}{xs:List Str}{pos pos2:Pos}(ha:PE X a ta)(h:SL es xs):PE X (.BinOp a .Add (.List es pos2) pos) (tOp iu ta (eC (cA xs))):=am iE ha (aN (iB h))
structure PSz(X:Cx)(st:List Stmt)(t:TS):Prop where
 h:PSs X st t
section
variable {X:Cx}{i:Nat}{x:Str}{a:Expr}{ta:TE}{es:List Expr}{xs:List Str}{rest:List Stmt}{u:TS}{pos pos' pos2 pos3:Pos}
theorem og{st:List Stmt}{t:TS}(h:PSs X st t):PSz X st t:=⟨h⟩
theorem oa(hN:X.N.Nodup)(hi:X.N[i]?=some x)(hx:Loc X.env.scope x)(h:SL es xs)(hr:PSz X rest u)(hf:X.fn x=true\/X.env.scope.names.lookup x=some .local:=by first |exact .inl rfl |exact .inr rfl |assumption):PSz X (.Assign [.Name x pos'] (.List es pos2) pos::rest) (aV (cE (eC (cA xs)) (cV i)) u) :=
 ⟨ag (ol hN hi hx h rfl hf) hr.h⟩
theorem oh(hN:X.N.Nodup)(hi:X.N[i]?=some x)(hx:Loc X.env.scope x)(ha:PE X a ta)(h:SL es xs)(hr:PSz X rest u)(hf:X.fn x=true\/X.env.scope.names.lookup x=some .local:=by first |exact .inl rfl |exact .inr rfl |assumption):PSz X (.Assign [.Name x pos'] (.BinOp a .Add (.List es pos2) pos3) pos::rest) (aV (cE (tOp iu ta (eC (cA xs))) (cV i)) u) :=
 ⟨ag (ar hN hi hx (oE ha h) rfl hf) hr.h⟩
end
section
variable {P:Program}{w:World}{K:PySem.W.Frag}{mg:Str->Option Value}{base:Heap}
theorem Fun.okZ{x qual:Str}{st:Stmt}{f:Addr}{fd:FuncData}{N ps:List Str}{k:Nat}{sp:Sp}(F:Fun K x qual st f fd)(S:FnScope N ps (ah st))(len:∀vs H Q E,sp vs H Q E->vs.length=ps.length)
 (hbody:∀(cdv:Value) (A:Around) (outer:List Env) (s:Shared) (H:Hp) (vs:List V) (Q:VK) (E:XK),Room k (A.deeper (envOfC qual (ah st) s.heap.objs.size f cdv))->sp vs H Q E ->
   ∃t,PSz (aJ CX0 P w K mg base N qual (ah st) f cdv A outer s H E).nox (aw st) t/\t { nx:=λ_ H'=>Q .non H',rt:=Q } (start N vs) H):FnOk P w K mg base CX0 (k+1) f fd ps sp :=
 F.ok S len λcdv A outer s H vs Q E hr hsp=>(hbody cdv A outer s H vs Q E hr hsp).elim λt h=>⟨t,h.1.h,h.2⟩
end
structure RoomH(k:Nat)(A:Around):Prop where
 dp:A.depth+3*k+5<recursionLimit
 un:A.units+16*k+200<cLine
theorem RoomH.mono{j k:Nat}{A:Around}(r:RoomH k A)(h:j<=k:=by decide):RoomH j A:=⟨by have:=r.dp;omega,by have:=r.un;omega⟩
theorem RoomH.deeper{k:Nat}{A:Around}(r:RoomH (k+1) A)(env:Env):RoomH k (A.deeper env) :=
 ⟨by have:=r.dp;show A.depth+1+3*k+5<_;omega,by have:=r.un;show A.units+3+16*k+200<_;omega⟩
theorem Room.held{k:Nat}{A:Around}(r:Room k A)(v:Option Value):RoomH k (A.mark v):=⟨r.dp,r.un⟩
structure FnOkH(P:Program)(w:World)(K:PySem.W.Frag)(mg:Str->Option Value)(base:Heap)(k:Nat)(f:Addr)(fd:FuncData)(ps:List Str)(sp:Sp):Prop where
 len:∀vs H Q E,sp vs H Q E->vs.length=ps.length
 run:∀(A:Around) (outer:List Env) (s:Shared) (H:Hp) (args:Args) (us:List Value) (vs:List V) (Q:VK) (E:XK),RoomH k A->Env0 P w K mg base A outer s H->BindsTo s fd args (ps.zip us)->Vals vs us->sp vs H Q E ->
  codeAny (model P w) A (.call (.ref f) args) (CR CX0 outer P w H s Q E) s
abbrev cxN(P:Program)(w:World)(K:PySem.W.Frag)(mg:Str->Option Value)(base:Heap)(N:List Str)(qual:Str)(scope:Scope)(f:Addr)(cd:Value)(A:Around)(outer:List Env)(s:Shared)(H:Hp)(E:XK):Cx :=
 { aJ CX0 P w K mg base N qual scope f cd A outer s H E with calm:=false,xe:=λ_ _=>False }
theorem rS{P:Program}{w:World}{K:PySem.W.Frag}{mg:Str->Option Value}{base:Heap}{k:Nat}{f:Addr}{name qual:Str}{params:Arguments}{body:List Stmt}{scope:Scope}{dV kV doc pm cdv ct oc:Value}{an od:Option Addr}
 {osl:Array (Option Value)} {N ps:List Str} {sp:Sp} (lk:K.lookup f=some ⟨oc,od,.func (PySem.W.fnOf name qual params body scope dV kV doc pm an cdv ct),osl⟩) (hcd:PySem.W.codeIn K cdv qual=true) (S:FnScope N ps scope)
 (len:∀vs H Q E,sp vs H Q E->vs.length=ps.length)
 (hbody:∀(A:Around) (outer:List Env) (s:Shared) (H:Hp) (vs:List V) (Q:VK) (E:XK),RoomH k (A.deeper (envOfC qual scope s.heap.objs.size f cdv))->sp vs H Q E ->
   ∃t,PSs (cxN P w K mg base N qual scope f cdv A outer s H E) body t/\t { nx:=λ_ H'=>Q .non H',rt:=Q } (start N vs) H) :
 FnOkH P w K mg base (k+1) f (PySem.W.fnOf name qual params body scope dV kV doc pm an cdv ct) ps sp:=by
 refine⟨len,λA outer s H args us vs Q E hr e0 hb r hsp=>?_⟩;have hl:=len _ _ _ _ hsp;have KX:K.In s.heap:=e0.mod.kin.keeps λb o e=>(e0.bs b o e).1
 have lim:s.heap.NoLimit:=e0.mod.nolimit.keeps λb o e=>(e0.bs b o e).1
 have hkind:∀y∈ps.zip us,scope.names.lookup y.1=some .local\/(scope.names.lookup y.1=some .cell/\((cellsFrom (s.heap.objs.size+1) scope.names []).lookup y.1).isSome=true):=λ⟨n,v⟩ hy=>by
  rcases S.par n (List.of_mem_zip hy).1 with q |q
  ·exact .inl q
  ·exact .inr ⟨q,PySem.W.cellsFrom_some _ _ _ (.inl q)⟩
 have hdep:A.depth<recursionLimit:=by have:=hr.dp;omega
 refine codeAny_call_function hdep (KX _ _ lk) rfl S.co S.gen rfl (PySem.W.codeRec_of KX hcd) (hb _ _ _ _ ?_);refine wpAny_newFunctionEnv_cells S.kind hkind λenv he s1 x=>?_
 subst he;refine⟨lim.keeps x.toInCall.keep,codeAny_func ?_⟩;obtain⟨t,ht,hq⟩:=hbody A outer s H vs Q E (hr.deeper _) hsp;have e1:Env0 P w K mg base { A with handled:=none } outer s H:=⟨e0.frames,e0.mod,e0.bs,e0.bsz,e0.funs,e0.frf,e0.hok,e0.bare⟩;have I0:Inv (aJ CX0 P w K mg base N qual scope f cdv { A with handled:=none } outer s H E) [] (start N vs) H s1:=lb S rfl e1 hl r x
 have I:Inv (cxN P w K mg base N qual scope f cdv A outer s H E) [] (start N vs) H s1 :=
  ⟨⟨I0.ok.mod,I0.ok.kind,I0.ok.glob,I0.ok.blt,I0.ok.above,I0.ok.inj,I0.ok.has,I0.ok.cab,(λz=>nomatch z),Around.frames_deeper e0.frames,I0.ok.stk,I0.ok.exf,I0.ok.bs,I0.ok.bsz,I0.ok.noex,I0.ok.exfs,I0.ok.funs,I0.ok.frf⟩,I0.os,I0.bare,I0.base,I0.loc,I0.cell,I0.free,I0.freeC,I0.pin,I0.hok,I0.len⟩
 refine wpAny_mono (ht [] s1 (start N vs) H _ I hq) (λfl s' hs=>?_) λe s' hs=>hs.elim
 have fin:∀{σ':St} {H':Hp} {v:V} {u:Value},Inv (cxN P w K mg base N qual scope f cdv A outer s H E) [] σ' H' s'->RelV v u->Q v H'->CE outer P w H s Q u s' :=
  λ{σ' H' v u} J rv q=>⟨v,H',J.os,J.bare,J.base,J.hok,rv,q⟩
 cases fl with
 |ret u =>obtain⟨v,σ',H',J,rv,q⟩:=hs;exact fin J rv q
 |next =>obtain⟨σ',H',J,q⟩:=hs;exact fin (v:=V.non) (u:=Value.none) J rfl q
 |brk =>obtain⟨_,_,_,q⟩:=hs;exact False.elim q
 |cont =>obtain⟨_,_,_,q⟩:=hs;exact False.elim q
section
variable {P:Program}{w:World}{K:PySem.W.Frag}{mg:Str->Option Value}{base:Heap}
theorem Fun.okH{x qual:Str}{st:Stmt}{f:Addr}{fd:FuncData}{N ps:List Str}{k:Nat}{sp:Sp}(F:Fun K x qual st f fd)(S:FnScope N ps (ah st))(len:∀vs H Q E,sp vs H Q E->vs.length=ps.length)
 (hbody:∀(cdv:Value) (A:Around) (outer:List Env) (s:Shared) (H:Hp) (vs:List V) (Q:VK) (E:XK),RoomH k (A.deeper (envOfC qual (ah st) s.heap.objs.size f cdv))->sp vs H Q E ->
   ∃t,PSs (cxN P w K mg base N qual (ah st) f cdv A outer s H E) (aw st) t/\t { nx:=λ_ H'=>Q .non H',rt:=Q } (start N vs) H):FnOkH P w K mg base (k+1) f fd ps sp:=by
 obtain⟨oc,od,kV,doc,pm,an,cdv,ct,osl,rfl,lk,hcd⟩:=F.ex;exact rS lk hcd S len λA outer s H vs Q E hr hsp=>hbody cdv A outer s H vs Q E hr hsp
end
section
variable {X:Cx}{k:Nat}{f C:Addr}{fd:FuncData}{ps:List Str}{sp:Sp}{dvs:List V}{ds:List Value}{E:XK}{x m:Str}{p pos apos:Pos}{e o:Expr}{es:List Expr}{ta:TE}{t:TA}
theorem nO{pins:List (Addr×Obj)}{σ:St}{H:Hp}{s:Shared}{Q:VK}{us:List Value}{vs:List V}(F:FnOkH X.prog X.w X.K X.mg X.base k f fd ps sp)(hr:RoomH k X.A)(hb:Binds X.K fd ps ds)(hd:Vals dvs ds)
 (I:Inv X pins σ H s) (r:Vals vs us) (h:sp (vs++dvs) H Q E):wpAny (model X.prog X.w) X.A (call (.ref f) us) (EP X pins σ Q) X.xe s:=by
 have r2:Vals (vs++dvs) (us++ds):=r.append hd;have hl:(us++ds).length=ps.length:=by rw[<- r2.length];exact F.len _ _ _ _ h
 refine wpAny_call (codeAny_mono (F.run X.A X.stack s H ⟨us,[]⟩ (us++ds) (vs++dvs) Q E hr I.env0 (hb s us I.kIn hl) r2 h) λr s' hq=>?_);cases r with
 |error e=>exact False.elim hq
 |ok fl =>
  cases fl with
  |ret u=>exact I.after hq
  |next=>exact False.elim hq
  |brk=>exact False.elim hq
  |cont=>exact False.elim hq
theorem oF(F:FnOkH X.prog X.w X.K X.mg X.base k f fd ps sp)(hr:RoomH k X.A)(hg:Gl X x)(hm:X.mg x=some (.ref f))(hk:PySem.W.keepIn X.K (.ref f)=true)(hb:Binds X.K fd ps ds)(hd:Vals dvs ds)
 (ha:PA X (e::es) t) (hdb:(x == ("__debug__":Str))=false:=by decide) (he:starEach (e::es) X.env=(false,eval e X.env)::starEach es X.env:=by rfl) (hpl:(backTo pos (starEach es X.env)).any (·.1)=false:=by rfl) :
 PE X (.Call (.Name x p) (e::es) [] pos) (gM sp dvs E t):=by
 intro pins s σ H Q I h;refine wpAny_Call_Name_kw (cT I hg hm ?_ hdb);refine PySem.W.callWith_K (h₀:=X.base) I.ok.mod.kin hk (thn (ha pos pins s σ H _ I h) λus s1 ⟨vs,H1,I1,r,q⟩=>⟨I1.kIn,?_⟩) he hpl;exact nO F hr hb hd I1 r q
end
theorem FnOkH.toFn{P:Program}{w:World}{K:PySem.W.Frag}{mg:Str->Option Value}{base:Heap}{k:Nat}{f:Addr}{fd:FuncData}{ps:List Str}{sp:Sp}(F:FnOkH P w K mg base k f fd ps sp):FnOk P w K mg base CX0 k f fd ps sp :=
 ⟨F.len,λA outer s H args us vs Q E hr=>F.run A outer s H args us vs Q E ⟨hr.dp,hr.un⟩⟩
structure CalH(P:Program)(w:World)(K:PySem.W.Frag)(mg:Str->Option Value)(base:Heap)(k:Nat)(x:Str)(ps:List Str)(sp:Sp)(f:Addr)(fd:FuncData):Prop where
 ok:FnOkH P w K mg base k f fd ps sp
 mg:mg x=some (.ref f)
 kp:PySem.W.keepIn K (.ref f)=true
 bd:Binds K fd ps []
end L2
namespace RM
noncomputable def cf(l:List Int)(k:Nat):Int:=l.getD k 0
theorem tZ(k:Nat):cf [] k=0:=by simp[cf]
theorem tY(x:Int)(l:List Int)(k:Nat):cf (x::l) (k+1)=cf l k:=rfl
theorem cx{l:List Int}{k:Nat}(h:l.length<=k):cf l k=0:=by unfold cf;rw[List.getD,List.getElem?_eq_none_iff.mpr h];rfl
theorem gw{l:List Int}{k:Nat}(h:k<l.length):cf l k=l[k]:=by unfold cf;rw[List.getD,List.getElem?_eq_getElem h];rfl
theorem fq{l:List Int}{k:Nat}(h:k<l.length):l[k]?=some (cf l k):=by rw[gw h,List.getElem?_eq_getElem h]
theorem lL{l r:List Int}{k:Nat}(h:k<l.length):cf (l++r) k=cf l k:=by unfold cf;rw[List.getD,List.getD,List.getElem?_append_left h]
theorem jh{l r:List Int}{k:Nat}(h:l.length<=k):cf (l++r) k=cf r (k-l.length):=by unfold cf;rw[List.getD,List.getD,List.getElem?_append_right h]
theorem lI{l:List Int}{j k:Nat}{x:Int}(h:j<l.length):cf (l.set j x) k=if k=j then x else cf l k:=by
 unfold cf;rw[List.getD,List.getD,List.getElem?_set];by_cases e:j=k
 ·subst e;simp[h]
 ·rw[if_neg e,if_neg (λz=>e z.symm)]
theorem lJ(n k:Nat):cf (List.replicate n 0) k=0:=by unfold cf;rw[List.getD,List.getElem?_replicate];split<;>rfl
theorem t0(f:Nat->Int)(n k:Nat):cf ((List.range n).map f) k=if k<n then f k else 0:=by
 unfold cf;rw[List.getD,List.getElem?_map];by_cases h:k<n
 ·rw[if_pos h,List.getElem?_range h];rfl
 ·rw[if_neg h,List.getElem?_eq_none_iff.mpr (by simpa using h)];rfl
theorem tH{a b:List Int}(hl:a.length=b.length)(h:∀k,k<a.length->cf a k=cf b k):a=b:=by apply List.ext_getElem hl;intro k h1 h2;rw[<- gw h1,<- gw h2];exact h k h1
noncomputable def trim(l:List Int):List Int:=(l.reverse.dropWhile (· == 0)).reverse
theorem jD(l:List Int):trim (l++[0])=trim l:=by unfold trim;rw[List.reverse_append];rfl
theorem jE(l:List Int){x:Int}(h:x≠0):trim (l++[x])=l++[x]:=by unfold trim;rw[List.reverse_append];show((x::l.reverse).dropWhile (· == 0)).reverse=_;rw[List.dropWhile_cons_of_neg (by simpa using h)];simp
def Tr(l:List Int):Prop:=∀n,l.length=n+1->cf l n≠0
theorem nh(l:List Int):l=[]\/∃r x,l=r++[x]:=by
 cases h:l.reverse with
 |nil=>left;simpa using h
 |cons x r=>right;exact⟨r.reverse,x,by rw[<- List.reverse_reverse l,h];simp⟩
theorem lK(r:List Int)(x:Int):cf (r++[x]) r.length=x:=by rw[jh (vJ _),Nat.sub_self];rfl
theorem mQ:Tr []:=λn h=>by simp at h
theorem tr_snoc{r:List Int}{x:Int}:Tr (r++[x])↔x≠0:=by
 constructor
 ·intro h;have:=h r.length (by simp)
  rwa [lK]at this
 ·intro h n hn;have e:n=r.length:=by simp at hn;omega
  subst e
  rwa [lK]
theorem fM:∀(n:Nat) (l:List Int),l.length=n->Tr (trim l)/\(trim l).length<=l.length/\∀k,cf (trim l) k=cf l k
 |0,l,h=>by have:l=[]:=List.length_eq_zero_iff.mp h;subst this;exact⟨mQ,vJ _,λ_=>rfl⟩
 |n+1,l,h=>by
  rcases nh l with rfl |⟨r,x,rfl⟩
  ·simp at h
  ·by_cases hx:x=0
   ·subst hx;obtain⟨h1,h2,h3⟩:=fM n r (by simpa using h);rw[jD];refine⟨h1,by rw[vM];exact vQ h2 (Nat.le_add_right _ _),λk=>?_⟩;rw[h3];by_cases hk:k<r.length
    ·rw[lL hk]
    ·rw[jh (wv hk),cx (wv hk)];cases e:k-r.length with
     |zero=>rfl
     |succ j=>rw[tY,tZ]
   ·rw[jE r hx];exact⟨tr_snoc.mpr hx,vJ _,λ_=>rfl⟩
theorem eA(l:List Int):Tr (trim l):=(fM _ l rfl).1
theorem kM(l:List Int):(trim l).length<=l.length:=(fM _ l rfl).2.1
theorem jf(l:List Int)(k:Nat):cf (trim l) k=cf l k:=(fM _ l rfl).2.2 k
theorem tM{a b:List Int}(ha:Tr a)(hb:Tr b)(h:∀k,cf a k=cf b k):a=b:=by
 have le:∀{a b:List Int},Tr a->(∀k,cf a k=cf b k)->a.length<=b.length:=λ{a b} ha h=>by
  cases e:a.length with
  |zero=>exact vT _
  |succ n =>apply Classical.byContradiction;intro hn;exact ha n e (by rw[h n,cx (by omega)])
 have hl:a.length=b.length:=Nat.le_antisymm (le ha h) (le hb λk=>(h k).symm);exact tH hl λk _=>h k
theorem jB{l:List Int}{n:Nat}(hn:n<l.length)(h:cf l n=0):trim (l.take (n+1))=trim (l.take n):=by rw[List.take_add_one,fq hn,h];exact jD _
theorem jC{l:List Int}{n:Nat}(hn:n<l.length)(h:cf l n≠0):trim (l.take (n+1))=l.take (n+1):=by rw[List.take_add_one,fq hn];exact jE _ h
noncomputable def gk(f:Int)(a b:List Int):List Int:=(List.range (max a.length b.length)).map λk=>cf a k+f*cf b k
theorem t3(f:Int)(a b:List Int)(k:Nat):cf (gk f a b) k=cf a k+f*cf b k:=by
 unfold gk;rw[t0];by_cases h:k<max a.length b.length
 ·rw[if_pos h]
 ·have h1:a.length<=k:=by omega
  have h2:b.length<=k:=by omega
  rw[if_neg h,cx h1,cx h2];simp
noncomputable def bM(a b:List Int):List Int:=trim (gk 1 a b)
noncomputable def tm(a b:List Int)(n i:Nat):Int:=if i<=n then cf a i*cf b (n-i)else 0
noncomputable def sm(a b:List Int)(n:Nat):Nat->Int
 |0=>0
 |j+1=>sm a b n j+tm a b n j
theorem uC(a b:List Int):trim ((List.range (max a.length b.length)).map λk=>cf a k+cf b k)=bM a b:=by
 unfold bM gk
 congr 2;funext k;rw[Int.one_mul]
noncomputable def dv(t b:Int):Int:=if b<0 then -((Nat.gcd t.natAbs b.natAbs:Nat):Int)else((Nat.gcd t.natAbs b.natAbs:Nat):Int)
noncomputable def rt(t b:Int):Int:=t.fdiv (dv t b)
noncomputable def sg(x:Int):Int:=if x<0 then -1 else if 0<x then 1 else 0
theorem lM(a b:List Int)(n:Nat):cf (bM a b) n=cf a n+cf b n:=by unfold bM;rw[jf,t3,Int.one_mul]
open PySem PySem.NumText PySem.Builtin PySem.Builtin.Str
noncomputable def stL(l:List Nat):Str:=⟨l.toArray⟩
theorem cF(l:List Nat):(stL l).cps.toList=l:=rfl
theorem ap(l:List Nat):(stL l).length=l.length:=by unfold stL Str.length;simp
theorem jN(l:List Nat):(stL l).cps.size=l.length:=by unfold stL;simp
theorem gP(a b:List Nat):stL a++stL b=stL (a++b):=t6 a b
theorem stL_inj{a b:List Nat}:stL a=stL b↔a=b:=⟨λh=>congrArg (λz:Str=>z.cps.toList) h,λh=>by rw[h]⟩
theorem txt_nat(n:Nat):Str.ofString (toString (n:Int))=stL (aR n):=rs n
theorem ie(l:List Nat){a b:Nat}(hab:a<=b)(hb:b<=l.length):Txt.slice (stL l) (some (a:Int)) (some (b:Int))=stL ((l.drop a).take (b-a)):=by
 unfold Txt.slice;have hl:b<=(stL l).length:=by rw[ap];exact hb
 split
 ·rename_i h
  have e:(strSliceIndices (some (a:Int)) (some (b:Int)) 1 (stL l).length).length=(stL l).length:=by simpa using h
  rw[StrLaws.strSliceIndices_plain hab hl,vK,List.length_range,ap]at e;have ha:a=0:=by omega
  have hb':b=l.length:=by omega
  subst ha;subst hb';rw[List.drop_zero,Nat.sub_zero,ww]
 ·rw[StrLaws.sliced_plain (stL l) hab hl];rfl
noncomputable def isD(c:Nat):Bool:=decide (48<=c)&&decide (c<=57)
noncomputable def isA(c:Nat):Bool:=decide (97<=c)&&decide (c<=122)
theorem fo(c:Nat):decide (c∈(Str.ofString "0123456789").cps.toList)=isD c:=by
 have e:(Str.ofString "0123456789").cps.toList=[48,49,50,51,52,53,54,55,56,57]:=by decide +kernel
 rw[e,vY,decide_eq_true_eq];unfold isD;simp only[vO,v0,or_false,vV,decide_eq_true_eq];omega
theorem fm(c:Nat):decide (c∈(Str.ofString "abcdefghijklmnopqrstuvwxyz").cps.toList)=isA c:=by
 have e:(Str.ofString "abcdefghijklmnopqrstuvwxyz").cps.toList=[97,98,99,100,101,102,103,104,105,106,107,108,109,110,111,112,113,114,115,116,117,118,119,120,121,122]:=by decide +kernel
 rw[e,vY,decide_eq_true_eq];unfold isA;simp only[vO,v0,or_false,vV,decide_eq_true_eq];omega
theorem ka(n:Nat):aR n≠[]:=by
 by_cases h:n<10
 ·rw[eZ h];simp
 ·rw[iG (by omega)];simp
theorem kc:∀(n m:Nat),m<=n->∀c∈aR m,isD c=true
 |0,m,h=>by
  have e:m=0:=by omega
  subst e;rw[eZ (by decide)];intro c hc;rw[v3.mp hc];decide
 |n+1,m,h=>by
  intro c hc;by_cases h':m<10
  ·rw[eZ h']at hc;rw[v3.mp hc];unfold isD;simp only[vV,decide_eq_true_eq];omega
  ·rw[iG (by omega)]at hc;rcases v1.mp hc with hc |hc
   ·exact kc n (m/10) (by omega) c hc
   ·rw[v3.mp hc];have:=Nat.mod_lt m (show 0<10 by decide);unfold isD;simp only[vV,decide_eq_true_eq];omega
theorem pM(n:Nat):∀c∈aR n,isD c=true:=kc n n (vJ _)
noncomputable def kl:List Nat->Nat
 | []=>0
 |c::r=>if isD c then((c::r).takeWhile isD).length else if isA c then((c::r).takeWhile isA).length else 1
theorem gG(p:Nat->Bool):∀l:List Nat,(l.takeWhile p).length<=l.length
 | []=>vJ _
 |c::r=>by
  rw[wc];split
  ·have:=gG p r;simp;omega
  ·simp
noncomputable def mkF:Nat->List Nat->List (List Nat)
 |0,_=>[]
 |n+1,l=>if l=[]then[]else(if l.head?=some 32 then[]else[l.take (kl l)])++mkF n (l.drop (kl l))
noncomputable def vG(l:List Nat):List (List Nat):=mkF l.length l
noncomputable def mln:List Nat->Nat
 | []=>0
 |c::r=>if isD c then((c::r).takeWhile isD).length else if isA c then((c::r).takeWhile isA).length else if c=46/\r.head?=some 46 then 2 else 1
theorem bI(c:Nat)(r:List Nat):mln (c::r)=if isD c then((c::r).takeWhile isD).length else if isA c then((c::r).takeWhile isA).length else if c=46/\r.head?=some 46 then 2 else 1:=rfl
theorem ee(c:Nat)(r:List Nat):1<=mln (c::r):=by
 rw[bI];by_cases h1:isD c=true
 ·rw[if_pos h1,wc,if_pos h1];simp
 ·rw[if_neg h1];by_cases h2:isA c=true
  ·rw[if_pos h2,wc,if_pos h2];simp
  ·rw[if_neg h2];split<;>decide
theorem iM(l:List Nat):mln l<=l.length:=by
 cases l with
 |nil=>exact vJ _
 |cons c r =>
  rw[bI];split
  ·exact gG _ _
  ·split
   ·exact gG _ _
   ·split
    ·rename_i h
     cases r with
     |nil=>simp at h
     |cons d r=>simp
    ·simp
noncomputable def mkP:Nat->Nat->List Nat->List (List Nat×Nat)
 |0,_,_=>[]
 |n+1,i,l=>if l=[]then[]else(if l.head?=some 32 then[]else[(l.take (mln l),i)])++mkP n (i+mln l) (l.drop (mln l))
theorem gd:∀n i,mkP n i []=[]
 |0,_=>rfl
 |n+1,i=>by show(if([]:List Nat)=[]then[]else _)=_;rw[if_pos rfl]
theorem kv:∀(n i:Nat) (l:List Nat),l.length<=n->mkP (n+1) i l=mkP n i l
 |0,i,l,h=>by have e:l=[]:=List.length_eq_zero_iff.mp (by omega);rw[e,gd,gd]
 |n+1,i,l,h=>by
  by_cases hl:l=[]
  ·rw[hl,gd,gd]
  ·obtain⟨c,r,rfl⟩:=we hl;have:=ee c r;show(if c::r=[]then[]else _++mkP (n+1) _ _)=(if c::r=[]then[]else _++mkP n _ _);rw[kv n _ _ (by rw[vU];omega)]
theorem ky{l:List Nat}{i:Nat}:∀{n:Nat},l.length<=n->mkP n i l=mkP l.length i l
 |0,h=>by have:l.length=0:=by omega
          rw[this]
 |n+1,h=>by
  by_cases e:l.length=n+1
  ·rw[e]
  ·rw[kv n i l (by omega)];exact ky (by omega)
noncomputable def mks(i:Nat)(l:List Nat):List (List Nat×Nat):=mkP l.length i l
theorem ef(i:Nat):mks i []=[]:=rfl
theorem cQ(i c:Nat)(r:List Nat):mks i (c::r)=(if c=32 then[]else[((c::r).take (mln (c::r)),i)])++mks (i+mln (c::r)) ((c::r).drop (mln (c::r))):=by
 have h1:=ee c r;show(if c::r=[]then[]else(if(c::r).head?=some 32 then[]else _)++mkP r.length _ _)=_;rw[if_neg (by simp)]
 congr 1
 ·by_cases h:c=32
  ·rw[if_pos h,if_pos (by rw[h];rfl)]
  ·rw[if_neg h,if_neg (by simpa using h)]
 ·refine ky ?_;rw[vU,vZ];omega
noncomputable def glu(a b:Nat):Bool:=(isD a&&isD b) || (isA a&&isA b) || (decide (a=46)&&decide (b=46))
def bC(T X:List Nat):Prop:=∀a b,T.getLast?=some a->X.head?=some b->glu a b=false
theorem jA{p:Nat->Bool}{T X:List Nat}(h:∀a b,T.getLast?=some a->X.head?=some b->p a=true->p b=false)(hT:T≠[]):((T++X).takeWhile p).length=(T.takeWhile p).length:=by
 rw[List.takeWhile_append];by_cases e:(T.takeWhile p).length=T.length
 ·rw[if_pos e];have hall:T.takeWhile p=T:=(List.takeWhile_prefix p).eq_of_length e
  have hp:∀x∈T,p x=true:=λx hx=>by have:=v4.mp (List.all_takeWhile (l:=T) (p:=p)) x (by rw[hall];exact hx);exact this
  have hl:p (T.getLast hT)=true:=hp _ (List.getLast_mem hT)
  have:X.takeWhile p=[]:=by
   cases X with
   |nil=>rfl
   |cons b r =>rw[wc,if_neg];rw[h (T.getLast hT) b (List.getLast?_eq_some_getLast hT) rfl hl];decide
  rw[this,v7,hall]
 ·rw[if_neg e]
theorem pT{T X:List Nat}(hT:T≠[])(h:bC T X):mln (T++X)=mln T:=by
 have g1:=jA (p:=isD) (λa b ha hb hp=>by have:=h a b ha hb;unfold glu at this;rw[hp]at this;simp at this;exact this.1.1) hT;have g2:=jA (p:=isA) (λa b ha hb hp=>by have:=h a b ha hb;unfold glu at this;rw[hp]at this;simp at this;exact this.1.2) hT;obtain⟨c,r,rfl⟩:=we hT;rw[v9]at g1 g2 ⊢;rw[bI,bI,g1,g2]
 have g3:(c=46/\(r++X).head?=some 46)↔(c=46/\r.head?=some 46):=by
  cases r with
  |cons d r=>exact Iff.rfl
  |nil =>
   constructor
   ·rintro⟨rfl,hx⟩;have:=h 46 46 rfl hx;exact absurd this (by decide)
   ·rintro⟨_,z⟩;cases z
 simp only[g3]
theorem kq:∀(n i:Nat) (T X:List Nat),T.length<=n->bC T X->mks i (T++X)=mks i T++mks (i+T.length) X
 |n,i,[],X,_,_=>by rw[ef];rfl
 |0,i,c::r,X,h,_=>absurd h (by simp)
 |n+1,i,c::r,X,h,g=>by
  have hT:c::r≠[]:=by simp
  have m1:=pT hT g;have m2:=ee c r;have m3:=iM (c::r);rw[v9]at m1 ⊢;rw[cQ,cQ,m1,<- v9,List.take_append_of_le_length m3,List.drop_append_of_le_length m3,wk]
  congr 1
  rw[kq n _ _ X (by rw[vU];simp at h ⊢;omega) (λa b ha hb=>g a b (by
   have hne:(c::r).drop (mln (c::r))≠[]:=λz=>by rw[z]at ha;cases ha
   rw[List.getLast?_drop]at ha;split at ha
   ·cases ha
   ·exact ha) hb)]
  congr 2
  rw[vU];omega
theorem kt{T X:List Nat}(i:Nat)(g:bC T X):mks i (T++X)=mks i T++mks (i+T.length) X:=kq _ i T X (vJ _) g
theorem iN(X:List Nat):∀(g i:Nat),mks i (List.replicate g 32++X)=mks (i+g) X
 |0,i=>rfl
 |g+1,i=>by
  rw[v2,v9,cQ];have e:mln (32::(List.replicate g 32++X))=1:=by rw[bI];rfl
  rw[e,if_pos rfl,List.nil_append];show mks (i+1) (List.replicate g 32++X)=_;rw[iN X g (i+1)]
  congr 1;omega
structure WfM(m:List Nat):Prop where
 ne:m≠[]
 asc:∀c∈m,c<128
 nb:m.head?≠some 32
 one:mln m=m.length
theorem pV{m:List Nat}(h:WfM m)(i:Nat):mks i m=[(m,i)]:=by obtain⟨c,r,rfl⟩:=we h.ne;rw[cQ,h.one,ww,List.drop_length,ef,v7,if_neg];intro z;exact h.nb (by rw[z];rfl)
theorem pQ{T X:List Nat}{g:Nat}(h:0<g\/bC T X):bC T (List.replicate g 32++X):=by
 intro a b ha hb;cases g with
 |zero=>exact(h.resolve_left (by omega)) a b ha hb
 |succ g =>rw[v2,v9]at hb;cases hb;unfold glu;simp[isD,isA]
theorem pU{T m:List Nat}{g:Nat}(h:WfM m)(hg:0<g\/bC T m):mks 0 (T++List.replicate g 32++m)=mks 0 T++[(m,T.length+g)]:=by rw[wk,kt 0 (pQ hg),iN,pV h,Nat.zero_add]
theorem ko(T:List Nat)(g:Nat):mks 0 (T++List.replicate g 32)=mks 0 T:=by
 have h:bC T (List.replicate g 32++[]):=by
  intro a b ha hb;cases g with
  |zero=>cases hb
  |succ g =>rw[v2,v9]at hb;cases hb;unfold glu;simp[isD,isA]
 have:=kt 0 h;rw[iN,v7,ef,v7]at this;exact this
theorem mH(n:Nat):WfM (aR n):=by
 have hd:=pM n;obtain⟨c,r,e⟩:=we (ka n);have hc:isD c=true:=hd c (by rw[e];simp);refine⟨ka n,λc hc=>?_,?_,?_⟩
 ·have:=hd c hc;unfold isD at this
  simp at this;omega
 ·rw[e];intro z;cases z;exact absurd hc (by decide)
 ·rw[e,bI,if_pos hc,<- e]
  have:∀l:List Nat,(∀c∈l,isD c=true)->l.takeWhile isD=l:=λl=>by
   induction l with
   |nil=>intro _;rfl
   |cons a l ih=>intro h;rw[wc,if_pos (h a (by simp)),ih λc hc=>h c (by simp[hc])]
  rw[this _ hd]
instance:DecidablePred WfM:=λm=>decidable_of_iff (m≠[]/\(∀c∈m,c<128)/\m.head?≠some 32/\mln m=m.length) ⟨λh=>⟨h.1,h.2.1,h.2.2.1,h.2.2.2⟩,λh=>⟨h.ne,h.asc,h.nb,h.one⟩⟩
theorem km:∀(n i:Nat) (l:List Nat),l.length<=n->∀u∈mks i l,u.1≠[]/\u.1.length<=l.length/\∀c∈u.1,c∈l
 |n,i,[],_=>λu hu=>by rw[ef]at hu;cases hu
 |0,i,c::r,h=>absurd h (by simp)
 |n+1,i,c::r,h=>λu hu=>by
  have m2:=ee c r;rw[cQ]at hu;rcases v1.mp hu with hu |hu
  ·by_cases hc:c=32
   ·rw[if_pos hc]at hu;cases hu
   ·rw[if_neg hc]at hu;rw[v3.mp hu];refine⟨λz=>?_,by simp only[wt];omega,λc hc=>List.mem_of_mem_take hc⟩;have:=congrArg List.length z;simp at this;omega
  ·obtain⟨h1,h2,h3⟩:=km n _ _ (by rw[vU];simp at h ⊢;omega) u hu;refine⟨h1,?_,λc hc=>List.mem_of_mem_drop (h3 c hc)⟩;rw[vU]at h2;omega
theorem pW{i:Nat}{l:List Nat}:∀u∈mks i l,u.1≠[]/\u.1.length<=l.length/\∀c∈u.1,c∈l:=km _ i l (vJ _)
theorem kn:∀(n i:Nat) (l:List Nat),l.length<=n->(mks i l).length<=l.length
 |n,i,[],_=>by rw[ef];exact vJ _
 |0,i,c::r,h=>absurd h (by simp)
 |n+1,i,c::r,h=>by
  have m2:=ee c r;have:=kn n (i+mln (c::r)) ((c::r).drop (mln (c::r))) (by rw[vU];simp at h ⊢;omega);rw[cQ,vM];rw[vU]at this;have h5:=iM (c::r);split
  ·simp only[List.length_nil];omega
  ·simp only[wy];omega
theorem pX(i:Nat)(l:List Nat):(mks i l).length<=l.length:=kn _ i l (vJ _)
theorem rD{a b len:Nat}(h:len<=b):strSliceIndices (some (a:Int)) (some (b:Int)) 1 len=strSliceIndices (some (a:Int)) (some (len:Int)) 1 len:=by
 have h1:¬((a:Int)<0):=by omega
 have h2:¬((b:Int)<0):=by omega
 have h3:¬((len:Int)<0):=by omega
 have e1:max (0:Int) (min (b:Int) (len:Int))=len:=by omega
 have e2:max (0:Int) (min (len:Int) (len:Int))=len:=by omega
 simp only[strSliceIndices,h1,h2,h3,if_false,e1,e2,show((1:Int)>0)=True from by simp,if_true]
theorem qF:Str.ofString ".."=stL [46,46]:=by decide +kernel
theorem ni{l:List Nat}{i:Nat}(hi:i<l.length):Txt.slice (stL l) (some (i:Int)) (some ((i:Int)+2))=Str.ofString ".."↔(l[i]=46/\(l.drop (i+1)).head?=some 46):=by
 have hd:l.drop i=l[i]::l.drop (i+1):=wl hi;rw[show(i:Int)+2=((i+2:Nat):Int) by omega,qF];by_cases h:i+2<=l.length
 ·rw[ie l (by omega) h,stL_inj,hd,show i+2-i=2 by omega];cases hr:l.drop (i+1)with
  |nil =>have:=congrArg List.length hr;rw[vU]at this;simp at this;omega
  |cons c r =>show[l[i],c]=[46,46]↔l[i]=46/\some c=some 46;simp
 ·have e:Txt.slice (stL l) (some (i:Int)) (some ((i+2:Nat):Int))=Txt.slice (stL l) (some (i:Int)) (some (l.length:Int)):=by unfold Txt.slice;rw[ap,rD (by omega)]
  rw[e,ie l (by omega) (vJ _),stL_inj,hd];have hr:l.drop (i+1)=[]:=wm (by omega);rw[hr,show l.length-i=1 by omega];show[l[i]]=[46,46]↔_;simp
abbrev Mk:=List Nat×Nat
noncomputable def mhd:List Mk->List Nat
 | []=>[]
 |u::_=>u.1
noncomputable def mbg(e:Nat):List Mk->Nat
 | []=>e
 |u::_=>u.2
noncomputable def isN(m:List Nat):Bool:=decide (m≠[])&&m.all isD&&(decide (m=[48]) ||decide (m.head?≠some 48))
noncomputable def isE(m:List Nat):Bool:=decide (m.length=1)&&m.all λc=>decide (48<=c)&&decide (c<=56)
inductive PSt |p0 |p1 |pm |pe |pn |px |pd
 deriving DecidableEq
noncomputable def PSt.opn:PSt->Bool
 |.p0 |.p1 |.pm |.pe=>true
 |_=>false
noncomputable def nxt(s:PSt)(m:List Nat):Option PSt:=match s with
 |.p0=>if isN m then some .pn else if m=[120]then some .px else if m=[45]then some .p1 else none
 |.p1=>if isN m then some .pn else if m=[120]then some .px else none
 |.pm=>if m=[120]then some .px else none
 |.pe=>if isE m then some .pd else none
 |.pn=>if m=[42]then some .pm else if m=[43]\/m=[45]then some .p1 else none
 |.px=>if m=[94]then some .pe else if m=[43]\/m=[45]then some .p1 else none
 |.pd=>if m=[43]\/m=[45]then some .p1 else none
structure Cfg where
 st:PSt
 row:Nat->Int
 sg:Int
 many:Int
 k:Nat
noncomputable def Cfg.fin(c:Cfg):Nat->Int:=λn=>c.row n+if n=c.k then c.sg*c.many else 0
noncomputable def Cfg.put(c:Cfg)(m:List Nat)(s:PSt):Cfg :=
 if m=[43]\/m=[45]then⟨s,c.fin,if m=[45]then -1 else 1,0,0⟩
 else if m=[120]then⟨s,c.row,c.sg,if c.st=.pm then c.many else 1,1⟩
 else if m=[42]\/m=[94]then{ c with st:=s }
 else if c.st=.pe then⟨s,c.row,c.sg,c.many,digitsVal m⟩
 else⟨s,c.row,c.sg,digitsVal m,c.k⟩
noncomputable def mgo(c:Cfg):List Mk->Cfg×List Mk
 | []=>(c,[])
 |u::us=>match nxt c.st u.1 with
  |none=>(c,u::us)
  |some s=>mgo (c.put u.1 s) us
noncomputable def aA:List Mk->List Mk ⊕ (Nat×List Mk)
 | []=>.inl []
 |u::us=>if u.1=[120]then(match us with
    | []=>.inr (1,[])
    |v::us2=>if v.1=[94]then(match us2 with
       | []=>.inl []
       |w::us3=>if isE w.1 then .inr (digitsVal w.1,us3)else .inl (w::us3))
     else .inr (1,v::us2))
  else .inl (u::us)
noncomputable def aG:List Mk->List Mk ⊕ (Nat×Nat×List Mk)
 | []=>.inl []
 |u::us=>if isN u.1 then(match us with
    | []=>.inr (digitsVal u.1,0,[])
    |v::us2=>if v.1=[42]then(match aA us2 with
       |.inl r=>.inl r
       |.inr (k,r)=>.inr (digitsVal u.1,k,r))
     else .inr (digitsVal u.1,0,v::us2))
  else(match aA (u::us)with
   |.inl r=>.inl r
   |.inr (k,r)=>.inr (1,k,r))
theorem kX{m:List Nat}(h:isN m=true):m≠[120]/\m≠[43]/\m≠[45]/\m≠[42]/\m≠[94]:=by refine⟨?_,?_,?_,?_,?_⟩<;>(rintro rfl;exact absurd h (by decide))
theorem kZ{m:List Nat}(h:isE m=true):m≠[120]/\m≠[43]/\m≠[45]/\m≠[42]/\m≠[94]:=by refine⟨?_,?_,?_,?_,?_⟩<;>(rintro rfl;exact absurd h (by decide))
theorem bE{c:Cfg}{u:Mk}{us:List Mk}{s:PSt}(h:nxt c.st u.1=some s):mgo c (u::us)=mgo (c.put u.1 s) us:=by show(match nxt c.st u.1 with |none=>_ |some s=>_)=_;rw[h]
theorem cR{c:Cfg}{u:Mk}{us:List Mk}(h:nxt c.st u.1=none):mgo c (u::us)=(c,u::us):=by show(match nxt c.st u.1 with |none=>_ |some s=>_)=_;rw[h]
def Bad(r:Cfg×List Mk):Prop:=r.1.st.opn=true
def Lft(s:PSt)(us:List Mk):Prop:=(s=.px/\mhd us≠[94])\/s=.pd
theorem ix{c:Cfg}{us:List Mk}(hs:c.st=.pm\/((c.st=.p1\/(c.st=.p0/\mhd us≠[45]))/\isN (mhd us)=false)) :
 (∀r,aA us=.inl r->Bad (mgo c us)/\(mgo c us).2=r)/\∀k r,aA us=.inr (k,r)->∃s,Lft s r/\k<=8/\mgo c us=mgo ⟨s,c.row,c.sg,if c.st=.pm then c.many else 1,k⟩ r:=by
 have hop:c.st.opn=true:=by rcases hs with h |⟨h |⟨h,_⟩,_⟩<;>rw[h]<;>rfl
 cases us with
 |nil =>refine⟨λr h=>?_,λk r h=>nomatch h⟩;cases h;exact⟨hop,rfl⟩
 |cons u us =>
  by_cases hu:u.1=[120]
  ·have hn:nxt c.st u.1=some .px:=by rw[hu];rcases hs with h |⟨h |⟨h,_⟩,_⟩<;>rw[h]<;>decide
   rw[bE hn]
   have hp:c.put u.1 .px=⟨.px,c.row,c.sg,if c.st=.pm then c.many else 1,1⟩:=by unfold Cfg.put;rw[hu,if_neg (by decide),if_pos rfl]
   rw[hp];show(∀r,(if u.1=[120]then _ else _)=Sum.inl r->_)/\_;cases us with
   |nil =>
    have e:aA [u]=.inr (1,[]):=by simp[aA,hu]
    refine⟨λr h=>?_,λk r h=>?_⟩
    ·rw[if_pos hu]at h;cases h
    ·rw[e]at h;cases h;exact⟨.px,.inl ⟨rfl,by decide⟩,by decide,rfl⟩
   |cons v us =>
    by_cases hv:v.1=[94]
    ·have hn2:nxt PSt.px v.1=some .pe:=by rw[hv];decide
     rw[bE (c:=⟨.px,c.row,c.sg,if c.st=.pm then c.many else 1,1⟩) hn2]
     have hp2:(⟨.px,c.row,c.sg,if c.st=.pm then c.many else 1,1⟩:Cfg).put v.1 .pe=⟨.pe,c.row,c.sg,if c.st=.pm then c.many else 1,1⟩:=by unfold Cfg.put;rw[hv,if_neg (by decide),if_neg (by decide),if_pos (by decide)]
     rw[hp2];cases us with
     |nil =>
      have e:aA [u,v]=.inl []:=by simp[aA,hu,hv]
      refine⟨λr h=>?_,λk r h=>?_⟩
      ·have h':aA [u,v]=.inl r:=h;rw[e]at h';cases h';exact⟨rfl,rfl⟩
      ·rw[e]at h;cases h
     |cons w us =>
      by_cases hw:isE w.1=true
      ·have e:aA (u::v::w::us)=.inr (digitsVal w.1,us):=by simp[aA,hu,hv,hw]
       have hn3:nxt PSt.pe w.1=some .pd:=by show(if isE w.1=true then _ else _)=_;rw[if_pos hw]
       obtain⟨x1,x2,x3,x4,x5⟩:=kZ hw;rw[bE (c:=⟨.pe,c.row,c.sg,if c.st=.pm then c.many else 1,1⟩) hn3]
       have hp3:(⟨.pe,c.row,c.sg,if c.st=.pm then c.many else 1,1⟩:Cfg).put w.1 .pd=⟨.pd,c.row,c.sg,if c.st=.pm then c.many else 1,digitsVal w.1⟩:=by unfold Cfg.put;rw[if_neg (by simp[x2,x3]),if_neg x1,if_neg (by simp[x4,x5]),if_pos rfl]
       rw[hp3];refine⟨λr h=>?_,λk r h=>?_⟩
       ·have h':aA (u::v::w::us)=.inl r:=h;rw[e]at h';cases h'
       ·rw[e]at h;cases h;refine⟨.pd,.inr rfl,?_,rfl⟩;obtain⟨m,n⟩:=w;dsimp only at hw ⊢
        match m,hw with
        | [a],hw =>
         unfold isE at hw
         simp at hw
         show 0*10+(a-48)<=8;omega
        | [],hw=>exact absurd hw (by decide)
        |a::b::m,hw =>
         unfold isE at hw
         simp at hw
      ·have e:aA (u::v::w::us)=.inl (w::us):=by simp[aA,hu,hv,hw]
       have hn3:nxt PSt.pe w.1=none:=by show(if isE w.1=true then _ else _)=_;rw[if_neg hw]
       rw[cR (c:=⟨.pe,c.row,c.sg,if c.st=.pm then c.many else 1,1⟩) hn3];refine⟨λr h=>?_,λk r h=>?_⟩
       ·have h':aA (u::v::w::us)=.inl r:=h;rw[e]at h';cases h';exact⟨rfl,rfl⟩
       ·rw[e]at h;cases h
    ·have e:aA (u::v::us)=.inr (1,v::us):=by simp[aA,hu,hv]
     refine⟨λr h=>?_,λk r h=>?_⟩
     ·have h':aA (u::v::us)=.inl r:=h;rw[e]at h';cases h'
     ·rw[e]at h;cases h;exact⟨.px,.inl ⟨rfl,hv⟩,by decide,rfl⟩
  ·have e:aA (u::us)=.inl (u::us):=by simp[aA,hu]
   have hn:nxt c.st u.1=none:=by
    rcases hs with h |⟨h |⟨h,h3⟩,h2⟩
    ·rw[h];show(if u.1=[120]then _ else _)=_;rw[if_neg hu]
    ·have h2':¬isN u.1=true:=by have:isN u.1=false:=h2;rw[this];decide
     rw[h];show(if isN u.1=true then _ else _)=_;rw[if_neg h2',if_neg hu]
    ·have h2':¬isN u.1=true:=by have:isN u.1=false:=h2;rw[this];decide
     rw[h];show(if isN u.1=true then _ else _)=_;rw[if_neg h2',if_neg hu,if_neg (show ¬u.1=[45]from h3)]
   rw[cR hn];refine⟨λr h=>?_,λk r h=>?_⟩
   ·rw[e]at h;cases h;exact⟨hop,rfl⟩
   ·rw[e]at h;cases h
def Lf2(s:PSt)(us:List Mk):Prop:=(s=.pn/\mhd us≠[42])\/Lft s us
theorem gH{c:Cfg}{us:List Mk}(hs:c.st=.p1\/(c.st=.p0/\mhd us≠[45]))(hk:c.k=0) :
 (∀r,aG us=.inl r->Bad (mgo c us)/\(mgo c us).2=r)/\∀n k r,aG us=.inr (n,k,r)->∃s,Lf2 s r/\k<=8/\mgo c us=mgo ⟨s,c.row,c.sg,n,k⟩ r:=by
 have hop:c.st.opn=true:=by rcases hs with h |⟨h,_⟩<;>rw[h]<;>rfl
 have hnm:c.st≠.pm:=by rcases hs with h |⟨h,_⟩<;>rw[h]<;>decide
 have hne:c.st≠.pe:=by rcases hs with h |⟨h,_⟩<;>rw[h]<;>decide
 cases us with
 |nil =>refine⟨λr h=>?_,λn k r h=>nomatch h⟩;cases h;exact⟨hop,rfl⟩
 |cons u us =>
  by_cases hu:isN u.1=true
  ·have hn:nxt c.st u.1=some .pn:=by rcases hs with h |⟨h,_⟩<;>rw[h]<;>(show(if isN u.1=true then _ else _)=_;rw[if_pos hu])
   obtain⟨x1,x2,x3,x4,x5⟩:=kX hu;rw[bE hn]
   have hp:c.put u.1 .pn=⟨.pn,c.row,c.sg,digitsVal u.1,0⟩:=by unfold Cfg.put;rw[if_neg (by simp[x2,x3]),if_neg x1,if_neg (by simp[x4,x5]),if_neg hne,hk]
   rw[hp];cases us with
   |nil =>
    have e:aG [u]=.inr (digitsVal u.1,0,[]):=by simp[aG,hu]
    refine⟨λr h=>?_,λn k r h=>?_⟩
    ·rw[e]at h;cases h
    ·rw[e]at h;cases h;exact⟨.pn,.inl ⟨rfl,by decide⟩,by decide,rfl⟩
   |cons v us =>
    by_cases hv:v.1=[42]
    ·have hn2:nxt PSt.pn v.1=some .pm:=by rw[hv];decide
     rw[bE (c:=⟨.pn,c.row,c.sg,digitsVal u.1,0⟩) hn2]
     have hp2:(⟨.pn,c.row,c.sg,digitsVal u.1,0⟩:Cfg).put v.1 .pm=⟨.pm,c.row,c.sg,digitsVal u.1,0⟩:=by unfold Cfg.put;rw[hv,if_neg (by decide),if_neg (by decide),if_pos (by decide)]
     rw[hp2];have G:=ix (c:=⟨.pm,c.row,c.sg,digitsVal u.1,0⟩) (us:=us) (.inl rfl)
     have e:aG (u::v::us)=match aA us with
      |.inl r=>.inl r
      |.inr (k,r)=>.inr (digitsVal u.1,k,r):=by
      simp only[aG,hu,hv,if_true]
     rw[e];cases hP:aA us with
     |inl r0 =>refine⟨λr h=>?_,λn k r h=>nomatch h⟩;cases h;exact G.1 _ hP
     |inr kr =>obtain⟨k0,r0⟩:=kr;refine⟨λr h=>(nomatch h),λn k r h=>?_⟩;cases h;obtain⟨s,hl,h8,e2⟩:=G.2 _ _ hP;exact⟨s,.inr hl,h8,e2⟩
    ·have e:aG (u::v::us)=.inr (digitsVal u.1,0,v::us):=by simp[aG,hu,hv]
     refine⟨λr h=>?_,λn k r h=>?_⟩
     ·rw[e]at h;cases h
     ·rw[e]at h;cases h;exact⟨.pn,.inl ⟨rfl,hv⟩,by decide,rfl⟩
  ·have hu':isN u.1=false:=by simpa using hu
   have G:=ix (c:=c) (us:=u::us) (.inr ⟨hs,hu'⟩)
   have e:aG (u::us)=match aA (u::us)with
    |.inl r=>.inl r
    |.inr (k,r)=>.inr (1,k,r):=by
    show(if isN u.1=true then _ else _)=_;rw[if_neg hu]
   rw[e];cases hP:aA (u::us)with
   |inl r0 =>refine⟨λr h=>?_,λn k r h=>nomatch h⟩;cases h;exact G.1 _ hP
   |inr kr =>obtain⟨k0,r0⟩:=kr;refine⟨λr h=>(nomatch h),λn k r h=>?_⟩;cases h;obtain⟨s,hl,h8,e2⟩:=G.2 _ _ hP;rw[if_neg hnm]at e2;exact⟨s,.inr hl,h8,e2⟩
theorem qL{c:Cfg}{us:List Mk}(hl:Lf2 c.st us):(∀u r,us=u::r->(u.1=[43]\/u.1=[45])->mgo c us=mgo ⟨.p1,c.fin,if u.1=[45]then -1 else 1,0,0⟩ r)/\(mhd us≠[43]->mhd us≠[45]->mgo c us=(c,us)):=by
 have hst:c.st=.pn\/c.st=.px\/c.st=.pd:=by rcases hl with⟨h,_⟩ |⟨h,_⟩ |h<;>simp[h]
 refine⟨λu r e hu=>?_,λh1 h2=>?_⟩
 ·subst e
  have hn:nxt c.st u.1=some .p1:=by rcases hst with h |h |h<;>rw[h]<;>rcases hu with z |z<;>rw[z]<;>decide
  rw[bE hn];unfold Cfg.put;rw[if_pos hu]
 ·cases us with
  |nil=>rfl
  |cons u r =>
   refine cR ?_;have h3:¬(u.1=[43]\/u.1=[45]):=by rintro(z |z);exact h1 z;exact h2 z
   rcases hl with⟨h,z⟩ |⟨h,z⟩ |h
   ·rw[h];show(if u.1=[42]then _ else _)=_;rw[if_neg (show ¬u.1=[42]from z),if_neg h3]
   ·rw[h];show(if u.1=[94]then _ else _)=_;rw[if_neg (show ¬u.1=[94]from z),if_neg h3]
   ·rw[h];show(if _ then _ else _)=_;rw[if_neg h3]
theorem qK{s:PSt}{us:List Mk}(h:Lf2 s us):s.opn=false:=by rcases h with⟨h,_⟩ |⟨h,_⟩ |h<;>rw[h]<;>rfl
noncomputable def cfg0:Cfg:=⟨.p0,λ_=>0,1,0,0⟩
theorem rV{us:List Mk}{u:Mk}(h:u.1=[45]):mgo cfg0 (u::us)=mgo ⟨.p1,λ_=>0,-1,0,0⟩ us:=by
 have hn:nxt cfg0.st u.1=some .p1:=by rw[h];decide
 rw[bE hn];unfold Cfg.put;rw[if_pos (.inr h),if_pos h]
 congr 2
 funext n
 unfold Cfg.fin;show(0:Int)+(if n=0 then 1*0 else 0)=0;split<;>rfl
theorem qc{c d:Cfg}{us:List Mk}{u:Mk}{s:PSt}(h:mgo c us=(d,[]))(hn:nxt d.st u.1=some s):mgo c (us++[u])=(d.put u.1 s,[]):=by
 induction us generalizing c with
 |nil =>obtain rfl:c=d:=congrArg Prod.fst h;show mgo c [u]=_;rw[bE hn];rfl
 |cons v us ih =>
  rw[v9];cases hv:nxt c.st v.1 with
  |none=>rw[cR hv]at h;cases h
  |some s2 =>rw[bE hv]at h ⊢;exact ih h
theorem qb{c d:Cfg}{us r:List Mk}{u:Mk}(h:mgo c us=(d,[]))(hn:nxt d.st u.1=none):mgo c (us++u::r)=(d,u::r):=by
 induction us generalizing c with
 |nil =>obtain rfl:c=d:=congrArg Prod.fst h;show mgo c (u::r)=_;rw[cR hn]
 |cons v us ih =>
  rw[v9];cases hv:nxt c.st v.1 with
  |none=>rw[cR hv]at h;cases h
  |some s2 =>rw[bE hv]at h ⊢;exact ih h
theorem lA:∀(m:List Nat) (a:Nat),(∀c∈m,isD c=true)->m.foldl (λacc c=>acc*10+(c-48)) a<(a+1)*10^m.length
 | [],a,_=>by show a<(a+1)*1;omega
 |c::m,a,h=>by
  have h2:isD c=true:=h c (by simp);unfold isD at h2
  simp at h2
  have:=lA m (a*10+(c-48)) λx hx=>h x (by simp[hx])
  rw[List.foldl_cons,vZ,Nat.pow_succ];refine vN this ?_;rw[show(a+1)*(10^m.length*10)=((a+1)*10)*10^m.length by rw[Nat.mul_assoc,Nat.mul_comm (10^m.length) 10]];exact Nat.mul_le_mul_right _ (by omega)
theorem tO(m:List Nat)(h:∀c∈m,isD c=true):digitsVal m<10^m.length:=by have:=lA m 0 h;rw[Nat.zero_add,Nat.one_mul]at this;exact this
theorem j5{us r:List Mk}{k:Nat}(h:aA us=.inr (k,r)):k<=8:=by obtain⟨s,_,h8,_⟩:=(ix (c:=⟨.pm,λ_=>0,1,0,0⟩) (us:=us) (.inl rfl)).2 k r h;exact h8
theorem kY{m:List Nat}(h:isN m=true):∀c∈m,isD c=true:=by
 unfold isN at h
 simp only[vV]at h;exact v4.mp h.1.2
theorem la{m:List Nat}(h:isE m=true):m≠[]/\∀c∈m,isD c=true:=by
 refine⟨?_,?_⟩
 ·rintro rfl;exact absurd h (by decide)
 ·unfold isE at h
  simp only[vV]at h;intro c hc;have:=v4.mp h.2 c hc;simp only[vV,decide_eq_true_eq]at this;unfold isD;simp only[vV,decide_eq_true_eq];omega
theorem gv{m:List Nat}(h:∀c∈m,isD c=true)(hn:m≠[])(hl:m.length<=4300):PySem.intText? (stL m)=some ((digitsVal m:Nat):Int):=by
 have hd:AllDigits (stL m).cps.toList:=λc hc=>by
  rw[cF]at hc;have:=h c hc;unfold isD at this
  simpa using this
 have e:=intText_digits hd (by rw[cF];exact hn) (by rw[ap];exact hl);rw[cF]at e;exact e
theorem lB{m:List Nat}(h:∀c∈m,isD c=true)(hl:m.length<=300):digitsVal m<2^1000:=by
 have h1:=tO m h;have h2:10^m.length<=10^300:=Nat.pow_le_pow_right (by decide) hl;have h3:10^300<2^1000:=by decide +kernel
 omega
theorem j4{us r:List Mk}{k:Nat}(h:aA us=.inr (k,r)):r.length<us.length:=by
 unfold aA at h
 split at h
 ·cases h
 ·split at h
  ·split at h
   ·cases h;simp
   ·split at h
    ·split at h
     ·cases h
     ·split at h
      ·cases h;simp;omega
      ·cases h
    ·cases h;simp
  ·cases h
theorem oG{us r:List Mk}{n k:Nat}(h:aG us=.inr (n,k,r)):r.length<us.length:=by
 cases us with
 |nil=>cases h
 |cons u us =>
  by_cases hu:isN u.1=true
  ·cases us with
   |nil =>rw[show aG [u]=.inr (digitsVal u.1,0,[]) by simp[aG,hu]]at h;cases h;simp
   |cons v us =>
    by_cases hv:v.1=[42]
    ·cases hP:aA us with
     |inl r0 =>rw[show aG (u::v::us)=.inl r0 by simp only[aG,hu,hv,if_true,hP]]at h;cases h
     |inr kr =>obtain⟨k0,r0⟩:=kr;rw[show aG (u::v::us)=.inr (digitsVal u.1,k0,r0) by simp only[aG,hu,hv,if_true,hP]]at h;cases h;have:=j4 hP;simp only[vZ];omega
    ·rw[show aG (u::v::us)=.inr (digitsVal u.1,0,v::us) by simp[aG,hu,hv]]at h;cases h;simp
  ·cases hP:aA (u::us)with
   |inl r0 =>
    have e:aG (u::us)=.inl r0:=by show(if isN u.1=true then _ else _)=_;rw[if_neg hu,hP]
    rw[e]at h;cases h
   |inr kr =>
    obtain⟨k0,r0⟩:=kr
    have e:aG (u::us)=.inr (1,k0,r0):=by show(if isN u.1=true then _ else _)=_;rw[if_neg hu,hP]
    rw[e]at h;cases h;exact j4 hP
end RM
open PySem.W in
local macro_rules | `(tactic|walk_at "comp_ok")=>`(tactic|exact⟨by with_unfolding_all rfl,by decide +kernel,rfl,by decide +kernel,by repeat' (first |exact List.forall_mem_nil _ |refine List.forall_mem_cons.2 ⟨rfl,?_⟩),by rfl,by repeat' (first |exact .nil |refine .cons ⟨rfl,by first |exact Or.inl rfl |exact Or.inr rfl,rfl⟩ ?_)⟩)
namespace R67
open PySem L2 RM
noncomputable def top(i:Nat):Stmt:=PySem.Challenge.pw_rootspan_k67_no_polynomial.main.body.getD i (.Pass ⟨0,0,0,0⟩)
abbrev d0:Stmt:=cv (top 4) 0
abbrev dw:Stmt:=top 9
abbrev dy:Stmt:=top 10
abbrev dj:Stmt:=top 11
abbrev dA:Stmt:=top 12
abbrev dz:Stmt:=top 13
abbrev du:Stmt:=top 15
abbrev dC:Stmt:=top 16
abbrev dB:Stmt:=top 17
abbrev dZ:Stmt:=cv (top 20) 0
abbrev dS:Stmt:=cv (top 20) 1
abbrev dY:Stmt:=cv (top 20) 2
abbrev dR:Stmt:=cv (top 20) 3
abbrev dU:Stmt:=cv (top 20) 4
abbrev dX:Stmt:=cv (top 20) 5
abbrev dW:Stmt:=cv (top 20) 6
abbrev dm:Stmt:=top 21
abbrev dq:Stmt:=top 22
abbrev dk:Stmt:=top 23
abbrev dl:Stmt:=top 24
abbrev dn:Stmt:=top 25
abbrev dP:Stmt:=top 27
abbrev dE:Stmt:=top 28
abbrev dN:Stmt:=top 29
abbrev dG:Stmt:=top 30
abbrev dL:Stmt:=top 31
abbrev dD:Stmt:=top 32
abbrev dO:Stmt:=top 33
abbrev dF:Stmt:=top 34
abbrev dH:Stmt:=top 35
abbrev dJ:Stmt:=top 36
abbrev dQ:Stmt:=top 37
abbrev dM:Stmt:=top 38
abbrev dI:Stmt:=top 39
abbrev bP:Stmt:=top 40
theorem nL:FnScope ["self","at"] ["self","at"] (ah d0):=⟨rfl,rfl,rfl,by decide +kernel,rfl,by decide +kernel,by decide +kernel⟩
theorem sc_marks_of:FnScope ["text","found","at","end"] ["text"] (ah dw):=⟨rfl,rfl,rfl,by decide +kernel,rfl,by decide +kernel,by decide +kernel⟩
theorem sc_mark_end:FnScope ["text","at","signs"] ["text","at"] (ah dy):=⟨rfl,rfl,rfl,by decide +kernel,rfl,by decide +kernel,by decide +kernel⟩
theorem sc_run_end:FnScope ["text","at","signs","end"] ["text","at","signs"] (ah dj):=⟨rfl,rfl,rfl,by decide +kernel,rfl,by decide +kernel,by decide +kernel⟩
theorem nz:FnScope ["word"] ["word"] (ah dA):=⟨rfl,rfl,rfl,by decide +kernel,rfl,by decide +kernel,by decide +kernel⟩
theorem ny:FnScope ["word","signs"] ["word","signs"] (ah dz):=⟨rfl,rfl,rfl,by decide +kernel,rfl,by decide +kernel,by decide +kernel⟩
theorem sc_poly:FnScope ["row","length"] ["row"] (ah du):=⟨rfl,rfl,rfl,by decide +kernel,rfl,by decide +kernel,by decide +kernel⟩
theorem sc_added:FnScope ["first","second","length"] ["first","second"] (ah dC):=⟨rfl,rfl,rfl,by decide +kernel,rfl,by decide +kernel,by decide +kernel⟩
theorem nA:FnScope ["row","place"] ["row","place"] (ah dB):=⟨rfl,rfl,rfl,by decide +kernel,rfl,by decide +kernel,by decide +kernel⟩
theorem nK:FnScope ["self","text"] ["self","text"] (ah dZ):=⟨rfl,rfl,rfl,by decide +kernel,rfl,by decide +kernel,by decide +kernel⟩
theorem nF:FnScope ["self"] ["self"] (ah dS):=⟨rfl,rfl,rfl,by decide +kernel,rfl,by decide +kernel,by decide +kernel⟩
theorem nJ:FnScope ["self"] ["self"] (ah dY):=⟨rfl,rfl,rfl,by decide +kernel,rfl,by decide +kernel,by decide +kernel⟩
theorem sc_Reading_step:FnScope ["self","mark"] ["self"] (ah dR):=⟨rfl,rfl,rfl,by decide +kernel,rfl,by decide +kernel,by decide +kernel⟩
theorem nG:FnScope ["self","mark"] ["self","mark"] (ah dU):=⟨rfl,rfl,rfl,by decide +kernel,rfl,by decide +kernel,by decide +kernel⟩
theorem nI:FnScope ["self","mark"] ["self","mark"] (ah dX):=⟨rfl,rfl,rfl,by decide +kernel,rfl,by decide +kernel,by decide +kernel⟩
theorem nH:FnScope ["self"] ["self"] (ah dW):=⟨rfl,rfl,rfl,by decide +kernel,rfl,by decide +kernel,by decide +kernel⟩
theorem sc_read_poly:FnScope ["text","reading","row"] ["text"] (ah dm):=⟨rfl,rfl,rfl,by decide +kernel,rfl,by decide +kernel,by decide +kernel⟩
theorem nw:FnScope ["reading"] ["reading"] (ah dq):=⟨rfl,rfl,rfl,by decide +kernel,rfl,by decide +kernel,by decide +kernel⟩
theorem sc_read_terms:FnScope ["reading","row"] ["reading"] (ah dk):=⟨rfl,rfl,rfl,by decide +kernel,rfl,by decide +kernel,by decide +kernel⟩
theorem sc_read_term:FnScope ["reading","sign","value"] ["reading","sign"] (ah dl):=⟨rfl,rfl,rfl,by decide +kernel,rfl,by decide +kernel,by decide +kernel⟩
theorem nv:FnScope ["reading"] ["reading"] (ah dn):=⟨rfl,rfl,rfl,by decide +kernel,rfl,by decide +kernel,by decide +kernel⟩
theorem nE:FnScope ["_law_script","_law_k"] ["_law_script","_law_k"] (ah dP):=⟨rfl,rfl,rfl,by decide +kernel,rfl,by decide +kernel,by decide +kernel⟩
theorem nB:FnScope ["_law_found"] ["_law_found"] (ah dE):=⟨rfl,rfl,rfl,by decide +kernel,rfl,by decide +kernel,by decide +kernel⟩
theorem nD:FnScope ["_law_mark_here"] ["_law_mark_here"] (ah dN):=⟨rfl,rfl,rfl,by decide +kernel,rfl,by decide +kernel,by decide +kernel⟩
theorem nC:FnScope ["_law_mark_here"] ["_law_mark_here"] (ah dG):=⟨rfl,rfl,rfl,by decide +kernel,rfl,by decide +kernel,by decide +kernel⟩
theorem sc__law_next_in_poly:FnScope ["_law_state","_law_mark_here","_law_kind_here"] ["_law_state","_law_mark_here"] (ah dL):=⟨rfl,rfl,rfl,by decide +kernel,rfl,by decide +kernel,by decide +kernel⟩
theorem sc__law_wild:FnScope ["_law_cell_here","_law_some"] ["_law_cell_here"] (ah dD):=⟨rfl,rfl,rfl,by decide +kernel,rfl,by decide +kernel,by decide +kernel⟩
theorem sc__law_glued:FnScope ["_law_text","_law_mark_here","_law_signs"] ["_law_text","_law_mark_here"] (ah dO):=⟨rfl,rfl,rfl,by decide +kernel,rfl,by decide +kernel,by decide +kernel⟩
theorem sc__law_trim:FnScope ["_law_row_here","_law_size"] ["_law_row_here"] (ah dF):=⟨rfl,rfl,rfl,by decide +kernel,rfl,by decide +kernel,by decide +kernel⟩
theorem sc__law_row:FnScope ["_law_found","_law_due","_law_k"] ["_law_found","_law_due"] (ah dH):=⟨rfl,rfl,rfl,by decide +kernel,rfl,by decide +kernel,by decide +kernel⟩
theorem sc__law_put:FnScope ["_law_at","_law_mark_here","_law_gap","_law_state"] ["_law_at","_law_mark_here","_law_gap"] (ah dJ):=⟨rfl,rfl,rfl,by decide +kernel,rfl,by decide +kernel,by decide +kernel⟩
theorem sc__law_added_up:FnScope ["_law_marks","_law_row_here","_law_sign","_law_many","_law_k","_law_spot","_law_mark_here"] ["_law_marks"] (ah dQ):=⟨rfl,rfl,rfl,by decide +kernel,rfl,by decide +kernel,by decide +kernel⟩
theorem sc__law_mark:FnScope ["_law_state","_law_cell_here","_law_wild_here","_law_turn","_law_many","_law_some"] ["_law_state","_law_cell_here","_law_wild_here"] (ah dM):=⟨rfl,rfl,rfl,by decide +kernel,rfl,by decide +kernel,by decide +kernel⟩
theorem sc__law_refused:FnScope ["_law_text","_law_place","_law_told","e","_law_alone"] ["_law_text","_law_place"] (ah dI):=⟨rfl,rfl,rfl,by decide +kernel,rfl,by decide +kernel,by decide +kernel⟩
theorem sc_law:FnScope ["_law_script","_law_at","_law_wild_here","_law_cell_here","_law_mark_here","_law_text","_law_due","_law_found"] ["_law_script"] (ah bP):=⟨rfl,rfl,rfl,by decide +kernel,rfl,by decide +kernel,by decide +kernel⟩
structure Txt(K:PySem.W.Frag)(mg:Str->Option Value):Prop where
 len_:mg "len"=none
 all_:mg "all"=none
 max_:mg "max"=none
 range_:mg "range"=none
 int_:mg "int"=none
 isinstance_:mg "isinstance"=none
 bool_:mg "bool"=none
 list_:mg "list"=none
 str_:mg "str"=none
 ValueError_:mg "ValueError"=none
 FIGURES_:∃t:Tok,mg "FIGURES"=some (.str "0123456789" t)
 LETTERS_:∃t:Tok,mg "LETTERS"=some (.str "abcdefghijklmnopqrstuvwxyz" t)
 EXPONENTS_:∃a:Addr,mg "EXPONENTS"=some (.ref a)/\∀H,SqT K H a [.str "0",.str "1",.str "2",.str "3",.str "4",.str "5",.str "6",.str "7",.str "8"]
structure EXC(K:PySem.W.Frag)(mg:Str->Option Value)(base:Heap)(CNoText CRootError CNoName CNoRow:Addr):Prop where
 mgNoText:mg "NoText"=some (.ref CNoText)
 mgRootError:mg "RootError"=some (.ref CRootError)
 mgNoName:mg "NoName"=some (.ref CNoName)
 mgNoRow:mg "NoRow"=some (.ref CNoRow)
 hit_NoText_RootError:PySem.W.exmOne K (.ref CNoText) (.ref CRootError)=some true
 is_NoText_ValueError:PySem.W.kitOne K (.ref CNoText) (.type "ValueError")=some true
 is_NoText_NoName:PySem.W.kitOne K (.ref CNoText) (.ref CNoName)=some false
 is_NoText_NoRow:PySem.W.kitOne K (.ref CNoText) (.ref CNoRow)=some false
 is_NoText_NoText:PySem.W.kitOne K (.ref CNoText) (.ref CNoText)=some true
section
variable {P:Program}{w:World}{K:PySem.W.Frag}{mg:Str->Option Value}{base:Heap}
def fR(K:PySem.W.Frag):Sp:=λvs H Q _=>∃(a:Addr) (ns:List Int),vs=[.ref a]/\SqL K H a (ns.map V.int)/\ns.length<=63/\∀H',Q (.bl true) H'
theorem ij(n:Nat):(List.replicate n [V.int 0]).flatten=(List.replicate n (0:Int)).map V.int:=by
 induction n with
 |zero=>rfl
 |succ n ih=>rw[v2,wu,ih,v2];rfl
theorem kW{n j:Nat}{i:Int}(e:i=j)(h:j<n):ixN n i=some j:=by subst e;unfold ixN;rw[if_pos (Int.natCast_nonneg _),if_pos (by omega)];simp
theorem kE(l:List Int)(j:Nat)(x:Int):(l.map V.int).set j (.int x)=(l.set j x).map V.int:=by rw[List.map_set]
theorem fE{l:List Int}{j:Nat}{i:Int}(e:i=j)(h:j<l.length):atI (l.map V.int) i=some (.int (cf l j)):=by subst e;exact cb (by rw[List.getElem?_map,fq h];rfl)
def SameB(p:Addr)(H H':Hp):Prop:=∀b o,b≠p->H b=some o->H' b=some o
theorem SameB.refl(p:Addr)(H:Hp):SameB p H H:=λ_ _ _ h=>h
theorem SameB.then_new{p q:Addr}{H H1:Hp}{o:HO}(s:SameB p H H1)(h:H1 q=none):SameB p H (upd H1 q o):=λb u n e=>by rw[upd_ne (aO (s b u n e) h)];exact s b u n e
def AllB(k:Nat)(l:List Int):Prop:=∀x∈l,Bits k x
theorem AllB.cf{k:Nat}{l:List Int}(h:AllB k l)(n:Nat):Bits k (cf l n):=by
 by_cases hn:n<l.length
 ·rw[gw hn];exact h _ (List.getElem_mem hn)
 ·rw[cx (wv hn)];exact Bits.zero
theorem iK{H H2:Hp}{p:Addr}{o:HO}(s:Same H H2)(hp:H p=none):Same H (upd H2 p o):=λb u e=>by rw[upd_ne (aO e hp)];exact s b u e
noncomputable def bL(ms:List Int)(lo hi:Option Int):List Int:=(ms.drop (HT.sIx ms.length 0 lo)).take (HT.sIx ms.length ms.length hi-HT.sIx ms.length 0 lo)
theorem tR(ms:List Int)(lo hi:Option Int):bK (ms.map V.int) lo hi=(bL ms lo hi).map V.int:=by unfold bK bL;rw[vK,<- List.map_drop,<- List.map_take]
theorem tT(ms:List Int)(lo hi:Option Int):(bL ms lo hi).length<=ms.length:=by unfold bL;rw[wt,vU];omega
theorem AllB.app{k:Nat}{l r:List Int}(h1:AllB k l)(h2:AllB k r):AllB k (l++r):=λx hx=>(v1.mp hx).elim (h1 x) (h2 x)
theorem AllB.mono{j k:Nat}{l:List Int}(h:AllB j l)(hk:j<=k:=by decide):AllB k l:=λx hx=>(h x hx).mono hk
theorem AllB.nil{k:Nat}:AllB k []:=λ_ h=>nomatch h
theorem AllB.snoc{k:Nat}{l:List Int}{x:Int}(h:AllB k l)(hx:Bits k x):AllB k (l++[x]):=h.app λy hy=>by rw[v3.mp hy];exact hx
theorem qd{l:List Int}{x:Int}(h:x∈trim l):x∈l:=by
 unfold trim at h
 rw[List.mem_reverse]at h;exact List.mem_reverse.mp ((List.dropWhile_sublist _).subset h)
theorem AllB.trim{k:Nat}{l:List Int}(h:AllB k l):AllB k (trim l):=λx hx=>h x (qd hx)
theorem rN{l:List Int}{i:Nat}{x:V}(h:(l.map V.int)[i]?=some x):∃c,l[i]?=some c/\x=.int c/\c∈l/\l.take (i+1)=l.take i++[c]:=by
 rw[List.getElem?_map]at h;cases e:l[i]? with
 |none=>rw[e]at h;cases h
 |some c=>rw[e]at h;exact⟨c,rfl,(Option.some.inj h).symm,List.mem_of_getElem? e,by rw[List.take_add_one,e];rfl⟩
def mkL(H:Hp)(Q:VK)(r:List Int):Prop:=∀(p:Addr) (H':Hp),Same H H'->H p=none->H' p=some (.lst (r.map V.int))->Q (.ref p) H'
def cG(K:PySem.W.Frag):Sp:=λvs H Q _=>∃(a:Addr) (ns:List Int),vs=[.ref a]/\SqL K H a (ns.map V.int)/\mkL H Q (trim ns)
def di(K:PySem.W.Frag):Sp:=λvs H Q _=>∃(a:Addr) (ns:List Int) (k:Nat),vs=[.ref a,.int k]/\SqL K H a (ns.map V.int)/\Q (.int (ns.getD k 0)) H
def ic(K:PySem.W.Frag)(g:List Int->List Int->List Int):Sp:=λvs H Q _=>∃(a b:Addr) (xs ys:List Int),vs=[.ref a,.ref b]/\SqL K H a (xs.map V.int)/\SqL K H b (ys.map V.int)/\xs.length<=1000000/\ys.length<=1000000/\mkL H Q (g xs ys)
theorem qe(i j:Nat):(if((j:Nat):Int)>((i:Nat):Int)then((j:Nat):Int)else((i:Nat):Int))=((max i j:Nat):Int):=by split<;>omega
theorem jO{n:Nat}(h:n<=sizeLine) : -(2^62)<=((n:Nat):Int)/\((n:Nat):Int)<2^62:=by have:=sizeLine_eq;omega
def RwH(H:Hp)(ps:List Addr)(xss:List (List Int)):Prop:=ps.length=xss.length/\∀(i:Nat) (p:Addr) (xs:List Int),ps[i]?=some p->xss[i]?=some xs->H p=some (.lst (xs.map V.int))
theorem RwH.nil{H:Hp}:RwH H [] []:=⟨rfl,λi p xs h=>by simp at h⟩
theorem RwH.same{H H':Hp}{ps:List Addr}{xss:List (List Int)}(h:RwH H ps xss)(s:Same H H'):RwH H' ps xss:=⟨h.1,λi p xs a b=>s _ _ (h.2 i p xs a b)⟩
theorem RwH.snoc{H:Hp}{ps:List Addr}{xss:List (List Int)}{p:Addr}{xs:List Int}(h:RwH H ps xss)(hp:H p=some (.lst (xs.map V.int))):RwH H (ps++[p]) (xss++[xs]):=by
 refine⟨by rw[vM,vM,h.1];rfl,λi q ys a b=>?_⟩;by_cases hi:i<ps.length
 ·rw[List.getElem?_append_left hi]at a;rw[List.getElem?_append_left (by rw[<- h.1];exact hi)]at b;exact h.2 i q ys a b
 ·rw[List.getElem?_append_right (by omega)]at a;rw[List.getElem?_append_right (by rw[<- h.1];omega),<- h.1]at b;by_cases h0:i-ps.length=0
  ·rw[h0]at a b;obtain rfl:p=q:=by simpa using a
   obtain rfl:xs=ys:=by simpa using b
   exact hp
  ·rw[List.getElem?_eq_none_iff.mpr (by simp;omega)]at a;cases a
theorem RwH.get{H:Hp}{ps:List Addr}{xss:List (List Int)}{i:Nat}(h:RwH H ps xss)(hi:i<xss.length):∃p,ps[i]?=some p/\H p=some (.lst ((xss.getD i []).map V.int)):=by
 have hi':i<ps.length:=by rw[h.1];exact hi
 refine⟨ps[i],List.getElem?_eq_getElem hi',h.2 i _ _ (List.getElem?_eq_getElem hi') ?_⟩;rw[List.getElem?_eq_getElem hi];simp[List.getD,hi]
theorem qf(ps:List Addr)(p:Addr):ps.map V.ref++[V.ref p]=(ps++[p]).map V.ref:=by rw[wb];rfl
theorem oV{f:Addr}{fd:FuncData}(F:Fun K "poly" "poly" du f fd)(T:Txt K mg):FnOk P w K mg base CX0 1 f fd ["row"] (cG K):=by
 refine F.ok sc_poly (λvs H Q E h=>?_) (λcdv A outer s H vs Q E hr h=>?_)
 ·obtain⟨a,ns,rfl,_⟩:=h;rfl
 ·obtain⟨a,ns,rfl,hS,k⟩:=h
  refine⟨_,(ag (ar (i:=1) sc_poly.nd rfl (Or.inl rfl) (aF (bj (K:=K) rfl) (by rfl) T.len_ PySem.boot_len (aa (pv 0) ac)))
   (ag (eP PassesOwn.never (PW.pt (bn (aj d9 (pv 1) ad (ak _)) (bu (aj cu (ao (ay (K:=K) rfl) (pv 0) (am cN (pv 1) ad) (λ_ _=>rfl)) ad (ak _)))))
     (af (ar (i:=1) sc_poly.nd rfl (Or.inl rfl) (am cN (pv 1) ad))))
   (af (al (eV (ig (K:=K) rfl) (pv 0) jW (cp (pv 1))))))),?_⟩
  refine⟨_,rfl,a,_,rfl,.inl hS,?_⟩;refine⟨λm σ' H'=>∃n:Nat,n<=ns.length/\σ'=[some (.ref a),some (.int n)]/\H=H'/\n=m/\trim (ns.take n)=trim ns,⟨_,ns.length,vJ _,?_,rfl,rfl,?_⟩,?_⟩
  ·rw[vK];rfl
  ·rw[ww]
  ·rintro m σ' H' ⟨n,hn,rfl,rfl,rfl,ht⟩
   have fin:trim (ns.take n)=ns.take n->∃v,([some (V.ref a),some (V.int n)]:St)[0]?=some (some v)/\∃v_1,([some (V.ref a),some (V.int n)]:St)[1]?=some (some v_1)/\∃i,v_1=V.int i/\fV K v none (some i) H Q:=λh=>by
    refine⟨_,rfl,_,rfl,n,rfl,a,_,rfl,hS,λp hp=>k p _ (Same.upd_new hp) hp ?_⟩;rw[ai,<- ht,h]
    have e:bK (ns.map V.int) none (some (n:Int))=(ns.take n).map V.int:=by unfold bK;rw[HT.sIx_none,HT.sIx_nat,List.drop_zero,Nat.sub_zero,vK,Nat.min_eq_left hn,List.map_take]
    rw[e]
   refine⟨_,rfl,_,_,rfl,rfl,_,rfl,?_⟩;refine aq (λhp=>?_) (λhp=>?_)
   ·obtain⟨j,rfl⟩:∃j,n=j+1:=⟨n-1,by have:(0:Int)<n:=hp;omega⟩;have hj:j<ns.length:=hn;refine⟨_,rfl,_,rfl,_,_,rfl,rfl,a,_,j,.int (cf ns j),rfl,?_,hS,cb ?_,_,_,rfl,rfl,_,rfl,?_⟩
    ·show V.int (((j+1:Nat):Int)-1)=V.int j
     congr 1;omega
    ·rw[List.getElem?_map,fq hj];rfl
    refine aq (λh0=>?_) (λh0=>?_)
    ·refine⟨λσ'' H''=>∃m',m'<j+1/\∃n:Nat,n<=ns.length/\σ''=[some (.ref a),some (.int n)]/\H=H''/\n=m'/\trim (ns.take n)=trim ns,λ_ _ h=>h,?_⟩;refine⟨_,rfl,_,_,rfl,rfl,j,wo _,j,Nat.le_of_lt hj,?_,rfl,rfl,?_⟩
     ·show[some (V.ref a),some (V.int (((j+1:Nat):Int)-1))]=[some (V.ref a),some (V.int j)]
      congr 4;omega
     ·rw[<- ht,jB hj h0]
    ·exact fin (jC hj h0)
   ·obtain rfl:n=0:=by have:¬(0:Int)<n:=hp;omega
    exact fin (by rw[List.take_zero];rfl)
theorem o6{f:Addr}{fd:FuncData}(F:Fun K "coefficient" "coefficient" dB f fd)(T:Txt K mg):FnOk P w K mg base CX0 1 f fd ["row","place"] (di K):=by
 refine F.ok nA (λvs H Q E h=>?_) (λcdv A outer s H vs Q E hr h=>?_)
 ·obtain⟨a,ns,k,rfl,_⟩:=h;rfl
 ·obtain⟨a,ns,n,rfl,hS,k⟩:=h
  refine⟨_,(ag (au (aj bR (pv 1) (aF (bj (K:=K) rfl) (by rfl) T.len_ PySem.boot_len (aa (pv 0) ac)) (ak _))
   (af (al (ao (ay (K:=K) rfl) (pv 0) (pv 1) (λ_ _=>rfl))))
   ax)
   (af (al ad))),?_⟩
  refine⟨_,rfl,_,rfl,a,_,rfl,.inl hS,_,_,rfl,rfl,_,rfl,?_⟩;refine aq (λh1=>?_) (λh1=>?_)
  ·rw[vK]at h1;have h2:n<ns.length:=by omega
   refine⟨_,rfl,_,rfl,a,_,_,_,rfl,rfl,hS,cb (v:=.int (ns.getD n 0)) ?_,k⟩;rw[List.getElem?_map,List.getElem?_eq_getElem h2];simp[List.getD,h2]
  ·rw[vK]at h1;have h2:ns.length<=n:=by omega
   have e:ns.getD n 0=0:=by simp[List.getD,List.getElem?_eq_none_iff.mpr h2]
   rw[e]at k;exact k
theorem o7{f:Addr}{fd:FuncData}(F:Fun K "added" "added" dC f fd)(T:Txt K mg){ja:Addr}{i5:FuncData}(jt:Cal P w K mg base 1 "poly" ["row"] (cG K) ja i5){sS:Addr}{sj:FuncData}(vj:Cal P w K mg base 1 "coefficient" ["row","place"] (di K) sS sj):FnOk P w K mg base CX0 2 f fd ["first","second"] (ic K bM):=by
 obtain⟨fG,fc,fj,fB⟩:=jt;obtain⟨mj,kH,kQ,lY⟩:=vj;refine F.ok sc_added (λvs H Q E h=>?_) (λcdv A outer s H vs Q E hr h=>?_)
 ·obtain⟨a,b,xs,ys,rfl,_⟩:=h;rfl
 ·obtain⟨a,b,xs,ys,rfl,hA,hB,hx,hy,k⟩:=h
  refine⟨_,(ag (ar (i:=2) sc_added.nd rfl (Or.inl rfl) (aF (lQ rfl) (by rfl) T.max_ PyProof.Rows.boot_max (aa (aF (bj (K:=K) rfl) (by rfl) T.len_ PySem.boot_len (aa (pv 0) ac)) (aa (aF (bj (K:=K) rfl) (by rfl) T.len_ PySem.boot_len (aa (pv 1) ac)) ac))))
   (af (al (aB fG (hr.mono) rfl fc fj fB .nil av (aa (j0 (own:=["k"]) (fr:=["first","second"]) (js:=[0,1]) (by walk_at "comp_ok") rfl (iy rfl T.range_ (aa (pv 2) ac)) (λ_ _ _ _=>(cL (i:=0) (show List.Nodup (["k","first","second"]:List Str)from by decide +kernel) rfl (Or.inl rfl))) (λ_ _ _ _=>(am bD (aB mj (hr.mono) rfl kH kQ lY .nil av (aa (pv 1) (aa (pv 0) ac))) (aB mj (hr.mono) rfl kH kQ lY .nil av (aa (pv 2) (aa (pv 0) ac)))))) ac))))),?_⟩
  refine⟨_,rfl,a,_,rfl,.inl hA,_,rfl,b,_,rfl,.inl hB,_,_,rfl,?_⟩;rw[qe,vK,vK];have hz:max xs.length ys.length<=sizeLine:=by have:=sizeLine_eq;omega
  refine⟨_,rfl,_,rfl,(jO hz).1,(jO hz).2,tV (lo:=0) (n:=max xs.length ys.length) (λi zs σ' H'=>∃z:Option V,σ'=[z,some (.ref a),some (.ref b)]/\zs=((List.range i).map λk=>V.int (cf xs k+cf ys k))/\H=H') hz ⟨none,rfl,rfl,rfl⟩ ?_ ?_ ?_⟩
  ·rintro i zs σ' H' _ ⟨z,rfl,rfl,rfl⟩;simp
  ·rintro i zs σ' H' hi ⟨z,rfl,rfl,rfl⟩;refine⟨_,rfl,_,rfl,a,xs,i,?_,hA,_,rfl,_,rfl,b,ys,i,?_,hB,_,_,rfl,rfl,_,rfl,?_,rfl⟩
   ·show[V.ref a,V.int (0+(i:Int))]=_;rw[Int.zero_add]
   ·show[V.ref b,V.int (0+(i:Int))]=_;rw[Int.zero_add]
   ·rw[List.range_succ,wb];rfl
  ·rintro zs σ' H' p ⟨z,rfl,rfl,rfl⟩ hp;refine⟨p,(List.range (max xs.length ys.length)).map λk=>cf xs k+cf ys k,rfl,SqL.of ?_,?_⟩
   ·rw[ai,List.map_map];rfl
   ·intro p' H' sm hp' e;refine k p' H' ((Same.upd_new hp).trans sm) ((Same.upd_new hp).free hp') ?_;rw[e,uC]
def Pla(l:List Nat):Prop:=(∀c∈l,c<128)/\l.length<=300
theorem Pla.drop{l:List Nat}(h:Pla l)(n:Nat):Pla (l.drop n):=⟨λc hc=>h.1 c (List.mem_of_mem_drop hc),by rw[vU];have:=h.2;omega⟩
theorem bF{l:List Nat}{i:Nat}{c:Nat}{j:Int}(e:j=i)(h:l[i]?=some c):atI (stL l).cps.toList j=some c:=by subst e;exact cb h
def SgP(z:Str)(p:Nat->Bool):Prop:=∀c,decide (c∈z.cps.toList)=p c
def gY:Sp:=λvs H Q _=>∃(l:List Nat) (i:Nat) (z:Str) (p:Nat->Bool),vs=[.str (stL l),.int i,.str z]/\Pla l/\i<=l.length/\SgP z p/\Q (.int ((i+((l.drop i).takeWhile p).length:Nat):Int)) H
theorem oP{f:Addr}{fd:FuncData}(F:Fun K "run_end" "run_end" dj f fd)(T:Txt K mg):FnOk P w K mg base CX0 1 f fd ["text","at","signs"] gY:=by
 refine F.ok sc_run_end (λvs H Q E h=>?_) (λcdv A outer s H vs Q E hr h=>?_)
 ·obtain⟨l,i,z,p,rfl,_⟩:=h;rfl
 ·obtain⟨l,i,z,p,rfl,hl,hi,hz,k⟩:=h;have big:=sizeLine_eq;have hl2:=hl.2
  refine⟨_,(ag (ar (i:=3) sc_run_end.nd rfl (Or.inl rfl) (pv 1))
   (ag (eP PassesOwn.never (PW.pt (bn (aj bR (pv 3) (aF bZ (by rfl) T.len_ PySem.boot_len (aa (pv 0) ac)) (ak _)) (bu (aj cr (ao bU (pv 0) (pv 3) (λ_ _=>rfl)) (pv 2) (by rfl)))))
     (af (ar (i:=3) sc_run_end.nd rfl (Or.inl rfl) (am bD (pv 3) ad))))
   (af (al (pv 3))))),?_⟩
  refine aK ⟨_,rfl,?_⟩;refine⟨λm σ' H'=>∃e:Nat,m+e=l.length/\σ'=[some (.str (stL l)),some (.int i),some (.str z),some (.int (e:Int))]/\H=H'/\e+((l.drop e).takeWhile p).length=i+((l.drop i).takeWhile p).length,⟨l.length-i,i,by omega,rfl,rfl,rfl⟩,?_⟩;rintro m σ' H' ⟨e,hm,rfl,rfl,he⟩;refine bg ⟨_,rfl,_,rfl,_,rfl,by rw[ap];omega,_,_,rfl,rfl,_,rfl,aq (λh1=>?_) (λh1=>?_)⟩
  rotate_left
  ·rw[ap]at h1;have h1':l.length<=e:=by have:¬(e:Int)<(l.length:Int):=h1;omega
   refine⟨_,rfl,?_⟩;rw[<- he,wm h1']at k;exact k
  rw[ap]at h1;have h1':e<l.length:=by have:(e:Int)<(l.length:Int):=h1;omega
  have hg:l[e]?=some l[e]:=List.getElem?_eq_getElem h1';have hd:l.drop e=l[e]::l.drop (e+1):=wl h1';refine⟨_,rfl,_,rfl,_,_,_,rfl,rfl,by rw[ap];omega,bF rfl hg,_,rfl,_,_,rfl,rfl,_,rfl,?_⟩;rw[StrLaws.found_one,hz];by_cases hp:p l[e]=true
  ·rw[hp];refine aD ?_;refine⟨λσ'' H''=>∃m',m'<m/\∃e:Nat,m'+e=l.length/\σ''=[some (.str (stL l)),some (.int i),some (.str z),some (.int (e:Int))]/\H=H''/\e+((l.drop e).takeWhile p).length=i+((l.drop i).takeWhile p).length,λ_ _ h=>h,?_⟩;refine aZ ⟨_,rfl,_,_,rfl,rfl,m-1,by omega,e+1,by omega,rfl,rfl,?_⟩;rw[<- he,hd,wc,if_pos hp,vZ];omega
  ·have hp':p l[e]=false:=by simpa using hp
   rw[hp'];refine aC ?_;refine⟨_,rfl,?_⟩;rw[<- he,hd,wc,if_neg hp]at k;exact k
theorem lu:SgP (Str.ofString "0123456789") isD:=fo
theorem qH:SgP (Str.ofString "abcdefghijklmnopqrstuvwxyz") isA:=fm
def g9:Sp:=λvs H Q _=>∃(l:List Nat) (i:Nat),vs=[.str (stL l),.int i]/\Pla l/\i<l.length/\∀H',Same H H'->Q (.int ((i+mln (l.drop i):Nat):Int)) H'
theorem oX{f:Addr}{fd:FuncData}(F:Fun K "mark_end" "mark_end" dy f fd)(T:Txt K mg){sJ:Addr}{rX:FuncData}(u8:Cal P w K mg base 1 "run_end" ["text","at","signs"] gY sJ rX):FnOk P w K mg base CX0 2 f fd ["text","at"] g9:=by
 obtain⟨uH,qk,qT,ua⟩:=u8;obtain⟨tF,hFIGURES⟩:=T.FIGURES_;obtain⟨tL,hLETTERS⟩:=T.LETTERS_;refine F.ok sc_mark_end (λvs H Q E h=>?_) (λcdv A outer s H vs Q E hr h=>?_)
 ·obtain⟨l,i,rfl,_⟩:=h;rfl
 ·obtain⟨l,i,rfl,hl,hi,k⟩:=h;have big:=sizeLine_eq;have hl2:=hl.2;have hg:l[i]?=some l[i]:=List.getElem?_eq_getElem hi;have hd:l.drop i=l[i]::l.drop (i+1):=wl hi
  refine⟨_,(ag (eR PassesOwn.never rfl (jX (K:=K) rfl (bv (aa (cM (v:=.str "0123456789") rfl hFIGURES ⟨_,rfl⟩) (aa (cM (v:=.str "abcdefghijklmnopqrstuvwxyz") rfl hLETTERS ⟨_,rfl⟩) ac)))) (cL (i:=2) sc_mark_end.nd rfl (Or.inl rfl))
   (af (au (aj cr (ao bU (pv 0) (pv 1) (λ_ _=>rfl)) (pv 2) (by rfl))
     (af (al (aB uH (hr.mono) rfl qk qT ua .nil av (aa (pv 0) (aa (pv 1) (aa (pv 2) ac))))))
     ax)))
   (ag (au (aj aL (eV jP (pv 0) (cp (pv 1)) (cp (am bD (pv 1) ad))) ae (ak _))
     (af (al (am bD (pv 1) ad)))
     ax)
   (af (al (am bD (pv 1) ad))))),?_⟩
  refine⟨by show 2<=sizeLine;decide,λpt hpt=>?_⟩;have s1:=Same.upd_new (o:=.tup [V.str (Str.ofString "0123456789"),V.str (Str.ofString "abcdefghijklmnopqrstuvwxyz")]) hpt;have e1:upd H pt (.tup [V.str (Str.ofString "0123456789"),V.str (Str.ofString "abcdefghijklmnopqrstuvwxyz")]) pt=some (.tup [V.str (Str.ofString "0123456789"),V.str (Str.ofString "abcdefghijklmnopqrstuvwxyz")]):=ai;generalize upd H pt (.tup [V.str (Str.ofString "0123456789"),V.str (Str.ofString "abcdefghijklmnopqrstuvwxyz")])=H1 at s1 e1 ⊢
  refine⟨pt,rfl,⟨_,SqT.of e1⟩,lp (K:=K) (a:=pt) (xs:=[V.str (Str.ofString "0123456789"),V.str (Str.ofString "abcdefghijklmnopqrstuvwxyz")]) (λj σ' H'=>∃z2:Option V,σ'=[some (.str (stL l)),some (.int i),z2]/\H1=H'/\(1<=j->isD l[i]=false)/\(2<=j->isA l[i]=false)) ⟨none,rfl,rfl,(λh=>absurd h (by decide)),(λh=>absurd h (by decide))⟩ ?_ ?_ ?_⟩
  ·rintro j σ' H' _ ⟨z2,rfl,rfl,_⟩;exact SqT.of e1
  ·rintro j x σ' H' hj ⟨z2,rfl,rfl,c1,c2⟩;have hj2:j<2:=(List.getElem?_eq_some_iff.mp hj).1;have:j=0\/j=1:=by omega
   rcases this with rfl |rfl
   ·obtain rfl:V.str (Str.ofString "0123456789")=x:=Option.some.inj hj;refine aY ⟨_,rfl,_,rfl,_,_,_,rfl,rfl,by rw[ap];omega,bF rfl hg,_,rfl,_,_,rfl,rfl,_,rfl,?_⟩;rw[StrLaws.found_one,fo];by_cases hp:isD l[i]=true
    ·rw[hp];refine aD ⟨_,rfl,_,rfl,_,rfl,l,i,_,isD,rfl,hl,by omega,lu,?_⟩;have:=k H1 s1;rw[hd,bI,if_pos hp,<- hd]at this;exact this
    ·have hp':isD l[i]=false:=by simpa using hp
     rw[hp'];exact aC ⟨_,rfl,rfl,λ_=>rfl,λh=>absurd h (by decide)⟩
   ·obtain rfl:V.str (Str.ofString "abcdefghijklmnopqrstuvwxyz")=x:=Option.some.inj hj;refine aY ⟨_,rfl,_,rfl,_,_,_,rfl,rfl,by rw[ap];omega,bF rfl hg,_,rfl,_,_,rfl,rfl,_,rfl,?_⟩;rw[StrLaws.found_one,fm];by_cases hp:isA l[i]=true
    ·rw[hp];refine aD ⟨_,rfl,_,rfl,_,rfl,l,i,_,isA,rfl,hl,by omega,qH,?_⟩;have:=k H1 s1;rw[hd,bI,if_neg (by rw[c1 (by decide)];decide),if_pos hp,<- hd]at this;exact this
    ·have hp':isA l[i]=false:=by simpa using hp
     rw[hp'];exact aC ⟨_,rfl,rfl,λ_=>c1 (by decide),λ_=>rfl⟩
  ·rintro σ' H' ⟨z2,rfl,rfl,c1,c2⟩;have d1:=c1 (by decide);have d2:=c2 (by decide);dsimp only
   have hd2:mln (l.drop i)=if l[i]=46/\(l.drop (i+1)).head?=some 46 then 2 else 1:=by rw[hd,bI,if_neg (by rw[d1];decide),if_neg (by rw[d2];decide)]
   have hsl:=ni hi;refine aQ ⟨_,rfl,_,rfl,_,rfl,_,rfl,_,_,rfl,rfl,_,rfl,_,rfl,by rw[ap];omega,rfl,_,rfl,aq (λz=>?_) (λz=>?_)⟩
   ·have z2:=hsl.mp (V.str.inj z);rw[if_pos z2]at hd2;refine⟨_,rfl,_,_,rfl,rfl,?_⟩;have:=k H1 s1;rw[hd2]at this;exact this
   ·have z2:¬_:=λy=>z (congrArg V.str (hsl.mpr y))
    rw[if_neg z2]at hd2;refine⟨_,rfl,_,_,rfl,rfl,?_⟩;have:=k H1 s1;rw[hd2]at this;exact this
def MkH(H:Hp)(qs:List Addr)(ms:List Mk):Prop:=qs.length=ms.length/\∀(i:Nat) (q:Addr) (m:Mk),qs[i]?=some q->ms[i]?=some m->H q=some (.tup [.str (stL m.1),.int m.2])
theorem MkH.nil{H:Hp}:MkH H [] []:=⟨rfl,λi q p h _=>by simp at h⟩
theorem MkH.same{H H':Hp}{qs ms}(h:MkH H qs ms)(s:Same H H'):MkH H' qs ms:=⟨h.1,λi q p e1 e2=>s _ _ (h.2 i q p e1 e2)⟩
theorem MkH.upd{H:Hp}{qs ms}{a:Addr}{xs:List V}{o:HO}(h:MkH H qs ms)(ha:H a=some (.lst xs)):MkH (L2.upd H a o) qs ms:=⟨h.1,λi q p e1 e2=>by
 have e:=h.2 i q p e1 e2;have nq:q≠a:=λz=>by rw[z,ha]at e;cases e
 rw[L2.upd_ne nq];exact e⟩
theorem MkH.snoc{H:Hp}{qs:List Addr}{ls:List Mk}{q:Addr}{m:List Nat}{n:Nat}(h:MkH H qs ls)(h1:H q=some (.tup [.str (stL m),.int n])):MkH H (qs++[q]) (ls++[(m,n)]):=by
 refine⟨by rw[vM,vM,h.1];rfl,λi q' p e1 e2=>?_⟩;by_cases hi:i<ls.length
 ·rw[List.getElem?_append_left (by rw[h.1];exact hi)]at e1;rw[List.getElem?_append_left hi]at e2;exact h.2 i q' p e1 e2
 ·rw[List.getElem?_append_right (by rw[h.1];omega),h.1]at e1;rw[List.getElem?_append_right (by omega)]at e2
  have hz:i-ls.length=0:=by
   cases hd:i-ls.length with
   |zero=>rfl
   |succ d=>rw[hd]at e2;simp at e2
  rw[hz]at e1 e2;obtain rfl:=Option.some.inj e1;obtain rfl:=Option.some.inj e2;exact h1
def g8:Sp:=λvs H Q _=>∃l:List Nat,vs=[.str (stL l)]/\Pla l/\∀(p:Addr) (H':Hp) (qs:List Addr),Same H H'->H p=none->H' p=some (.lst (qs.map V.ref))->MkH H' qs (mks 0 l)->Q (.ref p) H'
theorem oW{f:Addr}{fd:FuncData}(F:Fun K "marks_of" "marks_of" dw f fd)(T:Txt K mg){sP:Addr}{se:FuncData}(vg:Cal P w K mg base 2 "mark_end" ["text","at"] g9 sP se):FnOk P w K mg base CX0 3 f fd ["text"] g8:=by
 obtain⟨uL,qp,qX,ue⟩:=vg;refine F.ok sc_marks_of (λvs H Q E h=>?_) (λcdv A outer s H vs Q E hr h=>?_)
 ·obtain⟨l,rfl,_⟩:=h;rfl
 ·obtain⟨l,rfl,hl,k⟩:=h;have big:=sizeLine_eq;have hl2:=hl.2
  refine⟨_,(ag (ar (i:=1) sc_marks_of.nd rfl (Or.inl rfl) (aN ac))
   (ag (ar (i:=2) sc_marks_of.nd rfl (Or.inl rfl) ad)
   (ag (eP PassesOwn.never (aj bR (pv 2) (aF bZ (by rfl) T.len_ PySem.boot_len (aa (pv 0) ac)) (ak _))
     (ag (ar (i:=3) sc_marks_of.nd rfl (Or.inl rfl) (aB uL (hr.mono) rfl qp qX ue .nil av (aa (pv 0) (aa (pv 2) ac))))
       (ag (au (aj d7 (ao bU (pv 0) (pv 2) (λ_ _=>rfl)) ae (ak _))
         (af (cn (iA PySem.F.plainAttrs_list PySem.F.slot_list_append PySem.F.type_list_append iL (pv 1) (aa (bv (aa (eV jP (pv 0) (cp (pv 2)) (cp (pv 3))) (aa (pv 2) ac))) ac))))
         ax)
       (af (ar (i:=2) sc_marks_of.nd rfl (Or.inl rfl) (pv 3))))))
   (af (al (pv 1)))))),?_⟩
  refine aK ⟨vT _,λpf hpf=>?_⟩;have s0:Same H (upd H pf (.lst [])):=Same.upd_new hpf;have q0:upd H pf (.lst []) pf=some (.lst (([]:List Addr).map V.ref)):=ai;generalize upd H pf (.lst [])=H0 at s0 q0 ⊢
  refine aK ?_;refine⟨λm σ' H'=>∃(e:Nat) (qs:List Addr) (ms:List Mk) (z3:Option V),m+e=l.length/\σ'=[some (.str (stL l)),some (.ref pf),some (.int (e:Int)),z3]/\Same H H'/\H' pf=some (.lst (qs.map V.ref))/\MkH H' qs ms/\ms++mks e (l.drop e)=mks 0 l,⟨l.length,0,[],[],none,rfl,rfl,s0,q0,MkH.nil,rfl⟩,?_⟩;rintro m σ' H1 ⟨e,qs,ms,z3,hm,rfl,s1,e1,hM,hms⟩;refine⟨_,rfl,_,rfl,_,rfl,by rw[ap];omega,_,_,rfl,rfl,_,rfl,aq (λh1=>?_) (λh1=>?_)⟩
  rotate_left
  ·rw[ap]at h1;have h1':l.length<=e:=by have:¬(e:Int)<(l.length:Int):=h1;omega
   rw[wm h1',ef,v7]at hms;exact⟨_,rfl,k pf H1 qs s1 hpf e1 (hms ▸ hM)⟩
  rw[ap]at h1;have h1':e<l.length:=by have:(e:Int)<(l.length:Int):=h1;omega
  have hg:l[e]?=some l[e]:=List.getElem?_eq_getElem h1';have hd:l.drop e=l[e]::l.drop (e+1):=wl h1';have hmp:1<=mln (l.drop e):=by rw[hd];exact ee _ _
  have hml:mln (l.drop e)<=l.length-e:=by have:=iM (l.drop e);rw[vU]at this;exact this
  have hmsl:ms.length<=l.length:=by have h2:=congrArg List.length hms;rw[vM]at h2;have h3:(mks 0 l).length<=l.length:=pX _ _;omega
  refine⟨λσ'' H''=>∃m',m'<m/\∃(e:Nat) (qs:List Addr) (ms:List Mk) (z3:Option V),m'+e=l.length/\σ''=[some (.str (stL l)),some (.ref pf),some (.int (e:Int)),z3]/\Same H H''/\H'' pf=some (.lst (qs.map V.ref))/\MkH H'' qs ms/\ms++mks e (l.drop e)=mks 0 l,λ_ _ h=>h,?_⟩;refine aK ⟨_,rfl,_,rfl,l,e,rfl,hl,h1',λH2 sm2=>?_⟩;have e2:=sm2 _ _ e1;have hM2:=hM.same sm2;have s2:=s1.trans sm2;have hmc:=cQ e l[e] (l.drop (e+1));rw[<- hd,List.drop_drop]at hmc;rw[hmc]at hms;refine bf (λσ' H'=>∃(qs:List Addr) (ms:List Mk),σ'=[some (.str (stL l)),some (.ref pf),some (.int (e:Int)),some (.int ((e+mln (l.drop e):Nat):Int))]/\Same H H'/\H' pf=some (.lst (qs.map V.ref))/\MkH H' qs ms/\ms++mks (e+mln (l.drop e)) (l.drop (e+mln (l.drop e)))=mks 0 l) ?_ ?_
  case refine_2 =>
   intro rest;refine⟨_,rfl,_,rfl,_,_,_,rfl,rfl,by rw[ap];omega,bF rfl hg,rfl,_,rfl,eG (λh2=>?_) (λh2=>?_)⟩
   ·have h2':l[e]≠32:=λz=>h2 (by rw[z];decide +kernel)
    rw[if_neg h2']at hms;refine fU ⟨_,rfl,.inl ⟨rfl,_,SqL.of e2⟩,_,rfl,_,rfl,_,rfl,_,rfl,_,rfl,_,rfl,by rw[ap];omega,_,rfl,by show 2<=sizeLine;decide,λpt hpt=>?_⟩;have hsl:=ie l (a:=e) (b:=e+mln (l.drop e)) (by omega) (by omega);rw[Nat.add_sub_cancel_left]at hsl;have u3:=Same.upd_new (o:=.tup [V.str (Txt.slice (stL l) (some (e:Int)) (some ((e+mln (l.drop e):Nat):Int))),V.int (e:Int)]) hpt;have ept:upd H2 pt (.tup [V.str (Txt.slice (stL l) (some (e:Int)) (some ((e+mln (l.drop e):Nat):Int))),V.int (e:Int)]) pt=some (.tup [V.str (stL ((l.drop e).take (mln (l.drop e)))),V.int (e:Int)]):=by rw[ai,hsl]
    generalize upd H2 pt (.tup [V.str (Txt.slice (stL l) (some (e:Int)) (some ((e+mln (l.drop e):Nat):Int))),V.int (e:Int)])=H3 at u3 ept ⊢
    have e3:=u3 _ _ e2;refine⟨pf,_,_,rfl,rfl,e3,by rw[vK,hM.1];omega,rest _ _ ⟨qs++[pt],ms++[((l.drop e).take (mln (l.drop e)),e)],rfl,iK (s2.trans u3) hpf,by rw[ai,qf],((hM2.same u3).snoc ept).upd e3,?_⟩⟩;rw[wk];exact hms
   ·have h2':l[e]=32:=by
     have z:V.str ⟨#[l[e]]⟩=V.str (Str.ofString " "):=h2;have z2:([l[e]]:List Nat)=(Str.ofString " ").cps.toList:=congrArg (λs:Str=>s.cps.toList) (V.str.inj z);have z3:(Str.ofString " ").cps.toList=[32]:=by decide +kernel
     rw[z3]at z2;exact List.head_eq_of_cons_eq z2
    rw[if_pos h2',List.nil_append]at hms;exact rest _ _ ⟨qs,ms,rfl,s2,e2,hM2,hms⟩
  rintro σ' H3 ⟨qs,ms,rfl,s3,e3,hM3,hms3⟩;refine aZ ⟨_,rfl,m-mln (l.drop e),by omega,e+mln (l.drop e),qs,ms,_,by omega,rfl,s3,e3,hM3,hms3⟩
theorem fg:(Str.ofString "x":Str)=stL [120]:=by decide +kernel
theorem gj:(Str.ofString "^":Str)=stL [94]:=by decide +kernel
theorem fh:(Str.ofString "*":Str)=stL [42]:=by decide +kernel
theorem eh:(Str.ofString "":Str)=stL []:=by decide +kernel
theorem ek:(Str.ofString "0":Str)=stL [48]:=by decide +kernel
theorem cS:(Str.ofString "-":Str)=stL [45]:=by decide +kernel
theorem fi:(Str.ofString "+":Str)=stL [43]:=by decide +kernel
structure QC(K:PySem.W.Frag)(mg:Str->Option Value)(C:Addr):Prop where
 cl:Cls K C
 n1:NoAttr K C "marks"
 n2:NoAttr K C "end"
 n3:NoAttr K C "done"
 n4:NoAttr K C "depth"
 mg:mg "Reading"=some (.ref C)
theorem kf:¬(("marks":Str)="end"):=by decide +kernel
theorem iI:¬(("marks":Str)="done"):=by decide +kernel
theorem ke:¬(("marks":Str)="depth"):=by decide +kernel
theorem iJ:¬(("end":Str)="done"):=by decide +kernel
theorem kg:¬(("end":Str)="depth"):=by decide +kernel
theorem kh:¬(("done":Str)="depth"):=by decide +kernel
theorem eM{f:Str}{v:V}{fs:List (Str×V)}{n:Nat}(h:fs.length<n):(aM f v fs).length<n+1:=by have:=iU f v fs;omega
noncomputable def fdl(pm:Addr)(e d:Int):List (Str×V):=aM "depth" (.int 0) (aM "done" (.int d) (aM "end" (.int e) (aM "marks" (.ref pm) [])))
theorem ft(pm:Addr)(e d:Int):(fdl pm e d).lookup ("marks":Str)=some (.ref pm):=by unfold fdl;rw[bc,if_neg ke,bc,if_neg iI,bc,if_neg kf,bc,if_pos rfl]
theorem cW(pm:Addr)(e d:Int):(fdl pm e d).lookup ("done":Str)=some (.int d):=by unfold fdl;rw[bc,if_neg kh,bc,if_pos rfl]
theorem rW(pm:Addr)(e d:Int):(fdl pm e d).lookup ("end":Str)=some (.int e):=by unfold fdl;rw[bc,if_neg kg,bc,if_neg iJ,bc,if_pos rfl]
theorem aU(pm:Addr)(e d:Int){m:Str}(h1:¬m="marks")(h2:¬m="end")(h3:¬m="done")(h4:¬m="depth"):(fdl pm e d).lookup m=none:=by unfold fdl;rw[bc,if_neg h4,bc,if_neg h3,bc,if_neg h2,bc,if_neg h1];rfl
theorem i3(pm:Addr)(e d:Int):fdl pm e d=([(Str.ofString "marks",V.ref pm),(Str.ofString "end",V.int e),(Str.ofString "done",V.int d),(Str.ofString "depth",V.int 0)]:List (Str×V)):=by unfold fdl;show aM "depth" _ (aM "done" _ (if("marks":Str)="end" then _ else _))=_;rw[if_neg kf];show aM "depth" _ (if("marks":Str)="done" then _ else _::(if("end":Str)="done" then _ else _))=_;rw[if_neg iI,if_neg iJ];show(if("marks":Str)="depth" then _ else _::(if("end":Str)="depth" then _ else _::(if("done":Str)="depth" then _ else _)))=_;rw[if_neg ke,if_neg kg,if_neg kh];rfl
theorem lv(pm:Addr)(e d d':Int):aM "done" (.int d') (fdl pm e d)=fdl pm e d':=by rw[i3,i3];show(if("marks":Str)="done" then _ else _::(if("end":Str)="done" then _ else _::(if("done":Str)="done" then _ else _)))=_;rw[if_neg iI,if_neg iJ,if_pos rfl]
theorem lw(pm:Addr)(e d:Int):(fdl pm e d).length<1000:=by rw[i3];show 4<1000;decide
def RdA(C:Addr)(H:Hp)(p:Addr)(e:Nat)(us:List Mk):Prop:=∃(dx pm:Addr) (qs:List Addr) (ts:List Mk) (d:Nat),H p=some (.ins C dx (fdl pm e d))/\H pm=some (.lst (qs.map V.ref))/\MkH H qs ts/\ts.drop d=us/\d<=ts.length/\∀u∈ts,u.1≠[]/\u.1.length<=300/\∀c∈u.1,c<128
theorem RdA.same{C:Addr}{H H':Hp}{p:Addr}{e:Nat}{us:List Mk}(h:RdA C H p e us)(s:Same H H'):RdA C H' p e us:=by obtain⟨dx,pm,qs,ts,d,h1,h2,h3,h4⟩:=h;exact⟨dx,pm,qs,ts,d,s _ _ h1,s _ _ h2,h3.same s,h4⟩
theorem RdA.is{C:Addr}{H:Hp}{p:Addr}{e:Nat}{us:List Mk}(h:RdA C H p e us):∀u∈us,u.1≠[]/\u.1.length<=300/\∀c∈u.1,c<128:=by obtain⟨dx,pm,qs,ts,d,h1,h2,h3,h4,h5,h6⟩:=h;intro u hu;rw[<- h4]at hu;exact h6 u (List.mem_of_mem_drop hu)
theorem MkH.upd_ins{H:Hp}{qs ms}{a C dx:Addr}{fs:List (Str×V)}{o:HO}(h:MkH H qs ms)(ha:H a=some (.ins C dx fs)):MkH (L2.upd H a o) qs ms:=⟨h.1,λi q p e1 e2=>by
 have e:=h.2 i q p e1 e2;have nq:q≠a:=λz=>by rw[z,ha]at e;cases e
 rw[L2.upd_ne nq];exact e⟩
theorem jd{ts us:List Mk}{u:Mk}{d:Nat}(h:ts.drop d=u::us):d<ts.length/\ts[d]?=some u/\ts.drop (d+1)=us:=by
 have hl:d<ts.length:=by have:=congrArg List.length h;rw[vU,vZ]at this;omega
 rw[wl hl]at h;refine⟨hl,?_,(List.cons.inj h).2⟩;rw[List.getElem?_eq_getElem hl,(List.cons.inj h).1]
theorem je{ts:List Mk}{d:Nat}(h:ts.drop d=[])(hd:d<=ts.length):d=ts.length:=by have:=List.drop_eq_nil_iff.mp h;omega
theorem RdA.put{C:Addr}{H:Hp}{p pm dx:Addr}{e:Nat}{qs:List Addr}{ts us:List Mk}{u:Mk}{d:Nat}(h1:H p=some (.ins C dx (fdl pm e d)))(h2:H pm=some (.lst (qs.map V.ref)))(h3:MkH H qs ts)(h4:ts.drop d=u::us)(h6:∀u∈ts,u.1≠[]/\u.1.length<=300/\∀c∈u.1,c<128):SameB p H (upd H p (.ins C dx (fdl pm e ((d+1:Nat):Int))))/\RdA C (upd H p (.ins C dx (fdl pm e ((d+1:Nat):Int)))) p e us:=by
 have np:pm≠p:=λz=>by rw[z,h1]at h2;cases h2
 obtain⟨g1,g2,g3⟩:=jd h4;exact⟨λb o hb eo=>by rw[upd_ne hb];exact eo,dx,pm,qs,ts,d+1,ai,by rw[upd_ne np];exact h2,h3.upd_ins h1,g3,by omega,h6⟩
theorem MkH.at{H:Hp}{qs:List Addr}{ts:List Mk}{u:Mk}{d:Nat}(h:MkH H qs ts)(hd:ts[d]?=some u):∃(q:Addr),atI (qs.map V.ref) (d:Int)=some (.ref q)/\H q=some (.tup [.str (stL u.1),.int u.2]):=by
 have hq:d<qs.length:=by rw[h.1];exact(List.getElem?_eq_some_iff.mp hd).1
 exact⟨qs[d],cb (by rw[List.getElem?_map,List.getElem?_eq_getElem hq];rfl),h.2 d qs[d] u (List.getElem?_eq_getElem hq) hd⟩
def cH(C:Addr):Sp:=λvs H Q _=>∃(p:Addr) (e:Nat) (us:List Mk),vs=[.ref p]/\RdA C H p e us/\Q (.str (stL (mhd us))) H
theorem pB{C f:Addr}{fd:FuncData}(F:Fun K "seen" "Reading.seen" dS f fd)(T:Txt K mg)(R:QC K mg C):FnOk P w K mg base CX0 1 f fd ["self"] (cH C):=by
 refine F.ok nF (λvs H Q E h=>?_) (λcdv A outer s H vs Q E hr h=>?_)
 ·obtain⟨p,e,us,rfl,_⟩:=h;rfl
 ·obtain⟨p,e,us,rfl,⟨dx,pm,qs,ts,d,h1,h2,h3,h4,h5,h6⟩,k⟩:=h;have hql:(qs.map V.ref).length=ts.length:=by rw[vK,h3.1]
  refine⟨_,(ag (au (aj cu (bo (K:=K) rfl (pv 0) rfl) (aF (bj (K:=K) rfl) (by rfl) T.len_ PySem.boot_len (aa (bo (K:=K) rfl (pv 0) rfl) ac)) (ak _))
   (af (al ae))
   ax)
   (af (al (ao (kT (K:=K) rfl) (ao (ay (K:=K) rfl) (bo (K:=K) rfl (pv 0) rfl) (bo (K:=K) rfl (pv 0) rfl) (λ_ _=>rfl)) ad (λ_ _=>rfl))))),?_⟩
  refine aQ ⟨_,rfl,p,C,dx,_,_,rfl,h1,R.cl,R.n3,cW _ _ _,_,rfl,p,C,dx,_,_,rfl,h1,R.cl,R.n1,ft _ _ _,pm,_,rfl,.inl (SqL.of h2),_,_,rfl,rfl,_,rfl,aq (λh4'=>?_) (λh4'=>?_)⟩
  ·rw[hql]at h4';have h5':d=ts.length:=by have:(d:Int)=(ts.length:Int):=h4';omega
   have:us=[]:=by rw[<- h4];exact wm (by omega)
   subst this;have k':Q (.str (stL [])) H:=k;rw[<- eh]at k';exact k'
  ·rw[hql]at h4';have h5':¬(d:Int)=(ts.length:Int):=h4';cases us with
   |nil=>exact absurd (je h4 h5) (by omega)
   |cons u us =>obtain⟨g1,g2,g3⟩:=jd h4;obtain⟨q,e1,e2⟩:=h3.at g2;exact⟨_,rfl,p,C,dx,_,_,rfl,h1,R.cl,R.n1,ft _ _ _,_,rfl,p,C,dx,_,_,rfl,h1,R.cl,R.n3,cW _ _ _,pm,_,_,_,rfl,rfl,SqL.of h2,e1,q,_,_,_,rfl,rfl,SqT.of e2,rfl,k⟩
def eE(C:Addr):Sp:=λvs H Q _=>∃(p:Addr) (e:Nat) (us:List Mk),vs=[.ref p]/\RdA C H p e us/\Q (.int (mbg e us:Nat)) H
theorem pF{C f:Addr}{fd:FuncData}(F:Fun K "begin" "Reading.begin" dY f fd)(T:Txt K mg)(R:QC K mg C):FnOk P w K mg base CX0 1 f fd ["self"] (eE C):=by
 refine F.ok nJ (λvs H Q E h=>?_) (λcdv A outer s H vs Q E hr h=>?_)
 ·obtain⟨p,e,us,rfl,_⟩:=h;rfl
 ·obtain⟨p,e,us,rfl,⟨dx,pm,qs,ts,d,h1,h2,h3,h4,h5,h6⟩,k⟩:=h;have hql:(qs.map V.ref).length=ts.length:=by rw[vK,h3.1]
  refine⟨_,(ag (au (aj cu (bo (K:=K) rfl (pv 0) rfl) (aF (bj (K:=K) rfl) (by rfl) T.len_ PySem.boot_len (aa (bo (K:=K) rfl (pv 0) rfl) ac)) (ak _))
   (af (al (bo (K:=K) rfl (pv 0) rfl)))
   ax)
   (af (al (ao (kT (K:=K) rfl) (ao (ay (K:=K) rfl) (bo (K:=K) rfl (pv 0) rfl) (bo (K:=K) rfl (pv 0) rfl) (λ_ _=>rfl)) ad (λ_ _=>rfl))))),?_⟩
  refine aQ ⟨_,rfl,p,C,dx,_,_,rfl,h1,R.cl,R.n3,cW _ _ _,_,rfl,p,C,dx,_,_,rfl,h1,R.cl,R.n1,ft _ _ _,pm,_,rfl,.inl (SqL.of h2),_,_,rfl,rfl,_,rfl,aq (λh4'=>?_) (λh4'=>?_)⟩
  ·rw[hql]at h4';have h5':d=ts.length:=by have:(d:Int)=(ts.length:Int):=h4';omega
   have:us=[]:=by rw[<- h4];exact wm (by omega)
   subst this;exact⟨_,rfl,p,C,dx,_,_,rfl,h1,R.cl,R.n2,rW _ _ _,k⟩
  ·rw[hql]at h4';have h5':¬(d:Int)=(ts.length:Int):=h4';cases us with
   |nil=>exact absurd (je h4 h5) (by omega)
   |cons u us =>obtain⟨g1,g2,g3⟩:=jd h4;obtain⟨q,e1,e2⟩:=h3.at g2;exact⟨_,rfl,p,C,dx,_,_,rfl,h1,R.cl,R.n1,ft _ _ _,_,rfl,p,C,dx,_,_,rfl,h1,R.cl,R.n3,cW _ _ _,pm,_,_,_,rfl,rfl,SqL.of h2,e1,q,_,_,_,rfl,rfl,SqT.of e2,rfl,k⟩
theorem aS:¬(("seen":Str)="marks")/\¬(("seen":Str)="end")/\¬(("seen":Str)="done")/\¬(("seen":Str)="depth"):=by decide +kernel
theorem bB:¬(("begin":Str)="marks")/\¬(("begin":Str)="end")/\¬(("begin":Str)="done")/\¬(("begin":Str)="depth"):=by decide +kernel
theorem bA:¬(("step":Str)="marks")/\¬(("step":Str)="end")/\¬(("step":Str)="done")/\¬(("step":Str)="depth"):=by decide +kernel
theorem aW:¬(("passes":Str)="marks")/\¬(("passes":Str)="end")/\¬(("passes":Str)="done")/\¬(("passes":Str)="depth"):=by decide +kernel
theorem gb:¬(("demand":Str)="marks")/\¬(("demand":Str)="end")/\¬(("demand":Str)="done")/\¬(("demand":Str)="depth"):=by decide +kernel
theorem fZ:¬(("finish":Str)="marks")/\¬(("finish":Str)="end")/\¬(("finish":Str)="done")/\¬(("finish":Str)="depth"):=by decide +kernel
def eD(C:Addr):Sp:=λvs H Q _=>∃(p:Addr) (e:Nat) (u:Mk) (us:List Mk),vs=[.ref p]/\RdA C H p e (u::us)/\∀H',SameB p H H'->RdA C H' p e us->Q (.str (stL u.1)) H'
theorem pA{C f:Addr}{fd:FuncData}(F:Fun K "step" "Reading.step" dR f fd)(T:Txt K mg)(R:QC K mg C){bY:Addr}{bX:FuncData}(ck:MCal P w K mg base 1 C "seen" ["self"] (cH C) bY bX):FnOk P w K mg base CX0 2 f fd ["self"] (eD C):=by
 obtain⟨cg,bS,b0⟩:=ck;refine F.ok sc_Reading_step (λvs H Q E h=>?_) (λcdv A outer s H vs Q E hr h=>?_)
 ·obtain⟨p,e,u,us,rfl,_⟩:=h;rfl
 ·obtain⟨p,e,u,us,rfl,hA,k⟩:=h;obtain⟨dx,pm,qs,ts,d,h1,h2,h3,h4,h5,h6⟩:=id hA
  refine⟨_,(ag (ar (i:=1) sc_Reading_step.nd rfl (Or.inl rfl) (bx (pv 0) R.cl bS cg (hr.mono) b0 .nil av))
   (ag (d6 (pv 0) (am bD (bo (K:=K) rfl (pv 0) rfl) ad) rfl)
   (af (al (pv 1))))),?_⟩
  refine aK ⟨_,rfl,p,dx,_,rfl,h1,aU _ _ _ aS.1 aS.2.1 aS.2.2.1 aS.2.2.2,p,e,_,rfl,hA,?_⟩;refine⟨_,rfl,p,C,dx,_,_,rfl,h1,R.cl,R.n3,cW _ _ _,_,_,rfl,rfl,_,rfl,p,C,dx,_,rfl,h1,R.cl,R.n3,lw _ _ _,?_⟩;obtain⟨sb,ra⟩:=RdA.put h1 h2 h3 h4 h6;have e2:aM "done" (V.int ((d:Int)+1)) (fdl pm e d)=fdl pm e ((d+1:Nat):Int):=lv _ _ _ _;refine⟨_,rfl,?_⟩;have:=k _ sb ra;rw[<- e2]at this;exact this
def dh(C:Addr):Sp:=λvs H Q _=>∃(p:Addr) (e:Nat) (us:List Mk) (m:List Nat),vs=[.ref p,.str (stL m)]/\RdA C H p e us/\m≠[]/\(∀u r,us=u::r->u.1=m->∀H',SameB p H H'->RdA C H' p e r->Q (.bl true) H')/\(mhd us≠m->Q (.bl false) H)
theorem pC{C f:Addr}{fd:FuncData}(F:Fun K "passes" "Reading.passes" dU f fd)(T:Txt K mg)(R:QC K mg C){bY:Addr}{bX:FuncData}(ck:MCal P w K mg base 1 C "seen" ["self"] (cH C) bY bX):FnOk P w K mg base CX0 2 f fd ["self","mark"] (dh C):=by
 obtain⟨cg,bS,b0⟩:=ck;refine F.ok nG (λvs H Q E h=>?_) (λcdv A outer s H vs Q E hr h=>?_)
 ·obtain⟨p,e,us,m,rfl,_⟩:=h;rfl
 ·obtain⟨p,e,us,m,rfl,hA,hm,k1,k2⟩:=h;obtain⟨dx,pm,qs,ts,d,h1,h2,h3,h4,h5,h6⟩:=id hA
  refine⟨_,(ag (au (aj d7 (bx (pv 0) R.cl bS cg (hr.mono) b0 .nil av) (pv 1) (ak _))
   (af (al bH))
   ax)
   (ag (d6 (pv 0) (am bD (bo (K:=K) rfl (pv 0) rfl) ad) rfl)
   (af (al bH)))),?_⟩
  refine aQ ⟨_,rfl,p,dx,_,rfl,h1,aU _ _ _ aS.1 aS.2.1 aS.2.2.1 aS.2.2.2,p,e,us,rfl,hA,_,rfl,rfl,_,rfl,eG (λh4=>?_) (λh4'=>?_)⟩
  ·exact k2 λz=>h4 (by rw[z])
  ·have h5':mhd us=m:=stL_inj.mp (V.str.inj h4');refine⟨_,rfl,p,C,dx,_,_,rfl,h1,R.cl,R.n3,cW _ _ _,_,_,rfl,rfl,_,rfl,p,C,dx,_,rfl,h1,R.cl,R.n3,lw _ _ _,?_⟩;cases us with
   |nil=>exact absurd h5'.symm hm
   |cons u us =>obtain⟨sb,ra⟩:=RdA.put h1 h2 h3 h4 h6;have e2:aM "done" (V.int ((d:Int)+1)) (fdl pm e d)=fdl pm e ((d+1:Nat):Int):=lv _ _ _ _;have:=k1 u us rfl h5' _ sb ra;rw[<- e2]at this;exact this
def XAt(CN p:Addr)(E:XK)(H:Hp)(n:Nat):Prop:=∀(H':Hp) (dx:Addr),SameB p H H'->H' dx=some (.xd [(("at":Str),V.int (n:Int))])->E (.ref CN) (some dx) H'
theorem pH{CNoText f:Addr}{fd:FuncData}(F:Fun K "__init__" "NoText.__init__" d0 f fd)(T:Txt K mg)(hX:XCls K CNoText)(hN:NoAttr K CNoText "at"):FnOk P w K mg base CX0 1 f fd ["self","at"] (fO CNoText "at"):=by
 refine F.ok nL (λvs H Q E h=>?_) (λcdv A outer s H vs Q E hr h=>?_)
 ·obtain⟨e,v,rfl,_⟩:=h;rfl
 ·obtain⟨e,v,rfl,he,k⟩:=h;refine⟨_,(af (oi (pv 0) (pv 1) rfl)),?_⟩;exact⟨_,rfl,_,rfl,e,CNoText,rfl,he,hX,hN,λdx h1 h2=>k dx h1 h2⟩
theorem SameB.new{p:Addr}{H:Hp}{dx:Addr}{o:HO}(h:H dx=none):SameB p H (upd H dx o):=λb o' _ e=>by rw[upd_ne (λz=>by rw[z,h]at e;cases e)];exact e
def ia(C CN:Addr):Sp:=λvs H Q E=>∃(p:Addr) (e:Nat) (us:List Mk) (m:List Nat),vs=[.ref p,.str (stL m)]/\RdA C H p e us/\m≠[]/\(∀u r,us=u::r->u.1=m->∀H',SameB p H H'->RdA C H' p e r->Q .non H')/\(mhd us≠m->XAt CN p E H (mbg e us))
theorem pE{C CNoText f:Addr}{fd:FuncData}(F:Fun K "demand" "Reading.demand" dX f fd)(T:Txt K mg)(R:QC K mg C){cZ:Addr}{cX:FuncData}(dg:MCal P w K mg base 2 C "passes" ["self","mark"] (dh C) cZ cX){fA:Addr}{fv:FuncData}(fL:MCal P w K mg base 1 C "begin" ["self"] (eE C) fA fv){c0:Addr}{cY:FuncData}(C_NoText:XCal P w K mg base 1 CNoText "NoText" "at" ["self","at"] c0 cY):FnOk P w K mg base (CXV P w) 3 f fd ["self","mark"] (ia C CNoText):=by
 obtain⟨df,cP,db⟩:=dg;obtain⟨fJ,e8,fD⟩:=fL;refine F.okV nI (λvs H Q E h=>?_) (λcdv A outer s H vs Q E hr h=>?_)
 ·obtain⟨p,e,us,m,rfl,_⟩:=h;rfl
 ·obtain⟨p,e,us,m,rfl,hA,hm,k1,k2⟩:=h;obtain⟨dx,pm,qs,ts,d,h1,h2,h3,h4,h5,h6⟩:=id hA
  refine⟨_,(af (au (eO (bQ (eW (pv 0) R.cl cP df (hr.mono) db .nil av (aa (pv 1) ac))))
   (af (iw (C:=CNoText) rfl C_NoText.ow PySem.F.excBase_ValueError C_NoText.ok (hr.mono) C_NoText.bd C_NoText.kp (aa (bx (pv 0) R.cl e8 fJ (hr.mono) fD .nil av) ac)))
   ax)),?_⟩
  refine aY (fS ⟨_,rfl,p,dx,_,rfl,h1,aU _ _ _ aW.1 aW.2.1 aW.2.2.1 aW.2.2.2,_,rfl,p,e,us,m,rfl,hA,hm,λu r eu em H' sb ra=>⟨_,rfl,aC (k1 u r eu em H' sb ra)⟩,λz=>⟨_,rfl,aD ?_⟩⟩);exact⟨_,rfl,p,dx,_,rfl,h1,aU _ _ _ bB.1 bB.2.1 bB.2.2.1 bB.2.2.2,p,e,us,rfl,hA,_,rfl,λd hd=>k2 z _ d (SameB.new hd) ai⟩
def h7(C CN:Addr):Sp:=λvs H Q E=>∃(p:Addr) (e:Nat) (us:List Mk),vs=[.ref p]/\RdA C H p e us/\(us=[]->Q .non H)/\(us≠[]->XAt CN p E H (mbg e us))
theorem pD{C CNoText f:Addr}{fd:FuncData}(F:Fun K "finish" "Reading.finish" dW f fd)(T:Txt K mg)(R:QC K mg C){fA:Addr}{fv:FuncData}(fL:MCal P w K mg base 1 C "begin" ["self"] (eE C) fA fv){c0:Addr}{cY:FuncData}(C_NoText:XCal P w K mg base 1 CNoText "NoText" "at" ["self","at"] c0 cY):FnOk P w K mg base (CXV P w) 3 f fd ["self"] (h7 C CNoText):=by
 obtain⟨fJ,e8,fD⟩:=fL;refine F.okV nH (λvs H Q E h=>?_) (λcdv A outer s H vs Q E hr h=>?_)
 ·obtain⟨p,e,us,rfl,_⟩:=h;rfl
 ·obtain⟨p,e,us,rfl,hA,k1,k2⟩:=h;obtain⟨dx,pm,qs,ts,d,h1,h2,h3,h4,h5,h6⟩:=id hA;have hql:(qs.map V.ref).length=ts.length:=by rw[vK,h3.1]
  refine⟨_,(af (au (aj bR (bo (K:=K) rfl (pv 0) rfl) (aF (bj (K:=K) rfl) (by rfl) T.len_ PySem.boot_len (aa (bo (K:=K) rfl (pv 0) rfl) ac)) (ak _))
   (af (iw (C:=CNoText) rfl C_NoText.ow PySem.F.excBase_ValueError C_NoText.ok (hr.mono) C_NoText.bd C_NoText.kp (aa (bx (pv 0) R.cl e8 fJ (hr.mono) fD .nil av) ac)))
   ax)),?_⟩
  refine aY ⟨_,rfl,p,C,dx,_,_,rfl,h1,R.cl,R.n3,cW _ _ _,_,rfl,p,C,dx,_,_,rfl,h1,R.cl,R.n1,ft _ _ _,pm,_,rfl,.inl (SqL.of h2),_,_,rfl,rfl,_,rfl,aq (λh4'=>?_) (λh4'=>?_)⟩
  ·rw[hql]at h4';have h4'':(d:Int)<(ts.length:Int):=h4';refine⟨_,rfl,p,dx,_,rfl,h1,aU _ _ _ bB.1 bB.2.1 bB.2.2.1 bB.2.2.2,p,e,us,rfl,hA,_,rfl,λd' hd=>k2 (λz=>?_) _ d' (SameB.new hd) ai⟩;rw[z]at h4;have:=je h4 h5;omega
  ·rw[hql]at h4';have h4'':¬(d:Int)<(ts.length:Int):=h4';refine k1 ?_;rw[<- h4];exact wm (by omega)
def gW(C:Addr):Sp:=λvs H Q _=>∃(p dx:Addr) (l:List Nat),vs=[.ref p,.str (stL l)]/\H p=some (.ins C dx [])/\Pla l/\∀(H':Hp),SameB p H H'->RdA C H' p l.length (mks 0 l)->Q .non H'
theorem pG{C f:Addr}{fd:FuncData}(F:Fun K "__init__" "Reading.__init__" dZ f fd)(T:Txt K mg)(R:QC K mg C){sO:Addr}{sd:FuncData}(vf:Cal P w K mg base 3 "marks_of" ["text"] g8 sO sd):FnOk P w K mg base CX0 4 f fd ["self","text"] (gW C):=by
 obtain⟨uK,qo,qW,ud⟩:=vf;refine F.ok nK (λvs H Q E h=>?_) (λcdv A outer s H vs Q E hr h=>?_)
 ·obtain⟨p,dx,l,rfl,_⟩:=h;rfl
 ·obtain⟨p,dx,l,rfl,h1,hl,k⟩:=h;have big:=sizeLine_eq;have hl2:=hl.2
  refine⟨_,(ag (d6 (pv 0) (aB uK (hr.mono) rfl qo qW ud .nil av (aa (pv 1) ac)) rfl)
   (ag (d6 (pv 0) (aF bZ (by rfl) T.len_ PySem.boot_len (aa (pv 1) ac)) rfl)
   (ag (d6 (pv 0) ad rfl)
   (af (d6 (pv 0) ad rfl))))),?_⟩
  refine⟨_,rfl,l,rfl,hl,λpm H1 qs s1 hpm e1 hM=>?_⟩;have hp1:=s1 _ _ h1;have np:pm≠p:=λz=>by rw[z,h1]at hpm;cases hpm
  refine⟨_,rfl,p,C,dx,_,rfl,hp1,R.cl,R.n1,by show 0<1000;decide,?_⟩;refine⟨_,rfl,_,rfl,by rw[ap];omega,_,rfl,p,C,dx,_,rfl,ai,R.cl,R.n2,by show 1<1000;decide,?_⟩;rw[gF];refine⟨_,rfl,p,C,dx,_,rfl,ai,R.cl,R.n3,eM (n:=999) (eM (n:=998) (by show 0<998;decide)),?_⟩;rw[gF];refine⟨_,rfl,p,C,dx,_,rfl,ai,R.cl,R.n4,eM (n:=999) (eM (n:=998) (eM (n:=997) (by show 0<997;decide))),?_⟩;rw[gF];refine k _ (λb o hb eo=>by rw[upd_ne hb];exact s1 _ _ eo) ⟨dx,pm,qs,_,0,?_,by rw[upd_ne np];exact e1,hM.upd_ins hp1,rfl,vT _,λu hu=>?_⟩
  ·rw[ai,ap];rfl
  ·obtain⟨g1,g2,g3⟩:=pW u hu;exact⟨g1,by omega,λc hc=>hl.1 c (g3 c hc)⟩
theorem SameB.trans{p:Addr}{H H1 H2:Hp}(a:SameB p H H1)(b:SameB p H1 H2):SameB p H H2:=λx o hx e=>b x o hx (a x o hx e)
theorem _root_.L2.Same.toB{p:Addr}{H H1:Hp}(a:Same H H1):SameB p H H1:=λx o _ e=>a x o e
theorem SameB.free{p b:Addr}{H H1:Hp}(a:SameB p H H1)(hp:H p≠none)(hb:H1 b=none)(hp1:H1 p≠none):H b=none:=by
 cases e:H b with
 |none=>rfl
 |some o =>
  by_cases z:b=p
  ·subst z;exact absurd hb hp1
  ·rw[a b o z e]at hb;cases hb
theorem RdA.isS{C:Addr}{H:Hp}{p:Addr}{e:Nat}{us:List Mk}(h:RdA C H p e us):H p≠none:=by obtain⟨dx,pm,qs,ts,d,h1,_⟩:=h;rw[h1];simp
theorem RdA.lst_ne{C:Addr}{H:Hp}{p a:Addr}{e:Nat}{us:List Mk}{xs:List V}(h:RdA C H p e us)(ha:H a=some (.lst xs)):a≠p:=λz=>by obtain⟨dx,pm,qs,ts,d,h1,_⟩:=h;rw[z,h1]at ha;cases ha
theorem RdA.ins{C:Addr}{H:Hp}{p:Addr}{e:Nat}{us:List Mk}(h:RdA C H p e us):∃(dx pm:Addr) (d:Int),H p=some (.ins C dx (fdl pm e d)):=by obtain⟨dx,pm,qs,ts,d,h1,_⟩:=h;exact⟨dx,pm,d,h1⟩
theorem XAt.step{CN p:Addr}{E:XK}{H H1:Hp}{n:Nat}(h:XAt CN p E H n)(s:SameB p H H1):XAt CN p E H1 n:=λH' dx s' e=>h H' dx (s.trans s') e
def hJ:Sp:=λvs H Q _=>∃(l:List Nat) (z:Str) (p:Nat->Bool),vs=[.str (stL l),.str z]/\(∀c∈l,c<128)/\l.length<=1000/\SgP z p/\(l=[]->Q (.bl false) H)/\(l≠[]->∀H',Same H H'->Q (.bl (l.all p)) H')
theorem oY{f:Addr}{fd:FuncData}(F:Fun K "made_of" "made_of" dz f fd)(T:Txt K mg):FnOk P w K mg base CX0 1 f fd ["word","signs"] hJ:=by
 refine F.ok ny (λvs H Q E h=>?_) (λcdv A outer s H vs Q E hr h=>?_)
 ·obtain⟨l,z,p,rfl,_⟩:=h;rfl
 ·obtain⟨l,z,p,rfl,ha,hl,hz,k1,k2⟩:=h;have big:=sizeLine_eq;refine⟨_,(af (al (bz (ba d7 (pv 0) ae (ak _)) (bG (aF (t9 (K:=K) rfl rfl) (by rfl) T.all_ PyProof.Rows.boot_all (aa (j0 (own:=["sign"]) (fr:=["signs"]) (js:=[1]) (by walk_at "comp_ok") rfl (ot (pv 0)) (λ_ _ _ _=>(cL (i:=0) (show List.Nodup (["sign","signs"]:List Str)from by decide +kernel) rfl (Or.inl rfl))) (λ_ _ _ _=>(ba cr (pv 0) (pv 1) (by rfl)))) ac)))))),?_⟩;refine aH (br ⟨_,rfl,rfl,_,rfl,eG (λh0=>?_) (λh0=>?_)⟩)
  rotate_left
  ·have h0':l=[]:=by have:stL l=Str.ofString "":=V.str.inj h0;rw[eh]at this;exact stL_inj.mp this
   exact k1 h0'
  have h0':l≠[]:=λe=>h0 (by rw[e,<- eh])
  have hasc:(stL l).cps.all (·<128)=true:=by rw[show(stL l).cps.all (·<128)=l.all (·<128) by unfold stL;simp,v4];intro c hc;exact decide_eq_true (ha c hc)
  refine⟨_,rfl,_,rfl,hasc,tU (λi ys σ' H'=>∃z0:Option V,σ'=[z0,some (.str z)]/\ys=((l.take i).map p).map V.bl/\H=H') (by rw[jN];omega) ⟨none,rfl,rfl,rfl⟩ ?_ ?_ ?_⟩
  ·rintro i ys σ' H' _ ⟨z0,rfl,rfl,rfl⟩;rw[vK,vK,wt];exact Nat.min_le_left _ _
  ·rintro i c ys σ' H' hc ⟨z0,rfl,rfl,rfl⟩;have hc':l[i]?=some c:=by unfold stL at hc;simpa using hc
   refine⟨_,rfl,_,rfl,_,_,rfl,rfl,_,rfl,?_,rfl⟩;rw[StrLaws.found_one,hz,List.take_add_one,hc'];simp
  ·rintro ys σ' H' q ⟨z0,rfl,rfl,rfl⟩ hq;rw[jN,ww];refine⟨q,l.map p,rfl,SqL.of ai,?_⟩;have:=k2 h0' _ (Same.upd_new (o:=.lst ((l.map p).map V.bl)) hq);rw[show(l.map p).all id=l.all p by rw[List.all_map];rfl];exact this
def hV:Sp:=λvs H Q _=>∃l:List Nat,vs=[.str (stL l)]/\(∀c∈l,c<128)/\l.length<=1000/\∀H',Same H H'->Q (.bl (isN l)) H'
theorem o0{f:Addr}{fd:FuncData}(F:Fun K "is_whole" "is_whole" dA f fd)(T:Txt K mg){sQ:Addr}{sh:FuncData}(vh:Cal P w K mg base 1 "made_of" ["word","signs"] hJ sQ sh):FnOk P w K mg base CX0 2 f fd ["word"] hV:=by
 obtain⟨uM,qq,qY,uf⟩:=vh;obtain⟨tF,hFIGURES⟩:=T.FIGURES_;refine F.ok nz (λvs H Q E h=>?_) (λcdv A outer s H vs Q E hr h=>?_)
 ·obtain⟨l,rfl,_⟩:=h;rfl
 ·obtain⟨l,rfl,ha,hl,k⟩:=h;have big:=sizeLine_eq;refine⟨_,(af (al (bz (aB uM (hr.mono) rfl qq qY uf .nil av (aa (pv 0) (aa (cM (v:=.str "0123456789") rfl hFIGURES ⟨_,rfl⟩) ac))) (bG (oA (ba aL (pv 0) ae (ak _)) (bG (ba d7 (ao bU (pv 0) ad (λ_ _=>rfl)) ae (ak _)))))))),?_⟩;refine aH (br ⟨_,rfl,l,_,isD,rfl,ha,hl,lu,λz=>⟨_,rfl,aC ?_⟩,λhn H1 s1=>⟨_,rfl,?_⟩⟩)
  ·subst z;exact k H (Same.refl _)
  have hk:=k H1 s1;cases h0:l.all isD with
  |false =>refine aC ?_;rw[show isN l=false by unfold isN;rw[h0];simp]at hk;exact hk
  |true =>
   refine aD (nQ ⟨_,rfl,rfl,_,rfl,aq (λh1=>?_) (λh1=>?_)⟩)
   ·have h1':l=[48]:=by have:stL l=Str.ofString "0":=V.str.inj h1;rw[ek]at this;exact stL_inj.mp this
    rw[h1',show isN [48]=true by decide]at hk;exact hk
   ·have h1':l≠[48]:=λz=>h1 (by rw[z,<- ek])
    obtain⟨c,r,rfl⟩:=we hn;refine⟨_,rfl,_,_,c,rfl,rfl,by rw[ap];omega,bF (i:=0) rfl rfl,rfl,?_⟩
    have hN:isN (c::r)=decide (c≠48):=by unfold isN;rw[h0,decide_eq_true hn,decide_eq_false h1'];simp
    have hne:(V.str ⟨#[c]⟩=V.str (Str.ofString "0"))↔c=48:=by
     rw[ek];constructor
     ·intro z;have z2:([c]:List Nat)=[48]:=congrArg (λs:Str=>s.cps.toList) (V.str.inj z);exact List.head_eq_of_cons_eq z2
     ·intro z;rw[z];rfl
    rw[hN]at hk;by_cases hc:c=48
    ·rw[decide_eq_true (hne.mpr hc)];rw[decide_eq_false (not_not_intro hc)]at hk;exact hk
    ·rw[decide_eq_false (λz=>hc (hne.mp z))];rw[decide_eq_true hc]at hk;exact hk
theorem bi(a b:List Nat):eqV (.str (stL a)) (.str (stL b))=decide (a=b):=by
 rw[vY,decide_eq_true_eq];constructor
 ·intro h;have:(stL a == stL b)=true:=h;exact stL_inj.mp (beq_iff_eq.mp this)
 ·intro h;rw[h];show(stL b == stL b)=true;exact beq_self_eq_true _
theorem rB(m:List Nat):inV (.str (stL m)) [.str (Str.ofString "0"),.str (Str.ofString "1"),.str (Str.ofString "2"),.str (Str.ofString "3"),.str (Str.ofString "4"),.str (Str.ofString "5"),.str (Str.ofString "6"),.str (Str.ofString "7"),.str (Str.ofString "8")]=isE m:=by
 have e:([.str (Str.ofString "0"),.str (Str.ofString "1"),.str (Str.ofString "2"),.str (Str.ofString "3"),.str (Str.ofString "4"),.str (Str.ofString "5"),.str (Str.ofString "6"),.str (Str.ofString "7"),.str (Str.ofString "8")]:List V)=[.str (stL [48]),.str (stL [49]),.str (stL [50]),.str (stL [51]),.str (stL [52]),.str (stL [53]),.str (stL [54]),.str (stL [55]),.str (stL [56])]:=by congr 1
 rw[e];show(eqV (.str (stL [48])) (.str (stL m)) || (eqV (.str (stL [49])) (.str (stL m)) || (eqV (.str (stL [50])) (.str (stL m)) || (eqV (.str (stL [51])) (.str (stL m)) || (eqV (.str (stL [52])) (.str (stL m)) || (eqV (.str (stL [53])) (.str (stL m)) || (eqV (.str (stL [54])) (.str (stL m)) || (eqV (.str (stL [55])) (.str (stL m)) || (eqV (.str (stL [56])) (.str (stL m)) ||false)))))))))=_;rw[bi,bi,bi,bi,bi,bi,bi,bi,bi,vY];unfold isE
 match m with
 | []=>simp
 | [c] =>simp only[Bool.or_eq_true,decide_eq_true_eq,vV,List.cons.injEq,and_true,wy,List.all_cons,List.all_nil,Bool.and_true,Bool.or_false,true_and];omega
 |a::b::m=>simp
theorem lf:∀m:List Nat,inV (.str (stL m)) [.str (Str.ofString "+"),.str (Str.ofString "-")]=(decide (m=[43]) ||decide (m=[45])):=λm=>by
 rw[fi,cS];show(eqV (.str (stL [43])) (.str (stL m)) || (eqV (.str (stL [45])) (.str (stL m)) ||false))=_;rw[bi,bi,Bool.or_false];have h1:decide ([43]=m)=decide (m=[43]):=by rw[decide_eq_decide];exact eq_comm
 have h2:decide ([45]=m)=decide (m=[45]):=by rw[decide_eq_decide];exact eq_comm
 rw[h1,h2]
def h9(C CN:Addr):Sp:=λvs H Q E=>∃(p:Addr) (e:Nat) (us:List Mk),vs=[.ref p]/\RdA C H p e us/\(∀u r,us=u::r->isE u.1=true->∀H',SameB p H H'->RdA C H' p e r->Q (.int (NumText.digitsVal u.1:Nat)) H')/\(isE (mhd us)=false->XAt CN p E H (mbg e us))
theorem oU{C CNoText f:Addr}{fd:FuncData}(F:Fun K "read_exponent" "read_exponent" dq f fd)(T:Txt K mg)(R:QC K mg C){bY:Addr}{bX:FuncData}(ck:MCal P w K mg base 1 C "seen" ["self"] (cH C) bY bX){fz:Addr}{fu:FuncData}(fK:MCal P w K mg base 2 C "step" ["self"] (eD C) fz fu){fA:Addr}{fv:FuncData}(fL:MCal P w K mg base 1 C "begin" ["self"] (eE C) fA fv){c0:Addr}{cY:FuncData}(C_NoText:XCal P w K mg base 1 CNoText "NoText" "at" ["self","at"] c0 cY):FnOk P w K mg base (CXV P w) 3 f fd ["reading"] (h9 C CNoText):=by
 obtain⟨cg,bS,b0⟩:=ck;obtain⟨fH,e7,fC⟩:=fK;obtain⟨fJ,e8,fD⟩:=fL;obtain⟨aEXPONENTS,hEXPONENTS,sEXP⟩:=T.EXPONENTS_;refine F.okV nw (λvs H Q E h=>?_) (λcdv A outer s H vs Q E hr h=>?_)
 ·obtain⟨p,e,us,rfl,_⟩:=h;rfl
 ·obtain⟨p,e,us,rfl,hA,k1,k2⟩:=h;obtain⟨dx,pm,d,h1⟩:=hA.ins
  refine⟨_,(ag (au (aj (iD (K:=K) rfl) (bx (pv 0) R.cl bS cg (hr.mono) b0 .nil av) (cM (v:=.ref aEXPONENTS) rfl hEXPONENTS rfl) (by rfl))
   (af (iw (C:=CNoText) rfl C_NoText.ow PySem.F.excBase_ValueError C_NoText.ok (hr.mono) C_NoText.bd C_NoText.kp (aa (bx (pv 0) R.cl e8 fJ (hr.mono) fD .nil av) ac)))
   ax)
   (af (al (bp gy (by rfl) T.int_ PyProof.Rows.boot_int (aa (bx (pv 0) R.cl e7 fH (hr.mono) fC .nil av) ac))))),?_⟩
  refine aQ ⟨_,rfl,p,dx,_,rfl,h1,aU _ _ _ aS.1 aS.2.1 aS.2.2.1 aS.2.2.2,p,e,us,rfl,hA,aEXPONENTS,_,rfl,.inr (sEXP _),rfl,by decide,_,rfl,?_⟩;rw[rB];cases hE:isE (mhd us)with
  |false =>refine aD ?_;exact⟨_,rfl,p,dx,_,rfl,h1,aU _ _ _ bB.1 bB.2.1 bB.2.2.1 bB.2.2.2,p,e,us,rfl,hA,_,rfl,λd hd=>k2 hE _ d (SameB.new hd) ai⟩
  |true =>
   refine aC ?_;cases us with
   |nil=>exact absurd hE (by decide)
   |cons u r =>have hu:=hA.is u (by simp);refine⟨_,rfl,p,dx,_,rfl,h1,aU _ _ _ bA.1 bA.2.1 bA.2.2.1 bA.2.2.2,p,e,u,r,rfl,hA,λH' sb ra=>?_⟩;have hD:=la (m:=u.1) hE;exact⟨_,(NumText.digitsVal u.1:Nat),rfl,by rw[ap];omega,gv hD.2 hD.1 (by omega),k1 u r rfl hE H' sb ra⟩
def g5(C CN:Addr):Sp:=λvs H Q E=>∃(p:Addr) (e:Nat) (us:List Mk),vs=[.ref p]/\RdA C H p e us/\(∀k r,aA us=.inr (k,r)->∀H',SameB p H H'->RdA C H' p e r->Q (.int (k:Nat)) H')/\(∀r,aA us=.inl r->XAt CN p E H (mbg e r))
theorem oT{C CNoText f:Addr}{fd:FuncData}(F:Fun K "read_place" "read_place" dn f fd)(T:Txt K mg)(R:QC K mg C){tE:Addr}{sH:FuncData}(vB:MCalV P w K mg base 3 C "demand" ["self","mark"] (ia C CNoText) tE sH){cZ:Addr}{cX:FuncData}(dg:MCal P w K mg base 2 C "passes" ["self","mark"] (dh C) cZ cX){sN:Addr}{r8:FuncData}(vc:CalV P w K mg base 3 "read_exponent" ["reading"] (h9 C CNoText) sN r8):FnOk P w K mg base (CXV P w) 4 f fd ["reading"] (g5 C CNoText):=by
 obtain⟨uY,pS,uw⟩:=vB;obtain⟨df,cP,db⟩:=dg;obtain⟨uJ,qm,qV,uc⟩:=vc;refine F.okV nv (λvs H Q E h=>?_) (λcdv A outer s H vs Q E hr h=>?_)
 ·obtain⟨p,e,us,rfl,_⟩:=h;rfl
 ·obtain⟨p,e,us,rfl,hA,k1,k2⟩:=h;obtain⟨dx,pm,d,h1⟩:=hA.ins
  refine⟨_,(ag (cn (eW (pv 0) R.cl pS uY (hr.mono) uw .nil (cq (λ_ _ _ z=>z)) (aa ae ac)))
   (ag (au (bQ (eW (pv 0) R.cl cP df (hr.mono) db .nil av (aa ae ac)))
     (af (al (aB uJ (hr.mono) rfl qm qV uc .nil (cq (λ_ _ _ z=>z)) (aa (pv 0) ac))))
     ax)
   (af (al ad)))),?_⟩
  refine il ⟨_,rfl,p,dx,_,rfl,h1,aU _ _ _ gb.1 gb.2.1 gb.2.2.1 gb.2.2.2,p,e,us,[120],by rw[<- fg];rfl,hA,by decide,λu r eu em H1 sb1 ra1=>?_,λz=>?_⟩
  rotate_left
  ·refine k2 us ?_;cases us with
   |nil=>rfl
   |cons u r=>simp[aA,show ¬u.1=[120]from z]
  subst eu;obtain⟨dx1,pm1,d1,h11⟩:=ra1.ins;refine aQ ⟨_,rfl,p,dx1,_,rfl,h11,aU _ _ _ aW.1 aW.2.1 aW.2.2.1 aW.2.2.2,p,e,r,[94],by rw[<- gj];rfl,ra1,by decide,λv r2 ev em2 H2 sb2 ra2=>⟨_,rfl,aD ?_⟩,λz=>⟨_,rfl,aC ?_⟩⟩
  ·subst ev;have sb:=sb1.trans sb2;refine⟨_,rfl,p,e,r2,rfl,ra2,λw r3 ew hE H3 sb3 ra3=>?_,λhE=>?_⟩
   ·subst ew;exact k1 (NumText.digitsVal w.1) r3 (by simp[aA,em,em2,hE]) H3 (sb.trans sb3) ra3
   ·refine XAt.step (k2 r2 ?_) sb;cases r2 with
    |nil=>simp[aA,em,em2]
    |cons w r3=>simp[aA,em,em2,show isE w.1=false from hE]
  ·refine k1 1 r ?_ H1 sb1 ra1;cases r with
   |nil=>simp[aA,em]
   |cons v r2=>simp[aA,em,show ¬v.1=[94]from z]
theorem ki{n:Nat}(h:n<2^1000):Bits 1000 (n:Int):=by show((n:Int)).natAbs<2^1000;rw[Int.natAbs_natCast];exact h
noncomputable def mono(k:Nat)(v:Int):List Int:=trim (List.replicate k 0++[v])
theorem jg(k:Nat)(v:Int)(n:Nat):cf (mono k v) n=if n=k then v else 0:=by
 unfold mono;rw[jf];by_cases h:n<k
 ·rw[lL (by rw[vR];exact h),lJ,if_neg (by omega)]
 ·rw[jh (by rw[vR];omega),vR];by_cases h2:n=k
  ·rw[if_pos h2,h2,Nat.sub_self];rfl
  ·rw[if_neg h2];exact cx (by show 1<=n-k;omega)
theorem gc{k:Nat}(hk:k<=8)(v:Int):(mono k v).length<=9:=by have:=kM (List.replicate k 0++[v]);rw[vM,vR]at this;have e1:([v]:List Int).length=1:=rfl;unfold mono;omega
def gS(C CN:Addr):Sp:=λvs H Q E=>∃(p:Addr) (e:Nat) (us:List Mk) (sign:Int),vs=[.ref p,.int sign]/\RdA C H p e us/\(sign=1\/sign = -1)/\(∀n k r,aG us=.inr (n,k,r)->∀(q:Addr) (H':Hp),SameB p H H'->RdA C H' p e r->H q=none->H' q=some (.lst ((mono k (sign*(n:Nat))).map V.int))->Q (.ref q) H')/\(∀r,aG us=.inl r->XAt CN p E H (mbg e r))
theorem oR{C CNoText f:Addr}{fd:FuncData}(F:Fun K "read_term" "read_term" dl f fd)(T:Txt K mg)(R:QC K mg C){sR:Addr}{si:FuncData}(vi:Cal P w K mg base 2 "is_whole" ["word"] hV sR si){bY:Addr}{bX:FuncData}(ck:MCal P w K mg base 1 C "seen" ["self"] (cH C) bY bX){fz:Addr}{fu:FuncData}(fK:MCal P w K mg base 2 C "step" ["self"] (eD C) fz fu){cZ:Addr}{cX:FuncData}(dg:MCal P w K mg base 2 C "passes" ["self","mark"] (dh C) cZ cX){sM:Addr}{r6:FuncData}(vb:CalV P w K mg base 4 "read_place" ["reading"] (g5 C CNoText) sM r6){ja:Addr}{i5:FuncData}(jt:Cal P w K mg base 1 "poly" ["row"] (cG K) ja i5):FnOk P w K mg base (CXV P w) 5 f fd ["reading","sign"] (gS C CNoText):=by
 obtain⟨uN,qr,qZ,ug⟩:=vi;obtain⟨cg,bS,b0⟩:=ck;obtain⟨fH,e7,fC⟩:=fK;obtain⟨df,cP,db⟩:=dg;obtain⟨mi,kG,kP,lX⟩:=vb;obtain⟨fG,fc,fj,fB⟩:=jt;refine F.okV sc_read_term (λvs H Q E h=>?_) (λcdv A outer s H vs Q E hr h=>?_)
 ·obtain⟨p,e,us,sign,rfl,_⟩:=h;rfl
 ·obtain⟨p,e,us,sign,rfl,hA,hsg,k1,k2⟩:=h;have big:=sizeLine_eq;obtain⟨dx,pm,d,h1⟩:=hA.ins
  refine⟨_,(ag (au (eO (bQ (aB uN (hr.mono) rfl qr qZ ug .nil av (aa (bx (pv 0) R.cl bS cg (hr.mono) b0 .nil av) ac))))
   (af (al (aB fG (hr.mono) rfl fc fj fB .nil av (aa (am iE (am iC (aN (aa ad ac)) (aB mi (hr.mono) rfl kG kP lX .nil (cq (λ_ _ _ z=>z)) (aa (pv 0) ac))) (aN (aa (pv 1) ac))) ac))))
   ax)
   (ag (ar (i:=2) sc_read_term.nd rfl (Or.inl rfl) (am fY (pv 1) (bp gy (by rfl) T.int_ PyProof.Rows.boot_int (aa (bx (pv 0) R.cl e7 fH (hr.mono) fC .nil av) ac))))
   (ag (au (bQ (eW (pv 0) R.cl cP df (hr.mono) db .nil av (aa ae ac)))
     (af (al (aB fG (hr.mono) rfl fc fj fB .nil av (aa (am iE (am iC (aN (aa ad ac)) (aB mi (hr.mono) rfl kG kP lX .nil (cq (λ_ _ _ z=>z)) (aa (pv 0) ac))) (aN (aa (pv 2) ac))) ac))))
     ax)
   (af (al (aB fG (hr.mono) rfl fc fj fB .nil av (aa (aN (aa (pv 2) ac)) ac))))))),?_⟩
  have hm:(∀c∈mhd us,c<128)/\(mhd us).length<=1000:=by
   cases us with
   |nil=>exact⟨λc hc=>(nomatch hc),vT _⟩
   |cons u r =>have hu:=hA.is u (by simp);exact⟨hu.2.2,by show u.1.length<=1000;omega⟩
  refine aQ (fS ⟨_,rfl,p,dx,_,rfl,h1,aU _ _ _ aS.1 aS.2.1 aS.2.2.1 aS.2.2.2,p,e,us,rfl,hA,mhd us,rfl,hm.1,hm.2,λH1 s1=>⟨_,rfl,?_⟩⟩);have hA1:=hA.same s1;cases hN:isN (mhd us)with
  |false =>
   refine aD ?_
   have tl:∀r,aA us=.inl r->aG us=.inl r:=λr h=>by
    cases us with
    |nil=>exact(by cases h;rfl)
    |cons u us =>show(if isN u.1=true then _ else _)=_;rw[if_neg (by rw[show isN u.1=false from hN];decide),h]
   have tr:∀k r,aA us=.inr (k,r)->aG us=.inr (1,k,r):=λk r h=>by
    cases us with
    |nil=>cases h
    |cons u us =>show(if isN u.1=true then _ else _)=_;rw[if_neg (by rw[show isN u.1=false from hN];decide),h]
   refine aH ⟨by show 1<=sizeLine;decide,λp2 hp2=>?_⟩;have u2:=Same.upd_new (o:=.lst [V.int 0]) hp2;have ep2:upd H1 p2 (.lst [V.int 0]) p2=some (.lst [V.int 0]):=ai;generalize upd H1 p2 (.lst [V.int 0])=H2 at u2 ep2 ⊢
   have hA2:=hA1.same u2;refine⟨_,rfl,p,e,us,rfl,hA2,λk r hP H3 sb3 ra3=>?_,λr hP=>(k2 r (tl r hP)).step (s1.trans u2).toB⟩;have hk8:=j5 hP;have ep3:=sb3 _ _ (hA2.lst_ne ep2) ep2;refine⟨p2,(k:Int),_,rfl,rfl,ep3,by omega,by omega,by rw[wj];show 1*k<=sizeLine;omega,λp4 hp4=>?_⟩;rw[wj,ij];have u4:=Same.upd_new (o:=.lst ((List.replicate k (0:Int)).map V.int)) hp4;have ep4:upd H3 p4 (.lst ((List.replicate k (0:Int)).map V.int)) p4=some (.lst ((List.replicate k (0:Int)).map V.int)):=ai;generalize upd H3 p4 (.lst ((List.replicate k (0:Int)).map V.int))=H4 at u4 ep4 ⊢
   refine⟨_,rfl,by show 1<=sizeLine;decide,λp5 hp5=>?_⟩;have u5:=Same.upd_new (o:=.lst [V.int sign]) hp5;have ep5:upd H4 p5 (.lst [V.int sign]) p5=some (.lst [V.int sign]):=ai;generalize upd H4 p5 (.lst [V.int sign])=H5 at u5 ep5 ⊢
   refine⟨p4,p5,_,_,rfl,rfl,u5 _ _ ep4,ep5,by rw[vK,vR];show k+1<=sizeLine;omega,λp6 hp6=>?_⟩;rw[show(List.replicate k (0:Int)).map V.int++[V.int sign]=(List.replicate k 0++[sign]).map V.int by rw[wb];rfl];have u6:=Same.upd_new (o:=.lst ((List.replicate k 0++[sign]).map V.int)) hp6;refine⟨p6,_,rfl,SqL.of ai,λq H7 s7 hq eq=>?_⟩;have sAll:Same H3 H7:=((u4.trans u5).trans u6).trans s7;have sB:SameB p H H7:=((s1.trans u2).toB.trans sb3).trans sAll.toB;refine k1 1 k r (tr k r hP) q H7 sB (ra3.same sAll) ?_ ?_
   ·have f3:H3 q=none:=((u4.trans u5).trans u6).free hq;exact(s1.trans u2).free (sb3.free hA2.isS f3 ra3.isS)
   ·rw[eq];show _=some (HO.lst ((trim (List.replicate k 0++[sign*((1:Nat):Int)])).map V.int));rw[show sign*((1:Nat):Int)=sign by omega]
  |true =>
   refine aC ?_;cases us with
   |nil=>exact absurd hN (by decide)
   |cons u us =>
   have hN':isN u.1=true:=hN;have hu:=hA.is u (by simp);have hD:=kY hN';obtain⟨dx1,pm1,d1,h11⟩:=hA1.ins;refine aK ⟨_,rfl,_,rfl,p,dx1,_,rfl,h11,aU _ _ _ bA.1 bA.2.1 bA.2.2.1 bA.2.2.2,p,e,u,us,rfl,hA1,λH2 sb2 ra2=>?_⟩;have bsz:Bits 1000 ((NumText.digitsVal u.1:Nat):Int):=ki (lB hD hu.2.1)
   have bsg:Bits 2 sign:=by show sign.natAbs<2^2;rcases hsg with rfl |rfl<;>decide
   refine⟨_,((NumText.digitsVal u.1:Nat):Int),rfl,by rw[ap];omega,gv hD hu.1 (by omega),_,_,rfl,rfl,⟨bsg.mono,bsz.mono⟩,?_⟩;obtain⟨dx2,pm2,d2,h12⟩:=ra2.ins;have hb:SameB p H H2:=s1.toB.trans sb2;generalize hn:NumText.digitsVal u.1=n;refine aQ ⟨_,rfl,p,dx2,_,rfl,h12,aU _ _ _ aW.1 aW.2.1 aW.2.2.1 aW.2.2.2,p,e,us,[42],by rw[<- fh];rfl,ra2,by decide,λv r2 ev em H3 sb3 ra3=>⟨_,rfl,aD ?_⟩,λz=>⟨_,rfl,aC ?_⟩⟩
   ·subst ev;have eTl:∀r,aA r2=.inl r->aG (u::v::r2)=.inl r:=λr h=>by simp only[aG,hN',em,if_true,h]
    have eTr:∀k r,aA r2=.inr (k,r)->aG (u::v::r2)=.inr (n,k,r):=λk r h=>by simp only[aG,hN',em,if_true,h,hn]
    refine aH ⟨by show 1<=sizeLine;decide,λp2 hp2=>?_⟩;have u2:=Same.upd_new (o:=.lst [V.int 0]) hp2;have ep2:upd H3 p2 (.lst [V.int 0]) p2=some (.lst [V.int 0]):=ai;generalize upd H3 p2 (.lst [V.int 0])=H4 at u2 ep2 ⊢
    have hA4:=ra3.same u2;have hb4:SameB p H H4:=(hb.trans sb3).trans u2.toB;refine⟨_,rfl,p,e,r2,rfl,hA4,λk r hP H5 sb5 ra5=>?_,λr hP=>(k2 r (eTl r hP)).step hb4⟩;have hk8:=j5 hP;have ep3:=sb5 _ _ (hA4.lst_ne ep2) ep2;refine⟨p2,(k:Int),_,rfl,rfl,ep3,by omega,by omega,by rw[wj];show 1*k<=sizeLine;omega,λp4 hp4=>?_⟩;rw[wj,ij];have u4:=Same.upd_new (o:=.lst ((List.replicate k (0:Int)).map V.int)) hp4;have ep4:upd H5 p4 (.lst ((List.replicate k (0:Int)).map V.int)) p4=some (.lst ((List.replicate k (0:Int)).map V.int)):=ai;generalize upd H5 p4 (.lst ((List.replicate k (0:Int)).map V.int))=H6 at u4 ep4 ⊢
    refine⟨_,rfl,by show 1<=sizeLine;decide,λp5 hp5=>?_⟩;have u5:=Same.upd_new (o:=.lst [V.int (sign*n)]) hp5;have ep5:upd H6 p5 (.lst [V.int (sign*n)]) p5=some (.lst [V.int (sign*n)]):=ai;generalize upd H6 p5 (.lst [V.int (sign*n)])=H7 at u5 ep5 ⊢
    refine⟨p4,p5,_,_,rfl,rfl,u5 _ _ ep4,ep5,by rw[vK,vR];show k+1<=sizeLine;omega,λp6 hp6=>?_⟩;rw[show(List.replicate k (0:Int)).map V.int++[V.int (sign*n)]=(List.replicate k 0++[sign*(n:Int)]).map V.int by rw[wb];rfl];have u6:=Same.upd_new (o:=.lst ((List.replicate k 0++[sign*(n:Int)]).map V.int)) hp6;refine⟨p6,_,rfl,SqL.of ai,λq H9 s9 hq eq=>?_⟩;have sAll:Same H5 H9:=((u4.trans u5).trans u6).trans s9;refine k1 n k r (eTr k r hP) q H9 (hb4.trans (sb5.trans sAll.toB)) (ra5.same sAll) ?_ eq;have f5:H5 q=none:=((u4.trans u5).trans u6).free hq;exact hb4.free hA.isS (sb5.free hA4.isS f5 ra5.isS) hA4.isS
   ·have eT:aG (u::us)=.inr (n,0,us):=by
     cases us with
     |nil=>simp[aG,hN',hn]
     |cons v r2=>simp[aG,hN',hn,show ¬v.1=[42]from z]
    refine aH ⟨_,rfl,by show 1<=sizeLine;decide,λp5 hp5=>?_⟩;have u5:=Same.upd_new (o:=.lst [V.int (sign*n)]) hp5;refine⟨p5,[sign*(n:Int)],rfl,SqL.of ai,λq H7 s7 hq eq=>?_⟩;have sAll:=u5.trans s7;refine k1 n 0 us eT q H7 (hb.trans sAll.toB) (ra2.same sAll) (hb.free hA.isS (u5.free hq) ra2.isS) ?_;rw[eq];rfl
theorem qJ{row:List Int}(ht:Tr row)(h:∀k,9<=k->cf row k=0):row.length<=9:=by
 refine Classical.byContradiction λz=>?_
 exact ht (row.length-1) (by omega) (h _ (by omega))
def TmI(C p:Addr)(e:Nat)(us0:List Mk)(H:Hp)(m:Nat)(σ':St)(H':Hp):Prop:=∃(q:Addr) (row:List Int) (us:List Mk) (c:Cfg),m=us.length/\σ'=[some (.ref p),some (.ref q)]/\SameB p H H'/\RdA C H' p e us/\H q=none/\H' q=some (.lst (row.map V.int))/\Tr row/\row.length<=9/\(∀n,cf row n=c.fin n)/\Lf2 c.st us/\mgo cfg0 us0=mgo c us
def gR(C CN:Addr):Sp:=λvs H Q E=>∃(p:Addr) (e:Nat) (us:List Mk),vs=[.ref p]/\RdA C H p e us/\(∀c r,mgo cfg0 us=(c,r)->c.st.opn=false->∀(q:Addr) (H':Hp) (row:List Int),SameB p H H'->RdA C H' p e r->H q=none->H' q=some (.lst (row.map V.int))->Tr row->row.length<=9->(∀n,cf row n=c.fin n)->Q (.ref q) H')/\(∀c r,mgo cfg0 us=(c,r)->c.st.opn=true->XAt CN p E H (mbg e r))
theorem oQ{C CNoText f:Addr}{fd:FuncData}(F:Fun K "read_terms" "read_terms" dk f fd)(T:Txt K mg)(R:QC K mg C){sL:Addr}{rZ:FuncData}(va:CalV P w K mg base 5 "read_term" ["reading","sign"] (gS C CNoText) sL rZ){cZ:Addr}{cX:FuncData}(dg:MCal P w K mg base 2 C "passes" ["self","mark"] (dh C) cZ cX){bY:Addr}{bX:FuncData}(ck:MCal P w K mg base 1 C "seen" ["self"] (cH C) bY bX){sT:Addr}{sk:FuncData}(vk:Cal P w K mg base 2 "added" ["first","second"] (ic K bM) sT sk){fz:Addr}{fu:FuncData}(fK:MCal P w K mg base 2 C "step" ["self"] (eD C) fz fu):FnOk P w K mg base (CXV P w) 6 f fd ["reading"] (gR C CNoText):=by
 obtain⟨mh,kF,kO,lW⟩:=va;obtain⟨df,cP,db⟩:=dg;obtain⟨cg,bS,b0⟩:=ck;obtain⟨uO,qt,q4,uh⟩:=vk;obtain⟨fH,e7,fC⟩:=fK;refine F.okV sc_read_terms (λvs H Q E h=>?_) (λcdv A outer s H vs Q E hr h=>?_)
 ·obtain⟨p,e,us,rfl,_⟩:=h;rfl
 ·obtain⟨p,e,us0,rfl,hA,k1,k2⟩:=h;have big:=sizeLine_eq;obtain⟨dx,pm,d,h1⟩:=hA.ins
  have hbad:∀(c:Cfg) (us r:List Mk),mgo cfg0 us0=mgo c us->Bad (mgo c us)/\(mgo c us).2=r->XAt CNoText p E H (mbg e r):=λc us r e1 h=>by rw[<- h.2];exact k2 (mgo c us).1 (mgo c us).2 e1 h.1
  refine⟨_,(ag (ar (i:=1) sc_read_terms.nd rfl (Or.inl rfl) (aB mh (hr.mono) rfl kF kO lW .nil (cq (λ_ _ _ z=>z)) (aa (pv 0) (aa (jZ (bQ (eW (pv 0) R.cl cP df (hr.mono) db .nil av (aa ae ac))) (eU ez ad) ad) ac))))
   (ag (eP PassesOwn.leaving (aj (d8 (K:=K) rfl) (bx (pv 0) R.cl bS cg (hr.mono) b0 .nil av) (bv (aa ae (aa ae ac))) (by rfl))
     (af (ar (i:=1) sc_read_terms.nd rfl (Or.inl rfl) (aB uO (hr.mono) rfl qt q4 uh .nil av (aa (pv 1) (aa (aB mh (hr.mono) rfl kF kO lW .nil (cq (λ_ _ _ z=>z)) (aa (pv 0) (aa (jZ (aj aL (bx (pv 0) R.cl e7 fH (hr.mono) fC .nil av) ae (ak _)) ad (eU ez ad)) ac))) ac))))))
   (af (al (pv 1))))),?_⟩
  refine jS (λσ' H'=>∃m,TmI C p e us0 H m σ' H') ?_ (λrest=>?_)
  rotate_left
  ·refine aZ ⟨_,rfl,_,rfl,p,dx,_,rfl,h1,aU _ _ _ aW.1 aW.2.1 aW.2.2.1 aW.2.2.2,p,e,us0,[45],by rw[<- cS];rfl,hA,by decide,λu r eu em H1 sb ra=>⟨_,rfl,aD ?_⟩,λh4=>⟨_,rfl,aC ?_⟩⟩
   ·subst eu;have e1:=rV (us:=r) em;have G:=gH (c:=⟨.p1,λ_=>0,-1,0,0⟩) (us:=r) (.inl rfl) rfl;refine⟨_,rfl,p,e,r,-1,rfl,ra,.inr rfl,λn k r2 hP q H' sb' ra' hq eq=>?_,λr2 hP=>(hbad _ _ _ e1 (G.1 r2 hP)).step sb⟩;obtain⟨s',hl,h8,e2⟩:=G.2 n k r2 hP;exact rest _ _ ⟨_,q,_,r2,_,rfl,rfl,sb.trans sb',ra',sb.free hA.isS hq ra.isS,eq,eA _,gc h8 _,λm=>by rw[jg];show _=0+_;rw[Int.zero_add],hl,e1.trans e2⟩
   ·have G:=gH (c:=cfg0) (us:=us0) (.inr ⟨rfl,h4⟩) rfl;refine⟨p,e,us0,1,rfl,hA,.inl rfl,λn k r2 hP q H' sb' ra' hq eq=>?_,λr2 hP=>hbad _ _ _ rfl (G.1 r2 hP)⟩;obtain⟨s',hl,h8,e2⟩:=G.2 n k r2 hP;exact rest _ _ ⟨_,q,_,r2,_,rfl,rfl,sb',ra',hq,eq,eA _,gc h8 _,λm=>by rw[jg];show _=0+_;rw[Int.zero_add];rfl,hl,e2⟩
  rintro σ' H1 ⟨m0,hI⟩;refine⟨λm σ' H'=>TmI C p e us0 H m σ' H',⟨m0,hI⟩,?_⟩;clear hI;rintro m σ' H2 ⟨q,row,us,c,rfl,rfl,sb2,ra2,hq,eq,trr,hr9,hcf,hl,hgo⟩;obtain⟨dx2,pm2,d2,h12⟩:=ra2.ins;refine⟨_,rfl,p,dx2,_,rfl,h12,aU _ _ _ aS.1 aS.2.1 aS.2.2.1 aS.2.2.2,p,e,us,rfl,ra2,by show 2<=sizeLine;decide,λpt hpt=>?_⟩;have u3:=Same.upd_new (o:=.tup [V.str (Str.ofString "+"),V.str (Str.ofString "-")]) hpt;refine⟨pt,_,rfl,.inr (SqT.of ai),rfl,by decide,_,rfl,?_⟩;generalize upd H2 pt (.tup [V.str (Str.ofString "+"),V.str (Str.ofString "-")])=H3 at u3 ⊢
  have ra3:=ra2.same u3;have sb3:SameB p H H3:=sb2.trans u3.toB;have eq3:=u3 _ _ eq;obtain⟨L1,L2'⟩:=qL hl;show if(inV (.str (stL (mhd us))) [.str (Str.ofString "+"),.str (Str.ofString "-")])=true then _ else _
  rw[lf];by_cases hs:mhd us=[43]\/mhd us=[45]
  rotate_left
  ·have hs1:mhd us≠[43]:=λz=>hs (.inl z)
   have hs2:mhd us≠[45]:=λz=>hs (.inr z)
   rw[decide_eq_false hs1,decide_eq_false hs2];refine aC ?_;have e9:=L2' hs1 hs2;exact⟨_,rfl,k1 c us (hgo.trans e9) (qK hl) q H3 row sb3 ra3 hq eq3 trr hr9 hcf⟩
  rw[show(decide (mhd us=[43]) ||decide (mhd us=[45]))=true by rcases hs with z |z<;>simp[z]];refine aD ?_;cases us with
  |nil=>rcases hs with z |z<;>cases z
  |cons u us =>
  have hs':u.1=[43]\/u.1=[45]:=hs;have e4:=hgo.trans (L1 u us rfl hs');refine⟨λσ'' H''=>∃m',m'<(u::us).length/\TmI C p e us0 H m' σ'' H'',λ_ _ h=>h,?_⟩;obtain⟨dx3,pm3,d3,h13⟩:=ra3.ins;have G:=gH (c:=⟨.p1,c.fin,if u.1=[45]then -1 else 1,0,0⟩) (us:=us) (.inl rfl) rfl;refine aZ ⟨_,rfl,_,rfl,_,rfl,p,dx3,_,rfl,h13,aU _ _ _ bA.1 bA.2.1 bA.2.2.1 bA.2.2.2,p,e,u,us,rfl,ra3,λH4 sb4 ra4=>⟨rfl,_,rfl,?_⟩⟩;have eq4:=sb4 _ _ (ra3.lst_ne eq3) eq3;have sbb:=sb3.trans sb4
  have fin:∀(sg:Int),(if u.1=[45]then -1 else 1)=sg->∀n k r2,aG us=.inr (n,k,r2)->∀(q2:Addr) (H5:Hp),SameB p H4 H5->RdA C H5 p e r2->H4 q2=none->H5 q2=some (.lst ((mono k (sg*(n:Nat))).map V.int))->∀(q3:Addr) (H6:Hp),Same H5 H6->H5 q3=none->H6 q3=some (.lst ((bM row (mono k (sg*(n:Nat)))).map V.int))->∃m',m'<(u::us).length/\TmI C p e us0 H m' [some (.ref p),some (.ref q3)] H6:=λsg hsg n k r2 hP q2 H5 sb5 ra5 hq2 eq2 q3 H6 s6 hq3 eq6=>by
   obtain⟨s',hl',h8,e5⟩:=G.2 n k r2 hP;have hlt:=oG hP;refine⟨r2.length,by rw[vZ];omega,q3,_,r2,_,rfl,rfl,(sbb.trans sb5).trans s6.toB,ra5.same s6,?_,eq6,eA _,?_,λm=>?_,hl',e4.trans e5⟩
   ·exact sbb.free hA.isS (sb5.free ra4.isS hq3 ra5.isS) ra4.isS
   ·refine qJ (eA _) λj hj=>?_
    have m9:=gc h8 (sg*(n:Nat));show cf (bM _ _) j=0;rw[lM,cx (by omega),cx (by omega)];rfl
   ·show cf (bM _ _) m=c.fin m+_;rw[lM,hcf,jg,<- hsg]
  have m9:∀k v,k<=8->(mono k v).length<=1000000:=λk v h=>by have:=gc h v;omega
  by_cases hn:u.1=[45]
  ·rw[hn];refine aq (λz=>absurd (stL_inj.mp ((V.str.inj z).trans fi)) (by decide)) (λ_=>?_);refine⟨_,rfl,p,e,us,-1,rfl,ra4,.inr rfl,λn k r2 hP q2 H5 sb5 ra5 hq2 eq2=>?_,λr2 hP=>(hbad _ _ _ e4 (G.1 r2 hP)).step sbb⟩;obtain⟨_,_,h8,_⟩:=G.2 n k r2 hP;exact⟨q,q2,row,_,rfl,SqL.of (sb5 _ _ (ra4.lst_ne eq4) eq4),SqL.of eq2,by omega,m9 _ _ h8,λq3 H6 s6 hq3 eq6=>fin (-1) (by rw[if_pos hn]) n k r2 hP q2 H5 sb5 ra5 hq2 eq2 q3 H6 s6 hq3 eq6⟩
  ·have hp:=hs'.resolve_right hn;rw[hp];refine aq (λ_=>?_) (λz=>absurd (by rw[<- fi]) z);refine⟨p,e,us,1,rfl,ra4,.inl rfl,λn k r2 hP q2 H5 sb5 ra5 hq2 eq2=>?_,λr2 hP=>(hbad _ _ _ e4 (G.1 r2 hP)).step sbb⟩;obtain⟨_,_,h8,_⟩:=G.2 n k r2 hP;exact⟨q,q2,row,_,rfl,SqL.of (sb5 _ _ (ra4.lst_ne eq4) eq4),SqL.of eq2,by omega,m9 _ _ h8,λq3 H6 s6 hq3 eq6=>fin 1 (by rw[if_neg hn]) n k r2 hP q2 H5 sb5 ra5 hq2 eq2 q3 H6 s6 hq3 eq6⟩
def fQ(C CN:Addr):Sp:=λvs H Q E=>∃l:List Nat,vs=[.str (stL l)]/\Pla l/\(∀c,mgo cfg0 (mks 0 l)=(c,[])->c.st.opn=false->∀(q:Addr) (H':Hp) (row:List Int),Same H H'->H q=none->H' q=some (.lst (row.map V.int))->Tr row->row.length<=9->(∀n,cf row n=c.fin n)->Q (.ref q) H')/\(∀c r,mgo cfg0 (mks 0 l)=(c,r)->(c.st.opn=true\/r≠[])->∀(H':Hp) (dx:Addr),Same H H'->H' dx=some (.xd [(("at":Str),V.int ((mbg l.length r:Nat):Int))])->E (.ref CN) (some dx) H')
theorem oS{C CNoText f:Addr}{fd:FuncData}(F:Fun K "read_poly" "read_poly" dm f fd)(T:Txt K mg)(R:QC K mg C){tG:Addr}{sI:FuncData}{tP:List Value}(vC:KCal P w K mg base 4 C "Reading" ["self","text"] (gW C) tG sI tP []){sK:Addr}{rY:FuncData}(u9:CalV P w K mg base 6 "read_terms" ["reading"] (gR C CNoText) sK rY){tD:Addr}{sG:FuncData}(vA:MCalV P w K mg base 3 C "finish" ["self"] (h7 C CNoText) tD sG):FnOk P w K mg base (CXV P w) 7 f fd ["text"] (fQ C CNoText):=by
 obtain⟨uZ,uF,qD,ux,vI,vH⟩:=vC;obtain⟨uI,ql,qU,ub⟩:=u9;obtain⟨uX,pR,uv⟩:=vA;refine F.okV sc_read_poly (λvs H Q E h=>?_) (λcdv A outer s H vs Q E hr h=>?_)
 ·obtain⟨l,rfl,_⟩:=h;rfl
 ·obtain⟨l,rfl,hl,k1,k2⟩:=h
  refine⟨_,(ag (ar (i:=1) sc_read_poly.nd rfl (Or.inl rfl) (oB uF uZ (hr.mono) rfl qD ux .nil av (aa (pv 0) ac)))
   (ag (ar (i:=2) sc_read_poly.nd rfl (Or.inl rfl) (aB uI (hr.mono) rfl ql qU ub .nil (cq (λ_ _ _ z=>z)) (aa (pv 1) ac)))
   (ag (cn (bx (pv 1) R.cl pR uX (hr.mono) uv .nil (cq (λ_ _ _ z=>z))))
   (af (al (pv 2)))))),?_⟩
  refine aK ⟨_,rfl,λx dx hx hdx hne=>⟨x,dx,l,rfl,ai,hl,λH2 sb ra=>⟨rfl,?_⟩⟩⟩;have s2:Same H H2:=λb o e=>sb b o (aO e hx) (by rw[upd_ne (aO e hx),upd_ne (aO e hdx)];exact e)
  have toS:∀{H3:Hp},SameB x H2 H3->Same H H3:=λsb3 b o e=>sb3 b o (aO e hx) (s2 b o e)
  refine aK ⟨_,rfl,x,l.length,mks 0 l,rfl,ra,λc r hgo hst q H3 row sb3 ra3 hq eq trr hr9 hcf=>?_,λc r hgo hst H' d sb' ed=>k2 c r hgo (.inl hst) H' d (toS sb') ed⟩;obtain⟨dx3,pm3,d3,h13⟩:=ra3.ins;refine il ⟨_,rfl,x,dx3,_,rfl,h13,aU _ _ _ fZ.1 fZ.2.1 fZ.2.2.1 fZ.2.2.2,x,l.length,r,rfl,ra3,λz=>?_,λz H' d sb' ed=>k2 c r hgo (.inr z) H' d (toS (sb3.trans sb')) ed⟩;subst z;exact⟨_,rfl,k1 c hgo hst q H3 row (toS sb3) (s2.free hq) eq trr hr9 hcf⟩
theorem lc(m:List Nat):∀xs:List (List Nat),inV (.str (stL m)) (xs.map λx=>V.str (stL x))=decide (m∈xs)
 | []=>by simp[inV]
 |x::xs=>by
  show(eqV (.str (stL x)) (.str (stL m)) ||inV (.str (stL m)) (xs.map λx=>V.str (stL x)))=_;rw[bi,lc m xs,vY];simp only[Bool.or_eq_true,decide_eq_true_eq,vO];constructor
  ·rintro(h |h)
   ·exact .inl h.symm
   ·exact .inr h
  ·rintro(h |h)
   ·exact .inl h.symm
   ·exact .inr h
theorem rT(xs:List (List Nat)):(xs.map λx=>V.str (stL x)).all bW=true:=by rw[List.all_map];exact v4.mpr λ_ _=>rfl
noncomputable def kSP:List (List Nat):=[[43],[45],[42],[47],[94],[40],[41],[44],[46,46],[115,113,114,116],[99,98,114,116],[114,111,111,116],[120]]
theorem rg:List.map V.str [Str.ofString "+",Str.ofString "-",Str.ofString "*",Str.ofString "/",Str.ofString "^",Str.ofString "(",Str.ofString ")",Str.ofString ",",Str.ofString "..",Str.ofString "sqrt",Str.ofString "cbrt",Str.ofString "root",Str.ofString "x"]=kSP.map λx=>V.str (stL x):=by
 have e:[Str.ofString "+",Str.ofString "-",Str.ofString "*",Str.ofString "/",Str.ofString "^",Str.ofString "(",Str.ofString ")",Str.ofString ",",Str.ofString "..",Str.ofString "sqrt",Str.ofString "cbrt",Str.ofString "root",Str.ofString "x"]=kSP.map stL:=by decide +kernel
 rw[e,List.map_map];rfl
theorem nR{m:List Nat}{xs:List Str}{L:List (List Nat)}{H:Hp}{Q:V->Hp->Prop}(e:List.map V.str xs=L.map λx=>V.str (stL x))(hl:xs.length<=sizeLine)(h:∀pt H1,Same H H1->H1 pt=some (.tup (L.map λx=>V.str (stL x)))->Q (.bl (decide (m∈L))) H1):fN (cA xs) [] H λy H2=>rIn K false (.str (stL m)) y H2 Q:=by
 refine⟨by rw[vK];exact hl,λpt hpt=>?_⟩;have u1:=Same.upd_new (o:=.tup (List.map V.str xs)) hpt;have e1:upd H pt (.tup (List.map V.str xs)) pt=some (.tup (L.map λx=>V.str (stL x))):=by rw[ai,e]
 generalize upd H pt (.tup (List.map V.str xs))=H1 at u1 e1 ⊢
 refine⟨pt,_,rfl,.inr (SqT.of e1),rfl,rT _,?_⟩;show Q (.bl (inV _ _)) H1;rw[lc];exact h pt H1 u1 e1
noncomputable def gr:List Nat:=[110,117,109,98,101,114]
noncomputable def fk:List Nat:=[110,111,110,101]
noncomputable def iX:List Nat:=[110,97,109,101]
theorem kL:Str.ofString "number"=stL gr:=by decide +kernel
theorem iT:Str.ofString "none"=stL fk:=by decide +kernel
theorem qE:Str.ofString "name"=stL iX:=by decide +kernel
def Kd(m k:List Nat):Prop:=(k=gr↔isN m=true)/\∀c∈[43,45,42,94,120,44],(k=[c]↔m=[c])
theorem mI{c:Nat}{r:List Nat}(h:WfM (c::r))(hc:isD c=true):(c::r).all isD=true:=by have h1:=h.one;rw[bI,if_pos hc]at h1;have h2:(c::r).takeWhile isD=c::r:=(List.takeWhile_prefix isD).eq_of_length h1;have:=List.all_takeWhile (l:=c::r) (p:=isD);rw[h2]at this;exact this
theorem gm{m k:List Nat}(h1:m∉kSP)(h2:isN m=false)(hk:k=fk\/k=iX):Kd m k:=by
 refine⟨?_,λc hc=>?_⟩
 ·rw[h2];rcases hk with rfl |rfl<;>decide
 ·have hcc:∀c∈[43,45,42,94,120,44],[c]∈kSP:=by decide
  constructor
  ·intro z;rcases hk with rfl |rfl<;>cases z
  ·rintro rfl;exact absurd (hcc c hc) h1
def hU:Sp:=λvs H Q _=>∃m:List Nat,vs=[.str (stL m)]/\WfM m/\m.length<=1000/\∀k H',Same H H'->Kd m k->Q (.str (stL k)) H'
theorem pq{f:Addr}{fd:FuncData}(F:Fun K "_law_kind" "_law_kind" dN f fd)(T:Txt K mg):FnOk P w K mg base CX0 1 f fd ["_law_mark_here"] hU:=by
 refine F.ok nD (λvs H Q E h=>?_) (λcdv A outer s H vs Q E hr h=>?_)
 ·obtain⟨m,rfl,_⟩:=h;rfl
 ·obtain⟨m,rfl,hm,hl,kk⟩:=h;have big:=sizeLine_eq;obtain⟨c,r,rfl⟩:=we hm.ne;have hg:(c::r)[0]?=some c:=rfl
  refine⟨_,(ag (au (n9 (K:=K) rfl (pv 0) (.cons (.cons (.cons (.cons (.cons (.cons (.cons (.cons (.cons (.cons (.cons (.cons (.cons .nil))))))))))))))
   (af (al (pv 0)))
   ax)
   (ag (au (aj cr (ao bU (pv 0) ad (λ_ _=>rfl)) ae (by rfl))
     (af (al (ao (ay (K:=K) rfl) (aN (aa ae (aa ae ac))) (bp da (by rfl) T.int_ PyProof.Rows.boot_int (aa (bz (ba aL (ao bU (pv 0) ad (λ_ _=>rfl)) ae (ak _)) (bG (ba d7 (pv 0) ae (ak _)))) ac)) (λ_ _=>rfl))))
     ax)
   (ag (au (PW.pt (bn (aj cr (ao bU (pv 0) ad (λ_ _=>rfl)) ae (by rfl)) (bu (aj bR (aF bZ (by rfl) T.len_ PySem.boot_len (aa (pv 0) ac)) ad (ak _)))))
     (af (al ae))
     ax)
   (af (al ae))))),?_⟩
  refine aQ ⟨_,rfl,nR (K:=K) rg (by decide) λpt H1 u1 e1=>⟨_,rfl,?_⟩⟩;refine aq (λh1=>?_) (λh1=>?_)
  ·refine⟨_,rfl,kk (c::r) H1 u1 ⟨?_,λc _=>Iff.rfl⟩⟩;have:∀m∈kSP,(m=gr↔isN m=true):=by decide
   exact this _ h1
  refine aQ ⟨_,rfl,_,_,_,rfl,rfl,by rw[ap];omega,bF rfl hg,_,_,rfl,rfl,_,rfl,?_⟩;rw[StrLaws.found_one,fo];cases hD:isD c with
  |true =>
   refine aD ?_;have hall:=mI hm hD;refine aH ⟨by show 2<=sizeLine;decide,λp2 hp2=>?_⟩;have u2:=u1.then_new (o:=.lst [V.str (Str.ofString "number"),V.str (Str.ofString "none")]) hp2
   have fin:∀b:Bool,(b=true↔(c=48/\c::r≠[48]))->∃v,atI [V.str (Str.ofString "number"),V.str (Str.ofString "none")] (if b=true then 1 else 0)=some v/\Q v (upd H1 p2 (.lst [V.str (Str.ofString "number"),V.str (Str.ofString "none")])):=λb hb=>by
    cases b with
    |true =>refine⟨_,rfl,?_⟩;have hb':=hb.mp rfl;rw[iT];refine kk fk _ u2 (gm h1 ?_ (.inl rfl));unfold isN;rw[decide_eq_false hb'.2,hall,hb'.1];simp
    |false =>
     refine⟨_,rfl,?_⟩;have hb':¬(c=48/\c::r≠[48]):=λz=>by have:=hb.mpr z;cases this
     rw[kL];refine kk gr _ u2 ⟨⟨λ_=>?_,λ_=>rfl⟩,λd hd=>?_⟩
     ·unfold isN;rw[hall];by_cases h48:c=48
      ·have:c::r=[48]:=Classical.byContradiction λz=>hb' ⟨h48,z⟩
       rw[this];decide
      ·simp[h48]
     ·constructor
      ·intro z;cases z
      ·intro z;cases z;have:∀d∈[43,45,42,94,120,44],isD d=false:=by decide
       rw[this _ hd]at hD;cases hD
   have h0:(V.str ⟨#[c]⟩=V.str (Str.ofString "0"))↔c=48:=by
    rw[ek];constructor
    ·intro z;have z2:([c]:List Nat)=[48]:=congrArg (λs:Str=>s.cps.toList) (V.str.inj z);exact List.head_eq_of_cons_eq z2
    ·intro z;rw[z];rfl
   refine br ⟨_,rfl,_,_,c,rfl,rfl,by rw[ap];omega,bF rfl hg,rfl,_,rfl,aq (λz=>?_) (λz=>?_)⟩
   ·have hc:=h0.mp z;obtain⟨v,ev,qv⟩:=fin (decide (c::r≠[48])) (by rw[decide_eq_true_eq];exact⟨λy=>⟨hc,y⟩,λy=>y.2⟩)
    have e0:(!decide (V.str (stL (c::r))=V.str (Str.ofString "0")))=decide (c::r≠[48]):=by
     by_cases y:c::r=[48]
     ·rw[decide_eq_true (by rw[y,<- ek]),decide_eq_false (not_not_intro y)];rfl
     ·rw[decide_eq_false (λx=>y (stL_inj.mp ((V.str.inj x).trans ek))),decide_eq_true y];rfl
    refine⟨_,rfl,rfl,.inr ⟨_,rfl,p2,_,_,_,rfl,rfl,SqL.of ai,?_,qv⟩⟩;rw[e0];exact ev
   ·have hc:c≠48:=λy=>z (h0.mpr y)
    obtain⟨v,ev,qv⟩:=fin false ⟨λy=>(nomatch y),λy=>absurd y.1 hc⟩;exact .inr ⟨_,rfl,p2,_,_,_,rfl,rfl,SqL.of ai,ev,qv⟩
  |false =>
   refine aC ?_
   have hN:isN (c::r)=false:=by unfold isN;simp[hD]
   refine aQ (bg ⟨_,rfl,_,_,_,rfl,rfl,by rw[ap];omega,bF rfl hg,_,_,rfl,rfl,_,rfl,?_⟩);rw[StrLaws.found_one,fm];cases hA:isA c with
   |true =>
    refine aD ⟨_,rfl,_,rfl,by rw[ap];omega,_,_,rfl,rfl,_,rfl,aq (λ_=>?_) (λ_=>?_)⟩
    ·refine aH ?_;show Q _ _;rw[qE];exact kk iX H1 u1 (gm h1 hN (.inr rfl))
    ·refine aH ?_;show Q _ _;rw[iT];exact kk fk H1 u1 (gm h1 hN (.inl rfl))
   |false =>refine aC (aC (aH ?_));show Q _ _;rw[iT];exact kk fk H1 u1 (gm h1 hN (.inl rfl))
def gT:Sp:=λvs H Q _=>∃m:List Nat,vs=[.str (stL m)]/\m.length<=1000/\Q (.bl (isE m)) H
theorem rC(c:Nat):decide (c∈(Str.ofString "012345678").cps.toList)=(decide (48<=c)&&decide (c<=56)):=by
 have e:(Str.ofString "012345678").cps.toList=[48,49,50,51,52,53,54,55,56]:=by decide +kernel
 rw[e,vY,decide_eq_true_eq];simp only[vO,v0,or_false,vV,decide_eq_true_eq];omega
theorem pc{f:Addr}{fd:FuncData}(F:Fun K "_law_small" "_law_small" dG f fd)(T:Txt K mg):FnOk P w K mg base CX0 1 f fd ["_law_mark_here"] gT:=by
 refine F.ok nC (λvs H Q E h=>?_) (λcdv A outer s H vs Q E hr h=>?_)
 ·obtain⟨m,rfl,_⟩:=h;rfl
 ·obtain⟨m,rfl,hl,kk⟩:=h;have big:=sizeLine_eq;refine⟨_,(af (al (bz (ba cu (aF bZ (by rfl) T.len_ PySem.boot_len (aa (pv 0) ac)) ad (ak _)) (bG (ba cr (pv 0) ae (by rfl)))))),?_⟩;refine aH (br ⟨_,rfl,_,rfl,by rw[ap];omega,_,_,rfl,rfl,_,rfl,aq (λh1=>?_) (λh1=>?_)⟩)
  ·rw[ap]at h1;have h1':m.length=1:=by have:(m.length:Int)=1:=h1;omega
   match m,h1' with
   | [c],_ =>
    refine⟨_,rfl,_,_,rfl,rfl,?_⟩;have e1:isE [c]=(decide (48<=c)&&decide (c<=56)):=by unfold isE;simp
    rw[e1]at kk;rw[show stL [c]=⟨#[c]⟩from rfl,StrLaws.found_one,rC];exact kk
  ·rw[ap]at h1;have h1':¬m.length=1:=by have:¬(m.length:Int)=1:=h1;omega
   have e1:isE m=false:=by unfold isE;rw[decide_eq_false h1'];rfl
   rw[e1]at kk;exact kk
noncomputable def psS:PSt->Str
 |.p0=>Str.ofString "p0"
 |.p1=>Str.ofString "p1"
 |.pm=>Str.ofString "pm"
 |.pe=>Str.ofString "pe"
 |.pn=>Str.ofString "pn"
 |.px=>Str.ofString "px"
 |.pd=>Str.ofString "pd"
theorem dc(a b:V)(c:Bool):atI [a,b] (if c=true then(1:Int)else 0)=some (if c=true then b else a):=by cases c<;>rfl
theorem aX{m l:List Nat}{z:Str}(h:z=stL l):(V.str (stL m)=V.str z)↔m=l:=by rw[h];exact⟨λe=>stL_inj.mp (V.str.inj e),λe=>by rw[e]⟩
theorem eQ{s s':PSt}(h:s≠s'):V.str (psS s)≠V.str (psS s'):=λe=>by have:=V.str.inj e;revert this;cases s<;>cases s'<;>first |exact absurd rfl h |decide +kernel
theorem lh(s:PSt):inV (.str (psS s)) [.str (Str.ofString "p0"),.str (Str.ofString "p1")]=(decide (s=.p0) ||decide (s=.p1)):=by cases s<;>decide +kernel
def g6:Sp:=λvs H Q _=>∃(st:PSt) (m:List Nat),vs=[.str (psS st),.str (stL m)]/\WfM m/\m.length<=1000/\(∀s' H',Same H H'->nxt st m=some s'->Q (.str (psS s')) H')/\(∀H',Same H H'->nxt st m=none->Q (.str (Str.ofString "")) H'/\Q (.str (Str.ofString "l0")) H')
theorem pk{f:Addr}{fd:FuncData}(F:Fun K "_law_next_in_poly" "_law_next_in_poly" dL f fd)(T:Txt K mg){tq:Addr}{sA:FuncData}(vw:Cal P w K mg base 1 "_law_kind" ["_law_mark_here"] hU tq sA){sW:Addr}{ss:FuncData}(vo:Cal P w K mg base 1 "_law_small" ["_law_mark_here"] gT sW ss):FnOk P w K mg base CX0 2 f fd ["_law_state","_law_mark_here"] g6:=by
 obtain⟨uU,qA,rd,ur⟩:=vw;obtain⟨uR,qx,q9,um⟩:=vo;refine F.ok sc__law_next_in_poly (λvs H Q E h=>?_) (λcdv A outer s H vs Q E hr h=>?_)
 ·obtain⟨st,m,rfl,_⟩:=h;rfl
 ·obtain⟨st,m,rfl,hm,hl,k1,k2⟩:=h;have big:=sizeLine_eq
  refine⟨_,(ag (ar (i:=2) sc__law_next_in_poly.nd rfl (Or.inl rfl) (aB uU (hr.mono) rfl qA rd ur .nil av (aa (pv 1) ac)))
   (ag (au (aj (d8 (K:=K) rfl) (pv 0) (bv (aa ae (aa ae ac))) (by rfl))
     (ag (au (aj aL (pv 2) ae (ak _))
       (af (al ae))
       ax)
       (ag (au (aj aL (pv 2) ae (ak _))
         (af (al ae))
         ax)
       (af (al (ao (ay (K:=K) rfl) (aN (aa ae (aa ae ac))) (bp da (by rfl) T.int_ PyProof.Rows.boot_int (aa (bz (ba aL (pv 2) ae (ak _)) (bG (ba aL (pv 0) ae (ak _)))) ac)) (λ_ _=>rfl))))))
     ax)
   (ag (au (aj aL (pv 0) ae (ak _))
     (af (al (ao (ay (K:=K) rfl) (aN (aa ae (aa ae ac))) (bp da (by rfl) T.int_ PyProof.Rows.boot_int (aa (ba aL (pv 2) ae (ak _)) ac)) (λ_ _=>rfl))))
     ax)
   (ag (au (aj aL (pv 0) ae (ak _))
     (af (al (ao (ay (K:=K) rfl) (aN (aa ae (aa ae ac))) (bp da (by rfl) T.int_ PyProof.Rows.boot_int (aa (aB uR (hr.mono) rfl qx q9 um .nil av (aa (pv 1) ac)) ac)) (λ_ _=>rfl))))
     ax)
   (ag (au (PW.pt (bn (aj aL (pv 2) ae (ak _)) (bu (aj aL (pv 0) ae (ak _)))))
     (af (al ae))
     ax)
   (ag (au (PW.pt (bn (aj aL (pv 2) ae (ak _)) (bu (aj aL (pv 0) ae (ak _)))))
     (af (al ae))
     ax)
   (ag (au (aj (d8 (K:=K) rfl) (pv 2) (bv (aa ae (aa ae ac))) (by rfl))
     (af (al ae))
     ax)
   (af (al (ao (ay (K:=K) rfl) (aN (aa ae (aa ae ac))) (bp da (by rfl) T.int_ PyProof.Rows.boot_int (aa (ba aL (pv 2) ae (ak _)) ac)) (λ_ _=>rfl))))))))))),?_⟩
  refine aK ⟨_,rfl,m,rfl,hm,hl,λk H1 s1 hk=>?_⟩;have kx:∀c∈[43,45,42,94,120,44],(k=[c]↔m=[c]):=hk.2;have e120:(V.str (stL k)=V.str (Str.ofString "x"))↔m=[120]:=(aX fg).trans (kx 120 (by decide));have e45:(V.str (stL k)=V.str (Str.ofString "-"))↔m=[45]:=(aX cS).trans (kx 45 (by decide));have e42:(V.str (stL k)=V.str (Str.ofString "*"))↔m=[42]:=(aX fh).trans (kx 42 (by decide));have e94:(V.str (stL k)=V.str (Str.ofString "^"))↔m=[94]:=(aX gj).trans (kx 94 (by decide));have eN:(V.str (stL k)=V.str (Str.ofString "number"))↔isN m=true:=(aX kL).trans hk.1
  have eS:(decide (k=[43]) ||decide (k=[45]))=decide (m=[43]\/m=[45]):=by rw[vY,Bool.or_eq_true,decide_eq_true_eq,decide_eq_true_eq,decide_eq_true_eq,kx 43 (by decide),kx 45 (by decide)]
  show aV _ _ _ _ _;refine cm (λσ' H'=>σ'=[some (.str (psS st)),some (.str (stL m)),some (.str (stL k))]/\Same H H') ⟨rfl,s1⟩ ?_;clear s1 H1;rintro σ' H1 ⟨rfl,s1⟩;refine aQ ⟨_,rfl,by show 2<=sizeLine;decide,λpt hpt=>?_⟩;have u2:=s1.then_new (o:=.tup [V.str (Str.ofString "p0"),V.str (Str.ofString "p1")]) hpt;refine⟨pt,_,rfl,.inr (SqT.of ai),rfl,by decide,_,rfl,?_⟩;generalize upd H1 pt (.tup [V.str (Str.ofString "p0"),V.str (Str.ofString "p1")])=H2 at u2 ⊢
  show if inV (.str (psS st)) [.str (Str.ofString "p0"),.str (Str.ofString "p1")]=true then _ else _
  rw[lh];clear s1 hpt;by_cases h01:st=.p0\/st=.p1
  ·rw[show(decide (st=.p0) ||decide (st=.p1))=true by rcases h01 with z |z<;>simp[z]];refine aD ?_;refine aQ ⟨_,rfl,rfl,_,rfl,aq (λz=>?_) (λz=>?_)⟩
   ·have hN:=eN.mp z;refine aH (k1 .pn H2 u2 ?_);rcases h01 with rfl |rfl<;>(show(if isN m=true then _ else _)=_;rw[if_pos hN])
   have hN:¬isN m=true:=λy=>z (eN.mpr y)
   refine aQ ⟨_,rfl,rfl,_,rfl,aq (λz=>?_) (λz=>?_)⟩
   ·have hx:=e120.mp z;refine aH (k1 .px H2 u2 ?_);rcases h01 with rfl |rfl<;>(show(if isN m=true then _ else _)=_;rw[if_neg hN,if_pos hx])
   have hx:¬m=[120]:=λy=>z (e120.mpr y)
   refine aH ⟨by show 2<=sizeLine;decide,λp2 hp2=>?_⟩;have u3:=u2.then_new (o:=.lst [V.str (Str.ofString ""),V.str (Str.ofString "p1")]) hp2;refine br ⟨_,rfl,rfl,_,rfl,aq (λz=>?_) (λz=>?_)⟩
   ·have h45:=e45.mp z;refine⟨_,rfl,rfl,.inr ⟨_,rfl,p2,_,_,_,rfl,rfl,SqL.of ai,dc _ _ _,?_⟩⟩;rcases h01 with rfl |rfl
    ·show Q (if decide (V.str (psS .p0)=V.str (psS .p0))=true then _ else _) _;rw[decide_eq_true rfl];refine k1 .p1 _ u3 ?_;show(if isN m=true then _ else _)=_;rw[if_neg hN,if_neg hx,if_pos h45]
    ·show Q (if decide (V.str (psS .p1)=V.str (psS .p0))=true then _ else _) _;rw[decide_eq_false (eQ (s:=.p1) (s':=.p0) (by decide))];refine(k2 _ u3 ?_).1;show(if isN m=true then _ else _)=_;rw[if_neg hN,if_neg hx]
   ·have h45:¬m=[45]:=λy=>z (e45.mpr y)
    refine .inr ⟨_,rfl,p2,_,_,_,rfl,rfl,SqL.of ai,dc _ _ _,?_⟩;refine(k2 _ u3 ?_).1;rcases h01 with rfl |rfl
    ·show(if isN m=true then _ else _)=_;rw[if_neg hN,if_neg hx,if_neg h45]
    ·show(if isN m=true then _ else _)=_;rw[if_neg hN,if_neg hx]
  have h0:st≠.p0:=λz=>h01 (.inl z)
  have h1:st≠.p1:=λz=>h01 (.inr z)
  rw[show(decide (st=.p0) ||decide (st=.p1))=false by simp[h0,h1]];refine aC ?_;refine aQ ⟨_,rfl,rfl,_,rfl,aq (λz=>?_) (λz=>?_)⟩
  ·obtain rfl:st=.pm:=Classical.byContradiction λy=>eQ (s':=.pm) y z
   refine aH ⟨by show 2<=sizeLine;decide,λp2 hp2=>?_⟩;have u3:=u2.then_new (o:=.lst [V.str (Str.ofString ""),V.str (Str.ofString "px")]) hp2;refine⟨_,rfl,rfl,.inr ⟨_,rfl,p2,_,_,_,rfl,rfl,SqL.of ai,dc _ _ _,?_⟩⟩;by_cases hx:m=[120]
   ·rw[decide_eq_true (e120.mpr hx)];refine k1 .px _ u3 ?_;show(if m=[120]then _ else _)=_;rw[if_pos hx]
   ·rw[decide_eq_false (λy=>hx (e120.mp y))];refine(k2 _ u3 ?_).1;show(if m=[120]then _ else _)=_;rw[if_neg hx]
  have hpm:st≠.pm:=λy=>z (by rw[y];rfl)
  refine aQ ⟨_,rfl,rfl,_,rfl,aq (λz=>?_) (λz=>?_)⟩
  ·obtain rfl:st=.pe:=Classical.byContradiction λy=>eQ (s':=.pe) y z
   refine aH ⟨by show 2<=sizeLine;decide,λp2 hp2=>?_⟩;have u3:=u2.then_new (o:=.lst [V.str (Str.ofString ""),V.str (Str.ofString "pd")]) hp2;refine⟨_,rfl,m,rfl,hl,.inr ⟨_,rfl,p2,_,_,_,rfl,rfl,SqL.of ai,dc _ _ _,?_⟩⟩;cases hE:isE m with
   |true =>refine k1 .pd _ u3 ?_;show(if isE m=true then _ else _)=_;rw[if_pos hE]
   |false =>refine(k2 _ u3 ?_).1;show(if isE m=true then _ else _)=_;rw[if_neg (by rw[hE];decide)]
  have hpe:st≠.pe:=λy=>z (by rw[y];rfl)
  have h3:st=.pn\/st=.px\/st=.pd:=by
   cases st
   ·exact absurd rfl h0
   ·exact absurd rfl h1
   ·exact absurd rfl hpm
   ·exact absurd rfl hpe
   ·exact .inl rfl
   ·exact .inr (.inl rfl)
   ·exact .inr (.inr rfl)
  have nS:m=[43]\/m=[45]->nxt st m=some .p1:=λy=>by rcases h3 with rfl |rfl |rfl<;>rcases y with rfl |rfl<;>decide
  have nn:(st=.pn->m≠[42])->(st=.px->m≠[94])->¬(m=[43]\/m=[45])->nxt st m=none:=λa b c=>by
   rcases h3 with rfl |rfl |rfl
   ·show(if m=[42]then _ else _)=_;rw[if_neg (a rfl),if_neg c]
   ·show(if m=[94]then _ else _)=_;rw[if_neg (b rfl),if_neg c]
   ·show(if _ then _ else _)=_;rw[if_neg c]
  refine bf (λσ' H'=>σ'=[some (.str (psS st)),some (.str (stL m)),some (.str (stL k))]/\H2=H'/\(st=.pn->m≠[42])) ?_ (λrest=>bg ⟨_,rfl,rfl,_,rfl,aq (λzz=>⟨_,rfl,rfl,_,rfl,aq (λy=>?_) (λy=>?_)⟩) (λzz=>?_)⟩)
  rotate_left
  ·obtain rfl:st=.pn:=Classical.byContradiction λx=>eQ (s':=.pn) x y
   refine aH (k1 .pm H2 u2 ?_);show(if m=[42]then _ else _)=_;rw[if_pos (e42.mp zz)]
  ·exact rest _ _ ⟨rfl,rfl,λx=>absurd (by rw[x];rfl) y⟩
  ·exact rest _ _ ⟨rfl,rfl,λ_ x=>zz (e42.mpr x)⟩
  rintro σ' H' ⟨rfl,rfl,hn1⟩;refine bf (λσ' H'=>σ'=[some (.str (psS st)),some (.str (stL m)),some (.str (stL k))]/\H2=H'/\(st=.px->m≠[94])) ?_ (λrest=>bg ⟨_,rfl,rfl,_,rfl,aq (λzz=>⟨_,rfl,rfl,_,rfl,aq (λy=>?_) (λy=>?_)⟩) (λzz=>?_)⟩)
  rotate_left
  ·obtain rfl:st=.px:=Classical.byContradiction λx=>eQ (s':=.px) x y
   refine aH (k1 .pe H2 u2 ?_);show(if m=[94]then _ else _)=_;rw[if_pos (e94.mp zz)]
  ·exact rest _ _ ⟨rfl,rfl,λx=>absurd (by rw[x];rfl) y⟩
  ·exact rest _ _ ⟨rfl,rfl,λ_ x=>zz (e94.mpr x)⟩
  rintro σ' H' ⟨rfl,rfl,hn2⟩;refine aQ ⟨_,rfl,by show 2<=sizeLine;decide,λpt hpt=>?_⟩;have u3:=u2.then_new (o:=.tup [V.str (Str.ofString "+"),V.str (Str.ofString "-")]) hpt;refine⟨pt,_,rfl,.inr (SqT.of ai),rfl,by decide,_,rfl,?_⟩;generalize upd H2 pt (.tup [V.str (Str.ofString "+"),V.str (Str.ofString "-")])=H3 at u3 ⊢
  show if inV (.str (stL k)) [.str (Str.ofString "+"),.str (Str.ofString "-")]=true then _ else _
  rw[lf,eS];refine aq (λz=>aH (k1 .p1 H3 u3 (nS z))) (λz=>?_);refine aH ⟨by show 2<=sizeLine;decide,λp2 hp2=>?_⟩;have u4:=u3.then_new (o:=.lst [V.str (Str.ofString ""),V.str (Str.ofString "l0")]) hp2;refine⟨_,rfl,rfl,.inr ⟨_,rfl,p2,_,_,_,rfl,rfl,SqL.of ai,dc _ _ _,?_⟩⟩;have hQ:=k2 _ u4 (nn hn1 hn2 z);show Q (if _ then _ else _) _;split
  ·exact hQ.2
  ·exact hQ.1
noncomputable def glT(T m:List Nat):Bool:=match T.getLast?,m.head? with
 |some a,some b=>glu a b
 |_,_=>false
theorem pP{T m:List Nat}(h:glT T m=false):bC T m:=λa b ha hb=>by
 unfold glT at h
 rw[ha,hb]at h;exact h
theorem lg(c:Nat):decide (c∈(Str.ofString ".").cps.toList)=decide (c=46):=by
 have e:(Str.ofString ".").cps.toList=[46]:=by decide +kernel
 rw[e];simp
theorem uy{l:List Nat}{a:Nat}(h:l.getLast?=some a):atI (stL l).cps.toList (-1)=some a:=by
 have hne:l≠[]:=λz=>by rw[z]at h;cases h
 have e:l=l.dropLast++[a]:=by rw[List.getLast?_eq_some_getLast hne]at h;rw[<- Option.some.inj h];exact(List.dropLast_concat_getLast hne).symm
 rw[cF,e];exact uz _ _
def hZ:Sp:=λvs H Q _=>∃T m:List Nat,vs=[.str (stL T),.str (stL m)]/\m≠[]/\T.length<=1000/\m.length<=1000/\∀H',Same H H'->Q (.bl (glT T m)) H'
theorem pw{f:Addr}{fd:FuncData}(F:Fun K "_law_glued" "_law_glued" dO f fd)(T:Txt K mg):FnOk P w K mg base CX0 1 f fd ["_law_text","_law_mark_here"] hZ:=by
 refine F.ok sc__law_glued (λvs H Q E h=>?_) (λcdv A outer s H vs Q E hr h=>?_)
 ·obtain⟨l,m,rfl,_⟩:=h;rfl
 ·obtain⟨l,m,rfl,hm,hl,hml,kk⟩:=h;have big:=sizeLine_eq;obtain⟨b,r,rfl⟩:=we hm;have hg:(b::r)[0]?=some b:=rfl
  refine⟨_,(ag (au (aj aL (pv 0) ae (ak _))
   (af (al bH))
   ax)
   (ag (eR PassesOwn.never rfl (jX (K:=K) rfl (bv (aa ae (aa ae (aa ae ac))))) (cL (i:=2) sc__law_glued.nd rfl (Or.inl rfl))
     (af (au (PW.pt (bn (aj cr (ao bU (pv 0) (eU ez ad) (λ_ _=>rfl)) (pv 2) (by rfl)) (bu (aj cr (ao bU (pv 1) ad (λ_ _=>rfl)) (pv 2) (by rfl)))))
       (af (al bH))
       ax)))
   (af (al bH)))),?_⟩
  refine aQ ⟨_,rfl,rfl,_,rfl,aq (λz=>?_) (λz=>?_)⟩
  ·have hl0:l=[]:=stL_inj.mp ((V.str.inj z).trans eh);subst hl0;exact aH (kk H (Same.refl _))
  have hl0:l≠[]:=λy=>z (by rw[y,<- eh])
  obtain⟨a,ha⟩:∃a,l.getLast?=some a:=⟨_,List.getLast?_eq_some_getLast hl0⟩;have hG:glT l (b::r)=glu a b:=by unfold glT;rw[ha];rfl
  rw[hG]at kk;have hat:=uy ha;refine⟨by show 3<=sizeLine;decide,λpt hpt=>?_⟩;have s1:=Same.upd_new (o:=.tup [V.str (Str.ofString "0123456789"),V.str (Str.ofString "abcdefghijklmnopqrstuvwxyz"),V.str (Str.ofString ".")]) hpt;have e1:upd H pt (.tup [V.str (Str.ofString "0123456789"),V.str (Str.ofString "abcdefghijklmnopqrstuvwxyz"),V.str (Str.ofString ".")]) pt=some (.tup [V.str (Str.ofString "0123456789"),V.str (Str.ofString "abcdefghijklmnopqrstuvwxyz"),V.str (Str.ofString ".")]):=ai;generalize upd H pt (.tup [V.str (Str.ofString "0123456789"),V.str (Str.ofString "abcdefghijklmnopqrstuvwxyz"),V.str (Str.ofString ".")])=H1 at s1 e1 ⊢
  refine⟨pt,rfl,⟨_,SqT.of e1⟩,lp (K:=K) (a:=pt) (xs:=[V.str (Str.ofString "0123456789"),V.str (Str.ofString "abcdefghijklmnopqrstuvwxyz"),V.str (Str.ofString ".")]) (λj σ' H'=>∃z2:Option V,σ'=[some (.str (stL l)),some (.str (stL (b::r))),z2]/\H1=H'/\(1<=j->(isD a&&isD b)=false)/\(2<=j->(isA a&&isA b)=false)/\(3<=j->(decide (a=46)&&decide (b=46))=false)) ⟨none,rfl,rfl,(λh=>absurd h (by decide)),(λh=>absurd h (by decide)),(λh=>absurd h (by decide))⟩ ?_ ?_ ?_⟩
  ·rintro j σ' H' _ ⟨z2,rfl,rfl,_⟩;exact SqT.of e1
  ·rintro j x σ' H' hj ⟨z2,rfl,rfl,c1,c2,c3⟩;have hj2:j<3:=(List.getElem?_eq_some_iff.mp hj).1;have:j=0\/j=1\/j=2:=by omega
   rcases this with rfl |rfl |rfl
   ·obtain rfl:V.str (Str.ofString "0123456789")=x:=Option.some.inj hj;refine aY (bg ⟨_,rfl,_,rfl,_,_,_,rfl,rfl,by rw[ap];omega,hat,_,rfl,_,_,rfl,rfl,_,rfl,?_⟩);rw[StrLaws.found_one,fo];cases hp:isD a with
    |false =>
     have e:(isD a&&isD b)=false:=by rw[hp];rfl
     exact aC (aC ⟨_,rfl,rfl,λ_=>rfl,λh=>absurd h (by decide),λh=>absurd h (by decide)⟩)
    |true =>
     refine aD ⟨_,rfl,_,_,_,rfl,rfl,by rw[ap];omega,bF rfl hg,_,rfl,_,_,rfl,rfl,_,rfl,?_⟩;rw[StrLaws.found_one,fo];cases hq:isD b with
     |false =>
      have e:(isD a&&isD b)=false:=by rw[hp,hq];rfl
      exact aC ⟨_,rfl,rfl,λ_=>rfl,λh=>absurd h (by decide),λh=>absurd h (by decide)⟩
     |true =>
      have e:glu a b=true:=by unfold glu;rw[show(isD a&&isD b)=true by rw[hp,hq];rfl];simp
      rw[e]at kk;exact aD (aH (kk H1 s1))
   ·obtain rfl:V.str (Str.ofString "abcdefghijklmnopqrstuvwxyz")=x:=Option.some.inj hj;refine aY (bg ⟨_,rfl,_,rfl,_,_,_,rfl,rfl,by rw[ap];omega,hat,_,rfl,_,_,rfl,rfl,_,rfl,?_⟩);rw[StrLaws.found_one,fm];cases hp:isA a with
    |false =>
     have e:(isA a&&isA b)=false:=by rw[hp];rfl
     exact aC (aC ⟨_,rfl,rfl,λ_=>c1 (by decide),λ_=>rfl,λh=>absurd h (by decide)⟩)
    |true =>
     refine aD ⟨_,rfl,_,_,_,rfl,rfl,by rw[ap];omega,bF rfl hg,_,rfl,_,_,rfl,rfl,_,rfl,?_⟩;rw[StrLaws.found_one,fm];cases hq:isA b with
     |false =>
      have e:(isA a&&isA b)=false:=by rw[hp,hq];rfl
      exact aC ⟨_,rfl,rfl,λ_=>c1 (by decide),λ_=>rfl,λh=>absurd h (by decide)⟩
     |true =>
      have e:glu a b=true:=by unfold glu;rw[show(isA a&&isA b)=true by rw[hp,hq];rfl];simp
      rw[e]at kk;exact aD (aH (kk H1 s1))
   ·obtain rfl:V.str (Str.ofString ".")=x:=Option.some.inj hj;refine aY (bg ⟨_,rfl,_,rfl,_,_,_,rfl,rfl,by rw[ap];omega,hat,_,rfl,_,_,rfl,rfl,_,rfl,?_⟩);rw[StrLaws.found_one,lg];cases hp:decide (a=46)with
    |false =>
     have e:(decide (a=46)&&decide (b=46))=false:=by rw[hp];rfl
     exact aC (aC ⟨_,rfl,rfl,λ_=>c1 (by decide),λ_=>c2 (by decide),λ_=>rfl⟩)
    |true =>
     refine aD ⟨_,rfl,_,_,_,rfl,rfl,by rw[ap];omega,bF rfl hg,_,rfl,_,_,rfl,rfl,_,rfl,?_⟩;rw[StrLaws.found_one,lg];cases hq:decide (b=46)with
     |false =>
      have e:(decide (a=46)&&decide (b=46))=false:=by rw[hp,hq];rfl
      exact aC ⟨_,rfl,rfl,λ_=>c1 (by decide),λ_=>c2 (by decide),λ_=>rfl⟩
     |true =>
      have e:glu a b=true:=by unfold glu;rw[show(decide (a=46)&&decide (b=46))=true by rw[hp,hq];rfl];simp
      rw[e]at kk;exact aD (aH (kk H1 s1))
  ·rintro σ' H' ⟨z2,rfl,rfl,c1,c2,c3⟩
   have e:glu a b=false:=by unfold glu;rw[c1 (by decide),c2 (by decide),c3 (by decide)];rfl
   rw[e]at kk;dsimp only
   exact aH (kk H1 s1)
theorem b30:Bits 100 (10^30):=by show((10:Int)^30).natAbs<2^100;decide +kernel
theorem gB{xs:List V}{n:Int}(hn:n=xs.length)(h:0<n)(c:Int):∃v,v∈xs/\atI xs (c%n)=some v:=by
 have h1:=wf c (Int.ne_of_gt h);have h2:=wn c h;obtain⟨j,hj⟩:=Int.eq_ofNat_of_zero_le h1;have hl:j<xs.length:=by omega
 refine⟨xs[j],List.getElem_mem hl,?_⟩;rw[hj];exact cb (by simp[hl])
def MkS(z:Str):Prop:=WfM z.cps.toList/\z.cps.toList.length<=25
instance:DecidablePred MkS:=λz=>inferInstanceAs (Decidable (_/\_))
theorem nc(z:Str):stL z.cps.toList=z:=by cases z;simp[stL]
theorem ku(n:Nat)(h:n<10^20):MkS (stL (aR n)):=by refine⟨by rw[cF];exact mH n,?_⟩;rw[cF];have:=(j3 19 n h).1;omega
def gQ:Sp:=λvs H Q _=>∃c:Int,vs=[.int c]/\∀z H',Same H H'->MkS z->Q (.str z) H'
theorem mG:∀z∈[Str.ofString "+",Str.ofString "-",Str.ofString "*",Str.ofString "/",Str.ofString "^",Str.ofString "(",Str.ofString ")",Str.ofString ",",Str.ofString "..",Str.ofString "sqrt",Str.ofString "cbrt",Str.ofString "root",Str.ofString "x",Str.ofString "007",Str.ofString "00",Str.ofString ".",Str.ofString "A"],MkS z:=by decide +kernel
theorem mF:∀z∈[Str.ofString "abcdefghi",Str.ofString "abcdefgh",Str.ofString "9",Str.ofString "12",Str.ofString "0",Str.ofString "sqrtx",Str.ofString "$",Str.ofString "\n",Str.ofString "xx",Str.ofString "8",Str.ofString "_",Str.ofString "=",Str.ofString "roots"],MkS z:=by decide +kernel
theorem o8{f:Addr}{fd:FuncData}(F:Fun K "_law_wild" "_law_wild" dD f fd)(T:Txt K mg):FnOk P w K mg base CX0 1 f fd ["_law_cell_here"] gQ:=by
 refine F.okZ sc__law_wild (λvs H Q E h=>?_) (λcdv A outer s H vs Q E hr h=>?_)
 ·obtain⟨c,rfl,_⟩:=h;rfl
 ·obtain⟨c,rfl,kk⟩:=h;have big:=sizeLine_eq;refine⟨_,(oa (i:=1) sc__law_wild.nd rfl (Or.inl rfl) (.cons (.cons (.cons (.cons (.cons (.cons (.cons (.cons (.cons (.cons (.cons (.cons (.cons (.cons (.cons (.cons (.cons .nil))))))))))))))))) (oh (i:=1) sc__law_wild.nd rfl (Or.inl rfl) (pv 1) (.cons (.cons (.cons (.cons (.cons (.cons (.cons (.cons (.cons (.cons (.cons (.cons (.cons .nil))))))))))))) (og (af (al (ao (ay (K:=K) rfl) (pv 1) (am bh (pv 0) ad) (λ_ _=>rfl))))))),?_⟩;have h1:=mG;have h2:=mF;refine aK ⟨by rw[vK];show 17<=sizeLine;decide,λp1 hp1=>?_⟩;have hn1:([Str.ofString "+",Str.ofString "-",Str.ofString "*",Str.ofString "/",Str.ofString "^",Str.ofString "(",Str.ofString ")",Str.ofString ",",Str.ofString "..",Str.ofString "sqrt",Str.ofString "cbrt",Str.ofString "root",Str.ofString "x",Str.ofString "007",Str.ofString "00",Str.ofString ".",Str.ofString "A"]:List Str).length=17:=rfl;have hn2:([Str.ofString "abcdefghi",Str.ofString "abcdefgh",Str.ofString "9",Str.ofString "12",Str.ofString "0",Str.ofString "sqrtx",Str.ofString "$",Str.ofString "\n",Str.ofString "xx",Str.ofString "8",Str.ofString "_",Str.ofString "=",Str.ofString "roots"]:List Str).length=13:=rfl;generalize [Str.ofString "+",Str.ofString "-",Str.ofString "*",Str.ofString "/",Str.ofString "^",Str.ofString "(",Str.ofString ")",Str.ofString ",",Str.ofString "..",Str.ofString "sqrt",Str.ofString "cbrt",Str.ofString "root",Str.ofString "x",Str.ofString "007",Str.ofString "00",Str.ofString ".",Str.ofString "A"]=L1 at h1 hn1 ⊢
  have s1:=Same.upd_new (o:=.lst (L1.map V.str)) hp1;have e1:upd H p1 (.lst (L1.map V.str)) p1=some (.lst (L1.map V.str)):=ai;generalize upd H p1 (.lst (L1.map V.str))=H1 at s1 e1 ⊢
  refine aK ⟨_,rfl,by rw[vK];show 13<=sizeLine;decide,λp2 hp2=>?_⟩;generalize [Str.ofString "abcdefghi",Str.ofString "abcdefgh",Str.ofString "9",Str.ofString "12",Str.ofString "0",Str.ofString "sqrtx",Str.ofString "$",Str.ofString "\n",Str.ofString "xx",Str.ofString "8",Str.ofString "_",Str.ofString "=",Str.ofString "roots"]=L2 at h2 hn2 ⊢
  have s2:=s1.then_new (o:=.lst (L2.map V.str)) hp2;have e2:upd H1 p2 (.lst (L2.map V.str)) p2=some (.lst (L2.map V.str)):=ai;have e1':=(Same.upd_new (o:=.lst (L2.map V.str)) hp2) _ _ e1;generalize upd H1 p2 (.lst (L2.map V.str))=H2 at s2 e2 e1' ⊢
  refine⟨p1,p2,_,_,rfl,rfl,e1',e2,by rw[vK,vK,hn1,hn2];decide,λp3 hp3=>?_⟩;have s3:=s2.then_new (o:=.lst (L1.map V.str++L2.map V.str)) hp3;have hlen:(L1.map V.str++L2.map V.str).length=30:=by rw[vM,vK,vK,hn1,hn2]
  obtain⟨v,hv,ev⟩:=gB (xs:=L1.map V.str++L2.map V.str) (n:=30) (by rw[hlen];rfl) (by decide) c;refine aH ⟨_,rfl,_,rfl,_,_,rfl,rfl,(by show(0:Int)<30;decide),p3,_,_,_,rfl,rfl,SqL.of ai,ev,?_⟩;rcases v1.mp hv with hv |hv
  ·obtain⟨z,hz,rfl⟩:=List.mem_map.mp hv;exact kk z _ s3 (h1 z hz)
  ·obtain⟨z,hz,rfl⟩:=List.mem_map.mp hv;exact kk z _ s3 (h2 z hz)
def Som(H:Hp)(p:Addr):Prop:=∃xs:List V,H p=some (.lst xs)/\xs≠[]/\xs.length<=4/\∀x∈xs,∃z,x=.str z/\MkS z
def g7:Sp:=λvs H Q _=>∃(st:PSt) (c wd:Int),vs=[.str (psS st),.int c,.int wd]/\0<=wd/\wd<=40/\∀z H',Same H H'->MkS z->Q (.str z) H'
theorem pY:MkS (Str.ofString "+")/\MkS (Str.ofString "-")/\MkS (Str.ofString "*")/\MkS (Str.ofString "^")/\MkS (Str.ofString "x"):=by decide +kernel
theorem pp{f:Addr}{fd:FuncData}(F:Fun K "_law_mark" "_law_mark" dM f fd)(T:Txt K mg){sU:Addr}{sq:FuncData}(vm:Cal P w K mg base 1 "_law_wild" ["_law_cell_here"] gQ sU sq):FnOk P w K mg base CX0 2 f fd ["_law_state","_law_cell_here","_law_wild_here"] g7:=by
 obtain⟨uP,qu,q5,uk⟩:=vm;refine F.ok sc__law_mark (λvs H Q E h=>?_) (λcdv A outer s H vs Q E hr h=>?_)
 ·obtain⟨st,c,wd,rfl,_⟩:=h;rfl
 ·obtain⟨st,c,wd,rfl,hw,hw2,kk⟩:=h;have bw:Bits 9000 wd:=Bits.mono (j:=6) (by show wd.natAbs<2^6;omega) (by decide);have sm:∀n:Int,0<=n->n<1000->Bits 9000 n:=λn a b=>Bits.mono (j:=10) (by show n.natAbs<2^10;omega) (by decide)
  have big:=sizeLine_eq;obtain⟨m1,m2,m3,m4,m5⟩:=pY
  refine⟨_,(ag (au (PW.pt (bn (aj d9 (pv 2) ad (ak _)) (bu (aj cu (am bh (pv 1) (pv 2)) ad (ak _)))))
   (af (al (aB uP (hr.mono) rfl qu q5 uk .nil av (aa (am eX (pv 1) (pv 2)) ac))))
   ax)
   (ag (ar (i:=3) sc__law_mark.nd rfl (Or.inl rfl) (am bh (am fY (am bD ad (am bh (pv 1) ad)) ad) ad))
   (ag (ar (i:=4) sc__law_mark.nd rfl (Or.inl rfl) (bp lP (by rfl) T.str_ PyProof.Rows.boot_str (aa (am bh (am eX (pv 3) ad) (ao (ay (K:=K) rfl) (aN (aa ad (aa ad (aa (am oJ ad ad) ac)))) (am bh (pv 3) ad) (λ_ _=>rfl))) ac)))
   (ag (ar (i:=5) sc__law_mark.nd rfl (Or.inl rfl) (aN (aa ae (aa ae ac))))
   (ag (au (aj (d8 (K:=K) rfl) (pv 0) (bv (aa ae (aa ae ac))) (by rfl))
     (af (ar (i:=5) sc__law_mark.nd rfl (Or.inl rfl) (aN (aa (pv 4) (aa ae (aa (pv 4) (aa (ao (ay (K:=K) rfl) (aN (aa ae (aa ae ac))) (bp da (by rfl) T.int_ PyProof.Rows.boot_int (aa (ba aL (pv 0) ae (ak _)) ac)) (λ_ _=>rfl)) ac)))))))
     ax)
   (ag (au (aj aL (pv 0) ae (ak _))
     (af (ar (i:=5) sc__law_mark.nd rfl (Or.inl rfl) (aN (aa ae ac))))
     ax)
   (ag (au (aj aL (pv 0) ae (ak _))
     (af (ar (i:=5) sc__law_mark.nd rfl (Or.inl rfl) (aN (aa (bp lP (by rfl) T.str_ PyProof.Rows.boot_str (aa (am bh (am eX (pv 3) ad) ad) ac)) ac))))
     ax)
   (ag (au (aj aL (pv 0) ae (ak _))
     (af (ar (i:=5) sc__law_mark.nd rfl (Or.inl rfl) (aN (aa ae (aa ae (aa ae (aa ae ac)))))))
     ax)
   (ag (au (aj aL (pv 0) ae (ak _))
     (af (ar (i:=5) sc__law_mark.nd rfl (Or.inl rfl) (aN (aa ae (aa ae (aa ae (aa ae ac)))))))
     ax)
   (af (al (ao (ay (K:=K) rfl) (pv 5) (am bh (am eX (pv 3) ad) (aF (bj (K:=K) rfl) (by rfl) T.len_ PySem.boot_len (aa (pv 5) ac))) (λ_ _=>rfl))))))))))))),?_⟩
  refine bf (λσ' H'=>σ'=[some (.str (psS st)),some (.int c),some (.int wd),none,none,none]/\H=H') ?_ (λrest=>bg ⟨_,rfl,_,_,rfl,rfl,_,rfl,aq (λz=>⟨_,rfl,_,rfl,_,_,rfl,rfl,z,_,_,rfl,rfl,_,rfl,aq (λy=>?_) (λy=>?_)⟩) (λz=>?_)⟩)
  rotate_left
  ·exact aH ⟨_,rfl,_,rfl,_,_,rfl,rfl,⟨z,bw⟩,_,rfl,λz H' s' hz=>kk z H' s' hz⟩
  ·exact rest _ _ ⟨rfl,rfl⟩
  ·exact rest _ _ ⟨rfl,rfl⟩
  rintro σ' H' ⟨rfl,rfl⟩
  have bt:Bits 100 ((1+c%2147483646):Int):=by show(1+c%2147483646:Int).natAbs<2^100;have:=wf c (b:=2147483646) (by decide);have:=wn c (b:=2147483646) (by decide);omega
  refine aK ⟨_,rfl,_,_,rfl,rfl,(by show(0:Int)<2147483646;decide),_,_,rfl,rfl,_,_,rfl,rfl,⟨bt.mono,Bits.mono (j:=20) (by show(48271:Int).natAbs<2^20;decide) (by decide)⟩,_,_,rfl,rfl,(by show(0:Int)<2147483647;decide),?_⟩;have ht0:=wf ((1+c%2147483646)*48271) (b:=2147483647) (by decide);dsimp only
  generalize (1+c%2147483646)*48271%2147483647=t at ht0 ⊢
  show aV _ _ _ _ _;refine aK ⟨_,rfl,_,_,rfl,rfl,⟨by decide,sm 7 (by decide) (by decide)⟩,_,_,rfl,rfl,⟨by decide,by decide,by decide⟩,by show 3<=sizeLine;decide,λp hp=>?_⟩;have s1:=Same.upd_new (o:=.lst [V.int 10,V.int 12,V.int (10^20)]) hp;obtain⟨v,hv,ev⟩:=gB (xs:=[V.int 10,V.int 12,V.int (10^20)]) (n:=3) rfl (by decide) t
  obtain⟨n,rfl,hn0,hn1⟩:∃n:Int,v=.int n/\0<n/\n<=10^20:=by
   simp only[vO,v0,or_false]at hv;rcases hv with rfl |rfl |rfl
   ·exact⟨_,rfl,by decide,by decide +kernel⟩
   ·exact⟨_,rfl,by decide,by decide +kernel⟩
   ·exact⟨_,rfl,by decide +kernel,Int.le_refl _⟩
  have hr0:=wf (t/7) (b:=n) (by omega);have hr1:=wn (t/7) hn0;obtain⟨q,hq⟩:∃q:Nat,t/7%n=(q:Int):=⟨(t/7%n).toNat,by omega⟩
  have hq2:q<10^20:=by
   have:(q:Int)<10^20:=by rw[<- hq];omega
   omega
  have hlog:((q:Int)).natAbs.log2<1920:=by
   rw[Int.natAbs_natCast];by_cases h0:q=0
   ·subst h0;decide
   ·exact(Nat.log2_lt h0).mpr (Nat.lt_trans hq2 (by decide +kernel))
  refine⟨_,rfl,_,_,rfl,rfl,(by show(0:Int)<3;decide),p,_,_,_,rfl,rfl,SqL.of ai,ev,_,_,rfl,rfl,hn0,?_⟩;refine⟨(q:Int),by show[V.int (t/7%n)]=_;rw[hq],hlog,?_⟩;rw[RM.txt_nat];have mq:=ku q hq2;generalize stL (aR q)=many at mq ⊢
  show aV _ _ _ _ _;refine cm (λσ' H'=>σ'=[some (.str (psS st)),some (.int c),some (.int wd),some (.int t),some (.str many),none]/\Same H H') ⟨rfl,s1⟩ ?_;clear s1 hp ev;rintro σ' H1 ⟨rfl,s1⟩;refine aK ⟨by show 2<=sizeLine;decide,λp hp=>?_⟩;have s2:=s1.then_new (o:=.lst [V.str (Str.ofString "+"),V.str (Str.ofString "-")]) hp;show aV _ _ _ _ _
  refine cm (λσ' H'=>∃p,σ'=[some (.str (psS st)),some (.int c),some (.int wd),some (.int t),some (.str many),some (.ref p)]/\Same H H'/\Som H' p) ⟨p,rfl,s2,_,ai,by simp,by show 2<=4;decide,λx hx=>by
   simp only[vO,v0,or_false]at hx;rcases hx with rfl |rfl
   ·exact⟨_,rfl,m1⟩
   ·exact⟨_,rfl,m2⟩⟩ ?_
  clear s2 hp s1 H1;rintro σ' H1 ⟨p,rfl,s1,hS⟩;refine bf (λσ' H'=>∃p,σ'=[some (.str (psS st)),some (.int c),some (.int wd),some (.int t),some (.str many),some (.ref p)]/\Same H H'/\Som H' p) ?_ (λrest=>⟨_,rfl,by show 2<=sizeLine;decide,λpt hpt=>⟨pt,_,rfl,.inr (SqT.of ai),rfl,by decide,_,rfl,?_⟩⟩)
  rotate_left
  ·have u2:=Same.upd_new (o:=.tup [V.str (Str.ofString "p0"),V.str (Str.ofString "p1")]) hpt;have s2:=s1.trans u2
   have hS2:Som (upd H1 pt (.tup [V.str (Str.ofString "p0"),V.str (Str.ofString "p1")])) p:=by obtain⟨xs,a,b⟩:=hS;exact⟨xs,u2 _ _ a,b⟩
   generalize upd H1 pt (.tup [V.str (Str.ofString "p0"),V.str (Str.ofString "p1")])=H2 at s2 hS2 ⊢
   show if inV (.str (psS st)) [.str (Str.ofString "p0"),.str (Str.ofString "p1")]=true then _ else _
   rw[lh];generalize (decide (st=.p0) ||decide (st=.p1))=bb;cases bb
   rotate_left
   ·refine aD ?_;refine aZ ⟨_,rfl,_,rfl,by show 2<=sizeLine;decide,λp2 hp2=>⟨_,rfl,rfl,.inr ⟨_,rfl,p2,_,_,_,rfl,rfl,SqL.of ai,dc _ _ _,by show 4<=sizeLine;decide,λp3 hp3=>rest _ _ ⟨p3,rfl,(s2.then_new hp2).then_new hp3,_,ai,by simp,by show 4<=4;decide,λx hx=>?_⟩⟩⟩⟩;simp only[vO,v0,or_false]at hx;rcases hx with rfl |rfl |rfl |rfl
    ·exact⟨_,rfl,mq⟩
    ·exact⟨_,rfl,m5⟩
    ·exact⟨_,rfl,mq⟩
    ·split
     ·exact⟨_,rfl,m5⟩
     ·exact⟨_,rfl,m2⟩
   ·exact aC (rest _ _ ⟨p,rfl,s2,hS2⟩)
  clear hS s1 p;rintro σ' H1 ⟨p,rfl,s1,hS⟩;refine bf (λσ' H'=>∃p,σ'=[some (.str (psS st)),some (.int c),some (.int wd),some (.int t),some (.str many),some (.ref p)]/\Same H H'/\Som H' p) ?_ (λrest=>⟨_,rfl,rfl,_,rfl,aq (λ_=>aZ ⟨by show 1<=sizeLine;decide,λp2 hp2=>rest _ _ ⟨p2,rfl,s1.then_new hp2,_,ai,by simp,by show 1<=4;decide,λx hx=>?_⟩⟩) (λ_=>rest _ _ ⟨p,rfl,s1,hS⟩)⟩)
  rotate_left
  ·simp only[vO,v0,or_false]at hx;subst hx
   ·exact⟨_,rfl,m5⟩
  clear hS s1 p;rintro σ' H1 ⟨p,rfl,s1,hS⟩;refine bf (λσ' H'=>∃p,σ'=[some (.str (psS st)),some (.int c),some (.int wd),some (.int t),some (.str many),some (.ref p)]/\Same H H'/\Som H' p) ?_ (λrest=>⟨_,rfl,rfl,_,rfl,aq (λ_=>?_) (λ_=>rest _ _ ⟨p,rfl,s1,hS⟩)⟩)
  rotate_left
  ·have g0:=wf (t/5) (b:=9) (by decide);have g1:=wn (t/5) (b:=9) (by decide);obtain⟨q,hq⟩:∃q:Nat,t/5%9=(q:Int):=⟨(t/5%9).toNat,by omega⟩;have hq9:q<9:=by omega
   have hlog:((q:Int)).natAbs.log2<1920:=by
    rw[Int.natAbs_natCast];by_cases h0:q=0
    ·subst h0;decide
    ·exact(Nat.log2_lt h0).mpr (Nat.lt_trans hq9 (by decide +kernel))
   refine aZ ⟨_,rfl,_,_,rfl,rfl,⟨by decide,sm 5 (by decide) (by decide)⟩,_,_,rfl,rfl,(by show(0:Int)<9;decide),(q:Int),by show[V.int (t/5%9)]=_;rw[hq],hlog,by show 1<=sizeLine;decide,λp2 hp2=>rest _ _ ⟨p2,rfl,s1.then_new hp2,_,ai,by simp,by show 1<=4;decide,λx hx=>?_⟩⟩;simp only[vO,v0,or_false]at hx;subst hx;exact⟨_,by rw[RM.txt_nat],ku q (Nat.lt_trans hq9 (by decide +kernel))⟩
  clear hS s1 p;rintro σ' H1 ⟨p,rfl,s1,hS⟩;refine bf (λσ' H'=>∃p,σ'=[some (.str (psS st)),some (.int c),some (.int wd),some (.int t),some (.str many),some (.ref p)]/\Same H H'/\Som H' p) ?_ (λrest=>⟨_,rfl,rfl,_,rfl,aq (λ_=>aZ ⟨by show 4<=sizeLine;decide,λp2 hp2=>rest _ _ ⟨p2,rfl,s1.then_new hp2,_,ai,by simp,by show 4<=4;decide,λx hx=>?_⟩⟩) (λ_=>rest _ _ ⟨p,rfl,s1,hS⟩)⟩)
  rotate_left
  ·simp only[vO,v0,or_false]at hx;rcases hx with rfl |rfl |rfl |rfl
   ·exact⟨_,rfl,m3⟩
   ·exact⟨_,rfl,m1⟩
   ·exact⟨_,rfl,m2⟩
   ·exact⟨_,rfl,m3⟩
  clear hS s1 p;rintro σ' H1 ⟨p,rfl,s1,hS⟩;refine bf (λσ' H'=>∃p,σ'=[some (.str (psS st)),some (.int c),some (.int wd),some (.int t),some (.str many),some (.ref p)]/\Same H H'/\Som H' p) ?_ (λrest=>⟨_,rfl,rfl,_,rfl,aq (λ_=>aZ ⟨by show 4<=sizeLine;decide,λp2 hp2=>rest _ _ ⟨p2,rfl,s1.then_new hp2,_,ai,by simp,by show 4<=4;decide,λx hx=>?_⟩⟩) (λ_=>rest _ _ ⟨p,rfl,s1,hS⟩)⟩)
  rotate_left
  ·simp only[vO,v0,or_false]at hx;rcases hx with rfl |rfl |rfl |rfl
   ·exact⟨_,rfl,m4⟩
   ·exact⟨_,rfl,m1⟩
   ·exact⟨_,rfl,m2⟩
   ·exact⟨_,rfl,m4⟩
  clear hS s1 p;rintro σ' H1 ⟨p,rfl,s1,hS⟩;obtain⟨xs,hx,hne,hl4,hxs⟩:=hS;have hpos:(0:Int)<(xs.length:Int):=by have:=List.length_pos_iff.mpr hne;omega
  obtain⟨v,hv,ev⟩:=gB (xs:=xs) (n:=(xs.length:Int)) rfl hpos (t/45);obtain⟨z,rfl,hz⟩:=hxs v hv;exact aH ⟨_,rfl,_,rfl,_,_,rfl,rfl,⟨by decide,sm 45 (by decide) (by decide)⟩,_,rfl,p,_,rfl,.inl (SqL.of hx),_,_,rfl,rfl,hpos,p,_,_,_,rfl,rfl,SqL.of hx,ev,kk z H1 s1 hz⟩
def LAt(H:Hp)(pa pl:Addr)(T:List Nat)(st:PSt)(b:Int)(ms:List (List Nat)):Prop:=H pa=some (.lst [.str (stL T),.str (psS st),.int b,.ref pl])/\H pl=some (.lst (ms.map λx=>V.str (stL x)))
def SamE(pa pl:Addr)(H H':Hp):Prop:=∀a o,a≠pa->a≠pl->H a=some o->H' a=some o
theorem LAt.ne{H:Hp}{pa pl:Addr}{T:List Nat}{st:PSt}{b:Int}{ms:List (List Nat)}(h:LAt H pa pl T st b ms):pl≠pa:=λz=>by
 have h2:=h.2;rw[z,h.1]at h2;have h3:=HO.lst.inj (Option.some.inj h2);have:V.int b∈ms.map λx=>V.str (stL x):=by rw[<- h3];simp
 obtain⟨x,_,hx⟩:=List.mem_map.mp this;cases hx
theorem LAt.same{H H':Hp}{pa pl:Addr}{T:List Nat}{st:PSt}{b:Int}{ms:List (List Nat)}(h:LAt H pa pl T st b ms)(s:Same H H'):LAt H' pa pl T st b ms:=⟨s _ _ h.1,s _ _ h.2⟩
theorem SamE.of{H H':Hp}{pa pl:Addr}(s:Same H H'):SamE pa pl H H':=λa o _ _ e=>s a o e
theorem SamE.trans{H H1 H2:Hp}{pa pl:Addr}(a:SamE pa pl H H1)(b:SamE pa pl H1 H2):SamE pa pl H H2:=λx o h1 h2 e=>b x o h1 h2 (a x o h1 h2 e)
theorem SamE.upd{H:Hp}{pa pl a:Addr}{o:HO}(h:a=pa\/a=pl):SamE pa pl H (L2.upd H a o):=λx o' h1 h2 e=>by rw[L2.upd_ne (λz=>by rcases h with h |h;exact h1 (z.trans h);exact h2 (z.trans h))];exact e
theorem kj:∀n:Nat,n<=2->Txt.mul (Str.ofString " ") (n:Int)=stL (List.replicate n 32)
 |0,_=>by decide +kernel
 |1,_=>by decide +kernel
 |2,_=>by decide +kernel
 |n+3,h=>absurd h (by omega)
theorem jV(s:PSt):V.str (psS s)≠V.str (Str.ofString "")/\V.str (psS s)≠V.str (Str.ofString "l0"):=by
 have h:psS s≠Str.ofString ""/\psS s≠Str.ofString "l0":=by cases s<;>decide +kernel
 exact⟨λe=>h.1 (V.str.inj e),λe=>h.2 (V.str.inj e)⟩
noncomputable def Stp(st:PSt)(b:Int)(ms:List (List Nat))(m:List Nat)(at_:Nat)(st':PSt)(b':Int)(ms':List (List Nat)):Prop :=
 (b<0/\nxt st m=some st'/\b'=b/\ms'=ms++[m])\/(b<0/\nxt st m=none/\st'=st/\b'=at_/\ms'=ms)\/(0<=b/\st'=st/\b'=b/\ms'=ms)
def gZ:Sp:=λvs H Q _=>∃(pa pl:Addr) (T:List Nat) (st:PSt) (b:Int) (ms:List (List Nat)) (m:List Nat) (gap:Nat),vs=[.ref pa,.str (stL m),.int gap]/\LAt H pa pl T st b ms/\WfM m/\m.length<=30/\T.length<=400/\ms.length<=1000/\gap<=1/\∀(H':Hp) (st':PSt) (b':Int) (ms':List (List Nat)) (g:Nat),SamE pa pl H H'->g<=1->(0<g\/bC T m)->Stp st b ms m (T.length+g) st' b' ms'->LAt H' pa pl (T++List.replicate g 32++m) st' b' ms'->Q .non H'
theorem pj{f:Addr}{fd:FuncData}(F:Fun K "_law_put" "_law_put" dJ f fd)(T:Txt K mg){tu:Addr}{sC:FuncData}(vx:Cal P w K mg base 1 "_law_glued" ["_law_text","_law_mark_here"] hZ tu sC){tf:Addr}{sx:FuncData}(vt:Cal P w K mg base 2 "_law_next_in_poly" ["_law_state","_law_mark_here"] g6 tf sx):FnOk P w K mg base CX0 3 f fd ["_law_at","_law_mark_here","_law_gap"] gZ:=by
 obtain⟨uV,qB,re,ut⟩:=vx;obtain⟨uS,qy,rb,uo⟩:=vt;refine F.ok sc__law_put (λvs H Q E h=>?_) (λcdv A outer s H vs Q E hr h=>?_)
 ·obtain⟨pa,pl,l,st,b,ms,m,gap,rfl,_⟩:=h;rfl
 ·obtain⟨pa,pl,l,st,b,ms,m,gap,rfl,hA,hm,hml,hl,hms,hgap,kk⟩:=h;have big:=sizeLine_eq
  refine⟨_,(ag (au (bQ (aB uV (hr.mono) rfl qB re ut .nil av (aa (ao (ay (K:=K) rfl) (pv 0) ad (λ_ _=>rfl)) (aa (pv 1) ac))))
   (af (ar (i:=2) sc__law_put.nd rfl (Or.inl rfl) ad))
   ax)
   (ag (cJ (am iF (ao (ay (K:=K) rfl) (pv 0) ad (λ_ _=>rfl)) (am j6 ae (pv 2))) (cK (pv 0) ad cI))
   (ag (au (aj bR (ao (ay (K:=K) rfl) (pv 0) ad (λ_ _=>rfl)) ad (ak _))
     (ag (ar (i:=3) sc__law_put.nd rfl (Or.inl rfl) (aB uS (hr.mono) rfl qy rb uo .nil av (aa (ao (ay (K:=K) rfl) (pv 0) ad (λ_ _=>rfl)) (aa (pv 1) ac))))
       (af (au (PW.pt (eL (aj aL (pv 3) ae (ak _)) (eK (aj aL (pv 3) ae (ak _)))))
         (af (cJ (aF bZ (by rfl) T.len_ PySem.boot_len (aa (ao (ay (K:=K) rfl) (pv 0) ad (λ_ _=>rfl)) ac)) (cK (pv 0) ad cI)))
         (ag (cJ (pv 3) (cK (pv 0) ad cI))
           (af (cn (iA PySem.F.plainAttrs_list PySem.F.slot_list_append PySem.F.type_list_append iL (ao (ay (K:=K) rfl) (pv 0) ad (λ_ _=>rfl)) (aa (pv 1) ac))))))))
     ax)
   (af (cJ (am iF (ao (ay (K:=K) rfl) (pv 0) ad (λ_ _=>rfl)) (pv 1)) (cK (pv 0) ad cI)))))),?_⟩
  have a0:∀{z0 z1 z2 z3:V},atI [z0,z1,z2,z3] 0=some z0:=rfl;refine bf (λσ' H'=>∃g:Nat,σ'=[some (.ref pa),some (.str (stL m)),some (.int g),none]/\Same H H'/\g<=1/\(0<g\/bC l m)) ?_ (λrest=>⟨_,rfl,pa,_,_,_,rfl,rfl,SqL.of hA.1,a0,_,rfl,l,m,rfl,hm.ne,by omega,by omega,λH1 s1=>⟨_,rfl,?_⟩⟩)
  rotate_left
  ·cases hg:glT l m with
   |true=>exact aD (aZ (rest _ _ ⟨1,rfl,s1,by decide,.inl (by decide)⟩))
   |false=>exact aC (rest _ _ ⟨gap,rfl,s1,hgap,.inr (pP hg)⟩)
  rintro σ' H1 ⟨g,rfl,s1,hg1,hgl⟩;have hA1:=hA.same s1;have a1:∀{z0 z1 z2 z3:V},atI [z0,z1,z2,z3] 1=some z1:=rfl;have a2:∀{z0 z1 z2 z3:V},atI [z0,z1,z2,z3] 2=some z2:=rfl;have a3:∀{z0 z1 z2 z3:V},atI [z0,z1,z2,z3] 3=some z3:=rfl;have np:=hA.ne;have eb:=kj g (by omega);refine jS (λσ' H'=>σ'=[some (.ref pa),some (.str (stL m)),some (.int g),none]/\SamE pa pl H H'/\LAt H' pa pl (l++List.replicate g 32) st b ms) ?_ (λrest=>?_)
  rotate_left
  ·refine⟨_,rfl,pa,_,_,_,rfl,rfl,SqL.of hA1.1,a0,_,rfl,_,_,rfl,rfl,rfl,by omega,by omega,_,_,rfl,rfl,by rw[eb,ap,ap,vR];omega,_,rfl,pa,_,_,0,rfl,rfl,hA1.1,rfl,?_⟩;rw[eb,gP];exact rest _ _ ⟨rfl,(SamE.of s1).trans (SamE.upd (.inl rfl)),ai,by rw[upd_ne np];exact hA1.2⟩
  clear hA1 s1 H1;rintro σ' H1 ⟨rfl,s1,hA1⟩;refine bf (λσ' H'=>∃(z3:Option V) (st':PSt) (b':Int) (ms':List (List Nat)),σ'=[some (.ref pa),some (.str (stL m)),some (.int g),z3]/\SamE pa pl H H'/\Stp st b ms m (l.length+g) st' b' ms'/\LAt H' pa pl (l++List.replicate g 32) st' b' ms') ?_ (λrest=>⟨_,rfl,pa,_,_,_,rfl,rfl,SqL.of hA1.1,a2,_,_,rfl,rfl,_,rfl,aq (λhb=>?_) (λhb=>?_)⟩)
  rotate_left
  ·have hb':b<0:=hb;refine aK ⟨_,rfl,pa,_,_,_,rfl,rfl,SqL.of hA1.1,a1,_,rfl,st,m,rfl,hm,by omega,λs' H2 s2 hn=>?_,λH2 s2 hn=>⟨?_,?_⟩⟩
   ·have hA2:=hA1.same s2;refine aY (eF ⟨_,rfl,rfl,_,rfl,aq (λz=>absurd z (jV s').1) (λ_=>⟨_,rfl,rfl,_,rfl,aq (λz=>absurd z (jV s').2) (λ_=>?_)⟩)⟩);refine⟨_,rfl,_,rfl,pa,_,_,1,rfl,rfl,hA2.1,rfl,?_⟩;have e3:upd H2 pa (.lst ([V.str (stL (l++List.replicate g 32)),V.str (psS st),V.int b,V.ref pl].set 1 (V.str (psS s')))) pa=some (.lst [V.str (stL (l++List.replicate g 32)),V.str (psS s'),V.int b,V.ref pl]):=ai;have e4:upd H2 pa (.lst ([V.str (stL (l++List.replicate g 32)),V.str (psS st),V.int b,V.ref pl].set 1 (V.str (psS s')))) pl=some (.lst (ms.map λx=>V.str (stL x))):=by rw[upd_ne np];exact hA2.2
    have s3:SamE pa pl H (upd H2 pa (.lst ([V.str (stL (l++List.replicate g 32)),V.str (psS st),V.int b,V.ref pl].set 1 (V.str (psS s'))))):=(s1.trans (SamE.of s2)).trans (SamE.upd (.inl rfl));generalize upd H2 pa (.lst ([V.str (stL (l++List.replicate g 32)),V.str (psS st),V.int b,V.ref pl].set 1 (V.str (psS s'))))=H3 at e3 e4 s3 ⊢
    refine⟨_,rfl,pa,_,_,_,rfl,rfl,SqL.of e3,a3,.inl ⟨rfl,_,SqL.of e4⟩,_,rfl,pl,_,_,rfl,rfl,e4,by rw[vK];omega,?_⟩;refine rest _ _ ⟨_,s',b,ms++[m],rfl,s3.trans (SamE.upd (.inr rfl)),.inl ⟨hb',hn,rfl,rfl⟩,by rw[upd_ne (Ne.symm np)];exact e3,?_⟩;rw[ai,wb];rfl
   ·have hA2:=hA1.same s2;refine aY (eF ⟨_,rfl,rfl,_,rfl,aq (λ_=>?_) (λz=>absurd rfl z)⟩);refine⟨_,rfl,pa,_,_,_,rfl,rfl,SqL.of hA2.1,a0,_,rfl,by rw[ap,vM,vR];omega,_,rfl,pa,_,_,2,rfl,rfl,hA2.1,rfl,?_⟩;rw[ap,vM,vR];exact rest _ _ ⟨_,st,_,ms,rfl,(s1.trans (SamE.of s2)).trans (SamE.upd (.inl rfl)),.inr (.inl ⟨hb',hn,rfl,rfl,rfl⟩),ai,by rw[upd_ne np];exact hA2.2⟩
   ·have hA2:=hA1.same s2;refine aY (eF ⟨_,rfl,rfl,_,rfl,aq (λz=>absurd (V.str.inj z) (by decide +kernel)) (λ_=>⟨_,rfl,rfl,_,rfl,aq (λ_=>?_) (λz=>absurd rfl z)⟩)⟩);refine⟨_,rfl,pa,_,_,_,rfl,rfl,SqL.of hA2.1,a0,_,rfl,by rw[ap,vM,vR];omega,_,rfl,pa,_,_,2,rfl,rfl,hA2.1,rfl,?_⟩;rw[ap,vM,vR];exact rest _ _ ⟨_,st,_,ms,rfl,(s1.trans (SamE.of s2)).trans (SamE.upd (.inl rfl)),.inr (.inl ⟨hb',hn,rfl,rfl,rfl⟩),ai,by rw[upd_ne np];exact hA2.2⟩
  ·have hb':¬b<0:=hb;exact rest _ _ ⟨_,st,b,ms,rfl,s1,.inr (.inr ⟨by omega,rfl,rfl,rfl⟩),hA1⟩
  rintro σ' H2 ⟨z3,st',b',ms',rfl,s2,hS,hA2⟩;refine⟨_,rfl,pa,_,_,_,rfl,rfl,SqL.of hA2.1,a0,_,rfl,_,_,rfl,rfl,by rw[ap,ap,vM,vR];omega,_,rfl,pa,_,_,0,rfl,rfl,hA2.1,rfl,?_⟩;rw[gP];exact kk _ st' b' ms' g (s2.trans (SamE.upd (.inl rfl))) hg1 hgl hS ⟨ai,by rw[upd_ne np];exact hA2.2⟩
def LInv(T:List Nat)(st:PSt)(b:Int)(ms:List (List Nat)):Prop:=∃(ps:List Mk) (c:Cfg),mgo cfg0 ps=(c,[])/\c.st=st/\ps.map Prod.fst=ms/\(b<0->mks 0 T=ps)/\(0<=b->∃(m:List Nat) (r:List Mk) (n:Nat),b=n/\mks 0 T=ps++(m,n)::r/\nxt st m=none)
theorem LInv.start:LInv [] .p0 (-1) []:=⟨[],cfg0,rfl,rfl,rfl,λ_=>rfl,λh=>absurd h (by decide)⟩
theorem LInv.put{T m:List Nat}{st st':PSt}{b b':Int}{ms ms':List (List Nat)}{g:Nat}(h:LInv T st b ms)(hm:WfM m)(hg:0<g\/bC T m)(hS:Stp st b ms m (T.length+g) st' b' ms'):LInv (T++List.replicate g 32++m) st' b' ms':=by
 obtain⟨ps,c,e1,e2,e3,h1,h2⟩:=h;have hp:=pU hm hg;rcases hS with⟨hb,hn,rfl,rfl⟩ |⟨hb,hn,rfl,rfl,rfl⟩ |⟨hb,rfl,rfl,rfl⟩
 ·refine⟨ps++[(m,T.length+g)],c.put m st',?_,?_,?_,λ_=>?_,λz=>absurd z (by omega)⟩
  ·exact qc (u:=(m,T.length+g)) e1 (by rw[e2];exact hn)
  ·unfold Cfg.put;split
   ·rfl
   ·split
    ·rfl
    ·split
     ·rfl
     ·split<;>rfl
  ·rw[wb,e3];rfl
  ·rw[hp,h1 hb]
 ·refine⟨ps,c,e1,e2,e3,λz=>absurd z (by omega),λ_=>⟨m,[],T.length+g,rfl,?_,hn⟩⟩;rw[hp,h1 hb]
 ·refine⟨ps,c,e1,e2,e3,λz=>absurd z (by omega),λ_=>?_⟩;obtain⟨m0,r,n,eb,e4,hn⟩:=h2 hb;exact⟨m0,r++[(m,T.length+g)],n,eb,by rw[hp,e4,wk];rfl,hn⟩
theorem LInv.bad{T:List Nat}{st:PSt}{b:Int}{ms:List (List Nat)}(k:Nat)(h:LInv T st b ms)(hb:0<=b):∃c r,mgo cfg0 (mks 0 (T++List.replicate k 32))=(c,r)/\r≠[]/\∀e,((mbg e r:Nat):Int)=b:=by obtain⟨ps,c,e1,e2,e3,h1,h2⟩:=h;obtain⟨m0,r,n,eb,e4,hn⟩:=h2 hb;refine⟨c,(m0,n)::r,?_,by simp,λe=>by rw[eb];rfl⟩;rw[ko,e4];exact qb (u:=(m0,n)) e1 (by rw[e2];exact hn)
theorem LInv.good{T:List Nat}{st:PSt}{b:Int}{ms:List (List Nat)}(k:Nat)(h:LInv T st b ms)(hb:b<0):∃(ps:List Mk) (c:Cfg),mgo cfg0 (mks 0 (T++List.replicate k 32))=(c,[])/\c.st=st/\mgo cfg0 ps=(c,[])/\ps.map Prod.fst=ms:=by obtain⟨ps,c,e1,e2,e3,h1,h2⟩:=h;exact⟨ps,c,by rw[ko,h1 hb];exact e1,e2,e1,e3⟩
theorem py{f:Addr}{fd:FuncData}(F:Fun K "_law_cell" "_law_cell" dP f fd)(T:Txt K mg):FnOk P w K mg base CX0 1 f fd ["_law_script","_law_k"] (di K):=by
 refine F.ok nE (λvs H Q E h=>?_) (λcdv A outer s H vs Q E hr h=>?_)
 ·obtain⟨a,ns,k,rfl,_⟩:=h;rfl
 ·obtain⟨a,ns,n,rfl,hS,k⟩:=h
  refine⟨_,(ag (au (aj bR (pv 1) (aF (bj (K:=K) rfl) (by rfl) T.len_ PySem.boot_len (aa (pv 0) ac)) (ak _))
   (af (al (ao (ay (K:=K) rfl) (pv 0) (pv 1) (λ_ _=>rfl))))
   ax)
   (af (al ad))),?_⟩
  refine⟨_,rfl,_,rfl,a,_,rfl,.inl hS,_,_,rfl,rfl,_,rfl,?_⟩;refine aq (λh1=>?_) (λh1=>?_)
  ·rw[vK]at h1;have h2:n<ns.length:=by omega
   refine⟨_,rfl,_,rfl,a,_,_,_,rfl,rfl,hS,cb (v:=.int (ns.getD n 0)) ?_,k⟩;rw[List.getElem?_map,List.getElem?_eq_getElem h2];simp[List.getD,h2]
  ·rw[vK]at h1;have h2:ns.length<=n:=by omega
   have e:ns.getD n 0=0:=by simp[List.getD,List.getElem?_eq_none_iff.mpr h2]
   rw[e]at k;exact k
def fP:Sp:=λvs H Q _=>∃i:Int,vs=[.int i]/\Q (.bl true) H
theorem o9{f:Addr}{fd:FuncData}(F:Fun K "_law_whole" "_law_whole" dE f fd)(T:Txt K mg):FnOkH P w K mg base 1 f fd ["_law_found"] fP:=by
 refine F.okH nB (λvs H Q E h=>?_) (λcdv A outer s H vs Q E hr h=>?_)
 ·obtain⟨i,rfl,_⟩:=h;rfl
 ·obtain⟨i,rfl,k⟩:=h;refine⟨_,(af (al (bz (aF (ji (K:=K) rfl) (by rfl) T.isinstance_ PyProof.Rows.boot_isinstance (aa (pv 0) (aa (fX (v:=.ty "int") (by rfl) T.int_ PyProof.Rows.boot_int (by rfl)) ac))) (bG (iz (aF (ji (K:=K) rfl) (by rfl) T.isinstance_ PyProof.Rows.boot_isinstance (aa (pv 0) (aa (fX (v:=.ty "bool") (by rfl) T.bool_ PyProof.Rows.boot_bool (by rfl)) ac)))))))),?_⟩;refine aH (br (iq ⟨_,rfl,iY (.int i) (k:=true) (by rfl) ⟨_,rfl,aD ?_⟩⟩));refine io (iq ⟨_,rfl,iY (.int i) (k:=false) (by rfl) ⟨_,rfl,?_⟩⟩);exact k
theorem pb{f:Addr}{fd:FuncData}(F:Fun K "_law_trim" "_law_trim" dF f fd)(T:Txt K mg):FnOk P w K mg base CX0 1 f fd ["_law_row_here"] (cG K):=by
 refine F.ok sc__law_trim (λvs H Q E h=>?_) (λcdv A outer s H vs Q E hr h=>?_)
 ·obtain⟨a,ns,rfl,_⟩:=h;rfl
 ·obtain⟨a,ns,rfl,hS,k⟩:=h
  refine⟨_,(ag (ar (i:=1) sc__law_trim.nd rfl (Or.inl rfl) (aF (bj (K:=K) rfl) (by rfl) T.len_ PySem.boot_len (aa (pv 0) ac)))
   (ag (eP PassesOwn.never (PW.pt (bn (aj d9 (pv 1) ad (ak _)) (bu (aj cu (ao (ay (K:=K) rfl) (pv 0) (am cN (pv 1) ad) (λ_ _=>rfl)) ad (ak _)))))
     (af (ar (i:=1) sc__law_trim.nd rfl (Or.inl rfl) (am cN (pv 1) ad))))
   (af (al (eV (ig (K:=K) rfl) (pv 0) jW (cp (pv 1))))))),?_⟩
  refine⟨_,rfl,a,_,rfl,.inl hS,?_⟩;refine⟨λm σ' H'=>∃n:Nat,n<=ns.length/\σ'=[some (.ref a),some (.int n)]/\H=H'/\n=m/\trim (ns.take n)=trim ns,⟨_,ns.length,vJ _,?_,rfl,rfl,?_⟩,?_⟩
  ·rw[vK];rfl
  ·rw[ww]
  ·rintro m σ' H' ⟨n,hn,rfl,rfl,rfl,ht⟩
   have fin:trim (ns.take n)=ns.take n->∃v,([some (V.ref a),some (V.int n)]:St)[0]?=some (some v)/\∃v_1,([some (V.ref a),some (V.int n)]:St)[1]?=some (some v_1)/\∃i,v_1=V.int i/\fV K v none (some i) H Q:=λh=>by
    refine⟨_,rfl,_,rfl,n,rfl,a,_,rfl,hS,λp hp=>k p _ (Same.upd_new hp) hp ?_⟩;rw[ai,<- ht,h]
    have e:bK (ns.map V.int) none (some (n:Int))=(ns.take n).map V.int:=by unfold bK;rw[HT.sIx_none,HT.sIx_nat,List.drop_zero,Nat.sub_zero,vK,Nat.min_eq_left hn,List.map_take]
    rw[e]
   refine⟨_,rfl,_,_,rfl,rfl,_,rfl,?_⟩;refine aq (λhp=>?_) (λhp=>?_)
   ·obtain⟨j,rfl⟩:∃j,n=j+1:=⟨n-1,by have:(0:Int)<n:=hp;omega⟩;have hj:j<ns.length:=hn;refine⟨_,rfl,_,rfl,_,_,rfl,rfl,a,_,j,.int (cf ns j),rfl,?_,hS,cb ?_,_,_,rfl,rfl,_,rfl,?_⟩
    ·show V.int (((j+1:Nat):Int)-1)=V.int j
     congr 1;omega
    ·rw[List.getElem?_map,fq hj];rfl
    refine aq (λh0=>?_) (λh0=>?_)
    ·refine⟨λσ'' H''=>∃m',m'<j+1/\∃n:Nat,n<=ns.length/\σ''=[some (.ref a),some (.int n)]/\H=H''/\n=m'/\trim (ns.take n)=trim ns,λ_ _ h=>h,?_⟩;refine⟨_,rfl,_,_,rfl,rfl,j,wo _,j,Nat.le_of_lt hj,?_,rfl,rfl,?_⟩
     ·show[some (V.ref a),some (V.int (((j+1:Nat):Int)-1))]=[some (V.ref a),some (V.int j)]
      congr 4;omega
     ·rw[<- ht,jB hj h0]
    ·exact fin (jC hj h0)
   ·obtain rfl:n=0:=by have:¬(0:Int)<n:=hp;omega
    exact fin (by rw[List.take_zero];rfl)
def gU:Sp:=λvs H Q _=>∃(a b:Addr) (ns:List Int),vs=[.ref a,.ref b]/\H a=some (.lst (ns.map V.int))/\H b=some (.lst (ns.map V.int))/\ns.length<=1000000/\Q (.bl true) H
theorem ph{f:Addr}{fd:FuncData}(F:Fun K "_law_row" "_law_row" dH f fd)(T:Txt K mg){jb:Addr}{i6:FuncData}(ju:CalH P w K mg base 1 "_law_whole" ["_law_found"] fP jb i6):FnOk P w K mg base CX0 2 f fd ["_law_found","_law_due"] gU:=by
 obtain⟨GH__law_whole,m__law_whole,k__law_whole,b__law_whole⟩:=ju;have G__law_whole:=GH__law_whole.toFn;refine F.ok sc__law_row (λvs H Q E h=>?_) (λcdv A outer s H vs Q E hr h=>?_)
 ·obtain⟨a,b,ns,rfl,_⟩:=h;rfl
 ·obtain⟨a,b,ns,rfl,hA,hB,hn,k⟩:=h
  refine⟨_,(ag (au (PW.pt (eL (eO (bQ (aF (ji (K:=K) rfl) (by rfl) T.isinstance_ PyProof.Rows.boot_isinstance (aa (pv 0) (aa (fX (v:=.ty "list") (by rfl) T.list_ PyProof.Rows.boot_list (by rfl)) ac))))) (eK (aj j7 (aF (bj (K:=K) rfl) (by rfl) T.len_ PySem.boot_len (aa (pv 0) ac)) (aF (bj (K:=K) rfl) (by rfl) T.len_ PySem.boot_len (aa (pv 1) ac)) (ak _)))))
   (af (al bH))
   ax)
   (ag (eR PassesOwn.never rfl (iy rfl T.range_ (aa (aF (bj (K:=K) rfl) (by rfl) T.len_ PySem.boot_len (aa (pv 1) ac)) ac)) (cL (i:=2) sc__law_row.nd rfl (Or.inl rfl))
     (af (au (PW.pt (eL (eO (bQ (aB G__law_whole (hr.mono) rfl m__law_whole k__law_whole b__law_whole .nil av (aa (ao (ay (K:=K) rfl) (pv 0) (pv 2) (λ_ _=>rfl)) ac)))) (eK (aj j7 (ao (ay (K:=K) rfl) (pv 0) (pv 2) (λ_ _=>rfl)) (ao (ay (K:=K) rfl) (pv 1) (pv 2) (λ_ _=>rfl)) (ak _)))))
       (af (al bH))
       ax)))
   (af (al bH)))),?_⟩
  refine aQ (eF (fS (nU (iq ⟨_,rfl,iY (.lst hA) (k:=true) (by rfl) ⟨_,rfl,aC ?_⟩⟩))));refine⟨_,rfl,a,_,rfl,.inl (SqL.of hA),_,rfl,b,_,rfl,.inl (SqL.of hB),_,_,rfl,rfl,_,rfl,?_⟩;refine eG (λh=>absurd rfl h) (λ_=>?_);have big:=sizeLine_eq;have hl:(ns.map V.int).length=ns.length:=vK _;refine⟨_,rfl,b,_,rfl,.inl (SqL.of hB),_,rfl,by rw[hl];omega,by rw[hl];omega,lq (lo:=0) (λi σ' H'=>∃z:Option V,σ'=[some (.ref a),some (.ref b),z]/\H=H') ⟨none,rfl,rfl⟩ ?_ ?_⟩
  ·rintro i σ' H' hi ⟨z,rfl,rfl⟩;have hi':i<ns.length:=by rw[hl]at hi;omega
   have e0:(0:Int)+(i:Int)=(i:Nat):=by omega
   refine⟨_,rfl,_,rfl,a,_,_,_,rfl,rfl,SqL.of hA,fE e0 hi',_,rfl,_,rfl,aC ?_⟩;refine⟨_,rfl,_,rfl,a,_,_,_,rfl,rfl,SqL.of hA,fE e0 hi',_,rfl,_,rfl,b,_,_,_,rfl,rfl,SqL.of hB,fE e0 hi',_,_,rfl,rfl,_,rfl,?_⟩;exact eG (λh=>absurd rfl h) (λ_=>⟨_,rfl,rfl⟩)
  ·rintro σ' H' ⟨z,rfl,rfl⟩;exact k
def gX:Sp:=λvs H Q _=>∃(l:List Nat) (c:Cfg) (r:List Mk),vs=[.str (stL l),.int ((mbg l.length r:Nat):Int)]/\Pla l/\mgo cfg0 (mks 0 l)=(c,r)/\(c.st.opn=true\/r≠[])/\∀H',Same H H'->Q (.bl true) H'
theorem pi{C f:Addr}{fd:FuncData}(F:Fun K "_law_refused" "_law_refused" dI f fd)(T:Txt K mg)(R:QC K mg C){CNoText CRootError CNoName CNoRow:Addr}(XE:EXC K mg base CNoText CRootError CNoName CNoRow){i7:Addr}{i4:FuncData}(jr:CalV P w K mg base 7 "read_poly" ["text"] (fQ C CNoText) i7 i4){jb:Addr}{i6:FuncData}(ju:CalH P w K mg base 1 "_law_whole" ["_law_found"] fP jb i6){c0:Addr}{cY:FuncData}(C_NoText:XCal P w K mg base 1 CNoText "NoText" "at" ["self","at"] c0 cY):FnOk P w K mg base CX0 8 f fd ["_law_text","_law_place"] gX:=by
 obtain⟨gC,gh,gp,gz⟩:=jr;obtain⟨GH__law_whole,m__law_whole,k__law_whole,b__law_whole⟩:=ju;have G__law_whole:=GH__law_whole.toFn;refine F.ok sc__law_refused (λvs H Q E h=>?_) (λcdv A outer s H vs Q E hr h=>?_)
 ·obtain⟨l,c,r,rfl,_⟩:=h;rfl
 ·obtain⟨l,c,r,rfl,hl,hgo,hbad,k⟩:=h
  refine⟨_,(ag (ar (i:=2) sc__law_refused.nd rfl (Or.inl rfl) bH)
   (ag (oj rfl rfl (n8 gC (hr.mono) (λ_=>rfl) gh gp gz .nil (λ_=>(aa (pv 0) ac))) (λ_ _=>rfl) XE.mgRootError sc__law_refused.nd (i:=3) rfl rfl (λea oe=>(ag (ar (i:=4) sc__law_refused.nd rfl (Or.inl rfl) (bz (aF gx (by rfl) T.isinstance_ PyProof.Rows.boot_isinstance (aa (pv 3) (aa (fX (v:=.ty "ValueError") (by rfl) T.ValueError_ PyProof.Rows.boot_ValueError (by rfl)) ac))) (bz (iz (aF gx (by rfl) T.isinstance_ PyProof.Rows.boot_isinstance (aa (pv 3) (aa (cM (v:=.ref CNoName) rfl XE.mgNoName rfl) ac)))) (bG (iz (aF gx (by rfl) T.isinstance_ PyProof.Rows.boot_isinstance (aa (pv 3) (aa (cM (v:=.ref CNoRow) rfl XE.mgNoRow rfl) ac))))))))
     (af (ar (i:=2) sc__law_refused.nd rfl (Or.inl rfl) (bz (aF gx (by rfl) T.isinstance_ PyProof.Rows.boot_isinstance (aa (pv 3) (aa (cM (v:=.ref CNoText) rfl XE.mgNoText rfl) ac))) (bz (pv 4) (bz (oF (E:=E0) GH__law_whole ((hr.mono).held _) rfl m__law_whole k__law_whole b__law_whole .nil (aa (jY (pv 3) rfl) ac)) (bG (ba cu (jY (pv 3) rfl) (pv 1) (ak _)))))))))))
   (af (al (pv 2))))),?_⟩
  refine aK ?_;refine⟨_,rfl,l,rfl,hl,λc' hgo' hst=>?_,λc' r' hgo' hb H' dx s' ed=>⟨XE.hit_NoText_RootError,λea oe vs ce de fe he=>?_⟩⟩
  ·rw[hgo]at hgo';cases hgo';rcases hbad with z |z
   ·rw[hst]at z;cases z
   ·exact absurd rfl z
  rw[hgo]at hgo';cases hgo';have lk:([(("at":Str),V.int ((mbg l.length r:Nat):Int))]:List (Str×V)).lookup ("at":Str)=some (V.int ((mbg l.length r:Nat):Int)):=by simp[List.lookup]
  refine aK (br (fT ⟨_,rfl,rl ce C_NoText.ec XE.is_NoText_ValueError ⟨_,rfl,aD ?_⟩⟩));refine br (io (fT ⟨_,rfl,iZ ce C_NoText.ec XE.is_NoText_NoName ⟨_,rfl,⟨_,rfl,aD ?_⟩⟩⟩));refine io (fT ⟨_,rfl,iZ ce C_NoText.ec XE.is_NoText_NoRow ⟨_,rfl,?_⟩⟩);refine aZ (br (fT ⟨_,rfl,iZ ce C_NoText.ec XE.is_NoText_NoText ⟨_,rfl,aD ?_⟩⟩));refine br ⟨_,rfl,_,rfl,aD ?_⟩;refine br ⟨_,rfl,_,dx,vs,_,_,rfl,ce,de,fe,C_NoText.xc,C_NoText.ec,C_NoText.na,ed,lk,?_⟩;refine⟨_,rfl,_,rfl,aD ?_⟩;refine⟨_,rfl,_,dx,vs,_,_,rfl,ce,de,fe,C_NoText.xc,C_NoText.ec,C_NoText.na,ed,lk,_,rfl,_,_,rfl,rfl,?_⟩;refine⟨_,rfl,?_⟩;have q:=k H' s';simpa using q
theorem rm{m:List Nat}(h:isE m=true):NumText.digitsVal m<=8:=by
 match m,h with
 | [a],h =>
  unfold isE at h
  simp at h
  show 0*10+(a-48)<=8;omega
 | [],h=>exact absurd h (by decide)
 |a::b::m,h =>
  unfold isE at h
  simp at h
theorem pL{s s':PSt}{m:List Nat}(h:nxt s m=some s'):(s'=.pm↔m=[42])/\(s'=.pe↔m=[94])/\(m≠[43]->m≠[45]->m≠[120]->m≠[42]->m≠[94]->(∀c∈m,isD c=true)/\m≠[]/\(s=.pe->NumText.digitsVal m<=8)):=by
 have a1:=@kX m;have a2:=@kZ m;have a3:=@kY m;have a4:=@la m;have a5:=@rm m;have a6:isN m=true->m≠[]:=λh z=>by rw[z]at h;exact absurd h (by decide)
 cases s<;>simp only[nxt]at h<;>(repeat' split at h)<;>first |cases h |skip
 all_goals grind
theorem ir{D:Ends}{σ:St}{H:Hp}{t1 t2:TS}{c1 c2:TT}(b1 b2:Bool)(e1:∀G:Bool->Hp->Prop,G b1 H->c1 σ H G)(e2:b1=false->∀G:Bool->Hp->Prop,G b2 H->c2 σ H G)(h1:b1=true\/b2=true->t1 D σ H)(h2:b1=false->b2=false->t2 D σ H):bO (tOr c1 c2) t1 t2 D σ H:=by
 refine aY (eF (e1 _ ?_));cases hb1:b1 with
 |true=>exact aD (aD (h1 (.inl hb1)))
 |false =>
  refine aC (e2 hb1 _ ?_);cases hb2:b2 with
  |true=>exact aD (h1 (.inr hb2))
  |false=>exact aC (h2 hb1 hb2)
theorem nT{D:Ends}{σ:St}{H:Hp}{t1 t2:TS}{c1 c2:TT}(R:Hp->Prop)(b1 b2:Bool)(e1:∀G:Bool->Hp->Prop,(∀H4,R H4->G b1 H4)->c1 σ H G)(e2:b1=true->∀H4,R H4->∀G:Bool->Hp->Prop,G b2 H4->c2 σ H4 G)(h1:b1=true->b2=true->∀H4,R H4->t1 D σ H4)(h2:b1=false\/b2=false->∀H4,R H4->t2 D σ H4):bO (gN c1 c2) t1 t2 D σ H:=by
 refine aY (bg (e1 _ λH4 r4=>?_));cases hb1:b1 with
 |false=>exact aC (aC (h2 (.inl hb1) H4 r4))
 |true =>
  refine aD (e2 hb1 H4 r4 _ ?_);cases hb2:b2 with
  |true=>exact aD (h1 hb1 hb2 H4 r4)
  |false=>exact aC (h2 (.inr hb2) H4 r4)
def AuI(ps:List Mk)(c:Cfg)(pl pr:Addr)(H:Hp)(i:Nat)(σ':St)(H':Hp):Prop:=∃(z5 z6:Option V) (row:List Int) (ci:Cfg),σ'=[some (.ref pl),some (.ref pr),some (.int ci.sg),some (.int ci.many),some (.int ci.k),z5,z6]/\Same H H'/\H' pr=some (.lst (row.map V.int))/\row.length=9/\(∀n,cf row n=ci.row n)/\ci.k<=8/\Bits 2 ci.sg/\Bits 1000 ci.many/\mgo ci (ps.drop i)=(c,[])/\(i=0->ci.st=.p0)/\(∀u,0<i->ps[i-1]?=some u->(ci.st=.pm↔u.1=[42])/\(ci.st=.pe↔u.1=[94]))
def ib:Sp:=λvs H Q _=>∃(pl:Addr) (ps:List Mk) (c:Cfg),vs=[.ref pl]/\H pl=some (.lst (ps.map λu=>V.str (stL u.1)))/\ps.length<=1000/\(∀u∈ps,u.1.length<=300)/\mgo cfg0 ps=(c,[])/\∀(q:Addr) (H':Hp) (row:List Int),Same H H'->H q=none->H' q=some (.lst (row.map V.int))->Tr row->row.length<=9->(∀n,cf row n=c.fin n)->Q (.ref q) H'
theorem rz:∀m:List Nat,inV (.str (stL m)) [.str (Str.ofString "*"),.str (Str.ofString "^")]=(decide (m=[42]) ||decide (m=[94])):=λm=>by
 rw[fh,gj];show(eqV (.str (stL [42])) (.str (stL m)) || (eqV (.str (stL [94])) (.str (stL m)) ||false))=_;rw[bi,bi,Bool.or_false];have h1:decide ([42]=m)=decide (m=[42]):=by rw[decide_eq_decide];exact eq_comm
 have h2:decide ([94]=m)=decide (m=[94]):=by rw[decide_eq_decide];exact eq_comm
 rw[h1,h2]
theorem pz{f:Addr}{fd:FuncData}(F:Fun K "_law_added_up" "_law_added_up" dQ f fd)(T:Txt K mg){sV:Addr}{sr:FuncData}(vn:Cal P w K mg base 1 "_law_trim" ["_law_row_here"] (cG K) sV sr):FnOk P w K mg base CX0 2 f fd ["_law_marks"] ib:=by
 obtain⟨uQ,qw,q8,ul⟩:=vn;refine F.ok sc__law_added_up (λvs H Q E h=>?_) (λcdv A outer s H vs Q E hr h=>?_)
 ·obtain⟨pl,ps,c,rfl,_⟩:=h;rfl
 ·obtain⟨pl,ps,c,rfl,hpl,hps,hlen,hgo,kk⟩:=h;have big:=sizeLine_eq
  refine⟨_,(ag (ar (i:=1) sc__law_added_up.nd rfl (Or.inl rfl) (am iC (aN (aa ad ac)) ad))
   (ag (ar (i:=2) sc__law_added_up.nd rfl (Or.inl rfl) ad)
   (ag (ar (i:=3) sc__law_added_up.nd rfl (Or.inl rfl) ad)
   (ag (ar (i:=4) sc__law_added_up.nd rfl (Or.inl rfl) ad)
   (ag (eR PassesOwn.never rfl (iy rfl T.range_ (aa (aF (bj (K:=K) rfl) (by rfl) T.len_ PySem.boot_len (aa (pv 0) ac)) ac)) (cL (i:=5) sc__law_added_up.nd rfl (Or.inl rfl))
     (ag (ar (i:=6) sc__law_added_up.nd rfl (Or.inl rfl) (ao (ay (K:=K) rfl) (pv 0) (pv 5) (λ_ _=>rfl)))
       (af (au (PW.pt (eL (aj aL (pv 6) ae (ak _)) (eK (aj aL (pv 6) ae (ak _)))))
         (ag (cJ (am bD (ao (ay (K:=K) rfl) (pv 1) (pv 4) (λ_ _=>rfl)) (am fY (pv 2) (pv 3))) (cK (pv 1) (pv 4) cI))
           (ag (ar (i:=2) sc__law_added_up.nd rfl (Or.inl rfl) (ao (ay (K:=K) rfl) (aN (aa ad (aa (eU ez ad) ac))) (bp da (by rfl) T.int_ PyProof.Rows.boot_int (aa (ba aL (pv 6) ae (ak _)) ac)) (λ_ _=>rfl)))
           (ag (ar (i:=3) sc__law_added_up.nd rfl (Or.inl rfl) ad)
           (af (ar (i:=4) sc__law_added_up.nd rfl (Or.inl rfl) ad)))))
         (af (au (aj aL (pv 6) ae (ak _))
           (ag (ar (i:=4) sc__law_added_up.nd rfl (Or.inl rfl) ad)
             (af (au (PW.pt (eL (aj cu (pv 5) ad (ak _)) (eK (aj d7 (ao (ay (K:=K) rfl) (pv 0) (am cN (pv 5) ad) (λ_ _=>rfl)) ae (ak _)))))
               (af (ar (i:=3) sc__law_added_up.nd rfl (Or.inl rfl) ad))
               ax)))
           (af (au (PW.pt (bn (aj (iD (K:=K) rfl) (pv 6) (bv (aa ae (aa ae ac))) (by rfl)) (bn (aj d9 (pv 5) ad (ak _)) (bu (aj aL (ao (ay (K:=K) rfl) (pv 0) (am cN (pv 5) ad) (λ_ _=>rfl)) ae (ak _))))))
             (af (ar (i:=4) sc__law_added_up.nd rfl (Or.inl rfl) (bp gy (by rfl) T.int_ PyProof.Rows.boot_int (aa (pv 6) ac))))
             (af (au (aj (iD (K:=K) rfl) (pv 6) (bv (aa ae (aa ae ac))) (by rfl))
               (af (ar (i:=3) sc__law_added_up.nd rfl (Or.inl rfl) (bp gy (by rfl) T.int_ PyProof.Rows.boot_int (aa (pv 6) ac))))
               ax))))))))))
   (ag (cJ (am bD (ao (ay (K:=K) rfl) (pv 1) (pv 4) (λ_ _=>rfl)) (am fY (pv 2) (pv 3))) (cK (pv 1) (pv 4) cI))
   (af (al (aB uQ (hr.mono) rfl qw q8 ul .nil av (aa (pv 1) ac)))))))))),?_⟩
  refine aK ⟨by show 1<=sizeLine;decide,λp0 hp0=>⟨p0,9,_,rfl,rfl,ai,by decide,by decide,by show 1*9<=sizeLine;decide,λpr hpr=>?_⟩⟩;have r9:(List.replicate (Int.toNat 9) [V.int 0]).flatten=(List.replicate 9 (0:Int)).map V.int:=ij 9;rw[r9];have s0:=Same.upd_new (o:=.lst [V.int 0]) hp0;have s1:=s0.then_new (o:=.lst ((List.replicate 9 (0:Int)).map V.int)) hpr;have e1:upd (upd H p0 (.lst [V.int 0])) pr (.lst ((List.replicate 9 (0:Int)).map V.int)) pr=some (.lst ((List.replicate 9 (0:Int)).map V.int)):=ai;have hf:H pr=none:=s0.free hpr;generalize upd (upd H p0 (.lst [V.int 0])) pr (.lst ((List.replicate 9 (0:Int)).map V.int))=H1 at s1 e1 ⊢
  refine aK (aK (aK ?_));have hn:((ps.map λu=>V.str (stL u.1)).length:Int)=((ps.length:Nat):Int):=by rw[vK]
  have at0:∀{i:Nat} {u:Mk},ps[i]?=some u->atI (ps.map λu=>V.str (stL u.1)) (i:Int)=some (V.str (stL u.1)):=λ{i u} h=>cb (by rw[List.getElem?_map,h];rfl)
  refine⟨_,rfl,pl,_,rfl,.inl (SqL.of (s1 _ _ hpl)),_,rfl,by rw[hn];omega,by rw[hn];omega,?_⟩;rw[vK,wj];refine lq (lo:=0) (AuI ps c pl pr H) ⟨none,none,_,cfg0,rfl,s1,e1,by simp,λn=>by rw[lJ];rfl,by decide,by show(1:Int).natAbs<2^2;decide,Bits.zero,hgo,λ_=>rfl,λu z=>absurd z (by decide)⟩ ?_ ?_
  ·rintro i σ' H2 hi ⟨z5,z6,row,ci,rfl,s2,e2,hrl,hrow,hk8,bs,bm,hg,hi0,hip⟩;obtain⟨u,hu⟩:∃u,ps[i]?=some u:=⟨ps[i],List.getElem?_eq_getElem hi⟩;have hmem:=List.mem_of_getElem? hu;have hul:=hlen u hmem
   have hdr:ps.drop i=u::ps.drop (i+1):=by
    have h5:ps[i]=u:=by rw[List.getElem?_eq_getElem hi]at hu;exact Option.some.inj hu
    rw[<- h5];exact wl hi
   rw[hdr]at hg
   obtain⟨st',hnx⟩:∃s',nxt ci.st u.1=some s':=by
    cases h:nxt ci.st u.1 with
    |none=>rw[cR h]at hg;cases hg
    |some s'=>exact⟨s',rfl⟩
   rw[bE hnx]at hg;obtain⟨n1,n2,n3⟩:=pL hnx
   have hlast:∀v,0<i+1->ps[i+1-1]?=some v->(st'=.pm↔v.1=[42])/\(st'=.pe↔v.1=[94]):=λv _ hv=>by rw[Nat.add_sub_cancel,hu]at hv;cases hv;exact⟨n1,n2⟩
   have hst:(ci.put u.1 st').st=st':=by
    unfold Cfg.put;split
    ·rfl
    ·split
     ·rfl
     ·split
      ·rfl
      ·split<;>rfl
   rw[show(0:Int)+(i:Int)=i from Int.zero_add _];show aV _ _ _ _ _;have hpl2:=s2 _ _ hpl;refine aK ⟨_,rfl,_,rfl,pl,_,_,_,rfl,rfl,SqL.of hpl2,at0 hu,?_⟩;refine cm (u:=bO _ _ _) (λσ' H'=>σ'=[some (.ref pl),some (.ref pr),some (.int ci.sg),some (.int ci.many),some (.int ci.k),some (.int i),some (.str (stL u.1))]/\H2=H') ⟨rfl,rfl⟩ ?_;rintro σ' H3 ⟨rfl,rfl⟩;have hkr:ci.k<row.length:=by omega
   refine ir (decide (V.str (stL u.1)=V.str (Str.ofString "+"))) (decide (V.str (stL u.1)=V.str (Str.ofString "-"))) (λG h=>⟨_,rfl,rfl,_,rfl,h⟩) (λ_ G h=>⟨_,rfl,rfl,_,rfl,h⟩) (λhz=>?_) (λz1 z2=>?_)
   ·rw[decide_eq_true_eq,decide_eq_true_eq,aX fi,aX cS]at hz
    have hput:ci.put u.1 st'=⟨st',ci.fin,if u.1=[45]then -1 else 1,0,0⟩:=by unfold Cfg.put;rw[if_pos hz]
    refine⟨_,rfl,_,rfl,pr,_,_,_,rfl,rfl,SqL.of e2,fE rfl hkr,_,rfl,_,rfl,_,_,rfl,rfl,⟨bs.mono,bm.mono⟩,_,_,rfl,rfl,_,rfl,_,rfl,pr,_,_,ci.k,rfl,rfl,e2,kW rfl (by rw[vK];exact hkr),?_⟩;rw[kE];have s3:=iK (o:=.lst ((row.set ci.k (cf row ci.k+ci.sg*ci.many)).map V.int)) s2 hf;have e3:upd H2 pr (.lst ((row.set ci.k (cf row ci.k+ci.sg*ci.many)).map V.int)) pr=some (.lst ((row.set ci.k (cf row ci.k+ci.sg*ci.many)).map V.int)):=ai;generalize upd H2 pr (.lst ((row.set ci.k (cf row ci.k+ci.sg*ci.many)).map V.int))=H3 at s3 e3 ⊢
    dsimp only
    refine aK ⟨_,rfl,by show 2<=sizeLine;decide,λp2 hp2=>?_⟩;refine⟨_,rfl,rfl,.inr ⟨_,rfl,p2,_,_,_,rfl,rfl,SqL.of ai,dc _ _ _,?_⟩⟩;have s4:=s3.then_new (o:=.lst [V.int 1,V.int (-1)]) hp2;have e4:upd H3 p2 (.lst [V.int 1,V.int (-1)]) pr=some (.lst ((row.set ci.k (cf row ci.k+ci.sg*ci.many)).map V.int)):=by rw[upd_ne (aO e3 hp2)];exact e3
    have esg:(if decide (V.str (stL u.1)=V.str (Str.ofString "-"))=true then V.int (-1)else V.int 1)=V.int (if u.1=[45]then -1 else 1):=by
     by_cases h45:u.1=[45]
     ·rw[if_pos (decide_eq_true ((aX cS).mpr h45)),if_pos h45]
     ·rw[if_neg (λz=>h45 ((aX cS).mp (of_decide_eq_true z))),if_neg h45]
    refine⟨some (.int i),some (.str (stL u.1)),row.set ci.k (cf row ci.k+ci.sg*ci.many),ci.put u.1 st',?_,s4,e4,by rw[List.length_set];exact hrl,λn=>?_,by rw[hput];exact vT _,?_,by rw[hput];exact Bits.zero,hg,λz=>absurd z (by omega),by rw[hst];exact hlast⟩
    ·rw[hput,<- esg];rfl
    ·rw[hput,lI hkr];show _=ci.row n+_;rw[<- hrow n];by_cases hnk:n=ci.k
     ·rw[if_pos hnk,if_pos hnk,hnk]
     ·rw[if_neg hnk,if_neg hnk,Int.add_zero]
    ·rw[hput];show(if u.1=[45]then(-1:Int)else 1).natAbs<2^2;split<;>decide
   rw[decide_eq_false_iff_not,aX fi]at z1;rw[decide_eq_false_iff_not,aX cS]at z2;have hpm:¬(u.1=[43]\/u.1=[45]):=λz=>z.elim z1 z2
   refine aY ⟨_,rfl,rfl,_,rfl,aq (λz3=>?_) (λz3=>?_)⟩
   ·rw[aX fg]at z3
    have hput:ci.put u.1 st'=⟨st',ci.row,ci.sg,if ci.st=.pm then ci.many else 1,1⟩:=by unfold Cfg.put;rw[if_neg hpm,if_pos z3]
    refine aK ?_;refine cm (u:=bO _ _ _) (λσ' H'=>σ'=[some (.ref pl),some (.ref pr),some (.int ci.sg),some (.int ci.many),some (.int 1),some (.int i),some (.str (stL u.1))]/\H2=H') ⟨rfl,rfl⟩ ?_;rintro σ' H3 ⟨rfl,rfl⟩
    have fin:∀mm:Int,mm=(if ci.st=.pm then ci.many else 1)->AuI ps c pl pr H (i+1) [some (.ref pl),some (.ref pr),some (.int ci.sg),some (.int mm),some (.int 1),some (.int i),some (.str (stL u.1))] H2:=λmm hm =>
     ⟨some (.int i),some (.str (stL u.1)),row,ci.put u.1 st',by subst hm;rw[hput];rfl,s2,e2,hrl,by rw[hput];exact hrow,by rw[hput];show 1<=8;decide,by rw[hput];exact bs,by
      rw[hput];show Bits 1000 (if ci.st=.pm then ci.many else 1);split
      ·exact bm
      ·show(1:Int).natAbs<2^1000;decide +kernel,hg,λz=>absurd z (by omega),by rw[hst];exact hlast⟩
    by_cases hi1:i=0
    ·have hp0':ci.st=.p0:=hi0 hi1;refine ir (decide ((i:Int)=0)) true (λG h=>⟨_,rfl,_,_,rfl,rfl,_,rfl,h⟩) (λz=>absurd (show(i:Int)=0 by omega) (by simpa using z)) (λ_=>?_) (λz=>absurd (show(i:Int)=0 by omega) (by simpa using z));exact aZ (fin 1 (by rw[hp0',if_neg (by decide)]))
    ·obtain⟨v,hv⟩:∃v,ps[i-1]?=some v:=⟨ps[i-1],List.getElem?_eq_getElem (by omega)⟩;obtain⟨q1,q2⟩:=hip v (by omega) hv;have ei:(i:Int)-1=((i-1:Nat):Int):=by omega
     refine ir (decide ((i:Int)=0)) (!decide (V.str (stL v.1)=V.str (Str.ofString "*"))) (λG h=>⟨_,rfl,_,_,rfl,rfl,_,rfl,h⟩) (λ_ G h=>⟨_,rfl,_,rfl,_,_,rfl,rfl,pl,_,_,_,rfl,rfl,SqL.of hpl2,by rw[ei];exact at0 hv,rfl,_,rfl,h⟩) (λhz=>?_) (λ_ z=>?_)
     ·refine aZ (fin 1 ?_);rw[if_neg];intro z;rcases hz with hz |hz
      ·have:(i:Int)=0:=by simpa using hz
       omega
      ·have h42:=q1.mp z;rw[decide_eq_true ((aX fh).mpr h42)]at hz;cases hz
     ·refine ip (fin _ ?_);rw[if_pos];have:decide (V.str (stL v.1)=V.str (Str.ofString "*"))=true:=by simpa using z
      exact q1.mpr ((aX fh).mp (of_decide_eq_true this))
   rw[aX fg]at z3
   have tup:∀(H3:Hp),Same H H3->H3 pr=some (.lst (row.map V.int))->∀(σ:St) (G:Bool->Hp->Prop),σ[6]?=some (some (.str (stL u.1)))->(∀H4,Same H H4->H4 pr=some (.lst (row.map V.int))->G (!(decide (u.1=[42]) ||decide (u.1=[94]))) H4)->gJ (tOp (rIn K true) (gI 6) (fN (cD (tC (.str (Str.ofString "*"))) (cD (tC (.str (Str.ofString "^"))) eB)))) σ H3 G:=λH3 s3 e3 σ G e6 hG=>by refine⟨_,e6,by show 2<=sizeLine;decide,λpt hpt=>⟨pt,_,rfl,.inr (SqT.of ai),rfl,by decide,_,rfl,?_⟩⟩;show G (!(inV (.str (stL u.1)) [.str (Str.ofString "*"),.str (Str.ofString "^")])) _;rw[rz];exact hG _ (s3.then_new hpt) (by rw[upd_ne (aO e3 hpt)];exact e3)
   have hput0:u.1=[42]\/u.1=[94]->ci.put u.1 st'={ ci with st:=st' }:=λz=>by unfold Cfg.put;rw[if_neg hpm,if_neg z3,if_pos z]
   have hput1:¬(u.1=[42]\/u.1=[94])->ci.st=.pe->ci.put u.1 st'=⟨st',ci.row,ci.sg,ci.many,NumText.digitsVal u.1⟩:=λz y=>by unfold Cfg.put;rw[if_neg hpm,if_neg z3,if_neg z,if_pos y]
   have hput2:¬(u.1=[42]\/u.1=[94])->ci.st≠.pe->ci.put u.1 st'=⟨st',ci.row,ci.sg,(NumText.digitsVal u.1:Nat),ci.k⟩:=λz y=>by unfold Cfg.put;rw[if_neg hpm,if_neg z3,if_neg z,if_neg y]
   have hD:¬(u.1=[42]\/u.1=[94])->(∀c∈u.1,isD c=true)/\u.1≠[]/\(ci.st=.pe->NumText.digitsVal u.1<=8):=λz=>n3 z1 z2 z3 (λy=>z (.inl y)) (λy=>z (.inr y))
   have fin:∀(H3:Hp) (cj:Cfg) (v6:Option V),Same H H3/\H3 pr=some (.lst (row.map V.int))->ci.put u.1 st'=cj->cj.sg=ci.sg->(∀n,ci.row n=cj.row n)->cj.k<=8->Bits 1000 cj.many->AuI ps c pl pr H (i+1) [some (.ref pl),some (.ref pr),some (.int ci.sg),some (.int cj.many),some (.int cj.k),some (.int i),v6] H3:=λH3 cj v6 r3 hc h1 h2 h3 h4 =>⟨some (.int i),v6,row,cj,by rw[h1],r3.1,r3.2,hrl,λn=>(hrow n).trans (h2 n),h3,by rw[h1];exact bs,h4,by rw[<- hc];exact hg,λz=>absurd z (by omega),by rw[<- hc,hst];exact hlast⟩
   refine nT (λH4=>Same H H4/\H4 pr=some (.lst (row.map V.int))) (!(decide (u.1=[42]) ||decide (u.1=[94]))) (decide (ci.st=.pe)) (λG hG=>tup H2 s2 e2 _ G rfl (λH4 a b=>hG H4 ⟨a,b⟩)) (λ_ H4 r4 G hG=>?_) (λb1 b2 H4 r4=>?_) (λhb H4 r4=>?_)
   ·by_cases hi1:i=0
    ·have hp0':ci.st=.p0:=hi0 hi1;rw[hp0']at hG;refine bg ⟨_,rfl,_,_,rfl,rfl,_,rfl,aq (λz=>absurd (show(0:Int)<(i:Int)from z) (by omega)) (λ_=>hG)⟩
    ·obtain⟨v,hv⟩:∃v,ps[i-1]?=some v:=⟨ps[i-1],List.getElem?_eq_getElem (by omega)⟩;obtain⟨q1,q2⟩:=hip v (by omega) hv;have ei:(i:Int)-1=((i-1:Nat):Int):=by omega
     refine bg ⟨_,rfl,_,_,rfl,rfl,_,rfl,aq (λ_=>⟨_,rfl,_,rfl,_,_,rfl,rfl,pl,_,_,_,rfl,rfl,SqL.of (r4.1 _ _ hpl),by rw[ei];exact at0 hv,rfl,_,rfl,?_⟩) (λz=>absurd (show(0:Int)<(i:Int) by omega) z)⟩
     have eb:decide (V.str (stL v.1)=V.str (Str.ofString "^"))=decide (ci.st=.pe):=by rw[decide_eq_decide];exact(aX gj).trans q2.symm
     show G (decide (V.str (stL v.1)=V.str (Str.ofString "^"))) H4;rw[eb];exact hG
   ·have hsh:¬(u.1=[42]\/u.1=[94]):=by simpa using b1
    have hpe:ci.st=.pe:=of_decide_eq_true b2;obtain⟨d1,d2,d3⟩:=hD hsh;exact aZ ⟨_,rfl,_,_,rfl,by rw[ap];omega,gv d1 d2 (by omega),fin H4 _ _ r4 (hput1 hsh hpe) rfl (λ_=>rfl) (d3 hpe) bm⟩
   ·refine aY (tup H4 r4.1 r4.2 _ _ rfl λH5 s5 e5=>?_);by_cases hsh:u.1=[42]\/u.1=[94]
    ·rw[show(!(decide (u.1=[42]) ||decide (u.1=[94])))=false by rcases hsh with z |z<;>simp[z]];exact aC (ip (fin H5 { ci with st:=st' } _ ⟨s5,e5⟩ (hput0 hsh) rfl (λ_=>rfl) hk8 bm))
    ·have hb1:(!(decide (u.1=[42]) ||decide (u.1=[94])))=true:=by simpa using hsh
     have hpe:ci.st≠.pe:=λz=>by
      rcases hb with hb |hb
      ·rw[hb1]at hb;cases hb
      ·rw[decide_eq_true z]at hb;cases hb
     obtain⟨d1,d2,d3⟩:=hD hsh;rw[hb1];exact aD (aZ ⟨_,rfl,_,_,rfl,by rw[ap];omega,gv d1 d2 (by omega),fin H5 _ _ ⟨s5,e5⟩ (hput2 hsh hpe) rfl (λ_=>rfl) hk8 (ki (lB d1 hul))⟩)
  ·rintro σ' H2 ⟨z5,z6,row,ci,rfl,s2,e2,hrl,hrow,hk8,bs,bm,hg,hi0,hip⟩;rw[List.drop_length]at hg;obtain rfl:ci=c:=congrArg Prod.fst hg;have hkr:ci.k<row.length:=by omega
   dsimp only
   refine⟨_,rfl,_,rfl,pr,_,_,_,rfl,rfl,SqL.of e2,fE rfl hkr,_,rfl,_,rfl,_,_,rfl,rfl,⟨bs.mono,bm.mono⟩,_,_,rfl,rfl,_,rfl,_,rfl,pr,_,_,ci.k,rfl,rfl,e2,kW rfl (by rw[vK];exact hkr),?_⟩;rw[kE];have s3:=iK (o:=.lst ((row.set ci.k (cf row ci.k+ci.sg*ci.many)).map V.int)) s2 hf;have e3:upd H2 pr (.lst ((row.set ci.k (cf row ci.k+ci.sg*ci.many)).map V.int)) pr=some (.lst ((row.set ci.k (cf row ci.k+ci.sg*ci.many)).map V.int)):=ai;generalize upd H2 pr (.lst ((row.set ci.k (cf row ci.k+ci.sg*ci.many)).map V.int))=H3 at s3 e3 ⊢
   dsimp only
   refine aH ⟨_,rfl,pr,_,rfl,SqL.of e3,λq H4 s4 hq eq=>?_⟩;have hl:=kM (row.set ci.k (cf row ci.k+ci.sg*ci.many));rw[List.length_set]at hl;refine kk q H4 _ (s3.trans s4) (s3.free hq) eq (eA _) (by omega) λn=>?_
   rw[jf,lI hkr];show _=ci.row n+_;rw[<- hrow n];by_cases hnk:n=ci.k
   ·rw[if_pos hnk,if_pos hnk,hnk]
   ·rw[if_neg hnk,if_neg hnk,Int.add_zero]
def LWI(H1:Hp)(pa pl:Addr)(N:Nat)(H':Hp):Prop:=SamE pa pl H1 H'/\∃(T:List Nat) (st:PSt) (b:Int) (ms:List (List Nat)),LAt H' pa pl T st b ms/\LInv T st b ms/\(∀c∈T,c<128)/\T.length<=150+N/\ms.length<=N/\∀m∈ms,m.length<=30
theorem jM{st st':PSt}{b b':Int}{ms ms':List (List Nat)}{m:List Nat}{n:Nat}(h:Stp st b ms m n st' b' ms'):ms'=ms\/ms'=ms++[m]:=by
 rcases h with⟨_,_,_,h⟩ |⟨_,_,_,_,h⟩ |⟨_,_,_,h⟩
 ·exact .inr h
 ·exact .inl h
 ·exact .inl h
theorem LWI.put{H1 H H':Hp}{pa pl:Addr}{N:Nat}{T m:List Nat}{st st':PSt}{b b':Int}{ms ms':List (List Nat)}{g:Nat}(s:SamE pa pl H1 H)(hI:LInv T st b ms)(ha:∀c∈T,c<128)(hl:T.length+m.length+1<=150+N)(hm:WfM m)(hml:m.length<=30)(hms:ms.length+1<=N)(hm3:∀m∈ms,m.length<=30)
 (s2:SamE pa pl H H') (hg:g<=1) (hgl:0<g\/bC T m) (hS:Stp st b ms m (T.length+g) st' b' ms') (hA:LAt H' pa pl (T++List.replicate g 32++m) st' b' ms'):LWI H1 pa pl N H':=by
 refine⟨s.trans s2,_,_,_,_,hA,hI.put hm hgl hS,λc hc=>?_,?_,?_,λx hx=>?_⟩
 ·rcases v1.mp hc with hc |hc
  ·rcases v1.mp hc with hc |hc
   ·exact ha c hc
   ·rw[List.eq_of_mem_replicate hc];decide
  ·exact hm.asc c hc
 ·rw[vM,vM,vR];omega
 ·rcases jM hS with h |h<;>rw[h]
  ·omega
  ·rw[vM];exact hms
 ·rcases jM hS with h |h<;>rw[h]at hx
  ·exact hm3 x hx
  ·rcases v1.mp hx with hx |hx
   ·exact hm3 x hx
   ·rw[v3.mp hx];exact hml
theorem LWI.mono{H1 H':Hp}{pa pl:Addr}{N M:Nat}(h:LWI H1 pa pl N H')(hN:N<=M:=by decide):LWI H1 pa pl M H':=by obtain⟨s,T,st,b,ms,a1,a2,a3,a4,a5,a6⟩:=h;exact⟨s,T,st,b,ms,a1,a2,a3,by omega,by omega,a6⟩
theorem LWI.same{H1 H H':Hp}{pa pl:Addr}{N:Nat}(h:LWI H1 pa pl N H)(s:Same H H'):LWI H1 pa pl N H':=by obtain⟨s0,T,st,b,ms,a1,a2⟩:=h;exact⟨s0.trans (SamE.of s),T,st,b,ms,a1.same s,a2⟩
theorem rA(s:PSt):inV (.str (psS s)) [.str (Str.ofString "p0"),.str (Str.ofString "p1"),.str (Str.ofString "pm"),.str (Str.ofString "pe")]=s.opn:=by cases s<;>decide +kernel
theorem rO(c:Int):∃g:Nat,g<=1/\(if c*69621%65539%5-3>0 then c*69621%65539%5-3 else 0)=(g:Int):=by
 have h0:=wf (c*69621%65539) (b:=5) (by decide);have h1:=wn (c*69621%65539) (b:=5) (by decide);generalize c*69621%65539%5=x at h0 h1 ⊢
 by_cases h:x-3>0
 ·exact⟨1,by decide,by rw[if_pos h];omega⟩
 ·exact⟨0,by decide,by rw[if_neg h];rfl⟩
theorem jv:WfM [120]:=by decide
theorem jw:WfM [56]:=by decide
theorem qG:Str.ofString "8"=stL [56]:=by decide +kernel
theorem oZ{C f:Addr}{fd:FuncData}(F:Fun K "law" "law" bP f fd)(T:Txt K mg)(R:QC K mg C){tw:Addr}{sD:FuncData}(vy:Cal P w K mg base 1 "_law_cell" ["_law_script","_law_k"] (di K) tw sD){tj:Addr}{sy:FuncData}(vv:Cal P w K mg base 2 "_law_mark" ["_law_state","_law_cell_here","_law_wild_here"] g7 tj sy){sZ:Addr}{sw:FuncData}(vr:Cal P w K mg base 3 "_law_put" ["_law_at","_law_mark_here","_law_gap"] gZ sZ sw){sY:Addr}{sv:FuncData}(vq:Cal P w K mg base 8 "_law_refused" ["_law_text","_law_place"] gX sY sv){tz:Addr}{sF:FuncData}(vz:Cal P w K mg base 2 "_law_added_up" ["_law_marks"] ib tz sF){i7:Addr}{i4:FuncData}(jr:CalV P w K mg base 7 "read_poly" ["text"] (fQ C CNoText) i7 i4){sX:Addr}{su:FuncData}(vp:Cal P w K mg base 2 "_law_row" ["_law_found","_law_due"] gU sX su):FnOk P w K mg base CX0 9 f fd ["_law_script"] (fR K):=by
 obtain⟨gD,gi,gq,gA⟩:=vy;obtain⟨uT,qz,rc,uq⟩:=vv;obtain⟨jp,iS,iW,jk⟩:=vr;obtain⟨mn,kJ,kS,ma⟩:=vq;obtain⟨uW,qC,rf,uu⟩:=vz;obtain⟨gC,gh,gp,gz⟩:=jr;obtain⟨ml,kI,kR,lZ⟩:=vp;refine F.ok sc_law (λvs H Q E h=>?_) (λcdv A outer s H vs Q E hr h=>?_)
 ·obtain⟨a,ns,rfl,_⟩:=h;rfl
 ·obtain⟨a,ns,rfl,hS,hlen,k⟩:=h;have big:=sizeLine_eq
  refine⟨_,(ag (ar (i:=1) sc_law.nd rfl (Or.inl rfl) (aN (aa ae (aa ae (aa (eU ez ad) (aa (aN ac) ac))))))
   (ag (ar (i:=2) sc_law.nd rfl (Or.inl rfl) (ao (ay (K:=K) rfl) (aN (aa ad (aa ad (aa ad ac)))) (am bh (aB gD (hr.mono) rfl gi gq gA .nil av (aa (pv 0) (aa ad ac))) ad) (λ_ _=>rfl)))
   (ag (eR PassesOwn.never rfl (ou (K:=K) rfl (eV (ig (K:=K) rfl) (pv 0) (cp ad) (cp ad))) (cL (i:=3) sc_law.nd rfl (Or.inl rfl))
     (ag (ar (i:=4) sc_law.nd rfl (Or.inl rfl) (aB uT (hr.mono) rfl qz rc uq .nil av (aa (ao (ay (K:=K) rfl) (pv 1) ad (λ_ _=>rfl)) (aa (pv 3) (aa (pv 2) ac)))))
       (af (au (aj bR (am bD (aF bZ (by rfl) T.len_ PySem.boot_len (aa (ao (ay (K:=K) rfl) (pv 1) ad (λ_ _=>rfl)) ac)) (aF bZ (by rfl) T.len_ PySem.boot_len (aa (pv 4) ac))) ad (ak _))
         (af (cn (aB jp (hr.mono) rfl iS iW jk .nil av (aa (pv 1) (aa (pv 4) (aa (aF (lQ rfl) (by rfl) T.max_ PyProof.Rows.boot_max (aa ad (aa (am cN (am bh (am bh (am oM (pv 3) ad) ad) ad) ad) ac))) ac))))))
         ax))))
   (ag (au (PW.pt (bn (aj d9 (am bh (aB gD (hr.mono) rfl gi gq gA .nil av (aa (pv 0) (aa ad ac))) ad) ad (ak _)) (bu (aj (d8 (K:=K) rfl) (ao (ay (K:=K) rfl) (pv 1) ad (λ_ _=>rfl)) (bv (aa ae (aa ae (aa ae ac)))) (by rfl)))))
     (af (cn (aB jp (hr.mono) rfl iS iW jk .nil av (aa (pv 1) (aa ae (aa ad ac))))))
     ax)
   (ag (au (PW.pt (bn (aj d9 (am bh (aB gD (hr.mono) rfl gi gq gA .nil av (aa (pv 0) (aa ad ac))) ad) ad (ak _)) (bu (aj aL (ao (ay (K:=K) rfl) (pv 1) ad (λ_ _=>rfl)) ae (ak _)))))
     (af (cn (aB jp (hr.mono) rfl iS iW jk .nil av (aa (pv 1) (aa ae (aa ad ac))))))
     ax)
   (ag (ar (i:=5) sc_law.nd rfl (Or.inl rfl) (am iF (ao (ay (K:=K) rfl) (pv 1) ad (λ_ _=>rfl)) (am j6 ae (am bh (am eX (aB gD (hr.mono) rfl gi gq gA .nil av (aa (pv 0) (aa ad ac))) ad) ad))))
   (ag (au (PW.pt (bn (aj bR (ao (ay (K:=K) rfl) (pv 1) ad (λ_ _=>rfl)) ad (ak _)) (bu (aj (d8 (K:=K) rfl) (ao (ay (K:=K) rfl) (pv 1) ad (λ_ _=>rfl)) (bv (aa ae (aa ae (aa ae (aa ae ac))))) (by rfl)))))
     (af (cJ (aF bZ (by rfl) T.len_ PySem.boot_len (aa (pv 5) ac)) (cK (pv 1) ad cI)))
     ax)
   (ag (au (aj oO (ao (ay (K:=K) rfl) (pv 1) ad (λ_ _=>rfl)) ad (ak _))
     (af (al (bz (aB mn (hr.mono) rfl kJ kS ma .nil av (aa (pv 5) (aa (ao (ay (K:=K) rfl) (pv 1) ad (λ_ _=>rfl)) ac))) (bG (aB mn (hr.mono) rfl kJ kS ma .nil av (aa (pv 5) (aa (ao (ay (K:=K) rfl) (pv 1) ad (λ_ _=>rfl)) ac)))))))
     ax)
   (ag (ar (i:=6) sc_law.nd rfl (Or.inl rfl) (aB uW (hr.mono) rfl qC rf uu .nil av (aa (ao (ay (K:=K) rfl) (pv 1) ad (λ_ _=>rfl)) ac)))
   (ag (ar (i:=7) sc_law.nd rfl (Or.inl rfl) (aB gC (hr.mono) rfl gh gp gz .nil j1 (aa (pv 5) ac)))
   (ag (au (eO (bQ (aB ml (hr.mono) rfl kI kR lZ .nil av (aa (pv 7) (aa (pv 6) ac)))))
     (af (al bH))
     ax)
   (ag (cn (iA PySem.F.plainAttrs_list PySem.F.slot_list_append PySem.F.type_list_append iL (pv 7) (aa ad ac)))
   (af (al (aB ml (hr.mono) rfl kI kR lZ .nil av (aa (aB gC (hr.mono) rfl gh gp gz .nil j1 (aa (pv 5) ac)) (aa (pv 6) ac))))))))))))))))),?_⟩
  refine aK ⟨_,rfl,by show 0<=sizeLine;decide,λpl hpl=>⟨by show 4<=sizeLine;decide,λpa hpa=>?_⟩⟩;have s1:=Same.upd_new (o:=.lst []) hpl;have e1:upd H pl (.lst []) pl=some (.lst []):=ai;generalize upd H pl (.lst [])=H1 at s1 e1 hpa ⊢
  have s2:=s1.then_new (o:=.lst [.str (Str.ofString ""),.str (Str.ofString "p0"),.int (-1),.ref pl]) hpa;have t2:=Same.upd_new (o:=.lst [.str (Str.ofString ""),.str (Str.ofString "p0"),.int (-1),.ref pl]) hpa;have e2:upd H1 pa (.lst [.str (Str.ofString ""),.str (Str.ofString "p0"),.int (-1),.ref pl]) pa=some (.lst [.str (Str.ofString ""),.str (Str.ofString "p0"),.int (-1),.ref pl]):=ai;have hpa':H pa=none:=s1.free hpa;generalize upd H1 pa (.lst [.str (Str.ofString ""),.str (Str.ofString "p0"),.int (-1),.ref pl])=H2 at s2 e2 t2 ⊢
  have e1':=t2 _ _ e1;have hA0:LAt H2 pa pl [] .p0 (-1) []:=⟨by rw[e2,eh];rfl,e1'⟩;have a0:∀{z0 z1 z2 z3:V},atI [z0,z1,z2,z3] 0=some z0:=rfl;have a1:∀{z0 z1 z2 z3:V},atI [z0,z1,z2,z3] 1=some z1:=rfl;have a2:∀{z0 z1 z2 z3:V},atI [z0,z1,z2,z3] 2=some z2:=rfl;have a3:∀{z0 z1 z2 z3:V},atI [z0,z1,z2,z3] 3=some z3:=rfl;refine aK ⟨by show 3<=sizeLine;decide,λp3 hp3=>?_⟩;have u3:=Same.upd_new (o:=.lst [V.int 0,V.int 8,V.int 40]) hp3;obtain⟨v,hv,ev⟩:=gB (xs:=[V.int 0,V.int 8,V.int 40]) (n:=3) rfl (by decide) (ns.getD 0 0)
  obtain⟨wd,rfl,hw0,hw1⟩:∃z:Int,v=.int z/\0<=z/\z<=40:=by
   simp only[vO,v0,or_false]at hv;rcases hv with rfl |rfl |rfl
   ·exact⟨_,rfl,by decide,by decide⟩
   ·exact⟨_,rfl,by decide,by decide⟩
   ·exact⟨_,rfl,by decide,by decide⟩
  refine⟨_,rfl,a,ns,0,rfl,(s2.trans u3).seq hS,_,_,rfl,rfl,(by show(0:Int)<3;decide),p3,_,_,_,rfl,rfl,SqL.of ai,ev,?_⟩;show aV _ _ _ _ _;refine cm (λσ' H'=>σ'=[some (.ref a),some (.ref pa),some (.int wd),none,none,none,none,none]/\Same H2 H') ⟨rfl,u3⟩ ?_;clear u3 hp3 ev hv;rintro σ' H3 ⟨rfl,s3⟩;have hA3:=hA0.same s3;refine⟨_,rfl,2,rfl,64,rfl,a,_,rfl,(s2.trans s3).seq hS,λp5 hp5=>?_⟩;rw[tR];have s5:=Same.upd_new (o:=.lst ((bL ns (some 2) (some 64)).map V.int)) hp5;have e5:upd H3 p5 (.lst ((bL ns (some 2) (some 64)).map V.int)) p5=some (.lst ((bL ns (some 2) (some 64)).map V.int)):=ai;have n5a:p5≠pa:=(aO hA3.1 hp5).symm;have n5l:p5≠pl:=(aO hA3.2 hp5).symm;generalize upd H3 p5 (.lst ((bL ns (some 2) (some 64)).map V.int))=H5 at s5 e5 ⊢
  have hcs:(bL ns (some 2) (some 64)).length<=63:=vQ (tT ns _ _) hlen;generalize bL ns (some 2) (some 64)=cs at e5 hcs ⊢
  have keep:∀{H':Hp},SamE pa pl H5 H'->Same H H':=λ{H'} q b o e=>q b o (λz=>by rw[z,hpa']at e;cases e) (λz=>by rw[z,hpl]at e;cases e) (s5 _ _ (s3 _ _ (s2 _ _ e)))
  refine⟨p5,rfl,⟨_,SqL.of e5⟩,rR (K:=K) (a:=p5) (xs:=cs.map V.int) (λi σ' H'=>∃(z3 z4:Option V),σ'=[some (.ref a),some (.ref pa),some (.int wd),z3,z4,none,none,none]/\LWI H5 pa pl i H') ⟨none,none,rfl,λ_ _ _ _ e=>e,[],.p0,-1,[],hA3.same s5,LInv.start,λ_ h=>(nomatch h),vT _,vJ _,λ_ h=>nomatch h⟩ ?_ ?_ ?_⟩
  ·rintro i σ' H6 _ ⟨z3,z4,rfl,hW⟩;exact SqL.of (hW.1 _ _ n5a n5l e5)
  ·rintro i x σ' H6 hx ⟨z3,z4,rfl,hW⟩;obtain⟨c,_,rfl,_,_⟩:=rN hx;obtain⟨sE,T',st,b,ms,hA,hI,has,hTl,hml,hm3⟩:=hW
   have hi:i<63:=by have:=(List.getElem?_eq_some_iff.mp hx).1;rw[vK]at this;omega
   show aV _ _ _ _ _;refine aK ⟨_,rfl,pa,_,_,_,rfl,rfl,SqL.of hA.1,a1,_,rfl,_,rfl,st,c,wd,rfl,hw0,hw1,λz H7 s7 hz=>?_⟩;obtain⟨m,rfl⟩:∃m,z=stL m:=⟨z.cps.toList,(nc z).symm⟩;obtain⟨hwf,hm25⟩:=hz;rw[cF]at hwf hm25;have hA7:=hA.same s7;refine cm (u:=bO _ _ _) (λσ' H'=>σ'=[some (.ref a),some (.ref pa),some (.int wd),some (.int c),some (.str (stL m)),none,none,none]/\H7=H') ⟨rfl,rfl⟩ ?_;rintro σ' H8 ⟨rfl,rfl⟩;refine aY ⟨_,rfl,pa,_,_,_,rfl,rfl,SqL.of hA7.1,a0,_,rfl,by rw[ap];omega,_,rfl,_,rfl,by rw[ap];omega,_,_,rfl,rfl,_,_,rfl,rfl,_,rfl,aq (λhlt=>?_) (λ_=>?_)⟩
   ·rw[ap,ap]at hlt;have hlt':T'.length+m.length<150:=by omega
    obtain⟨g,hg,eg⟩:=rO c;refine fU ⟨_,rfl,_,rfl,_,rfl,_,_,rfl,rfl,.inr ⟨by decide,by decide⟩,_,_,rfl,rfl,(by show(0:Int)<65539;decide),_,_,rfl,rfl,(by show(0:Int)<5;decide),_,_,rfl,rfl,_,_,rfl,?_⟩;refine⟨pa,pl,T',st,b,ms,m,g,congrArg (λx=>[V.ref pa,V.str (stL m),V.int x]) eg,hA7,hwf,by omega,by omega,by omega,hg,λH9 st' b' ms' g' s9 hg' hgl hSt hA9=>?_⟩;exact⟨_,_,rfl,LWI.put (sE.trans (SamE.of s7)) hI has (by omega) hwf (by omega) (by omega) hm3 s9 hg' hgl hSt hA9⟩
   ·exact ip ⟨_,_,rfl,(LWI.same ⟨sE,T',st,b,ms,hA,hI,has,hTl,hml,hm3⟩ s7).mono (Nat.le_succ _)⟩
  ·rintro σ' H6 ⟨z3,z4,rfl,hW⟩;rw[vK]at hW
   replace hW:=hW.mono (show cs.length<=63 by omega)
   dsimp only
   refine bf (λσ' H'=>σ'=[some (.ref a),some (.ref pa),some (.int wd),z3,z4,none,none,none]/\LWI H5 pa pl 90 H') ?_ (λrest=>bg ⟨_,rfl,a,ns,1,rfl,(keep hW.1).seq hS,_,_,rfl,rfl,(by show(0:Int)<4;decide),_,_,rfl,rfl,_,rfl,aq (λ_=>?_) (λ_=>rest _ _ ⟨rfl,hW.mono⟩)⟩)
   rotate_left
   ·obtain⟨sE,T',st,b,ms,hA,hI,has,hTl,hml,hm3⟩:=hW;refine⟨_,rfl,pa,_,_,_,rfl,rfl,SqL.of hA.1,a1,by show 3<=sizeLine;decide,λpt hpt=>⟨pt,_,rfl,.inr (SqT.of ai),rfl,by decide,_,rfl,?_⟩⟩;have u7:=Same.upd_new (o:=.tup [V.str (Str.ofString "p0"),V.str (Str.ofString "p1"),V.str (Str.ofString "pm")]) hpt;generalize upd H6 pt (.tup [V.str (Str.ofString "p0"),V.str (Str.ofString "p1"),V.str (Str.ofString "pm")])=H7 at u7 ⊢
    have hA7:=hA.same u7;show if inV (.str (psS st)) [.str (Str.ofString "p0"),.str (Str.ofString "p1"),.str (Str.ofString "pm")]=true then _ else _
    generalize inV (.str (psS st)) [.str (Str.ofString "p0"),.str (Str.ofString "p1"),.str (Str.ofString "pm")]=bb;cases bb with
    |false=>exact aC (rest _ _ ⟨rfl,LWI.mono (LWI.same ⟨sE,T',st,b,ms,hA,hI,has,hTl,hml,hm3⟩ u7) (by decide)⟩)
    |true =>refine aD (fU ⟨_,rfl,pa,pl,T',st,b,ms,[120],0,by rw[<- fg];rfl,hA7,jv,by decide,by omega,by omega,by decide,λH9 st' b' ms' g' s9 hg' hgl hSt hA9=>?_⟩);exact rest _ _ ⟨rfl,LWI.put (sE.trans (SamE.of u7)) hI has (by show T'.length+1+1<=_;omega) jv (by decide) (by omega) hm3 s9 hg' hgl hSt hA9⟩
   clear hW;rintro σ' H7 ⟨rfl,hW⟩;refine bf (λσ' H'=>σ'=[some (.ref a),some (.ref pa),some (.int wd),z3,z4,none,none,none]/\LWI H5 pa pl 100 H') ?_ (λrest=>bg ⟨_,rfl,a,ns,1,rfl,(keep hW.1).seq hS,_,_,rfl,rfl,(by show(0:Int)<4;decide),_,_,rfl,rfl,_,rfl,aq (λ_=>?_) (λ_=>rest _ _ ⟨rfl,hW.mono⟩)⟩)
   rotate_left
   ·obtain⟨sE,T',st,b,ms,hA,hI,has,hTl,hml,hm3⟩:=hW;refine⟨_,rfl,pa,_,_,_,rfl,rfl,SqL.of hA.1,a1,rfl,_,rfl,aq (λ_=>?_) (λ_=>rest _ _ ⟨rfl,LWI.mono ⟨sE,T',st,b,ms,hA,hI,has,hTl,hml,hm3⟩ (by decide)⟩)⟩;refine fU ⟨_,rfl,pa,pl,T',st,b,ms,[56],0,by rw[<- qG];rfl,hA,jw,by decide,by omega,by omega,by decide,λH9 st' b' ms' g' s9 hg' hgl hSt hA9=>?_⟩;exact rest _ _ ⟨rfl,LWI.put sE hI has (by show T'.length+1+1<=_;omega) jw (by decide) (by omega) hm3 s9 hg' hgl hSt hA9⟩
   clear hW;rintro σ' H8 ⟨rfl,sE,T',st,b,ms,hA,hI,has,hTl,hml,hm3⟩;have m0:=wf (ns.getD 1 0/4) (b:=3) (by decide);have m1:=wn (ns.getD 1 0/4) (b:=3) (by decide);obtain⟨n,en⟩:∃n:Nat,ns.getD 1 0/4%3=(n:Int):=⟨(ns.getD 1 0/4%3).toNat,by omega⟩;have hn2:n<=2:=by omega
   have em:Txt.mul (Str.ofString " ") (ns.getD 1 0/4%3)=stL (List.replicate n 32):=by rw[en];exact kj n hn2
   have b4:Bits 9000 (4:Int):=Bits.mono (j:=3) (by show(4:Int).natAbs<2^3;decide) (by decide);refine aK ⟨_,rfl,pa,_,_,_,rfl,rfl,SqL.of hA.1,a0,_,rfl,a,ns,1,rfl,(keep sE).seq hS,_,_,rfl,rfl,⟨by decide,b4⟩,_,_,rfl,rfl,(by show(0:Int)<3;decide),_,_,rfl,rfl,rfl,m0,by omega,_,_,rfl,rfl,by rw[em,ap,ap,vR];omega,?_⟩;rw[em,gP];have hTT:(T'++List.replicate n 32).length<=260:=by rw[vM,vR];omega
   have hPl:Pla (T'++List.replicate n 32):=⟨λc hc=>by
    rcases v1.mp hc with hc |hc
    ·exact has c hc
    ·rw[List.eq_of_mem_replicate hc];decide,by omega⟩
   have hbadI:=λhb=>hI.bad n hb
   have hgoodI:=λhb=>hI.good n hb
   generalize T'++List.replicate n 32=TT at hTT hPl hbadI hgoodI ⊢
   show aV _ _ _ _ _;refine cm (λσ' H'=>σ'=[some (.ref a),some (.ref pa),some (.int wd),z3,z4,some (.str (stL TT)),none,none]/\H8=H') ⟨rfl,rfl⟩ ?_;rintro σ' H9 ⟨rfl,rfl⟩;refine bf (λσ' H'=>σ'=[some (.ref a),some (.ref pa),some (.int wd),z3,z4,some (.str (stL TT)),none,none]/\SamE pa pl H5 H'/\((∃(b':Int) (c:Cfg) (r:List RM.Mk),H' pa=some (.lst [.str (stL T'),.str (psS st),.int b',.ref pl])/\0<=b'/\mgo cfg0 (mks 0 TT)=(c,r)/\(c.st.opn=true\/r≠[])/\((mbg TT.length r:Nat):Int)=b')\/(b<0/\LAt H' pa pl T' st b ms/\st.opn=false))) ?_ (λrest=>bg ⟨_,rfl,pa,_,_,_,rfl,rfl,SqL.of hA.1,a2,_,_,rfl,rfl,_,rfl,aq (λhb=>?_) (λhb=>?_)⟩)
   rotate_left
   ·have hb':b<0:=hb;refine⟨_,rfl,pa,_,_,_,rfl,rfl,SqL.of hA.1,a1,by show 4<=sizeLine;decide,λpt hpt=>⟨pt,_,rfl,.inr (SqT.of ai),rfl,by decide,_,rfl,?_⟩⟩;have u7:=Same.upd_new (o:=.tup [V.str (Str.ofString "p0"),V.str (Str.ofString "p1"),V.str (Str.ofString "pm"),V.str (Str.ofString "pe")]) hpt;generalize upd H8 pt (.tup [V.str (Str.ofString "p0"),V.str (Str.ofString "p1"),V.str (Str.ofString "pm"),V.str (Str.ofString "pe")])=H9 at u7 ⊢
    have hA9:=hA.same u7;show if inV (.str (psS st)) [.str (Str.ofString "p0"),.str (Str.ofString "p1"),.str (Str.ofString "pm"),.str (Str.ofString "pe")]=true then _ else _
    rw[rA];cases ho:st.opn with
    |false=>exact aC (rest _ _ ⟨rfl,sE.trans (SamE.of u7),.inr ⟨hb',hA9,ho⟩⟩)
    |true =>refine aD ⟨_,rfl,_,rfl,by rw[ap];omega,_,rfl,pa,_,_,2,rfl,rfl,hA9.1,rfl,?_⟩;rw[ap];obtain⟨ps,c,g1,g2,_,_⟩:=hgoodI hb';exact rest _ _ ⟨rfl,(sE.trans (SamE.of u7)).trans (SamE.upd (.inl rfl)),.inl ⟨_,c,[],ai,by omega,g1,.inl (by rw[g2];exact ho),rfl⟩⟩
   ·have hb':0<=b:=by have:¬b<0:=hb;omega
    obtain⟨c,r,g1,g2,g3⟩:=hbadI hb';exact rest _ _ ⟨rfl,sE,.inl ⟨b,c,r,hA.1,hb',g1,.inr g2,g3 _⟩⟩
   rintro σ' H9 ⟨rfl,sE9,hC⟩;rcases hC with⟨b',c,r,e9,hb',g1,g2,g3⟩ |⟨hb,hA9,ho⟩
   ·refine aQ ⟨_,rfl,pa,_,_,_,rfl,rfl,SqL.of e9,a2,_,_,rfl,rfl,_,rfl,aq (λ_=>?_) (λz=>absurd hb' z)⟩;refine aH (br ⟨_,rfl,_,rfl,pa,_,_,_,rfl,rfl,SqL.of e9,a2,TT,c,r,by rw[g3];rfl,hPl,g1,g2,λH10 s10=>⟨_,rfl,aD ?_⟩⟩);exact⟨_,rfl,_,rfl,pa,_,_,_,rfl,rfl,SqL.of (s10 _ _ e9),a2,TT,c,r,by rw[g3];rfl,hPl,g1,g2,λH11 _=>k _⟩
   ·refine aQ ⟨_,rfl,pa,_,_,_,rfl,rfl,SqL.of hA9.1,a2,_,_,rfl,rfl,_,rfl,aq (λz=>absurd (show(0:Int)<=b from z) (by omega)) (λ_=>?_)⟩;obtain⟨ps,c,g1,g2,g3,g4⟩:=hgoodI hb;subst g4;have e3:H9 pl=some (.lst (ps.map λu=>V.str (stL u.1))):=by rw[hA9.2,List.map_map];rfl
    have hno:c.st.opn=false:=by rw[g2];exact ho
    rw[vK]at hml;refine aK ⟨_,rfl,pa,_,_,_,rfl,rfl,SqL.of hA9.1,a3,pl,ps,c,rfl,e3,by omega,λu hu=>vQ (hm3 u.1 (List.mem_map_of_mem hu)) (by decide),g3,λq H10 row s10 hq eq tr hr9 hcf=>?_⟩
    have hbad:∀(c':Cfg) (r:List RM.Mk),mgo cfg0 (mks 0 TT)=(c',r)->(c'.st.opn=true\/r≠[])->False:=λc' r h1 h2=>by
     rw[g1]at h1;cases h1;rcases h2 with z |z
     ·rw[hno]at z;cases z
     ·exact z rfl
    have hsame:∀(c':Cfg) (row':List Int),mgo cfg0 (mks 0 TT)=(c',[])->Tr row'->(∀n,cf row' n=c'.fin n)->row'=row:=λc' row' h1 h2 h3=>by rw[g1]at h1;cases h1;exact tM h2 tr λn=>(h3 n).trans (hcf n).symm
    refine aK ⟨_,rfl,TT,rfl,hPl,λc' h1 h2 q2 H11 row2 s11 hq2 eq2 tr2 hl2 hcf2=>?_,λc' r h1 h2=>(hbad c' r h1 h2).elim⟩;obtain rfl:=hsame c' row2 h1 tr2 hcf2;have eq11:=s11 _ _ eq;refine aQ (fS ⟨_,rfl,_,rfl,q2,q,row2,rfl,eq2,eq11,by omega,_,rfl,aC ?_⟩);refine il ⟨_,rfl,.inl ⟨rfl,_,SqL.of eq2⟩,q2,_,_,rfl,rfl,eq2,by rw[vK];omega,?_⟩;have hqq:q≠q2:=aO eq hq2;have e12:upd H11 q2 (.lst (row2.map V.int++[V.int 1])) q=some (.lst (row2.map V.int)):=by rw[upd_ne hqq];exact eq11
    generalize upd H11 q2 (.lst (row2.map V.int++[V.int 1]))=H12 at e12 ⊢
    refine aH ⟨_,rfl,TT,rfl,hPl,λc' h1 h2 q3 H13 row3 s13 hq3 eq3 tr3 hl3 hcf3=>?_,λc' r h1 h2=>(hbad c' r h1 h2).elim⟩;obtain rfl:=hsame c' row3 h1 tr3 hcf3;exact⟨_,rfl,q3,q,row3,rfl,eq3,s13 _ _ e12,by omega,k _⟩
end
theorem all_mk{l:PySem.W.OpenLaw}{w:World}{K:PySem.W.Frag}{h:Heap}{mg:Str->Option Value}{fa CC1 CNoText CRootError CNoName CNoRow f1 f2 f3 f4 f5 f6 f7 f8 f9 f10 f11 f12 f13 f14 f15 f16 f17 f18 f19 f20 f21 f22 f23 f24 f25 f26 f27 f28 f29 f30 f31 f32 f33 f34 f35 tp_EXPONENTS:Addr}(X:K.In h)(G:h.Ns mainGlobals mg)(hfa:mg "law"=some (.ref fa))
 {od1 an1 od2 an2 od3 an3 od4 an4 od5 an5 od6 an6 od7 an7 od8 an8 od9 an9 od10 an10 od11 an11 od12 an12 od13 an13 od14 an14 od15 an15 od16 an16 od17 an17 od18 an18 od19 an19 od20 an20 od21 an21 od22 an22 od23 an23 od24 an24 od25 an25 od26 an26 od27 an27 od28 an28 od29 an29 od30 an30 od31 an31 od32 an32 od33 an33 od34 an34 od35 an35 odtp_EXPONENTS:Option Addr} {sl1 sl2 sl3 sl4 sl5 sl6 sl7 sl8 sl9 sl10 sl11 sl12 sl13 sl14 sl15 sl16 sl17 sl18 sl19 sl20 sl21 sl22 sl23 sl24 sl25 sl26 sl27 sl28 sl29 sl30 sl31 sl32 sl33 sl34 sl35 sltp_EXPONENTS:Array (Option Value)} {oc1 kV1 dc1 pm1 cd1 ct1 oc2 kV2 dc2 pm2 cd2 ct2 oc3 kV3 dc3 pm3 cd3 ct3 oc4 kV4 dc4 pm4 cd4 ct4 oc5 kV5 dc5 pm5 cd5 ct5 oc6 kV6 dc6 pm6 cd6 ct6 oc7 kV7 dc7 pm7 cd7 ct7 oc8 kV8 dc8 pm8 cd8 ct8 oc9 kV9 dc9 pm9 cd9 ct9 oc10 kV10 dc10 pm10 cd10 ct10 oc11 kV11 dc11 pm11 cd11 ct11 oc12 kV12 dc12 pm12 cd12 ct12 oc13 kV13 dc13 pm13 cd13 ct13 oc14 kV14 dc14 pm14 cd14 ct14 oc15 kV15 dc15 pm15 cd15 ct15 oc16 kV16 dc16 pm16 cd16 ct16 oc17 kV17 dc17 pm17 cd17 ct17 oc18 kV18 dc18 pm18 cd18 ct18 oc19 kV19 dc19 pm19 cd19 ct19 oc20 kV20 dc20 pm20 cd20 ct20 oc21 kV21 dc21 pm21 cd21 ct21 oc22 kV22 dc22 pm22 cd22 ct22 oc23 kV23 dc23 pm23 cd23 ct23 oc24 kV24 dc24 pm24 cd24 ct24 oc25 kV25 dc25 pm25 cd25 ct25 oc26 kV26 dc26 pm26 cd26 ct26 oc27 kV27 dc27 pm27 cd27 ct27 oc28 kV28 dc28 pm28 cd28 ct28 oc29 kV29 dc29 pm29 cd29 ct29 oc30 kV30 dc30 pm30 cd30 ct30 oc31 kV31 dc31 pm31 cd31 ct31 oc32 kV32 dc32 pm32 cd32 ct32 oc33 kV33 dc33 pm33 cd33 ct33 oc34 kV34 dc34 pm34 cd34 ct34 oc35 kV35 dc35 pm35 cd35 ct35:Value} {tk_FIGURES:Tok} {tk_LETTERS:Tok} {ntp_EXPONENTS:Nat} {tk_EXPONENTS_0 tk_EXPONENTS_1 tk_EXPONENTS_2 tk_EXPONENTS_3 tk_EXPONENTS_4 tk_EXPONENTS_5 tk_EXPONENTS_6 tk_EXPONENTS_7 tk_EXPONENTS_8:Tok}
 (aC1:PySem.W.nsIn K mainGlobals "Reading"=some (some (.ref CC1)))
 (pg1:PySem.W.plainGet K CC1 Str.empty=true)
 (hd1:PySem.W.hasDictIn K CC1=true)
 (po1:PySem.W.plainOver K CC1=true)
 (sa1:PySem.W.findIn K (.ref CC1) "__setattr__"=some (some (.builtin "object.__setattr__")))
 (mk1:PySem.W.makesIn K CC1=true)
 (kc1:PySem.W.keepIn K (.ref CC1)=true)
 (n1_marks:PySem.W.findIn K (.ref CC1) "marks"=some none)
 (n1_end:PySem.W.findIn K (.ref CC1) "end"=some none)
 (n1_done:PySem.W.findIn K (.ref CC1) "done"=some none)
 (n1_depth:PySem.W.findIn K (.ref CC1) "depth"=some none)
 (aENoText:PySem.W.nsIn K mainGlobals "NoText"=some (some (.ref CNoText)))
 (aERootError:PySem.W.nsIn K mainGlobals "RootError"=some (some (.ref CRootError)))
 (aENoName:PySem.W.nsIn K mainGlobals "NoName"=some (some (.ref CNoName)))
 (aENoRow:PySem.W.nsIn K mainGlobals "NoRow"=some (some (.ref CNoRow)))
 (e0NoText:PySem.W.findIn K (.ref CNoText) "__getattribute__"=some (some (.builtin "BaseException.__getattribute__")))
 (e1NoText:PySem.W.findIn K (.ref CNoText) "__getattr__"=some none)
 (e2NoText:PySem.W.mroIn K CNoText (.type "BaseException")=some true)
 (e3NoText:PySem.W.findIn K (.ref CNoText) "__class__"=some (some (.builtin "object.__class__")))
 (e4NoText:PySem.W.specialIn K (.builtin "object.__class__") "__get__"=some (some (.builtin "getset_descriptor.__get__")))
 (e5NoText:PySem.W.takesIn K (.builtin "object.__class__")=some true)
 (e6NoText:PySem.W.mroIn K CNoText (.type "object")=some true)
 (yXNoText:jc K CNoText f7 ey "ValueError.__new__"=true)
 (yCNoText:gE K CNoText=true)
 (yKNoText:PySem.W.keepIn K (.ref CNoText)=true)
 (yNNoText:PySem.W.findIn K (.ref CNoText) "at"=some none)
 (xh_NoText_RootError:PySem.W.exmOne K (.ref CNoText) (.ref CRootError)=some true)
 (xi_NoText_ValueError:PySem.W.kitOne K (.ref CNoText) (.type "ValueError")=some true)
 (xi_NoText_NoName:PySem.W.kitOne K (.ref CNoText) (.ref CNoName)=some false)
 (xi_NoText_NoRow:PySem.W.kitOne K (.ref CNoText) (.ref CNoRow)=some false)
 (xi_NoText_NoText:PySem.W.kitOne K (.ref CNoText) (.ref CNoText)=some true)
 (a1:PySem.W.nsIn K mainGlobals "poly"=some (some (.ref f1)))
 (l1:K.lookup f1=some ⟨oc1,od1,.func (PySem.W.fnOf "poly" "poly" (az du) (aw du) (ah du) .none kV1 dc1 pm1 an1 cd1 ct1),sl1⟩) (c1:PySem.W.codeIn K cd1 "poly"=true) (k1:PySem.W.keepIn K (.ref f1)=true)
 (a2:PySem.W.nsIn K mainGlobals "coefficient"=some (some (.ref f2)))
 (l2:K.lookup f2=some ⟨oc2,od2,.func (PySem.W.fnOf "coefficient" "coefficient" (az dB) (aw dB) (ah dB) .none kV2 dc2 pm2 an2 cd2 ct2),sl2⟩) (c2:PySem.W.codeIn K cd2 "coefficient"=true) (k2:PySem.W.keepIn K (.ref f2)=true)
 (a3:PySem.W.nsIn K mainGlobals "added"=some (some (.ref f3)))
 (l3:K.lookup f3=some ⟨oc3,od3,.func (PySem.W.fnOf "added" "added" (az dC) (aw dC) (ah dC) .none kV3 dc3 pm3 an3 cd3 ct3),sl3⟩) (c3:PySem.W.codeIn K cd3 "added"=true) (k3:PySem.W.keepIn K (.ref f3)=true)
 (a4:PySem.W.nsIn K mainGlobals "run_end"=some (some (.ref f4)))
 (l4:K.lookup f4=some ⟨oc4,od4,.func (PySem.W.fnOf "run_end" "run_end" (az dj) (aw dj) (ah dj) .none kV4 dc4 pm4 an4 cd4 ct4),sl4⟩) (c4:PySem.W.codeIn K cd4 "run_end"=true) (k4:PySem.W.keepIn K (.ref f4)=true)
 (a5:PySem.W.nsIn K mainGlobals "mark_end"=some (some (.ref f5)))
 (l5:K.lookup f5=some ⟨oc5,od5,.func (PySem.W.fnOf "mark_end" "mark_end" (az dy) (aw dy) (ah dy) .none kV5 dc5 pm5 an5 cd5 ct5),sl5⟩) (c5:PySem.W.codeIn K cd5 "mark_end"=true) (k5:PySem.W.keepIn K (.ref f5)=true)
 (a6:PySem.W.nsIn K mainGlobals "marks_of"=some (some (.ref f6)))
 (l6:K.lookup f6=some ⟨oc6,od6,.func (PySem.W.fnOf "marks_of" "marks_of" (az dw) (aw dw) (ah dw) .none kV6 dc6 pm6 an6 cd6 ct6),sl6⟩) (c6:PySem.W.codeIn K cd6 "marks_of"=true) (k6:PySem.W.keepIn K (.ref f6)=true)
 (a7:PySem.W.findIn K (.ref CNoText) "__init__"=some (some (.ref f7)))
 (l7:K.lookup f7=some ⟨oc7,od7,.func (PySem.W.fnOf "__init__" "NoText.__init__" (az d0) (aw d0) (ah d0) .none kV7 dc7 pm7 an7 cd7 ct7),sl7⟩) (c7:PySem.W.codeIn K cd7 "NoText.__init__"=true) (k7:PySem.W.keepIn K (.ref f7)=true)
 (a8:PySem.W.findIn K (.ref CC1) "__init__"=some (some (.ref f8))) (i8:PySem.W.isFn K (.ref f8)=true)
 (l8:K.lookup f8=some ⟨oc8,od8,.func (PySem.W.fnOf "__init__" "Reading.__init__" (az dZ) (aw dZ) (ah dZ) .none kV8 dc8 pm8 an8 cd8 ct8),sl8⟩) (c8:PySem.W.codeIn K cd8 "Reading.__init__"=true) (k8:PySem.W.keepIn K (.ref f8)=true)
 (a9:PySem.W.findIn K (.ref CC1) "seen"=some (some (.ref f9))) (i9:PySem.W.isFn K (.ref f9)=true)
 (l9:K.lookup f9=some ⟨oc9,od9,.func (PySem.W.fnOf "seen" "Reading.seen" (az dS) (aw dS) (ah dS) .none kV9 dc9 pm9 an9 cd9 ct9),sl9⟩) (c9:PySem.W.codeIn K cd9 "Reading.seen"=true) (k9:PySem.W.keepIn K (.ref f9)=true)
 (a10:PySem.W.findIn K (.ref CC1) "begin"=some (some (.ref f10))) (i10:PySem.W.isFn K (.ref f10)=true)
 (l10:K.lookup f10=some ⟨oc10,od10,.func (PySem.W.fnOf "begin" "Reading.begin" (az dY) (aw dY) (ah dY) .none kV10 dc10 pm10 an10 cd10 ct10),sl10⟩) (c10:PySem.W.codeIn K cd10 "Reading.begin"=true) (k10:PySem.W.keepIn K (.ref f10)=true)
 (a11:PySem.W.findIn K (.ref CC1) "step"=some (some (.ref f11))) (i11:PySem.W.isFn K (.ref f11)=true)
 (l11:K.lookup f11=some ⟨oc11,od11,.func (PySem.W.fnOf "step" "Reading.step" (az dR) (aw dR) (ah dR) .none kV11 dc11 pm11 an11 cd11 ct11),sl11⟩) (c11:PySem.W.codeIn K cd11 "Reading.step"=true) (k11:PySem.W.keepIn K (.ref f11)=true)
 (a12:PySem.W.findIn K (.ref CC1) "passes"=some (some (.ref f12))) (i12:PySem.W.isFn K (.ref f12)=true)
 (l12:K.lookup f12=some ⟨oc12,od12,.func (PySem.W.fnOf "passes" "Reading.passes" (az dU) (aw dU) (ah dU) .none kV12 dc12 pm12 an12 cd12 ct12),sl12⟩) (c12:PySem.W.codeIn K cd12 "Reading.passes"=true) (k12:PySem.W.keepIn K (.ref f12)=true)
 (a13:PySem.W.findIn K (.ref CC1) "demand"=some (some (.ref f13))) (i13:PySem.W.isFn K (.ref f13)=true)
 (l13:K.lookup f13=some ⟨oc13,od13,.func (PySem.W.fnOf "demand" "Reading.demand" (az dX) (aw dX) (ah dX) .none kV13 dc13 pm13 an13 cd13 ct13),sl13⟩) (c13:PySem.W.codeIn K cd13 "Reading.demand"=true) (k13:PySem.W.keepIn K (.ref f13)=true)
 (a14:PySem.W.findIn K (.ref CC1) "finish"=some (some (.ref f14))) (i14:PySem.W.isFn K (.ref f14)=true)
 (l14:K.lookup f14=some ⟨oc14,od14,.func (PySem.W.fnOf "finish" "Reading.finish" (az dW) (aw dW) (ah dW) .none kV14 dc14 pm14 an14 cd14 ct14),sl14⟩) (c14:PySem.W.codeIn K cd14 "Reading.finish"=true) (k14:PySem.W.keepIn K (.ref f14)=true)
 (a15:PySem.W.nsIn K mainGlobals "made_of"=some (some (.ref f15)))
 (l15:K.lookup f15=some ⟨oc15,od15,.func (PySem.W.fnOf "made_of" "made_of" (az dz) (aw dz) (ah dz) .none kV15 dc15 pm15 an15 cd15 ct15),sl15⟩) (c15:PySem.W.codeIn K cd15 "made_of"=true) (k15:PySem.W.keepIn K (.ref f15)=true)
 (a16:PySem.W.nsIn K mainGlobals "is_whole"=some (some (.ref f16)))
 (l16:K.lookup f16=some ⟨oc16,od16,.func (PySem.W.fnOf "is_whole" "is_whole" (az dA) (aw dA) (ah dA) .none kV16 dc16 pm16 an16 cd16 ct16),sl16⟩) (c16:PySem.W.codeIn K cd16 "is_whole"=true) (k16:PySem.W.keepIn K (.ref f16)=true)
 (a17:PySem.W.nsIn K mainGlobals "read_exponent"=some (some (.ref f17)))
 (l17:K.lookup f17=some ⟨oc17,od17,.func (PySem.W.fnOf "read_exponent" "read_exponent" (az dq) (aw dq) (ah dq) .none kV17 dc17 pm17 an17 cd17 ct17),sl17⟩) (c17:PySem.W.codeIn K cd17 "read_exponent"=true) (k17:PySem.W.keepIn K (.ref f17)=true)
 (a18:PySem.W.nsIn K mainGlobals "read_place"=some (some (.ref f18)))
 (l18:K.lookup f18=some ⟨oc18,od18,.func (PySem.W.fnOf "read_place" "read_place" (az dn) (aw dn) (ah dn) .none kV18 dc18 pm18 an18 cd18 ct18),sl18⟩) (c18:PySem.W.codeIn K cd18 "read_place"=true) (k18:PySem.W.keepIn K (.ref f18)=true)
 (a19:PySem.W.nsIn K mainGlobals "read_term"=some (some (.ref f19)))
 (l19:K.lookup f19=some ⟨oc19,od19,.func (PySem.W.fnOf "read_term" "read_term" (az dl) (aw dl) (ah dl) .none kV19 dc19 pm19 an19 cd19 ct19),sl19⟩) (c19:PySem.W.codeIn K cd19 "read_term"=true) (k19:PySem.W.keepIn K (.ref f19)=true)
 (a20:PySem.W.nsIn K mainGlobals "read_terms"=some (some (.ref f20)))
 (l20:K.lookup f20=some ⟨oc20,od20,.func (PySem.W.fnOf "read_terms" "read_terms" (az dk) (aw dk) (ah dk) .none kV20 dc20 pm20 an20 cd20 ct20),sl20⟩) (c20:PySem.W.codeIn K cd20 "read_terms"=true) (k20:PySem.W.keepIn K (.ref f20)=true)
 (a21:PySem.W.nsIn K mainGlobals "read_poly"=some (some (.ref f21)))
 (l21:K.lookup f21=some ⟨oc21,od21,.func (PySem.W.fnOf "read_poly" "read_poly" (az dm) (aw dm) (ah dm) .none kV21 dc21 pm21 an21 cd21 ct21),sl21⟩) (c21:PySem.W.codeIn K cd21 "read_poly"=true) (k21:PySem.W.keepIn K (.ref f21)=true)
 (a22:PySem.W.nsIn K mainGlobals "_law_cell"=some (some (.ref f22)))
 (l22:K.lookup f22=some ⟨oc22,od22,.func (PySem.W.fnOf "_law_cell" "_law_cell" (az dP) (aw dP) (ah dP) .none kV22 dc22 pm22 an22 cd22 ct22),sl22⟩) (c22:PySem.W.codeIn K cd22 "_law_cell"=true) (k22:PySem.W.keepIn K (.ref f22)=true)
 (a23:PySem.W.nsIn K mainGlobals "_law_whole"=some (some (.ref f23)))
 (l23:K.lookup f23=some ⟨oc23,od23,.func (PySem.W.fnOf "_law_whole" "_law_whole" (az dE) (aw dE) (ah dE) .none kV23 dc23 pm23 an23 cd23 ct23),sl23⟩) (c23:PySem.W.codeIn K cd23 "_law_whole"=true) (k23:PySem.W.keepIn K (.ref f23)=true)
 (a24:PySem.W.nsIn K mainGlobals "_law_kind"=some (some (.ref f24)))
 (l24:K.lookup f24=some ⟨oc24,od24,.func (PySem.W.fnOf "_law_kind" "_law_kind" (az dN) (aw dN) (ah dN) .none kV24 dc24 pm24 an24 cd24 ct24),sl24⟩) (c24:PySem.W.codeIn K cd24 "_law_kind"=true) (k24:PySem.W.keepIn K (.ref f24)=true)
 (a25:PySem.W.nsIn K mainGlobals "_law_small"=some (some (.ref f25)))
 (l25:K.lookup f25=some ⟨oc25,od25,.func (PySem.W.fnOf "_law_small" "_law_small" (az dG) (aw dG) (ah dG) .none kV25 dc25 pm25 an25 cd25 ct25),sl25⟩) (c25:PySem.W.codeIn K cd25 "_law_small"=true) (k25:PySem.W.keepIn K (.ref f25)=true)
 (a26:PySem.W.nsIn K mainGlobals "_law_next_in_poly"=some (some (.ref f26)))
 (l26:K.lookup f26=some ⟨oc26,od26,.func (PySem.W.fnOf "_law_next_in_poly" "_law_next_in_poly" (az dL) (aw dL) (ah dL) .none kV26 dc26 pm26 an26 cd26 ct26),sl26⟩) (c26:PySem.W.codeIn K cd26 "_law_next_in_poly"=true) (k26:PySem.W.keepIn K (.ref f26)=true)
 (a27:PySem.W.nsIn K mainGlobals "_law_wild"=some (some (.ref f27)))
 (l27:K.lookup f27=some ⟨oc27,od27,.func (PySem.W.fnOf "_law_wild" "_law_wild" (az dD) (aw dD) (ah dD) .none kV27 dc27 pm27 an27 cd27 ct27),sl27⟩) (c27:PySem.W.codeIn K cd27 "_law_wild"=true) (k27:PySem.W.keepIn K (.ref f27)=true)
 (a28:PySem.W.nsIn K mainGlobals "_law_glued"=some (some (.ref f28)))
 (l28:K.lookup f28=some ⟨oc28,od28,.func (PySem.W.fnOf "_law_glued" "_law_glued" (az dO) (aw dO) (ah dO) .none kV28 dc28 pm28 an28 cd28 ct28),sl28⟩) (c28:PySem.W.codeIn K cd28 "_law_glued"=true) (k28:PySem.W.keepIn K (.ref f28)=true)
 (a29:PySem.W.nsIn K mainGlobals "_law_trim"=some (some (.ref f29)))
 (l29:K.lookup f29=some ⟨oc29,od29,.func (PySem.W.fnOf "_law_trim" "_law_trim" (az dF) (aw dF) (ah dF) .none kV29 dc29 pm29 an29 cd29 ct29),sl29⟩) (c29:PySem.W.codeIn K cd29 "_law_trim"=true) (k29:PySem.W.keepIn K (.ref f29)=true)
 (a30:PySem.W.nsIn K mainGlobals "_law_row"=some (some (.ref f30)))
 (l30:K.lookup f30=some ⟨oc30,od30,.func (PySem.W.fnOf "_law_row" "_law_row" (az dH) (aw dH) (ah dH) .none kV30 dc30 pm30 an30 cd30 ct30),sl30⟩) (c30:PySem.W.codeIn K cd30 "_law_row"=true) (k30:PySem.W.keepIn K (.ref f30)=true)
 (a31:PySem.W.nsIn K mainGlobals "_law_put"=some (some (.ref f31)))
 (l31:K.lookup f31=some ⟨oc31,od31,.func (PySem.W.fnOf "_law_put" "_law_put" (az dJ) (aw dJ) (ah dJ) .none kV31 dc31 pm31 an31 cd31 ct31),sl31⟩) (c31:PySem.W.codeIn K cd31 "_law_put"=true) (k31:PySem.W.keepIn K (.ref f31)=true)
 (a32:PySem.W.nsIn K mainGlobals "_law_added_up"=some (some (.ref f32)))
 (l32:K.lookup f32=some ⟨oc32,od32,.func (PySem.W.fnOf "_law_added_up" "_law_added_up" (az dQ) (aw dQ) (ah dQ) .none kV32 dc32 pm32 an32 cd32 ct32),sl32⟩) (c32:PySem.W.codeIn K cd32 "_law_added_up"=true) (k32:PySem.W.keepIn K (.ref f32)=true)
 (a33:PySem.W.nsIn K mainGlobals "_law_mark"=some (some (.ref f33)))
 (l33:K.lookup f33=some ⟨oc33,od33,.func (PySem.W.fnOf "_law_mark" "_law_mark" (az dM) (aw dM) (ah dM) .none kV33 dc33 pm33 an33 cd33 ct33),sl33⟩) (c33:PySem.W.codeIn K cd33 "_law_mark"=true) (k33:PySem.W.keepIn K (.ref f33)=true)
 (a34:PySem.W.nsIn K mainGlobals "_law_refused"=some (some (.ref f34)))
 (l34:K.lookup f34=some ⟨oc34,od34,.func (PySem.W.fnOf "_law_refused" "_law_refused" (az dI) (aw dI) (ah dI) .none kV34 dc34 pm34 an34 cd34 ct34),sl34⟩) (c34:PySem.W.codeIn K cd34 "_law_refused"=true) (k34:PySem.W.keepIn K (.ref f34)=true)
 (a35:PySem.W.nsIn K mainGlobals "law"=some (some (.ref f35)))
 (l35:K.lookup f35=some ⟨oc35,od35,.func (PySem.W.fnOf "law" "law" (az bP) (aw bP) (ah bP) .none kV35 dc35 pm35 an35 cd35 ct35),sl35⟩) (c35:PySem.W.codeIn K cd35 "law"=true) (k35:PySem.W.keepIn K (.ref f35)=true)
 (z0:PySem.W.nsIn K mainGlobals "len"=some none)
 (z1:PySem.W.nsIn K mainGlobals "all"=some none)
 (z2:PySem.W.nsIn K mainGlobals "max"=some none)
 (z3:PySem.W.nsIn K mainGlobals "range"=some none)
 (z4:PySem.W.nsIn K mainGlobals "int"=some none)
 (z5:PySem.W.nsIn K mainGlobals "isinstance"=some none)
 (z6:PySem.W.nsIn K mainGlobals "bool"=some none)
 (z7:PySem.W.nsIn K mainGlobals "list"=some none)
 (z8:PySem.W.nsIn K mainGlobals "str"=some none)
 (z9:PySem.W.nsIn K mainGlobals "ValueError"=some none)
 (aI_FIGURES:PySem.W.nsIn K mainGlobals "FIGURES"=some (some (.str "0123456789" tk_FIGURES)))
 (aI_LETTERS:PySem.W.nsIn K mainGlobals "LETTERS"=some (some (.str "abcdefghijklmnopqrstuvwxyz" tk_LETTERS)))
 (aI_EXPONENTS:PySem.W.nsIn K mainGlobals "EXPONENTS"=some (some (.ref tp_EXPONENTS)))
 (lI_EXPONENTS:K.lookup tp_EXPONENTS=some ⟨.type "tuple",odtp_EXPONENTS,.seq #[.str "0" tk_EXPONENTS_0,.str "1" tk_EXPONENTS_1,.str "2" tk_EXPONENTS_2,.str "3" tk_EXPONENTS_3,.str "4" tk_EXPONENTS_4,.str "5" tk_EXPONENTS_5,.str "6" tk_EXPONENTS_6,.str "7" tk_EXPONENTS_7,.str "8" tk_EXPONENTS_8] ntp_EXPONENTS,sltp_EXPONENTS⟩)
 : ∃fd:FuncData,(∀(s:Shared) (v:Value),BindsTo s fd ⟨[v],[]⟩ [("_law_script",v)])/\∀base:Heap,K.In base->base.Ns mainGlobals mg->FnOk l.prog w K mg base CX0 9 fa fd ["_law_script"] (fR K):=by
 have e:=hfa.symm.trans (PySem.W.mg_of X G a35);cases e;have T:Txt K mg:=⟨PySem.W.mg_none_of X G z0,PySem.W.mg_none_of X G z1,PySem.W.mg_none_of X G z2,PySem.W.mg_none_of X G z3,PySem.W.mg_none_of X G z4,PySem.W.mg_none_of X G z5,PySem.W.mg_none_of X G z6,PySem.W.mg_none_of X G z7,PySem.W.mg_none_of X G z8,PySem.W.mg_none_of X G z9,⟨_,PySem.W.mg_of X G aI_FIGURES⟩,⟨_,PySem.W.mg_of X G aI_LETTERS⟩,⟨_,PySem.W.mg_of X G aI_EXPONENTS,λH=>.inr ⟨_,_,_,lI_EXPONENTS,rfl,rfl,by show 9<=sizeLine;decide,.cons ⟨_,rfl⟩ (.cons ⟨_,rfl⟩ (.cons ⟨_,rfl⟩ (.cons ⟨_,rfl⟩ (.cons ⟨_,rfl⟩ (.cons ⟨_,rfl⟩ (.cons ⟨_,rfl⟩ (.cons ⟨_,rfl⟩ (.cons ⟨_,rfl⟩ (.nil)))))))))⟩⟩⟩;have R1:QC K mg CC1:=⟨⟨pg1,hd1,po1,sa1⟩,n1_marks,n1_end,n1_done,n1_depth,PySem.W.mg_of X G aC1⟩;have F1:=aE (st:=du) l1 c1 k1;have b1:=F1.binds (ps:=["row"]) λ_ _ _ _ _ _ us hl=>match us,hl with | [_],_=>rfl
 have F2:=aE (st:=dB) l2 c2 k2;have b2:=F2.binds (ps:=["row","place"]) λ_ _ _ _ _ _ us hl=>match us,hl with | [_,_],_=>rfl
 have F3:=aE (st:=dC) l3 c3 k3;have b3:=F3.binds (ps:=["first","second"]) λ_ _ _ _ _ _ us hl=>match us,hl with | [_,_],_=>rfl
 have F4:=aE (st:=dj) l4 c4 k4;have b4:=F4.binds (ps:=["text","at","signs"]) λ_ _ _ _ _ _ us hl=>match us,hl with | [_,_,_],_=>rfl
 have F5:=aE (st:=dy) l5 c5 k5;have b5:=F5.binds (ps:=["text","at"]) λ_ _ _ _ _ _ us hl=>match us,hl with | [_,_],_=>rfl
 have F6:=aE (st:=dw) l6 c6 k6;have b6:=F6.binds (ps:=["text"]) λ_ _ _ _ _ _ us hl=>match us,hl with | [_],_=>rfl
 have F7:=aE (st:=d0) l7 c7 k7;have b7:=F7.binds (ps:=["self","at"]) λ_ _ _ _ _ _ us hl=>match us,hl with | [_,_],_=>rfl
 have F8:=aE (st:=dZ) l8 c8 k8;have b8:=F8.binds (ps:=["self","text"]) λ_ _ _ _ _ _ us hl=>match us,hl with | [_,_],_=>rfl
 have F9:=aE (st:=dS) l9 c9 k9;have b9:=F9.binds (ps:=["self"]) λ_ _ _ _ _ _ us hl=>match us,hl with | [_],_=>rfl
 have F10:=aE (st:=dY) l10 c10 k10;have b10:=F10.binds (ps:=["self"]) λ_ _ _ _ _ _ us hl=>match us,hl with | [_],_=>rfl
 have F11:=aE (st:=dR) l11 c11 k11;have b11:=F11.binds (ps:=["self"]) λ_ _ _ _ _ _ us hl=>match us,hl with | [_],_=>rfl
 have F12:=aE (st:=dU) l12 c12 k12;have b12:=F12.binds (ps:=["self","mark"]) λ_ _ _ _ _ _ us hl=>match us,hl with | [_,_],_=>rfl
 have F13:=aE (st:=dX) l13 c13 k13;have b13:=F13.binds (ps:=["self","mark"]) λ_ _ _ _ _ _ us hl=>match us,hl with | [_,_],_=>rfl
 have F14:=aE (st:=dW) l14 c14 k14;have b14:=F14.binds (ps:=["self"]) λ_ _ _ _ _ _ us hl=>match us,hl with | [_],_=>rfl
 have F15:=aE (st:=dz) l15 c15 k15;have b15:=F15.binds (ps:=["word","signs"]) λ_ _ _ _ _ _ us hl=>match us,hl with | [_,_],_=>rfl
 have F16:=aE (st:=dA) l16 c16 k16;have b16:=F16.binds (ps:=["word"]) λ_ _ _ _ _ _ us hl=>match us,hl with | [_],_=>rfl
 have F17:=aE (st:=dq) l17 c17 k17;have b17:=F17.binds (ps:=["reading"]) λ_ _ _ _ _ _ us hl=>match us,hl with | [_],_=>rfl
 have F18:=aE (st:=dn) l18 c18 k18;have b18:=F18.binds (ps:=["reading"]) λ_ _ _ _ _ _ us hl=>match us,hl with | [_],_=>rfl
 have F19:=aE (st:=dl) l19 c19 k19;have b19:=F19.binds (ps:=["reading","sign"]) λ_ _ _ _ _ _ us hl=>match us,hl with | [_,_],_=>rfl
 have F20:=aE (st:=dk) l20 c20 k20;have b20:=F20.binds (ps:=["reading"]) λ_ _ _ _ _ _ us hl=>match us,hl with | [_],_=>rfl
 have F21:=aE (st:=dm) l21 c21 k21;have b21:=F21.binds (ps:=["text"]) λ_ _ _ _ _ _ us hl=>match us,hl with | [_],_=>rfl
 have F22:=aE (st:=dP) l22 c22 k22;have b22:=F22.binds (ps:=["_law_script","_law_k"]) λ_ _ _ _ _ _ us hl=>match us,hl with | [_,_],_=>rfl
 have F23:=aE (st:=dE) l23 c23 k23;have b23:=F23.binds (ps:=["_law_found"]) λ_ _ _ _ _ _ us hl=>match us,hl with | [_],_=>rfl
 have F24:=aE (st:=dN) l24 c24 k24;have b24:=F24.binds (ps:=["_law_mark_here"]) λ_ _ _ _ _ _ us hl=>match us,hl with | [_],_=>rfl
 have F25:=aE (st:=dG) l25 c25 k25;have b25:=F25.binds (ps:=["_law_mark_here"]) λ_ _ _ _ _ _ us hl=>match us,hl with | [_],_=>rfl
 have F26:=aE (st:=dL) l26 c26 k26;have b26:=F26.binds (ps:=["_law_state","_law_mark_here"]) λ_ _ _ _ _ _ us hl=>match us,hl with | [_,_],_=>rfl
 have F27:=aE (st:=dD) l27 c27 k27;have b27:=F27.binds (ps:=["_law_cell_here"]) λ_ _ _ _ _ _ us hl=>match us,hl with | [_],_=>rfl
 have F28:=aE (st:=dO) l28 c28 k28;have b28:=F28.binds (ps:=["_law_text","_law_mark_here"]) λ_ _ _ _ _ _ us hl=>match us,hl with | [_,_],_=>rfl
 have F29:=aE (st:=dF) l29 c29 k29;have b29:=F29.binds (ps:=["_law_row_here"]) λ_ _ _ _ _ _ us hl=>match us,hl with | [_],_=>rfl
 have F30:=aE (st:=dH) l30 c30 k30;have b30:=F30.binds (ps:=["_law_found","_law_due"]) λ_ _ _ _ _ _ us hl=>match us,hl with | [_,_],_=>rfl
 have F31:=aE (st:=dJ) l31 c31 k31;have b31:=F31.binds (ps:=["_law_at","_law_mark_here","_law_gap"]) λ_ _ _ _ _ _ us hl=>match us,hl with | [_,_,_],_=>rfl
 have F32:=aE (st:=dQ) l32 c32 k32;have b32:=F32.binds (ps:=["_law_marks"]) λ_ _ _ _ _ _ us hl=>match us,hl with | [_],_=>rfl
 have F33:=aE (st:=dM) l33 c33 k33;have b33:=F33.binds (ps:=["_law_state","_law_cell_here","_law_wild_here"]) λ_ _ _ _ _ _ us hl=>match us,hl with | [_,_,_],_=>rfl
 have F34:=aE (st:=dI) l34 c34 k34;have b34:=F34.binds (ps:=["_law_text","_law_place"]) λ_ _ _ _ _ _ us hl=>match us,hl with | [_,_],_=>rfl
 have F35:=aE (st:=bP) l35 c35 k35;have b35:=F35.binds (ps:=["_law_script"]) λ_ _ _ _ _ _ us hl=>match us,hl with | [_],_=>rfl
 refine⟨PySem.W.fnOf "law" "law" (az bP) (aw bP) (ah bP) .none kV35 dc35 pm35 an35 cd35 ct35,λs v=>.of_eq rfl,λbase KB GB=>?_⟩;have XE:EXC K mg base CNoText CRootError CNoName CNoRow:=⟨PySem.W.mg_of X G aENoText,PySem.W.mg_of X G aERootError,PySem.W.mg_of X G aENoName,PySem.W.mg_of X G aENoRow,xh_NoText_RootError,xi_NoText_ValueError,xi_NoText_NoName,xi_NoText_NoRow,xi_NoText_NoText⟩;have C1:Cal l.prog w K mg base 1 "poly" ["row"] (cG K) _ _:=⟨oV F1 T  ,PySem.W.mg_of X G a1,k1,b1⟩;have C2:Cal l.prog w K mg base 1 "coefficient" ["row","place"] (di K) _ _:=⟨o6 F2 T  ,PySem.W.mg_of X G a2,k2,b2⟩;have C3:Cal l.prog w K mg base 2 "added" ["first","second"] (ic K bM) _ _:=⟨o7 F3 T  C1 C2,PySem.W.mg_of X G a3,k3,b3⟩;have C4:Cal l.prog w K mg base 1 "run_end" ["text","at","signs"] gY _ _:=⟨oP F4 T  ,PySem.W.mg_of X G a4,k4,b4⟩;have C5:Cal l.prog w K mg base 2 "mark_end" ["text","at"] g9 _ _:=⟨oX F5 T  C4,PySem.W.mg_of X G a5,k5,b5⟩;have C6:Cal l.prog w K mg base 3 "marks_of" ["text"] g8 _ _:=⟨oW F6 T  C5,PySem.W.mg_of X G a6,k6,b6⟩;have C7:XCal l.prog w K mg base 1 CNoText "NoText" "at" ["self","at"] _ _:=⟨pH F7 T (XCls.of yCNoText) yNNoText,oH KB GB aENoText yXNoText,yKNoText,b7,XCls.of yCNoText,⟨tX e6NoText,e0NoText,e1NoText,e2NoText,e3NoText,e4NoText,e5NoText,e6NoText⟩,yNNoText⟩;have K1:KCal l.prog w K mg base 4 CC1 "Reading" ["self","text"] (gW CC1) _ _ _ []:=⟨pG F8 T R1 C6,⟨mk1,a8,i8,kc1⟩,PySem.W.mg_of X G aC1,b8,b8,.nil⟩;have C9:MCal l.prog w K mg base 1 CC1 "seen" ["self"] (cH CC1) _ _:=⟨pB F9 T R1 ,⟨a9,i9,k9⟩,b9⟩;have C10:MCal l.prog w K mg base 1 CC1 "begin" ["self"] (eE CC1) _ _:=⟨pF F10 T R1 ,⟨a10,i10,k10⟩,b10⟩;have C11:MCal l.prog w K mg base 2 CC1 "step" ["self"] (eD CC1) _ _:=⟨pA F11 T R1 C9,⟨a11,i11,k11⟩,b11⟩;have C12:MCal l.prog w K mg base 2 CC1 "passes" ["self","mark"] (dh CC1) _ _:=⟨pC F12 T R1 C9,⟨a12,i12,k12⟩,b12⟩;have C13:MCalV l.prog w K mg base 3 CC1 "demand" ["self","mark"] (ia CC1 CNoText) _ _:=⟨pE F13 T R1 C12 C10 C7,⟨a13,i13,k13⟩,b13⟩;have C14:MCalV l.prog w K mg base 3 CC1 "finish" ["self"] (h7 CC1 CNoText) _ _:=⟨pD F14 T R1 C10 C7,⟨a14,i14,k14⟩,b14⟩;have C15:Cal l.prog w K mg base 1 "made_of" ["word","signs"] hJ _ _:=⟨oY F15 T  ,PySem.W.mg_of X G a15,k15,b15⟩;have C16:Cal l.prog w K mg base 2 "is_whole" ["word"] hV _ _:=⟨o0 F16 T  C15,PySem.W.mg_of X G a16,k16,b16⟩;have C17:CalV l.prog w K mg base 3 "read_exponent" ["reading"] (h9 CC1 CNoText) _ _:=⟨oU F17 T R1 C9 C11 C10 C7,PySem.W.mg_of X G a17,k17,b17⟩;have C18:CalV l.prog w K mg base 4 "read_place" ["reading"] (g5 CC1 CNoText) _ _:=⟨oT F18 T R1 C13 C12 C17,PySem.W.mg_of X G a18,k18,b18⟩;have C19:CalV l.prog w K mg base 5 "read_term" ["reading","sign"] (gS CC1 CNoText) _ _:=⟨oR F19 T R1 C16 C9 C11 C12 C18 C1,PySem.W.mg_of X G a19,k19,b19⟩;have C20:CalV l.prog w K mg base 6 "read_terms" ["reading"] (gR CC1 CNoText) _ _:=⟨oQ F20 T R1 C19 C12 C9 C3 C11,PySem.W.mg_of X G a20,k20,b20⟩;have C21:CalV l.prog w K mg base 7 "read_poly" ["text"] (fQ CC1 CNoText) _ _:=⟨oS F21 T R1 K1 C20 C14,PySem.W.mg_of X G a21,k21,b21⟩;have C22:Cal l.prog w K mg base 1 "_law_cell" ["_law_script","_law_k"] (di K) _ _:=⟨py F22 T  ,PySem.W.mg_of X G a22,k22,b22⟩;have C23:CalH l.prog w K mg base 1 "_law_whole" ["_law_found"] fP _ _:=⟨o9 F23 T  ,PySem.W.mg_of X G a23,k23,b23⟩;have C24:Cal l.prog w K mg base 1 "_law_kind" ["_law_mark_here"] hU _ _:=⟨pq F24 T  ,PySem.W.mg_of X G a24,k24,b24⟩;have C25:Cal l.prog w K mg base 1 "_law_small" ["_law_mark_here"] gT _ _:=⟨pc F25 T  ,PySem.W.mg_of X G a25,k25,b25⟩;have C26:Cal l.prog w K mg base 2 "_law_next_in_poly" ["_law_state","_law_mark_here"] g6 _ _:=⟨pk F26 T  C24 C25,PySem.W.mg_of X G a26,k26,b26⟩;have C27:Cal l.prog w K mg base 1 "_law_wild" ["_law_cell_here"] gQ _ _:=⟨o8 F27 T  ,PySem.W.mg_of X G a27,k27,b27⟩;have C28:Cal l.prog w K mg base 1 "_law_glued" ["_law_text","_law_mark_here"] hZ _ _:=⟨pw F28 T  ,PySem.W.mg_of X G a28,k28,b28⟩;have C29:Cal l.prog w K mg base 1 "_law_trim" ["_law_row_here"] (cG K) _ _:=⟨pb F29 T  ,PySem.W.mg_of X G a29,k29,b29⟩;have C30:Cal l.prog w K mg base 2 "_law_row" ["_law_found","_law_due"] gU _ _:=⟨ph F30 T  C23,PySem.W.mg_of X G a30,k30,b30⟩;have C31:Cal l.prog w K mg base 3 "_law_put" ["_law_at","_law_mark_here","_law_gap"] gZ _ _:=⟨pj F31 T  C28 C26,PySem.W.mg_of X G a31,k31,b31⟩;have C32:Cal l.prog w K mg base 2 "_law_added_up" ["_law_marks"] ib _ _:=⟨pz F32 T  C29,PySem.W.mg_of X G a32,k32,b32⟩;have C33:Cal l.prog w K mg base 2 "_law_mark" ["_law_state","_law_cell_here","_law_wild_here"] g7 _ _:=⟨pp F33 T  C27,PySem.W.mg_of X G a33,k33,b33⟩;have C34:Cal l.prog w K mg base 8 "_law_refused" ["_law_text","_law_place"] gX _ _:=⟨pi F34 T R1 XE C21 C23 C7,PySem.W.mg_of X G a34,k34,b34⟩;exact oZ F35 T R1 C22 C33 C31 C34 C32 C21 C30
theorem walk{l:PySem.W.OpenLaw}{q:Program}{loose:List Str}{XP:(Str->Option Value)->Heap->Prop}{YP:World->Heap->Prop}{d:DefRec}{K:Params->PySem.W.Frag}(hn:l.most=some 63)(hdf:d.params.defaults=[])
 (hY:∀(w:World) (h:Heap),YP w h->(K w.params).In h)
 (F:∀(w:World) (mg:Str->Option Value) (fa:Addr) (h:Heap),(K w.params).In h->h.Ns mainGlobals mg->mg d.name=some (.ref fa) ->
   ∃fd:FuncData,(∀(s:Shared) (u:Value),BindsTo s fd ⟨[u],[]⟩ [("_law_script",u)])/\∀base:Heap,(K w.params).In base->base.Ns mainGlobals mg->FnOk l.prog w (K w.params) mg base CX0 9 fa fd ["_law_script"] (fR (K w.params))) :
 PySem.W.WalkO q loose XP YP l.row.toRowW d [] (λf vs=>PySem.call f vs) :=
 L2.walk_of (n:=63) (k:=9) (x:="_law_script") (CX:=λ_=>CX0) (sp:=λw=>fR (K w.params)) hn (by decide) hdf ⟨rfl,by decide,by decide⟩ hY F (λ_ _ a ns hl _ hS=>⟨a,ns,rfl,hS,hl,λ_=>rfl⟩) λ_ _ _ _ _ z=>z
section
end
end R67
open PySem PySem.W PyProof.Rows
set_option maxRecDepth 100000 in
set_option maxHeartbeats 0 in
theorem PySem.Challenge.cw_rootspan_k67_no_polynomial_holds : PySem.Challenge.rw_rootspan_k67_no_polynomial.Holds := by
 w_on;o_law;k_head;(case hw=>w_witness2)
 k_fill
 refine R67.walk (l:=PySem.Challenge.rw_rootspan_k67_no_polynomial) rfl rfl (λw h Y=>PySem.W.kIn_of Y) ?F
 case F =>
  intro w mg fa h KX G hmg
  refine' R67.all_mk KX G hmg ?aC1 ?pg1 ?hd1 ?po1 ?sa1 ?mk1 ?kc1 ?n1_marks ?n1_end ?n1_done ?n1_depth ?aENoText ?aERootError ?aENoName ?aENoRow ?e0NoText ?e1NoText ?e2NoText ?e3NoText ?e4NoText ?e5NoText ?e6NoText ?yXNoText ?yCNoText ?yKNoText ?yNNoText ?xh_NoText_RootError ?xi_NoText_ValueError ?xi_NoText_NoName ?xi_NoText_NoRow ?xi_NoText_NoText ?a1 ?l1 ?c1 ?k1 ?a2 ?l2 ?c2 ?k2 ?a3 ?l3 ?c3 ?k3 ?a4 ?l4 ?c4 ?k4 ?a5 ?l5 ?c5 ?k5 ?a6 ?l6 ?c6 ?k6 ?a7 ?l7 ?c7 ?k7 ?a8 ?i8 ?l8 ?c8 ?k8 ?a9 ?i9 ?l9 ?c9 ?k9 ?a10 ?i10 ?l10 ?c10 ?k10 ?a11 ?i11 ?l11 ?c11 ?k11 ?a12 ?i12 ?l12 ?c12 ?k12 ?a13 ?i13 ?l13 ?c13 ?k13 ?a14 ?i14 ?l14 ?c14 ?k14 ?a15 ?l15 ?c15 ?k15 ?a16 ?l16 ?c16 ?k16 ?a17 ?l17 ?c17 ?k17 ?a18 ?l18 ?c18 ?k18 ?a19 ?l19 ?c19 ?k19 ?a20 ?l20 ?c20 ?k20 ?a21 ?l21 ?c21 ?k21 ?a22 ?l22 ?c22 ?k22 ?a23 ?l23 ?c23 ?k23 ?a24 ?l24 ?c24 ?k24 ?a25 ?l25 ?c25 ?k25 ?a26 ?l26 ?c26 ?k26 ?a27 ?l27 ?c27 ?k27 ?a28 ?l28 ?c28 ?k28 ?a29 ?l29 ?c29 ?k29 ?a30 ?l30 ?c30 ?k30 ?a31 ?l31 ?c31 ?k31 ?a32 ?l32 ?c32 ?k32 ?a33 ?l33 ?c33 ?k33 ?a34 ?l34 ?c34 ?k34 ?a35 ?l35 ?c35 ?k35 ?z0 ?z1 ?z2 ?z3 ?z4 ?z5 ?z6 ?z7 ?z8 ?z9 ?aI_FIGURES ?aI_LETTERS ?aI_EXPONENTS ?lI_EXPONENTS
  (case aC1=>k_is)
  (case pg1=>k_is)
  (case hd1=>k_is)
  (case po1=>k_is)
  (case sa1=>k_is)
  (case mk1=>k_is)
  (case kc1=>k_is)
  (case n1_marks=>k_is)
  (case n1_end=>k_is)
  (case n1_done=>k_is)
  (case n1_depth=>k_is)
  (case aENoText=>k_is)
  (case aERootError=>k_is)
  (case aENoName=>k_is)
  (case aENoRow=>k_is)
  (case e0NoText=>k_is)
  (case e1NoText=>k_is)
  (case e2NoText=>k_is)
  (case e3NoText=>k_is)
  (case e4NoText=>k_is)
  (case e5NoText=>k_is)
  (case e6NoText=>k_is)
  (case yCNoText=>first |rfl |with_unfolding_all rfl)
  (case yKNoText=>k_is)
  (case yNNoText=>k_is)
  (case xh_NoText_RootError=>kts_exm)
  (case xi_NoText_ValueError=>kit_is)
  (case xi_NoText_NoName=>kit_is)
  (case xi_NoText_NoRow=>kit_is)
  (case xi_NoText_NoText=>kit_is)
  (case a1=>k_is)
  (case l1=>k_is)
  (case c1=>k_is)
  (case k1=>k_is)
  (case a2=>k_is)
  (case l2=>k_is)
  (case c2=>k_is)
  (case k2=>k_is)
  (case a3=>k_is)
  (case l3=>k_is)
  (case c3=>k_is)
  (case k3=>k_is)
  (case a4=>k_is)
  (case l4=>k_is)
  (case c4=>k_is)
  (case k4=>k_is)
  (case a5=>k_is)
  (case l5=>k_is)
  (case c5=>k_is)
  (case k5=>k_is)
  (case a6=>k_is)
  (case l6=>k_is)
  (case c6=>k_is)
  (case k6=>k_is)
  (case a7=>k_is)
  (case l7=>k_is)
  (case c7=>k_is)
  (case k7=>k_is)
  (case a8=>k_is)
  (case i8=>k_is)
  (case l8=>k_is)
  (case c8=>k_is)
  (case k8=>k_is)
  (case a9=>k_is)
  (case i9=>k_is)
  (case l9=>k_is)
  (case c9=>k_is)
  (case k9=>k_is)
  (case a10=>k_is)
  (case i10=>k_is)
  (case l10=>k_is)
  (case c10=>k_is)
  (case k10=>k_is)
  (case a11=>k_is)
  (case i11=>k_is)
  (case l11=>k_is)
  (case c11=>k_is)
  (case k11=>k_is)
  (case a12=>k_is)
  (case i12=>k_is)
  (case l12=>k_is)
  (case c12=>k_is)
  (case k12=>k_is)
  (case a13=>k_is)
  (case i13=>k_is)
  (case l13=>k_is)
  (case c13=>k_is)
  (case k13=>k_is)
  (case a14=>k_is)
  (case i14=>k_is)
  (case l14=>k_is)
  (case c14=>k_is)
  (case k14=>k_is)
  (case a15=>k_is)
  (case l15=>k_is)
  (case c15=>k_is)
  (case k15=>k_is)
  (case a16=>k_is)
  (case l16=>k_is)
  (case c16=>k_is)
  (case k16=>k_is)
  (case a17=>k_is)
  (case l17=>k_is)
  (case c17=>k_is)
  (case k17=>k_is)
  (case a18=>k_is)
  (case l18=>k_is)
  (case c18=>k_is)
  (case k18=>k_is)
  (case a19=>k_is)
  (case l19=>k_is)
  (case c19=>k_is)
  (case k19=>k_is)
  (case a20=>k_is)
  (case l20=>k_is)
  (case c20=>k_is)
  (case k20=>k_is)
  (case a21=>k_is)
  (case l21=>k_is)
  (case c21=>k_is)
  (case k21=>k_is)
  (case a22=>k_is)
  (case l22=>k_is)
  (case c22=>k_is)
  (case k22=>k_is)
  (case a23=>k_is)
  (case l23=>k_is)
  (case c23=>k_is)
  (case k23=>k_is)
  (case a24=>k_is)
  (case l24=>k_is)
  (case c24=>k_is)
  (case k24=>k_is)
  (case a25=>k_is)
  (case l25=>k_is)
  (case c25=>k_is)
  (case k25=>k_is)
  (case a26=>k_is)
  (case l26=>k_is)
  (case c26=>k_is)
  (case k26=>k_is)
  (case a27=>k_is)
  (case l27=>k_is)
  (case c27=>k_is)
  (case k27=>k_is)
  (case a28=>k_is)
  (case l28=>k_is)
  (case c28=>k_is)
  (case k28=>k_is)
  (case a29=>k_is)
  (case l29=>k_is)
  (case c29=>k_is)
  (case k29=>k_is)
  (case a30=>k_is)
  (case l30=>k_is)
  (case c30=>k_is)
  (case k30=>k_is)
  (case a31=>k_is)
  (case l31=>k_is)
  (case c31=>k_is)
  (case k31=>k_is)
  (case a32=>k_is)
  (case l32=>k_is)
  (case c32=>k_is)
  (case k32=>k_is)
  (case a33=>k_is)
  (case l33=>k_is)
  (case c33=>k_is)
  (case k33=>k_is)
  (case a34=>k_is)
  (case l34=>k_is)
  (case c34=>k_is)
  (case k34=>k_is)
  (case a35=>k_is)
  (case l35=>k_is)
  (case c35=>k_is)
  (case k35=>k_is)
  (case z0=>k_is)
  (case z1=>k_is)
  (case z2=>k_is)
  (case z3=>k_is)
  (case z4=>k_is)
  (case z5=>k_is)
  (case z6=>k_is)
  (case z7=>k_is)
  (case z8=>k_is)
  (case z9=>k_is)
  (case aI_FIGURES=>k_is)
  (case aI_LETTERS=>k_is)
  (case aI_EXPONENTS=>k_is)
  (case lI_EXPONENTS=>k_is)
  (case yXNoText=>first |rfl |with_unfolding_all rfl)
