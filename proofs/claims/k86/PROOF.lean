import PyProof.Rows.All
import Wide.All
import OpenK.AllK
import Wide.FinOn
import Lean
import PyProof.EqAt
import PyProof.EqKinds
import PyProof.TupleCall
import PySem.Challenge.RW_rootspan_k86_whole_no_false_order
set_option Elab.async false
set_option linter.all false
set_option maxRecDepth 100000
local macro_rules | `(tactic|omega)=>`(tactic|first |lia |omega (splitDisjunctions:=true))
noncomputable section
namespace Al
def A4:=@List.length_map
def A5:=@Nat.le_refl
def A6:=@Int.le_of_lt
def A7:=@List.size_toArray
def A8:=@Nat.zero_le
def A9:=@List.length_pos_iff
def Ba:=@List.length_append
def Bb:=@List.mem_cons
def Bc:=@Nat.lt_of_lt_of_le
def Be:=@Nat.ne_of_lt
def Bf:=@List.mem_singleton
def Bg:=@Bool.false_ne_true
def Bh:=@Int.mul_ne_zero
def Bi:=@Int.mul_pos
def Bj:=@List.mem_cons_of_mem
def Bk:=@Nat.le_trans
def Bl:=@List.length_cons
def Bm:=@List.length_eq_zero_iff
def Bn:=@List.mem_append
def Bo:=@List.mem_append_right
def Bp:=@Int.mul_eq_zero
def Bq:=@Nat.lt_irrefl
def Br:=@List.mem_cons_self
def Bs:=@Nat.le_of_not_lt
def Bt:=@Int.natAbs_mul
def Bu:=@Rat.mul_nonneg
def Bv:=@Int.pow_succ
def Bw:=@List.map_append
def By:=@Int.mul_one
def Bz:=@List.length_take
def BA:=@Int.mul_comm
def BB:=@Int.mul_le_mul_of_nonneg_right
def BC:=@List.take_length
def BD:=@List.not_mem_nil
def BE:=@Nat.le_of_lt
def BF:=@Bool.eq_iff_iff
def BG:=@List.replicate_succ
def BH:=@List.lookup_cons
def BI:=@List.getElem_mem
def BJ:=@Int.one_mul
def BK:=@Nat.le_of_eq
def BL:=@Nat.lt_succ_self
def BM:=@List.take_add_one
def BN:=@Int.mul_zero
def BO:=@Int.add_zero
def BP:=@Nat.gcd_dvd_left
def BQ:=@Int.ofNat_dvd_left
def BR:=@Int.natAbs_natCast
def BS:=@Int.mul_lt_mul_of_pos_right
def BT:=@Nat.mul_le_mul_right
def BU:=@List.map_cons
def BV:=@Bool.and_eq_true
def BW:=@List.length_set
def BX:=@Int.zero_mul
def BY:=@List.length_range
def BZ:=@Int.natAbs_pos
def B0:=@Nat.gcd_dvd_right
def B1:=@Nat.sub_zero
def B2:=@List.mem_map
def B3:=@Nat.dvd_trans
def B4:=@Int.eq_of_mul_eq_mul_left
def B5:=@Int.le_of_mul_le_mul_right
def B6:=@Int.le_of_eq
def B7:=@List.nodup_cons
def B8:=@List.flatten_cons
def B9:=@List.all_eq_true
def Ca:=@List.map_congr_left
def Cb:=@Int.mul_nonneg
def Cc:=@Int.lt_or_gt_of_ne
def Cd:=@Nat.mul_le_mul
def Ce:=@Int.natCast_pow
def Cf:=@Int.lt_of_mul_lt_mul_right
def Cg:=@Int.natCast_nonneg
def Ch:=@List.length_replicate
def Ci:=@Nat.pow_le_pow_right
def Cj:=@Int.emod_lt_of_pos
def Ck:=@Int.toNat_of_nonneg
def Cl:=@Int.mul_nonneg_of_nonpos_of_nonpos
end Al
open Al
namespace PySem.W.Fast
def tw12313914877349710801:=()
def tw18131881239414387502:=()
def tw16366424026457305787:=()
def tw349164528435642483:=()
def tw7272037101815105491:=()
def tw7906017448503428700:=()
def tw10729749412247283497:=()
def tw6539272203010700397:=()
def tw1841108438783436214:=()
def tw15572360801289643948:=()
def tw3527640686200196070:=()
def tw5185280195061027284:=()
def tw4019507830636113076:=()
def tw9481208482017315422:=()
def tw17513684285582678235:=()
def tw8207876259397486249:=()
def tw2620062984762600106:=()
def tw5477604956821220719:=()
def tw3667995047554865327:=()
def tw2260359304734824677:=()
def tw14318547315311750586:=()
def tw512670537317466035:=()
def tw12289219577990502096:=()
def tw15278588130287850560:=()
def tw8867579519601884830:=()
def tw7331036052057752899:=()
def tw7598160081606128838:=()
def tw23956186800535756:=()
def tw3883339983992580137:=()
def tw3910714219953021918:=()
def tw16550117118758669701:=()
def tw13335994565160414073:=()
def tw1426522714888119914:=()
def tw10483347871688598568:=()
def tw8102502731399076464:=()
def tw15552227218788720335:=()
def tw14779712187971559459:=()
end PySem.W.Fast
namespace L2
open PySem PySem.Spec PyProof.Rows
abbrev Key:=Sum Int Str
noncomputable def oq:Key->Value->Bool
 |.inl k,v=>Value.isInt k v
 |.inr x,v=>Value.isStrOf x v
noncomputable def wy(w:World):Key->Int
 |.inl k=>hashInt k
 |.inr x=>hashStr w x
theorem cK:∀{k:Key} {v:Value},oq k v=true->(∃i t,k=Sum.inl i/\v=Value.int i t)\/(∃x t,k=Sum.inr x/\v=Value.str x t)
 |.inl i,v,h=>by obtain⟨t,e⟩:=Value.isInt_shape (k:=i) (v:=v) h;exact .inl ⟨i,t,rfl,e⟩
 |.inr x,v,h=>by obtain⟨t,e⟩:=Value.isStrOf_shape (x:=x) (v:=v) h;exact .inr ⟨x,t,rfl,e⟩
theorem wx(a b:Int):decide ((Sum.inl a:Key)=Sum.inl b)=(a == b):=by
 by_cases e:a=b
 ·subst e;simp
 ·have h:¬(Sum.inl a:Key)=Sum.inl b:=λq=>e (Sum.inl.inj q)
  rw[decide_eq_false h];exact(beq_eq_false_iff_ne.mpr e).symm
theorem wu(a b:Str):decide ((Sum.inr a:Key)=Sum.inr b)=decide (a=b):=by
 by_cases e:a=b
 ·subst e;simp
 ·have h:¬(Sum.inr a:Key)=Sum.inr b:=λq=>e (Sum.inr.inj q)
  rw[decide_eq_false h,decide_eq_false e]
theorem ww(a:Int)(b:Str):decide ((Sum.inl a:Key)=Sum.inr b)=false:=decide_eq_false (λq=>nomatch q)
theorem wv(a:Str)(b:Int):decide ((Sum.inr a:Key)=Sum.inl b)=false:=decide_eq_false (λq=>nomatch q)
noncomputable def nR(prog:Program)(w:World):PySem.KeyKind prog w Key where
 is:=oq
 hash:=wy w
 inj:=λv a b ha hb=>by
  rcases cK ha with⟨i,t,rfl,rfl⟩ |⟨x,t,rfl,rfl⟩
  ·rcases cK hb with⟨j,u,rfl,e⟩ |⟨y,u,rfl,e⟩
   ·injection e with e1 _;rw[e1]
   ·exact nomatch e
  ·rcases cK hb with⟨j,u,rfl,e⟩ |⟨y,u,rfl,e⟩
   ·exact nomatch e
   ·injection e with e1 _;rw[e1]
 byValue:=λk v h=>by rcases cK h with⟨i,t,rfl,rfl⟩ |⟨x,t,rfl,rfl⟩<;>rfl
 pyHash:=λhv h=>by
  rcases cK hv with⟨i,t,rfl,rfl⟩ |⟨x,t,rfl,rfl⟩
  ·exact wpAny_pyHash_int h
  ·exact wpAny_pyHash_str h
 eqBool:=λhu hv h=>by
  rcases cK hu with⟨i,t,rfl,rfl⟩ |⟨x,t,rfl,rfl⟩
  ·rcases cK hv with⟨j,u,rfl,rfl⟩ |⟨y,u,rfl,rfl⟩
   ·rw[wx]at h;exact wpAny_eqBool_int h
   ·rw[ww]at h;exact SeqAt.EqAt.int_str i t y u _ _ _ _ h
  ·rcases cK hv with⟨j,u,rfl,rfl⟩ |⟨y,u,rfl,rfl⟩
   ·rw[wv]at h;exact SeqAt.EqAt.str_int x t j u _ _ _ _ h
   ·rw[wu]at h;exact wpAny_eqBool_str h
 «strs»:=λk x t v h=>by
  rcases cK h with⟨i,u,rfl,e⟩ |⟨y,u,rfl,e⟩
  ·exact nomatch e
  ·injection e with e1 _
   subst e1;cases v<;>rfl
inductive V where
 |non |bl (b:Bool) |int (i:Int) |str (x:Str) |byt (b:Array UInt8) |flt (b:UInt64) |ref (a:Addr) |ty (n:String)
 deriving DecidableEq
noncomputable def RelV:V->Value->Prop
 |.non,u=>u=Value.none
 |.bl b,u=>u=Value.bool b
 |.int i,u=>∃t,u=Value.int i t
 |.str x,u=>∃t,u=Value.str x t
 |.byt b,u=>∃t,u=Value.bytes b t
 |.flt b,u=>∃t,u=Value.float b t
 |.ref a,u=>u=Value.ref a
 |.ty n,u=>u=Value.type n
abbrev Vals:List V->List Value->Prop:=Paired RelV
theorem Vals.length{xs:List V}{us:List Value}(r:Vals xs us):xs.length=us.length:=Paired.length r
theorem Vals.get:∀{xs:List V} {us:List Value} {i:Nat} {x:V},Vals xs us->xs[i]?=some x->∃u,us[i]?=some u/\RelV x u
 |_,_,_,_,.nil,e=>by simp at e
 |_,_,0,_,.cons r _,e=>by simp at e;subst e;exact⟨_,rfl,r⟩
 |_,_,i+1,x,.cons _ t,e=>by obtain⟨u,h1,h2⟩:=Vals.get (i:=i) (x:=x) t (by simpa using e);exact⟨u,by simpa using h1,h2⟩
theorem Vals.set{x:V}{u:Value}(r:RelV x u):∀{xs:List V} {us:List Value} (i:Nat),Vals xs us->Vals (xs.set i x) (us.set i u)
 |_,_,_,.nil=>.nil
 |_,_,0,.cons _ t=>.cons r t
 |_,_,i+1,.cons q t=>.cons q (Vals.set r i t)
theorem Vals.append:∀{xs ys:List V} {us ws:List Value},Vals xs us->Vals ys ws->Vals (xs++ys) (us++ws)
 |_,_,_,_,.nil,s=>s
 |_,_,_,_,.cons r t,s=>.cons r (Vals.append t s)
theorem Vals.take:∀{xs:List V} {us:List Value} (n:Nat),Vals xs us->Vals (xs.take n) (us.take n)
 |_,_,0,_=>.nil
 |_,_,_+1,.nil=>.nil
 |_,_,n+1,.cons r t=>.cons r (Vals.take n t)
theorem Vals.drop:∀{xs:List V} {us:List Value} (n:Nat),Vals xs us->Vals (xs.drop n) (us.drop n)
 |_,_,0,r=>r
 |_,_,_+1,.nil=>.nil
 |_,_,n+1,.cons _ t=>Vals.drop n t
theorem Vals.none_of:∀{xs:List V} {us:List Value} {i:Nat},Vals xs us->xs[i]?=none->us[i]?=none:=λ{xs us i} r e=>by have h1:=r.length;have h2:xs.length<=i:=List.getElem?_eq_none_iff.mp e;exact List.getElem?_eq_none_iff.mpr (by omega)
noncomputable def RelO:Option V->Option Value->Prop
 |some v,some u=>RelV v u
 |none,none=>True
 |_,_=>False
noncomputable def KV{κ:Type}:List (κ×V)->List (κ×Value)->Prop:=Paired λ(p:κ×V) (q:κ×Value)=>p.1=q.1/\RelV p.2 q.2
noncomputable def kV:Key->V
 |.inl i=>.int i
 |.inr x=>.str x
inductive HO where
 |lst (xs:List V)
 |tup (xs:List V)
 |dK (kvs:List (Key×V)) |dT (kvs:List (List Key×V))
 |set (S:Int->Bool) (n:Nat)
 |ins (C dx:Addr) (fs:List (Str×V))
 |own (x:Addr)
 |xd (fs:List (Str×V))
 |met (f x:Addr)
 |rng (lo hi:Int)
 |frz (o:Obj) (u:HO)
 |tbl (ps:Array Value)
 |ext (φ:Heap->Prop)
abbrev Hp:=Addr->Option HO
noncomputable def upd(H:Hp)(a:Addr)(o:HO):Hp:=λb=>if b=a then some o else H b
theorem ah{H:Hp}{a:Addr}{o:HO}:upd H a o a=some o:=by unfold upd;rw[if_pos rfl]
theorem upd_ne{H:Hp}{a b:Addr}{o:HO}(h:b≠a):upd H a o b=H b:=by unfold upd;rw[if_neg h]
theorem fZ{H:Hp}{a:Addr}{o u:HO}:upd (upd H a o) a u=upd H a u:=by funext b;unfold upd;split<;>rfl
theorem aH{H:Hp}{a b:Addr}{o:HO}(h:H a=some o)(h':H b=none):a≠b:=by intro e;subst e;rw[h]at h';cases h'
section
variable (P:Program)(w:World)
noncomputable def ObjOk(H:Hp)(h:Heap)(a:Addr):HO->Prop
 |.lst xs=>xs.length<=sizeLine/\∃(its:List Value) (n:Nat),Vals xs its/\h.get? a=some { cls:=.type "list",data:=.seq its.toArray n }
 |.tup xs=>xs.length<=sizeLine/\∃its:List Value,Vals xs its/\IsTup h a its.toArray
 |.dK kvs=>kvs.length<=sizeLine/\(a == sysModules)=false/\∃vs,KV kvs vs/\h.DictOf (nR P w) a vs
 |.dT kvs=>kvs.length<=sizeLine/\(a == sysModules)=false/\∃xs:List (List Key×Addr×Value),
  Paired (λ(p:List Key×V) (q:List Key×Addr×Value)=>p.1=q.1/\H q.2.1=some (.tup (p.1.map kV))/\RelV p.2 q.2.2) kvs xs /\
  ∃o es ep,h.get? a=some o/\o.ExactDict/\o.data=.dict es ep/\es.toList=xs.map (entryOfKey (tupleKind (nR P w)))/\(xs.map (·.1)).Nodup
 |.set S n=>h.SetOf (intKind P w) a S n
 |.ins C dx fs=>H dx=some (.own a)/\fs.length<=1000/\dx≠a/\h.get? a=some (PySem.W.instObj C dx) /\
  ∃mA,h.Ns1 dx mA/\(∀f,RelO (fs.lookup f) (mA f))/\PySem.Within mA (fs.map (·.1))
 |.own _=>∃o,h.get? a=some o
 |.xd fs=>∃mA,h.Ns1 a mA/\∀f,RelO (fs.lookup f) (mA f)
 |.rng lo hi=>∃t u v,h.get? a=some { cls:=.type "range",data:=.fields #[.int lo t,.int hi u,.int 1 v] }
 |.frz o u=>h.get? a=some o/\ObjOk H h a u
 |.tbl ps=>h.get? a=some { cls:=.none,data:=.fields ps }
 |.met f x=>h.get? a=some (PySem.W.methodObj (.ref f) (.ref x))
 |.ext φ=>φ h/\(∃o,h.get? a=some o)/\∀h1 h2:Heap,φ h1->(∀o,h1.get? a=some o->h2.get? a=some o)->φ h2
def HOk(H:Hp)(h:Heap):Prop:=∀a o,H a=some o->ObjOk P w H h a o
end
section
variable {P:Program}{w:World}{H H':Hp}{h h':Heap}{a:Addr}{o:HO}
theorem ObjOk.lt(x:ObjOk P w H h a o):a<h.objs.size:=by
 cases o with
 |lst xs=>obtain⟨_,_,_,_,e⟩:=x;exact Heap.lt_size e
 |tup xs=>obtain⟨_,_,_,p⟩:=x;exact p.lt
 |dK kvs=>obtain⟨_,_,_,_,o,_,_,e,_⟩:=x;exact Heap.lt_size e
 |dT kvs=>obtain⟨_,_,_,_,o,_,_,e,_⟩:=x;exact Heap.lt_size e
 |set S n=>obtain⟨o,_,_,_,e,_⟩:=x;exact Heap.lt_size e
 |ins C dx fs=>obtain⟨_,_,_,e,_⟩:=x;exact Heap.lt_size e
 |own y=>obtain⟨_,e⟩:=x;exact Heap.lt_size e
 |xd fs=>obtain⟨_,⟨_,_,_,e,_⟩,_⟩:=x;exact Heap.lt_size e
 |rng lo hi=>obtain⟨_,_,_,e⟩:=x;exact Heap.lt_size e
 |frz ob u=>obtain⟨e,_⟩:=x;exact Heap.lt_size e
 |tbl ps=>exact Heap.lt_size (show h.get? a=some _ from x)
 |met f y=>exact Heap.lt_size (show h.get? a=some _ from x)
 |ext φ=>obtain⟨_,⟨_,e⟩,_⟩:=x;exact Heap.lt_size e
theorem Paired.mapP{α β:Type}{F G:α->β->Prop}:∀{l₁:List α} {l₂:List β},Paired F l₁ l₂->(∀a b,F a b->G a b)->Paired G l₁ l₂
 |_,_,.nil,_=>.nil
 |_,_,.cons r t,f=>.cons (f _ _ r) (Paired.mapP t f)
theorem ObjOk.stay(x:ObjOk P w H h a o)(k:∀b u,(b=a\/H b=some (.own a))->h.get? b=some u->h'.get? b=some u)
 (ho:∀b,H b=some (.own a)->H' b=some (.own a)) (ht:∀b xs,H b=some (.tup xs)->H' b=some (.tup xs)):ObjOk P w H' h' a o:=by
 induction o with
 |lst xs=>obtain⟨z,its,n,r,e⟩:=x;exact⟨z,its,n,r,k _ _ (.inl rfl) e⟩
 |tup xs=>obtain⟨z,its,r,ob,e,c⟩:=x;exact⟨z,its,r,ob,k _ _ (.inl rfl) e,c⟩
 |dK kvs=>obtain⟨z,y,vs,r,ob,es,ep,e,c⟩:=x;exact⟨z,y,vs,r,ob,es,ep,k _ _ (.inl rfl) e,c⟩
 |dT kvs =>obtain⟨z,y,xs,r,ob,es,ep,e,c⟩:=x;exact⟨z,y,xs,Paired.mapP r λp q z=>⟨z.1,ht _ _ z.2.1,z.2.2⟩,ob,es,ep,k _ _ (.inl rfl) e,c⟩
 |set S n=>obtain⟨ob,es,ep,t,e,c⟩:=x;exact⟨ob,es,ep,t,k _ _ (.inl rfl) e,c⟩
 |ins C dx fs =>obtain⟨d,z,ne,e,mA,⟨od,es,ep,e2,c⟩,r⟩:=x;exact⟨ho _ d,z,ne,k _ _ (.inl rfl) e,mA,⟨od,es,ep,k _ _ (.inr d) e2,c⟩,r⟩
 |own y=>obtain⟨ob,e⟩:=x;exact⟨ob,k _ _ (.inl rfl) e⟩
 |xd fs=>obtain⟨mA,⟨od,es,ep,e,c⟩,r⟩:=x;exact⟨mA,⟨od,es,ep,k _ _ (.inl rfl) e,c⟩,r⟩
 |rng lo hi=>obtain⟨t,u,v,e⟩:=x;exact⟨t,u,v,k _ _ (.inl rfl) e⟩
 |frz ob u ih=>obtain⟨e,q⟩:=x;exact⟨k _ _ (.inl rfl) e,ih q⟩
 |tbl ps =>have e:h.get? a=some { cls:=.none,data:=.fields ps }:=x;show h'.get? a=some { cls:=.none,data:=.fields ps };exact k a _ (.inl rfl) e
 |met f y =>have e:h.get? a=some (PySem.W.methodObj (.ref f) (.ref y)):=x;show h'.get? a=some (PySem.W.methodObj (.ref f) (.ref y));exact k a _ (.inl rfl) e
 |ext φ=>obtain⟨p,⟨o,e⟩,st⟩:=x;exact⟨st _ _ p λo q=>k _ _ (.inl rfl) q,⟨o,k _ _ (.inl rfl) e⟩,st⟩
theorem HOk.lt(x:HOk P w H h)(e:H a=some o):a<h.objs.size:=(x a o e).lt
theorem HOk.fresh(x:HOk P w H h)(e:h.objs.size<=a):H a=none:=by
 cases q:H a with
 |none=>rfl
 |some u=>exact absurd (Bc (x.lt q) e) (Bq _)
theorem HOk.kept(x:HOk P w H h)(k:∀b u,h.get? b=some u->h'.get? b=some u):HOk P w H h':=λa o e =>(x a o e).stay (λb u _ q=>k b u q) (λ_ q=>q) λ_ _ q=>q
theorem HOk.laid(x:HOk P w H h)(k:∀b u,h.get? b=some u->h'.get? b=some u)(hp:h.objs.size<=a)(new:ObjOk P w (upd H a o) h' a o):HOk P w (upd H a o) h':=λb u e=>by
 have hn:=x.fresh hp;by_cases hb:b=a
 ·subst hb;rw[ah]at e;cases e;exact new
 ·rw[upd_ne hb]at e;exact(x b u e).stay (λc v _ q=>k c v q) (λc q=>by rw[upd_ne (aH q hn)];exact q) λc xs q=>by rw[upd_ne (aH q hn)];exact q
end
def Rd(H:Hp)(a:Addr)(u:HO):Prop:=H a=some u\/∃o,H a=some (.frz o u)
theorem Rd.of{H:Hp}{a:Addr}{u:HO}(h:H a=some u):Rd H a u:=.inl h
theorem Rd.ok{P:Program}{w:World}{H:Hp}{h:Heap}{a:Addr}{u:HO}(r:Rd H a u)(x:HOk P w H h):ObjOk P w H h a u:=by
 rcases r with r |⟨o,r⟩
 ·exact x a u r
 ·obtain⟨_,q⟩:=x a _ r;exact q
noncomputable def Mut:Option HO->Prop
 |some (.lst _)=>True
 |some (.dK _)=>True
 |some (.dT _)=>True
 |some (.set _ _)=>True
 |some (.ins _ _ _)=>True
 |some (.ext _)=>True
 |_=>False
section
variable {P:Program}{w:World}{H:Hp}{h h':Heap}{x e:Addr}{o':HO}
theorem HOk.write(ok:HOk P w H h)(mu:Mut (H x))(he:e=x\/H e=some (.own x))(k:∀b u,b≠e->h.get? b=some u->h'.get? b=some u)(heo:∃u,h'.get? e=some u)
 (new:ObjOk P w (upd H x o') h' x o'):HOk P w (upd H x o') h':=λb u q=>by
 have nown:∀c y,H c=some (.own y)->c≠x:=λc y r z=>by subst z;rw[r]at mu;exact mu
 have ntup:∀c xs,H c=some (.tup xs)->c≠x:=λc xs r z=>by subst z;rw[r]at mu;exact mu
 by_cases hb:b=x
 ·subst hb;rw[ah]at q;cases q;exact new
 ·rw[upd_ne hb]at q;by_cases hbe:b=e
  ·have q':H b=some (.own x):=by
    rcases he with z |z
    ·exact absurd (hbe.trans z) hb
    ·rw[hbe];exact z
   rw[q]at q';cases q';obtain⟨v,hv⟩:=heo;exact⟨v,by rw[hbe];exact hv⟩
  ·refine(ok b u q).stay (λc v hc r=>k c v ?_ r) (λc r=>by rw[upd_ne (nown c b r)];exact r) λc xs r=>by rw[upd_ne (ntup c xs r)];exact r
   rcases hc with rfl |hc
   ·exact hbe
   ·rintro rfl;rcases he with z |z
    ·exact nown c b hc z
    ·rw[hc]at z;cases z;exact hb rfl
end
structure Un(fs ex:List Addr)(H H':Hp)(h h':Heap):Prop where
 keep:∀b o,h.get? b=some o->H b=none->b∉fs->b∉ex->h'.get? b=some o
 slot:∀b o,h.get? b=some o->H b=none->b∈fs->b∉ex->∃sl,h'.get? b=some { o with slots:=sl }
 free:∀b o,h.get? b=some o->H b=none->b∉ex->H' b=none
 there:∀b o,h.get? b=some o->b∉ex->∃o',h'.get? b=some o'
 tups:∀b xs,H b=some (.tup xs)->H' b=some (.tup xs)
 frzs:∀b o u,H b=some (.frz o u)->H' b=some (.frz o u)
 tbls:∀b ps,H b=some (.tbl ps)->∃more,H' b=some (.tbl (ps++more))
section
variable {fs fs' ex ex':List Addr}{H H1 H2:Hp}{h h1 h2 h':Heap}{a x e:Addr}{o:HO}
theorem Un.any(u:Un fs ex H H1 h h1){b:Addr}{ob:Obj}(q:h.get? b=some ob)(n:H b=none)(hx:b∉ex):∃sl,h1.get? b=some { ob with slots:=sl }:=by
 by_cases hb:b∈fs
 ·exact u.slot b ob q n hb hx
 ·exact⟨ob.slots,u.keep b ob q n hb hx⟩
theorem Un.trans(a:Un fs ex H H1 h h1)(b:Un fs ex H1 H2 h1 h2):Un fs ex H H2 h h2 where
 keep:=λc ob q n hc hx=>b.keep c ob (a.keep c ob q n hc hx) (a.free c ob q n hx) hc hx
 slot:=λc ob q n hc hx=>by obtain⟨sl,e1⟩:=a.slot c ob q n hc hx;obtain⟨sl',e2⟩:=b.slot c _ e1 (a.free c ob q n hx) hc hx;exact⟨sl',e2⟩
 free:=λc ob q n hx=>by obtain⟨o',e1⟩:=a.there c ob q hx;exact b.free c o' e1 (a.free c ob q n hx) hx
 there:=λc ob q hx=>by obtain⟨o',e1⟩:=a.there c ob q hx;exact b.there c o' e1 hx
 tups:=λc xs q=>b.tups c xs (a.tups c xs q)
 frzs:=λc ob xs q=>b.frzs c ob xs (a.frzs c ob xs q)
 tbls:=λc ps q=>by obtain⟨m1,e1⟩:=a.tbls c ps q;obtain⟨m2,e2⟩:=b.tbls c _ e1;exact⟨m1++m2,by rw[e2,Array.append_assoc]⟩
theorem Un.kept(k:∀b u,h.get? b=some u->h'.get? b=some u):Un fs ex H H h h' :=
 ⟨λb ob q _ _ _=>k b ob q,λb ob q _ _ _=>⟨ob.slots,k b ob q⟩,λ_ _ _ n _=>n,λb ob q _=>⟨ob,k b ob q⟩,λ_ _ q=>q,λ_ _ _ q=>q,λ_ ps q=>⟨#[],by rw[q];simp⟩⟩
theorem Un.refl:Un fs ex H H h h:=Un.kept λ_ _ q=>q
theorem Un.laid(k:∀b u,h.get? b=some u->h'.get? b=some u)(hp:h.objs.size<=a)(hn:H a=none):Un fs ex H (upd H a o) h h' where
 keep:=λb u q _ _ _=>k b u q
 slot:=λb u q _ _ _=>⟨u.slots,k b u q⟩
 free:=λb u q n _=>by rw[upd_ne (Be (Bc (Heap.lt_size q) hp))];exact n
 there:=λb u q _=>⟨u,k b u q⟩
 tups:=λb xs q=>by rw[upd_ne (aH q hn)];exact q
 frzs:=λb u xs q=>by rw[upd_ne (aH q hn)];exact q
 tbls:=λb ps q=>⟨#[],by rw[upd_ne (aH q hn),q];simp⟩
theorem Un.write(mu:Mut (H x))(he:e=x\/H e=some (.own x))(k:∀b u,b≠e->h.get? b=some u->h'.get? b=some u)(heo:∃u,h'.get? e=some u):Un fs ex H (upd H x o) h h':=by
 have hx:∀b,H b=none->b≠x:=λb n z=>by subst z;rw[n]at mu;exact mu
 have hb:∀b,H b=none->b≠e:=λb n z=>by
  subst z;rcases he with r |r
  ·exact hx b n r
  ·rw[n]at r;cases r
 have hm:∀b u,H b=some u->¬Mut (some u)->b≠x:=λb u q nm z=>by subst z;rw[q]at mu;exact nm mu
 refine⟨λb u q n _ _=>k b u (hb b n) q,λb u q n _ _=>⟨u.slots,k b u (hb b n) q⟩,λb u q n _=>by rw[upd_ne (hx b n)];exact n,λb u q _=>?_,
  λb xs q=>by rw[upd_ne (hm b _ q λz=>z)];exact q,λb u xs q=>by rw[upd_ne (hm b _ q λz=>z)];exact q,λb ps q=>⟨#[],by rw[upd_ne (hm b _ q λz=>z),q];simp⟩⟩
 by_cases hbe:b=e
 ·subst hbe;exact heo
 ·exact⟨u,k b u hbe q⟩
theorem Un.mono(u:Un fs ex H H1 h h1)(hs:∀b∈fs,b∈fs')(hx:∀b∈ex,b∈ex'):Un fs' ex' H H1 h h1 :=
 ⟨λb ob q n hb he=>u.keep b ob q n (λz=>hb (hs b z)) λz=>he (hx b z),λ_ _ q n _ he=>u.any q n λz=>he (hx _ z),λb ob q n he=>u.free b ob q n λz=>he (hx b z),λb ob q he=>u.there b ob q λz=>he (hx b z),u.tups,u.frzs,u.tbls⟩
end
noncomputable def trk(h:Heap)(H:Hp):List Addr:=(List.range h.objs.size).filter λa=>(H a).isSome
noncomputable def cw(h:Heap)(H:Hp):Heap:=PySem.W.hideAll h (trk h H)
theorem xb(h:Heap)(H:Hp):(cw h H).objs.size=h.objs.size:=PySem.W.hideAll_size _ _
theorem xc{h:Heap}{H:Hp}{b:Addr}{o:Obj}(e:h.get? b=some o)(n:H b=none):(cw h H).get? b=some o :=
 PySem.W.hideAll_get _ e λhm=>by have q:(H b).isSome=true:=(List.mem_filter.mp hm).2;rw[n]at q;simp at q
theorem vh{h:Heap}{H:Hp}{b:Addr}{o:Obj}(e:(cw h H).get? b=some o):h.get? b=some o/\H b=none:=by
 have e':h.get? b=some o:=PySem.W.of_hideAll (trk h H) e;refine⟨e',?_⟩;cases q:H b with
 |none=>rfl
 |some x =>have hm:b∈trk h H:=List.mem_filter.mpr ⟨List.mem_range.mpr (Heap.lt_size e'),by simp[q]⟩;have z:(cw h H).get? b=none:=PySem.W.hideAll_none (trk h H) hm;rw[z]at e;cases e
noncomputable def yK(g h:Heap)(L:Addr):List (Addr×Obj):=(List.range h.objs.size).filterMap λa=>if a=L\/(g.get? a).isSome=true then none else(h.get? a).map λo=>(a,o)
noncomputable def rest(g h:Heap)(L d:Addr):List (Addr×Obj):=(yK g h L).filter λp=>decide (p.1≠d)
structure Mod(K:PySem.W.Frag)(mg:Str->Option Value)(base:Heap):Prop where
 kin:K.In base
 glob:base.Ns mainGlobals mg
 blt:∃mb,base.Ns builtinsNs mb/\∀x:Str,x≠"__name__"->mb x=bootBuiltins x
 nolimit:base.NoLimit
structure Cx where
 prog:Program
 w:World
 K:PySem.W.Frag
 mg:Str->Option Value
 base:Heap
 A:Around
 N:List Str
 s₀:Shared
 H₀:Hp
 env:Env
 outer:List Env
 stack:List Env
 ex:List Addr
 fn:Str->Bool
 calm:Bool
 pn:List (Addr×Obj)
 xe:Value->Shared->Prop
noncomputable def frs(l:List Env):List Addr:=l.filterMap (·.frame)
abbrev Cx.fs(X:Cx):List Addr:=frs X.outer
def Vis(sc:Scope)(x:Str):Prop:=sc.names.lookup x=some .local\/sc.names.lookup x=some .cell\/sc.names.lookup x=some .free
def Loc(sc:Scope)(x:Str):Prop:=sc.names.lookup x=some .local\/sc.names.lookup x=some .cell
noncomputable def yP(env:Env)(h:Heap)(m:Str->Option Value)(x:Str)(u:Value):Prop :=
 (env.kindOf x=some .local/\m x=some u)\/((env.kindOf x=some .cell\/env.kindOf x=some .free)/\∃c,env.cells.lookup x=some c/\h.IsCell c (some u))
structure Cx.Ok(X:Cx):Prop where
 mod:Mod X.K X.mg X.base
 kind:X.env.scope.kind=.function
 glob:X.env.globals=mainGlobals
 blt:X.env.builtins=builtinsNs
 above:X.s₀.heap.objs.size<=X.env.locals
 inj:∀x y c,X.env.cells.lookup x=some c->X.env.cells.lookup y=some c->x=y
 has:∀x,(X.env.kindOf x=some .cell\/X.env.kindOf x=some .free)->∃c,X.env.cells.lookup x=some c
 cab:∀x c,X.fn x=true->X.env.cells.lookup x=some c->X.s₀.heap.objs.size<=c
 hd:X.calm=true->X.A.handled=none
 frames:X.A.frames=some X.stack
 stk:X.stack=X.outer\/(X.stack=X.env::X.outer/\X.env.frame=some X.env.locals)
 exf:∀b∈X.ex,b≠X.env.locals/\∀x c,X.env.cells.lookup x=some c->c≠b
 bs:∀b o,X.base.get? b=some o->X.s₀.heap.get? b=some o/\X.H₀ b=none
 bsz:X.base.objs.size<=X.s₀.heap.objs.size
 noex:∀b o,X.base.get? b=some o->b∉X.ex
 exfs:∀b∈X.ex,b∉X.fs
 funs:X.s₀.heap.FunFrames X.base X.outer
 frf:∀b∈X.fs,X.H₀ b=none
structure Inv(X:Cx)(pins:List (Addr×Obj))(σ:List (Option V))(H:Hp)(s:Shared):Prop where
 ok:X.Ok
 os:s.os=X.s₀.os
 bare:AllBare s.gens
 base:Un X.fs X.ex X.H₀ H X.s₀.heap s.heap
 loc:∃m,s.heap.Ns X.env.locals m/\∀(i:Nat) (x:Str) (v:V),X.N[i]?=some x->σ[i]?=some (some v)->Vis X.env.scope x->∃u,RelV v u/\yP X.env s.heap m x u
 cell:∀x c,X.env.cells.lookup x=some c->∃v,s.heap.IsCell c v
 free:H X.env.locals=none
 freeC:∀x c,X.env.cells.lookup x=some c->H c=none
 pin:∀p∈X.pn++pins,s.heap.get? p.1=some p.2/\H p.1=none/\p.1≠X.env.locals/\p.1∉X.fs/\∀v,p.2.data≠.cell v
 hok:HOk X.prog X.w H s.heap
 len:σ.length=X.N.length
section
variable {X:Cx}{pins:List (Addr×Obj)}{σ:List (Option V)}{H H':Hp}{s:Shared}{h':Heap}
theorem Cx.Ok.nofr(ok:X.Ok){b:Addr}{o:Obj}(e:X.base.get? b=some o):b∉X.fs:=λhb=>by have:=(ok.funs.mem hb).1;rw[e]at this;cases this
theorem Inv.bs(I:Inv X pins σ H s):∀b o,X.base.get? b=some o->s.heap.get? b=some o/\H b=none:=λb o e =>⟨I.base.keep b o (I.ok.bs b o e).1 (I.ok.bs b o e).2 (I.ok.nofr e) (I.ok.noex b o e),I.base.free b o (I.ok.bs b o e).1 (I.ok.bs b o e).2 (I.ok.noex b o e)⟩
theorem Inv.bk(I:Inv X pins σ H s):∀b o,X.base.get? b=some o->s.heap.get? b=some o:=λb o e=>(I.bs b o e).1
theorem Inv.mod(I:Inv X pins σ H s):Mod X.K X.mg X.base:=I.ok.mod
theorem Inv.kIn(I:Inv X pins σ H s):X.K.In s.heap:=I.ok.mod.kin.keeps I.bk
theorem Inv.nolimit(I:Inv X pins σ H s):s.heap.NoLimit:=I.ok.mod.nolimit.keeps I.bk
theorem Inv.fr(I:Inv X pins σ H s):∃m,Fr X.base X.env.locals s.heap m :=
 let⟨m,hn,_⟩:=I.loc
 ⟨m,hn,I.bk,Bk I.ok.bsz I.ok.above⟩
theorem Inv.lt(I:Inv X pins σ H s):X.env.locals<s.heap.objs.size:=let⟨_,hn,_⟩:=I.loc;hn.lt
theorem Inv.sz(I:Inv X pins σ H s):X.s₀.heap.objs.size<=s.heap.objs.size:=Bk I.ok.above (BE I.lt)
theorem Inv.nofs(I:Inv X pins σ H s){a:Addr}(h:s.heap.objs.size<=a):a∉X.fs:=λhb=>by obtain⟨_,o,ho,_⟩:=I.ok.funs.mem hb;exact absurd (Bc (Heap.lt_size ho) (Bk I.sz h)) (Bq _)
theorem Inv.cne(I:Inv X pins σ H s):∀x c,X.env.cells.lookup x=some c->c≠X.env.locals:=λx c e z=>by obtain⟨v,o,ho,hd⟩:=I.cell x c e;obtain⟨m,⟨o',es,ep,ho',hd',_⟩,_⟩:=I.loc;rw[z,ho']at ho;cases ho;rw[hd']at hd;cases hd
theorem Inv.funs(I:Inv X pins σ H s):s.heap.FunFrames X.base X.outer:=by
 have all:∀(l:List Env),(∀b∈frs l,b∈X.fs)->X.s₀.heap.FunFrames X.base l->s.heap.FunFrames X.base l:=by
  intro l
  induction l with
  |nil=>intro _ _;trivial
  |cons env r ih =>
   intro hs hl;obtain⟨hk,⟨L,o,hf,hn,ho,hd⟩,hr⟩:=hl;have hL:L∈X.fs:=hs L (by unfold frs;rw[List.filterMap_cons,hf];exact Br);obtain⟨sl,e⟩:=I.base.slot L o ho (I.ok.frf L hL) hL λz=>I.ok.exfs L z hL
   exact⟨hk,⟨L,_,hf,hn,e,hd⟩,ih (λb hb=>hs b (by unfold frs;rw[List.filterMap_cons,hf];exact Bj _ hb)) hr⟩
 exact all X.outer (λ_ hb=>hb) I.ok.funs
theorem Inv.stack(I:Inv X pins σ H s):s.heap.FunFrames X.base X.stack:=by
 rcases I.ok.stk with e |⟨e,hf⟩
 ·rw[e];exact I.funs
 ·rw[e];obtain⟨m,hn,_⟩:=I.loc;refine .cons (by rw[I.ok.kind];decide) hf hn ?_ I.funs;exact Heap.get?_none_of_le (Bk I.ok.bsz I.ok.above)
theorem Inv.stkSub(I:Inv X pins σ H s):∀b∈frs X.stack,b∈X.env.locals::X.fs:=λb hb=>by
 rcases I.ok.stk with e |⟨e,hf⟩
 ·rw[e]at hb;exact Bj _ hb
 ·rw[e]at hb;unfold frs at hb
  rw[List.filterMap_cons,hf]at hb;exact hb
theorem Inv.stkFree(I:Inv X pins σ H s):∀b∈frs X.stack,H b=none:=λb hb=>by
 rcases Bb.mp (I.stkSub b hb)with e |hb
 ·rw[e];exact I.free
 ·obtain⟨_,o,ho,_⟩:=I.ok.funs.mem hb;exact I.base.free b o ho (I.ok.frf b hb) λz=>I.ok.exfs b z hb
theorem Inv.step{g':Array GenState}{t':Nat}{d':Drawn}{ch:List Addr}(I:Inv X pins σ H s)
 (hch:∀b∈ch,(b∈X.ex\/X.s₀.heap.objs.size<=b)/\b≠X.env.locals/\(∀x c,X.env.cells.lookup x=some c->c≠b)/\∀p∈X.pn++pins,p.1≠b)
 (keep:∀b o,b≠X.env.locals->b∉X.fs->b∉ch->s.heap.get? b=some o->H b=none->h'.get? b=some o)
 (slot:∀b o,b≠X.env.locals->b∈X.fs->b∉ch->s.heap.get? b=some o->H b=none->∃sl,h'.get? b=some { o with slots:=sl }) (free:∀b o,b∉ch->s.heap.get? b=some o->H b=none->H' b=none)
 (there:∀b o,b∉ch->s.heap.get? b=some o->∃o',h'.get? b=some o')
 (tups:∀b xs,H b=some (.tup xs)->H' b=some (.tup xs)) (frzs:∀b o u,H b=some (.frz o u)->H' b=some (.frz o u)) (tbls:∀b ps,H b=some (.tbl ps)->∃more,H' b=some (.tbl (ps++more)))
 (ns:∀m,s.heap.Ns X.env.locals m->h'.Ns X.env.locals m) (hok:HOk X.prog X.w H' h') (hg:AllBare g') :
 Inv X pins σ H' { s with heap:=h',gens:=g',drawn:=d',toks:=t' }:=by
 have neL:∀b o,X.s₀.heap.get? b=some o->b≠X.env.locals:=λb o e=>Be (Bc (Heap.lt_size e) I.ok.above)
 have neC:∀b o,X.s₀.heap.get? b=some o->b∉X.ex->b∉ch:=λb o e hx hb=>by
  rcases(hch b hb).1 with z |z
  ·exact hx z
  ·exact absurd (Bc (Heap.lt_size e) z) (Bq _)
 have cellK:∀x c,X.env.cells.lookup x=some c->∀v,s.heap.IsCell c v->h'.IsCell c v:=λx c e v ⟨o,ho,hd⟩=>by
  have nch:c∉ch:=λz=>(hch c z).2.2.1 x c e rfl
  by_cases hc:c∈X.fs
  ·obtain⟨sl,q⟩:=slot c o (I.cne x c e) hc nch ho (I.freeC x c e);exact⟨_,q,hd⟩
  ·exact⟨o,keep c o (I.cne x c e) hc nch ho (I.freeC x c e),hd⟩
 refine⟨I.ok,I.os,hg,⟨λb o e n hb hx=>?_,λb o e n hb hx=>?_,λb o e n hx=>?_,λb o e hx=>?_,λb xs e=>tups b xs (I.base.tups b xs e),λb o xs e=>frzs b o xs (I.base.frzs b o xs e),λb ps e=>?_⟩,?_,λx c e=>?_,?_,λx c e=>?_,λp hp=>?_,hok,I.len⟩
 ·exact keep b o (neL b o e) hb (neC b o e hx) (I.base.keep b o e n hb hx) (I.base.free b o e n hx)
 ·obtain⟨sl,e1⟩:=I.base.slot b o e n hb hx;obtain⟨sl',e2⟩:=slot b _ (neL b o e) hb (neC b o e hx) e1 (I.base.free b o e n hx);exact⟨sl',e2⟩
 ·obtain⟨o',e1⟩:=I.base.there b o e hx;exact free b o' (neC b o e hx) e1 (I.base.free b o e n hx)
 ·obtain⟨o',e1⟩:=I.base.there b o e hx;exact there b o' (neC b o e hx) e1
 ·obtain⟨m1,e1⟩:=I.base.tbls b ps e;obtain⟨m2,e2⟩:=tbls b _ e1;exact⟨m1++m2,by rw[e2,Array.append_assoc]⟩
 ·obtain⟨m,hn,hl⟩:=I.loc;refine⟨m,ns m hn,λi x v e1 e2 e3=>?_⟩;obtain⟨u,r,l⟩:=hl i x v e1 e2 e3;refine⟨u,r,?_⟩;rcases l with l |⟨k,c,e,z⟩
  ·exact .inl l
  ·exact .inr ⟨k,c,e,cellK x c e _ z⟩
 ·obtain⟨v,z⟩:=I.cell x c e;exact⟨v,cellK x c e v z⟩
 ·obtain⟨m,⟨o,_,_,ho,_⟩,_⟩:=I.loc;exact free _ o (λz=>(hch _ z).2.1 rfl) ho I.free
 ·obtain⟨v,o,ho,hd⟩:=I.cell x c e;exact free c o (λz=>(hch c z).2.2.1 x c e rfl) ho (I.freeC x c e)
 ·obtain⟨e,n,ne,nf,d⟩:=I.pin p hp;have nch:p.1∉ch:=λz=>(hch p.1 z).2.2.2 p hp rfl
  exact⟨keep p.1 p.2 ne nf nch e n,free p.1 p.2 nch e n,ne,nf,d⟩
theorem Inv.un{t':Nat}(I:Inv X pins σ H s)(u:Un X.fs [] H H' s.heap h')(hok:HOk X.prog X.w H' h'):Inv X pins σ H' { s with heap:=h',toks:=t' }:=by
 obtain⟨m,⟨o,es,ep,ho,r⟩,_⟩:=id I.loc;obtain⟨sl,hL⟩:=u.any ho I.free (by simp)
 exact I.step (g':=s.gens) (d':=s.drawn) (ch:=[]) (λ_ z=>nomatch z) (λb o _ hb _ e n=>u.keep b o e n hb (by simp)) (λb o _ hb _ e n=>u.slot b o e n hb (by simp)) (λb o _ e n=>u.free b o e n (by simp)) (λb o _ e=>u.there b o e (by simp)) u.tups u.frzs u.tbls (λm' hm=>by
  obtain⟨o',es',ep',ho',r'⟩:=hm;rw[ho]at ho';cases ho'
  exact⟨_,es',ep',hL,r'⟩) hok I.bare
theorem Inv.call{g':Array GenState}{t':Nat}{d':Drawn}{ch:List Addr}(I:Inv X pins σ H s)(u:Un (frs X.stack) ch H H' s.heap h')(hok:HOk X.prog X.w H' h')(hg:AllBare g')
 (hch:∀b∈ch,(b∈X.ex\/X.s₀.heap.objs.size<=b)/\b≠X.env.locals/\(∀x c,X.env.cells.lookup x=some c->c≠b)/\∀p∈X.pn++pins,p.1≠b) :
 Inv X pins σ H' { s with heap:=h',gens:=g',drawn:=d',toks:=t' }:=by
 obtain⟨m,⟨o,es,ep,ho,r⟩,_⟩:=id I.loc;obtain⟨sl,hL⟩:=u.any ho I.free λz=>(hch _ z).2.1 rfl
 exact I.step (ch:=ch) hch (λb o hL hb hc e n=>u.keep b o e n (λz=>(Bb.mp (I.stkSub b z)).elim hL hb) hc) (λb o _ _ hc e n=>u.any e n hc) (λb o hc e n=>u.free b o e n hc) (λb o hc e=>u.there b o e hc) u.tups u.frzs u.tbls (λm' hm=>by
  obtain⟨o',es',ep',ho',r'⟩:=hm;rw[ho]at ho';cases ho'
  exact⟨_,es',ep',hL,r'⟩) hok hg
theorem Inv.turned{t':Nat}{it:Addr}(I:Inv X pins σ H s)(k:∀b o,b≠it->s.heap.get? b=some o->h'.get? b=some o)(hn:H it=none)(hL:it≠X.env.locals)
 (h1:it∈X.ex\/X.s₀.heap.objs.size<=it) (h2:∀x c,X.env.cells.lookup x=some c->c≠it) (h3:∀p∈X.pn++pins,p.1≠it):Inv X pins σ H { s with heap:=h',toks:=t' }:=by
 have nit:∀b u,H b=some u->b≠it:=λb u e z=>by rw[z,hn]at e;cases e
 refine I.step (g':=s.gens) (d':=s.drawn) (ch:=[it]) (λb hb=>?_) (λb o _ _ hc e _=>k b o (λz=>hc (by simp[z])) e) (λb o _ _ hc e _=>⟨o.slots,k b o (λz=>hc (by simp[z])) e⟩) (λ_ _ _ _ n=>n)
  (λb o hc e=>⟨o,k b o (λz=>hc (by simp[z])) e⟩) (λ_ _ e=>e) (λ_ _ _ e=>e) (λb ps e=>⟨#[],by rw[e];simp⟩) (λm hm=>?_) (λb u e=>?_) I.bare
 ·have e:b=it:=by simpa using hb
  subst e;exact⟨h1,hL,h2,h3⟩
 ·obtain⟨o,es,ep,ho,r⟩:=hm;exact⟨o,es,ep,k _ o (Ne.symm hL) ho,r⟩
 ·refine(I.hok b u e).stay (λc v hc q=>k c v ?_ q) (λ_ q=>q) λ_ _ q=>q
  rcases hc with z |z
  ·rw[z];exact nit b u e
  ·exact nit c _ z
theorem Inv.tok(I:Inv X pins σ H s)(t:Nat):Inv X pins σ H { s with toks:=t }:=I.un (h':=s.heap) (t':=t) Un.refl I.hok
theorem Inv.kept{t':Nat}(I:Inv X pins σ H s)(k:∀b u,s.heap.get? b=some u->h'.get? b=some u):Inv X pins σ H { s with heap:=h',toks:=t' }:=I.un (Un.kept k) (I.hok.kept k)
theorem Inv.laid{a:Addr}{o:HO}{t':Nat}(I:Inv X pins σ H s)(k:∀b u,s.heap.get? b=some u->h'.get? b=some u)(hp:s.heap.objs.size<=a)(new:ObjOk X.prog X.w (upd H a o) h' a o) :
 Inv X pins σ (upd H a o) { s with heap:=h',toks:=t' }:=I.un (Un.laid k hp (I.hok.fresh hp)) (I.hok.laid k hp new)
theorem Inv.write{x e:Addr}{o:HO}{t':Nat}(I:Inv X pins σ H s)(mu:Mut (H x))(he:e=x\/H e=some (.own x))(k:∀b u,b≠e->s.heap.get? b=some u->h'.get? b=some u)(heo:∃u,h'.get? e=some u)
 (new:ObjOk X.prog X.w (upd H x o) h' x o):Inv X pins σ (upd H x o) { s with heap:=h',toks:=t' }:=I.un (Un.write mu he k heo) (I.hok.write mu he k heo new)
theorem Inv.pins_of{pins':List (Addr×Obj)}(I:Inv X pins σ H s)(h:∀p∈pins',s.heap.get? p.1=some p.2/\H p.1=none/\p.1≠X.env.locals/\p.1∉X.fs/\∀v,p.2.data≠.cell v):Inv X pins' σ H s :=
 ⟨I.ok,I.os,I.bare,I.base,I.loc,I.cell,I.free,I.freeC,λp hp=>(Bn.mp hp).elim (λz=>I.pin p (List.mem_append_left _ z)) (h p),I.hok,I.len⟩
theorem nJ{N:List Str}(hN:N.Nodup){i j:Nat}{x:Str}(a:N[i]?=some x)(b:N[j]?=some x):i=j:=by obtain⟨h1,e1⟩:=List.getElem?_eq_some_iff.mp a;obtain⟨h2,e2⟩:=List.getElem?_eq_some_iff.mp b;exact(List.getElem_inj hN).mp (e1.trans e2.symm)
theorem lQ{M:Model}{A:Around}{E:Value->Shared->Prop}{i:Nat}{x:Str}{v:V}{u:Value}{Q:Unit->Shared->Prop}(I:Inv X pins σ H s)(hN:X.N.Nodup)(hi:X.N[i]?=some x)(hx:Loc X.env.scope x)(r:RelV v u)
 (h:∀s',Inv X pins (σ.set i (some v)) H s'->(∃a,Heap.SameBut a s.heap s'.heap/\(a=X.env.locals\/X.env.cells.lookup x=some a))->Q () s') (hf:X.fn x=true\/X.env.scope.names.lookup x=some .local:=by first |exact .inl rfl |exact .inr rfl |assumption):wpAny M A (storeName X.env x u) Q E s:=by
 obtain⟨m,hn,hl⟩:=id I.loc;have hcls:(X.env.scope.kind == .class || (X.env.scope.kind == .module&&X.env.locals != X.env.globals))=false:=by rw[I.ok.kind];rfl
 have hiσ:i<σ.length:=by rw[I.len];exact(List.getElem?_eq_some_iff.mp hi).1
 have cne:=I.cne
 have tracked:∀{a:Addr} {h':Heap},(∃o,s.heap.get? a=some o/\H a=none)->Heap.SameBut a s.heap h'->HOk X.prog X.w H h':=λ{a h'} ha hs b ob e=>by
  obtain⟨_,_,hfree⟩:=ha;refine(I.hok b ob e).stay (λc w' hc q=>(hs.2 c ?_).trans q) (λ_ q=>q) λ_ _ q=>q
  rintro rfl;rcases hc with rfl |hc
  ·rw[hfree]at e;cases e
  ·rw[hfree]at hc;cases hc
 rcases hx with hk |hk
 ·refine wpAny_storeName_local hk hn (λh' hn' hs=>?_) hcls;obtain⟨oL,_,_,hoL,_⟩:=id hn;refine h _ ⟨I.ok,I.os,I.bare,⟨λb o e n hb hx=>?_,λb o e n hb hx=>?_,I.base.free,λb o e hx=>?_,I.base.tups,I.base.frzs,I.base.tbls⟩,⟨_,hn',λj y v' e1 e2 e3=>?_⟩,λy c e=>?_,I.free,I.freeC,λp hp=>?_,tracked ⟨oL,hoL,I.free⟩ hs,by simpa using I.len⟩ ⟨_,hs,.inl rfl⟩
  ·exact(hs.2 b (Be (Bc (Heap.lt_size e) I.ok.above))).trans (I.base.keep b o e n hb hx)
  ·obtain⟨sl,e1⟩:=I.base.slot b o e n hb hx;exact⟨sl,(hs.2 b (Be (Bc (Heap.lt_size e) I.ok.above))).trans e1⟩
  ·obtain⟨o',e1⟩:=I.base.there b o e hx;exact⟨o',(hs.2 b (Be (Bc (Heap.lt_size e) I.ok.above))).trans e1⟩
  ·by_cases hj:j=i
   ·subst hj;rw[hi]at e1;cases e1;rw[List.getElem?_set_self hiσ]at e2;cases e2;exact⟨u,r,.inl ⟨hk,by simp⟩⟩
   ·rw[List.getElem?_set_ne (Ne.symm hj)]at e2;obtain⟨u',r',q⟩:=hl j y v' e1 e2 e3;refine⟨u',r',?_⟩;rcases q with⟨k,e⟩ |⟨k,c,e,z⟩
    ·refine .inl ⟨k,?_⟩;have:y≠x:=λe=>hj (nJ hN e1 (e ▸ hi))
     simp[this,e]
    ·exact .inr ⟨k,c,e,z.sameBut hs (cne y c e)⟩
  ·obtain⟨w',z⟩:=I.cell y c e;exact⟨w',z.sameBut hs (cne y c e)⟩
  ·obtain⟨e,n,ne,nf,d⟩:=I.pin p hp;exact⟨(hs.2 p.1 ne).trans e,n,ne,nf,d⟩
 ·have hfn:X.fn x=true:=by
   rcases hf with z |z
   ·exact z
   ·rw[z]at hk;cases hk
  obtain⟨c,hc⟩:=I.ok.has x (.inl hk);obtain⟨w',z⟩:=I.cell x c hc;refine wpAny_storeName_cell I.ok.kind hk hc z (λh' hc' hs=>?_);obtain⟨oc,hoc,hocd⟩:=id z;refine h { s with heap:=h' } ⟨I.ok,I.os,I.bare,⟨λb o e n hb hx=>?_,λb o e n hb hx=>?_,I.base.free,λb o e hx=>?_,I.base.tups,I.base.frzs,I.base.tbls⟩,⟨m,hn.sameBut hs (Ne.symm (cne x c hc)),λj y v' e1 e2 e3=>?_⟩,λy c' e=>?_,I.free,I.freeC,λp hp=>?_,tracked ⟨oc,hoc,I.freeC x c hc⟩ hs,by simpa using I.len⟩ ⟨c,hs,.inr hc⟩
  ·exact(hs.2 b (Be (Bc (Heap.lt_size e) (I.ok.cab x c hfn hc)))).trans (I.base.keep b o e n hb hx)
  ·obtain⟨sl,e1⟩:=I.base.slot b o e n hb hx;exact⟨sl,(hs.2 b (Be (Bc (Heap.lt_size e) (I.ok.cab x c hfn hc)))).trans e1⟩
  ·obtain⟨o',e1⟩:=I.base.there b o e hx;exact⟨o',(hs.2 b (Be (Bc (Heap.lt_size e) (I.ok.cab x c hfn hc)))).trans e1⟩
  ·by_cases hj:j=i
   ·subst hj;rw[hi]at e1;cases e1;rw[List.getElem?_set_self hiσ]at e2;cases e2;exact⟨u,r,.inr ⟨.inl hk,c,hc,hc'⟩⟩
   ·rw[List.getElem?_set_ne (Ne.symm hj)]at e2;obtain⟨u',r',q⟩:=hl j y v' e1 e2 e3;refine⟨u',r',?_⟩;rcases q with q |⟨k,c',e,z'⟩
    ·exact .inl q
    ·refine .inr ⟨k,c',e,z'.sameBut hs ?_⟩;rintro rfl;exact hj (nJ hN e1 (I.ok.inj _ _ _ e hc ▸ hi))
  ·by_cases hcc:c'=c
   ·subst hcc;exact⟨_,hc'⟩
   ·obtain⟨w2,z2⟩:=I.cell y c' e;exact⟨w2,z2.sameBut hs hcc⟩
  ·obtain⟨e,n,ne,nf,d⟩:=I.pin p hp;refine⟨(hs.2 p.1 ?_).trans e,n,ne,nf,d⟩;intro q;rw[q,hoc]at e;have q':oc=p.2:=Option.some.inj e;exact d w' (by rw[<- q'];exact hocd)
theorem lR{M:Model}{A:Around}{E:Value->Shared->Prop}{i:Nat}{x:Str}{v:V}{u:Value}{Q:Unit->Shared->Prop}(I:Inv X pins σ H s)(hN:X.N.Nodup)(hi:X.N[i]?=some x)(hx:Loc X.env.scope x)(r:RelV v u)
 (h:∀s',Inv X pins (σ.set i (some v)) H s'->Q () s') (hf:X.fn x=true\/X.env.scope.names.lookup x=some .local:=by first |exact .inl rfl |exact .inr rfl |assumption):wpAny M A (storeName X.env x u) Q E s :=
 lQ I hN hi hx r (λs' I' _=>h s' I') hf
theorem Inv.call'{s':Shared}{ch:List Addr}(I:Inv X pins σ H s)(ho:s'.os=s.os)(u:Un (frs X.stack) ch H H' s.heap s'.heap)(hok:HOk X.prog X.w H' s'.heap)(hg:AllBare s'.gens)
 (hch:∀b∈ch,(b∈X.ex\/X.s₀.heap.objs.size<=b)/\b≠X.env.locals/\(∀x c,X.env.cells.lookup x=some c->c≠b)/\∀p∈X.pn++pins,p.1≠b):Inv X pins σ H' s':=by
 obtain⟨h',g',d',t',o'⟩:=s';have e:o'=s.os:=ho;subst e;exact I.call (g':=g') (t':=t') (d':=d') u hok hg hch
end
abbrev XK:=Value->Option Addr->Hp->Prop
abbrev St:=List (Option V)
abbrev VK:=V->Hp->Prop
abbrev TE:=St->Hp->VK->Prop
abbrev TT:=St->Hp->(Bool->Hp->Prop)->Prop
abbrev TA:=St->Hp->(List V->Hp->Prop)->Prop
structure bU where
 nx:St->Hp->Prop
 rt:VK
 bk:St->Hp->Prop:=λ_ _=>False
 ct:St->Hp->Prop:=λ_ _=>False
abbrev TS:=bU->St->Hp->Prop
def EP(X:Cx)(pins:List (Addr×Obj))(σ:St)(Q:VK)(u:Value)(s':Shared):Prop:=∃v H',Inv X pins σ H' s'/\RelV v u/\Q v H'
def TP(X:Cx)(pins:List (Addr×Obj))(σ:St)(Q:Bool->Hp->Prop)(b:Bool)(s':Shared):Prop:=∃H',Inv X pins σ H' s'/\Q b H'
def AP(X:Cx)(pins:List (Addr×Obj))(σ:St)(Q:List V->Hp->Prop)(us:List Value)(s':Shared):Prop:=∃vs H',Inv X pins σ H' s'/\Vals vs us/\Q vs H'
noncomputable def SP(X:Cx)(pins:List (Addr×Obj))(D:bU)(f:Flow)(s':Shared):Prop :=
 match f with
 |.next=>∃σ' H',Inv X pins σ' H' s'/\D.nx σ' H'
 |.brk=>∃σ' H',Inv X pins σ' H' s'/\D.bk σ' H'
 |.cont=>∃σ' H',Inv X pins σ' H' s'/\D.ct σ' H'
 |.ret u=>∃v σ' H',Inv X pins σ' H' s'/\RelV v u/\D.rt v H'
noncomputable def PE(X:Cx)(e:Expr)(t:TE):Prop :=
 ∀(pins:List (Addr×Obj)) (s:Shared) (σ:St) (H:Hp) (Q:VK),Inv X pins σ H s->t σ H Q->wpAny (model X.prog X.w) X.A (eval e X.env) (EP X pins σ Q) X.xe s
noncomputable def PT(X:Cx)(e:Expr)(t:TT):Prop :=
 ∀(pins:List (Addr×Obj)) (s:Shared) (σ:St) (H:Hp) (Q:Bool->Hp->Prop),Inv X pins σ H s->t σ H Q->wpAny (model X.prog X.w) X.A (isTrue e X.env (eval e X.env)) (TP X pins σ Q) X.xe s
noncomputable def PW(X:Cx)(e:Expr)(t:TT):Prop :=
 ∀(whole:Sem Value) (pins:List (Addr×Obj)) (s:Shared) (σ:St) (H:Hp) (Q:Bool->Hp->Prop),Inv X pins σ H s->t σ H Q->wpAny (model X.prog X.w) X.A (isTrue e X.env whole) (TP X pins σ Q) X.xe s
theorem PW.pt{X:Cx}{e:Expr}{t:TT}(h:PW X e t):PT X e t:=h _
noncomputable def PA(X:Cx)(es:List Expr)(t:TA):Prop :=
 ∀(pos:Pos) (pins:List (Addr×Obj)) (s:Shared) (σ:St) (H:Hp) (Q:List V->Hp->Prop),Inv X pins σ H s->t σ H Q->wpAny (model X.prog X.w) X.A (spliced (backTo pos (starEach es X.env))) (AP X pins σ Q) X.xe s
noncomputable def PS(X:Cx)(st:Stmt)(t:TS):Prop :=
 ∀(pins:List (Addr×Obj)) (s:Shared) (σ:St) (H:Hp) (D:bU),Inv X pins σ H s->t D σ H->wpAny (model X.prog X.w) X.A (exec st X.env) (SP X pins D) X.xe s
noncomputable def PSs(X:Cx)(st:List Stmt)(t:TS):Prop :=
 ∀(pins:List (Addr×Obj)) (s:Shared) (σ:St) (H:Hp) (D:bU),Inv X pins σ H s->t D σ H->wpAny (model X.prog X.w) X.A (execs st X.env) (SP X pins D) X.xe s
theorem thn{α:Type}{t:Sem α}{Q Q':α->Shared->Prop}{M:Model}{A:Around}{E:Value->Shared->Prop}{s:Shared}(h:wpAny M A t Q E s)(hQ:∀a s,Q a s->Q' a s):wpAny M A t Q' E s:=wpAny_mono h hQ λ_ _ x=>x
section
variable {X:Cx}
def cA(i:Nat):TE:=λσ H Q=>∃v,σ[i]?=some (some v)/\Q v H
def tC(v:V):TE:=λ_ H Q=>Q v H
theorem tJ{i:Nat}{x:Str}{pos:Pos}(hN:X.N[i]?=some x)(hv:Vis X.env.scope x)(hd:(x == ("__debug__":Str))=false:=by decide)(hcd:(x == ("__classdict__":Str))=false:=by decide):PE X (.Name x pos) (cA i):=by
 intro pins s σ H Q I h;obtain⟨v,e,h⟩:=h;obtain⟨m,hn,hl⟩:=I.loc;obtain⟨u,r,l⟩:=hl i x v hN e hv;have fin:EP X pins σ Q u s:=⟨v,H,I,r,h⟩;rcases l with⟨hk,hm⟩ |⟨hk,c,hc,hcell⟩
 ·exact wpAny_Name (wpAny_loadName_local I.ok.kind hk hn hm fin) hd
 ·rcases hk with hk |hk
  ·exact wpAny_Name (wpAny_loadName_cell I.ok.kind hk hc hcell fin) hd
  ·exact wpAny_Name (wpAny_loadName_free I.ok.kind hk hc hcell fin hcd) hd
theorem ab{i j pos}:PE X (.Constant (.int i) j pos) (tC (.int i)):=λ_ _ _ H _ I h=>wpAny_Constant_int ⟨.int i,H,I.tok _,⟨_,rfl⟩,h⟩
theorem c8{b j pos}:PE X (.Constant (.bool b) j pos) (tC (.bl b)):=λ_ _ _ H _ I h=>Constant_bool ⟨.bl b,H,I,rfl,h⟩
theorem bK{x j pos}:PE X (.Constant (.str x) j pos) (tC (.str x)):=λ_ _ _ H _ I h=>Calls.Constant_str ⟨.str x,H,I.tok _,⟨_,rfl⟩,h⟩
def Gl(X:Cx)(x:Str):Prop:=X.env.kindOf x=some .globalImplicit
theorem om{E:Value->Shared->Prop}{pins:List (Addr×Obj)}{s:Shared}{σ:St}{H:Hp}{x:Str}{u:Value}{pos:Pos}{Q:Value->Shared->Prop}(I:Inv X pins σ H s)(hg:Gl X x)(hm:X.mg x=some u)(h:Q u s)
 (hd:(x == ("__debug__":Str))=false:=by decide):wpAny (model X.prog X.w) X.A (eval (.Name x pos) X.env) Q E s :=
 Calls.Name_function_global I.ok.kind hg (Calls.loadGlobal_global (by rw[I.ok.glob];exact I.mod.glob.keeps I.bk) hm h) hd
theorem dA{E:Value->Shared->Prop}{pins:List (Addr×Obj)}{s:Shared}{σ:St}{H:Hp}{x:Str}{u:Value}{pos:Pos}{Q:Value->Shared->Prop}(I:Inv X pins σ H s)(hg:Gl X x)(hm:X.mg x=none)(hv:bootBuiltins x=some u)(h:Q u s)
 (hn:x≠"__name__":=by decide) (hd:(x == ("__debug__":Str))=false:=by decide):wpAny (model X.prog X.w) X.A (eval (.Name x pos) X.env) Q E s:=by
 obtain⟨mb,h1,h2⟩:=I.mod.blt;exact Calls.Name_function_global I.ok.kind hg (Calls.loadGlobal_builtin (by rw[I.ok.glob];exact I.mod.glob.keeps I.bk) hm (by rw[I.ok.blt];exact h1.keeps I.bk) ((h2 x hn).trans hv) h) hd
theorem tM{x:Str}{v:V}{u:Value}{pos:Pos}(hg:Gl X x)(hm:X.mg x=none)(hv:bootBuiltins x=some u)(r:RelV v u)(hn:x≠"__name__":=by decide)(hd:(x == ("__debug__":Str))=false:=by decide):PE X (.Name x pos) (tC v) :=
 λ_ _ _ H _ I h=>dA I hg hm hv ⟨v,H,I,r,h⟩ hn hd
variable {a b:Expr}{ta tb:TE}{pos:Pos}
def tB(t:TE):TT:=λσ H Q=>t σ H λx H1=>∃c,x=.bl c/\Q c H1
theorem d8{e:Expr}{t:TE}(h:PE X e t)(he:∀whole,isTrue e X.env whole=(do let v <- whole;standAt e.pos;holding [v] (truthy v)):=by intro _;rfl):PT X e (tB t):=by intro pins s σ H Q I hw;refine isTrue_plain (thn (h pins s σ H _ I hw) λv s1 ⟨x,H1,I1,r1,q1⟩=>?_) (he _);obtain⟨d,rfl,q⟩:=q1;cases r1;exact wpAny_truthy_bool ⟨H1,I1,q⟩
variable {tA tB':TT}{rest:List Expr}
def lP(t u:TT):TT:=λσ H Q=>t σ H λc H1=>if c=true then u σ H1 Q else Q false H1
def tOr(t u:TT):TT:=λσ H Q=>t σ H λc H1=>if c=true then Q true H1 else u σ H1 Q
def lL(t:TT):TT:=λσ H Q=>t σ H λc H1=>Q (!c) H1
theorem cZ(ha:PT X a tA):PW X (.BoolOp .And [a] pos) tA:=by
 intro wh pins s σ H Q I h;refine isTrue_and (thn (ha pins s σ H Q I h) λc s1 e=>?_);cases c with
 |true=>exact isTrue_and_nil e
 |false=>exact e
theorem jF(ha:PT X a tA):PW X (.BoolOp .Or [a] pos) tA:=by
 intro wh pins s σ H Q I h;refine isTrue_or (thn (ha pins s σ H Q I h) λc s1 e=>?_);cases c with
 |false=>exact isTrue_or_nil e
 |true=>exact e
theorem cE(ha:PT X a tA)(hb:PW X (.BoolOp .And (b::rest) pos) tB'):PW X (.BoolOp .And (a::b::rest) pos) (lP tA tB'):=by
 intro wh pins s σ H Q I h;refine isTrue_and (thn (ha pins s σ H _ I h) λc s1 ⟨H1,I1,q1⟩=>?_);cases c with
 |true=>exact hb wh pins s1 σ H1 Q I1 q1
 |false=>exact⟨H1,I1,q1⟩
theorem jG(ha:PT X a tA)(hb:PW X (.BoolOp .Or (b::rest) pos) tB'):PW X (.BoolOp .Or (a::b::rest) pos) (tOr tA tB'):=by
 intro wh pins s σ H Q I h;refine isTrue_or (thn (ha pins s σ H _ I h) λc s1 ⟨H1,I1,q1⟩=>?_);cases c with
 |true=>exact⟨H1,I1,q1⟩
 |false=>exact hb wh pins s1 σ H1 Q I1 q1
theorem gy(ha:PT X a tA):PT X (.UnaryOp .Not a pos) (lL tA):=by intro pins s σ H Q I h;exact isTrue_not (ha pins s σ H (λc H1=>Q (!c) H1) I h)
def iy(ta tb:TE):TE:=λσ H Q=>ta σ H λx H1=>∃c,x=.bl c/\if c=true then tb σ H1 Q else Q (.bl false) H1
theorem fi{op}{t:TE}(h:PE X a t):PE X (.BoolOp op [a] pos) t:=λpins s σ H Q I hw=>BoolOp_one (h pins s σ H Q I hw)
theorem eA(ha:PE X a ta)(hb:PE X (.BoolOp .And (b::rest) pos) tb):PE X (.BoolOp .And (a::b::rest) pos) (iy ta tb):=by
 intro pins s σ H Q I h;refine BoolOp_and (thn (ha pins s σ H _ I h) λv s1 ⟨x,H1,I1,r1,q1⟩=>?_);obtain⟨c,rfl,q1⟩:=q1;cases r1;refine wpAny_truthy_bool ?_;cases c with
 |true=>exact hb pins s1 σ H1 Q I1 q1
 |false=>exact⟨.bl false,H1,I1,rfl,q1⟩
end
noncomputable def SqL(K:PySem.W.Frag)(H:Hp)(a:Addr)(xs:List V):Prop :=
 Rd H a (.lst xs) \/
  ∃(o:Obj) (its:Array Value) (n:Nat),K.lookup a=some o/\o.cls=.type "list"/\o.dict=none/\o.data=.seq its n/\its.size<=sizeLine/\Vals xs its.toList
noncomputable def SqT(K:PySem.W.Frag)(H:Hp)(a:Addr)(xs:List V):Prop :=
 Rd H a (.tup xs) \/
  ∃(o:Obj) (its:Array Value) (n:Nat),K.lookup a=some o/\o.cls=.type "tuple"/\o.data=.seq its n/\its.size<=sizeLine/\Vals xs its.toList
noncomputable def yM:Value->Option V
 |.none=>some .non
 |.bool b=>some (.bl b)
 |.int i _=>some (.int i)
 |.str x _=>some (.str x)
 |.bytes b _=>some (.byt b)
 |.float b _=>some (.flt b)
 |.ref a=>some (.ref a)
 |.type n=>some (.ty n)
 |_=>none
theorem RelV.abs{x:V}{u:Value}(r:RelV x u):yM u=some x:=by
 cases x with
 |non=>cases r;rfl
 |bl _=>cases r;rfl
 |int _=>obtain⟨t,rfl⟩:=r;rfl
 |str _=>obtain⟨t,rfl⟩:=r;rfl
 |byt _=>obtain⟨t,rfl⟩:=r;rfl
 |flt _=>obtain⟨t,rfl⟩:=r;rfl
 |ref _=>cases r;rfl
 |ty _=>cases r;rfl
theorem RelV.inj{x y:V}{u:Value}(r:RelV x u)(q:RelV y u):x=y:=Option.some.inj (r.abs.symm.trans q.abs)
theorem Vals.inj:∀{xs ys:List V} {us:List Value},Vals xs us->Vals ys us->xs=ys
 |_,_,_,.nil,.nil=>rfl
 |_,_,_,.cons r t,.cons r' t'=>by rw[r.inj r',Vals.inj t t']
section
variable {X:Cx}{pins:List (Addr×Obj)}{σ:St}{H:Hp}{s:Shared}{a:Addr}{xs ys:List V}
theorem SqL.of{K:PySem.W.Frag}(h:H a=some (.lst xs)):SqL K H a xs:=.inl (.inl h)
theorem SqT.of{K:PySem.W.Frag}(h:H a=some (.tup xs)):SqT K H a xs:=.inl (.inl h)
theorem Inv.list(I:Inv X pins σ H s)(h:SqL X.K H a xs):∃its:List Value,Vals xs its/\PlainL s.heap a its.toArray/\xs.length<=sizeLine:=by
 rcases h with h |⟨o,its,n,hk,hc,hd,hs,hz,r⟩
 ·obtain⟨z,its,n,r,e⟩:=h.ok I.hok;exact⟨its,r,⟨_,n,e,rfl,rfl,rfl⟩,z⟩
 ·refine⟨its.toList,r,⟨o,n,I.kIn a o hk,hc,hd,by simpa using hs⟩,?_⟩;have e:=r.length;simp only[Array.length_toList]at e;omega
theorem Inv.tuple(I:Inv X pins σ H s)(h:SqT X.K H a xs):∃its:List Value,Vals xs its/\IsTup s.heap a its.toArray/\xs.length<=sizeLine:=by
 rcases h with h |⟨o,its,n,hk,hc,hs,hz,r⟩
 ·obtain⟨z,its,r,p⟩:=h.ok I.hok;exact⟨its,r,p,z⟩
 ·refine⟨its.toList,r,⟨o,I.kIn a o hk,hc,n,by simpa using hs⟩,?_⟩;have e:=r.length;simp only[Array.length_toList]at e;omega
theorem Inv.list_inj(I:Inv X pins σ H s)(h:SqL X.K H a xs)(h':SqL X.K H a ys):xs=ys:=by
 obtain⟨its,r,⟨o,n,e,_,_,d⟩,_⟩:=I.list h;obtain⟨its',r',⟨o',n',e',_,_,d'⟩,_⟩:=I.list h';rw[e]at e';cases e';rw[d]at d'
 injection d' with d1 _
 have:its=its':=by simpa using congrArg Array.toList d1
 subst this;exact r.inj r'
theorem Inv.tuple_inj(I:Inv X pins σ H s)(h:SqT X.K H a xs)(h':SqT X.K H a ys):xs=ys:=by
 obtain⟨its,r,⟨o,e,_,n,d⟩,_⟩:=I.tuple h;obtain⟨its',r',⟨o',e',_,n',d'⟩,_⟩:=I.tuple h';rw[e]at e';cases e';rw[d]at d'
 injection d' with d1 _
 have:its=its':=by simpa using congrArg Array.toList d1
 subst this;exact r.inj r'
end
abbrev Cx.wish(X:Cx)(E:Value->Shared->Prop):Cx:={ X with xe:=E }
abbrev Cx.nox(X:Cx):Cx:=X.wish λ_ _=>False
theorem Cx.Ok.wish{X:Cx}(ok:X.Ok)(E:Value->Shared->Prop):(X.wish E).Ok :=
 ⟨ok.mod,ok.kind,ok.glob,ok.blt,ok.above,ok.inj,ok.has,ok.cab,ok.hd,ok.frames,ok.stk,ok.exf,ok.bs,ok.bsz,ok.noex,ok.exfs,ok.funs,ok.frf⟩
theorem Cx.Ok.unwish{X:Cx}{E:Value->Shared->Prop}(ok:(X.wish E).Ok):X.Ok :=
 ⟨ok.mod,ok.kind,ok.glob,ok.blt,ok.above,ok.inj,ok.has,ok.cab,ok.hd,ok.frames,ok.stk,ok.exf,ok.bs,ok.bsz,ok.noex,ok.exfs,ok.funs,ok.frf⟩
section
variable {X:Cx}{pins:List (Addr×Obj)}{σ:St}{H:Hp}{s:Shared}{E:Value->Shared->Prop}
theorem Inv.wish(I:Inv X pins σ H s)(E:Value->Shared->Prop):Inv (X.wish E) pins σ H s:=⟨I.ok.wish E,I.os,I.bare,I.base,I.loc,I.cell,I.free,I.freeC,I.pin,I.hok,I.len⟩
theorem Inv.unwish(I:Inv (X.wish E) pins σ H s):Inv X pins σ H s:=⟨I.ok.unwish,I.os,I.bare,I.base,I.loc,I.cell,I.free,I.freeC,I.pin,I.hok,I.len⟩
theorem SP.unwish{D:bU}{f:Flow}{s':Shared}(h:SP (X.wish E) pins D f s'):SP X pins D f s':=by
 cases f with
 |next=>obtain⟨σ',H',I,q⟩:=h;exact⟨σ',H',I.unwish,q⟩
 |brk=>obtain⟨σ',H',I,q⟩:=h;exact⟨σ',H',I.unwish,q⟩
 |cont=>obtain⟨σ',H',I,q⟩:=h;exact⟨σ',H',I.unwish,q⟩
 |ret u=>obtain⟨v,σ',H',I,r,q⟩:=h;exact⟨v,σ',H',I.unwish,r,q⟩
theorem PE.nox{e:Expr}{t:TE}(h:PE X.nox e t):PE X e t:=λpins s σ H Q I hw =>wpAny_mono (h pins s σ H Q (I.wish _) hw) (λ_ _ ⟨v,H',I',r,q⟩=>⟨v,H',I'.unwish,r,q⟩) λ_ _ z=>False.elim z
theorem PT.nox{e:Expr}{t:TT}(h:PT X.nox e t):PT X e t:=λpins s σ H Q I hw =>wpAny_mono (h pins s σ H Q (I.wish _) hw) (λ_ _ ⟨H',I',q⟩=>⟨H',I'.unwish,q⟩) λ_ _ z=>False.elim z
theorem PSs.nox{st:List Stmt}{t:TS}(h:PSs X.nox st t):PSs X st t:=λpins s σ H D I hw =>wpAny_mono (h pins s σ H D (I.wish _) hw) (λ_ _ q=>q.unwish) λ_ _ z=>False.elim z
end
section
variable {X:Cx}{st:Stmt}{rest:List Stmt}{t u:TS}{e:Expr}{te:TE}{pos:Pos}
def lM:TS:=λD σ H=>D.nx σ H
def aT(t u:TS):TS:=λD σ H=>t { D with nx:=u D } σ H
theorem aM:PSs X [] lM:=λ_ _ σ H _ I h=>wpAny_execs_nil ⟨σ,H,I,h⟩
theorem ae(h1:PS X st t)(h2:PSs X rest u):PSs X (st::rest) (aT t u):=by
 intro pins s σ H D I h;refine wpAny_execs_cons (thn (h1 pins s σ H { D with nx:=u D } I h) λf s1 q=>?_);cases f with
 |next =>obtain⟨σ',H',I',q⟩:=q;exact h2 pins s1 σ' H' D I' q
 |ret v=>exact q
 |brk=>exact q
 |cont=>exact q
theorem ak(h1:PS X st t):PSs X [st] t:=by
 intro pins s σ H D I h;refine wpAny_execs_cons (thn (h1 pins s σ H D I h) λf s1 q=>?_);cases f with
 |next=>exact wpAny_execs_nil q
 |ret v=>exact q
 |brk=>exact q
 |cont=>exact q
theorem Inv.quiet{pins:List (Addr×Obj)}{σ:St}{H:Hp}{s:Shared}(I:Inv X pins σ H s):interactive X.env=false:=by simp[interactive,I.ok.kind]
def iw(te:TE):TS:=λD σ H=>te σ H λ_ H1=>D.nx σ H1
theorem cF(he:PE X e te)(hs:swapsWith e none pos.line X.env=pure false:=by rfl):PS X (.Expr e pos) (iw te):=by intro pins s σ H D I h;exact wpAny_Expr_any (thn (he pins s σ H _ I h) λv s1 ⟨x,H1,I1,r1,q1⟩=>⟨σ,H1,I1,q1⟩) I.quiet hs
def ir(te:TE):TS:=λD σ H=>te σ H D.rt
theorem ar(he:PE X e te):PS X (.Return (some e) pos) (ir te):=by intro pins s σ H D I h;exact wpAny_Return_some (thn (he pins s σ H _ I h) λv s1 ⟨x,H1,I1,r1,q1⟩=>⟨x,σ,H1,I1,r1,q1⟩)
def ga(c:TT)(t u:TS):TS:=λD σ H=>c σ H λb H1=>if b=true then t D σ H1 else u D σ H1
theorem aN{c:Expr}{a b:List Stmt}{tc:TT}(hc:PT X c tc)(ha:PSs X a t)(hb:PSs X b u):PS X (.If c a b pos) (ga tc t u):=by
 intro pins s σ H D I h;refine wpAny_If (thn (hc pins s σ H _ I h) λd s1 ⟨H1,I1,q1⟩=>?_);cases d with
 |true=>exact ha pins s1 σ H1 D I1 q1
 |false=>exact hb pins s1 σ H1 D I1 q1
def rc:TS:=λ_ _ _=>False
theorem ng:PS X st rc:=λ_ _ _ _ _ _ h=>h.elim
end
abbrev TG:=V->St->Hp->(St->Hp->Prop)->Prop
abbrev TGs:=List V->St->Hp->(St->Hp->Prop)->Prop
noncomputable def PG(X:Cx)(target:Expr)(t:TG):Prop :=
 ∀(pins:List (Addr×Obj)) (s:Shared) (σ:St) (H:Hp) (v:V) (u:Value) (Q:St->Hp->Prop),Inv X pins σ H s->RelV v u->t v σ H Q ->
  wpAny (model X.prog X.w) X.A (assign target X.env u) (λ_ s'=>∃σ' H',Inv X pins σ' H' s'/\Q σ' H') X.xe s
noncomputable def PGs(X:Cx)(ts:List Expr)(t:TGs):Prop :=
 ∀(pins:List (Addr×Obj)) (s:Shared) (σ:St) (H:Hp) (vs:List V) (us:List Value) (Q:St->Hp->Prop),Inv X pins σ H s->Vals vs us->t vs σ H Q ->
  wpAny (model X.prog X.w) X.A (assignInOrder ((assignEach ts X.env).map (·.2)) us) (λ_ s'=>∃σ' H',Inv X pins σ' H' s'/\Q σ' H') X.xe s
abbrev k8:=V->V->V->Hp->(Hp->Prop)->Prop
noncomputable def qt(X:Cx)(t:k8):Prop :=
 ∀(pins:List (Addr×Obj)) (s:Shared) (σ:St) (H:Hp) (o i v:V) (ov iv u:Value) (Q:Hp->Prop),Inv X pins σ H s->RelV o ov->RelV i iv->RelV v u->t o i v H Q ->
  wpAny (model X.prog X.w) X.A (setItem ov iv u) (λ_ s'=>∃H',Inv X pins σ H' s'/\Q H') X.xe s
section
variable {X:Cx}{pos:Pos}
def dD(i:Nat):TG:=λv σ H Q=>Q (σ.set i (some v)) H
theorem aV{i:Nat}{x:Str}(hN:X.N.Nodup)(hi:X.N[i]?=some x)(hx:Loc X.env.scope x)(hf:X.fn x=true\/X.env.scope.names.lookup x=some .local:=by first |exact .inl rfl |exact .inr rfl |assumption):PG X (.Name x pos) (dD i):=by intro pins s σ H v u Q I r h;exact wpAny_assign_Name (lR I hN hi hx r (λs' I'=>⟨_,H,I',h⟩) hf)
noncomputable def xu:TGs:=λvs σ H Q=>vs=[]/\Q σ H
noncomputable def xw(t:TG)(u:TGs):TGs:=λvs σ H Q=>∃v r,vs=v::r/\t v σ H λσ' H'=>u r σ' H' Q
theorem jM:PGs X [] xu:=by intro pins s σ H vs us Q I r h;obtain⟨e,h⟩:=h;subst e;cases r;exact assignInOrder_nil ⟨σ,H,I,h⟩
theorem eo{e:Expr}{es:List Expr}{t:TG}{u:TGs}(h1:PG X e t)(h2:PGs X es u)
 (hs:(assignEach (e::es) X.env).map (·.2)=assign e X.env::(assignEach es X.env).map (·.2):=by rfl):PGs X (e::es) (xw t u):=by
 intro pins s σ H vs us Q I r h;obtain⟨v,vr,e1,h⟩:=h;subst e1;cases r with
 |cons r rr =>rw[hs];refine assignInOrder_cons (thn (h1 pins s σ H _ _ _ I r h) λ_ s1 ⟨σ1,H1,I1,q1⟩=>?_);exact h2 pins s1 σ1 H1 _ _ Q I1 rr q1
def xr(K:PySem.W.Frag)(n:Nat)(t:TGs):TG:=λv σ H Q=>∃a xs,v=.ref a/\SqT K H a xs/\xs.length=n/\t xs σ H Q
theorem jN{es:List Expr}{k:Nat}{t:TGs}{n:Nat}(hc:X.calm=true)(h:PGs X es t)
 (hn:(assignEach es X.env).length=n:=by rfl) (hst:(assignEach es X.env).findIdx? (·.1)=none:=by rfl):PG X (.Tuple es k pos) (xr X.K n t):=by
 intro pins s σ H v u Q I r hw;obtain⟨a,xs,e1,hq,hl,hw⟩:=hw;subst e1;cases r;obtain⟨its,rv,ht,hz⟩:=I.tuple hq;refine assign_Tuple_tuple (I.ok.hd hc) ht (by simp[hn,<- hl,rv.length]) hst λh' hx=>?_
 have I1:Inv X pins σ H { s with heap:=h' }:=I.kept (t':=s.toks) λb o e=>hx b o (Be (Heap.lt_size e)) e
 exact h pins _ σ H xs _ Q I1 (by simpa using rv) hw
def xt(to ti:TE)(t:k8):TG:=λv σ H Q=>to σ H λo H1=>ti σ H1 λi H2=>t o i v H2 λH3=>Q σ H3
theorem jO{o i:Expr}{to ti:TE}{t:k8}(ho:PE X o to)(hi:PE X i ti)(hs:qt X t)
 (ha:∀v,assign (.Subscript o i pos) X.env v=(do
   let ov <- holding [v] (eval o X.env)
   let iv <- holding [v,ov] (eval i X.env)
   standAt pos
   holding [v,ov,iv] (setItem ov iv v)
   release [v,ov,iv] []):=by intro _;rfl):PG X (.Subscript o i pos) (xt to ti t):=by
 intro pins s σ H v u Q I r h;rw[ha];refine wpAny_bind (wpAny_holding (thn (ho pins s σ H _ I h) λov s1 ⟨x,H1,I1,r1,q1⟩=>?_));refine wpAny_bind (wpAny_holding (thn (hi pins s1 σ H1 _ I1 q1) λiv s2 ⟨y,H2,I2,r2,q2⟩=>?_));refine wpAny_bind (wpAny_standAt (wpAny_bind (wpAny_holding (thn (hs pins s2 σ H2 x y v ov iv u _ I2 r1 r2 r q2) λ_ s3 ⟨H3,I3,q3⟩=>?_))));exact wpAny_release ⟨σ,H3,I3,q3⟩
def eZ(te:TE)(g:TG):TS:=λD σ H=>te σ H λx H1=>g x σ H1 D.nx
theorem jH{tg e:Expr}{te:TE}{g:TG}(he:PE X e te)(hg:PG X tg g)(hs:swapsWithSole [tg] e pos.line X.env=pure false:=by rfl)(hw:swappedStores [tg] e X.env=pure none:=by rfl)
 (h1:(assignEach [tg] X.env).map (·.2)=[assign tg X.env]:=by rfl):PS X (.Assign [tg] e pos) (eZ te g):=by
 intro pins s σ H D I h;refine wpAny_Assign_stores (thn (he pins s σ H _ I h) λv s1 ⟨x,H1,I1,r1,q1⟩=>?_) hs hw;rw[h1];exact thn (hg pins s1 σ H1 x v _ I1 r1 q1) λ_ s2 q=>q
theorem ai{i:Nat}{x:Str}{e:Expr}{te:TE}{pos':Pos}(hN:X.N.Nodup)(hi:X.N[i]?=some x)(hx:Loc X.env.scope x)(he:PE X e te)(hs:swapsWith e (some (.Name x pos')) pos.line X.env=pure false:=by rfl)(hf:X.fn x=true\/X.env.scope.names.lookup x=some .local:=by first |exact .inl rfl |exact .inr rfl |assumption) :
 PS X (.Assign [.Name x pos'] e pos) (eZ te (dD i)):=by
 intro pins s σ H D I h;refine wpAny_Assign_Name (thn (he pins s σ H _ I h) λv s1 ⟨y,H1,I1,r1,q1⟩=>?_) hs;exact lR I1 hN hi hx r1 (λs2 I2=>⟨_,H1,I2,q1⟩) hf
end
section
variable {X:Cx}{pos:Pos}
def qW(c:TT)(tb:TS):TS:=λD σ H=>∃W:Nat->St->Hp->Prop,(∃m,W m σ H)/\∀m σ H,W m σ H ->
 c σ H λb H1=>if b=true then ∃N:St->Hp->Prop,(∀σ' H',N σ' H'->∃m',m'<m/\W m' σ' H')/\tb { D with nx:=N,ct:=N,bk:=D.nx } σ H1 else D.nx σ H1
theorem fg{c:Expr}{body:List Stmt}{tc:TT}{tb:TS}(hp:PassesOwn (model X.prog X.w) X.A X.env X.xe)(hc:PT X c tc)(hb:PSs X body tb):PS X (.While c body [] pos) (qW tc tb):=by
 intro pins s σ H D I h;obtain⟨W,⟨m0,w0⟩,turn⟩:=h;refine wpAny_While (codeAny_whileLoop (λn s'=>∃σ' H',Inv X pins σ' H' s'/\W n σ' H') ?_ m0 ⟨σ,H,I,w0⟩);rintro n s1 ⟨σ1,H1,I1,w1⟩;refine wpAny_passesOwn hp (thn (hc pins s1 σ1 H1 _ I1 (turn n σ1 H1 w1)) λb s2 ⟨H2,I2,q2⟩=>?_);cases b with
 |true =>
  obtain⟨N,hN,q2⟩:=q2;rw[if_pos rfl];refine wpAny_passesOwn hp (thn (hb pins s2 σ1 H2 _ I2 q2) λf s3 q3=>?_);cases f with
  |next =>obtain⟨σ3,H3,I3,n3⟩:=q3;obtain⟨m',hm,w3⟩:=hN σ3 H3 n3;exact⟨m',hm,σ3,H3,I3,w3⟩
  |cont =>obtain⟨σ3,H3,I3,n3⟩:=q3;obtain⟨m',hm,w3⟩:=hN σ3 H3 n3;exact⟨m',hm,σ3,H3,I3,w3⟩
  |brk=>exact q3
  |ret v=>exact q3
 |false =>rw[if_neg Bg];exact wpAny_execs_nil ⟨σ1,H2,I2,q2⟩
end
structure It where
 go:Nat->Hp->Prop
 yld:Nat->Hp->V->Hp->Prop
 stop:Nat->Hp->Prop
noncomputable def cz(X:Cx)(pins:List (Addr×Obj))(H:Hp)(b:Addr):Prop :=
 H b=none/\b≠X.env.locals/\b∉X.fs/\(b∈X.ex\/X.s₀.heap.objs.size<=b)/\(∀x c,X.env.cells.lookup x=some c->c≠b)/\∀p∈X.pn++pins,p.1≠b
theorem Inv.fpOk{X:Cx}{pins:List (Addr×Obj)}{σ:St}{H H':Hp}{s:Shared}{b:Addr}(I:Inv X pins σ H s)(hb:s.heap.objs.size<=b)(hn:H' b=none):cz X pins H' b:=by
 refine⟨hn,Nat.ne_of_gt (Bc I.lt hb),I.nofs hb,.inr (Bk I.sz hb),λx c e z=>?_,λp hp z=>?_⟩
 ·obtain⟨v,q⟩:=I.cell x c e;exact absurd (Bc q.lt (by rw[z];exact hb)) (Bq _)
 ·exact absurd (Bc (Heap.lt_size (I.pin p hp).1) (by rw[z];exact hb)) (Bq _)
structure Turn(P:Program)(w:World)(K:PySem.W.Frag)(tg:Expr)(J:It)(fp:List Addr)(it:Addr)(tn:Nat->Heap->Prop):Prop where
 mem:it∈fp
 obj:∀i h,tn i h->∀b∈fp,∃o,h.get? b=some o/\∀v,o.data≠.cell v
 keep:∀i h h',tn i h->(∀b∈fp,∀o,h.get? b=some o->h'.get? b=some o)->tn i h'
 item:∀(X:Cx),X.prog=P->X.w=w->X.K=K->X.calm=true->∀(i:Nat) (pins:List (Addr×Obj)) (s:Shared) (σ:St) (H:Hp) (E:Value->Shared->Prop),Inv X pins σ H s->(∀b∈fp,cz X pins H b)->tn i s.heap->J.go i H ->
  wpAny (model P w) X.A (pyNext (.ref it)) (λr s1=>∃u,r=some u /\
   wpAny (model P w) X.A (letOwnedTupleGo tg (.ref it) u) (λ_ s2=>∃x H',Inv X pins σ H' s2/\RelV x u/\J.yld i H x H'/\tn (i+1) s2.heap/\∀b∈fp,H' b=none) E s1) E s
 done:∀(X:Cx),X.prog=P->X.w=w->X.K=K->X.calm=true->∀(i:Nat) (pins:List (Addr×Obj)) (s:Shared) (σ:St) (H:Hp) (E:Value->Shared->Prop),Inv X pins σ H s->(∀b∈fp,cz X pins H b)->tn i s.heap->J.stop i H ->
  wpAny (model P w) X.A (pyNext (.ref it)) (λr s1=>r=none/\Inv X pins σ H s1) E s
 self:∀(A:Around) (i:Nat) (s:Shared) (Q:Value->Shared->Prop) (E:Value->Shared->Prop),tn i s.heap->Q (.ref it) s->wpAny (model P w) A (pyIter (.ref it)) Q E s
abbrev TI:=St->Hp->(It->Hp->Prop)->Prop
noncomputable def PIE(X:Cx)(pins:List (Addr×Obj))(σ:St)(tg:Expr)(R:It->Hp->Prop)(itv:Value)(s2:Shared):Prop :=
 ∃(it:Addr) (fp:List Addr) (tn:Nat->Heap->Prop) (J:It) (H':Hp),itv=.ref it/\Inv X pins σ H' s2/\Turn X.prog X.w X.K tg J fp it tn/\tn 0 s2.heap/\(∀b∈fp,cz X pins H' b)/\R J H'
noncomputable def PI(X:Cx)(tg iter:Expr)(wi:TI):Prop :=
 ∀(pins:List (Addr×Obj)) (s:Shared) (σ:St) (H:Hp) (R:It->Hp->Prop),Inv X pins σ H s->wi σ H R ->
  wpAny (model X.prog X.w) X.A (eval iter X.env) (λv s1=>wpAny (model X.prog X.w) X.A (pyIter v) (PIE X pins σ tg R) X.xe s1) X.xe s
theorem fD{M:Model}{A:Around}{E:Value->Shared->Prop}{s:Shared}{tg:Expr}{it:Addr}{u:Value}{o:Obj}{n:String}{vs:Array Value}{Q:Unit->Shared->Prop}(ho:s.heap.get? it=some o)(hc:o.cls=.type n)(hd:o.data=.fields vs)
 (hn:["enumerate","zip","dict_itemiterator","dict_reverseitemiterator","odict_iterator","itertools.zip_longest","itertools.pairwise"].contains n=false) (hQ:Q () s):wpAny M A (letOwnedTupleGo tg (.ref it) u) Q E s:=by
 unfold letOwnedTupleGo
 cases tg<;>first
  |exact wpAny_pure hQ
  | (cases u<;>first
      |exact wpAny_pure hQ
      | (refine wpAny_bind (wpAny_load ho ?_)
         rw[hc,hd];show wpAny M A (if(["enumerate","zip","dict_itemiterator","dict_reverseitemiterator","odict_iterator","itertools.zip_longest","itertools.pairwise"].contains n&&vs[0]? == some (rawInt _))=true then _ else _) Q E s;rw[if_neg (by intro h;rw[hn,Bool.false_and]at h;cases h)]
         exact wpAny_pure hQ))
noncomputable def Itl(K:PySem.W.Frag)(a:Addr):It :=
 ⟨λi H=>∃xs x,SqL K H a xs/\xs[i]?=some x,λi H x H'=>H'=H/\∀xs,SqL K H a xs->xs[i]?=some x,λi H=>∃xs,SqL K H a xs/\xs.length<=i⟩
noncomputable def Itt(K:PySem.W.Frag)(a:Addr):It :=
 ⟨λi H=>∃xs x,SqT K H a xs/\xs[i]?=some x,λi H x H'=>H'=H/\∀xs,SqT K H a xs->xs[i]?=some x,λi H=>∃xs,SqT K H a xs/\xs.length<=i⟩
noncomputable def Itr(lo:Int)(n:Nat):It:=⟨λi _=>i<n,λi H x H'=>H'=H/\x=.int (lo+i),λi _=>n<=i⟩
theorem qL{P:Program}{w:World}{K:PySem.W.Frag}{tg:Expr}(a it:Addr):Turn P w K tg (Itl K a) [it] it (λi h=>h.IsListIter it a i) where
 mem:=by simp
 obj:=λi h st b hb=>by
  have e:b=it:=by simpa using hb
  subst e;obtain⟨o,e,c,d⟩:=st;exact⟨o,e,λv z=>by rw[d]at z;cases z⟩
 keep:=λi h h' st k=>st.at λo e=>k it (by simp) o e
 item:=by
  intro X hP hw hK hc i pins s σ H E I hf st hg;subst hP hw hK;obtain⟨xs,x,hq,hx⟩:=hg;obtain⟨its,rv,p,hz⟩:=I.list hq;obtain⟨u,hu,ru⟩:=rv.get hx;obtain⟨f0,f1,f2,f3,f4,f5⟩:=hf it (by simp);refine wpAny_pyNext_list_item st p.isList (x:=u) (by simpa using hu) λh' st' sb=>?_
  have I1:Inv X pins σ H { s with heap:=h' }:=I.turned (t':=s.toks) (λb o hb e=>(sb.2 b hb).trans e) f0 f1 f3 f4 f5;obtain⟨o,e,c,d⟩:=id st';exact⟨u,rfl,fD (s:={ s with heap:=h' }) e c d (by decide) ⟨x,H,I1,ru,⟨rfl,λys hy=>by rw[I.list_inj hy hq];exact hx⟩,st',λb hb=>(hf b hb).1⟩⟩
 done:=by intro X hP hw hK hc i pins s σ H E I hf st hg;subst hP hw hK;obtain⟨xs,hq,hx⟩:=hg;obtain⟨its,rv,p,hz⟩:=I.list hq;obtain⟨f0,f1,f2,f3,f4,f5⟩:=hf it (by simp);have hl:=rv.length;exact wpAny_pyNext_list_end (I.ok.hd hc) st p.isList (by simp;omega) λh' eb=>⟨rfl,I.turned (t':=s.toks) (λb o hb e=>eb b o hb e) f0 f1 f3 f4 f5⟩
 self:=λ_ _ _ _ _ st h=>wpAny_pyIter_listiter st h
theorem qH{P:Program}{w:World}{K:PySem.W.Frag}{tg:Expr}(a it:Addr):Turn P w K tg (Itt K a) [it] it (λi h=>h.IsTupleIter it a i) where
 mem:=by simp
 obj:=λi h st b hb=>by
  have e:b=it:=by simpa using hb
  subst e;obtain⟨o,e,c,d⟩:=st;exact⟨o,e,λv z=>by rw[d]at z;cases z⟩
 keep:=λi h h' st k=>st.at λo e=>k it (by simp) o e
 item:=by
  intro X hP hw hK hc i pins s σ H E I hf st hg;subst hP hw hK;obtain⟨xs,x,hq,hx⟩:=hg;obtain⟨its,rv,p,hz⟩:=I.tuple hq;obtain⟨u,hu,ru⟩:=rv.get hx;obtain⟨f0,f1,f2,f3,f4,f5⟩:=hf it (by simp);refine wpAny_pyNext_tuple_item st (show s.heap.IsTuple a its.toArray from p) (x:=u) (by simpa using hu) λh' st' sb=>?_
  have I1:Inv X pins σ H { s with heap:=h' }:=I.turned (t':=s.toks) (λb o hb e=>(sb.2 b hb).trans e) f0 f1 f3 f4 f5;obtain⟨o,e,c,d⟩:=id st';exact⟨u,rfl,fD (s:={ s with heap:=h' }) e c d (by decide) ⟨x,H,I1,ru,⟨rfl,λys hy=>by rw[I.tuple_inj hy hq];exact hx⟩,st',λb hb=>(hf b hb).1⟩⟩
 done:=by intro X hP hw hK hc i pins s σ H E I hf st hg;subst hP hw hK;obtain⟨xs,hq,hx⟩:=hg;obtain⟨its,rv,p,hz⟩:=I.tuple hq;obtain⟨f0,f1,f2,f3,f4,f5⟩:=hf it (by simp);have hl:=rv.length;exact wpAny_pyNext_tuple_end (I.ok.hd hc) st (show s.heap.IsTuple a its.toArray from p) (by simp;omega) λh' eb=>⟨rfl,I.turned (t':=s.toks) (λb o hb e=>eb b o hb e) f0 f1 f3 f4 f5⟩
 self:=λ_ _ _ _ _ st h=>wpAny_pyIter_tupleiter st h
theorem qK{P:Program}{w:World}{K:PySem.W.Frag}{tg:Expr}(it:Addr)(lo:Int)(n:Nat):Turn P w K tg (Itr lo n) [it] it (λi h=>IsRangeIter h it (lo+(i:Nat)*1) ((n:Int)-(i:Nat)) 1) where
 mem:=by simp
 obj:=λi h st b hb=>by
  have e:b=it:=by simpa using hb
  subst e
  exact⟨_,st,λv z=>by
   have z':Data.fields _=Data.cell v:=z
   cases z'⟩
 keep:=λi h h' st k=>k it (by simp) _ st
 item:=by
  intro X hP hw hK hc i pins s σ H E I hf st hg;subst hP hw hK;obtain⟨f0,f1,f2,f3,f4,f5⟩:=hf it (by simp);have W:=Walks.range (prog:=X.prog) (w:=X.w) (I.ok.hd hc) it lo 1 n;refine W.item i s _ _ hg st λv h' tk hv st' kk=>?_
  obtain⟨t,rfl⟩:=hv;have I1:Inv X pins σ H { s with heap:=h',toks:=tk }:=I.turned (λb o hb e=>kk b o (by simpa using hb) e) f0 f1 f3 f4 f5;refine⟨_,rfl,fD (s:={ s with heap:=h',toks:=tk }) (n:="range_iterator") st' rfl rfl (by decide) ⟨.int (lo+i),H,I1,⟨t,?_⟩,⟨rfl,rfl⟩,st',λb hb=>(hf b hb).1⟩⟩;rw[By]
 done:=by intro X hP hw hK hc i pins s σ H E I hf st hg;subst hP hw hK;obtain⟨f0,f1,f2,f3,f4,f5⟩:=hf it (by simp);exact wpAny_pyNext_range_end (I.ok.hd hc) st (by have:n<=i:=hg;omega) λh' eb=>⟨rfl,I.turned (t':=s.toks) (λb o hb e=>eb b o hb e) f0 f1 f3 f4 f5⟩
 self:=λ_ _ _ _ _ st h=>wpAny_pyIter_rangeiter st h
section
variable {X:Cx}{tg:Expr}
def oI(K:PySem.W.Frag)(tl:TE):TI:=λσ H R=>tl σ H λx H1=>∃a,x=.ref a/\(∃xs,SqL K H1 a xs)/\R (Itl K a) H1
def oH(K:PySem.W.Frag)(tl:TE):TI:=λσ H R=>tl σ H λx H1=>∃a,x=.ref a/\(∃xs,SqT K H1 a xs)/\R (Itt K a) H1
theorem tH{l:Expr}{tl:TE}(hl:PE X l tl):PI X tg l (oI X.K tl):=by
 intro pins s σ H R I h;refine thn (hl pins s σ H _ I h) λv s1 ⟨x,H1,I1,r1,q1⟩=>?_
 obtain⟨a,e,⟨xs,hq⟩,q⟩:=q1;subst e;cases r1;obtain⟨its,rv,p,hz⟩:=I1.list hq;refine wpAny_pyIter_list p.isList ?_;refine⟨s1.heap.objs.size,[s1.heap.objs.size],_,_,H1,rfl,I1.kept (t':=s1.toks) λb o e=>Heap.get?_push_of_some _ e,qL a _,⟨_,Heap.get?_push_size _ rfl,rfl,rfl⟩,λb hb=>?_,q⟩;have e:b=s1.heap.objs.size:=by simpa using hb
 subst e;exact I1.fpOk (A5 _) (I1.hok.fresh (A5 _))
theorem tE{l:Expr}{tl:TE}(hl:PE X l tl):PI X tg l (oH X.K tl):=by
 intro pins s σ H R I h;refine thn (hl pins s σ H _ I h) λv s1 ⟨x,H1,I1,r1,q1⟩=>?_
 obtain⟨a,e,⟨xs,hq⟩,q⟩:=q1;subst e;cases r1;obtain⟨its,rv,p,hz⟩:=I1.tuple hq;refine wpAny_pyIter_tuple (show s1.heap.IsTuple a its.toArray from p) ?_;refine⟨s1.heap.objs.size,[s1.heap.objs.size],_,_,H1,rfl,I1.kept (t':=s1.toks) λb o e=>Heap.get?_push_of_some _ e,qH a _,⟨_,Heap.get?_push_size _ rfl,rfl,rfl⟩,λb hb=>?_,q⟩;have e:b=s1.heap.objs.size:=by simpa using hb
 subst e;exact I1.fpOk (A5 _) (I1.hok.fresh (A5 _))
theorem sH{pins:List (Addr×Obj)}{σ:St}{H:Hp}{s:Shared}{R:It->Hp->Prop}{E:Value->Shared->Prop}{lo hi:Int}{t u v:Tok}{tk:Nat}(I:Inv X pins σ H s)(h1 : -(2^62)<=lo)(h2:lo<2^62)(h3 : -(2^62)<=hi)(h4:hi<2^62)
 (q:R (Itr lo (hi-lo).toNat) H):wpAny (model X.prog X.w) X.A (pyIter (.ref s.heap.objs.size)) (PIE X pins σ tg R) E { s with heap:=s.heap.push { cls:=.type "range",data:=.fields #[.int lo t,.int hi u,.int 1 v] },toks:=tk }:=by
 refine wpAny_pyIter_range (IsRange.new ..) (small_one h1 h2 h3 h4) ?_;have I1:Inv X pins σ H { s with heap:=s.heap.push { cls:=.type "range",data:=.fields #[.int lo t,.int hi u,.int 1 v] },toks:=tk }:=I.kept λb o e=>Heap.get?_push_of_some _ e
 refine⟨(s.heap.push { cls:=.type "range",data:=.fields #[.int lo t,.int hi u,.int 1 v] }).objs.size,[(s.heap.push { cls:=.type "range",data:=.fields #[.int lo t,.int hi u,.int 1 v] }).objs.size],_,_,H,rfl,
  I1.kept (t':=tk) λb o e=>Heap.get?_push_of_some _ e,qK _ lo (hi-lo).toNat,?_,λb hb=>?_,q⟩
 ·have e1:lo+((0:Nat):Int)*1=lo:=by simp
  have e2:(((hi-lo).toNat:Nat):Int)-((0:Nat):Int)=Builtin.Range.rangeSize lo hi 1:=by rw[rangeSize_one];split<;>omega
  show IsRangeIter _ _ (lo+((0:Nat):Int)*1) ((((hi-lo).toNat:Nat):Int)-((0:Nat):Int)) 1;rw[e1,e2];exact Heap.get?_push_size _ rfl
 ·have e:b=(s.heap.push { cls:=.type "range",data:=.fields #[.int lo t,.int hi u,.int 1 v] }).objs.size:=by simpa using hb
  subst e;exact I1.fpOk (A5 _) (I1.hok.fresh (A5 _))
def wX(ta:TA):TI:=λσ H R=>ta σ H λvs H1=>∃j:Int,vs=[.int j] /\ -(2^62)<=j/\j<2^62/\R (Itr 0 j.toNat) H1
theorem cG{a:Expr}{ta:TA}{p pos:Pos}(hg:Gl X "range")(hm:X.mg "range"=none)(ha:PA X [a] ta)(hs:starEach [a] X.env=[(false,eval a X.env)]:=by rfl):PI X tg (.Call (.Name "range" p) [a] [] pos) (wX ta):=by
 intro pins s σ H R I h;refine Call_ (dA I hg hm boot_range (PyProof.Rows.callWith_type1 (thn (ha pos pins s σ H _ I h) λus s1 ⟨vs,H1,I1,r1,q1⟩=>?_) hs rfl));obtain⟨j,e,q1,q2,q⟩:=q1;subst e;cases r1 with
 |cons r rr =>cases rr;obtain⟨t,rfl⟩:=r;exact call_range_1 (sH I1 (by omega) (by omega) q1 q2 (by simpa using q))
def rf(wi:TI)(g:TG)(tb:TS):TS:=λD σ H=>wi σ H λJ H1=>∃W:Nat->Nat->St->Hp->Prop,(∃m,W 0 m σ H1)/\∀i m σ H,W i m σ H ->
 (J.stop i H/\D.nx σ H)\/(J.go i H/\∃N:St->Hp->Prop,(∀σ' H',N σ' H'->∃m',m'<m/\W (i+1) m' σ' H')/\∀x H',J.yld i H x H'->g x σ H' λσ2 H2=>tb { D with nx:=N,ct:=N,bk:=D.nx } σ2 H2)
noncomputable def gC(fp:List Addr)(h:Heap):List (Addr×Obj):=fp.filterMap λb=>(h.get? b).map λo=>(b,o)
theorem gJ{fp:List Addr}{h:Heap}{b:Addr}{o:Obj}(hb:b∈fp)(e:h.get? b=some o):(b,o)∈gC fp h:=List.mem_filterMap.mpr ⟨b,hb,by rw[e];rfl⟩
theorem vf{fp:List Addr}{h:Heap}{p:Addr×Obj}(hp:p∈gC fp h):p.1∈fp/\h.get? p.1=some p.2:=by
 obtain⟨b,hb,e⟩:=List.mem_filterMap.mp hp;cases q:h.get? b with
 |none=>rw[q]at e;cases e
 |some o =>rw[q]at e;have e':(b,o)=p:=Option.some.inj e;subst e';exact⟨hb,q⟩
theorem Inv.pinned{pins:List (Addr×Obj)}{σ:St}{H:Hp}{s:Shared}{fp:List Addr}(I:Inv X pins σ H s)(hf:∀b∈fp,cz X pins H b)(ho:∀b∈fp,∃o,s.heap.get? b=some o/\∀v,o.data≠.cell v):Inv X (pins++gC fp s.heap) σ H s :=
 I.pins_of λp hp=>(Bn.mp hp).elim (λz=>I.pin p (Bo _ z)) λz=>by obtain⟨hb,e⟩:=vf z;obtain⟨f0,f1,f2,_⟩:=hf p.1 hb;obtain⟨o,e',d⟩:=ho p.1 hb;rw[e]at e';cases e';exact⟨e,f0,f1,f2,d⟩
theorem Inv.unpinned{pins pl:List (Addr×Obj)}{σ:St}{H:Hp}{s:Shared}(I:Inv X (pins++pl) σ H s):Inv X pins σ H s:=I.pins_of λp hp=>I.pin p (Bo _ (List.mem_append_left _ hp))
theorem bD{iter:Expr}{body:List Stmt}{wi:TI}{g:TG}{tb:TS}{pos:Pos}(hp:PassesOwn (model X.prog X.w) X.A X.env X.xe)(hc:X.calm=true)(hi:PI X tg iter wi)(hg:PG X tg g)(hb:PSs X body tb)
 (hs:∀x,foldedSetIterable iter X.env x=pure x:=by intro _;rfl):PS X (.For tg iter body [] pos) (rf wi g tb):=by
 intro pins s σ H D I h;refine wpAny_For (thn (hi pins s σ H _ I h) λv s1 h1=>thn h1 λitv s2 h2=>?_) hs;obtain⟨it,fp,tn,J,H2,e,I2,T,st2,f2,W,⟨m0,w0⟩,turn⟩:=h2;subst e;have stat:∀{H':Hp},(∀b∈fp,H' b=none)->∀b∈fp,cz X pins H' b:=λhn b hb=>⟨hn b hb,(f2 b hb).2⟩
 refine codeAny_forLoop_any (λn s'=>∃i σ' H',Inv X pins σ' H' s'/\tn i s'.heap/\(∀b∈fp,H' b=none)/\W i n σ' H') ?_ m0 ⟨0,σ,H2,I2,st2,λb hb=>(f2 b hb).1,w0⟩;rintro n s3 ⟨i,σ3,H3,I3,st3,fr3,w3⟩;rcases turn i n σ3 H3 w3 with⟨stop,qn⟩ |⟨go,N,hN,step⟩
 ·refine wpAny_passesOwn hp (thn (T.done X rfl rfl rfl hc i pins s3 σ3 H3 X.xe I3 (stat fr3) st3 stop) λr s4 ⟨hr,I4⟩=>?_);subst hr;exact wpAny_execs_nil ⟨σ3,H3,I4,qn⟩
 ·refine wpAny_passesOwn hp (thn (T.item X rfl rfl rfl hc i pins s3 σ3 H3 X.xe I3 (stat fr3) st3 go) λr s4 ⟨u,hr,h4⟩=>?_);subst hr;refine wpAny_passesOwn hp (thn h4 λ_ s5 ⟨x,H5,I5,r5,y5,st5,fr5⟩=>?_);have I5':=I5.pinned (stat fr5) (T.obj _ _ st5);refine wpAny_passesOwn hp (thn (hg _ s5 σ3 H5 x u _ I5' r5 (step x H5 y5)) λ_ s6 ⟨σ6,H6,I6,q6⟩=>?_);refine wpAny_passesOwn hp (thn (hb _ s6 σ6 H6 _ I6 q6) λf s7 q7=>?_)
  have again:∀{σ7:St} {H7:Hp},Inv X (pins++gC fp s5.heap) σ7 H7 s7->N σ7 H7->∃m,m<n/\∃i σ' H',Inv X pins σ' H' s7/\tn i s7.heap/\(∀b∈fp,H' b=none)/\W i m σ' H':=λ{σ7 H7} I7 n7=>by obtain⟨m',hm,w7⟩:=hN σ7 H7 n7;refine⟨m',hm,i+1,σ7,H7,I7.unpinned,T.keep _ _ _ st5 λb hb o e=>(I7.pin (b,o) (Bo _ (Bo _ (gJ hb e)))).1,λb hb=>?_,w7⟩;obtain⟨o,e,d⟩:=T.obj _ _ st5 b hb;exact(I7.pin (b,o) (Bo _ (Bo _ (gJ hb e)))).2.1
  cases f with
  |next=>obtain⟨σ7,H7,I7,n7⟩:=q7;exact again I7 n7
  |cont=>obtain⟨σ7,H7,I7,n7⟩:=q7;exact again I7 n7
  |brk=>obtain⟨σ7,H7,I7,q7⟩:=q7;exact⟨σ7,H7,I7.unpinned,q7⟩
  |ret v=>obtain⟨x7,σ7,H7,I7,r7,q7⟩:=q7;exact⟨x7,σ7,H7,I7.unpinned,r7,q7⟩
end
theorem gX{K:PySem.W.Frag}{a:Addr}{xs:List V}{g:TG}{tb:TS}{D:bU}{σ:St}{H:Hp}(Pv:Nat->St->Hp->Prop)(h0:Pv 0 σ H)(hl:∀i σ H,i<=xs.length->Pv i σ H->SqL K H a xs)
 (hs:∀i x σ H,xs[i]?=some x->Pv i σ H->g x σ H λσ2 H2=>tb { D with nx:=Pv (i+1),ct:=Pv (i+1),bk:=D.nx } σ2 H2) (hd:∀σ H,Pv xs.length σ H->D.nx σ H) :
 ∃W:Nat->Nat->St->Hp->Prop,(∃m,W 0 m σ H)/\∀i m σ H,W i m σ H ->
  ((Itl K a).stop i H/\D.nx σ H)\/((Itl K a).go i H/\∃N:St->Hp->Prop,(∀σ' H',N σ' H'->∃m',m'<m/\W (i+1) m' σ' H')/\∀x H',(Itl K a).yld i H x H'->g x σ H' λσ2 H2=>tb { D with nx:=N,ct:=N,bk:=D.nx } σ2 H2):=by
 refine⟨λi m σ H=>m=xs.length-i/\i<=xs.length/\Pv i σ H,⟨xs.length,by simp,A8 _,h0⟩,?_⟩;rintro i m σ H ⟨rfl,hi,p⟩;have q:=hl i σ H hi p;by_cases hlt:i<xs.length
 ·refine .inr ⟨⟨xs,xs[i],q,by simp[hlt]⟩,Pv (i+1),λσ' H' p'=>⟨xs.length-(i+1),by omega,rfl,hlt,p'⟩,λx H' y=>?_⟩;obtain⟨e,y⟩:=y;subst e;exact hs i x σ _ (y xs q) p
 ·have e:i=xs.length:=by omega
  subst e;exact .inl ⟨⟨xs,q,A5 _⟩,hd σ H p⟩
theorem dF{lo:Int}{n:Nat}{g:TG}{tb:TS}{D:bU}{σ:St}{H:Hp}(Pv:Nat->St->Hp->Prop)(h0:Pv 0 σ H)
 (hs:∀i σ H,i<n->Pv i σ H->g (.int (lo+i)) σ H λσ2 H2=>tb { D with nx:=Pv (i+1),ct:=Pv (i+1),bk:=D.nx } σ2 H2) (hd:∀σ H,Pv n σ H->D.nx σ H) :
 ∃W:Nat->Nat->St->Hp->Prop,(∃m,W 0 m σ H)/\∀i m σ H,W i m σ H ->
  ((Itr lo n).stop i H/\D.nx σ H)\/((Itr lo n).go i H/\∃N:St->Hp->Prop,(∀σ' H',N σ' H'->∃m',m'<m/\W (i+1) m' σ' H')/\∀x H',(Itr lo n).yld i H x H'->g x σ H' λσ2 H2=>tb { D with nx:=N,ct:=N,bk:=D.nx } σ2 H2):=by
 refine⟨λi m σ H=>m=n-i/\i<=n/\Pv i σ H,⟨n,by simp,A8 _,h0⟩,?_⟩;rintro i m σ H ⟨rfl,hi,p⟩;by_cases hlt:i<n
 ·refine .inr ⟨hlt,Pv (i+1),λσ' H' p'=>⟨n-(i+1),by omega,rfl,hlt,p'⟩,λx H' y=>?_⟩;obtain⟨e,y⟩:=y;subst e y;exact hs i σ _ hlt p
 ·have e:i=n:=by omega
  subst e;exact .inl ⟨A5 _,hd σ H p⟩
abbrev R2:=V->V->Hp->VK->Prop
noncomputable def OpR(X:Cx)(f:Value->Value->Sem Value)(r:R2):Prop :=
 ∀(pins:List (Addr×Obj)) (s:Shared) (σ:St) (H:Hp) (x y:V) (v u:Value) (Q:VK),Inv X pins σ H s->RelV x v->RelV y u->r x y H Q ->
  wpAny (model X.prog X.w) X.A (f v u) (EP X pins σ Q) X.xe s
noncomputable def UnR(X:Cx)(f:Value->Sem Value)(r:V->Hp->VK->Prop):Prop :=
 ∀(pins:List (Addr×Obj)) (s:Shared) (σ:St) (H:Hp) (x:V) (v:Value) (Q:VK),Inv X pins σ H s->RelV x v->r x H Q ->
  wpAny (model X.prog X.w) X.A (f v) (EP X pins σ Q) X.xe s
noncomputable def CallR(X:Cx)(f:Value)(r:List V->Hp->VK->Prop):Prop :=
 ∀(pins:List (Addr×Obj)) (s:Shared) (σ:St) (H:Hp) (xs:List V) (us:List Value) (Q:VK),Inv X pins σ H s->Vals xs us->r xs H Q ->
  wpAny (model X.prog X.w) X.A (call f us) (EP X pins σ Q) X.xe s
def tOp(r:R2)(ta tb:TE):TE:=λσ H Q=>ta σ H λx H1=>tb σ H1 λy H2=>r x y H2 Q
def tUn(r:V->Hp->VK->Prop)(ta:TE):TE:=λσ H Q=>ta σ H λx H1=>r x H1 Q
def rI(C:Int->Int->Prop)(g:Int->Int->V):R2:=λx y H Q=>∃i j,x=.int i/\y=.int j/\C i j/\Q (g i j) H
def rI0(g:Int->Int->V):R2:=λx y H Q=>∃i j,x=.int i/\y=.int j/\Q (g i j) H
noncomputable def rU(g:Int->V):V->Hp->VK->Prop:=λx H Q=>∃i,x=.int i/\Q (g i) H
section
variable {X:Cx}{a b c:Expr}{ta tb tc:TE}{pos:Pos}
theorem kT(ha:PE X a ta)(hb:PE X b tb){pins:List (Addr×Obj)}{s:Shared}{σ:St}{H:Hp}{R:V->V->Hp->Prop}(I:Inv X pins σ H s)
 (h:ta σ H λx H1=>tb σ H1 λy H2=>R x y H2) {Q:Value->Shared->Prop} {f:Value->Value->Sem Value}
 (hf:∀v u s2 x y H2,Inv X pins σ H2 s2->RelV x v->RelV y u->R x y H2->wpAny (model X.prog X.w) X.A (f v u) Q X.xe s2) :
 wpAny (model X.prog X.w) X.A (eval a X.env) (λv s₁=>wpAny (model X.prog X.w) X.A (eval b X.env) (λu s₂=>wpAny (model X.prog X.w) X.A (f v u) Q X.xe s₂) X.xe s₁) X.xe s:=by
 refine thn (ha pins s σ H _ I h) λv s1 ⟨x,H1,I1,r1,q1⟩=>?_
 refine thn (hb pins s1 σ H1 _ I1 q1) λu s2 ⟨y,H2,I2,r2,q2⟩=>?_
 exact hf v u s2 x y H2 I2 r1 r2 q2
theorem ad{op:Operator}{r:R2}(ho:OpR X (binaryOp op) r)(ha:PE X a ta)(hb:PE X b tb):PE X (.BinOp a op b pos) (tOp r ta tb):=by intro pins s σ H Q I h;exact wpAny_BinOp (kT ha hb I h λv u s2 x y H2 I2 rx ry q=>ho pins s2 σ H2 x y v u Q I2 rx ry q)
theorem bF{op:UnaryOp}{r:V->Hp->VK->Prop}(ho:UnR X (unaryOp op) r)(ha:PE X a ta):PE X (.UnaryOp op a pos) (tUn r ta):=by intro pins s σ H Q I h;exact UnaryOp_ (thn (ha pins s σ H _ I h) λv s1 ⟨x,H1,I1,r1,q1⟩=>ho pins s1 σ H1 x v Q I1 r1 q1)
theorem opI{f:Value->Value->Sem Value}{C:Int->Int->Prop}{g:Int->Int->Int}
 (rule:∀(i j:Int) (t u:Tok) (s:Shared) (Q:Value->Shared->Prop) (E:Value->Shared->Prop),C i j->Q (.int (g i j) s.toks) { s with toks:=s.toks+1 }->wpAny (model X.prog X.w) X.A (f (.int i t) (.int j u)) Q E s) :
 OpR X f (rI C λi j=>.int (g i j)):=by
 intro pins s σ H x y v u Q I rx ry h;obtain⟨i,j,rfl,rfl,hc,q⟩:=h;obtain⟨t,rfl⟩:=rx;obtain⟨t',rfl⟩:=ry;exact rule i j t t' s _ _ hc ⟨.int (g i j),H,I.tok _,⟨_,rfl⟩,q⟩
theorem nv{f:Value->Value->Sem Value}{g:Int->Int->Int}
 (rule:∀(i j:Int) (t u:Tok) (s:Shared) (Q:Value->Shared->Prop) (E:Value->Shared->Prop),Q (.int (g i j) s.toks) { s with toks:=s.toks+1 }->wpAny (model X.prog X.w) X.A (f (.int i t) (.int j u)) Q E s) :
 OpR X f (rI0 λi j=>.int (g i j)):=by
 intro pins s σ H x y v u Q I rx ry h;obtain⟨i,j,rfl,rfl,q⟩:=h;obtain⟨t,rfl⟩:=rx;obtain⟨t',rfl⟩:=ry;exact rule i j t t' s _ _ ⟨.int (g i j),H,I.tok _,⟨_,rfl⟩,q⟩
theorem eB{f:Value->Value->Sem Value}{g:Int->Int->Bool}
 (rule:∀(i j:Int) (t u:Tok) (s:Shared) (Q:Value->Shared->Prop) (E:Value->Shared->Prop),Q (.bool (g i j)) s->wpAny (model X.prog X.w) X.A (f (.int i t) (.int j u)) Q E s) :
 OpR X f (rI0 λi j=>.bl (g i j)):=by
 intro pins s σ H x y v u Q I rx ry h;obtain⟨i,j,rfl,rfl,q⟩:=h;obtain⟨t,rfl⟩:=rx;obtain⟨t',rfl⟩:=ry;exact rule i j t t' s _ _ ⟨.bl (g i j),H,I,rfl,q⟩
def CMul(i j:Int):Prop:=(-(2^64)<i/\i<2^64)\/(-(2^64)<j/\j<2^64)
theorem CMul.ok{i j:Int}(h:CMul i j):IntMulOk i j:=by
 rcases h with⟨h1,h2⟩ |⟨h1,h2⟩
 ·exact .of_left (intBits_le_64 h1 h2)
 ·exact .of_right (intBits_le_64 h1 h2)
theorem aW:OpR X (binaryOp .Add) (rI0 λi j=>.int (i+j)):=nv λ_ _ _ _ _ _ _ q=>add_int q
theorem aO:OpR X (binaryOp .Sub) (rI0 λi j=>.int (i-j)):=nv λ_ _ _ _ _ _ _ q=>sub_int q
theorem nr:OpR X (binaryOp .Mult) (rI CMul λi j=>.int (i*j)):=opI λ_ _ _ _ _ _ _ hc q=>mul_int q hc.ok
theorem tS:OpR X (binaryOp .Mod) (rI (λ_ j=>0<j) λi j=>.int (i%j)):=opI λi j _ _ _ _ _ hc q=>by have h1:(0:Int)<j:=hc;exact mod_int' (by omega) (by rw[Int.fmod_eq_emod_of_nonneg i (by omega)];exact q)
theorem unI{f:Value->Sem Value}{g:Int->Int}
 (rule:∀(i:Int) (t:Tok) (s:Shared) (Q:Value->Shared->Prop) (E:Value->Shared->Prop),Q (.int (g i) s.toks) { s with toks:=s.toks+1 }->wpAny (model X.prog X.w) X.A (f (.int i t)) Q E s) :
 UnR X f (rU λi=>.int (g i)):=by
 intro pins s σ H x v Q I rx h;obtain⟨i,rfl,q⟩:=h;obtain⟨t,rfl⟩:=rx;exact rule i t s _ _ ⟨.int (g i),H,I.tok _,⟨_,rfl⟩,q⟩
theorem bC:UnR X (unaryOp .USub) (rU λi=>.int (-i)):=unI λ_ _ _ _ _ q=>neg_int q
end
noncomputable def mP:V->V->Bool
 |.non,.non=>true |.non,.int _=>true |.int _,.non=>true |.non,.bl _=>true |.bl _,.non=>true |.non,.str _=>true |.str _,.non=>true
 |.int _,.int _=>true |.bl _,.bl _=>true |.str _,.str _=>true |.byt _,.byt _=>true
 |.int _,.str _=>true |.str _,.int _=>true |.bl _,.str _=>true |.str _,.bl _=>true
 |_,_=>false
def rEq:R2:=λx y H Q=>mP x y=true/\Q (.bl (decide (x=y))) H
def rNe:R2:=λx y H Q=>mP x y=true/\Q (.bl (!decide (x=y))) H
theorem pC{i j:Int}:decide (V.int i=V.int j)=(i == j):=by rw[BF];simp
theorem pE{i j:Bool}:decide (V.bl i=V.bl j)=(i == j):=by rw[BF];simp
theorem pB{i j:Str}:decide (V.str i=V.str j)=(i == j):=by rw[BF];simp
theorem pD{i j:Array UInt8}:decide (V.byt i=V.byt j)=(i.toList == j.toList):=by rw[BF];cases i;cases j;simp
section
variable {X:Cx}{a b c:Expr}{ta tb tc:TE}{pos:Pos}
theorem aQ{pins:List (Addr×Obj)}{σ:St}{H:Hp}{s:Shared}{Q:VK}{k k':Bool}(I:Inv X pins σ H s)(q:Q (.bl k) H)(e:k=k'):EP X pins σ Q (.bool k') s:=by subst e;exact⟨.bl k,H,I,rfl,q⟩
theorem jQ:OpR X (compareOp .Eq) rEq:=by
 intro pins s σ H x y v u Q I rx ry h;obtain⟨hs,q⟩:=h;cases x with
 |non =>
  cases rx;cases y with
  |non=>cases ry;exact PySem.EqNone.eq_none_none (aQ I q (by simp))
  |bl j=>cases ry;exact PySem.EqNone.eq_none_bool (aQ I q (by simp))
  |int j=>obtain⟨t',rfl⟩:=ry;exact PySem.EqNone.eq_none_int (aQ I q (by simp))
  |str j=>obtain⟨t',rfl⟩:=ry;exact PySem.EqNone.eq_none_str (aQ I q (by simp))
  |_=>exact absurd (show false=true from hs) Bg
 |bl i =>
  cases rx;cases y with
  |non=>cases ry;exact PySem.EqNone.eq_bool_none (aQ I q (by simp))
  |bl j=>cases ry;exact eq_bool (aQ I q pE)
  |str j=>obtain⟨t',rfl⟩:=ry;exact PySem.EqMixed.eq_bool_str (aQ I q (by simp))
  |_=>exact absurd (show false=true from hs) Bg
 |int i =>
  obtain⟨t,rfl⟩:=rx;cases y with
  |non=>cases ry;exact PySem.EqNone.eq_int_none (aQ I q (by simp))
  |int j=>obtain⟨t',rfl⟩:=ry;exact eq_int (aQ I q pC)
  |str j=>obtain⟨t',rfl⟩:=ry;exact PySem.EqMixed.eq_int_str (aQ I q (by simp))
  |_=>exact absurd (show false=true from hs) Bg
 |str i =>
  obtain⟨t,rfl⟩:=rx;cases y with
  |non=>cases ry;exact PySem.EqNone.eq_str_none (aQ I q (by simp))
  |bl j=>cases ry;exact PySem.EqMixed.eq_str_bool (aQ I q (by simp))
  |int j=>obtain⟨t',rfl⟩:=ry;exact PySem.EqMixed.eq_str_int (aQ I q (by simp))
  |str j=>obtain⟨t',rfl⟩:=ry;exact eq_str (aQ I q pB)
  |_=>exact absurd (show false=true from hs) Bg
 |byt i =>
  obtain⟨t,rfl⟩:=rx;cases y with
  |byt j=>obtain⟨t',rfl⟩:=ry;exact PySem.W.eq_bytes (aQ I q pD)
  |_=>exact absurd (show false=true from hs) Bg
 |_=>cases y<;>exact absurd (show false=true from hs) Bg
theorem tR:OpR X (compareOp .NotEq) rNe:=by
 intro pins s σ H x y v u Q I rx ry h;obtain⟨hs,q⟩:=h;cases x with
 |non =>
  cases rx;cases y with
  |non=>cases ry;exact PySem.EqNone.ne_none_none (aQ I q (by simp))
  |bl j=>cases ry;exact PySem.EqNone.ne_none_bool (aQ I q (by simp))
  |int j=>obtain⟨t',rfl⟩:=ry;exact PySem.EqNone.ne_none_int (aQ I q (by simp))
  |str j=>obtain⟨t',rfl⟩:=ry;exact PySem.EqNone.ne_none_str (aQ I q (by simp))
  |_=>exact absurd (show false=true from hs) Bg
 |bl i =>
  cases rx;cases y with
  |non=>cases ry;exact PySem.EqNone.ne_bool_none (aQ I q (by simp))
  |bl j=>cases ry;exact ne_bool (aQ I q (congrArg not pE))
  |str j=>obtain⟨t',rfl⟩:=ry;exact PySem.EqMixed.ne_bool_str (aQ I q (by simp))
  |_=>exact absurd (show false=true from hs) Bg
 |int i =>
  obtain⟨t,rfl⟩:=rx;cases y with
  |non=>cases ry;exact PySem.EqNone.ne_int_none (aQ I q (by simp))
  |int j=>obtain⟨t',rfl⟩:=ry;exact ne_int (aQ I q (congrArg not pC))
  |str j=>obtain⟨t',rfl⟩:=ry;exact PySem.EqMixed.ne_int_str (aQ I q (by simp))
  |_=>exact absurd (show false=true from hs) Bg
 |str i =>
  obtain⟨t,rfl⟩:=rx;cases y with
  |non=>cases ry;exact PySem.EqNone.ne_str_none (aQ I q (by simp))
  |bl j=>cases ry;exact PySem.EqMixed.ne_str_bool (aQ I q (by simp))
  |int j=>obtain⟨t',rfl⟩:=ry;exact PySem.EqMixed.ne_str_int (aQ I q (by simp))
  |str j=>obtain⟨t',rfl⟩:=ry;exact ne_str (aQ I q (congrArg not pB))
  |_=>exact absurd (show false=true from hs) Bg
 |byt i =>
  obtain⟨t,rfl⟩:=rx;cases y with
  |byt j=>obtain⟨t',rfl⟩:=ry;exact PySem.W.ne_bytes (aQ I q (congrArg not pD))
  |_=>exact absurd (show false=true from hs) Bg
 |_=>cases y<;>exact absurd (show false=true from hs) Bg
theorem cH:OpR X (compareOp .Lt) (rI0 λi j=>.bl (decide (i<j))):=eB λ_ _ _ _ _ _ _ q=>lt_int q
theorem fk:OpR X (compareOp .LtE) (rI0 λi j=>.bl (decide (i<=j))):=eB λ_ _ _ _ _ _ _ q=>le_int q
theorem cq:OpR X (compareOp .Gt) (rI0 λi j=>.bl (decide (j<i))):=eB λ_ _ _ _ _ _ _ q=>gt_int q
theorem jP:OpR X (compareOp .GtE) (rI0 λi j=>.bl (decide (j<=i))):=eB λ_ _ _ _ _ _ _ q=>ge_int q
theorem OpR.or{f:Value->Value->Sem Value}{r r':R2}(h:OpR X f r)(h':OpR X f r'):OpR X f (λx y H Q=>r x y H Q\/r' x y H Q):=by
 intro pins s σ H x y v u Q I rx ry q;rcases q with q |q
 ·exact h pins s σ H x y v u Q I rx ry q
 ·exact h' pins s σ H x y v u Q I rx ry q
theorem au(b:Expr){op:CmpOp}(h:op≠.In:=by decide)(h2:op≠.NotIn:=by decide):behindInMarks op b=false:=by
 have e1:(op == CmpOp.In)=false:=by cases op<;>first |rfl |exact absurd rfl h
 have e2:(op == CmpOp.NotIn)=false:=by cases op<;>first |rfl |exact absurd rfl h2
 cases b<;>simp[behindInMarks,e1,e2]
theorem bN{op:CmpOp}{r:R2}(ho:OpR X (compareOp op) r)(ha:PE X a ta)(hb:PE X b tb)(hm:behindInMarks op b=false):PE X (.Compare a [op] [b] pos) (tOp r ta tb):=by intro pins s σ H Q I h;exact wpAny_Compare1 (kT ha hb I h λv u s2 x y H2 I2 rx ry q=>ho pins s2 σ H2 x y v u Q I2 rx ry q) hm
def qX(t:TE):TT:=λσ H Q=>t σ H λx H'=>∃k,x=.bl k/\Q k H'
theorem aF{op:CmpOp}{r:R2}(ho:OpR X (compareOp op) r)(ha:PE X a ta)(hb:PE X b tb)(hm:behindInMarks op b=false):PT X (.Compare a [op] [b] pos) (qX (tOp r ta tb)):=by
 intro pins s σ H Q I h
 refine wpAny_isTrue_Compare1 (thn (ha pins s σ H _ I h) λv s1 ⟨x,H1,I1,r1,q1⟩=>thn (hb pins s1 σ H1 _ I1 q1) λu s2 ⟨y,H2,I2,r2,q2⟩ =>thn (ho pins s2 σ H2 x y v u _ I2 r1 r2 q2) λc s3 ⟨z,H3,I3,r3,k,e,q3⟩=>?_) hm
 subst e;cases r3;exact wpAny_truthy_bool ⟨H3,I3,q3⟩
theorem gN:(sizeLine:Nat)<2^63:=by rw[sizeLine_eq];decide
theorem dQ{x:V}{us:List Value}(r:Vals [x] us):∃u,us=[u]/\RelV x u:=by
 cases r with
 |cons r1 r2=>cases r2;exact⟨_,rfl,r1⟩
theorem lE{x y:V}{us:List Value}(r:Vals [x,y] us):∃u w',us=[u,w']/\RelV x u/\RelV y w':=by
 cases r with
 |cons r1 r2 =>
  cases r2 with
  |cons r3 r4=>cases r4;exact⟨_,_,rfl,r1,r3⟩
theorem fI:CallR X (.builtin "abs") (λxs H Q=>∃i,xs=[.int i]/\Q (.int (if i<0 then -i else i)) H):=by intro pins s σ H xs us Q I r h;obtain⟨i,rfl,q⟩:=h;obtain⟨u,rfl,t,rfl⟩:=dQ r;exact call_abs_int λu tk=>⟨.int (if i<0 then -i else i),H,I.tok _,⟨_,rfl⟩,q⟩
theorem yf(hc:X.calm=true):CallR X (.builtin "max") (λxs H Q=>∃i j,xs=[.int i,.int j]/\Q (.int (if j>i then j else i)) H):=by
 intro pins s σ H xs us Q I r h;obtain⟨i,j,rfl,q⟩:=h;obtain⟨u,w',rfl,⟨t,rfl⟩,⟨t',rfl⟩⟩:=lE r;refine max_two_ints (I.ok.hd hc) λh' tk k=>⟨_,H,I.kept k,?_,q⟩
 by_cases hj:j>i
 ·rw[if_pos hj,if_pos hj];exact⟨_,rfl⟩
 ·rw[if_neg hj,if_neg hj];exact⟨_,rfl⟩
theorem ye(hc:X.calm=true):CallR X (.builtin "min") (λxs H Q=>∃i j,xs=[.int i,.int j]/\Q (.int (if j<i then j else i)) H):=by
 intro pins s σ H xs us Q I r h;obtain⟨i,j,rfl,q⟩:=h;obtain⟨u,w',rfl,⟨t,rfl⟩,⟨t',rfl⟩⟩:=lE r;refine min_two_ints (I.ok.hd hc) λh' tk k=>⟨_,H,I.kept k,?_,q⟩
 by_cases hj:j<i
 ·rw[if_pos hj,if_pos hj];exact⟨_,rfl⟩
 ·rw[if_neg hj,if_neg hj];exact⟨_,rfl⟩
theorem ic:CallR X (.type "int") (λxs H Q=>(∃i,xs=[.int i]/\Q (.int i) H)\/∃k,xs=[.bl k]/\Q (.int (if k then 1 else 0)) H):=by
 intro pins s σ H xs us Q I r h;rcases h with⟨i,rfl,q⟩ |⟨k,rfl,q⟩
 ·obtain⟨u,rfl,t,rfl⟩:=dQ r;exact call_int_int ⟨.int i,H,I,⟨_,rfl⟩,q⟩
 ·obtain⟨u,rfl,r1⟩:=dQ r;cases r1;exact call_int_bool ⟨.int (if k then 1 else 0),H,I.tok _,⟨_,rfl⟩,q⟩
end
structure ObjM(h:Heap)(x dx C:Addr)(mA:Str->Option Value):Prop where
 obj:h.get? x=some (PySem.W.instObj C dx)
 ns:h.Ns1 dx mA
 ne:dx≠x
theorem wg{h:Heap}{dx:Addr}{mA:Str->Option Value}(n:h.Ns1 dx mA):∃od,h.get? dx=some od/\∀name,PySem.W.lookIn name od=some (mA name):=by
 obtain⟨o,es,ep,ho,hd,hk,_,hm⟩:=n;refine⟨o,ho,λname=>?_⟩;have e:=hm name;unfold nsFind findBy at e
 rw[<- Array.find?_toList]at e;unfold PySem.W.lookIn;rw[hd];dsimp only
 split
 ·rename_i y q
  rw[q]at e;exact congrArg some e
 ·rename_i q
  rw[q]at e
  have a:es.toList.any (·.refKey)=false:=by rw[List.any_eq_false];intro y hy;obtain⟨z,t,hkey⟩:=hk y (Array.mem_toList_iff.mp hy);simp[DictEntry.refKey,hkey]
  have a':¬es.toList.any (·.refKey)=true:=by rw[a];exact Bg
  rw[if_neg a'];exact congrArg some e
theorem ObjM.look{h:Heap}{x dx C:Addr}{mA:Str->Option Value}(I:ObjM h x dx C mA):∃od,PySem.W.InstAt h x (PySem.W.instObj C dx) C (some od)/\∀name,PySem.W.lookIn name od=some (mA name) :=
 let⟨od,ho,hl⟩:=wg I.ns
 ⟨od,⟨I.obj,rfl,rfl,ho⟩,hl⟩
section
variable {prog:Program}{w:World}{A:Around}{E:Value->Shared->Prop}{s:Shared}{K:PySem.W.Frag}{x dx C f:Addr}{mA:Str->Option Value}{name:Str}{v:Value}
theorem xm{expr:Bool}{Q:Value->Shared->Prop}(X:K.In s.heap)(I:ObjM s.heap x dx C mA)(hg:PySem.W.plainGet K C name=true)(hh:PySem.W.hasDictIn K C=true)
 (ha:PySem.W.findIn K (.ref C) name=some none) (hv:mA name=some v) (hv':PySem.W.handedIn v=true) (h:Q v { s with toks:=s.toks+1 }) :
 wpAny (model prog w) A (getAttr (.ref x) name expr) Q E s:=by
 obtain⟨od,J,hl⟩:=I.look;exact PySem.W.get_value X J (PySem.W.plainGet_of hg).1 (PySem.W.findObj_own hh ha rfl (by rw[hl,hv])) hv' h
theorem xk{pl:Sem Bool}{Q:Value×List Value->Shared->Prop}(X:K.In s.heap)(I:ObjM s.heap x dx C mA)(hg:PySem.W.plainGet K C name=true)
 (hf:PySem.W.findIn K (.ref C) name=some (some (.ref f))) (ht:PySem.W.isFn K (.ref f)=true) (hv:mA name=none) (h:Q (.ref f,[.ref x]) s) :
 wpAny (model prog w) A (getMethod (.ref x) name pl) Q E s:=by
 obtain⟨od,J,hl⟩:=I.look;exact PySem.W.method_fn X J (PySem.W.plainGet_of hg).1 (PySem.W.plainGet_of hg).2 hf (beq_iff_eq.mp ht) (by show(PySem.W.lookIn name od).map (·.isSome)=some false;rw[hl,hv];rfl) h
theorem rM{ns:List Str}{Q:Unit->Shared->Prop}(X:K.In s.heap)(I:ObjM s.heap x dx C mA)
 (hs:PySem.W.findIn K (.ref C) "__setattr__"=some (some (.builtin "object.__setattr__"))) (hp:PySem.W.plainOver K C=true) (ht:PySem.W.takerIn K C name=some none) (hh:PySem.W.hasDictIn K C=true)
 (hw:PySem.Within mA ns) (hsz:ns.length<=sizeLine)
 (h:∀h',ObjM h' x dx C (λy=>if y=name then some v else mA y)->Heap.SameBut dx s.heap h'->Q () { s with heap:=h',toks:=s.toks+2 }) :
 wpAny (model prog w) A (setAttr (.ref x) name v) Q E s:=by
 obtain⟨od,J,hl⟩:=I.look;refine PySem.W.set_plain X J hs (PySem.W.osa_open (s:={ s with toks:=s.toks+1 }) (r:=none) X J hp ht λb=>?_);obtain⟨cd,hc,hd'⟩:=PySem.W.any_some hh;have hx:s.heap.get? x=some ⟨.ref C,some dx,.plain,#[]⟩:=I.obj;refine wpAny_bind (wpAny_pure (wpAny_bind (wpAny_bind (wpAny_loadPart hx (wpAny_bind (PySem.W.Looks.here (s:={ s with toks:=s.toks+1 }) (PySem.W.looks_clsIn X hc) ?_))))));rw[hd'];refine wpAny_pure (a:=some dx) (wpAny_bind (wpAny_pure (wpAny_bind ?_)));refine wpAny_nsSet1 (s:={ s with toks:=s.toks+1 }) I.ns λh' hn2 hs2=>?_
 obtain⟨oD,esD,epD,hoD,hdD,hcD⟩:=hn2.count (PySem.Within.cons name v hw);refine wpAny_bind (wpAny_lookBehind hoD (by rw[hdD];exact pastItsLine_dict (Bk hcD (by rw[Bl];omega))) ?_);exact wpAny_pure (h _ ⟨(hs2.2 _ (Ne.symm I.ne)).trans I.obj,hn2,I.ne⟩ hs2)
theorem vM{R:Result->Shared->Prop}{vs:List Value}{kw:List (Str×Value)}(X:K.In s.heap)(hm:PySem.W.makesIn K C=true)
 (hi:PySem.W.findIn K (.ref C) "__init__"=some (some (.ref f))) (hf:PySem.W.typeIn K (.ref f)=some (.type "function"))
 (h:codeAny (model prog w) (A.under (.builtin "type.__call__" ⟨.ref C::vs,kw⟩)) (.call (.ref f) ⟨.ref (s.heap.objs.size+1)::vs,kw⟩) (PySem.W.InitBack (s.heap.objs.size+1) R)
   { s with heap:=(s.heap.push PySem.W.emptyDict).push (PySem.W.instObj C s.heap.objs.size) }) :
 codeAny (model prog w) A (.call (.ref C) ⟨vs,kw⟩) R s:=by
 obtain⟨hh,g,d,t,os⟩:=s;exact PySem.W.make_core (PySem.W.makes_of X hm) (PySem.W.looks_findIn X hi) (λself=>PySem.W.bind_fn X self hf) (.inl rfl) h
end
noncomputable def bf(f:Str)(v:V):List (Str×V)->List (Str×V)
 | []=>[(f,v)]
 | (g,x)::r=>if g=f then(g,v)::r else(g,x)::bf f v r
theorem bP(f g:Str)(v:V):∀fs:List (Str×V),(bf f v fs).lookup g=if g=f then some v else fs.lookup g
 | []=>by
  show List.lookup g [(f,v)]=_;by_cases h:g=f
  ·have hb:(g == f)=true:=beq_iff_eq.mpr h;simp only[List.lookup,hb,if_pos h]
  ·have hb:(g == f)=false:=beq_eq_false_iff_ne.mpr h;simp only[List.lookup,hb,if_neg h]
 | (k,x)::r=>by
  have ih:=bP f g v r;rw[show bf f v ((k,x)::r)=(if k=f then(k,v)::r else(k,x)::bf f v r)from rfl];by_cases hk:k=f
  ·rw[if_pos hk];by_cases h:g=k
   ·have hb:(g == k)=true:=beq_iff_eq.mpr h;simp only[List.lookup,hb,if_pos (h.trans hk)]
   ·have hb:(g == k)=false:=beq_eq_false_iff_ne.mpr h;simp only[List.lookup,hb,if_neg (λe:g=f=>h (e.trans hk.symm))]
  ·rw[if_neg hk];by_cases h:g=k
   ·have hb:(g == k)=true:=beq_iff_eq.mpr h;simp only[List.lookup,hb,if_neg (λe:g=f=>hk (h.symm.trans e))]
   ·have hb:(g == k)=false:=beq_eq_false_iff_ne.mpr h;simp only[List.lookup,hb];exact ih
theorem j9(f:Str)(v:V):∀fs:List (Str×V),f∈(bf f v fs).map (·.1)/\∀g,g∈fs.map (·.1)->g∈(bf f v fs).map (·.1)
 | []=>⟨by simp[bf],λg h=>by simp at h⟩
 | (k,x)::r=>by
  obtain⟨i1,i2⟩:=j9 f v r;rw[show bf f v ((k,x)::r)=(if k=f then(k,v)::r else(k,x)::bf f v r)from rfl];by_cases hk:k=f
  ·rw[if_pos hk];subst hk;exact⟨by simp,λg h=>by simpa using h⟩
  ·rw[if_neg hk];refine⟨?_,λg h=>?_⟩
   ·rw[BU];exact Bj _ i1
   ·rw[BU]at h ⊢;rcases Bb.mp h with e |e
    ·exact Bb.mpr (.inl e)
    ·exact Bj _ (i2 g e)
theorem oi(f:Str)(v:V):∀fs:List (Str×V),(bf f v fs).length<=fs.length+1
 | []=>by simp[bf]
 | (k,x)::r=>by
  have ih:=oi f v r;rw[show bf f v ((k,x)::r)=(if k=f then(k,v)::r else(k,x)::bf f v r)from rfl];by_cases hk:k=f
  ·rw[if_pos hk,Bl,Bl];omega
  ·rw[if_neg hk,Bl,Bl];omega
theorem RelO.some_of{v:V}{o:Option Value}(r:RelO (some v) o):∃u,o=some u/\RelV v u:=by
 cases o with
 |none=>exact(show False from r).elim
 |some u=>exact⟨u,rfl,r⟩
theorem RelO.none_of{o:Option Value}(r:RelO none o):o=none:=by
 cases o with
 |none=>rfl
 |some u=>exact(show False from r).elim
theorem xg{v:V}{u:Value}(r:RelV v u):PySem.W.handedIn u=true:=by
 cases v with
 |non=>cases(show u=Value.none from r);rfl
 |bl b=>cases(show u=Value.bool b from r);rfl
 |int i=>obtain⟨t,e⟩:=(show ∃t,u=Value.int i t from r);cases e;rfl
 |str x=>obtain⟨t,e⟩:=(show ∃t,u=Value.str x t from r);cases e;rfl
 |byt b=>obtain⟨t,e⟩:=(show ∃t,u=Value.bytes b t from r);cases e;rfl
 |flt b=>obtain⟨t,e⟩:=(show ∃t,u=Value.float b t from r);cases e;rfl
 |ref a=>cases(show u=Value.ref a from r);rfl
 |ty n=>cases(show u=Value.type n from r);rfl
section
variable {P:Program}{w:World}{H H':Hp}{h h':Heap}{a C dx:Addr}{fs fs':List (Str×V)}
theorem gS(hok:HOk P w H h)(e:H a=some (.ins C dx fs)):∃mA,ObjM h a dx C mA/\(∀f,RelO (fs.lookup f) (mA f))/\PySem.Within mA (fs.map (·.1))/\fs.length<=1000/\H dx=some (.own a):=by obtain⟨d,z,ne,ob,mA,n,r,q⟩:=(show ObjOk P w H h a (.ins C dx fs)from hok a _ e);exact⟨mA,⟨ob,n,ne⟩,r,q,z,d⟩
end
structure Cls(K:PySem.W.Frag)(C:Addr):Prop where
 pg:PySem.W.plainGet K C Str.empty=true
 hd:PySem.W.hasDictIn K C=true
 po:PySem.W.plainOver K C=true
 sa:PySem.W.findIn K (.ref C) "__setattr__"=some (some (.builtin "object.__setattr__"))
theorem Cls.get{K:PySem.W.Frag}{C:Addr}(c:Cls K C)(f:Str):PySem.W.plainGet K C f=true:=c.pg
def NoAttr(K:PySem.W.Frag)(C:Addr)(f:Str):Prop:=PySem.W.findIn K (.ref C) f=some none
theorem NoAttr.taker{K:PySem.W.Frag}{C:Addr}{f:Str}(n:NoAttr K C f):PySem.W.takerIn K C f=some none:=by unfold PySem.W.takerIn;rw[show PySem.W.findIn K (.ref C) f=some none from n];rfl
structure Meth(K:PySem.W.Frag)(C:Addr)(m:Str)(f:Addr):Prop where
 at_:PySem.W.findIn K (.ref C) m=some (some (.ref f))
 fn:PySem.W.isFn K (.ref f)=true
 kp:PySem.W.keepIn K (.ref f)=true
section
variable {X:Cx}{pins:List (Addr×Obj)}{σ:St}{H:Hp}{s:Shared}{a C dx:Addr}{fs:List (Str×V)}{f:Str}{v:V}{A:Around}{E:Value->Shared->Prop}
theorem xj{b:Bool}{Q:Value->Shared->Prop}(I:Inv X pins σ H s)(e:H a=some (.ins C dx fs))(c:Cls X.K C)(n:NoAttr X.K C f)(l:fs.lookup f=some v)
 (h:∀u s',Inv X pins σ H s'->RelV v u->Q u s'):wpAny (model X.prog X.w) A (getAttr (.ref a) f b) Q E s:=by
 obtain⟨mA,O,r,_,_,_⟩:=gS I.hok e;obtain⟨u,hu,ru⟩:=RelO.some_of (v:=v) (o:=mA f) (by rw[<- l];exact r f);exact xm I.kIn O (c.get f) c.hd n hu (xg ru) (h u _ (I.tok _) ru)
theorem xi{m:Str}{g:Addr}{pl:Sem Bool}{Q:Value×List Value->Shared->Prop}(I:Inv X pins σ H s)(e:H a=some (.ins C dx fs))(c:Cls X.K C)(k:Meth X.K C m g)(l:fs.lookup m=none)
 (h:Q (.ref g,[.ref a]) s):wpAny (model X.prog X.w) A (getMethod (.ref a) m pl) Q E s:=by
 obtain⟨mA,O,r,_,_,_⟩:=gS I.hok e;have hn:mA m=none:=RelO.none_of (by rw[<- l];exact r m);exact xk I.kIn O (c.get m) k.at_ k.fn hn h
theorem rL{y:V}{u:Value}{Q:Unit->Shared->Prop}(I:Inv X pins σ H s)(e:H a=some (.ins C dx fs))(c:Cls X.K C)(n:NoAttr X.K C f)(hl:fs.length<1000)(ry:RelV y u)
 (h:∀s',Inv X pins σ (upd H a (.ins C dx (bf f y fs))) s'->Q () s'):wpAny (model X.prog X.w) A (setAttr (.ref a) f u) Q E s:=by
 obtain⟨mA,O,r,wi,_,ho⟩:=gS I.hok e;have hz:(fs.map (·.1)).length<=sizeLine:=by rw[A4,sizeLine_eq];omega
 refine rM I.kIn O c.sa c.po n.taker c.hd wi hz λh' O' sb=>h _ ?_
 have hd:∃o,h'.get? dx=some o:=let⟨o,_,_,e',_⟩:=O'.ns;⟨o,e'⟩;refine I.write (x:=a) (e:=dx) (by rw[e];exact True.intro) (.inr ho) (λb q hb z=>(sb.2 b hb).trans z) hd ?_;refine⟨by rw[upd_ne O.ne];exact ho,?_,O.ne,O'.obj,_,O'.ns,λg=>?_,λg hg=>?_⟩
 ·have:=oi f y fs;omega
 ·show RelO ((bf f y fs).lookup g) (if g=f then some u else mA g);rw[bP];by_cases q:g=f
  ·rw[if_pos q,if_pos q];exact ry
  ·rw[if_neg q,if_neg q];exact r g
 ·by_cases q:g=f
  ·rw[q];exact(j9 f y fs).1
  ·refine(j9 f y fs).2 g (wi g λz=>hg ?_);show(if g=f then some u else mA g)=none;rw[if_neg q];exact z
theorem Inv.made(I:Inv X pins σ H s):Inv X pins σ (upd (upd H s.heap.objs.size (.own (s.heap.objs.size+1))) (s.heap.objs.size+1) (.ins C s.heap.objs.size []))
 { s with heap:=(s.heap.push PySem.W.emptyDict).push (PySem.W.instObj C s.heap.objs.size) }:=by
 have e1:(s.heap.push PySem.W.emptyDict).get? s.heap.objs.size=some PySem.W.emptyDict:=Heap.get?_push_size s.heap rfl
 have e2:((s.heap.push PySem.W.emptyDict).push (PySem.W.instObj C s.heap.objs.size)).get? (s.heap.objs.size+1)=some (PySem.W.instObj C s.heap.objs.size):=by
  have:=Heap.get?_push_size (s.heap.push PySem.W.emptyDict) (o:=PySem.W.instObj C s.heap.objs.size) rfl
  rwa [Heap.size_push]at this
 have e3:(s.heap.push PySem.W.emptyDict).Ns s.heap.objs.size (λ_=>none):=⟨PySem.W.emptyDict,#[],_,e1,rfl,(λe he=>absurd he (by simp)),λ_=>rfl⟩;have I1:=I.laid (a:=s.heap.objs.size) (o:=.own (s.heap.objs.size+1)) (h':=s.heap.push PySem.W.emptyDict) (t':=s.toks) (λb u q=>Heap.get?_push_of_some _ q) (A5 _) ⟨_,e1⟩;refine I1.laid (a:=s.heap.objs.size+1) (o:=.ins C s.heap.objs.size []) (t':=s.toks) (λb u q=>Heap.get?_push_of_some _ q) (BK (Heap.size_push _ _)) ?_;have ne:s.heap.objs.size≠s.heap.objs.size+1:=Be (BL _);refine⟨by rw[upd_ne ne,ah],A8 _,ne,e2,λ_=>none,(Heap.Ns1.of_empty e3).at λo q=>Heap.get?_push_of_some _ q,λ_=>True.intro,λy hy=>absurd rfl hy⟩
theorem yE{prog:Program}{w:World}{env:Env}{e:Expr}{f:Str}{pos:Pos}{s:Shared}{Q:Value->Shared->Prop}(hb:attributeBase e f env (eval e env)=eval e env)
 (h:wpAny (model prog w) A (eval e env) (λo s₁=>wpAny (model prog w) A (getAttr o f true) Q E s₁) E s):wpAny (model prog w) A (eval (.Attribute e f pos) env) Q E s :=
 Attribute_any_ h (by rw[arm_eval_Attribute,hb])
end
def iu(K:PySem.W.Frag)(ta:TE)(f:Str):TE:=λσ H Q=>ta σ H λx H1=>∃a C dx fs v,x=.ref a/\H1 a=some (.ins C dx fs)/\Cls K C/\NoAttr K C f/\fs.lookup f=some v/\Q v H1
def sj(K:PySem.W.Frag)(ta tv:TE)(f:Str):TS:=λD σ H=>tv σ H λy H1=>ta σ H1 λx H2=>∃a C dx fs,x=.ref a/\H2 a=some (.ins C dx fs)/\Cls K C/\NoAttr K C f/\fs.length<1000 /\
 D.nx σ (upd H2 a (.ins C dx (bf f y fs)))
section
variable {X:Cx}{o e value:Expr}{f:Str}{pos pos' tpos:Pos}{ta tv:TE}
theorem tK(he:PE X e ta)(hb:attributeBase e f X.env (eval e X.env)=eval e X.env):PE X (.Attribute e f pos) (iu X.K ta f):=by intro pins s σ H Q I h;refine yE hb (thn (he pins s σ H _ I h) λu s1 ⟨x,H1,I1,rx,a,C,dx,fs,v,ex,ea,c,n,l,q⟩=>?_);subst ex;obtain rfl:u=Value.ref a:=rx;exact xj I1 ea c n l λu' s2 I2 ru=>⟨v,H1,I2,ru,q⟩
theorem fh(ha:PE X o ta)(hv:PE X value tv)(hs:swapsWith value (some (.Attribute o f pos')) pos.line X.env=pure false):PS X (.Assign [.Attribute o f pos'] value pos) (sj X.K ta tv f):=by intro pins s σ H D I h;refine plainObj_wpAny_Assign_Attribute (thn (hv pins s σ H _ I h) λu s1 ⟨y,H1,I1,ry,q⟩=>thn (ha pins s1 σ H1 _ I1 q) λov s2 ⟨x,H2,I2,rx,a,C,dx,fs,ex,ea,c,n,l,q2⟩=>?_) hs;subst ex;obtain rfl:ov=Value.ref a:=rx;exact rL I2 ea c n l ry λs3 I3=>⟨σ,_,I3,q2⟩
end
section
variable {X:Cx}{pins:List (Addr×Obj)}{σ:St}{H:Hp}{s:Shared}{A:Around}{E:Value->Shared->Prop}{Q:Value->Shared->Prop}{c:Value}{b:Bool}
inductive TyOf(K:PySem.W.Frag)(H:Hp):V->Value->Prop where
 |non:TyOf K H .non (.type "NoneType")
 |bl (x:Bool):TyOf K H (.bl x) (.type "bool")
 |int (i:Int):TyOf K H (.int i) (.type "int")
 |str (x:Str):TyOf K H (.str x) (.type "str")
 |flt (x:UInt64):TyOf K H (.flt x) (.type "float")
 |lst {a:Addr} {xs:List V} (e:H a=some (.lst xs)):TyOf K H (.ref a) (.type "list")
 |frz {a:Addr} {o:Obj} {xs:List V} (e:H a=some (.frz o (.lst xs))):TyOf K H (.ref a) (.type "list")
 |tup {a:Addr} {xs:List V} (e:H a=some (.tup xs)):TyOf K H (.ref a) (.type "tuple")
 |dK {a:Addr} {kvs:List (Key×V)} (e:H a=some (.dK kvs)):TyOf K H (.ref a) (.type "dict")
 |dT {a:Addr} {kvs:List (List Key×V)} (e:H a=some (.dT kvs)):TyOf K H (.ref a) (.type "dict")
 |ins {a C dx:Addr} {fs:List (Str×V)} (e:H a=some (.ins C dx fs)) (cl:Cls K C) (ha:PySem.W.findIn K (.ref C) "__class__"=some (some (.builtin "object.__class__")))
  (hn:PySem.W.specialIn K (.builtin "object.__class__") "__get__"=some (some (.builtin "getset_descriptor.__get__"))) (htk:PySem.W.takesIn K (.builtin "object.__class__")=some true)
  (hm:PySem.W.mroIn K C (.type "object")=some true):TyOf K H (.ref a) (.ref C)
theorem wS{x:V}{u t:Value}(I:Inv X pins σ H s)(rx:RelV x u)(ty:TyOf X.K H x t)(e:PySem.W.kitOne X.K t c=some b)(h:∀tk,Q (.bool b) { s with toks:=tk }) :
 wpAny (model X.prog X.w) A (call (.builtin "isinstance") [u,c]) Q E s:=by
 cases ty with
 |non=>cases(show u=Value.none from rx);exact PySem.W.kia_one PySem.W.kitx_none I.kIn True.intro e (λz=>nomatch z) h
 |bl y=>cases(show u=Value.bool y from rx);exact PySem.W.kia_one PySem.W.kitx_bool I.kIn True.intro e (λz=>nomatch z) h
 |int i=>obtain⟨t,q⟩:=(show ∃t,u=Value.int i t from rx);cases q;exact PySem.W.kia_one PySem.W.kitx_int I.kIn True.intro e (λz=>nomatch z) h
 |str y=>obtain⟨t,q⟩:=(show ∃t,u=Value.str y t from rx);cases q;exact PySem.W.kia_one PySem.W.kitx_str I.kIn True.intro e (λz=>nomatch z) h
 |flt y=>obtain⟨t,q⟩:=(show ∃t,u=Value.float y t from rx);cases q;exact PySem.W.kia_one PySem.W.kitx_float I.kIn True.intro e (λz=>nomatch z) h
 | @lst a xs ea =>cases(show u=Value.ref a from rx);obtain⟨_,_,n,_,h1⟩:=(show ObjOk X.prog X.w H s.heap a (.lst xs)from I.hok a _ ea);exact PySem.W.kia_one PySem.W.kitx_list I.kIn ⟨_,h1,rfl⟩ e (λz=>nomatch z) h
 | @frz a ob xs ea =>cases(show u=Value.ref a from rx);obtain⟨_,_,_,n,_,h1⟩:=(show ObjOk X.prog X.w H s.heap a (.frz ob (.lst xs))from I.hok a _ ea);exact PySem.W.kia_one PySem.W.kitx_list I.kIn ⟨_,h1,rfl⟩ e (λz=>nomatch z) h
 | @tup a xs ea =>cases(show u=Value.ref a from rx);obtain⟨_,_,_,p⟩:=(show ObjOk X.prog X.w H s.heap a (.tup xs)from I.hok a _ ea);obtain⟨o,h1,h2,_⟩:=p;exact PySem.W.kia_one PySem.W.kitx_tuple I.kIn ⟨o,h1,h2⟩ e (λz=>nomatch z) h
 | @dK a kvs ea =>cases(show u=Value.ref a from rx);obtain⟨_,_,vs,_,p⟩:=(show ObjOk X.prog X.w H s.heap a (.dK kvs)from I.hok a _ ea);obtain⟨o,es,ep,h1,h2,_⟩:=p;exact PySem.W.kia_one PySem.W.kitx_dict I.kIn ⟨o,h1,h2.1⟩ e (λz=>nomatch z) h
 | @dT a kvs ea =>cases(show u=Value.ref a from rx);obtain⟨_,_,xs,_,o,es,ep,h1,h2,_⟩:=(show ObjOk X.prog X.w H s.heap a (.dT kvs)from I.hok a _ ea);exact PySem.W.kia_one PySem.W.kitx_dict I.kIn ⟨o,h1,h2.1⟩ e (λz=>nomatch z) h
 | @ins a C dx fs ea cl ha hn htk hm =>cases(show u=Value.ref a from rx);obtain⟨mA,O,_⟩:=gS I.hok ea;obtain⟨od,J,_⟩:=O.look;exact PySem.W.kia_one (PySem.W.kitx_own (cl.get _) cl.hd ha hn htk hm) I.kIn J e (λz=>nomatch z) h
end
structure Room(k:Nat)(A:Around):Prop where
 hd:A.handled=none
 dp:A.depth+3*k+5<recursionLimit
 un:A.units+16*k+200<cLine
theorem Room.mono{j k:Nat}{A:Around}(r:Room k A)(h:j<=k:=by decide):Room j A:=⟨r.hd,by have:=r.dp;omega,by have:=r.un;omega⟩
theorem Room.deeper{k:Nat}{A:Around}(r:Room (k+1) A)(env:Env):Room k (A.deeper env) :=
 ⟨r.hd,by have:=r.dp;show A.depth+1+3*k+5<_;omega,by have:=r.un;show A.units+3+16*k+200<_;omega⟩
theorem Room.in1{k:Nat}{A:Around}(r:Room (k+1) A):Room k A.in1 :=
 ⟨r.hd,by have:=r.dp;show A.depth+3*k+5<_;omega,by have:=r.un;show A.units+1+16*k+200<_;omega⟩
theorem vN{A:Around}{C:Addr}{us:List Value}{kw:List (Str×Value)}:(A.under (.builtin "type.__call__" ⟨.ref C::us,kw⟩)).depth=A.depth+1:=by first |rfl |simp[Around.under,Code.weight,Code.isCreation,Code.isGuard,Code.isCaller,Code.frames,Code.isFrame,guardIds]
theorem vL{A:Around}{C:Addr}{us:List Value}{kw:List (Str×Value)}:(A.under (.builtin "type.__call__" ⟨.ref C::us,kw⟩)).units=A.units+1:=by first |rfl |simp[Around.under,Code.cUnits,Code.frames,Code.isFrame]
theorem Room.make{k:Nat}{A:Around}(r:Room (k+1) A)(C:Addr)(us:List Value)(kw:List (Str×Value)):Room k (A.under (.builtin "type.__call__" ⟨.ref C::us,kw⟩)) :=
 ⟨r.hd,by have:=r.dp;rw[vN];omega,by have:=r.un;rw[vL];omega⟩
theorem Room.depth{k:Nat}{A:Around}(r:Room k A):A.depth<recursionLimit:=by have:=r.dp;omega
theorem Room.units{k:Nat}{A:Around}(r:Room k A):A.units+64<cLine:=by have:=r.un;omega
def dU:TA:=λ_ H Q=>Q [] H
def b9(ta:TE)(tr:TA):TA:=λσ H Q=>ta σ H λx H1=>tr σ H1 λxs H2=>Q (x::xs) H2
section
variable {X:Cx}{e:Expr}{es:List Expr}{te:TE}{t:TA}{pos:Pos}
theorem ac:PA X [] dU:=λ_ _ _ _ H Q I h=>Calls.spliced_nil ⟨[],H,I,.nil,h⟩
theorem aa(ha:PE X e te)(hr:PA X es t)(hs:starEach (e::es) X.env=(false,eval e X.env)::starEach es X.env:=by rfl):PA X (e::es) (b9 te t):=by intro pos pins s σ H Q I h;rw[hs];show wpAny _ _ (spliced ((false,eval e X.env)::backTo pos (starEach es X.env))) _ _ s;refine Calls.spliced_cons (thn (ha pins s σ H _ I h) λu s1 ⟨x,H1,I1,r1,q1⟩=>?_);exact thn (hr pos pins s1 σ H1 _ I1 q1) λus s2 ⟨xs,H2,I2,r2,q2⟩=>⟨x::xs,H2,I2,.cons r1 r2,q2⟩
def lK(t:TA):TE:=λσ H Q=>t σ H λxs H1=>xs.length<=sizeLine/\∀p,H1 p=none->Q (.ref p) (upd H1 p (.tup xs))
def lN(t:TA):TE:=λσ H Q=>t σ H λxs H1=>xs.length<=sizeLine/\∀p,H1 p=none->Q (.ref p) (upd H1 p (.lst xs))
theorem aR{x1}(h:PA X es t):PE X (.Tuple es x1 pos) (lK t):=by intro pins s σ H Q I hq;refine wpAny_Tuple_spliced (thn (h pos pins s σ H _ I hq) λus s1 ⟨xs,H1,I1,r,z,q⟩=>⟨by rw[<- r.length];exact z,?_⟩);have hf:H1 s1.heap.objs.size=none:=I1.hok.fresh (A5 _);refine⟨.ref s1.heap.objs.size,upd H1 s1.heap.objs.size (.tup xs),I1.laid (t':=s1.toks) (λb u e=>Heap.get?_push_of_some _ e) (A5 _) ?_,rfl,q _ hf⟩;exact⟨z,us,r,⟨_,Heap.get?_push_size _ rfl,rfl,_,rfl⟩⟩
theorem aJ(h:PA X es t):PE X (.List es pos) (lN t):=by intro pins s σ H Q I hq;refine wpAny_List_spliced (thn (h pos pins s σ H _ I hq) λus s1 ⟨xs,H1,I1,r,z,q⟩=>⟨by rw[<- r.length];exact z,?_⟩);have hf:H1 s1.heap.objs.size=none:=I1.hok.fresh (A5 _);refine⟨.ref s1.heap.objs.size,upd H1 s1.heap.objs.size (.lst xs),I1.laid (t':=s1.toks) (λb u e=>Heap.get?_push_of_some _ e) (A5 _) ?_,rfl,q _ hf⟩;exact⟨z,us,0,r,Heap.get?_push_size _ rfl⟩
end
abbrev Sp:=List V->Hp->VK->XK->Prop
abbrev CXT:=List Env->Hp->Shared->XK->Value->Shared->Prop
structure Env0(P:Program)(w:World)(K:PySem.W.Frag)(mg:Str->Option Value)(base:Heap)(A:Around)(outer:List Env)(s:Shared)(H:Hp):Prop where
 frames:A.frames=some outer
 mod:Mod K mg base
 bs:∀b o,base.get? b=some o->s.heap.get? b=some o/\H b=none
 bsz:base.objs.size<=s.heap.objs.size
 funs:s.heap.FunFrames base outer
 frf:∀b∈frs outer,H b=none
 hok:HOk P w H s.heap
 bare:AllBare s.gens
noncomputable def CE(outer:List Env)(P:Program)(w:World)(H:Hp)(s:Shared)(Q:VK)(u:Value)(s':Shared):Prop :=
 ∃v H',s'.os=s.os/\AllBare s'.gens/\Un (frs outer) [] H H' s.heap s'.heap/\HOk P w H' s'.heap/\RelV v u/\Q v H'
noncomputable def CR(CX:CXT)(outer:List Env)(P:Program)(w:World)(H:Hp)(s:Shared)(Q:VK)(E:XK)(r:Result)(s':Shared):Prop :=
 match r with
 |.ok (.ret u)=>CE outer P w H s Q u s'
 |.ok _=>False
 |.error e=>CX outer H s E e s'
structure FnOk(P:Program)(w:World)(K:PySem.W.Frag)(mg:Str->Option Value)(base:Heap)(CX:CXT)(k:Nat)(f:Addr)(fd:FuncData)(ps:List Str)(sp:Sp):Prop where
 len:∀vs H Q E,sp vs H Q E->vs.length=ps.length
 run:∀(A:Around) (outer:List Env) (s:Shared) (H:Hp) (args:Args) (us:List Value) (vs:List V) (Q:VK) (E:XK),Room k A->Env0 P w K mg base A outer s H->BindsTo s fd args (ps.zip us)->Vals vs us->sp vs H Q E ->
  codeAny (model P w) A (.call (.ref f) args) (CR CX outer P w H s Q E) s
theorem FnOk.mono{P:Program}{w:World}{K:PySem.W.Frag}{mg:Str->Option Value}{base:Heap}{CX:CXT}{j k:Nat}{f:Addr}{fd:FuncData}{ps:List Str}{sp:Sp}(F:FnOk P w K mg base CX j f fd ps sp)(h:j<=k:=by decide) :
 FnOk P w K mg base CX k f fd ps sp:=⟨F.len,λA outer s H args us vs Q E hr=>F.run A outer s H args us vs Q E (hr.mono h)⟩
theorem Env0.make{P:Program}{w:World}{K:PySem.W.Frag}{mg:Str->Option Value}{base:Heap}{A:Around}{outer:List Env}{s:Shared}{H:Hp}(e:Env0 P w K mg base A outer s H)(C:Addr)(us:List Value)(kw:List (Str×Value)) :
 Env0 P w K mg base (A.under (.builtin "type.__call__" ⟨.ref C::us,kw⟩)) outer s H:=⟨by first |exact e.frames | (simpa[Around.under,Code.envs,Code.isFrame,pushEnvs]using e.frames),e.mod,e.bs,e.bsz,e.funs,e.frf,e.hok,e.bare⟩
section
variable {X:Cx}{pins:List (Addr×Obj)}{σ:St}{H:Hp}{s s':Shared}
theorem Inv.env0(I:Inv X pins σ H s):Env0 X.prog X.w X.K X.mg X.base X.A X.stack s H :=
 ⟨I.ok.frames,I.ok.mod,I.bs,Bk I.ok.bsz I.sz,I.stack,I.stkFree,I.hok,I.bare⟩
theorem Inv.after{Q:VK}{u:Value}(I:Inv X pins σ H s)(h:CE X.stack X.prog X.w H s Q u s'):EP X pins σ Q u s':=by obtain⟨v,H',os,bare,un,hok,r,q⟩:=h;obtain⟨hh,g,d,t,os'⟩:=s';obtain rfl:os'=s.os:=os;exact⟨v,H',I.call (h':=hh) (g':=g) (d':=d) (t':=t) (ch:=[]) un hok bare (λb z=>absurd z (by simp)),r,q⟩
end
def ix(sp:Sp)(dvs:List V)(E:XK)(t:TA):TE:=λσ H Q=>t σ H λvs H1=>sp (vs++dvs) H1 Q E
def rd(C:Addr)(m:Str)(sp:Sp)(dvs:List V)(E:XK)(ta:TE)(t:TA):TE:=λσ H Q=>ta σ H λx H1=>∃a dx fs,x=.ref a/\H1 a=some (.ins C dx fs)/\fs.lookup m=none /\
 t σ H1 λvs H2=>sp (x::(vs++dvs)) H2 Q E
def re(C:Addr)(sp:Sp)(dvs:List V)(E:XK)(t:TA):TE:=λσ H Q=>t σ H λvs H1=>∀x dx,H1 x=none->H1 dx=none->dx≠x ->
 sp (.ref x::(vs++dvs)) (upd (upd H1 dx (.own x)) x (.ins C dx [])) (λv H2=>v=.non/\Q (.ref x) H2) E
noncomputable def Binds(K:PySem.W.Frag)(fd:FuncData)(ps:List Str)(ds:List Value):Prop :=
 ∀(s:Shared) (us:List Value),K.In s.heap->(us++ds).length=ps.length->BindsTo s fd ⟨us,[]⟩ (ps.zip (us++ds))
theorem Binds.all{K:PySem.W.Frag}{fd:FuncData}{ps:List Str}(h:∀us:List Value,us.length=ps.length->bindArgs fd ⟨us,[]⟩=pure (ps.zip us)):Binds K fd ps []:=λs us _ hl=>by rw[List.append_nil]at hl ⊢;exact .of_eq (h us hl)
def eV(CX:CXT)(X:Cx)(E:XK):Prop:=∀(pins:List (Addr×Obj)) (σ:St) (H:Hp) (s:Shared) (e:Value) (s':Shared),Inv X pins σ H s->CX X.stack H s E e s'->X.xe e s'
section
variable {X:Cx}{CX:CXT}{k:Nat}{f C:Addr}{fd:FuncData}{ps:List Str}{sp:Sp}{dvs:List V}{ds:List Value}{E:XK}{x m:Str}{p pos apos:Pos}{e o:Expr}{es:List Expr}{ta:TE}{t:TA}
theorem mR{pins:List (Addr×Obj)}{σ:St}{H:Hp}{s:Shared}{Q:VK}{us:List Value}{vs:List V}(F:FnOk X.prog X.w X.K X.mg X.base CX k f fd ps sp)(hr:Room k X.A)(hb:Binds X.K fd ps ds)(hd:Vals dvs ds)(hx:eV CX X E)
 (I:Inv X pins σ H s) (r:Vals vs us) (h:sp (vs++dvs) H Q E):wpAny (model X.prog X.w) X.A (call (.ref f) us) (EP X pins σ Q) X.xe s:=by
 have r2:Vals (vs++dvs) (us++ds):=r.append hd;have hl:(us++ds).length=ps.length:=by rw[<- r2.length];exact F.len _ _ _ _ h
 refine wpAny_call (codeAny_mono (F.run X.A X.stack s H ⟨us,[]⟩ (us++ds) (vs++dvs) Q E hr I.env0 (hb s us I.kIn hl) r2 h) λr s' hq=>?_);cases r with
 |error e=>exact hx pins σ H s e s' I hq
 |ok fl =>
  cases fl with
  |ret u=>exact I.after hq
  |next=>exact False.elim hq
  |brk=>exact False.elim hq
  |cont=>exact False.elim hq
theorem am(F:FnOk X.prog X.w X.K X.mg X.base CX k f fd ps sp)(hr:Room k X.A)(hg:Gl X x)(hm:X.mg x=some (.ref f))(hk:PySem.W.keepIn X.K (.ref f)=true)(hb:Binds X.K fd ps ds)(hd:Vals dvs ds)(hx:eV CX X E)
 (ha:PA X (e::es) t) (hdb:(x == ("__debug__":Str))=false:=by decide) (he:starEach (e::es) X.env=(false,eval e X.env)::starEach es X.env:=by rfl) (hpl:(backTo pos (starEach es X.env)).any (·.1)=false:=by rfl) :
 PE X (.Call (.Name x p) (e::es) [] pos) (ix sp dvs E t):=by
 intro pins s σ H Q I h;refine wpAny_Call_Name_kw (om I hg hm ?_ hdb);refine PySem.W.callWith_K (h₀:=X.base) I.ok.mod.kin hk (thn (ha pos pins s σ H _ I h) λus s1 ⟨vs,H1,I1,r,q⟩=>⟨I1.kIn,?_⟩) he hpl;exact mR F hr hb hd hx I1 r q
theorem fj{pl:Sem Bool}(he:PE X o ta)(c:Cls X.K C)(hm:Meth X.K C m f)(F:FnOk X.prog X.w X.K X.mg X.base CX k f fd ps sp)(hr:Room k X.A)(hb:Binds X.K fd ps ds)(hd:Vals dvs ds)(hx:eV CX X E)(ha:PA X (e::es) t)
 (hst:starEach (e::es) X.env=(false,eval e X.env)::starEach es X.env:=by rfl) (hpl:(backTo pos (starEach es X.env)).any (·.1)=false:=by rfl)
 (ht:eval (.Call (.Attribute o m apos) (e::es) [] pos) X.env=(do
   let ov <- eval o X.env
   standAt apos.atName
   let(f,first) <- holding [ov] (getMethod ov m pl)
   callWith pos f first (backTo pos (starEach (e::es) X.env)) (backToKw pos (keywordEach [] X.env))):=by rfl) :
 PE X (.Call (.Attribute o m apos) (e::es) [] pos) (rd C m sp dvs E ta t):=by
 intro pins s σ H Q I h;refine PySem.W.methodCall_KW (pl:=pl) (thn (he pins s σ H _ I h) λu s1 ⟨x,H1,I1,rx,a,dx,fs,ex,ea,l,q⟩=>?_) ht;subst ex;obtain rfl:u=Value.ref a:=rx;refine xi I1 ea c hm l ?_;refine PySem.W.callWith_K (first:=[.ref a]) (h₀:=X.base) I.ok.mod.kin hm.kp (thn (ha pos pins s1 σ H1 _ I1 q) λus s2 ⟨vs,H2,I2,r,q2⟩=>⟨I2.kIn,?_⟩) hst hpl;exact mR (us:=.ref a::us) (vs:=.ref a::vs) F hr hb hd hx I2 (.cons rfl r) q2
structure Mk(K:PySem.W.Frag)(C f:Addr):Prop where
 makes:PySem.W.makesIn K C=true
 init:PySem.W.findIn K (.ref C) "__init__"=some (some (.ref f))
 fn:PySem.W.isFn K (.ref f)=true
 kp:PySem.W.keepIn K (.ref C)=true
theorem sn{pins:List (Addr×Obj)}{σ:St}{H:Hp}{s:Shared}{Q:VK}{us:List Value}{vs:List V}(M:Mk X.K C f)(F:FnOk X.prog X.w X.K X.mg X.base CX k f fd ps sp)(hr:Room (k+1) X.A)(hb:Binds X.K fd ps ds)(hd:Vals dvs ds)
 (hx:eV CX X E) (I:Inv X pins σ H s) (r:Vals vs us)
 (h:∀x dx,H x=none->H dx=none->dx≠x->sp (.ref x::(vs++dvs)) (upd (upd H dx (.own x)) x (.ins C dx [])) (λv H2=>v=.non/\Q (.ref x) H2) E) :
 wpAny (model X.prog X.w) X.A (call (.ref C) us) (EP X pins σ Q) X.xe s:=by
 have hq:=h (s.heap.objs.size+1) s.heap.objs.size (I.hok.fresh (Nat.le_succ _)) (I.hok.fresh (A5 _)) (Be (BL _));have I2:=Inv.made (C:=C) I;have r2:Vals (V.ref (s.heap.objs.size+1)::(vs++dvs)) (Value.ref (s.heap.objs.size+1)::(us++ds)):=.cons rfl (r.append hd)
 have hl:(Value.ref (s.heap.objs.size+1)::us++ds).length=ps.length:=by have e:=r2.length;rw[F.len _ _ _ _ hq]at e;exact e.symm
 refine wpAny_call (vM (f:=f) I.kIn M.makes M.init (beq_iff_eq.mp M.fn) (codeAny_mono (F.run _ X.stack _ _ ⟨Value.ref (s.heap.objs.size+1)::us,[]⟩ (Value.ref (s.heap.objs.size+1)::(us++ds)) _ _ E (hr.make C us [])
  (I2.env0.make C us []) (hb _ (Value.ref (s.heap.objs.size+1)::us) I2.kIn hl) r2 hq) λr s' hq'=>?_))
 cases r with
 |error e=>exact hx pins σ _ _ e s' I2 hq'
 |ok fl =>
  cases fl with
  |ret u =>obtain⟨v,H',I3,rv,ev,q3⟩:=I2.after hq';subst ev;exact⟨rv,⟨V.ref (s.heap.objs.size+1),H',I3,rfl,q3⟩⟩
  |next=>exact False.elim hq'
  |brk=>exact False.elim hq'
  |cont=>exact False.elim hq'
theorem dj(M:Mk X.K C f)(F:FnOk X.prog X.w X.K X.mg X.base CX k f fd ps sp)(hr:Room (k+1) X.A)(hg:Gl X x)(hm:X.mg x=some (.ref C))(hb:Binds X.K fd ps ds)(hd:Vals dvs ds)(hx:eV CX X E)
 (ha:PA X (e::es) t) (hdb:(x == ("__debug__":Str))=false:=by decide) (he:starEach (e::es) X.env=(false,eval e X.env)::starEach es X.env:=by rfl) (hpl:(backTo pos (starEach es X.env)).any (·.1)=false:=by rfl) :
 PE X (.Call (.Name x p) (e::es) [] pos) (re C sp dvs E t):=by
 intro pins s σ H Q I h;refine wpAny_Call_Name_kw (om I hg hm ?_ hdb);refine PySem.W.callWith_K (h₀:=X.base) I.ok.mod.kin M.kp (thn (ha pos pins s σ H _ I h) λus s1 ⟨vs,H1,I1,r,q⟩=>⟨I1.kIn,?_⟩) he hpl;exact sn M F hr hb hd hx I1 r q
end
section
variable {X:Cx}{CX:CXT}{k:Nat}{f C:Addr}{fd:FuncData}{ps ks:List Str}{sp:Sp}{E:XK}{x m:Str}{p pos apos kpos:Pos}{e o:Expr}{es:List Expr}{kws:List Keyword}{te ta:TE}{t tk:TA}{nm:Option Str}
variable {g:List Value->List Value->List Value}{gV:List V->List V->List V}
end
structure FnScope(N P:List Str)(sc:Scope):Prop where
 kind:sc.kind=.function
 co:sc.isCoroutine=false
 gen:sc.isGenerator=false
 nd:N.Nodup
 pre:N.take P.length=P
 par:∀x∈P,sc.names.lookup x=some .local\/sc.names.lookup x=some .cell
 nofree:∀y∈sc.names,y.2≠.free
theorem pY{kindOf:Str->Option NameKind}{x:Str}:∀{binds:List (Str×Value)} {m:Str->Option Value},(∀v,(x,v)∉binds)->bindL kindOf binds m x=m x
 | [],_,_=>rfl
 | (n,v)::r,m,h=>by
  unfold bindL;rw[pY λw hw=>h w (Bj _ hw)];split
  ·have:x≠n:=by rintro rfl;exact h v Br
   simp[this]
  ·rfl
theorem p5{kindOf:Str->Option NameKind}{x:Str}:∀{binds:List (Str×Value)} {m:Str->Option Value},(∀v,(x,v)∉binds)->bindC kindOf binds m x=m x
 | [],_,_=>rfl
 | (n,v)::r,m,h=>by
  unfold bindC;rw[p5 λw hw=>h w (Bj _ hw)];split
  ·rfl
  ·have:x≠n:=by rintro rfl;exact h v Br
   simp[this]
theorem pZ{kindOf:Str->Option NameKind}{x:Str}{v:Value}:∀{P:List Str} {vs:List Value} {i:Nat} {m:Str->Option Value},P.Nodup->P[i]?=some x->vs[i]?=some v->kindOf x=some .local ->
 bindL kindOf (P.zip vs) m x=some v
 | [],_,_,_,_,h,_,_=>by simp at h
 |_::_,[],_,_,_,_,h,_=>by simp at h
 |p::P,w::vs,0,m,nd,h1,h2,hk=>by
  simp at h1 h2;subst h1;subst h2
  show bindL kindOf ((p,w)::P.zip vs) m p=_;unfold bindL;rw[pY λv hv=>(B7.mp nd).1 (List.of_mem_zip hv).1,if_pos hk];simp
 |p::P,w::vs,i+1,m,nd,h1,h2,hk=>by show bindL kindOf ((p,w)::P.zip vs) m x=_;unfold bindL;exact pZ (i:=i) (B7.mp nd).2 (by simpa using h1) (by simpa using h2) hk
theorem p6{kindOf:Str->Option NameKind}{x:Str}{v:Value}:∀{P:List Str} {vs:List Value} {i:Nat} {m:Str->Option Value},P.Nodup->P[i]?=some x->vs[i]?=some v->kindOf x≠some .local ->
 bindC kindOf (P.zip vs) m x=some v
 | [],_,_,_,_,h,_,_=>by simp at h
 |_::_,[],_,_,_,_,h,_=>by simp at h
 |p::P,w::vs,0,m,nd,h1,h2,hk=>by
  simp at h1 h2;subst h1;subst h2
  show bindC kindOf ((p,w)::P.zip vs) m p=_;unfold bindC;rw[p5 λv hv=>(B7.mp nd).1 (List.of_mem_zip hv).1,if_neg hk];simp
 |p::P,w::vs,i+1,m,nd,h1,h2,hk=>by show bindC kindOf ((p,w)::P.zip vs) m x=_;unfold bindC;exact p6 (i:=i) (B7.mp nd).2 (by simpa using h1) (by simpa using h2) hk
noncomputable def cB(N:List Str)(vs:List V):St:=vs.map some++List.replicate (N.length-vs.length) none
noncomputable def dG(CX:CXT)(P:Program)(w:World)(K:PySem.W.Frag)(mg:Str->Option Value)(base:Heap)(N:List Str)(qual:Str)(scope:Scope)(f:Addr)(cd:Value)(A:Around)(outer:List Env)(s:Shared)(H:Hp)(E:XK):Cx where
 prog:=P
 w:=w
 K:=K
 mg:=mg
 base:=base
 A:=A.deeper (envOfC qual scope s.heap.objs.size f cd)
 N:=N
 s₀:=s
 H₀:=H
 env:=envOfC qual scope s.heap.objs.size f cd
 outer:=outer
 stack:=envOfC qual scope s.heap.objs.size f cd::outer
 ex:=[]
 calm:=true
 fn:=λ_=>true
 pn:=[]
 xe:=λe s'=>wpAny (model P w) (A.deeper (envOfC qual scope s.heap.objs.size f cd)) (leaving (envOfC qual scope s.heap.objs.size f cd) e) (λ_ s''=>CX outer H s E e s'') (λe' s''=>CX outer H s E e' s'') s'
theorem pV{sc:Scope}{n:Nat}{x:Str}(h:sc.names.lookup x=some .cell):∃c,(cellsFrom n sc.names []).lookup x=some c:=by have q:=PySem.W.cellsFrom_some sc.names n [] (.inl h);exact Option.isSome_iff_exists.mp q
theorem wU{CX:CXT}{P:Program}{w:World}{K:PySem.W.Frag}{mg:Str->Option Value}{base:Heap}{N ps:List Str}{qual:Str}{scope:Scope}{f:Addr}{cd:Value}{A:Around}{outer:List Env}{s s1:Shared}{H:Hp}{E:XK}{us:List Value}{vs:List V}
 (S:FnScope N ps scope) (hd:A.handled=none) (e0:Env0 P w K mg base A outer s H) (hl:vs.length=ps.length) (r:Vals vs us)
 (x:InCallC s s.heap.objs.size (bindL (envOfC qual scope s.heap.objs.size f cd).kindOf (ps.zip us) λ_=>none) (cellsFrom (s.heap.objs.size+1) scope.names []) (bindC (envOfC qual scope s.heap.objs.size f cd).kindOf (ps.zip us) λ_=>none) s1) :
 Inv (dG CX P w K mg base N qual scope f cd A outer s H E) [] (cB N vs) H s1:=by
 have hpl:ps.length<=N.length:=by have:=congrArg List.length S.pre;rw[Bz]at this;omega
 obtain⟨h1,tk,rfl,hk⟩:=x.done;have noA:∀b:Addr,b∉(dG CX P w K mg base N qual scope f cd A outer s H E).ex:=λb z=>absurd (show b∈([]:List Addr)from z) (by simp)
 refine⟨⟨e0.mod,S.kind,rfl,rfl,A5 _,λy z c h1 h2=>?_,λy hy=>?_,λy c _ h=>?_,λ_=>hd,Around.frames_deeper e0.frames,.inr ⟨rfl,rfl⟩,λb z=>absurd z (noA b),e0.bs,e0.bsz,λb _ _=>noA b,λb z=>absurd z (noA b),e0.funs,e0.frf⟩,
  rfl,e0.bare,Un.kept hk,⟨_,x.toInCall.ns,λi y v h1 h2 h3=>?_⟩,λy c h=>⟨_,x.cell y c h⟩,e0.hok.fresh (A5 _),λy c h=>?_,λp hp=>absurd (show p∈([]:List (Addr×Obj))from hp) (by simp),e0.hok.kept hk,?_⟩
 ·exact name_of_addr x.apart (PySem.mem_of_lookup h1) (PySem.mem_of_lookup h2)
 ·have hy:scope.names.lookup y=some .cell\/scope.names.lookup y=some .free:=hy;rcases hy with hy |hy
  ·exact pV hy
  ·exact absurd rfl (S.nofree _ (PySem.mem_of_lookup hy))
 ·exact BE (x.above y c (PySem.mem_of_lookup h))
 ·have hi:i<vs.length:=by
   unfold cB at h2
   by_cases hi:i<vs.length
   ·exact hi
   ·rw[List.getElem?_append_right (by simpa using hi)]at h2;rw[List.getElem?_replicate]at h2;split at h2<;>cases h2
  have ha:vs[i]?=some v:=by
   unfold cB at h2
   rw[List.getElem?_append_left (by simpa using hi),List.getElem?_map]at h2;cases e:vs[i]? with
   |none=>rw[e]at h2;cases h2
   |some a=>rw[e]at h2;cases h2;rfl
  obtain⟨u,hu,rv⟩:=r.get ha
  have hp:ps[i]?=some y:=by rw[<- S.pre,List.getElem?_take_of_lt (by omega)];exact h1
  have ndP:ps.Nodup:=by rw[<- S.pre];exact S.nd.sublist (List.take_sublist _ _)
  refine⟨u,rv,?_⟩;rcases S.par y (List.mem_of_getElem? hp)with k |k
  ·exact .inl ⟨k,pZ ndP hp hu k⟩
  ·obtain⟨c,e⟩:=pV (n:=s.heap.objs.size+1) k;refine .inr ⟨.inl k,c,e,?_⟩;have q:=x.cell y c e;rw[p6 ndP hp hu (by show scope.names.lookup y≠_;rw[k];decide)]at q;exact q
 ·exact e0.hok.fresh (BE (x.above y c (PySem.mem_of_lookup h)))
 ·unfold cB;show _=N.length;rw[Ba,A4,Ch];omega
theorem oX{CX:CXT}{P:Program}{w:World}{K:PySem.W.Frag}{mg:Str->Option Value}{base:Heap}{k:Nat}{f:Addr}{name qual:Str}{params:Arguments}{body:List Stmt}{scope:Scope}{dV kV doc pm cdv ct oc:Value}{an od:Option Addr}
 {osl:Array (Option Value)} {N ps:List Str} {sp:Sp} (lk:K.lookup f=some ⟨oc,od,.func (PySem.W.fnOf name qual params body scope dV kV doc pm an cdv ct),osl⟩) (hcd:PySem.W.codeIn K cdv qual=true) (S:FnScope N ps scope)
 (len:∀vs H Q E,sp vs H Q E->vs.length=ps.length)
 (hbody:∀(A:Around) (outer:List Env) (s:Shared) (H:Hp) (vs:List V) (Q:VK) (E:XK),Room k (A.deeper (envOfC qual scope s.heap.objs.size f cdv))->sp vs H Q E ->
   ∃t,PSs (dG CX P w K mg base N qual scope f cdv A outer s H E) body t/\t { nx:=λ_ H'=>Q .non H',rt:=Q } (cB N vs) H) :
 FnOk P w K mg base CX (k+1) f (PySem.W.fnOf name qual params body scope dV kV doc pm an cdv ct) ps sp:=by
 refine⟨len,λA outer s H args us vs Q E hr e0 hb r hsp=>?_⟩;have hl:=len _ _ _ _ hsp;have KX:K.In s.heap:=e0.mod.kin.keeps λb o e=>(e0.bs b o e).1
 have lim:s.heap.NoLimit:=e0.mod.nolimit.keeps λb o e=>(e0.bs b o e).1
 have hkind:∀y∈ps.zip us,scope.names.lookup y.1=some .local\/(scope.names.lookup y.1=some .cell/\((cellsFrom (s.heap.objs.size+1) scope.names []).lookup y.1).isSome=true):=λ⟨n,v⟩ hy=>by
  rcases S.par n (List.of_mem_zip hy).1 with q |q
  ·exact .inl q
  ·exact .inr ⟨q,PySem.W.cellsFrom_some _ _ _ (.inl q)⟩
 refine codeAny_call_function hr.depth (KX _ _ lk) rfl S.co S.gen rfl (PySem.W.codeRec_of KX hcd) (hb _ _ _ _ ?_);refine wpAny_newFunctionEnv_cells S.kind hkind λenv he s1 x=>?_
 subst he;refine⟨lim.keeps x.toInCall.keep,codeAny_func ?_⟩;obtain⟨t,ht,hq⟩:=hbody A outer s H vs Q E (hr.deeper _) hsp;have I:Inv (dG CX P w K mg base N qual scope f cdv A outer s H E) [] (cB N vs) H s1:=wU S hr.hd e0 hl r x;refine wpAny_mono (ht [] s1 (cB N vs) H _ I hq) (λfl s' hs=>?_) λe s' hs=>hs
 have fin:∀{σ':St} {H':Hp} {v:V} {u:Value},Inv (dG CX P w K mg base N qual scope f cdv A outer s H E) [] σ' H' s'->RelV v u->Q v H'->CE outer P w H s Q u s' :=
  λ{σ' H' v u} J rv q=>⟨v,H',J.os,J.bare,J.base,J.hok,rv,q⟩
 cases fl with
 |ret u =>obtain⟨v,σ',H',J,rv,q⟩:=hs;exact fin J rv q
 |next =>obtain⟨σ',H',J,q⟩:=hs;exact fin (v:=V.non) (u:=Value.none) J rfl q
 |brk =>obtain⟨_,_,_,q⟩:=hs;exact False.elim q
 |cont =>obtain⟨_,_,_,q⟩:=hs;exact False.elim q
section
variable {X:Cx}{x:Str}{p pos:Pos}{e:Expr}{es:List Expr}{t:TA}{id T:String}{r:List V->Hp->VK->Prop}
def tCB(r:List V->Hp->VK->Prop)(t:TA):TE:=λσ H Q=>t σ H λvs H1=>r vs H1 Q
theorem bg(hc:CallR X (.builtin id) r)(hg:Gl X x)(hm:X.mg x=none)(hv:bootBuiltins x=some (.builtin id))(ha:PA X (e::es) t)(hn:x≠"__name__":=by decide)(hdb:(x == ("__debug__":Str))=false:=by decide)
 (he:starEach (e::es) X.env=(false,eval e X.env)::starEach es X.env:=by rfl) (hpl:(backTo pos (starEach es X.env)).any (·.1)=false:=by rfl):PE X (.Call (.Name x p) (e::es) [] pos) (tCB r t):=by
 intro pins s σ H Q I h;refine wpAny_Call_Name_kw (dA I hg hm hv ?_ hn hdb);exact PyProof.Rows.callWith_builtin1 (thn (ha pos pins s σ H _ I h) λus s1 ⟨vs,H1,I1,r1,q1⟩=>hc pins s1 σ H1 vs us Q I1 r1 q1) he hpl
theorem c6(hc:CallR X (.type T) r)(hg:Gl X x)(hm:X.mg x=none)(hv:bootBuiltins x=some (.type T))(ha:PA X (e::es) t)(hn:x≠"__name__":=by decide)(hdb:(x == ("__debug__":Str))=false:=by decide)
 (he:starEach (e::es) X.env=(false,eval e X.env)::starEach es X.env:=by rfl) (hpl:(backTo pos (starEach es X.env)).any (·.1)=false:=by rfl):PE X (.Call (.Name x p) (e::es) [] pos) (tCB r t):=by
 intro pins s σ H Q I h;refine wpAny_Call_Name_kw (dA I hg hm hv ?_ hn hdb);exact PyProof.Rows.callWith_type1 (thn (ha pos pins s σ H _ I h) λus s1 ⟨vs,H1,I1,r1,q1⟩=>hc pins s1 σ H1 vs us Q I1 r1 q1) he hpl
end
end L2
namespace HT
open PySem PyProof.Rows
section
open PySem.SeqAt
open PySem.AutoSeq1 (wpAny_loadPart')
open PySem.MeetsSeq PySem.MeetsSeq2 PySem.MeetsSeq3
end
section
variable {prog:Program}{w:World}{A:Around}{E:Value->Shared->Prop}{s:Shared}
noncomputable def sIx(n d:Nat):Option Int->Nat
 |none=>d
 |some v=>if v<0 then(v+(n:Int)).toNat else min v.toNat n
theorem sIx_none(n d:Nat):sIx n d none=d:=rfl
theorem sIx_nat(n d k:Nat):sIx n d (some (k:Int))=min k n:=by show(if(k:Int)<0 then((k:Int)+(n:Int)).toNat else min (k:Int).toNat n)=min k n;rw[if_neg (by omega),Int.toNat_natCast]
theorem si(n d:Nat)(hd:d<=n)(o:Option Int):sIx n d o<=n:=by
 cases o with
 |none=>exact hd
 |some v =>
  show(if v<0 then(v+(n:Int)).toNat else min v.toNat n)<=n;by_cases hv:v<0
  ·rw[if_pos hv];omega
  ·rw[if_neg hv];exact Nat.min_le_right _ _
theorem pR(v:Int)(n d:Nat):(if v<0 then max (v+(n:Int)) 0 else min v (n:Int))=((sIx n d (some v):Nat):Int):=by
 show(if v<0 then max (v+(n:Int)) 0 else min v (n:Int))=(((if v<0 then(v+(n:Int)).toNat else min v.toNat n):Nat):Int);by_cases hv:v<0
 ·simp only[if_pos hv];omega
 ·simp only[if_neg hv];omega
theorem yL(lo hi:Option Int)(n:Nat):Builtin.Slice.sliceAdjust lo hi 1 (n:Int)=(((sIx n 0 lo:Nat):Int),((sIx n n hi:Nat):Int)):=by
 have h1:¬((1:Int)<0):=by omega
 unfold Builtin.Slice.sliceAdjust;simp only[h1,if_false];refine Prod.ext ?_ ?_
 ·cases lo with
  |none=>rfl
  |some v=>exact pR v n 0
 ·cases hi with
  |none=>rfl
  |some v=>exact pR v n n
theorem tw(i j:Nat):Builtin.Slice.slicePlaces (i:Int) (j:Int) 1=j-i:=by
 unfold Builtin.Slice.slicePlaces;have h1:(1:Int)>0:=by omega
 simp only[h1,if_true,Int.ediv_one];split<;>omega
theorem mL{v:Value}{o:Option Int}{Q:Option Int->Shared->Prop}(p:IsPart v o)(h:Q o s):wpAny (model prog w) A (Builtin.Slice.slicePartIndex v) Q E s:=by
 cases p with
 |none=>exact slicePart_none h
 |int i t=>exact slicePart_int h
theorem rB{sl:Addr}{vl vu:Value}{lo hi:Option Int}{n:Nat}{Q:Int×Int×Nat->Shared->Prop}(hs:s.heap.IsSliceOf sl vl vu .none)(pl:IsPart vl lo)(pu:IsPart vu hi)
 (h:Q (((sIx n 0 lo:Nat):Int),1,sIx n n hi-sIx n 0 lo) s):wpAny (model prog w) A (Builtin.Slice.sliceApplied (.ref sl) (pure (n:Int))) Q E s:=by
 obtain⟨os,hos,hcs,hds⟩:=id hs;unfold Builtin.Slice.sliceApplied Builtin.Slice.sliceFields;refine wpAny_bind (wpAny_bind (wpAny_field hos hds (x:=vl) rfl (wpAny_bind (wpAny_field hos hds (x:=vu) rfl (wpAny_bind (wpAny_field hos hds (x:=.none) rfl (wpAny_pure ?_)))))));refine wpAny_bind (slicePart_none ?_);show wpAny _ _ (if((1:Int) == 0)=true then _ else _) _ _ s;rw[if_neg (by decide)];refine wpAny_bind (mL pl (wpAny_bind (mL pu (wpAny_bind (wpAny_pure ?_)))));show wpAny _ _ (match Builtin.Slice.sliceAdjust lo hi 1 (n:Int)with | (lo,hi)=>pure (lo,(1:Int),Builtin.Slice.slicePlaces lo hi 1)) _ _ s;rw[yL lo hi n];show wpAny _ _ (pure (((sIx n 0 lo:Nat):Int),(1:Int),Builtin.Slice.slicePlaces ((sIx n 0 lo:Nat):Int) ((sIx n n hi:Nat):Int) 1)) _ _ s;rw[tw];exact wpAny_pure h
theorem tz(xs:Array Value)(i k:Nat):((List.range k).filterMap λ(m:Nat)=>xs[((i:Int)+(m:Int)*1).toNat]?).toArray=((xs.toList.drop i).take k).toArray:=by
 have e:(λ(m:Nat)=>xs[((i:Int)+(m:Int)*1).toNat]?)=λm=>xs[i+m]?:=by
  funext m
  have:((i:Int)+(m:Int)*1).toNat=i+m:=by omega
  rw[this]
 rw[e];have:=pick_run xs i k;rw[List.filterMap_map]at this;have e2:((λx=>xs[x]?) ∘ λx=>i+x)=λm=>xs[i+m]?:=rfl
 rw[e2]at this;rw[this]
theorem getItem_tuple_cut{t sl:Addr}{items:Array Value}{vl vu:Value}{lo hi:Option Int}{Q:Value->Shared->Prop}(ht:IsTup s.heap t items)(hs:s.heap.IsSliceOf sl vl vu .none)(pl:IsPart vl lo)(pu:IsPart vu hi)
 (hw:¬(sIx items.size 0 lo=0/\sIx items.size items.size hi=items.size))
 (h:Q (.ref s.heap.objs.size) { s with heap:=s.heap.push { cls:=.type "tuple",data:=.seq ((items.toList.drop (sIx items.size 0 lo)).take (sIx items.size items.size hi-sIx items.size 0 lo)).toArray } })
 (hsz:items.size<=sizeLine):wpAny (model prog w) A (getItem (.ref t) (.ref sl)) Q E s:=by
 have htake:sizeOk (.seq ((items.toList.drop (sIx items.size 0 lo)).take (sIx items.size items.size hi-sIx items.size 0 lo)).toArray):=by show((items.toList.drop (sIx items.size 0 lo)).take (sIx items.size items.size hi-sIx items.size 0 lo)).toArray.size<=sizeLine;rw[A7,Bz,List.length_drop,Array.length_toList];omega
 have hj:sIx items.size items.size hi<=items.size:=si _ _ (A5 _) hi;obtain⟨os,hos,hcs,hds⟩:=id hs;have hTs:s.TypeIs (.ref sl) "slice":=⟨os,hos,hcs⟩;unfold getItem
 try with_reducible refine wpAny_holding ?_
 first |refine wpAny_bind (wpAny_pure ?_) |skip
 refine wpAny_bind (wpAny_sequenceKey ht.typeIs (by decide) ?_)
 refine wpAny_bind (wpAny_callSpecial?_slot (name:=Str.ofString "__getitem__") ht.typeIs PyProof.Rows.slot_tuple_getitem
  (wpAny_call_entry PyProof.Rows.slot_tuple_getitem ht.typeIs entry_tuple_getitem ?_ (args_tuple_getitem _ _)))
 show wpAny _ _ (Builtin.Tuple.tupleItemsOf (.ref t) >>= _) _ _ s;refine wpAny_bind (tupleItemsOf_ ht ?_);refine wpAny_bind (wpAny_typeOf hTs ?_);rw[if_pos (by decide)];refine wpAny_bind (rB hs pl pu ?_)
 have hno:¬((((sIx items.size 0 lo:Nat):Int) == 0&&(1:Int) == 1&&(sIx items.size items.size hi-sIx items.size 0 lo) == items.size)=true):=by intro q;rw[BV,BV]at q;have q1:((sIx items.size 0 lo:Nat):Int)=0:=eq_of_beq q.1.1;have q2:sIx items.size items.size hi-sIx items.size 0 lo=items.size:=eq_of_beq q.2;exact hw ⟨by omega,by omega⟩
 show wpAny _ _ (if(((sIx items.size 0 lo:Nat):Int) == 0&&(1:Int) == 1&&(sIx items.size items.size hi-sIx items.size 0 lo) == items.size)=true then _ else _) _ _ s;rw[if_neg hno,tz]
 first
  |exact wpAny_bind (m:=Builtin.Tuple.tupleExact _) (wpAny_newObj_type (wpAny_pure ⟨_,rfl,wpAny_pure h⟩) htake)
  |exact wpAny_bind (m:=Builtin.Tuple.tupleExact _) (wpAny_newObj_type (wpAny_bind (wpAny_pure (wpAny_pure ⟨_,rfl,wpAny_pure h⟩))) htake)
  |exact wpAny_bind (wpAny_bind (m:=Builtin.Tuple.tupleExact _) (wpAny_newObj_type (wpAny_pure (wpAny_pure ⟨_,rfl,wpAny_pure h⟩)) htake))
  |exact wpAny_bind (wpAny_bind (m:=Builtin.Tuple.tupleExact _) (wpAny_newObj_type (wpAny_pure ⟨_,rfl,wpAny_pure h⟩) htake))
end
end HT
namespace L2
open PySem PySem.Spec PyProof.Rows
abbrev TO:=St->Hp->(Option Int->Hp->Prop)->Prop
noncomputable def PO(X:Cx)(e:Option Expr)(t:TO):Prop :=
 ∀(pins:List (Addr×Obj)) (s:Shared) (σ:St) (H:Hp) (Q:Option Int->Hp->Prop),Inv X pins σ H s->t σ H Q ->
  wpAny (model X.prog X.w) X.A (evalPart e X.env) (λu s'=>∃o H',Inv X pins σ H' s'/\IsPart u o/\Q o H') X.xe s
noncomputable def qZ:TO:=λ_ H Q=>Q none H
noncomputable def qY(t:TE):TO:=λσ H Q=>t σ H λx H1=>∃i,x=.int i/\Q (some i) H1
theorem eI{ns:List Int}:∀{us:List Value},Vals (ns.map V.int) us->IntsAre us ns:=by
 induction ns with
 |nil=>intro us r;rw[List.map_nil]at r;cases r;exact .nil
 |cons n ns ih =>
  intro us r;rw[BU]at r;cases r with
  |cons r1 r2 =>obtain⟨t,e⟩:=r1;subst e;exact .cons n t (ih r2)
section
variable {X:Cx}{e:Expr}{te:TE}{lo hi:Option Expr}{tl th:TO}{pos p2:Pos}
theorem gA:PO X none qZ:=by intro pins s σ H Q I h;rw[evalPart_none];exact wpAny_pure ⟨none,H,I,.none,h⟩
theorem gz(h:PE X e te):PO X (some e) (qY te):=by
 intro pins s σ H Q I hw;rw[evalPart_some];refine thn (h pins s σ H _ I hw) λu s1 ⟨x,H1,I1,r1,q1⟩=>?_
 obtain⟨i,rfl,q⟩:=q1;obtain⟨t,rfl⟩:=r1;exact⟨some i,H1,I1,.int i t,q⟩
noncomputable def SlR(X:Cx)(r:V->Option Int->Option Int->Hp->VK->Prop):Prop :=
 ∀(pins:List (Addr×Obj)) (s:Shared) (σ:St) (H:Hp) (x:V) (v vl vu:Value) (lo hi:Option Int) (sl:Addr) (Q:VK),Inv X pins σ H s->RelV x v->s.heap.IsSliceOf sl vl vu .none->IsPart vl lo->IsPart vu hi->r x lo hi H Q ->
  ∃T id,typeLookup (.type T) "__getitem__"=pure (some (.builtin id))/\s.TypeIs v T/\wpAny (model X.prog X.w) X.A (getItem v (.ref sl)) (EP X pins σ Q) X.xe s
theorem SlR.or{r r':V->Option Int->Option Int->Hp->VK->Prop}(h:SlR X r)(h':SlR X r'):SlR X (λx lo hi H Q=>r x lo hi H Q\/r' x lo hi H Q):=by
 intro pins s σ H x v vl vu lo hi sl Q I rx hs pl pu q;rcases q with q |q
 ·exact h pins s σ H x v vl vu lo hi sl Q I rx hs pl pu q
 ·exact h' pins s σ H x v vl vu lo hi sl Q I rx hs pl pu q
def tSl(r:V->Option Int->Option Int->Hp->VK->Prop)(te:TE)(tl th:TO):TE:=λσ H Q=>te σ H λx H1=>tl σ H1 λl H2=>th σ H2 λu H3=>r x l u H3 Q
theorem gD{r:V->Option Int->Option Int->Hp->VK->Prop}(hr:SlR X r)(he:PE X e te)(hl:PO X lo tl)(hu:PO X hi th):PE X (.Subscript e (.Slice lo hi none p2) pos) (tSl r te tl th):=by
 intro pins s σ H Q I h;refine Subscript_ (thn (he pins s σ H _ I h) λv s1 ⟨x,H1,I1,r1,q1⟩=>?_);refine wpAny_Slice (thn (hl pins s1 σ H1 _ I1 q1) λvl s2 ⟨l,H2,I2,pl,q2⟩=>thn (hu pins s2 σ H2 _ I2 q2) λvu s3 ⟨u,H3,I3,pu,q3⟩=>?_);rw[evalPart_none];refine wpAny_pure ?_;have I4:Inv X pins σ H3 { s3 with heap:=s3.heap.push { cls:=.type "slice",data:=.fields #[vl,vu,.none] } }:=I3.kept (t':=s3.toks) λb ob q=>Heap.get?_push_of_some _ q
 obtain⟨T,id,hT,ht,hg⟩:=hr pins { s3 with heap:=s3.heap.push { cls:=.type "slice",data:=.fields #[vl,vu,.none] } } σ H3 x v vl vu l u s3.heap.objs.size Q I4 r1 (Heap.IsSliceOf.new ..) pl pu q3;show wpAny (model X.prog X.w) X.A (subscriptTail e (.Slice lo hi none p2) v (.ref s3.heap.objs.size)) (EP X pins σ Q) X.xe { s3 with heap:=s3.heap.push { cls:=.type "slice",data:=.fields #[vl,vu,.none] } };exact tail_any (ops:=[.ref s3.heap.objs.size,v]) ht hT hg (by with_unfolding_all rfl)
noncomputable def cy(xs:List V)(lo hi:Option Int):List V:=(xs.drop (HT.sIx xs.length 0 lo)).take (HT.sIx xs.length xs.length hi-HT.sIx xs.length 0 lo)
theorem pH(xs:List V)(lo hi:Option Int):(cy xs lo hi).length<=xs.length:=by unfold cy;rw[Bz,List.length_drop];omega
noncomputable def mY(K:PySem.W.Frag):V->Option Int->Option Int->Hp->VK->Prop:=λx lo hi H Q=>∃a xs,x=.ref a/\SqT K H a xs /\
 ¬(HT.sIx xs.length 0 lo=0/\HT.sIx xs.length xs.length hi=xs.length)/\∀p,H p=none->Q (.ref p) (upd H p (.tup (cy xs lo hi)))
theorem rD:SlR X (mY X.K):=by
 intro pins s σ H x v vl vu lo hi sl Q I rx hs pl pu h;obtain⟨a,xs,rfl,hx,hw,q⟩:=h;cases rx;obtain⟨its,r,ht,hz⟩:=I.tuple hx;have hlen:its.toArray.size=xs.length:=by rw[A7];exact r.length.symm
 refine⟨"tuple",_,PyProof.Rows.slot_tuple_getitem.lookup,ht.typeIs,?_⟩;refine HT.getItem_tuple_cut ht hs pl pu (by rw[hlen];exact hw) ?_ (by rw[hlen];exact hz);rw[hlen];refine⟨.ref s.heap.objs.size,_,I.laid (t':=s.toks) (o:=.tup (cy xs lo hi)) (λb ob q=>Heap.get?_push_of_some _ q) (A5 _) ?_,rfl,q _ (I.hok.fresh (A5 _))⟩;exact⟨Bk (pH xs lo hi) hz,_,(r.drop (HT.sIx xs.length 0 lo)).take (HT.sIx xs.length xs.length hi-HT.sIx xs.length 0 lo),IsTup.new _ _⟩
end
noncomputable def ixN(n:Nat)(i:Int):Option Nat:=if 0<=i then(if i<n then some i.toNat else none)else if -(n:Int)<=i then some (i+n).toNat else none
noncomputable def atI{α:Type}(xs:List α)(i:Int):Option α:=(ixN xs.length i).bind λj=>xs[j]?
theorem oG{n:Nat}{i:Int}{j:Nat}(h:ixN n i=some j):seqIndex? i n=some j/\j<n /\ -(n:Int)<=i/\i<n:=by
 unfold ixN at h
 by_cases h0:0<=i
 ·rw[if_pos h0]at h;by_cases h1:i<n
  ·rw[if_pos h1]at h;have e:i.toNat=j:=Option.some.inj h;exact⟨by rw[seqIndex_of h0 h1,e],by omega,by omega,h1⟩
  ·rw[if_neg h1]at h;cases h
 ·rw[if_neg h0]at h;by_cases h1 : -(n:Int)<=i
  ·rw[if_pos h1]at h;have e:(i+n).toNat=j:=Option.some.inj h;exact⟨by rw[seqIndex_neg (by omega) h1,e],by omega,h1,by omega⟩
  ·rw[if_neg h1]at h;cases h
theorem qm{α:Type}{xs:List α}{i:Int}{v:α}(h:atI xs i=some v):∃j,seqIndex? i xs.length=some j/\xs[j]?=some v/\j<xs.length /\ -(xs.length:Int)<=i/\i<xs.length:=by
 unfold atI at h
 cases e:ixN xs.length i with
 |none=>rw[e]at h;cases h
 |some j =>rw[e]at h;obtain⟨h1,h2,h3,h4⟩:=oG e;exact⟨j,h1,h,h2,h3,h4⟩
theorem eT{α:Type}{xs:List α}{j:Nat}{v:α}(h:xs[j]?=some v):atI xs (j:Int)=some v:=by
 have hj:j<xs.length:=(List.getElem?_eq_some_iff.mp h).1
 have e:ixN xs.length (j:Int)=some j:=by unfold ixN;rw[if_pos (by omega),if_pos (by omega)];simp
 unfold atI;rw[e];exact h
theorem ql{α:Type}(xs:List α)(v:α):atI (xs++[v]) (-1)=some v:=by
 have hl:(xs++[v]).length=xs.length+1:=by simp
 have e:ixN (xs++[v]).length (-1)=some xs.length:=by
  unfold ixN;rw[hl,if_neg (by decide),if_pos (by omega)]
  congr 1
  omega
 unfold atI;rw[e];show(xs++[v])[xs.length]?=some v;simp
def yN(b:Expr):Prop:=∀o i,subscripted b false o i=operate [o,i] (getItem o i)
noncomputable def IxR(X:Cx)(r:R2):Prop :=
 ∀(value slice:Expr) (pins:List (Addr×Obj)) (s:Shared) (σ:St) (H:Hp) (x y:V) (v u:Value) (Q:VK),Inv X pins σ H s->RelV x v->RelV y u->r x y H Q ->
  subscripted slice false v u=operate [v,u] (getItem v u)->wpAny (model X.prog X.w) X.A (subscriptTail value slice v u) (EP X pins σ Q) X.xe s
noncomputable def MtR(X:Cx)(id:String)(r:V->List V->Hp->VK->Prop):Prop :=
 ∀(pins:List (Addr×Obj)) (s:Shared) (σ:St) (H:Hp) (x:V) (xs:List V) (v:Value) (us:List Value) (Q:VK),Inv X pins σ H s->RelV x v->Vals xs us->r x xs H Q ->
  wpAny (model X.prog X.w) X.A (call (.builtin id) (v::us)) (EP X pins σ Q) X.xe s
section
variable {X:Cx}{a b:Expr}{ta tb:TE}{pos:Pos}
theorem IxR.or{r r':R2}(h:IxR X r)(h':IxR X r'):IxR X (λx y H Q=>r x y H Q\/r' x y H Q):=by
 intro value slice pins s σ H x y v u Q I rx ry q hs;rcases q with q |q
 ·exact h value slice pins s σ H x y v u Q I rx ry q hs
 ·exact h' value slice pins s σ H x y v u Q I rx ry q hs
theorem MtR.or{id:String}{r r':V->List V->Hp->VK->Prop}(h:MtR X id r)(h':MtR X id r'):MtR X id (λx xs H Q=>r x xs H Q\/r' x xs H Q):=by
 intro pins s σ H x xs v us Q I rx rs q;rcases q with q |q
 ·exact h pins s σ H x xs v us Q I rx rs q
 ·exact h' pins s σ H x xs v us Q I rx rs q
theorem af{r:R2}(hr:IxR X r)(ha:PE X a ta)(hb:PE X b tb)(hs:yN b):PE X (.Subscript a b pos) (tOp r ta tb):=by intro pins s σ H Q I h;exact Subscript_ (kT ha hb I h λv u s2 x y H2 I2 rx ry q=>hr a b pins s2 σ H2 x y v u Q I2 rx ry q (hs _ _))
def jD(K:PySem.W.Frag):R2:=λx y H Q=>∃p xs i v,x=.ref p/\y=.int i/\SqL K H p xs/\atI xs i=some v/\Q v H
def d7(K:PySem.W.Frag):R2:=λx y H Q=>∃p xs i v,x=.ref p/\y=.int i/\SqT K H p xs/\atI xs i=some v/\Q v H
theorem wR:IxR X (jD X.K):=by
 intro value slice pins s σ H x y v u Q I rx ry h hs;obtain⟨p,xs,i,z,rfl,rfl,hq,he,q⟩:=h;cases rx;obtain⟨t,rfl⟩:=ry;obtain⟨its,r,pl,hz⟩:=I.list hq;obtain⟨j,h1,h2,h3,h4,h5⟩:=qm he;obtain⟨w,ew,rw'⟩:=r.get h2;have hl:=r.length;have hn:=gN;have fin:EP X pins σ Q w s:=⟨z,H,I,rw',q⟩;by_cases h0:0<=i
 ·have hj:i.toNat=j:=by rw[seqIndex_of h0 h5]at h1;exact Option.some.inj h1
  exact item_listR pl.isList h0 (by omega) (by rw[hj];simpa using ew) fin hs
 ·have hj:(i+(its.toArray.size:Int)).toNat=j:=by rw[seqIndex_neg (by omega) h4]at h1;rw[A7,<- hl];exact Option.some.inj h1
  exact subscriptTail_builtinR (x:=w) pl.isList.typeIs slot_list_getitem.lookup
   (wpAny_getItem_list_neg (Q:=λr s'=>r=w/\EP X pins σ Q r s') pl.isList (by omega) (by rw[A7]<;>omega) (by omega) (by rw[hj];simpa using ew) ⟨rfl,fin⟩) hs
theorem wQ:IxR X (d7 X.K):=by
 intro value slice pins s σ H x y v u Q I rx ry h hs;obtain⟨p,xs,i,z,rfl,rfl,hq,he,q⟩:=h;cases rx;obtain⟨t,rfl⟩:=ry;obtain⟨its,r,pl,hz⟩:=I.tuple hq;obtain⟨j,h1,h2,h3,h4,h5⟩:=qm he;obtain⟨w,ew,rw'⟩:=r.get h2;have hl:=r.length;have hn:=gN;have fin:EP X pins σ Q w s:=⟨z,H,I,rw',q⟩
 exact subscriptTail_builtinR (x:=w) pl.typeIs slot_tuple_getitem.lookup
  (getItem_tuple (j:=j) (Q:=λr s'=>r=w/\EP X pins σ Q r s') pl (by omega) (by omega) (by rw[A7,<- hl];exact h1) (by simpa using ew) ⟨rfl,fin⟩) hs
theorem vK(its:List Value)(n j:Nat)(u:Value):Obj.mapSeq (·.setIfInBounds j u) { cls:=.type "list",data:=.seq its.toArray n }={ cls:=.type "list",data:=.seq (its.set j u).toArray n }:=by simp[Obj.mapSeq]
theorem Inv.lst{pins:List (Addr×Obj)}{σ:St}{H:Hp}{s:Shared}{p:Addr}{xs:List V}(I:Inv X pins σ H s)(h:H p=some (.lst xs)) :
 ∃(its:List Value) (n:Nat),Vals xs its/\s.heap.get? p=some { cls:=.type "list",data:=.seq its.toArray n }/\xs.length<=sizeLine:=by
 obtain⟨z,its,n,r,e⟩:=I.hok p _ h;exact⟨its,n,r,e,z⟩
theorem Inv.lstUpd{pins:List (Addr×Obj)}{σ:St}{H:Hp}{s:Shared}{p:Addr}{xs ys:List V}{its its':List Value}{n n':Nat}{f:Obj->Obj}(I:Inv X pins σ H s)(h:H p=some (.lst xs))
 (ho:s.heap.get? p=some { cls:=.type "list",data:=.seq its.toArray n }) (hf:f { cls:=.type "list",data:=.seq its.toArray n }={ cls:=.type "list",data:=.seq its'.toArray n' }) (r:Vals ys its') (hz:ys.length<=sizeLine) (t:Nat) :
 Inv X pins σ (upd H p (.lst ys)) { s with heap:=s.heap.update p f,toks:=t }:=by
 have e:(s.heap.update p f).get? p=some { cls:=.type "list",data:=.seq its'.toArray n' }:=by rw[Heap.get?_update_self f ho (by rw[hf]<;>rfl),hf]
 refine I.write (x:=p) (e:=p) (by rw[h];trivial) (.inl rfl) (λb u hb q=>(Heap.get?_update_other _ _ (Ne.symm hb)).trans q) ⟨_,e⟩ ?_;exact⟨hz,its',n',r,e⟩
noncomputable def sI:V->V->V->Hp->(Hp->Prop)->Prop:=λo i v H Q=>∃p xs k j,o=.ref p/\i=.int k/\H p=some (.lst xs)/\ixN xs.length k=some j/\Q (upd H p (.lst (xs.set j v)))
theorem iJ:qt X sI:=by
 intro pins s σ H o i v ov iv u Q I ro ri rv h;obtain⟨p,xs,k,j,rfl,rfl,hp,hj,q⟩:=h;cases ro;obtain⟨t,rfl⟩:=ri;obtain⟨its,n,r,ho,hz⟩:=I.lst hp;obtain⟨h1,h2,h3,h4⟩:=oG hj;have hl:=r.length;have hn:=gN
 have I':Inv X pins σ (upd H p (.lst (xs.set j v))) { s with heap:=s.heap.update p (Obj.mapSeq (·.setIfInBounds j u)) } :=
  I.lstUpd hp ho (vK its n j u) (r.set rv j) (by rw[BW];exact hz) s.toks
 by_cases h0:0<=k
 ·have hk:k.toNat=j:=by rw[seqIndex_of h0 h4]at h1;exact Option.some.inj h1
  exact PySem.W.ki_setAt ho h0 (by omega) (by rw[A7,<- hl];exact h4) (by rw[hk];exact⟨_,I',q⟩)
 ·have hk:(k+(its.toArray.size:Int)).toNat=j:=by rw[seqIndex_neg (by omega) h3]at h1;rw[A7,<- hl];exact Option.some.inj h1
  exact PySem.W.ki_setBack ho (by omega) (by rw[A7,<- hl];exact h3) (by omega) (by rw[hk];exact⟨_,I',q⟩)
theorem rz(lo hi:Option Int)(n:Nat):(sliceBounds lo hi none n).1=((HT.sIx n 0 lo:Nat):Int)/\(sliceBounds lo hi none n).2.1=((HT.sIx n n hi:Nat):Int)/\(sliceBounds lo hi none n).2.2=1:=by
 refine⟨?_,?_,rfl⟩
 ·cases lo with
  |none=>simp[sliceBounds,HT.sIx]
  |some i =>
   simp only[sliceBounds,HT.sIx,Option.getD_none,show(1:Int)>0 by decide,if_true];by_cases h:i<0
   ·simp only[h,if_true]<;>omega
   ·simp only[h,if_false]<;>omega
 ·cases hi with
  |none=>simp[sliceBounds,HT.sIx]
  |some i =>
   simp only[sliceBounds,HT.sIx,Option.getD_none,show(1:Int)>0 by decide,if_true];by_cases h:i<0
   ·simp only[h,if_true]<;>omega
   ·simp only[h,if_false]<;>omega
theorem rA(its:List Value)(lo hi:Option Int):slicePick its.toArray lo hi none=((its.drop (HT.sIx its.length 0 lo)).take (HT.sIx its.length its.length hi-HT.sIx its.length 0 lo)).toArray:=by obtain⟨h1,h2,h3⟩:=rz lo hi its.toArray.size;unfold slicePick;rw[h1,h2,h3];simp only[sliceRange_one,pick_run,A7]<;>rfl
noncomputable def jC(K:PySem.W.Frag):V->Option Int->Option Int->Hp->VK->Prop:=λx lo hi H Q=>∃a xs,x=.ref a/\SqL K H a xs/\∀p,H p=none->Q (.ref p) (upd H p (.lst (cy xs lo hi)))
theorem rE:SlR X (jC X.K):=by intro pins s σ H x v vl vu lo hi sl Q I rx hs pl pu h;obtain⟨a,xs,rfl,hx,q⟩:=h;cases rx;obtain⟨its,r,ht,hz⟩:=I.list hx;have hlen:=r.length;refine⟨"list",_,slot_list_getitem.lookup,ht.isList.typeIs,?_⟩;refine wpAny_getItem_list_slice ht.isList hs pl pu .none (by simp) ?_ (by rw[A7]<;>omega);rw[rA,<- hlen];refine⟨.ref s.heap.objs.size,_,I.laid (t':=s.toks) (o:=.lst (cy xs lo hi)) (λb ob q=>Heap.get?_push_of_some _ q) (A5 _) ?_,rfl,q _ (I.hok.fresh (A5 _))⟩;exact⟨Bk (pH xs lo hi) hz,_,0,(r.drop (HT.sIx xs.length 0 lo)).take (HT.sIx xs.length xs.length hi-HT.sIx xs.length 0 lo),Heap.get?_push_size _ rfl⟩
theorem yi:CallR X (.builtin "len") (λxs H Q=>∃p ys,xs=[.ref p]/\(SqL X.K H p ys\/SqT X.K H p ys)/\Q (.int ys.length) H):=by
 intro pins s σ H xs us Q I r h;obtain⟨p,ys,rfl,hq,q⟩:=h;obtain⟨u,rfl,rx⟩:=dQ r;cases rx;have hn:=gN;rcases hq with hq |hq
 ·obtain⟨its,r',pl,hz⟩:=I.list hq;have hlen:=r'.length;exact Calls.call_len_list pl.isList (by simp only[A7]<;>omega) ⟨.int ys.length,H,I.tok _,⟨s.toks+1,by rw[A7,hlen]⟩,q⟩
 ·obtain⟨its,r',pl,hz⟩:=I.tuple hq;have hlen:=r'.length;exact len_tuple pl (by simp only[A7]<;>omega) ⟨.int ys.length,H,I.tok _,⟨s.toks+1,by rw[A7,hlen]⟩,q⟩
theorem CallR.or{f:Value}{r r':List V->Hp->VK->Prop}(h:CallR X f r)(h':CallR X f r'):CallR X f (λxs H Q=>r xs H Q\/r' xs H Q):=by
 intro pins s σ H xs us Q I rs q;rcases q with q |q
 ·exact h pins s σ H xs us Q I rs q
 ·exact h' pins s σ H xs us Q I rs q
theorem yg:CallR X (.type "list") (λxs H Q=>∃p ys,xs=[.ref p]/\(SqL X.K H p ys\/SqT X.K H p ys)/\∀l,H l=none->Q (.ref l) (upd H l (.lst ys))):=by
 intro pins s σ H xs us Q I r h;obtain⟨p,ys,rfl,hq,q⟩:=h;obtain⟨u,rfl,rx⟩:=dQ r;cases rx
 have fin:∀(its:List Value),Vals ys its->ys.length<=sizeLine->∀(h':Heap) (c':Nat),(∀b o',s.heap.get? b=some o'->h'.get? b=some o') ->
  h'.get? s.heap.objs.size=some { cls:=.type "list",dict:=none,data:=.seq its.toArray c',slots:=#[] }->EP X pins σ Q (.ref s.heap.objs.size) { s with heap:=h' }:=λits r' hz h' c' kp e =>
  ⟨.ref s.heap.objs.size,_,I.laid (t':=s.toks) kp (A5 _) (show ObjOk X.prog X.w _ h' _ (.lst ys)from⟨hz,its,c',r',e⟩),rfl,q _ (I.hok.fresh (A5 _))⟩
 rcases hq with hq |hq
 ·obtain⟨its,r',pl,hz⟩:=I.list hq;have hlen:=r'.length;obtain⟨o,ho,hc,n,hd⟩:=pl.isList;exact call_list_seq p (.inl rfl) ho hc hd (λh' c' kp e=>fin its r' hz h' c' kp e) (by simp only[A7]<;>omega)
 ·obtain⟨its,r',pl,hz⟩:=I.tuple hq;have hlen:=r'.length;obtain⟨o,ho,hc,n,hd⟩:=pl;exact call_list_seq p (.inr rfl) ho hc hd (λh' c' kp e=>fin its r' hz h' c' kp e) (by simp only[A7]<;>omega)
def tyV(K:PySem.W.Frag)(T:String)(x:V)(H:Hp):Prop:=match x with
 |.str _=>T="str"
 |.int _=>T="int"
 |.ref p=>(T="list"/\∃xs,SqL K H p xs)\/(T="tuple"/\∃o,K.lookup p=some o/\o.cls=.type "tuple"/\o.dict=none) \/
  (T="dict"/\((∃kvs,H p=some (.dK kvs))\/∃kvs,H p=some (.dT kvs)))\/(T="set"/\∃S n,H p=some (.set S n))
 |_=>False
theorem lF{pins:List (Addr×Obj)}{σ:St}{H:Hp}{s:Shared}{T:String}{x:V}{v:Value}(I:Inv X pins σ H s)(r:RelV x v)(ty:tyV X.K T x H) :
 s.TypeIs v T/\∀a,v=.ref a->∃ob,s.heap.get? a=some ob/\ob.dict=none:=by
 cases x with
 |str z =>obtain⟨t,rfl⟩:=r;cases(show T="str" from ty);exact⟨typeIs_str s z t,λ_ e=>nomatch e⟩
 |int i =>obtain⟨t,rfl⟩:=r;cases(show T="int" from ty);exact⟨typeIs_int s i t,λ_ e=>nomatch e⟩
 |ref p =>
  cases r;rcases ty with⟨rfl,xs,hq⟩ |⟨rfl,o,hk,hc,hd⟩ |⟨rfl,hk⟩ |⟨rfl,S,n,hk⟩
  ·obtain⟨its,_,pl,_⟩:=I.list hq;refine⟨pl.isList.typeIs,λa e=>?_⟩;cases e;obtain⟨o,n,e,c,hd,_⟩:=pl;exact⟨o,e,hd⟩
  ·refine⟨⟨o,I.kIn p o hk,hc⟩,λa e=>?_⟩;cases e;exact⟨o,I.kIn _ o hk,hd⟩
  ·have z:∃o,s.heap.get? p=some o/\o.ExactDict:=by
    rcases hk with⟨kvs,hk⟩ |⟨kvs,hk⟩
    ·obtain⟨_,_,_,_,o,_,_,e,ex,_⟩:=I.hok p _ hk;exact⟨o,e,ex⟩
    ·obtain⟨_,_,_,_,o,_,_,e,ex,_⟩:=I.hok p _ hk;exact⟨o,e,ex⟩
   obtain⟨o,e,ex⟩:=z;refine⟨⟨o,e,ex.1⟩,λa e2=>?_⟩;cases e2;exact⟨o,e,ex.2.1⟩
  ·obtain⟨o,_,_,_,e,ex,_⟩:=I.hok p _ hk;refine⟨⟨o,e,ex.1⟩,λa e2=>?_⟩;cases e2;exact⟨o,e,ex.2.1⟩
 |_=>exact False.elim ty
def rg(K:PySem.W.Frag)(T:String)(r:V->List V->Hp->VK->Prop)(to:TE):TE:=λσ H Q=>to σ H λx H1=>tyV K T x H1/\r x [] H1 Q
def tBM(K:PySem.W.Frag)(T:String)(r:V->List V->Hp->VK->Prop)(to:TE)(t:TA):TE:=λσ H Q=>to σ H λx H1=>tyV K T x H1/\t σ H1 λxs H2=>r x xs H2 Q
variable {o e:Expr}{es:List Expr}{to:TE}{t:TA}{name:Str}{apos cpos:Pos}{T id:String}{r:V->List V->Hp->VK->Prop}
theorem tL(pa:PlainAttrs T)(slot:Slot T name id)(hty:typeOf (.builtin id)=pure (.type "method_descriptor"))(hm:MtR X id r)(ho:PE X o to)
 (hbase:attributeBase o name X.env (eval o X.env)=eval o X.env:=by rfl) (hline:(apos.endLine == cpos.line)=true:=by rfl):PE X (.Call (.Attribute o name apos) [] [] cpos) (rg X.K T r to):=by
 intro pins s σ H Q I h;refine wpAny_Call_method0_late hbase hline (thn (ho pins s σ H _ I h) λv s1 ⟨x,H1,I1,r1,ty,q1⟩=>?_);obtain⟨h1,h2⟩:=lF I1 r1 ty;exact⟨T,id,pa,slot,hty,h1,h2,Calls.callWith_builtin rfl (PySem.evalArgs_none (hm pins s1 σ H1 x [] v [] Q I1 r1 .nil q1))⟩
theorem c7(pa:PlainAttrs T)(slot:Slot T name id)(hty:typeOf (.builtin id)=pure (.type "method_descriptor"))(hm:MtR X id r)(ho:PE X o to)(ha:PA X (e::es) t)
 (hbase:attributeBase o name X.env (eval o X.env)=eval o X.env:=by rfl)
 (hfew:((backTo cpos (starEach (e::es) X.env)).all (λx=>!x.1)&&(backToKw cpos (keywordEach [] X.env)).all (λx=>x.1.isSome)
   && decide ((e::es).length+([]:List Keyword).length+(if([]:List Keyword).isEmpty then 0 else 1)<30))=true:=by rfl)
 (hline:(apos.endLine == cpos.line)=true:=by rfl) (hs:starEach (e::es) X.env=(false,eval e X.env)::starEach es X.env:=by rfl) (hplain:(backTo cpos (starEach es X.env)).any (·.1)=false:=by rfl) :
 PE X (.Call (.Attribute o name apos) (e::es) [] cpos) (tBM X.K T r to t):=by
 intro pins s σ H Q I h;refine wpAny_Call_method_late hbase hfew hline rfl (thn (ho pins s σ H _ I h) λv s1 ⟨x,H1,I1,r1,ty,q1⟩=>?_);obtain⟨h1,h2⟩:=lF I1 r1 ty;refine⟨T,id,pa,slot,hty,h1,h2,?_⟩;have hA:=ha cpos pins s1 σ H1 _ I1 q1;rw[hs]at hA ⊢;refine Calls.callWith_builtin (by show(false || (backTo cpos (starEach es X.env)).any (·.1))=false;rw[hplain]<;>rfl) (Calls.evalArgs_plain ?_);exact thn hA λus s2 ⟨vs,H2,I2,r2,q2⟩=>hm pins s2 σ H2 x vs v us Q I2 r1 r2 q2
end
noncomputable def MtM(X:Cx)(id:String)(r:V->List V->Hp->VK->Prop):Prop :=
 ∀(pins:List (Addr×Obj)) (s:Shared) (σ:St) (H:Hp) (x:V) (xs:List V) (v:Value) (us:List Value) (Q:VK),Inv X pins σ H s->RelV x v->Vals xs us->r x xs H Q ->
  wpAny (model X.prog X.w) X.A (call (.builtin id) (v::us)) (EP X pins σ Q) X.xe s
theorem Vals.one:∀{x:V} {us:List Value},Vals [x] us->∃u,us=[u]/\RelV x u
 |_,_,.cons r .nil=>⟨_,rfl,r⟩
theorem Vals.two:∀{x y:V} {us:List Value},Vals [x,y] us->∃u v,us=[u,v]/\RelV x u/\RelV y v
 |_,_,_,.cons r (.cons q .nil)=>⟨_,_,rfl,r,q⟩
theorem Vals.zero:∀{us:List Value},Vals [] us->us=[]
 |_,.nil=>rfl
theorem Vals.dropLast{xs:List V}{us:List Value}(h:Vals xs us):Vals xs.dropLast us.dropLast:=by
 induction h with
 |nil=>exact .nil
 |cons r t ih =>
  cases t with
  |nil=>exact .nil
  |cons q t'=>exact .cons r ih
theorem Vals.eraseIdx:∀{xs:List V} {us:List Value} (i:Nat),Vals xs us->Vals (xs.eraseIdx i) (us.eraseIdx i)
 |_,_,_,.nil=>.nil
 |_,_,0,.cons _ t=>t
 |_,_,i+1,.cons r t=>.cons r (Vals.eraseIdx i t)
theorem Vals.reverse{xs:List V}{us:List Value}(h:Vals xs us):Vals xs.reverse us.reverse:=by
 induction h with
 |nil=>exact .nil
 |cons r t ih=>rw[List.reverse_cons,List.reverse_cons];exact Vals.append ih (.cons r .nil)
theorem Vals.rep{xs:List V}{us:List Value}(h:Vals xs us):∀k:Nat,Vals (List.replicate k xs).flatten (List.replicate k us).flatten
 |0=>.nil
 |k+1=>by rw[BG,BG,B8,B8];exact Vals.append h (Vals.rep h k)
theorem xS{α:Type}(l:List α):l.eraseIdx (l.length-1)=l.dropLast:=by
 induction l with
 |nil=>rfl
 |cons a r ih =>
  cases r with
  |nil=>rfl
  |cons b r =>
   have e:(a::b::r).length-1=((b::r).length-1)+1:=by have h1:(a::b::r).length=r.length+2:=rfl;have h2:(b::r).length=r.length+1:=rfl;omega
   rw[e,List.eraseIdx_cons_succ,ih]
   all_goals rfl
theorem oV(its:List Value):∀(k:Nat) (acc:List Value),
 List.foldl (λx1 x2=>x1++x2) acc.toArray (List.replicate k its.toArray)=(acc++(List.replicate k its).flatten).toArray
 |0,acc=>by simp
 |k+1,acc=>by
  have e:acc.toArray++its.toArray=(acc++its).toArray:=by simp
  have e2:(acc++its)++(List.replicate k its).flatten=acc++(List.replicate (k+1) its).flatten:=by rw[BG,B8,List.append_assoc]
  rw[<- e2,<- oV its k (acc++its),<- e,BG,List.foldl_cons]
section
variable {X:Cx}{pins:List (Addr×Obj)}{σ:St}{H:Hp}{s:Shared}{l b:Addr}{xs ys zs:List V}
theorem Inv.lset{its its':List Value}{n:Nat}{f:Array Value->Array Value}{t':Nat}(I:Inv X pins σ H s)(hH:H l=some (.lst xs))
 (e:s.heap.get? l=some { cls:=.type "list",data:=.seq its.toArray n }) (hf:f its.toArray=its'.toArray) (hv:Vals ys its') (hz:ys.length<=sizeLine) :
 Inv X pins σ (upd H l (.lst ys)) { s with heap:=s.heap.update l (Obj.mapSeq f),toks:=t' }:=by
 have q:=PySem.IsL.update e f;rw[hf]at q;refine I.write (x:=l) (e:=l) (by rw[hH];exact trivial) (.inl rfl) (λb' u hb hu=>(Heap.get?_update_other s.heap (Obj.mapSeq f) (Ne.symm hb)).trans hu) ⟨_,q⟩ ?_;exact⟨hz,its',_,hv,q⟩
theorem Inv.lnew{its:List Value}{t':Nat}(I:Inv X pins σ H s)(hv:Vals ys its)(hz:ys.length<=sizeLine) :
 Inv X pins σ (upd H s.heap.objs.size (.lst ys)) { s with heap:=s.heap.push { cls:=.type "list",data:=.seq its.toArray },toks:=t' } :=
 I.laid (λ_ _ q=>Heap.get?_push_of_some _ q) (A5 _) ⟨hz,its,0,hv,Heap.get?_push_size _ rfl⟩
theorem Inv.fresh(I:Inv X pins σ H s):H s.heap.objs.size=none:=I.hok.fresh (A5 _)
theorem Inv.lstM(I:Inv X pins σ H s)(hH:H l=some (.lst xs)):xs.length<=sizeLine/\∃(its:List Value) (n:Nat),Vals xs its/\xs.length=its.length/\s.heap.get? l=some { cls:=.type "list",data:=.seq its.toArray n }:=by obtain⟨z,its,n,r,e⟩:=I.hok l _ hH;exact⟨z,its,n,r,r.length,e⟩
theorem vn{n:Nat}(h:n<=sizeLine):Builtin.List.listTooLong n=false:=by unfold Builtin.List.listTooLong;exact decide_eq_false (by omega)
end
section
variable {X:Cx}
noncomputable def sN:V->List V->Hp->VK->Prop:=λx vs H Q=>∃l xs y,x=.ref l/\vs=[y]/\H l=some (.lst xs)/\xs.length<sizeLine/\Q .non (upd H l (.lst (xs++[y])))
theorem c9:MtM X "list.append" sN:=by intro pins s σ H x vs v us Q I rx rv h;obtain⟨l,xs,y,rfl,rfl,hH,hz,q⟩:=h;cases rx;obtain⟨u,rfl,ru⟩:=rv.one;obtain⟨z,its,n,r,hl,e⟩:=I.lstM hH;refine call_meets F.slot_list_append ⟨_,e,rfl⟩ F.entry_list_append (F.args_list_append_2 _ _) (PySem.list_append l its.toArray n u (by rw[A7];omega)) ⟨e,?_⟩;refine⟨.non,_,I.lset (its':=its++[u]) hH e (by simp) (r.append (.cons ru .nil)) ?_,rfl,q⟩;rw[Ba,List.length_singleton];omega
noncomputable def sK:V->List V->Hp->VK->Prop:=λx vs H Q=>∃l xs y,x=.ref l/\vs=[]/\H l=some (.lst xs)/\xs[xs.length-1]?=some y/\Q y (upd H l (.lst xs.dropLast))
theorem vF:MtM X "list.pop" sK:=by
 intro pins s σ H x vs v us Q I rx rv h;obtain⟨l,xs,y,rfl,rfl,hH,hy,q⟩:=h;cases rx;have hus:=rv.zero;subst hus;obtain⟨z,its,n,r,hl,e⟩:=I.lstM hH;obtain⟨u,hu,ru⟩:=r.get hy
 have hy':its.toArray[its.toArray.size-1]?=some u:=by show its.toArray[its.length-1]?=some u;rw[<- Array.getElem?_toList,<- hl];exact hu
 refine call_meets F.slot_list_pop ⟨_,e,rfl⟩ F.entry_list_pop (F.args_list_pop_1 _) (MeetsSeq.list_pop_last l its.toArray n u hy' (by rw[A7];omega)) ⟨e,?_⟩;refine⟨y,_,I.lset (its':=its.dropLast) hH e ?_ r.dropLast ?_,ru,q⟩
 ·show its.toArray.eraseIdxIfInBounds (its.toArray.size-1)=its.dropLast.toArray;rw[A7,List.eraseIdxIfInBounds_toArray,xS]
 ·rw[List.length_dropLast];omega
def m6:R2:=λx y H Q=>∃l b xs zs,x=.ref l/\y=.ref b/\H l=some (.lst xs)/\H b=some (.lst zs)/\xs.length+zs.length<=sizeLine/\∀p,H p=none->Q (.ref p) (upd H p (.lst (xs++zs)))
theorem jR:OpR X (binaryOp .Add) m6:=by
 intro pins s σ H x y v u Q I rx ry h;obtain⟨l,b,xs,zs,rfl,rfl,hH,hB,hz,q⟩:=h;cases rx;cases ry;obtain⟨z,its,n,r,hl,e⟩:=I.lstM hH;obtain⟨z2,its2,n2,r2,hl2,e2⟩:=I.lstM hB;refine PySem.P.add_list e e2 ?_ (by rw[A7,A7];omega);have ea:its.toArray++its2.toArray=(its++its2).toArray:=by simp
 rw[ea];exact⟨.ref _,_,I.lnew (t':=s.toks) (r.append r2) (by rw[Ba];omega),rfl,q _ I.fresh⟩
def sJ:R2:=λx y H Q=>∃l k xs,x=.ref l/\y=.int k/\H l=some (.lst xs) /\ -(2^63)<=k/\k<2^63/\xs.length*k.toNat<=sizeLine /\
 ∀p,H p=none->Q (.ref p) (upd H p (.lst (List.replicate k.toNat xs).flatten))
theorem wn{α:Type}(xs:List α)(k:Nat):(List.replicate k xs).flatten.length=k*xs.length:=by
 induction k with
 |zero=>simp
 |succ k ih=>rw[BG,B8,Ba,ih,Nat.succ_mul,Nat.add_comm]
theorem tO:OpR X (binaryOp .Mult) sJ:=by
 intro pins s σ H x y v u Q I rx ry h;obtain⟨l,k,xs,rfl,rfl,hH,h1,h2,hz,q⟩:=h;cases rx;obtain⟨t,rfl⟩:=ry;obtain⟨z,its,n,r,hl,e⟩:=I.lstM hH;have hlen:its.toArray.size*k.toNat<=sizeLine:=by rw[A7,<- hl];exact hz
 have hcap:¬its.toArray.size*k.toNat>(2^63-1)/8:=by
  have:(sizeLine:Nat)<=(2^63-1)/8:=by decide
  omega
 have hfit:¬(!Builtin.List.listFitsIndex k)=true:=by rw[fitsIndex_both h1 h2];exact Bg
 have hlong:¬Builtin.List.listTooLong (its.toArray.size*k.toNat)=true:=by rw[vn hlen];exact Bg
 have hnew:List.foldl (λx1 x2=>x1++x2) #[] (List.replicate (if its.toArray.isEmpty=true then 0 else k.toNat) its.toArray)=(List.replicate k.toNat its).flatten.toArray:=by
  have f0:∀m:Nat,List.foldl (λx1 x2=>x1++x2) #[] (List.replicate m its.toArray)=(List.replicate m its).flatten.toArray:=λm=>by have:=oV its m [];rw[List.nil_append]at this;exact this
  rw[f0];cases its with
  |nil=>simp
  |cons a r'=>rw[if_neg (by simp)]
 refine wpAny_binaryOp_repeat_ref (T:="list") (U:="int") (by decide) ⟨_,e,rfl⟩ (λs'=>typeIs_int s' k t) noFill_list_mul F.fills_int_mul F.slot_int_rmul repeat_list F.slot_int_index.lookup
  (call_meets F.slot_int_rmul (typeIs_int s k t) F.entry_int_rmul (F.args_int_rmul_2 _ _) (int___rmul___int_list k t l its.toArray n)
    ⟨e,rfl,⟨_,e,rfl⟩,call_meets F.slot_list_mul ⟨_,e,rfl⟩ F.entry_list_mul (F.args_list_mul_2 _ _) (AutoListH.list___mul___list_int_3 l its.toArray n k t hfit hcap hlong) ⟨e,?_⟩⟩)
 rw[hnew];exact⟨.ref _,_,I.lnew (t':=s.toks) (r.rep k.toNat) (by rw[wn,Nat.mul_comm];exact hz),rfl,q _ I.fresh⟩
end
section
variable {prog:Program}{w:World}{A:Around}{E:Value->Shared->Prop}{s:Shared}
end
section
variable {X:Cx}
end
end L2
namespace Att
open PySem PySem.W PySem.Calls PyProof.Rows
theorem wV{P:Params}{h:Heap}:∀(ns:List Int) (vs:List Value),WellAll P h vs (ns.map WData.int)->IntsAre vs ns:=by
 intro ns
 induction ns with
 |nil =>intro vs w;rw[List.map_nil]at w;cases w;exact .nil
 |cons n ns ih =>
  intro vs w;rw[BU]at w;cases w with
  |cons a b =>cases a;exact .cons _ _ (ih _ b)
theorem rN{l:OpenLaw}{n:Nat}(hn:l.most=some n){P:Params}{h:Heap}{args:List WData}{vals:List Value}
 (hpre:l.row.toRowW.claim.pre args=true) (hwl:WellAll P h vals args) :
 ∃a vs ns,vals=[Value.ref a]/\args=[WData.list (ns.map WData.int)]/\h.get? a=some { cls:=.type "list",data:=.seq vs.toArray }/\IntsAre vs ns/\ns.length<=n:=by
 have hsh:WShape.hasAll [] args [.list .int]=true:=(pre_splitW hpre).1;have hc:l.pre.holds [] { args:=args }=true:=(pre_splitW hpre).2;obtain⟨d,r,rfl,h1,h2⟩:=hasAllW_cons hsh;obtain rfl:=hasAllW_nil h2;obtain⟨xs,rfl,h3⟩:=hasW_list h1;obtain⟨ns,rfl⟩:=items_int h3
 have hlen:ns.length<=n:=by
  unfold OpenLaw.pre at hc
  have h4:(WTm.not (.lt (.lit (.int (n:Int))) (.len (.arg 0)))).holds [] { args:=[.list (ns.map .int)] }=true:=by have h4:=(holds_andW hc).1;rw[hn]at h4;exact h4
  have h5:=condW_of h4 (w_not (w_lt w_lit (w_len_list (w_arg rfl))));rw[A4]at h5;refine Bs λq=>?_
  have q':(n:Int)<((ns.length:Nat):Int):=by omega
  first
   | (rw[decide_eq_true q']at h5;exact absurd h5 (by decide))
   | (simp at h5;omega)
 cases hwl with
 |cons w1 w2 =>
  cases w2;cases w1 with
  |list ho hall=>exact⟨_,_,ns,rfl,rfl,ho,wV ns _ hall,hlen⟩
theorem sW(l:OpenLaw)(args:List WData):l.row.toRowW.claim.post args (.bool true) args=true :=
 postW_of (r:=l.row.toRowW) (X:=(true == true))
  (show WShape.has [] (.bool true) .bool=true by first |rfl |decide |simp[WShape.has,WShape.arms,WShape.armsAll])
  (show(WTm.eq .res (.lit (.bool true))).value [] { args:=args,res:=some (.bool true),after:=args }=some (.bool (true == true))from w_eq_bool (w_res rfl) w_lit) rfl
theorem attach_call{l:OpenLaw}{n:Nat}{q:Program}{loose:List Str}{XP:(Str->Option Value)->Heap->Prop}{YP:World->Heap->Prop}{d:DefRec}
 (hn:l.most=some n) (hdf:d.params.defaults=[])
 (call:∀(w:World) (s₀ s₁:Shared) (mg mb:Str->Option Value) (fa:Addr) (o:Obj) (pm cd doc:Value) (a:Addr) (vs:List Value) (ns:List Int),
   Ground q loose [] XP w s₀ mg mb s₁.heap->YP w s₁.heap ->
   s₁.heap.get? fa=some o->o.data=.func (docDef d.name d.params d.body d.scope pm cd doc)->s₁.heap.CodeRec cd d.name->mg d.name=some (.ref fa) ->
   s₁.heap.get? a=some { cls:=.type "list",data:=.seq vs.toArray }->IntsAre vs ns->ns.length<=n->s₁.gens=#[] ->
   codeAny (model l.prog w) callerA (.call (.ref fa) ⟨[.ref a],[]⟩) (λr s'=>r=.ok (.ret (.bool true))/\OldK s₁.heap s'.heap/\s'.os=s₁.os/\AllBare s'.gens) s₁) :
 WalkO q loose XP YP l.row.toRowW d [] (λf vs=>PySem.call f vs):=by
 intro w s₀ s₁ mg mb G Y fa o pm cd doc dV kV ho hd hcd hD hmg hg args vals as hpre hlay hrd hwl hlo;obtain rfl:dV=.none:=Dflts.none hD hdf;obtain rfl:kV=.none:=Dflts.noKw hD;obtain⟨a,vs,ns,rfl,rfl,hobj,hints,hlen⟩:=rN hn hpre hwl;refine enter_call (codeAny_mono (call w s₀ s₁ mg mb fa o pm cd doc a vs ns G Y ho (fd_plain hd) hcd hmg hobj hints hlen hg) λr s' hq=>?_);obtain⟨rfl,h2,h3,h4⟩:=hq;exact⟨.inl ⟨.bool true,.bool true,[],rfl,λ_=>rfl,.bool true,sW l _,λ_=>⟨List.Pairwise.nil,λ_ hm=>(nomatch hm)⟩⟩,h2,h3,h4⟩
section
variable {prog:Program}{w:World}{A:Around}{E:Value->Shared->Prop}{s:Shared}{K:Frag}
end
end Att
namespace L2
open PySem PySem.Spec PyProof.Rows
theorem lD:∀{vs:List Value} {ns:List Int},IntsAre vs ns->Vals (ns.map V.int) vs
 |_,_,.nil=>.nil
 |_,_,.cons n t h=>.cons ⟨t,rfl⟩ (lD h)
def k9(H:Hp):Prop:=∀b,H b=none\/∃o xs,H b=some (.frz o (.lst xs))
noncomputable def ki(s:Stmt)(j:Nat):Stmt:=match s with
 |.ClassDef _ _ _ body _ _ _ _ _ _ _=>body.getD j (.Pass ⟨0,0,0,0⟩)
 |_=>.Pass ⟨0,0,0,0⟩
noncomputable def bS(s:Stmt):Arguments:=match s with
 |.FunctionDef _ a _ _ _ _ _ _ _ _=>a
 |_=>{ posonlyargs:=[],args:=[],vararg:=none,kwonlyargs:=[],kw_defaults:=[],kwarg:=none,defaults:=[] }
noncomputable def bL(s:Stmt):List Stmt:=match s with
 |.FunctionDef _ _ b _ _ _ _ _ _ _=>b
 |_=>[]
noncomputable def aq(s:Stmt):Scope:=match s with
 |.FunctionDef _ _ _ _ _ _ sc _ _ _=>sc
 |_=>{ kind:=.function,names:=[],isGenerator:=false,isCoroutine:=false }
abbrev CX0:CXT:=λ_ _ _ _ _ _=>False
abbrev E0:XK:=λ_ _ _=>False
theorem aj{X:Cx}:eV CX0 X E0:=λ_ _ _ _ _ _ _ h=>h.elim
structure Fun(K:PySem.W.Frag)(x qual:Str)(st:Stmt)(f:Addr)(fd:FuncData):Prop where
 ex:∃(oc:Value) (od:Option Addr) (kV doc pm:Value) (an:Option Addr) (cdv ct:Value) (osl:Array (Option Value)),
  fd=PySem.W.fnOf x qual (bS st) (bL st) (aq st) .none kV doc pm an cdv ct/\K.lookup f=some ⟨oc,od,.func fd,osl⟩/\PySem.W.codeIn K cdv qual=true
 kp:PySem.W.keepIn K (.ref f)=true
section
variable {P:Program}{w:World}{K:PySem.W.Frag}{mg:Str->Option Value}{base:Heap}
theorem Fun.ok{x qual:Str}{st:Stmt}{f:Addr}{fd:FuncData}{N ps:List Str}{k:Nat}{sp:Sp}(F:Fun K x qual st f fd)(S:FnScope N ps (aq st))(len:∀vs H Q E,sp vs H Q E->vs.length=ps.length)
 (hbody:∀(cdv:Value) (A:Around) (outer:List Env) (s:Shared) (H:Hp) (vs:List V) (Q:VK) (E:XK),Room k (A.deeper (envOfC qual (aq st) s.heap.objs.size f cdv))->sp vs H Q E ->
   ∃t,PSs (dG CX0 P w K mg base N qual (aq st) f cdv A outer s H E).nox (bL st) t/\t { nx:=λ_ H'=>Q .non H',rt:=Q } (cB N vs) H):FnOk P w K mg base CX0 (k+1) f fd ps sp:=by
 obtain⟨oc,od,kV,doc,pm,an,cdv,ct,osl,rfl,lk,hcd⟩:=F.ex;refine oX lk hcd S len λA outer s H vs Q E hr hsp=>?_
 obtain⟨t,h,q⟩:=hbody cdv A outer s H vs Q E hr hsp;exact⟨t,h.nox,q⟩
theorem Fun.binds{x qual:Str}{st:Stmt}{f:Addr}{fd:FuncData}{ps:List Str}(F:Fun K x qual st f fd)
 (h:∀(kV doc pm:Value) (an:Option Addr) (cdv ct:Value) (us:List Value),us.length=ps.length->bindArgs (PySem.W.fnOf x qual (bS st) (bL st) (aq st) .none kV doc pm an cdv ct) ⟨us,[]⟩=pure (ps.zip us)):Binds K fd ps []:=by
 obtain⟨oc,od,kV,doc,pm,an,cdv,ct,osl,rfl,lk,hcd⟩:=F.ex;exact .all (h kV doc pm an cdv ct)
theorem oT{x qual:Str}{st:Stmt}{f:Addr}{oc:Value}{od an:Option Addr}{osl:Array (Option Value)}{kV doc pm cdv ct:Value}(l:K.lookup f=some ⟨oc,od,.func (PySem.W.fnOf x qual (bS st) (bL st) (aq st) .none kV doc pm an cdv ct),osl⟩)
 (c:PySem.W.codeIn K cdv qual=true) (k:PySem.W.keepIn K (.ref f)=true):Fun K x qual st f (PySem.W.fnOf x qual (bS st) (bL st) (aq st) .none kV doc pm an cdv ct):=⟨⟨oc,od,kV,doc,pm,an,cdv,ct,osl,rfl,l,c⟩,k⟩
end
section
variable {X:Cx}
theorem pv(i:Nat){x:Str}{pos:Pos}(hN:X.N[i]?=some x:=by rfl)(hv:Vis X.env.scope x:=by first |exact Or.inl rfl |exact Or.inr (Or.inl rfl) |exact Or.inr (Or.inr rfl))(hd:(x == ("__debug__":Str))=false:=by decide)
 (hcd:(x == ("__classdict__":Str))=false:=by decide):PE X (.Name x pos) (cA i):=tJ hN hv hd hcd
end
def Same(H H':Hp):Prop:=∀b o,H b=some o->H' b=some o
theorem Same.refl(H:Hp):Same H H:=λ_ _ h=>h
theorem Same.trans{H H1 H2:Hp}(a:Same H H1)(b:Same H1 H2):Same H H2:=λc o h=>b c o (a c o h)
theorem Same.free{H H':Hp}(e:Same H H'){l:Addr}(h:H' l=Option.none):H l=Option.none:=by
 cases q:H l with
 |none=>rfl
 |some o =>rw[e l o q]at h;cases h
theorem Same.seq{K:PySem.W.Frag}{H H':Hp}{a:Addr}{xs:List V}(e:Same H H')(h:SqL K H a xs):SqL K H' a xs:=by
 rcases h with(h |⟨o,h⟩) |h
 ·exact .inl (.inl (e _ _ h))
 ·exact .inl (.inr ⟨o,e _ _ h⟩)
 ·exact .inr h
end L2
set_option maxHeartbeats 4000000
namespace L2
open PySem PySem.Spec PyProof.Rows
noncomputable def cx(X:Cx)(N:List Str)(scope:Scope)(cl:List (Str×Addr))(C:Addr)(s₀:Shared)(H₀:Hp)(ex:List Addr):Cx where
 prog:=X.prog
 w:=X.w
 K:=X.K
 mg:=X.mg
 base:=X.base
 A:=X.A
 N:=N
 s₀:=s₀
 H₀:=H₀
 env:=compEnvC scope cl C X.env
 outer:=X.stack
 stack:=X.stack
 ex:=ex
 fn:=λ_=>false
 calm:=X.calm
 pn:=[]
 xe:=λ_ _=>False
structure CompOk(X:Cx)(fr:List Str)(js:List Nat)(scope:Scope)(cl:List (Str×Addr)):Prop where
 clos:closureFor scope X.env=pure cl
 cell:∀y∈scope.names,y.2≠.cell
 kind:scope.kind=.function
 names:∀y∈scope.names,y.2=.local->scope.names.lookup y.1=some .local
 clin:∀p∈cl,X.env.cells.lookup p.1=some p.2
 has:scope.names.all (λp=>p.2 != .free || (cl.lookup p.1).isSome)=true
 fre:Paired (λ(x:Str) (j:Nat)=>X.N[j]?=some x/\(X.env.scope.names.lookup x=some .cell\/X.env.scope.names.lookup x=some .free)/\scope.names.lookup x=some .free) fr js
theorem jx{env:Env}{x:Str}{k':NameKind}:∀{names:List (Str×NameKind)},
 (names.map λ(n,k)=>if(k == NameKind.free&&env.scope.kind == .function&&env.kindOf n == some .cell)then(n,NameKind.cell)else(n,k)).lookup x=some k' ->
 ∃k,names.lookup x=some k/\(k'=k\/(k=.free/\k'=.cell))
 | [],h=>by simp at h
 | (n,k)::r,h=>by
  have ih:=@jx env x k' r;change List.lookup x ((if(k == NameKind.free&&env.scope.kind == .function&&env.kindOf n == some .cell)=true then(n,NameKind.cell)else(n,k))::_)=_ at h
  by_cases hc:(k == NameKind.free&&env.scope.kind == .function&&env.kindOf n == some .cell)=true
  ·rw[if_pos hc]at h;cases hx:x == n with
   |true =>simp only[BH,hx]at h ⊢;cases h;refine⟨k,rfl,.inr ⟨?_,rfl⟩⟩;simp only[BV,beq_iff_eq]at hc;exact hc.1.1
   |false =>simp only[BH,hx]at h ⊢;exact ih h
  ·rw[if_neg hc]at h;cases hx:x == n with
   |true =>simp only[BH,hx]at h ⊢;cases h;exact⟨_,rfl,.inl rfl⟩
   |false =>simp only[BH,hx]at h ⊢;exact ih h
theorem mU{env:Env}{x:Str}:∀{names:List (Str×NameKind)},names.lookup x=some .free ->
 (names.map λ(n,k)=>if(k == NameKind.free&&env.scope.kind == .function&&env.kindOf n == some .cell)then(n,NameKind.cell)else(n,k)).lookup x=some .cell \/
 (names.map λ(n,k)=>if(k == NameKind.free&&env.scope.kind == .function&&env.kindOf n == some .cell)then(n,NameKind.cell)else(n,k)).lookup x=some .free
 | [],h=>by simp at h
 | (n,k)::r,h=>by
  have ih:=@mU env x r;show List.lookup x ((if(k == NameKind.free&&env.scope.kind == .function&&env.kindOf n == some .cell)=true then(n,NameKind.cell)else(n,k))::_)=_\/List.lookup x ((if(k == NameKind.free&&env.scope.kind == .function&&env.kindOf n == some .cell)=true then(n,NameKind.cell)else(n,k))::_)=_;by_cases hc:(k == NameKind.free&&env.scope.kind == .function&&env.kindOf n == some .cell)=true
  ·rw[if_pos hc];cases hx:x == n with
   |true=>simp only[BH,hx];exact .inl trivial
   |false=>simp only[BH,hx]at h ⊢;exact ih h
  ·rw[if_neg hc];cases hx:x == n with
   |true =>simp only[BH,hx]at h ⊢;cases h;exact .inr rfl
   |false=>simp only[BH,hx]at h ⊢;exact ih h
noncomputable def dd(n:Nat)(js:List Nat)(σ:St):St:=List.replicate n none++js.map λj=>(σ[j]?).join
def il(n:Nat)(js:List Nat)(g:TG)(te:TE)(σ:St)(Q:VK)(J:It)(H1:Hp):Prop:=∃W:Nat->Nat->List V->St->Hp->Prop,(∃m,W 0 m [] (dd n js σ) H1) /\
 ∀i m ys σ' H',W i m ys σ' H' ->
  (J.stop i H'/\∀p,H' p=none->Q (.ref p) (upd H' p (.lst ys))) \/
  (J.go i H'/\ys.length<sizeLine/\∃N:V->St->Hp->Prop,(∀y σ'' H'',N y σ'' H''->∃m',m'<m/\W (i+1) m' (ys++[y]) σ'' H'')/\∀x H2,J.yld i H' x H2->g x σ' H2 λσ3 H3=>te σ3 H3 λy H4=>N y σ3 H4)
def lO(n:Nat)(js:List Nat)(wi:TI)(g:TG)(te:TE):TE:=λσ H Q=>wi σ H λJ H1=>il n js g te σ Q J H1
noncomputable def ze(X:Cx)(pins:List (Addr×Obj))(σ:St)(Q:VK)(D C:Addr)(s':Shared):Prop :=
 ∃H2,Inv X pins σ H2 s'/\Q (.ref D) H2/\H2 C=none/\C≠X.env.locals/\X.s₀.heap.objs.size<=C/\(∀x c,X.env.cells.lookup x=some c->c≠C)/\(∀p∈X.pn++pins,p.1≠C)/\∃m,s'.heap.Ns C m
section
variable {X:Cx}{own fr:List Str}{js:List Nat}{scope:Scope}{cl:List (Str×Addr)}{elt target iter:Expr}{pos:Pos}{wi:TI}{g:TG}{te:TE}
theorem dg(O:CompOk X fr js scope cl){x:Str}{c:Addr}(e:cl.lookup x=some c):X.env.cells.lookup x=some c:=O.clin (x,c) (PySem.mem_of_lookup e)
theorem pF{pins:List (Addr×Obj)}{σ:St}{H:Hp}{s:Shared}{fp:List Addr}{C:Addr}(O:CompOk X fr js scope cl)(I:Inv X pins σ H s)(hC:s.heap.objs.size<=C)(hf:∀b∈fp,cz X pins H b)(ho:∀b∈fp,b<s.heap.objs.size) :
 (cx X (own++fr) scope cl C s H fp).Ok:=by
 refine⟨I.ok.mod,O.kind,I.ok.glob,I.ok.blt,hC,λx y c h1 h2=>I.ok.inj x y c (dg O h1) (dg O h2),λx hx=>?_,λx c h=>(by cases h),I.ok.hd,I.ok.frames,.inl rfl,λb hb=>?_,I.bs,?_,λb o e hb=>?_,λb hb hb'=>?_,I.stack,I.stkFree⟩
 ·have key:scope.names.lookup x=some .free:=by
   have hx':(scope.names.map λ(n,k)=>if(k == NameKind.free&&X.env.scope.kind == .function&&X.env.kindOf n == some .cell)then(n,NameKind.cell)else(n,k)).lookup x=some .cell \/
    (scope.names.map λ(n,k)=>if(k == NameKind.free&&X.env.scope.kind == .function&&X.env.kindOf n == some .cell)then(n,NameKind.cell)else(n,k)).lookup x=some .free:=hx
   rcases hx' with h |h
   ·obtain⟨k,e,z⟩:=jx h;rcases z with z |⟨z,_⟩
    ·subst z;exact absurd rfl (O.cell _ (PySem.mem_of_lookup e))
    ·subst z;exact e
   ·obtain⟨k,e,z⟩:=jx h;rcases z with z |⟨_,z⟩
    ·subst z;exact e
    ·cases z
  have hm:=B9.mp O.has _ (PySem.mem_of_lookup key);have hs:(cl.lookup x).isSome=true:=by simpa using hm
  exact Option.isSome_iff_exists.mp hs
 ·obtain⟨f0,f1,f2,f3,f4,f5⟩:=hf b hb;exact⟨Be (Bc (ho b hb) hC),λx c e=>f4 x c (dg O e)⟩
 ·exact Bk I.ok.bsz I.sz
 ·obtain⟨f0,f1,f2,f3,f4,f5⟩:=hf b hb;rcases f3 with z |z
  ·exact I.ok.noex b o e z
  ·exact absurd (Bc (Heap.lt_size e) (Bk I.ok.bsz z)) (Bq _)
 ·obtain⟨f0,f1,f2,f3,f4,f5⟩:=hf b hb;rcases Bb.mp (I.stkSub b hb')with z |z
  ·exact f1 z
  ·exact f2 z
theorem Paired.idx{α β:Type}{F:α->β->Prop}:∀{l₁:List α} {l₂:List β},Paired F l₁ l₂->∀(i:Nat) (a:α) (b:β),l₁[i]?=some a->l₂[i]?=some b->F a b
 |_,_,.nil,_,_,_,h,_=>by simp at h
 |_,_,.cons r _,0,a,b,h1,h2=>by simp at h1 h2;subst h1;subst h2;exact r
 |_,_,.cons _ t,i+1,a,b,h1,h2=>Paired.idx t i a b (by simpa using h1) (by simpa using h2)
theorem xZ{pins:List (Addr×Obj)}{σ:St}{H:Hp}{s s':Shared}{fp:List Addr}{C:Addr}{m:Str->Option Value}(O:CompOk X fr js scope cl)(hl:fr.length=js.length)(I:Inv X pins σ H s)(hC:s.heap.objs.size<=C)(hf:∀b∈fp,cz X pins H b)
 (ho:∀b∈fp,b<s.heap.objs.size) (os:s'.os=s.os) (hg:s'.gens=s.gens) (old:∀b o,s.heap.get? b=some o->s'.heap.get? b=some o) (hn:s'.heap.Ns C m) :
 Inv (cx X (own++fr) scope cl C s H fp) [] (dd own.length js σ) H s':=by
 refine⟨pF O I hC hf ho,os,by rw[hg];exact I.bare,Un.kept old,⟨m,hn,λi x v e1 e2 e3=>?_⟩,λx c e=>?_,I.hok.fresh hC,λx c e=>I.freeC x c (dg O e),λp hp=>absurd (show p∈([]:List (Addr×Obj))from hp) (by simp),I.hok.kept old,?_⟩
 ·unfold dd at e2
  have e1':(own++fr)[i]?=some x:=e1;by_cases hi:i<own.length
  ·rw[List.getElem?_append_left (by simpa using hi),List.getElem?_replicate]at e2;split at e2<;>cases e2
  ·have hi':own.length<=i:=Bs hi;rw[List.getElem?_append_right (by simpa using hi'),Ch,List.getElem?_map]at e2;rw[List.getElem?_append_right hi']at e1';cases ej:js[i-own.length]? with
   |none=>rw[ej]at e2;cases e2
   |some j =>
    rw[ej]at e2;have e2':(σ[j]?).join=some v:=Option.some.inj e2
    have eσ:σ[j]?=some (some v):=by
     cases q:σ[j]? with
     |none=>rw[q]at e2';cases e2'
     |some o=>rw[q]at e2';simp at e2';rw[e2']
    obtain⟨hN,hk,hs⟩:=Paired.idx O.fre _ x j e1' ej;obtain⟨mo,hmo,hlo⟩:=I.loc;have vis:Vis X.env.scope x:=hk.elim (λz=>.inr (.inl z)) λz=>.inr (.inr z)
    obtain⟨u,r,l⟩:=hlo j x v hN eσ vis;refine⟨u,r,.inr ⟨mU hs,?_⟩⟩;have hm:=B9.mp O.has _ (PySem.mem_of_lookup hs);have hs':(cl.lookup x).isSome=true:=by simpa using hm
    obtain⟨c,ec⟩:=Option.isSome_iff_exists.mp hs';refine⟨c,ec,?_⟩;rcases l with⟨k,_⟩ |⟨_,c',e',z⟩
    ·have k':X.env.scope.names.lookup x=some .local:=k;rcases hk with q |q<;>(rw[q]at k';cases k')
    ·have:=dg O ec;rw[e']at this;cases this;obtain⟨oc,hoc,hd⟩:=z;exact⟨oc,old _ _ hoc,hd⟩
 ·obtain⟨v,oc,hoc,hd⟩:=I.cell x c (dg O e);exact⟨v,oc,old _ _ hoc,hd⟩
 ·unfold dd;show _=(own++fr).length;rw[Ba,Ba,Ch,A4,hl]
theorem Un.adopt{fs ex:List Addr}{H H1:Hp}{h h1:Heap}{a:Addr}{o:HO}(u:Un fs ex H H1 h h1)(ha:h.objs.size<=a)(hn:H a=none):Un fs ex H (upd H1 a o) h h1 where
 keep:=u.keep
 slot:=u.slot
 free:=λb ob q n hx=>by rw[upd_ne (Be (Bc (Heap.lt_size q) ha))];exact u.free b ob q n hx
 there:=u.there
 tups:=λb xs q=>by rw[upd_ne (aH q hn)];exact u.tups b xs q
 frzs:=λb ob xs q=>by rw[upd_ne (aH q hn)];exact u.frzs b ob xs q
 tbls:=λb ps q=>by rw[upd_ne (aH q hn)];exact u.tbls b ps q
theorem HOk.adopt{P:Program}{w:World}{H:Hp}{h:Heap}{a:Addr}{o:HO}(x:HOk P w H h)(hn:H a=none)(new:ObjOk P w (upd H a o) h a o):HOk P w (upd H a o) h:=λb u e=>by
 by_cases hb:b=a
 ·subst hb;rw[ah]at e;cases e;exact new
 ·rw[upd_ne hb]at e;exact(x b u e).stay (λc v _ q=>q) (λc q=>by rw[upd_ne (aH q hn)];exact q) λc xs q=>by rw[upd_ne (aH q hn)];exact q
theorem pQ{pins:List (Addr×Obj)}{σ:St}{H:Hp}{s:Shared}{fp:List Addr}{it:Addr}{tn:Nat->Heap->Prop}{J:It}{E:Value->Shared->Prop}{Q:VK}{RR:Value->Addr->Result->Shared->Prop}(O:CompOk X fr js scope cl)(hl:fr.length=js.length)(hcm:X.calm=true)
 (I:Inv X pins σ H s) (T:Turn X.prog X.w X.K target J fp it tn) (st:tn 0 s.heap) (hf:∀b∈fp,cz X pins H b)
 (hg:∀C s₀ H₀ ex,PG (cx X (own++fr) scope cl C s₀ H₀ ex) target g) (he:∀C s₀ H₀ ex,PE (cx X (own++fr) scope cl C s₀ H₀ ex) elt te)
 (W:Nat->Nat->List V->St->Hp->Prop) {m0:Nat} (w0:W 0 m0 [] (dd own.length js σ) H)
 (turn:∀i m ys σ' H',W i m ys σ' H' ->
   (J.stop i H'/\∀p,H' p=none->Q (.ref p) (upd H' p (.lst ys))) \/
   (J.go i H'/\ys.length<sizeLine/\∃N:V->St->Hp->Prop,(∀y σ'' H'',N y σ'' H''->∃m',m'<m/\W (i+1) m' (ys++[y]) σ'' H'')/\∀x H2,J.yld i H' x H2->g x σ' H2 λσ3 H3=>te σ3 H3 λy H4=>N y σ3 H4))
 (hRR:∀D C s',ze X pins σ Q D C s'->RR (.ref D) C (.ok .next) s') :
 wpAny (model X.prog X.w) X.A (newList []) (λacc s₃=>wpAny (model X.prog X.w) X.A (newFunctionEnv scope X.env.globals cl [] X.env.qual none .none (some X.env)) (λcenv s₄ =>
  codeAny (model X.prog X.w) X.A (.compStart (.ListComp elt [⟨target,iter,[],0⟩] scope pos) 0 (.ref it) acc { cenv with scope:=relabel scope X.env }) (RR acc cenv.locals) s₄) E s₃) E s:=by
 refine wpAny_newObj_type (wpAny_newFunctionEnv O.cell (by intro y hy;simp at hy) (λh₁ hns₁ hsb₁=>?_) O.kind);dsimp only at hns₁ hsb₁ ⊢
 generalize hH2:s.heap.push { cls:=.type "list",dict:=none,data:=.seq ([]:List Value).toArray }=H2 at hns₁ hsb₁ ⊢
 have hCs:H2.objs.size=s.heap.objs.size+1:=by rw[<- hH2,Heap.size_push]
 have hDC:s.heap.objs.size≠H2.objs.size:=by rw[hCs];exact Be (BL _)
 have hCge:s.heap.objs.size<=H2.objs.size:=by rw[hCs];exact Nat.le_succ _
 have below:∀b,b<s.heap.objs.size->b≠H2.objs.size/\b≠s.heap.objs.size:=λb hb=>⟨by rw[hCs];exact Be (Nat.lt_succ_of_lt hb),Be hb⟩
 have old:∀b o,s.heap.get? b=some o->h₁.get? b=some o:=λb o e=>hsb₁.extBut b o (below b (Heap.lt_size e)).1 (Heap.get?_push_of_some _ (hH2 ▸ Heap.get?_push_of_some _ e))
 have hacc:h₁.get? s.heap.objs.size=some { cls:=.type "list",data:=.seq ([]:List Value).toArray 0 }:=hsb₁.extBut _ _ hDC (Heap.get?_push_of_some _ (hH2 ▸ Heap.get?_push_size _ rfl));have ho:∀b∈fp,b<s.heap.objs.size:=λb hb=>by obtain⟨o,e,_⟩:=T.obj 0 _ st b hb;exact Heap.lt_size e
 generalize hDe:s.heap.objs.size=D at *
 generalize hCe:H2.objs.size=C at *
 let X':Cx:=cx X (own++fr) scope cl C s H fp
 have ok':X'.Ok:=pF O I (by rw[hDe];exact hCge) hf (by rw[hDe];exact ho)
 have hDfs:D∉X'.fs:=by
  intro z;rcases Bb.mp (I.stkSub D z)with q |q
  ·exact absurd I.lt (by rw[<- q,hDe];exact Bq _)
  ·exact I.nofs (BK hDe) q
 have hDfp:∀b∈fp,D≠b:=λb hb z=>absurd (ho b hb) (by rw[z];exact Bq _)
 have hDcell:∀x c,cl.lookup x=some c->c≠D:=λx c e z=>by obtain⟨v,q⟩:=I.cell x c (dg O e);exact absurd q.lt (by rw[z,hDe];exact Bq _)
 have fpok:∀{H':Hp} {pins':List (Addr×Obj)},(∀p∈pins',p.1=D)->(∀b∈fp,H' b=none)->∀b∈fp,cz X' pins' H' b:=λ{H' pins'} hp hn b hb=>by
  obtain⟨f0,f1,f2,f3,f4,f5⟩:=hf b hb;refine⟨hn b hb,(below b (ho b hb)).1,λz=>?_,.inl hb,λx c e=>f4 x c (dg O e),λp hp'=>?_⟩
  ·rcases Bb.mp (I.stkSub b z)with q |q
   ·exact f1 q
   ·exact f2 q
  ·have hp'':p∈pins':=by simpa[X',cx]using hp'
   rw[hp p hp''];exact hDfp b hb
 have loop:∀s₃:Shared,s₃={ s with heap:=h₁,toks:=s.toks+([]:List (Str×Value)).length } ->
  codeAny (model X.prog X.w) X.A (.compLoop (.ListComp elt [⟨target,iter,[],0⟩] scope pos) 0 (.ref it) (.ref D) (compEnvC scope cl C X.env)) (RR (.ref D) C) s₃:=by
  rintro s₃ rfl
  refine PySem.W.kcp_loop (λk s'=>∃i σ' H' ys its nn,Inv X' [] σ' H' s'/\tn i s'.heap/\(∀b∈fp,H' b=none)/\H' D=none/\s'.heap.get? D=some { cls:=.type "list",data:=.seq (its:List Value).toArray nn }/\Vals ys its/\ys.length<=sizeLine/\W i k ys σ' H') ?_ m0
   ⟨0,_,H,[],[],0,xZ O hl I (by rw[hDe];exact hCge) hf (by rw[hDe];exact ho) rfl rfl (by intro b o e;exact old b o e) hns₁,T.keep _ _ _ st λb _ o e=>old b o e,λb hb=>(hf b hb).1,I.hok.fresh (BK hDe),hacc,.nil,A8 _,w0⟩
  rintro k s' ⟨i,σ',H',ys,its,nn,I',st',hfn,hDn,hDo,rv,hz,w⟩;have hlen:=rv.length;have hpD:∀p∈[(D,({ cls:=.type "list",data:=.seq its.toArray nn }:Obj))],p.1=D:=λp hp=>by rw[Bf.mp hp]
  have Ip:Inv X' [(D,({ cls:=.type "list",data:=.seq its.toArray nn }:Obj))] σ' H' s':=I'.pins_of λp hp=>by rw[Bf.mp hp];exact⟨hDo,hDn,hDC,hDfs,λv z=>by cases z⟩
  rcases turn i k ys σ' H' w with⟨stop,fin⟩ |⟨go,hlt,N,hN,step⟩
  ·refine wpAny_mono (T.done X' rfl rfl rfl hcm i _ s' σ' H' (λ_ _=>False) Ip (fpok hpD hfn) st' stop) (λr s4 ⟨hr,I4⟩=>?_) λ_ _ z=>False.elim z
   subst hr;refine hRR D C s4 ?_;have hD4:s4.heap.get? D=some { cls:=.type "list",data:=.seq its.toArray nn }:=(I4.pin _ (Bo _ (Bf.mpr rfl))).1;have un:Un (frs X.stack) fp H (upd H' D (.lst ys)) s.heap s4.heap:=Un.adopt I4.base (BK hDe) (I.hok.fresh (BK hDe));have hok:HOk X.prog X.w (upd H' D (.lst ys)) s4.heap:=HOk.adopt I4.hok hDn ⟨hz,its,nn,rv,hD4⟩;refine⟨upd H' D (.lst ys),I.call' I4.os un hok I4.bare λb hb=>?_,fin D hDn,?_,?_,?_,λx c e z=>?_,λp hp z=>?_,?_⟩
   ·obtain⟨f0,f1,f2,f3,f4,f5⟩:=hf b hb;exact⟨f3,f1,f4,f5⟩
   ·rw[upd_ne (Ne.symm hDC)];exact I4.free
   ·exact Nat.ne_of_gt (Bc I.lt (by rw[hDe];exact hCge))
   ·exact Bk I.sz (by rw[hDe];exact hCge)
   ·obtain⟨v,q⟩:=I.cell x c e;exact absurd (Bc q.lt (by rw[hDe,z];exact hCge)) (Bq _)
   ·exact absurd (Bc (Heap.lt_size (I.pin p hp).1) (by rw[hDe,z];exact hCge)) (Bq _)
   ·obtain⟨m',hn',_⟩:=I4.loc;exact⟨m',hn'⟩
  ·refine wpAny_mono (T.item X' rfl rfl rfl hcm i _ s' σ' H' (λ_ _=>False) Ip (fpok hpD hfn) st' go) (λr s4 ⟨u,hr,h4⟩=>?_) λ_ _ z=>False.elim z
   subst hr;refine wpAny_mono h4 (λ_ s5 ⟨x,H5,I5,r5,y5,st5,fr5⟩=>?_) λ_ _ z=>False.elim z
   have I5':=I5.pinned (fpok hpD fr5) (T.obj _ _ st5);refine wpAny_mono (hg C s H fp _ s5 σ' H5 x u _ I5' r5 (step x H5 y5)) (λ_ s6 ⟨σ6,H6,I6,q6⟩=>?_) λ_ _ z=>False.elim z
   refine wpAny_mono (he C s H fp _ s6 σ6 H6 _ I6 q6) (λv s7 ⟨y,H7,I7,r7,n7⟩=>?_) λ_ _ z=>False.elim z
   obtain⟨m',hm',w7⟩:=hN y σ6 H7 n7;have hD7:=I7.pin (D,{ cls:=.type "list",data:=.seq its.toArray nn }) (Bo _ (List.mem_append_left _ (Bf.mpr rfl)));refine append_at hD7.1 (λh8 sb hD8=>?_) (by rw[A7,<- hlen];exact hz);have I7':Inv X' [] σ6 H7 s7:=I7.pins_of λp hp=>absurd hp (by simp)
   have I8:Inv X' [] σ6 H7 { s7 with heap:=h8 }:=I7'.turned (t':=s7.toks) (it:=D) (λb o hb e=>(sb.2 b hb).trans e) hD7.2.1 hDC (.inr (BK hDe)) hDcell (λp hp=>absurd (show p∈([]:List (Addr×Obj))from hp) (by simp));refine⟨m',hm',i+1,σ6,H7,ys++[y],its++[v],nn+1,I8,T.keep _ _ _ st5 λb hb o e=>?_,λb hb=>?_,hD7.2.1,?_,rv.append (.cons r7 .nil),?_,w7⟩
   ·exact(sb.2 b (λz=>hDfp b hb z.symm)).trans (I7.pin (b,o) (Bo _ (Bo _ (gJ hb e)))).1
   ·obtain⟨o,e,d⟩:=T.obj _ _ st5 b hb;exact(I7.pin (b,o) (Bo _ (Bo _ (gJ hb e)))).2.1
   ·rw[hD8,List.push_toArray]
   ·rw[Ba,List.length_singleton];exact hlt
 exact codeAny_compStart_list (loop _ rfl) (T.self _ 0 _ _ _ (T.keep _ _ _ st λb _ o e=>old b o e) (loop _ rfl))
theorem gE(O:CompOk X fr js scope cl)(hcm:X.calm=true)(hi:PI X target iter wi)(hg:∀C s₀ H₀ ex,PG (cx X (own++fr) scope cl C s₀ H₀ ex) target g)(he:∀C s₀ H₀ ex,PE (cx X (own++fr) scope cl C s₀ H₀ ex) elt te)
 (hs:∀x,foldedSetIterable iter X.env x=pure x:=by intro _;rfl):PE X (.ListComp elt [⟨target,iter,[],0⟩] scope pos) (lO own.length js wi g te):=by
 intro pins s σ H Q I h;rw[eval_ListComp];refine wpAny_comprehension_free (use:=none) rfl hs O.clos O.kind O.names (thn (hi pins s σ H _ I h) λx s1 h1=>thn h1 λitv s2 h2=>?_);obtain⟨it,fp,tn,J,H2,rfl,I2,T,st,hf,W,⟨m0,w0⟩,turn⟩:=h2;refine pQ (RR:=λacc C=>compPost (model X.prog X.w) X.A X.xe none (EP X pins σ Q) acc C) O (Paired.length O.fre) hcm I2 T st hf hg he W w0 turn ?_;rintro D C s' ⟨H3,I3,q,c1,c2,c3,c4,c5,m,hn⟩;exact⟨m,hn,λh' sb=>⟨.ref D,H3,I3.turned (t':=s'.toks) (it:=C) (λb o hb e=>(sb.2 b hb).trans e) c1 c2 (.inr c3) c4 c5,rfl,q⟩⟩
theorem m8{i:Nat}{y:Str}{py spos:Pos}(hN:X.N.Nodup)(hy:X.N[i]?=some y)(hly:Loc X.env.scope y)(O:CompOk X fr js scope cl)(hcm:X.calm=true)(hi:PI X target iter wi)(hg:∀C s₀ H₀ ex,PG (cx X (own++fr) scope cl C s₀ H₀ ex) target g)
 (he:∀C s₀ H₀ ex,PE (cx X (own++fr) scope cl C s₀ H₀ ex) elt te) (hsw:swapsWith (.ListComp elt [⟨target,iter,[],0⟩] scope pos) (some (.Name y py)) spos.line X.env=pure true)
 (hf:X.fn y=true\/X.env.scope.names.lookup y=some .local:=by first |exact .inl rfl |exact .inr rfl |assumption) (hs:∀x,foldedSetIterable iter X.env x=pure x:=by intro _;rfl) :
 PS X (.Assign [.Name y py] (.ListComp elt [⟨target,iter,[],0⟩] scope pos) spos) (eZ (lO own.length js wi g te) (dD i)):=by
 intro pins s σ H D I h;rw[exec_Assign_Name_used _ _ _ _ hsw];refine wpAny_bind (wpAny_standAt (wpAny_bind ?_));show wpAny _ X.A (do let _ <- comprehension (.ListComp elt [⟨target,iter,[],0⟩] scope pos) scope X.env _ (newList []) false (eval iter X.env) (some (assign (.Name y py) X.env))) _ _ s
 refine wpAny_bind (wpAny_mono (wpAny_comprehension_free (use:=some (assign (.Name y py) X.env)) (Q:=λ_ s'=>SP X pins D .next s') rfl hs O.clos O.kind O.names
  (thn (hi pins s σ H _ I h) λx s1 h1=>thn h1 λitv s2 h2=>?_)) (λ_ s' hq=>wpAny_pure (wpAny_pure hq)) λ_ _ e=>e)
 obtain⟨it,fp,tn,J,H2,rfl,I2,T,st,hfp,W,⟨m0,w0⟩,turn⟩:=h2;refine pQ (Q:=λx H1=>dD i x σ H1 D.nx) (RR:=λacc C=>compPost (model X.prog X.w) X.A X.xe (some (assign (.Name y py) X.env)) (λ_ s'=>SP X pins D .next s') acc C) O (Paired.length O.fre) hcm I2 T st hfp hg he W w0 turn ?_;rintro DD C s' ⟨H3,I3,q,c1,c2,c3,c4,c5,m,hn⟩;show wpAny _ _ (assign (.Name y py) X.env (.ref DD)) _ _ s';refine wpAny_assign_Name (lQ I3 hN hy hly (v:=.ref DD) rfl (λs4 I4 ⟨a,sb,ha⟩=>?_) hf)
 have hCa:C≠a:=by
  rcases ha with rfl |ha
  ·exact c2
  ·exactλz=>c4 y a ha z.symm
 refine⟨m,hn.sameBut sb hCa,λh' sb'=>⟨_,H3,I4.turned (t':=s4.toks) (it:=C) (λb o hb e=>(sb'.2 b hb).trans e) c1 c2 (.inr c3) c4 c5,q⟩⟩
end
theorem kK{n:Nat}{js:List Nat}{K:PySem.W.Frag}{a:Addr}{xs:List V}{g:TG}{te:TE}{σ0:St}{H:Hp}{Q:VK}(Pv:Nat->List V->St->Hp->Prop)(hz:xs.length<=sizeLine)(h0:Pv 0 [] (dd n js σ0) H)(hl:∀i ys σ H,i<=xs.length->Pv i ys σ H->SqL K H a xs/\ys.length<=i)
 (hs:∀i x ys σ H,xs[i]?=some x->Pv i ys σ H->g x σ H λσ2 H2=>te σ2 H2 λy H3=>Pv (i+1) (ys++[y]) σ2 H3) (hd:∀ys σ H p,Pv xs.length ys σ H->H p=none->Q (.ref p) (upd H p (.lst ys))) :
 il n js g te σ0 Q (Itl K a) H:=by
 refine⟨λi m ys σ H=>m=xs.length-i/\i<=xs.length/\Pv i ys σ H,⟨xs.length,by simp,A8 _,h0⟩,?_⟩;rintro i m ys σ H ⟨rfl,hi,p⟩;obtain⟨q,hy⟩:=hl i ys σ H hi p;by_cases hlt:i<xs.length
 ·refine .inr ⟨⟨xs,xs[i],q,by simp[hlt]⟩,by omega,λy σ'' H''=>Pv (i+1) (ys++[y]) σ'' H'',λy σ' H' p'=>⟨xs.length-(i+1),by omega,rfl,hlt,p'⟩,λx H' y=>?_⟩;obtain⟨e,y⟩:=y;subst e;exact hs i x ys σ _ (y xs q) p
 ·have e:i=xs.length:=by omega
  subst e;exact .inl ⟨⟨xs,q,A5 _⟩,λr hr=>hd ys σ H r p hr⟩
theorem pP{k:Nat}{js:List Nat}{lo:Int}{n:Nat}{g:TG}{te:TE}{σ0:St}{H:Hp}{Q:VK}(Pv:Nat->List V->St->Hp->Prop)(hz:n<=sizeLine)(h0:Pv 0 [] (dd k js σ0) H)(hl:∀i ys σ H,i<=n->Pv i ys σ H->ys.length<=i)
 (hs:∀i ys σ H,i<n->Pv i ys σ H->g (.int (lo+i)) σ H λσ2 H2=>te σ2 H2 λy H3=>Pv (i+1) (ys++[y]) σ2 H3) (hd:∀ys σ H p,Pv n ys σ H->H p=none->Q (.ref p) (upd H p (.lst ys))) :
 il k js g te σ0 Q (Itr lo n) H:=by
 refine⟨λi m ys σ H=>m=n-i/\i<=n/\Pv i ys σ H,⟨n,by simp,A8 _,h0⟩,?_⟩;rintro i m ys σ H ⟨rfl,hi,p⟩;have hy:=hl i ys σ H hi p;by_cases hlt:i<n
 ·refine .inr ⟨hlt,by omega,λy σ'' H''=>Pv (i+1) (ys++[y]) σ'' H'',λy σ' H' p'=>⟨n-(i+1),by omega,rfl,hlt,p'⟩,λx H' y=>?_⟩;obtain⟨e,y⟩:=y;subst e y;exact hs i ys σ _ hlt p
 ·have e:i=n:=by omega
  subst e;exact .inl ⟨A5 _,λr hr=>hd ys σ H r p hr⟩
def Bits(k:Nat)(i:Int):Prop:=i.natAbs<2^k
theorem Bits.mono{j k:Nat}{i:Int}(h:Bits j i)(hk:j<=k:=by decide):Bits k i:=Bc h (Ci (by decide) hk)
theorem Bits.mul{j k:Nat}{a b:Int}(ha:Bits j a)(hb:Bits k b):Bits (j+k) (a*b):=by
 unfold Bits at *
 rw[Bt,Nat.pow_add];exact Nat.mul_lt_mul_of_lt_of_lt ha hb
theorem Bits.add{k:Nat}{a b:Int}(ha:Bits k a)(hb:Bits k b):Bits (k+1) (a+b):=by
 unfold Bits at *
 have:=Int.natAbs_add_le a b;rw[Nat.pow_succ];omega
theorem Bits.neg{k:Nat}{a:Int}(ha:Bits k a):Bits k (-a):=by unfold Bits at *;rwa [Int.natAbs_neg]
theorem Bits.sub{k:Nat}{a b:Int}(ha:Bits k a)(hb:Bits k b):Bits (k+1) (a-b):=by rw[Int.sub_eq_add_neg];exact ha.add hb.neg
theorem Bits.of_le{k:Nat}{a b:Int}(hb:Bits k b)(h:a.natAbs<=b.natAbs):Bits k a:=Nat.lt_of_le_of_lt h hb
theorem Bits.zero{k:Nat}:Bits k 0:=Nat.pow_pos (by decide)
theorem Bits.log{k:Nat}{i:Int}(h:Bits k i)(hk:0<k):i.natAbs.log2<k:=by
 by_cases h0:i.natAbs=0
 ·rw[h0];simpa using hk
 ·exact(Nat.log2_lt h0).mpr h
theorem Bits.int{k:Nat}{i:Int}(h:Bits k i)(hk:k<=1000000):Builtin.Int.intBits i<=2^20:=by
 have e:(2:Nat)^20=1048576:=by decide
 unfold Builtin.Int.intBits;split
 ·exact A8 _
 ·rename_i hn
  have h0:i.natAbs≠0:=by intro z;have:i=0:=Int.natAbs_eq_zero.mp z;exact hn (by simp[this])
  have:=(Nat.log2_lt h0).mpr h;omega
section
variable {X:Cx}{a b:Expr}{ta tb:TE}{pos:Pos}
def zL(i j:Int):Prop:=Bits 1000000 i/\Bits 1000000 j
theorem aw:OpR X (binaryOp .Mult) (rI zL λi j=>.int (i*j)):=opI λ_ _ _ _ _ _ _ hc q=>mul_int q (.of_bits (hc.1.int (A5 _)) (hc.2.int (A5 _)))
theorem aS:OpR X (binaryOp .Mod) (rI (λ_ j=>0<j) λi j=>.int (i%j)):=tS
def zM(_ j:Int):Prop:=0<j/\Bits 9000 j
theorem bH:OpR X (binaryOp .FloorDiv) (rI zM λi j=>.int (i/j)):=opI λi j _ _ _ _ _ hc q=>by refine floordiv_int (Int.ne_of_gt hc.1) ?_ (.inl (PyProof.noPylong_of_log2 (hc.2.log (by decide))));rw[Int.fdiv_eq_ediv_of_nonneg _ (A6 hc.1)];exact q
def zN(_ j:Int):Prop:=j≠0/\Bits 9000 j
theorem nt:OpR X (binaryOp .FloorDiv) (rI zN λi j=>.int (i.fdiv j)):=opI λ_ _ _ _ _ _ _ hc q=>floordiv_int hc.1 q (.inl (PyProof.noPylong_of_log2 (hc.2.log (by decide))))
theorem bz:OpR X (compareOp .Eq) (rI0 λi j=>.bl (decide (i=j))):=eB λ_ _ _ _ _ _ _ q=>eq_int (by rw[Bool.beq_eq_decide_eq];exact q)
theorem gF:OpR X (compareOp .NotEq) (rI0 λi j=>.bl (!decide (i=j))):=eB λ_ _ _ _ _ _ _ q=>ne_int (by rw[bne,Bool.beq_eq_decide_eq];exact q)
def m5(K:PySem.W.Frag):R2:=λx y H Q=>∃(a b:Addr) (ns ms:List Int),x=.ref a/\y=.ref b/\SqL K H a (ns.map V.int)/\SqL K H b (ms.map V.int)/\Q (.bl (decide (ns=ms))) H
theorem tX(hu:X.A.units+64<cLine):OpR X (compareOp .Eq) (m5 X.K):=by intro pins s σ H x y v u Q I rx ry h;obtain⟨a,b,ns,ms,rfl,rfl,ha,hb,q⟩:=h;cases rx;cases ry;obtain⟨i1,r1,p1,_⟩:=I.list ha;obtain⟨i2,r2,p2,_⟩:=I.list hb;exact PySem.W.eq_intsK p1.isList (eI r1) p2.isList (eI r2) hu ⟨.bl _,H,I,rfl,q⟩
noncomputable def ff(K:PySem.W.Frag):List V->Hp->VK->Prop:=λxs H Q=>∃(x:V) (t c:Value) (n:V) (k:Bool),xs=[x,n]/\RelV n c/\(∀u,RelV n u->u=c)/\TyOf K H x t/\PySem.W.kitOne K t c=some k/\Q (.bl k) H
theorem yk:CallR X (.builtin "isinstance") (ff X.K):=by intro pins s σ H xs us Q I r h;obtain⟨x,t,c,n,k,rfl,rn,hn,ty,e,q⟩:=h;obtain⟨u1,u2,rfl,r1,r2⟩:=r.two;obtain rfl:=hn u2 r2;exact wS I r1 ty e λtk=>⟨.bl k,H,I.tok tk,rfl,q⟩
theorem wT{K:PySem.W.Frag}{H:Hp}{Q:VK}{x:V}{n:String}{t:Value}{k:Bool}(ty:TyOf K H x t)(e:PySem.W.kitOne K t (.type n)=some k)(q:Q (.bl k) H):ff K [x,.ty n] H Q :=
 ⟨x,t,.type n,.ty n,k,rfl,rfl,λ_ h=>h,ty,e,q⟩
end
section
variable {D:bU}{σ:St}{H:Hp}{Q:VK}{t u:TS}{te ta tb:TE}{c:TT}{i:Nat}{v:V}{r:R2}
theorem sB(P:St->Hp->Prop)(h1:∀σ' H',P σ' H'->u D σ' H')(h2:(∀σ' H',P σ' H'->u D σ' H')->t { D with nx:=u D } σ H):aT t u D σ H:=h2 h1
theorem jz(P:St->Hp->Prop)(h:P σ H)(h1:∀σ' H',P σ' H'->u D σ' H'):u D σ H:=h1 σ H h
theorem ao(h:te σ H λx H1=>u D (σ.set i (some x)) H1):aT (eZ te (dD i)) u D σ H:=h
theorem dX(h:te σ H λ_ H1=>u D σ H1):aT (iw te) u D σ H:=h
theorem bh{t1:TS}(h:c σ H λb H1=>if b=true then t1 { D with nx:=u D } σ H1 else u D σ H1):aT (ga c t1 lM) u D σ H:=h
theorem sA{K:PySem.W.Frag}{n:V}(h:ta σ H λx H1=>ff K [x,n] H1 Q):tCB (ff K) (b9 ta (b9 (tC n) dU)) σ H Q:=h
theorem cn{t1 t2:TS}(P:St->Hp->Prop)(h1:∀σ' H',P σ' H'->u D σ' H')(h2:(∀σ' H',P σ' H'->u D σ' H')->c σ H λb H1=>if b=true then t1 { D with nx:=u D } σ H1 else t2 { D with nx:=u D } σ H1):aT (ga c t1 t2) u D σ H:=h2 h1
theorem ca(h:te σ H λx H1=>D.nx (σ.set i (some x)) H1):eZ te (dD i) D σ H:=h
theorem aK(h:te σ H D.rt):ir te D σ H:=h
theorem jA(h:te σ H λ_ H1=>D.nx σ H1):iw te D σ H:=h
theorem gx(h:c σ H λb H1=>if b=true then t D σ H1 else u D σ H1):ga c t u D σ H:=h
theorem sC{K:Bool->Hp->Prop}(h:te σ H λx H'=>∃k,x=.bl k/\K k H'):tB te σ H K:=h
theorem gw{K:Bool->Hp->Prop}{tt:TT}(h:tt σ H λk H1=>K (!k) H1):lL tt σ H K:=h
theorem cD{K:Bool->Hp->Prop}{t1 t2:TT}(h:t1 σ H λk H1=>if k=true then t2 σ H1 K else K false H1):lP t1 t2 σ H K:=h
theorem jy{K:Bool->Hp->Prop}{t1 t2:TT}(h:t1 σ H λk H1=>if k=true then K true H1 else t2 σ H1 K):tOr t1 t2 σ H K:=h
theorem d0(h:ta σ H λx H1=>∃k,x=.bl k/\if k=true then tb σ H1 Q else Q (.bl false) H1):iy ta tb σ H Q:=h
theorem cX{K:List V->Hp->Prop}{t:TA}(h:ta σ H λx H1=>t σ H1 λxs H2=>K (x::xs) H2):b9 ta t σ H K:=h
theorem mV{t:TA}(h:t σ H λxs H1=>xs.length<=sizeLine/\∀p,H1 p=none->Q (.ref p) (upd H1 p (.lst xs))):lN t σ H Q:=h
theorem cm{A B:Prop}(h:A):if true=true then A else B:=by rw[if_pos rfl];exact h
theorem bO{A B:Prop}(h:B):if false=true then A else B:=by rw[if_neg Bg];exact h
theorem aD{p A B:Prop}[Decidable p](h1:p->A)(h2:¬p->B):if decide p=true then A else B:=by
 by_cases hp:p
 ·rw[if_pos (decide_eq_true hp)];exact h1 hp
 ·rw[if_neg (by rw[decide_eq_false hp];exact Bg)];exact h2 hp
theorem dY{p A B:Prop}[Decidable p](h1:¬p->A)(h2:p->B):if(!decide p)=true then A else B:=by
 by_cases hp:p
 ·rw[if_neg (by rw[decide_eq_true hp];exact Bg)];exact h2 hp
 ·rw[if_pos (by rw[decide_eq_false hp];rfl)];exact h1 hp
end
structure Cal(P:Program)(w:World)(K:PySem.W.Frag)(mg:Str->Option Value)(base:Heap)(k:Nat)(x:Str)(ps:List Str)(sp:Sp)(f:Addr)(fd:FuncData):Prop where
 ok:FnOk P w K mg base CX0 k f fd ps sp
 mg:mg x=some (.ref f)
 kp:PySem.W.keepIn K (.ref f)=true
 bd:Binds K fd ps []
theorem Same.upd_new{H:Hp}{p:Addr}{o:HO}(h:H p=none):Same H (upd H p o):=λb u e=>by rw[upd_ne (aH e h)];exact e
theorem Same.then_new{H H1:Hp}{p:Addr}{o:HO}(s:Same H H1)(h:H1 p=none):Same H (upd H1 p o):=s.trans (Same.upd_new h)
theorem Same.ne{H H1:Hp}{a p:Addr}{o:HO}(s:Same H H1)(e:H a=some o)(h:H1 p=none):a≠p:=aH (s a o e) h
section
variable {X:Cx}{K:PySem.W.Frag}
theorem aA(h:X.K=K):IxR X (jD K):=by subst h;exact wR
theorem al(h:X.K=K):IxR X (d7 K):=by subst h;exact wQ
theorem iG(h:X.K=K):SlR X (jC K):=by subst h;exact rE
noncomputable def sM(K:PySem.W.Frag):List V->Hp->VK->Prop:=λxs H Q=>∃p ys,xs=[.ref p]/\(SqL K H p ys\/SqT K H p ys)/\Q (.int ys.length) H
theorem bZ(h:X.K=K):CallR X (.builtin "len") (sM K):=by subst h;exact yi
noncomputable def sL(K:PySem.W.Frag):List V->Hp->VK->Prop:=λxs H Q=>∃p ys,xs=[.ref p]/\(SqL K H p ys\/SqT K H p ys)/\∀l,H l=none->Q (.ref l) (upd H l (.lst ys))
theorem ib(h:X.K=K):CallR X (.type "list") (sL K):=by subst h;exact yg
theorem nu(h:X.K=K)(hu:X.A.units+64<cLine):OpR X (compareOp .Eq) (m5 K):=by subst h;exact tX hu
theorem yj(h:X.K=K):CallR X (.builtin "isinstance") (ff K):=by subst h;exact yk
theorem di{tg l:Expr}{tl:TE}(h:X.K=K)(hl:PE X l tl):PI X tg l (oI K tl):=by subst h;exact tH hl
theorem tD{tg l:Expr}{tl:TE}(h:X.K=K)(hl:PE X l tl):PI X tg l (oH K tl):=by subst h;exact tE hl
theorem cp{e:Expr}{ta:TE}{f:Str}{pos:Pos}(h:X.K=K)(he:PE X e ta)(hb:attributeBase e f X.env (eval e X.env)=eval e X.env):PE X (.Attribute e f pos) (iu K ta f):=by subst h;exact tK he hb
end
noncomputable def Ite(K:PySem.W.Frag)(a:Addr):It :=
 ⟨λi H=>∃xs x,SqL K H a xs/\xs[i]?=some x,λi H x H'=>∃v p,x=.ref p/\H p=none/\H'=upd H p (.tup [.int i,v])/\∀xs,SqL K H a xs->xs[i]?=some v,λi H=>∃xs,SqL K H a xs/\xs.length<=i⟩
theorem qM{P:Program}{w:World}{K:PySem.W.Frag}{es:List Expr}{x1:Nat}{tp:Pos}(a e it:Addr)(hne:e≠it):Turn P w K (.Tuple es x1 tp) (Ite K a) [e,it] e (λi h=>(∃old,IsEnum h e it (i:Int) old)/\h.IsListIter it a i) where
 mem:=by simp
 obj:=λi h st b hb=>by
  obtain⟨⟨old,he⟩,hi⟩:=st;rcases Bb.mp hb with rfl |hb
  ·exact⟨_,he,λv z=>by cases z⟩
  ·have q:b=it:=by simpa using hb
   subst q;obtain⟨o,e,c,d⟩:=hi;exact⟨o,e,λv z=>by rw[d]at z;cases z⟩
 keep:=λi h h' st k=>by obtain⟨⟨old,he⟩,hi⟩:=st;exact⟨⟨old,k e (by simp) _ he⟩,hi.at λo q=>k it (by simp) o q⟩
 item:=by
  intro X hP hw hK hc i pins s σ H E I hf st hg;subst hP hw hK;obtain⟨⟨old,he⟩,hi⟩:=st;obtain⟨xs,x,hq,hx⟩:=hg;obtain⟨its,rv,p,hz⟩:=I.list hq;obtain⟨u,hu,ru⟩:=rv.get hx;refine wpAny_pyNext_enum_item he hi p.isList (x:=u) (by simpa using hu) hne λh' out hit' htup hsz kk=>?_
  have hfp:H s.heap.objs.size=none:=I.hok.fresh (A5 _);have nfp:∀b o,H b=some o->b≠e/\b≠it:=λb o q=>⟨λz=>(by rw[z,(hf e (by simp)).1]at q;cases q),λz=>(by rw[z,(hf it (by simp)).1]at q;cases q)⟩
  have I1:Inv X pins σ (upd H s.heap.objs.size (.tup [.int i,x])) { s with heap:=h',toks:=s.toks+1 }:=by
   refine I.step (g':=s.gens) (d':=s.drawn) (ch:=[e,it]) (λb hb=>?_) (λb o _ _ hc q _=>kk b o (λz=>hc (by simp[z])) (λz=>hc (by simp[z])) q)
    (λb o _ _ hc q _=>⟨o.slots,kk b o (λz=>hc (by simp[z])) (λz=>hc (by simp[z])) q⟩) (λb o _ q n=>by rw[upd_ne (Be (Heap.lt_size q))];exact n)
    (λb o hc q=>⟨o,kk b o (λz=>hc (by simp[z])) (λz=>hc (by simp[z])) q⟩) (λb ys q=>by rw[upd_ne (aH q hfp)];exact q) (λb o ys q=>by rw[upd_ne (aH q hfp)];exact q)
    (λb ps q=>⟨#[],by rw[upd_ne (aH q hfp),q];simp⟩) (λm hm=>?_) (λb o q=>?_) I.bare
   ·obtain⟨f0,f1,f2,f3,f4,f5⟩:=hf b hb;exact⟨f3,f1,f4,f5⟩
   ·obtain⟨o,es',ep',ho,r⟩:=hm;exact⟨o,es',ep',kk _ o (Ne.symm (hf e (by simp)).2.1) (Ne.symm (hf it (by simp)).2.1) ho,r⟩
   ·by_cases hb:b=s.heap.objs.size
    ·subst hb;rw[ah]at q;cases q;exact⟨by show 2<=sizeLine;decide,[.int i s.toks,u],.cons ⟨_,rfl⟩ (.cons ru .nil),⟨_,htup,rfl,_,rfl⟩⟩
    ·rw[upd_ne hb]at q;refine(I.hok b o q).stay (λc v hc z=>?_) (λc z=>by rw[upd_ne (aH z hfp)];exact z) λc ys z=>by rw[upd_ne (aH z hfp)];exact z
     rcases hc with rfl |hc
     ·exact kk c v (nfp c o q).1 (nfp c o q).2 z
     ·exact kk c v (nfp c _ hc).1 (nfp c _ hc).2 z
  refine⟨_,rfl,wpAny_letOwnedTupleGo_enum out λh'' he'' sb=>?_⟩;obtain⟨f0,f1,f2,f3,f4,f5⟩:=hf e (by simp)
  have hen:upd H s.heap.objs.size (.tup [.int i,x]) e=none:=by rw[upd_ne (Be (Heap.lt_size he))];exact f0
  have I2:=I1.turned (h':=h'') (t':=s.toks+1) (it:=e) (λb o hb q=>(sb.2 b hb).trans q) hen f1 f3 f4 f5;refine⟨.ref s.heap.objs.size,_,I2,rfl,⟨x,_,rfl,hfp,rfl,λys hy=>by rw[I.list_inj hy hq];exact hx⟩,⟨⟨u,?_⟩,hit'.at λo q=>(sb.2 it (Ne.symm hne)).trans q⟩,λb hb=>?_⟩
  ·have:((i+1:Nat):Int)=(i:Int)+1:=by omega
   rw[this];exact he''
  ·have hlt:b<s.heap.objs.size:=by
    rcases Bb.mp hb with rfl |hb
    ·exact Heap.lt_size he
    ·have q:b=it:=by simpa using hb
     subst q;obtain⟨o,e1,_⟩:=hi;exact Heap.lt_size e1
   rw[upd_ne (Be hlt)];exact(hf b hb).1
 done:=by intro X hP hw hK hc i pins s σ H E I hf st hg;subst hP hw hK;obtain⟨⟨old,he⟩,hi⟩:=st;obtain⟨xs,hq,hx⟩:=hg;obtain⟨its,rv,p,hz⟩:=I.list hq;obtain⟨f0,f1,f2,f3,f4,f5⟩:=hf it (by simp);have hl:=rv.length;exact wpAny_pyNext_enum_end (I.ok.hd hc) he hi p.isList (by simp;omega) λh' eb=>⟨rfl,I.turned (t':=s.toks) (λb o hb e=>eb b o hb e) f0 f1 f3 f4 f5⟩
 self:=λ_ _ _ _ _ st h=>by obtain⟨⟨old,he⟩,hi⟩:=st;exact wpAny_pyIter_enum he h
section
variable {X:Cx}
def wZ(K:PySem.W.Frag)(ta:TA):TI:=λσ H R=>ta σ H λvs H1=>∃a,vs=[.ref a]/\(∃xs,SqL K H1 a xs)/\R (Ite K a) H1
theorem jL{es:List Expr}{x1:Nat}{tp:Pos}{a:Expr}{ta:TA}{p pos:Pos}(hg:Gl X "enumerate")(hm:X.mg "enumerate"=none)(ha:PA X [a] ta)(hs:starEach [a] X.env=[(false,eval a X.env)]:=by rfl):PI X (.Tuple es x1 tp) (.Call (.Name "enumerate" p) [a] [] pos) (wZ X.K ta):=by
 intro pins s σ H R I h;refine Call_ (dA I hg hm boot_enumerate (PyProof.Rows.callWith_type1 (thn (ha pos pins s σ H _ I h) λus s1 ⟨vs,H1,I1,r1,q1⟩=>?_) hs rfl));obtain⟨a',e,⟨xs,hq⟩,q⟩:=q1;subst e;obtain⟨u,rfl,ru⟩:=r1.one;cases ru;obtain⟨its,rv,pl,hz⟩:=I1.list hq;refine call_enumerate_list pl.isList λh' he hit hsz hk=>?_
 have I2:Inv X pins σ H1 { s1 with heap:=h' }:=I1.kept (t':=s1.toks) hk;refine wpAny_pyIter_enum he ?_;refine⟨s1.heap.objs.size+1,[s1.heap.objs.size+1,s1.heap.objs.size],_,_,H1,rfl,I2,qM a' _ _ (Nat.succ_ne_self _),⟨⟨_,he⟩,hit⟩,λb hb=>?_,q⟩
 have hb':s1.heap.objs.size<=b:=by
  rcases Bb.mp hb with rfl |hb
  ·exact Nat.le_succ _
  ·have q:b=s1.heap.objs.size:=by simpa using hb
   subst q;exact A5 _
 exact I1.fpOk hb' (I1.hok.fresh hb')
end
theorem kr{K:PySem.W.Frag}{a:Addr}{xs:List V}{g:TG}{tb:TS}{D:bU}{σ:St}{H:Hp}(Pv:Nat->St->Hp->Prop)(h0:Pv 0 σ H)(hl:∀i σ H,i<=xs.length->Pv i σ H->SqL K H a xs)
 (hs:∀i x σ H p,xs[i]?=some x->Pv i σ H->H p=none->g (.ref p) σ (upd H p (.tup [.int i,x])) λσ2 H2=>tb { D with nx:=Pv (i+1),ct:=Pv (i+1),bk:=D.nx } σ2 H2) (hd:∀σ H,Pv xs.length σ H->D.nx σ H) :
 ∃W:Nat->Nat->St->Hp->Prop,(∃m,W 0 m σ H)/\∀i m σ H,W i m σ H ->
  ((Ite K a).stop i H/\D.nx σ H)\/((Ite K a).go i H/\∃N:St->Hp->Prop,(∀σ' H',N σ' H'->∃m',m'<m/\W (i+1) m' σ' H')/\∀x H',(Ite K a).yld i H x H'->g x σ H' λσ2 H2=>tb { D with nx:=N,ct:=N,bk:=D.nx } σ2 H2):=by
 refine⟨λi m σ H=>m=xs.length-i/\i<=xs.length/\Pv i σ H,⟨xs.length,by simp,A8 _,h0⟩,?_⟩;rintro i m σ H ⟨rfl,hi,p⟩;have q:=hl i σ H hi p;by_cases hlt:i<xs.length
 ·refine .inr ⟨⟨xs,xs[i],q,by simp[hlt]⟩,Pv (i+1),λσ' H' p'=>⟨xs.length-(i+1),by omega,rfl,hlt,p'⟩,λx H' y=>?_⟩;obtain⟨v,r,rfl,hr,rfl,y⟩:=y;exact hs i v σ _ r (y xs q) p hr
 ·have e:i=xs.length:=by omega
  subst e;exact .inl ⟨⟨xs,q,A5 _⟩,hd σ H p⟩
noncomputable def Itv(K:PySem.W.Frag)(a:Addr)(xs:List V):It :=
 ⟨λi H=>SqL K H a xs/\i<xs.length,λi H x H'=>H'=H/\xs[xs.length-1-i]?=some x,λi H=>xs.length<=i⟩
theorem qI{P:Program}{w:World}{K:PySem.W.Frag}{tg:Expr}(a it:Addr)(xs:List V):Turn P w K tg (Itv K a xs) [it] it (λi h=>i<=xs.length/\h.IsRevIter it a ((xs.length:Int)-1-i)) where
 mem:=by simp
 obj:=λi h st b hb=>by
  have e:b=it:=by simpa using hb
  subst e;obtain⟨_,o,e,c,d⟩:=st;exact⟨o,e,λv z=>by rw[d]at z;cases z⟩
 keep:=λi h h' st k=>⟨st.1,st.2.at λo e=>k it (by simp) o e⟩
 item:=by
  intro X hP hw hK hc i pins s σ H E I hf st hg;subst hP hw hK;obtain⟨hq,hlt⟩:=hg;obtain⟨its,rv,p,hz⟩:=I.list hq;have hl:=rv.length;obtain⟨x,hx⟩:∃x,xs[xs.length-1-i]?=some x:=⟨_,List.getElem?_eq_getElem (by omega)⟩;obtain⟨u,hu,ru⟩:=rv.get hx;obtain⟨f0,f1,f2,f3,f4,f5⟩:=hf it (by simp);have e1:(xs.length:Int)-1-i=((xs.length-1-i:Nat):Int):=by omega
  have hit:=st.2;rw[e1]at hit;refine wpAny_pyNext_rev_item hit p.isList (x:=u) (by simpa using hu) λh' st' sb=>?_
  have I1:Inv X pins σ H { s with heap:=h' }:=I.turned (t':=s.toks) (λb o hb e=>(sb.2 b hb).trans e) f0 f1 f3 f4 f5;obtain⟨o,e,c,d⟩:=id st';refine⟨u,rfl,fD (s:={ s with heap:=h' }) e c d (by decide) ⟨x,H,I1,ru,⟨rfl,hx⟩,⟨hlt,?_⟩,λb hb=>(hf b hb).1⟩⟩;have e2:(xs.length:Int)-1-((i+1:Nat):Int)=((xs.length-1-i:Nat):Int)-1:=by omega
  rw[e2];exact st'
 done:=by
  intro X hP hw hK hc i pins s σ H E I hf st hg;subst hP hw hK;obtain⟨f0,f1,f2,f3,f4,f5⟩:=hf it (by simp);have hle:xs.length<=i:=hg;have e1:(xs.length:Int)-1-i = -1:=by have:=st.1;omega
  have hit:=st.2;rw[e1]at hit;exact wpAny_pyNext_rev_end (I.ok.hd hc) hit λh' eb=>⟨rfl,I.turned (t':=s.toks) (λb o hb e=>eb b o hb e) f0 f1 f3 f4 f5⟩
 self:=λ_ _ _ _ _ st h=>wpAny_pyIter_revIter st.2 h
section
variable {X:Cx}{tg:Expr}
def wY(K:PySem.W.Frag)(ta:TA):TI:=λσ H R=>ta σ H λvs H1=>∃a xs,vs=[.ref a]/\SqL K H1 a xs/\R (Itv K a xs) H1
theorem tF{a:Expr}{ta:TA}{p pos:Pos}(hg:Gl X "reversed")(hm:X.mg "reversed"=none)(ha:PA X [a] ta)(hs:starEach [a] X.env=[(false,eval a X.env)]:=by rfl):PI X tg (.Call (.Name "reversed" p) [a] [] pos) (wY X.K ta):=by
 intro pins s σ H R I h;refine Call_ (dA I hg hm boot_reversed (PyProof.Rows.callWith_type1 (thn (ha pos pins s σ H _ I h) λus s1 ⟨vs,H1,I1,r1,q1⟩=>?_) hs rfl));obtain⟨a',xs,e,hq,q⟩:=q1;subst e;obtain⟨u,rfl,ru⟩:=r1.one;cases ru;obtain⟨its,rv,pl,hz⟩:=I1.list hq;have hl:=rv.length;refine call_reversed_list pl.isList ?_
 have hit:(s1.heap.push (revObj a' ((its.toArray.size:Int)-1))).IsRevIter s1.heap.objs.size a' ((xs.length:Int)-1-((0:Nat):Int)):=by
  have e1:(xs.length:Int)-1-((0:Nat):Int)=(its.toArray.size:Int)-1:=by rw[A7];omega
  rw[e1];exact⟨_,Heap.get?_push_size _ rfl,rfl,rfl⟩
 have I2:Inv X pins σ H1 { s1 with heap:=s1.heap.push (revObj a' ((its.toArray.size:Int)-1)) }:=I1.kept (t':=s1.toks) λb o e=>Heap.get?_push_of_some _ e
 refine wpAny_pyIter_revIter (s:={ s1 with heap:=s1.heap.push (revObj a' ((its.toArray.size:Int)-1)) }) hit ?_;refine⟨s1.heap.objs.size,[s1.heap.objs.size],_,_,H1,rfl,I2,qI a' _ xs,⟨A8 _,hit⟩,λb hb=>?_,q⟩;have e:b=s1.heap.objs.size:=by simpa using hb
 subst e;exact I1.fpOk (A5 _) (I1.hok.fresh (A5 _))
end
theorem xz{K:PySem.W.Frag}{a:Addr}{xs:List V}{g:TG}{tb:TS}{D:bU}{σ:St}{H:Hp}(Pv:Nat->St->Hp->Prop)(h0:Pv 0 σ H)(hl:∀i σ H,i<=xs.length->Pv i σ H->SqL K H a xs)
 (hs:∀i x σ H,i<xs.length->xs[xs.length-1-i]?=some x->Pv i σ H->g x σ H λσ2 H2=>tb { D with nx:=Pv (i+1),ct:=Pv (i+1),bk:=D.nx } σ2 H2) (hd:∀σ H,Pv xs.length σ H->D.nx σ H) :
 ∃W:Nat->Nat->St->Hp->Prop,(∃m,W 0 m σ H)/\∀i m σ H,W i m σ H ->
  ((Itv K a xs).stop i H/\D.nx σ H)\/((Itv K a xs).go i H/\∃N:St->Hp->Prop,(∀σ' H',N σ' H'->∃m',m'<m/\W (i+1) m' σ' H')/\∀x H',(Itv K a xs).yld i H x H'->g x σ H' λσ2 H2=>tb { D with nx:=N,ct:=N,bk:=D.nx } σ2 H2):=by
 refine⟨λi m σ H=>m=xs.length-i/\i<=xs.length/\Pv i σ H,⟨xs.length,by simp,A8 _,h0⟩,?_⟩;rintro i m σ H ⟨rfl,hi,p⟩;by_cases hlt:i<xs.length
 ·refine .inr ⟨⟨hl i σ H hi p,hlt⟩,Pv (i+1),λσ' H' p'=>⟨xs.length-(i+1),by omega,rfl,hlt,p'⟩,λx H' y=>?_⟩;obtain⟨e,y⟩:=y;subst e;exact hs i x σ _ hlt y p
 ·have e:i=xs.length:=by omega
  subst e;exact .inl ⟨A5 _,hd σ H p⟩
structure FunD(K:PySem.W.Frag)(x qual:Str)(st:Stmt)(dV:Value)(f:Addr)(fd:FuncData):Prop where
 ex:∃(oc:Value) (od:Option Addr) (kV doc pm:Value) (an:Option Addr) (cdv ct:Value) (osl:Array (Option Value)),
  fd=PySem.W.fnOf x qual (bS st) (bL st) (aq st) dV kV doc pm an cdv ct/\K.lookup f=some ⟨oc,od,.func fd,osl⟩/\PySem.W.codeIn K cdv qual=true
 kp:PySem.W.keepIn K (.ref f)=true
section
variable {P:Program}{w:World}{K:PySem.W.Frag}{mg:Str->Option Value}{base:Heap}
theorem FunD.ok{x qual:Str}{st:Stmt}{dV:Value}{f:Addr}{fd:FuncData}{N ps:List Str}{k:Nat}{sp:Sp}(F:FunD K x qual st dV f fd)(S:FnScope N ps (aq st))(len:∀vs H Q E,sp vs H Q E->vs.length=ps.length)
 (hbody:∀(cdv:Value) (A:Around) (outer:List Env) (s:Shared) (H:Hp) (vs:List V) (Q:VK) (E:XK),Room k (A.deeper (envOfC qual (aq st) s.heap.objs.size f cdv))->sp vs H Q E ->
   ∃t,PSs (dG CX0 P w K mg base N qual (aq st) f cdv A outer s H E).nox (bL st) t/\t { nx:=λ_ H'=>Q .non H',rt:=Q } (cB N vs) H):FnOk P w K mg base CX0 (k+1) f fd ps sp:=by
 obtain⟨oc,od,kV,doc,pm,an,cdv,ct,osl,rfl,lk,hcd⟩:=F.ex;refine oX lk hcd S len λA outer s H vs Q E hr hsp=>?_
 obtain⟨t,h,q⟩:=hbody cdv A outer s H vs Q E hr hsp;exact⟨t,h.nox,q⟩
theorem FunD.binds{x qual:Str}{st:Stmt}{dV:Value}{f:Addr}{fd:FuncData}{ps:List Str}(F:FunD K x qual st dV f fd)
 (h:∀(kV doc pm:Value) (an:Option Addr) (cdv ct:Value) (us:List Value),us.length=ps.length->bindArgs (PySem.W.fnOf x qual (bS st) (bL st) (aq st) dV kV doc pm an cdv ct) ⟨us,[]⟩=pure (ps.zip us)):Binds K fd ps []:=by
 obtain⟨oc,od,kV,doc,pm,an,cdv,ct,osl,rfl,lk,hcd⟩:=F.ex;exact .all (h kV doc pm an cdv ct)
theorem FunD.bindsD{x qual:Str}{st:Stmt}{T:Addr}{f:Addr}{fd:FuncData}{ps:List Str}{ds tup:List Value}{o:Obj}{n:Nat}(m:Nat)(F:FunD K x qual st (.ref T) f fd)(lo:K.lookup T=some o)(hs:o.data=.seq tup.toArray n)(hm:m+ds.length=ps.length)
 (h:∀(kV doc pm:Value) (an:Option Addr) (cdv ct:Value) (us:List Value),us.length=m->∃k:Option (Array Value)->Sem (List (Str×Value)),
   bindArgs (PySem.W.fnOf x qual (bS st) (bL st) (aq st) (.ref T) kV doc pm an cdv ct) ⟨us,[]⟩=seqItems? (.ref T) >>= k/\k (some tup.toArray)=pure (ps.zip (us++ds))):Binds K fd ps ds:=by
 obtain⟨oc,od,kV,doc,pm,an,cdv,ct,osl,rfl,lk,hcd⟩:=F.ex;intro s us KX hl;rw[Ba]at hl;obtain⟨k,h1,h2⟩:=h kV doc pm an cdv ct us (by omega);exact PySem.W.binds_K (k:=k) KX rfl lo hs h1 h2
theorem xx{x qual:Str}{st:Stmt}{f:Addr}{oc:Value}{od an:Option Addr}{osl:Array (Option Value)}{dV kV doc pm cdv ct:Value}(l:K.lookup f=some ⟨oc,od,.func (PySem.W.fnOf x qual (bS st) (bL st) (aq st) dV kV doc pm an cdv ct),osl⟩)
 (c:PySem.W.codeIn K cdv qual=true) (k:PySem.W.keepIn K (.ref f)=true):FunD K x qual st dV f (PySem.W.fnOf x qual (bS st) (bL st) (aq st) dV kV doc pm an cdv ct):=⟨⟨oc,od,kV,doc,pm,an,cdv,ct,osl,rfl,l,c⟩,k⟩
end
structure MCal(P:Program)(w:World)(K:PySem.W.Frag)(mg:Str->Option Value)(base:Heap)(k:Nat)(C:Addr)(m:Str)(ps:List Str)(sp:Sp)(f:Addr)(fd:FuncData):Prop where
 ok:FnOk P w K mg base CX0 k f fd ps sp
 mt:Meth K C m f
 bd:Binds K fd ps []
structure KCal(P:Program)(w:World)(K:PySem.W.Frag)(mg:Str->Option Value)(base:Heap)(k:Nat)(C:Addr)(x:Str)(ps:List Str)(sp:Sp)(f:Addr)(fd:FuncData)(ds:List Value)(dvs:List V):Prop where
 ok:FnOk P w K mg base CX0 k f fd ps sp
 mkr:Mk K C f
 mg:mg x=some (.ref C)
 bd:Binds K fd ps []
 bdD:Binds K fd ps ds
 vd:Vals dvs ds
section
variable {prog:Program}{w:World}{A:Around}{E:Value->Shared->Prop}{s:Shared}
end
section
variable {X:Cx}{K:PySem.W.Frag}
end
section
variable {P:Program}{w:World}{K:PySem.W.Frag}{mg:Str->Option Value}{base:Heap}{N:List Str}{qual:Str}{scope:Scope}{f:Addr}{cd:Value}{A:Around}{outer:List Env}{s:Shared}{H:Hp}{E:XK}{pins:List (Addr×Obj)}{σ:St}{H1:Hp}{s1:Shared}
end
noncomputable def eW(lo:Int)(n:Nat):It:=⟨λi _=>i<n,λi H x H'=>H'=H/\x=.int (lo+i * -1),λi _=>n<=i⟩
theorem qJ{P:Program}{w:World}{K:PySem.W.Frag}{tg:Expr}(it:Addr)(lo:Int)(n:Nat):Turn P w K tg (eW lo n) [it] it (λi h=>IsRangeIter h it (lo+(i:Nat) * -1) ((n:Int)-(i:Nat)) (-1)) where
 mem:=by simp
 obj:=λi h st b hb=>by
  have e:b=it:=by simpa using hb
  subst e
  exact⟨_,st,λv z=>by
   have z':Data.fields _=Data.cell v:=z
   cases z'⟩
 keep:=λi h h' st k=>k it (by simp) _ st
 item:=by
  intro X hP hw hK hc i pins s σ H E I hf st hg;subst hP hw hK;obtain⟨f0,f1,f2,f3,f4,f5⟩:=hf it (by simp);have W:=Walks.range (prog:=X.prog) (w:=X.w) (I.ok.hd hc) it lo (-1) n;refine W.item i s _ _ hg st λv h' tk hv st' kk=>?_
  obtain⟨t,rfl⟩:=hv;have I1:Inv X pins σ H { s with heap:=h',toks:=tk }:=I.turned (λb o hb e=>kk b o (by simpa using hb) e) f0 f1 f3 f4 f5;exact⟨_,rfl,fD (s:={ s with heap:=h',toks:=tk }) (n:="range_iterator") st' rfl rfl (by decide) ⟨.int (lo+i * -1),H,I1,⟨t,rfl⟩,⟨rfl,rfl⟩,st',λb hb=>(hf b hb).1⟩⟩
 done:=by intro X hP hw hK hc i pins s σ H E I hf st hg;subst hP hw hK;obtain⟨f0,f1,f2,f3,f4,f5⟩:=hf it (by simp);exact wpAny_pyNext_range_end (I.ok.hd hc) st (by have:n<=i:=hg;omega) λh' eb=>⟨rfl,I.turned (t':=s.toks) (λb o hb e=>eb b o hb e) f0 f1 f3 f4 f5⟩
 self:=λ_ _ _ _ _ st h=>wpAny_pyIter_rangeiter st h
theorem mX(a b:Int):Builtin.Range.rangeSize a b (-1)=if b<a then a-b else 0:=by unfold Builtin.Range.rangeSize;rw[if_neg (by decide)];show(if a>b then(a-b-1)/1+1 else 0)=_;rw[Int.ediv_one];split<;>omega
theorem rq{a b:Int}(ha : -(2^61)<=a)(ha':a<2^61)(hb : -(2^61)<=b)(hb':b<2^61):Builtin.Range.small a b (-1)=true:=by unfold Builtin.Range.small;rw[mX];simp only[Builtin.Range.rangeFitsLong,BV,Bool.or_eq_true,decide_eq_true_eq,beq_iff_eq,show ¬((-1:Int)>0) by decide,if_false];split<;>omega
section
variable {X:Cx}{tg:Expr}
theorem sG{pins:List (Addr×Obj)}{σ:St}{H:Hp}{s:Shared}{R:It->Hp->Prop}{E:Value->Shared->Prop}{lo hi:Int}{t u v:Tok}{tk:Nat}(I:Inv X pins σ H s)(h1 : -(2^61)<=lo)(h2:lo<2^61)(h3 : -(2^61)<=hi)(h4:hi<2^61)
 (q:R (eW lo (lo-hi).toNat) H):wpAny (model X.prog X.w) X.A (pyIter (.ref s.heap.objs.size)) (PIE X pins σ tg R) E { s with heap:=s.heap.push { cls:=.type "range",data:=.fields #[.int lo t,.int hi u,.int (-1) v] },toks:=tk }:=by
 refine wpAny_pyIter_range (IsRange.new ..) (rq h1 h2 h3 h4) ?_;have I1:Inv X pins σ H { s with heap:=s.heap.push { cls:=.type "range",data:=.fields #[.int lo t,.int hi u,.int (-1) v] },toks:=tk }:=I.kept λb o e=>Heap.get?_push_of_some _ e
 refine⟨(s.heap.push { cls:=.type "range",data:=.fields #[.int lo t,.int hi u,.int (-1) v] }).objs.size,[(s.heap.push { cls:=.type "range",data:=.fields #[.int lo t,.int hi u,.int (-1) v] }).objs.size],_,_,H,rfl,
  I1.kept (t':=tk) λb o e=>Heap.get?_push_of_some _ e,qJ _ lo (lo-hi).toNat,?_,λb hb=>?_,q⟩
 ·have e1:lo+((0:Nat):Int) * -1=lo:=by simp
  have e2:(((lo-hi).toNat:Nat):Int)-((0:Nat):Int)=Builtin.Range.rangeSize lo hi (-1):=by rw[mX];split<;>omega
  show IsRangeIter _ _ (lo+((0:Nat):Int) * -1) ((((lo-hi).toNat:Nat):Int)-((0:Nat):Int)) (-1);rw[e1,e2];exact Heap.get?_push_size _ rfl
 ·have e:b=(s.heap.push { cls:=.type "range",data:=.fields #[.int lo t,.int hi u,.int (-1) v] }).objs.size:=by simpa using hb
  subst e;exact I1.fpOk (A5 _) (I1.hok.fresh (A5 _))
def wW(ta:TA):TI:=λσ H R=>ta σ H λvs H1=>∃i j:Int,vs=[.int i,.int j,.int (-1)]/\(-(2^61)<=i/\i<2^61 /\ -(2^61)<=j/\j<2^61)/\R (eW i (i-j).toNat) H1
theorem tG{a b c:Expr}{ta:TA}{p pos:Pos}(hg:Gl X "range")(hm:X.mg "range"=none)(ha:PA X [a,b,c] ta)(hs:starEach [a,b,c] X.env=[(false,eval a X.env),(false,eval b X.env),(false,eval c X.env)]:=by rfl)(hs2:starEach [b,c] X.env=[(false,eval b X.env),(false,eval c X.env)]:=by rfl) :
 PI X tg (.Call (.Name "range" p) [a,b,c] [] pos) (wW ta):=by
 intro pins s σ H R I h;refine Call_ (dA I hg hm boot_range (PyProof.Rows.callWith_type1 (thn (ha pos pins s σ H _ I h) λus s1 ⟨vs,H1,I1,r1,q1⟩=>?_) (by rw[hs,hs2]) (by rw[hs2];rfl)));obtain⟨i,j,e,⟨q1,q2,q3,q4⟩,q⟩:=q1;subst e;cases r1 with
 |cons r rr =>
  cases rr with
  |cons r' rr =>
   cases rr with
   |cons r'' rr =>cases rr;obtain⟨t,rfl⟩:=r;obtain⟨t',rfl⟩:=r';obtain⟨t'',rfl⟩:=r'';exact call_range_3 (by decide) (sG I1 q1 q2 q3 q4 q) (Or.inl (PyProof.noPylong_small (by decide)))
end
theorem xA{lo:Int}{n:Nat}{g:TG}{tb:TS}{D:bU}{σ:St}{H:Hp}(Pv:Nat->St->Hp->Prop)(h0:Pv 0 σ H)
 (hs:∀i σ H,i<n->Pv i σ H->g (.int (lo+i * -1)) σ H λσ2 H2=>tb { D with nx:=Pv (i+1),ct:=Pv (i+1),bk:=D.nx } σ2 H2) (hd:∀σ H,Pv n σ H->D.nx σ H) :
 ∃W:Nat->Nat->St->Hp->Prop,(∃m,W 0 m σ H)/\∀i m σ H,W i m σ H ->
  ((eW lo n).stop i H/\D.nx σ H)\/((eW lo n).go i H/\∃N:St->Hp->Prop,(∀σ' H',N σ' H'->∃m',m'<m/\W (i+1) m' σ' H')/\∀x H',(eW lo n).yld i H x H'->g x σ H' λσ2 H2=>tb { D with nx:=N,ct:=N,bk:=D.nx } σ2 H2):=by
 refine⟨λi m σ H=>m=n-i/\i<=n/\Pv i σ H,⟨n,by simp,A8 _,h0⟩,?_⟩;rintro i m σ H ⟨rfl,hi,p⟩;by_cases hlt:i<n
 ·refine .inr ⟨hlt,Pv (i+1),λσ' H' p'=>⟨n-(i+1),by omega,rfl,hlt,p'⟩,λx H' y=>?_⟩;obtain⟨e,y⟩:=y;subst e y;exact hs i σ _ hlt p
 ·have e:i=n:=by omega
  subst e;exact .inl ⟨A5 _,hd σ H p⟩
section
variable {X:Cx}{K:PySem.W.Frag}
end
theorem wo{P:Program}{w:World}{K:PySem.W.Frag}{mg mb:Str->Option Value}{CX:CXT}{k:Nat}{fa a:Addr}{fd:FuncData}{x:Str}{sp:Sp}{s₁:Shared}{vs:List Value}{ns:List Int}
 (KX:K.In s₁.heap) (hns:s₁.heap.Ns mainGlobals mg) (hb:s₁.heap.Ns builtinsNs mb) (hbb:∀x:Str,x≠"__name__"->mb x=bootBuiltins x) (hlim:s₁.heap.NoLimit) (hse:s₁.heap.NoSeer) (hg:s₁.gens=#[])
 (ha:s₁.heap.get? a=some { cls:=.type "list",data:=.seq vs.toArray }) (hi:IntsAre vs ns) (hl:ns.length<=sizeLine) (hr:Room k callerA)
 (F:∀base:Heap,K.In base->base.Ns mainGlobals mg->base.NoSeer->FnOk P w K mg base CX k fa fd [x] sp) (hbind:∀(s:Shared) (u:Value),BindsTo s fd ⟨[u],[]⟩ [(x,u)])
 (hsp:∀H:Hp,k9 H->SqL K H a (ns.map V.int)->sp [.ref a] H (λv _=>v=.bl true) λ_ _ _=>False)
 (hCX:∀H e s',CX [] H s₁ (λ_ _ _=>False) e s'->False) :
 codeAny (model P w) callerA (.call (.ref fa) ⟨[.ref a],[]⟩) (λr s'=>r=.ok (.ret (.bool true))/\OldK s₁.heap s'.heap/\s'.os=s₁.os/\AllBare s'.gens) s₁:=by
 have rv:=lD hi;have lenV:=hi.length
 have core:∀H:Hp,k9 H->SqL K H a (ns.map V.int)->HOk P w H s₁.heap->(∀b,H b≠none->b=a)->(H a≠none->K.lookup a=none) ->
  codeAny (model P w) callerA (.call (.ref fa) ⟨[.ref a],[]⟩) (λr s'=>r=.ok (.ret (.bool true))/\OldK s₁.heap s'.heap/\s'.os=s₁.os/\AllBare s'.gens) s₁:=by
  intro H hO hS hok hA hK;have base_of:∀{b:Addr} {o:Obj},s₁.heap.get? b=some o->H b=none->(cw s₁.heap H).get? b=some o:=λe n=>xc e n
  have noA:∀{b:Addr} {o:Obj} {es:Array DictEntry} {ep:Nat},s₁.heap.get? b=some o->o.data=.dict es ep->H b=none:=λ{b o es ep} e d=>by
   cases q:H b with
   |none=>rfl
   |some u =>have e':b=a:=hA b (by rw[q];simp);subst e';rw[ha]at e;cases e;have d':Data.seq vs.toArray _=Data.dict es ep:=d;cases d'
  have nsK:∀{b:Addr} {m:Str->Option Value},s₁.heap.Ns b m->(cw s₁.heap H).Ns b m:=λ{b m} ⟨o,es,ep,e,d,r⟩=>⟨o,es,ep,base_of e (noA e d),d,r⟩
  have hKb:K.In (cw s₁.heap H):=λb o e=>base_of (KX b o e) (by
   cases q:H b with
   |none=>rfl
   |some u =>
    have e':b=a:=hA b (by rw[q];simp);subst e'
    rw[hK (by rw[q];simp)]at e;cases e)
  have hM:Mod K mg (cw s₁.heap H):=⟨hKb,nsK hns,⟨mb,nsK hb,hbb⟩,let⟨mc,h1,h2⟩:=hlim;⟨mc,nsK h1,h2⟩⟩
  have hSb:(cw s₁.heap H).NoSeer:=by
   obtain⟨⟨mc,c1,c2,c3⟩,⟨mm,m1,m2⟩,⟨mb',b1,b2⟩,⟨mg',bm,ob,g1,g2,g3,g4,g5⟩⟩:=hse;refine⟨⟨mc,nsK c1,c2,c3⟩,⟨mm,nsK m1,m2⟩,⟨mb',nsK b1,b2⟩,⟨mg',bm,ob,nsK g1,g2,base_of g3 ?_,g4,g5⟩⟩;cases q:H bm with
   |none=>rfl
   |some u =>have e':bm=a:=hA bm (by rw[q];simp);rw[e',ha]at g3;cases g3;exact absurd (Value.type.inj g4) (by decide)
  have e0:Env0 P w K mg (cw s₁.heap H) callerA [] s₁ H:=⟨rfl,hM,λb o e=>vh e,BK (xb _ _),trivial,λb hb=>absurd (show b∈([]:List Addr)from hb) (by simp),hok,.of_eq hg⟩;refine codeAny_mono ((F _ hKb (nsK hns) hSb).run callerA [] s₁ H ⟨[.ref a],[]⟩ [.ref a] [.ref a] _ _ hr e0 (hbind s₁ (.ref a)) (.cons rfl .nil) (hsp H hO hS)) λr s' h=>?_
  cases r with
  |error e=>exact(hCX H e s' h).elim
  |ok fl =>
   cases fl with
   |next=>exact False.elim h
   |brk=>exact False.elim h
   |cont=>exact False.elim h
   |ret u =>
    obtain⟨v,H',os,bare,un,hok',r',q⟩:=h;have q':v=.bl true:=q;subst q';obtain rfl:u=Value.bool true:=r';refine⟨rfl,OldK.of_keep λb o e=>?_,os,bare⟩;cases q:H b with
    |none=>exact un.keep b o e q (by intro z;exact absurd (show b∈([]:List Addr)from z) (by simp)) (by simp)
    |some u =>
     rcases hO b with z |⟨ob,xs,z⟩
     ·rw[q]at z;cases z
     ·have z2:=un.frzs b ob _ z;obtain⟨e1,_⟩:=hok b _ z;obtain⟨e2,_⟩:=hok' b _ z2;rw[e]at e1;cases e1;exact e2
 cases hk:K.lookup a with
 |some o =>have e:=KX a o hk;rw[ha]at e;cases e;refine core (λ_=>none) (λ_=>.inl rfl) (.inr ⟨_,vs.toArray,_,hk,rfl,rfl,rfl,by rw[A7,lenV];exact hl,by simpa using rv⟩) (λb u z=>by have z':(none:Option HO)=some u:=z;cases z') (λb z=>absurd rfl z) λz=>absurd rfl z
 |none =>
  refine core (λb=>if b=a then some (.frz { cls:=.type "list",data:=.seq vs.toArray } (.lst (ns.map V.int)))else none) (λb=>?_) (.inl (.inr ⟨{ cls:=.type "list",data:=.seq vs.toArray },if_pos rfl⟩)) (λb u z=>?_) (λb z=>?_) λ_=>hk
  ·by_cases hb:b=a
   ·exact .inr ⟨_,_,if_pos hb⟩
   ·exact .inl (if_neg hb)
  ·by_cases hb:b=a
   ·have z':=(if_pos hb).symm.trans z;cases z';subst hb;exact⟨ha,by rw[A4];exact hl,vs,_,rv,ha⟩
   ·have z':=(if_neg hb).symm.trans z;cases z'
  ·by_cases hb:b=a
   ·exact hb
   ·exact absurd (if_neg hb) z
theorem walk_ofS{l:PySem.W.OpenLaw}{n k:Nat}{q:Program}{loose:List Str}{XP:(Str->Option Value)->Heap->Prop}{YP:World->Heap->Prop}{d:DefRec}{K:Params->PySem.W.Frag}{CX:World->CXT}{sp:World->Sp}{x:Str}
 (hi:PyProof.Rows.importsNone q=true) (hn:l.most=some n) (hn2:n<=sizeLine) (hdf:d.params.defaults=[]) (hr:Room k callerA)
 (hY:∀(w:World) (h:Heap),YP w h->(K w.params).In h)
 (F:∀(w:World) (mg:Str->Option Value) (fa:Addr) (h:Heap),(K w.params).In h->h.Ns mainGlobals mg->mg d.name=some (.ref fa) ->
   ∃fd:FuncData,(∀(s:Shared) (u:Value),BindsTo s fd ⟨[u],[]⟩ [(x,u)]) /\
    ∀base:Heap,(K w.params).In base->base.Ns mainGlobals mg->base.NoSeer->FnOk l.prog w (K w.params) mg base (CX w) k fa fd [x] (sp w))
 (hsp:∀(w:World) (H:Hp) (a:Addr) (ns:List Int),ns.length<=n->k9 H->SqL (K w.params) H a (ns.map V.int)->sp w [.ref a] H (λv _=>v=.bl true) λ_ _ _=>False)
 (hCX:∀(w:World) (H:Hp) (s:Shared) (e:Value) (s':Shared),CX w [] H s (λ_ _ _=>False) e s'->False) :
 PySem.W.WalkO q loose XP YP l.row.toRowW d [] (λf vs=>PySem.call f vs):=by
 refine Att.attach_call hn hdf λw s₀ s₁ mg mb fa o pm cd doc a vs ns G Y ho hd hcd hmg hobj hints hlen hg=>?_
 have KX:=hY w _ Y;obtain⟨fd,hb,hF⟩:=F w mg fa _ KX G.T.g hmg;exact wo KX G.T.g G.T.b G.T.builtins G.T.nolimit (G.T.seer hi) hg hobj hints (Bk hlen hn2) hr hF hb (λH hO hS=>hsp w H a ns hlen hO hS) λH e s'=>hCX w H s₁ e s'
section
variable {X:Cx}{e:Env}{l:List Env}
theorem sv{pins:List (Addr×Obj)}{σ:St}{H:Hp}{s:Shared}(hs:X.base.NoSeer)(ht:X.prog.given.tree=none)(hd:X.A.depth+100<recursionLimit)(hst:X.stack=e::l)(h1:e.scope.isGenerator=false)(h2:e.scope.isCoroutine=false)(h3:e.builtins=builtinsNs)(h4:e.globals=mainGlobals)(I:Inv X pins σ H s):PylongRoom (model X.prog X.w) X.A s :=
 PylongRoom.of (I.ok.mod.nolimit.keeps I.bk) hd (SeerAt.of (hs.keeps I.bk) ht (by rw[I.ok.frames,hst]) h1 h2 h3 h4)
theorem tU(hs:X.base.NoSeer)(ht:X.prog.given.tree=none)(hd:X.A.depth+100<recursionLimit)(hst:X.stack=e::l)(h1:e.scope.isGenerator=false)(h2:e.scope.isCoroutine=false)(h3:e.builtins=builtinsNs)(h4:e.globals=mainGlobals):OpR X (binaryOp .FloorDiv) (rI (λ_ j=>0<j) λi j=>.int (i/j)):=by intro pins s σ H x y v u Q I rx ry h;obtain⟨i,j,rfl,rfl,hj,q⟩:=h;obtain⟨t,rfl⟩:=rx;obtain⟨t',rfl⟩:=ry;have hj':(0:Int)<j:=hj;refine floordiv_int (Int.ne_of_gt hj') ?_ (.inr (sv hs ht hd hst h1 h2 h3 h4 I));rw[Int.fdiv_eq_ediv_of_nonneg _ (A6 hj')];exact⟨.int (i/j),H,I.tok _,⟨_,rfl⟩,q⟩
end
def Top(val:Nat->Int)(n:Nat)(M:Int):Prop:=(∃i,i<n/\val i=M)/\∀i,i<n->val i<=M
theorem Top.more{val:Nat->Int}{n:Nat}{M:Int}(h:Top val n M)(hn:val n>M):Top val (n+1) (val n) :=
 ⟨⟨n,by omega,rfl⟩,λi hi=>by
   by_cases e:i=n
   ·subst e;exact Int.le_refl _
   ·have:=h.2 i (by omega);omega⟩
theorem Top.less{val:Nat->Int}{n:Nat}{M:Int}(h:Top val n M)(hn:¬val n>M):Top val (n+1) M :=
 ⟨let⟨i,hi,e⟩:=h.1;⟨i,by omega,e⟩,λi hi=>by
  by_cases e:i=n
  ·subst e;omega
  ·exact h.2 i (by omega)⟩
section
variable {prog:Program}{w:World}{A:Around}{R:Result->Shared->Prop}{I S:Addr}{fp wr:List Addr}{n:Nat}{P:Nat->Value->Prop}{St:Nat->Heap->Prop}{val:Nat->Int}{d:Value}
end
section
variable {prog:Program}{w:World}{A:Around}{E:Value->Shared->Prop}{s:Shared}{l:Addr}{xs:Array (Int×Tok)}{d:Value}
end
section
variable {X:Cx}{K:PySem.W.Frag}{e ed:Expr}{ta td:TE}{p pos kp:Pos}
end
theorem pX:∀{bs:List Bool} {us:List Value},Vals (bs.map V.bl) us->us=bs.map Value.bool
 | [],_,h=>by cases h;rfl
 |b::bs,_,h=>by
  cases h with
  |cons r rr =>cases r;rw[pX rr];rfl
section
variable {X:Cx}
end
section
variable {X:Cx}{K:PySem.W.Frag}
end
section
variable {X:Cx}{K:PySem.W.Frag}
end
section
variable {X:Cx}{tg:Expr}{K:PySem.W.Frag}
theorem yJ(bs:List Bool):(List.range bs.length).all (λi=>bs.getD i false)=bs.all id:=by
 rw[BF,B9,B9];constructor
 ·intro h b hb;obtain⟨i,hi,rfl⟩:=List.getElem_of_mem hb;have:=h i (List.mem_range.mpr hi);simpa[List.getD,List.getElem?_eq_getElem hi]using this
 ·intro h i hi;have hi':=List.mem_range.mp hi;have:=h bs[i] (BI hi');simpa[List.getD,List.getElem?_eq_getElem hi']using this
end
theorem yl{X:Cx}{K:PySem.W.Frag}(hK:X.K=K)(hc:X.calm=true):CallR X (.builtin "all") (λxs H Q=>∃(p:Addr) (bs:List Bool),xs=[.ref p]/\SqL K H p (bs.map V.bl)/\Q (.bl (bs.all id)) H):=by
 subst hK;intro pins s σ H xs us Q I r h;obtain⟨p,bs,rfl,hq,q⟩:=h;obtain⟨u,rfl,rx⟩:=dQ r;cases rx;obtain⟨its,r',pl,hz⟩:=I.list hq;have e:=pX r';subst e;have hl:=pl.isList;have hlt:p<s.heap.objs.size:=by obtain⟨_,e,_⟩:=hl;exact Heap.lt_size e
 refine call_all_walk (wpAny_pyIter_list hl ?_);refine⟨_,_,_,_,_,_,λi=>bs.getD i false,rfl,Walks.list (A:=X.A.in1) (I.ok.hd hc) _ p (Be hlt) _,⟨⟨_,Heap.get?_push_size _ rfl,rfl,rfl⟩,hl.push _⟩,λi v s' Q' E' hP hQ=>?_,λh' tk hk=>?_⟩
 ·have e:v=.bool (bs.getD i false):=by have hP':((bs.map Value.bool).toArray)[i]?=some v:=hP;simp only[List.getElem?_toArray,List.getElem?_map,Option.map_eq_some_iff]at hP';obtain⟨b,hb,rfl⟩:=hP';simp[List.getD,hb]
  subst e;exact wpAny_truthy_bool hQ
 ·refine⟨.bl (bs.all id),H,I.kept (old_kept hk),?_,q⟩;show Value.bool _=Value.bool _;rw[<- yJ bs];simp
section
variable {X:Cx}
end
end L2
namespace RM
open PySem
end RM
namespace L2
open PySem PySem.Spec PyProof.Rows
section
variable {X:Cx}{K:PySem.W.Frag}
end
section
variable {X:Cx}{pins:List (Addr×Obj)}{σ:St}{H:Hp}{s:Shared}{h':Heap}
end
section
variable {X:Cx}
end
theorem yb{n:Nat}{js:List Nat}{K:PySem.W.Frag}{a:Addr}{xs:List V}{g:TG}{te:TE}{σ0:St}{H:Hp}{Q:VK}(Pv:Nat->List V->St->Hp->Prop)(hz:xs.length<=sizeLine)(h0:Pv 0 [] (dd n js σ0) H)(hl:∀i ys σ H,i<=xs.length->Pv i ys σ H->SqT K H a xs/\ys.length<=i)
 (hs:∀i x ys σ H,xs[i]?=some x->Pv i ys σ H->g x σ H λσ2 H2=>te σ2 H2 λy H3=>Pv (i+1) (ys++[y]) σ2 H3) (hd:∀ys σ H p,Pv xs.length ys σ H->H p=none->Q (.ref p) (upd H p (.lst ys))) :
 il n js g te σ0 Q (Itt K a) H:=by
 refine⟨λi m ys σ H=>m=xs.length-i/\i<=xs.length/\Pv i ys σ H,⟨xs.length,by simp,A8 _,h0⟩,?_⟩;rintro i m ys σ H ⟨rfl,hi,p⟩;obtain⟨q,hy⟩:=hl i ys σ H hi p;by_cases hlt:i<xs.length
 ·refine .inr ⟨⟨xs,xs[i],q,by simp[hlt]⟩,by omega,λy σ'' H''=>Pv (i+1) (ys++[y]) σ'' H'',λy σ' H' p'=>⟨xs.length-(i+1),by omega,rfl,hlt,p'⟩,λx H' y=>?_⟩;obtain⟨e,y⟩:=y;subst e;exact hs i x ys σ _ (y xs q) p
 ·have e:i=xs.length:=by omega
  subst e;exact .inl ⟨⟨xs,q,A5 _⟩,λr hr=>hd ys σ H r p hr⟩
section
variable {X:Cx}{K:PySem.W.Frag}
def jE(K:PySem.W.Frag):R2:=λx y H Q=>∃(a b:Addr) (ns ms:List Int),x=.ref a/\y=.ref b/\SqT K H a (ns.map V.int)/\SqT K H b (ms.map V.int)/\Q (.bl (decide (ns=ms))) H
def mZ(K:PySem.W.Frag):R2:=λx y H Q=>∃(a b:Addr) (ns ms:List Int),x=.ref a/\y=.ref b/\SqT K H a (ns.map V.int)/\SqT K H b (ms.map V.int)/\Q (.bl (!decide (ns=ms))) H
theorem db{us:List Value}{ns:List Int}(h:IntsAre us ns):us.length=ns.length:=by induction h<;>simp[*]
theorem gR{us:List Value}{ns:List Int}(h:IntsAre us ns):∀(j:Nat) (hj:j<us.length),∃(n:Int) (t:Tok),us[j]=.int n t/\ns[j]?=some n:=by
 induction h with
 |nil=>intro j hj;cases hj
 |cons n t _ ih =>
  intro j hj;cases j with
  |zero=>exact⟨n,t,rfl,rfl⟩
  |succ j=>obtain⟨n',t',e1,e2⟩:=ih j (Nat.lt_of_succ_lt_succ hj);exact⟨n',t',e1,e2⟩
theorem qo{ns ms:List Int}{n:Nat}(hn:min ns.length ms.length=n):((List.range n).all (λj=>decide (ns[j]?=ms[j]?))&&ns.length == ms.length)=decide (ns=ms):=by
 rw[BF];simp only[BV,B9,List.mem_range,decide_eq_true_eq,beq_iff_eq];constructor
 ·rintro⟨h1,h2⟩;refine List.ext_getElem? λj=>?_
  by_cases hj:j<n
  ·exact h1 j hj
  ·rw[List.getElem?_eq_none (by omega),List.getElem?_eq_none (by omega)]
 ·rintro rfl;exact⟨λ_ _=>rfl,rfl⟩
theorem tW(hu:X.A.units+66<cLine):OpR X (compareOp .Eq) (jE X.K):=by
 intro pins s σ H x y v u Q I rx ry h;obtain⟨a,b,ns,ms,rfl,rfl,ha,hb,q⟩:=h;cases rx;cases ry;obtain⟨i1,r1,p1,_⟩:=I.tuple ha;obtain⟨i2,r2,p2,_⟩:=I.tuple hb;have z1:=eI r1;have z2:=eI r2;refine SeqAt.eq_tupleAt (e:=λj=>decide (ns[j]?=ms[j]?)) p1 p2 (by omega) (λj h1 h2=>?_) ⟨.bl _,H,I,?_,q⟩
 ·obtain⟨n,t,e1,g1⟩:=gR z1 j h1;obtain⟨m,t',e2,g2⟩:=gR z2 j h2;have w1:i1.toArray[j]=i1[j]'h1:=rfl;have w2:i2.toArray[j]=i2[j]'h2:=rfl;rw[w1,w2,e1,e2,g1,g2];have:=(MeetsSeq.EqGives.int n m t t').at X.A.in1 s;have e:decide (some n=some m)=(n == m):=by rw[BF];simp
  rw[e];exact this
 ·show Value.bool _=Value.bool _
  congr 1
  rw[<- qo (n:=min i1.toArray.size i2.toArray.size) (by rw[A7,A7,db z1,db z2])];rw[A7,A7,db z1,db z2]
theorem tQ(hu:X.A.units+66<cLine):OpR X (compareOp .NotEq) (mZ X.K):=by
 intro pins s σ H x y v u Q I rx ry h;obtain⟨a,b,ns,ms,rfl,rfl,ha,hb,q⟩:=h;cases rx;cases ry;obtain⟨i1,r1,p1,_⟩:=I.tuple ha;obtain⟨i2,r2,p2,_⟩:=I.tuple hb;have z1:=eI r1;have z2:=eI r2;refine SeqAt.RcNeAt.tuples (e:=λj=>decide (ns[j]?=ms[j]?)) p1 p2 (by omega) (λj h1 h2=>?_) _ _ _ _ ⟨.bl _,H,I,?_,q⟩
 ·obtain⟨n,t,e1,g1⟩:=gR z1 j h1;obtain⟨m,t',e2,g2⟩:=gR z2 j h2;have w1:i1.toArray[j]=i1[j]'h1:=rfl;have w2:i2.toArray[j]=i2[j]'h2:=rfl;rw[w1,w2,e1,e2,g1,g2];have:=(MeetsSeq.EqGives.int n m t t').at X.A.in1 s;have e:decide (some n=some m)=(n == m):=by rw[BF];simp
  rw[e];exact this
 ·show Value.bool _=Value.bool _
  congr 2
  rw[<- qo (n:=min i1.toArray.size i2.toArray.size) (by rw[A7,A7,db z1,db z2])];rw[A7,A7,db z1,db z2]
theorem tV(h:X.K=K)(hu:X.A.units+66<cLine):OpR X (compareOp .Eq) (jE K):=by subst h;exact tW hu
theorem tP(h:X.K=K)(hu:X.A.units+66<cLine):OpR X (compareOp .NotEq) (mZ K):=by subst h;exact tQ hu
theorem rC(h:X.K=K):SlR X (mY K):=by subst h;exact rD
theorem tT:OpR X (compareOp .Is) (λx y H Q=>∃i j:Bool,x=.bl i/\y=.bl j/\Q (.bl (i == j)) H):=by intro pins s σ H x y v u Q I rx ry h;obtain⟨i,j,rfl,rfl,q⟩:=h;cases rx;cases ry;exact is_bool (aQ I q rfl)
end
end L2
namespace RM
noncomputable def cf(l:List Int)(k:Nat):Int:=l.getD k 0
theorem bB(k:Nat):cf [] k=0:=by simp[cf]
theorem kL(x:Int)(l:List Int):cf (x::l) 0=x:=rfl
theorem pT(x:Int)(l:List Int)(k:Nat):cf (x::l) (k+1)=cf l k:=rfl
theorem aZ{l:List Int}{k:Nat}(h:l.length<=k):cf l k=0:=by unfold cf;rw[List.getD,List.getElem?_eq_none_iff.mpr h];rfl
theorem bT{l:List Int}{k:Nat}(h:k<l.length):cf l k=l[k]:=by unfold cf;rw[List.getD,List.getElem?_eq_getElem h];rfl
theorem yd{l:List Int}{k:Nat}{x:Int}(h:l[k]?=some x):cf l k=x:=by unfold cf;rw[List.getD,h];rfl
theorem de{l:List Int}{k:Nat}(h:k<l.length):l[k]?=some (cf l k):=by rw[bT h,List.getElem?_eq_getElem h]
theorem pU{l r:List Int}{k:Nat}(h:k<l.length):cf (l++r) k=cf l k:=by unfold cf;rw[List.getD,List.getD,List.getElem?_append_left h]
theorem kS{l r:List Int}{k:Nat}(h:l.length<=k):cf (l++r) k=cf r (k-l.length):=by unfold cf;rw[List.getD,List.getD,List.getElem?_append_right h]
theorem kO{l:List Int}{j k:Nat}{x:Int}(h:j<l.length):cf (l.set j x) k=if k=j then x else cf l k:=by
 unfold cf;rw[List.getD,List.getD,List.getElem?_set];by_cases e:j=k
 ·subst e;simp[h]
 ·rw[if_neg e,if_neg (λz=>e z.symm)]
theorem hX(n k:Nat):cf (List.replicate n 0) k=0:=by unfold cf;rw[List.getD,List.getElem?_replicate];split<;>rfl
theorem kP(f:Nat->Int)(n k:Nat):cf ((List.range n).map f) k=if k<n then f k else 0:=by
 unfold cf;rw[List.getD,List.getElem?_map];by_cases h:k<n
 ·rw[if_pos h,List.getElem?_range h];rfl
 ·rw[if_neg h,List.getElem?_eq_none_iff.mpr (by simpa using h)];rfl
theorem cM{a b:List Int}(hl:a.length=b.length)(h:∀k,k<a.length->cf a k=cf b k):a=b:=by apply List.ext_getElem hl;intro k h1 h2;rw[<- bT h1,<- bT h2];exact h k h1
noncomputable def trim(l:List Int):List Int:=(l.reverse.dropWhile (· == 0)).reverse
theorem f7(l:List Int):trim (l++[0])=trim l:=by unfold trim;rw[List.reverse_append];rfl
theorem eY(l:List Int){x:Int}(h:x≠0):trim (l++[x])=l++[x]:=by unfold trim;rw[List.reverse_append];show((x::l.reverse).dropWhile (· == 0)).reverse=_;rw[List.dropWhile_cons_of_neg (by simpa using h)];simp
def Tr(l:List Int):Prop:=∀n,l.length=n+1->cf l n≠0
theorem ck(l:List Int):l=[]\/∃r x,l=r++[x]:=by
 cases h:l.reverse with
 |nil=>left;simpa using h
 |cons x r=>right;exact⟨r.reverse,x,by rw[<- List.reverse_reverse l,h];simp⟩
theorem ia(r:List Int)(x:Int):cf (r++[x]) r.length=x:=by rw[kS (A5 _),Nat.sub_self];rfl
theorem iq:Tr []:=λn h=>by simp at h
theorem tr_snoc{r:List Int}{x:Int}:Tr (r++[x])↔x≠0:=by
 constructor
 ·intro h;have:=h r.length (by simp)
  rwa [ia]at this
 ·intro h n hn;have e:n=r.length:=by simp at hn;omega
  subst e
  rwa [ia]
theorem f6:∀(n:Nat) (l:List Int),l.length=n->Tr (trim l)/\(trim l).length<=l.length/\∀k,cf (trim l) k=cf l k
 |0,l,h=>by have:l=[]:=Bm.mp h;subst this;exact⟨iq,A5 _,λ_=>rfl⟩
 |n+1,l,h=>by
  rcases ck l with rfl |⟨r,x,rfl⟩
  ·simp at h
  ·by_cases hx:x=0
   ·subst hx;obtain⟨h1,h2,h3⟩:=f6 n r (by simpa using h);rw[f7];refine⟨h1,by rw[Ba];exact Bk h2 (Nat.le_add_right _ _),λk=>?_⟩;rw[h3];by_cases hk:k<r.length
    ·rw[pU hk]
    ·rw[kS (Bs hk),aZ (Bs hk)];cases e:k-r.length with
     |zero=>rfl
     |succ j=>rw[pT,bB]
   ·rw[eY r hx];exact⟨tr_snoc.mpr hx,A5 _,λ_=>rfl⟩
theorem f8(l:List Int):Tr (trim l):=(f6 _ l rfl).1
theorem wk(l:List Int):(trim l).length<=l.length:=(f6 _ l rfl).2.1
theorem hU(l:List Int)(k:Nat):cf (trim l) k=cf l k:=(f6 _ l rfl).2.2 k
theorem qP{l:List Int}(h:Tr l):trim l=l:=by
 rcases ck l with rfl |⟨r,x,rfl⟩
 ·rfl
 ·exact eY r (tr_snoc.mp h)
theorem pj{a b:List Int}(ha:Tr a)(hb:Tr b)(h:∀k,cf a k=cf b k):a=b:=by
 have le:∀{a b:List Int},Tr a->(∀k,cf a k=cf b k)->a.length<=b.length:=λ{a b} ha h=>by
  cases e:a.length with
  |zero=>exact A8 _
  |succ n =>apply Classical.byContradiction;intro hn;exact ha n e (by rw[h n,aZ (by omega)])
 have hl:a.length=b.length:=Nat.le_antisymm (le ha h) (le hb λk=>(h k).symm);exact cM hl λk _=>h k
theorem qN{l:List Int}{n:Nat}(hn:n<l.length)(h:cf l n=0):trim (l.take (n+1))=trim (l.take n):=by rw[BM,de hn,h];exact f7 _
theorem qO{l:List Int}{n:Nat}(hn:n<l.length)(h:cf l n≠0):trim (l.take (n+1))=l.take (n+1):=by rw[BM,de hn];exact eY _ h
noncomputable def eF(f:Int)(a b:List Int):List Int:=(List.range (max a.length b.length)).map λk=>cf a k+f*cf b k
theorem h9(f:Int)(a b:List Int)(k:Nat):cf (eF f a b) k=cf a k+f*cf b k:=by
 unfold eF;rw[kP];by_cases h:k<max a.length b.length
 ·rw[if_pos h]
 ·have h1:a.length<=k:=by omega
  have h2:b.length<=k:=by omega
  rw[if_neg h,aZ h1,aZ h2];simp
noncomputable def rj(a b:List Int):List Int:=trim (eF (-1) a b)
noncomputable def tm(a b:List Int)(n i:Nat):Int:=if i<=n then cf a i*cf b (n-i)else 0
noncomputable def sm(a b:List Int)(n:Nat):Nat->Int
 |0=>0
 |j+1=>sm a b n j+tm a b n j
noncomputable def ap(a b:List Int)(n:Nat):Int:=sm a b n a.length
noncomputable def ag(a b:List Int):List Int:=if a=[]\/b=[]then[]else(List.range (a.length+b.length-1)).map (ap a b)
theorem qT{a b:List Int}{n i:Nat}(h:a.length<=i):tm a b n i=0:=by
 unfold tm;split
 ·rw[aZ h,BX]
 ·rfl
theorem f9{a b:List Int}{n i:Nat}(h:b.length<=n-i):tm a b n i=0:=by
 unfold tm;split
 ·rw[aZ h,BN]
 ·rfl
theorem fb{a b:List Int}{n:Nat}:∀{j:Nat},(∀i,i<j->tm a b n i=0)->sm a b n j=0
 |0,_=>rfl
 |j+1,h=>by rw[sm,fb λi hi=>h i (Nat.lt_succ_of_lt hi),h j (BL _)];rfl
theorem nO{a b:List Int}{n:Nat}(h:a.length+b.length<=n+1):ap a b n=0:=by apply fb;intro i hi;exact f9 (by omega)
theorem jW{a b:List Int}{la lb:Nat}(ha:a.length=la+1)(hb:b.length=lb+1):ap a b (la+lb)=cf a la*cf b lb:=by unfold ap;rw[ha,sm,fb λi hi=>f9 (by omega)];unfold tm;rw[if_pos (Nat.le_add_right _ _),Nat.add_sub_cancel_left,Int.zero_add]
theorem aC(a b:List Int)(n:Nat):cf (ag a b) n=ap a b n:=by
 unfold ag;by_cases h:a=[]\/b=[]
 ·rw[if_pos h,bB]
  symm
  apply fb;intro i hi;rcases h with rfl |rfl
  ·simp at hi
  ·exact f9 (A8 _)
 ·rw[if_neg h,kP];by_cases hn:n<a.length+b.length-1
  ·rw[if_pos hn]
  ·rw[if_neg hn,nO (by omega)]
theorem dS{a b:List Int}(ha:Tr a)(hb:Tr b):Tr (ag a b):=by
 intro n hn;rw[aC];by_cases h:a=[]\/b=[]
 ·unfold ag at hn;rw[if_pos h]at hn;simp at hn
 ·have h1:a≠[]:=λz=>h (.inl z)
  have h2:b≠[]:=λz=>h (.inr z)
  obtain⟨la,ea⟩:∃la,a.length=la+1:=⟨a.length-1,by have:=A9.mpr h1;omega⟩;obtain⟨lb,eb⟩:∃lb,b.length=lb+1:=⟨b.length-1,by have:=A9.mpr h2;omega⟩;unfold ag at hn
  rw[if_neg h,A4,BY]at hn;have e:n=la+lb:=by omega
  subst e;rw[jW ea eb];exact Bh (ha la ea) (hb lb eb)
theorem vz{a b acc:List Int}{j k:Nat}(hj:j<a.length)(hk:k<b.length)(hl:j+k<acc.length)
 (h:∀n,n<acc.length->cf acc n=sm a b n j+(if j<=n/\n-j<k then tm a b n j else 0)) :
 ∀n,n<(acc.set (j+k) (cf acc (j+k)+cf a j*cf b k)).length->cf (acc.set (j+k) (cf acc (j+k)+cf a j*cf b k)) n=sm a b n j+(if j<=n/\n-j<k+1 then tm a b n j else 0):=by
 intro n hn;rw[BW]at hn;rw[kO hl];by_cases e:n=j+k
 ·subst e;rw[if_pos rfl,h _ hl,if_neg (by omega),if_pos ⟨by omega,by omega⟩];unfold tm;rw[if_pos (by omega),Nat.add_sub_cancel_left,BO]
 ·rw[if_neg e,h n hn]
  congr 1
  by_cases h1:j<=n/\n-j<k
  ·rw[if_pos h1,if_pos ⟨h1.1,by omega⟩]
  ·rw[if_neg h1,if_neg (by omega)]
theorem vB{a b acc:List Int}{j:Nat}(h:∀n,n<acc.length->cf acc n=sm a b n j+(if j<=n/\n-j<b.length then tm a b n j else 0)):∀n,n<acc.length->cf acc n=sm a b n (j+1):=by
 intro n hn;rw[h n hn,sm]
 congr 1
 by_cases h1:j<=n/\n-j<b.length
 ·rw[if_pos h1]
 ·rw[if_neg h1];by_cases h2:j<=n
  ·rw[f9 (by omega)]
  ·unfold tm;rw[if_neg h2]
theorem vA{a b acc:List Int}{j:Nat}(h:∀n,n<acc.length->cf acc n=sm a b n j):∀n,n<acc.length->cf acc n=sm a b n j+(if j<=n/\n-j<0 then tm a b n j else 0):=by intro n hn;rw[if_neg (by omega),BO];exact h n hn
theorem vC{a b acc:List Int}(hl:a.length+b.length<=acc.length+1)(h:∀n,n<acc.length->cf acc n=sm a b n a.length)(n:Nat):cf acc n=ap a b n:=by
 by_cases hn:n<acc.length
 ·exact h n hn
 ·rw[aZ (Bs hn),nO (by omega)]
noncomputable def dv(t b:Int):Int:=if b<0 then -((Nat.gcd t.natAbs b.natAbs:Nat):Int)else((Nat.gcd t.natAbs b.natAbs:Nat):Int)
noncomputable def rt(t b:Int):Int:=t.fdiv (dv t b)
noncomputable def rb(t b:Int):Int:=b.fdiv (dv t b)
theorem gU{t b:Int}(hb:b≠0):0<Nat.gcd t.natAbs b.natAbs:=Nat.gcd_pos_of_pos_right _ (BZ.mpr hb)
theorem g7{t b:Int}(hb:b≠0):dv t b≠0:=by have:=@gU t b hb;unfold dv;split<;>omega
theorem fG(t b:Int):(dv t b).natAbs=Nat.gcd t.natAbs b.natAbs:=by unfold dv;split<;>omega
theorem xU(t b:Int):dv t b∣t:=Int.natAbs_dvd_natAbs.mp (by rw[fG];exact BP _ _)
theorem xT(t b:Int):dv t b∣b:=Int.natAbs_dvd_natAbs.mp (by rw[fG];exact B0 _ _)
theorem oZ{a d:Int}(hd:d≠0)(h:d∣a):d*a.fdiv d=a:=by obtain⟨c,rfl⟩:=h;rw[Int.mul_fdiv_cancel_left c hd]
theorem mS{t b:Int}(hb:b≠0):dv t b*rt t b=t:=oZ (g7 hb) (xU t b)
theorem jB{t b:Int}(hb:b≠0):dv t b*rb t b=b:=oZ (g7 hb) (xT t b)
theorem bV{t b:Int}(hb:b≠0):0<rb t b:=by
 have h1:=@jB t b hb;have h2:=@gU t b hb;by_cases hn:b<0
 ·have hd:dv t b<0:=by unfold dv;rw[if_pos hn];omega
  apply Classical.byContradiction;intro h;have:0<=dv t b*rb t b:=Cl (A6 hd) (by omega);omega
 ·have hd:0<dv t b:=by unfold dv;rw[if_neg hn];omega
  apply Classical.byContradiction;intro h;have:dv t b*rb t b<=0:=Int.mul_nonpos_of_nonneg_of_nonpos (A6 hd) (by omega);omega
theorem sr{t b:Int}(hb:b≠0):(rt t b).natAbs<=t.natAbs:=by
 have h1:t.natAbs=Nat.gcd t.natAbs b.natAbs*(rt t b).natAbs:=by rw[<- fG,<- Bt,mS hb]
 rw[h1];exact Nat.le_mul_of_pos_left _ (gU hb)
theorem sD{t b:Int}(hb:b≠0):(rb t b).natAbs<=b.natAbs:=by
 have h1:b.natAbs=Nat.gcd t.natAbs b.natAbs*(rb t b).natAbs:=by rw[<- fG,<- Bt,jB hb]
 rw[h1];exact Nat.le_mul_of_pos_left _ (gU hb)
noncomputable def sg(x:Int):Int:=if x<0 then -1 else if 0<x then 1 else 0
theorem gq(x:Int):sg (-x) = -sg x:=by unfold sg;split<;>split<;>(try split)<;>(try split)<;>omega
theorem iH{x p:Int}(hp:0<p):sg (x*p)=sg x:=by
 unfold sg;by_cases h1:x<0
 ·rw[if_pos h1,if_pos (Int.mul_neg_of_neg_of_pos h1 hp)]
 ·by_cases h2:0<x
  ·have:=Bi h2 hp;rw[if_neg h1,if_pos h2,if_neg (by omega),if_pos this]
  ·obtain rfl:x=0:=by omega
   simp
noncomputable def hv(t b:Int):List Int->Int
 | []=>0
 |v::l=>v*b^(l.length+1)+t*hv t b l
theorem oM(t b:Int):hv t b []=0:=rfl
theorem cv(t b v:Int)(l:List Int):hv t b (v::l)=v*b^(l.length+1)+t*hv t b l:=rfl
noncomputable def mb(a b:Int):Int->List Int->List Int
 |c,[]=>[c]
 |c,x::l=>(-a*x+c)::mb a b (b*x) l
theorem sT{g:Int}(h:0<g)(n:Nat):0<g^n:=by
 induction n with
 |zero=>simp
 |succ n ih=>rw[Bv];exact Bi ih h
def At(l:List Int)(t b top bot:Int):Prop:=hv t b l*bot=top*b^l.length
theorem At.sign{l:List Int}{t b top bot:Int}(hb:0<b)(hbot:0<bot)(h:At l t b top bot):sg (hv t b l)=sg top:=by
 unfold At at h
 rw[<- iH (x:=hv t b l) hbot,h,iH (sT hb _)]
theorem xa(t u c:Int):hv t u [c]=c*u:=by show c*u^1+t*0=c*u;grind
theorem xV(t b:Int){l:List Int}{n:Nat}(h:n<l.length):hv t b (l.drop n)=cf l n*b^(l.length-n)+t*hv t b (l.drop (n+1)):=by
 rw[List.drop_eq_getElem_cons h,cv,List.length_drop,bT h];have e:l.length-(n+1)+1=l.length-n:=by omega
 rw[e]
theorem mG{q q' b:List Int}{c l:Int}{p n:Nat}(h:∀k,cf q' k=c*cf q k+(if k=p then l else 0)) :
 ∀j,sm q' b n j=c*sm q b n j+(if p<j/\p<=n then l*cf b (n-p)else 0)
 |0=>by rw[sm,sm,if_neg (by omega)];simp
 |j+1=>by
  rw[sm,sm,mG h j];unfold tm;by_cases hj:j<=n
  ·rw[if_pos hj,if_pos hj,h j];by_cases e:j=p
   ·subst e;rw[if_pos rfl,if_neg (by omega),if_pos ⟨by omega,hj⟩];grind
   ·rw[if_neg e];by_cases h2:p<j/\p<=n
    ·rw[if_pos h2,if_pos ⟨by omega,h2.2⟩];grind
    ·rw[if_neg h2,if_neg (by omega)];grind
  ·rw[if_neg hj,if_neg hj];by_cases h2:p<j/\p<=n
   ·rw[if_pos h2,if_pos ⟨by omega,h2.2⟩];grind
   ·rw[if_neg h2,if_neg (by omega)];grind
theorem vy{q q' b:List Int}{c l:Int}{p n:Nat}(hl:q'.length=q.length)(hp:p<q.length)(h:∀k,cf q' k=c*cf q k+(if k=p then l else 0)) :
 ap q' b n=c*ap q b n+(if p<=n then l*cf b (n-p)else 0):=by
 unfold ap;rw[hl,mG h];by_cases h2:p<=n
 ·rw[if_pos h2,if_pos ⟨hp,h2⟩]
 ·rw[if_neg h2,if_neg (by omega)]
noncomputable def scL(c:Int)(l:List Int):List Int:=l.map λx=>c*x
theorem bQ(c:Int)(l:List Int):(scL c l).length=l.length:=by unfold scL;rw[A4]
theorem bw(c:Int)(l:List Int)(k:Nat):cf (scL c l) k=c*cf l k:=by
 by_cases h:k<l.length
 ·unfold cf scL;simp[h]
 ·rw[aZ (by rw[bQ];omega),aZ (by omega)];simp
noncomputable def dz(r b:List Int)(p:Nat)(l:Int):List Int:=(List.range (r.length-1)).map λk=>cf r k-(if p<=k then l*cf b (k-p)else 0)
theorem oj(r b:List Int)(p:Nat)(l:Int):(dz r b p l).length=r.length-1:=by unfold dz;simp
theorem kQ(r b:List Int)(p:Nat)(l:Int)(k:Nat):cf (dz r b p l) k=if k<r.length-1 then cf r k-(if p<=k then l*cf b (k-p)else 0)else 0:=by unfold dz;rw[kP]
theorem rK(x:Int):sg x*x=(x.natAbs:Int):=by unfold sg;split<;>(try split)<;>omega
noncomputable def ci(b:List Int)(z:List Int×List Int)(i:Nat):List Int×List Int :=
 let s:Int:=((cf b (b.length-1)).natAbs:Int)
 let l:=sg (cf b (b.length-1))*cf z.2 (z.2.length-1)
 ((scL s z.1).set i l,dz (scL s z.2) b i l)
noncomputable def aG(a b:List Int):Nat->List Int×List Int
 |0=>(List.replicate (a.length+1-b.length) 0,a)
 |i+1=>ci b (aG a b i) (a.length+1-b.length-1-i)
structure DivInv(a b:List Int)(i:Nat):Prop where
 lq:(aG a b i).1.length=a.length+1-b.length
 lr:(aG a b i).2.length=a.length-i
 low:∀k,k+i<a.length+1-b.length->cf (aG a b i).1 k=0
 eqn:∀n,((cf b (b.length-1)).natAbs:Int)^i*cf a n=ap (aG a b i).1 b n+cf (aG a b i).2 n
theorem jV{a b:List Int}{n:Nat}(h:∀k,cf a k=0):ap a b n=0:=by apply fb;intro i _;unfold tm;rw[h i];simp
theorem xX{A B i:Nat}(hi:i+1<=A+1-B)(hb:0<B):∃p,A+1-B=p+i+1/\p+i+B=A:=⟨A-B-i,by omega,by omega⟩
theorem pA(p i:Nat):p<p+i+1:=Nat.lt_succ_of_le (Nat.le_add_right _ _)
theorem g9{P A C M R:Int}(en:P*A=M+R):P*C*A=C*M+C*R:=by rw[Int.mul_right_comm,en,BA,Int.mul_add]
theorem xY(x y z:Int):x+y=x+z+(y-z):=by omega
theorem fH{a b:List Int}(hb:b≠[]):∀i,i<=a.length+1-b.length->DivInv a b i
 |0,_=>⟨by simp[aG],by simp[aG],λk _=>by show cf (List.replicate _ 0) k=0;rw[hX],λn=>by
  show _=ap (List.replicate _ 0) b n+cf a n
  rw[jV λk=>hX _ _];simp⟩
 |i+1,hi=>by
  obtain⟨lq,lr,low,eqn⟩:=fH (a:=a) hb i (Nat.le_of_succ_le hi);have hbl:=A9.mpr hb;have e:aG a b (i+1)=ci b (aG a b i) (a.length+1-b.length-1-i):=rfl;generalize aG a b i=z at e lq lr low eqn
  obtain⟨p,ep,ed⟩:=xX hi hbl;rw[ep,show p+i+1-1-i=p from Nat.add_sub_cancel _ _]at e;rw[ep]at lq low;have lz:z.2.length=p+b.length:=by rw[lr,<- ed,Nat.add_right_comm,Nat.add_sub_cancel]
  have hp:p<(scL ((cf b (b.length-1)).natAbs:Int) z.1).length:=by rw[bQ,lq];exact pA p i
  have hq:∀k,cf (ci b z p).1 k=((cf b (b.length-1)).natAbs:Int)*cf z.1 k+(if k=p then sg (cf b (b.length-1))*cf z.2 (z.2.length-1)else 0):=by
   intro k;unfold ci;dsimp only
   rw[kO hp,bw];by_cases h:k=p
   ·rw[if_pos h,if_pos h,low k (by rw[h];exact BL _)];simp
   ·rw[if_neg h,if_neg h];simp
  have hlq:(ci b z p).1.length=p+i+1:=by unfold ci;dsimp only;rw[BW,bQ,lq]
  refine⟨?_,?_,?_,?_⟩
  ·rw[e,hlq,ep]
  ·rw[e];unfold ci;dsimp only;rw[oj,bQ,lr];rfl
  ·intro k hk;rw[ep]at hk;have hk':k<p:=by clear lq lr low eqn hp hq hlq lz e ep ed;omega
   rw[e,hq,if_neg (Be hk'),low k (Nat.lt_trans (Nat.add_lt_add_right hk' i) (BL _))];simp
  ·intro n;rw[e,vy (by rw[hlq,lq]) (by rw[lq];exact pA p i) hq,Bv];have en:=eqn n;unfold ci;dsimp only
   rw[kQ,bQ,bw,lz];clear lq lr low eqn hp hq hlq e ep ed;by_cases h1:n<p+b.length-1
   ·rw[if_pos h1];by_cases h2:p<=n
    ·rw[if_pos h2,g9 en];exact xY _ _ _
    ·rw[if_neg h2,g9 en,BO,Int.sub_zero]
   ·rw[if_neg h1];have h2:p<=n:=by clear en;omega
    by_cases h3:n=p+b.length-1
    ·have h4:n-p=b.length-1:=by clear en;omega
     rw[if_pos h2,h4];have sg:=rK (cf b (b.length-1));rw[<- h3,g9 en,BO,Int.mul_right_comm,sg]
    ·have hc:cf z.2 n=0:=aZ (by rw[lz];clear en;omega);rw[if_pos h2,aZ (l:=b) (k:=n-p) (by clear en;omega),g9 en,hc,BN,BN,BO,BO]
noncomputable def aY(a b:List Int):Nat:=a.length+1-b.length
noncomputable def bJ(a b:List Int):Int:=((cf b (b.length-1)).natAbs:Int)^aY a b
noncomputable def bI(a b:List Int):List Int:=(aG a b (aY a b)).1
noncomputable def aL(a b:List Int):List Int:=trim (aG a b (aY a b)).2
theorem eP{a b:List Int}(hb:b≠[])(n:Nat):bJ a b*cf a n=ap (bI a b) b n+cf (aL a b) n:=by unfold aL bI bJ;rw[hU];exact(fH hb (aY a b) (A5 _)).eqn n
theorem g8{a b:List Int}(hb:b≠[]):(aL a b).length<b.length:=by
 have h:=(fH (a:=a) hb (aY a b) (A5 _)).lr;have h2:=wk (aG a b (aY a b)).2;have hbl:=A9.mpr hb;unfold aL;unfold aY at *
 omega
theorem xW{a b:List Int}(hb:b≠[]):(bI a b).length=aY a b:=(fH (a:=a) hb (aY a b) (A5 _)).lq
theorem kD(a b:List Int):Tr (aL a b):=f8 _
theorem mJ{a a' b b':List Int}{n:Nat}(h1:∀k,cf a k=cf a' k)(h2:∀k,cf b k=cf b' k):∀j,sm a b n j=sm a' b' n j
 |0=>rfl
 |j+1=>by rw[sm,sm,mJ h1 h2 j];unfold tm;rw[h1 j,h2 (n-j)]
theorem mH{a b:List Int}{n:Nat}:∀d,sm a b n (a.length+d)=ap a b n
 |0=>rfl
 |d+1=>by rw[<- Nat.add_assoc,sm,mH d,qT (by omega)];omega
theorem fc{a b:List Int}{n N:Nat}(h:a.length<=N):sm a b n N=ap a b n:=by obtain⟨d,rfl⟩:=Nat.exists_eq_add_of_le h;exact mH d
theorem nN{a a' b b':List Int}{n:Nat}(h1:∀k,cf a k=cf a' k)(h2:∀k,cf b k=cf b' k):ap a b n=ap a' b' n:=by rw[<- fc (Nat.le_max_left a.length a'.length),<- fc (Nat.le_max_right a.length a'.length)];exact mJ h1 h2 _
theorem mF{a b c q:List Int}{x y:Int}{n:Nat}(h:∀k,cf c k=x*cf a k+y*cf b k):∀j,sm c q n j=x*sm a q n j+y*sm b q n j
 |0=>by simp[sm]
 |j+1=>by
  rw[sm,sm,sm,mF h j];unfold tm;rw[h j];by_cases hj:j<=n
  ·rw[if_pos hj,if_pos hj,if_pos hj];grind
  ·rw[if_neg hj,if_neg hj,if_neg hj];grind
theorem ce{a b c q:List Int}{x y:Int}{n:Nat}(h:∀k,cf c k=x*cf a k+y*cf b k):ap c q n=x*ap a q n+y*ap b q n:=by
 have h1:a.length<=a.length+b.length+c.length:=by omega
 have h2:b.length<=a.length+b.length+c.length:=by omega
 have h3:c.length<=a.length+b.length+c.length:=by omega
 rw[<- fc h1,<- fc h2,<- fc h3];exact mF h _
theorem mE{a b b':List Int}{c:Int}{n:Nat}(h:∀k,cf b' k=c*cf b k):∀j,sm a b' n j=c*sm a b n j
 |0=>by simp[sm]
 |j+1=>by
  rw[sm,sm,mE h j];unfold tm;rw[h (n-j)];by_cases hj:j<=n
  ·rw[if_pos hj,if_pos hj];grind
  ·rw[if_neg hj,if_neg hj];grind
theorem gG{a b b':List Int}{c:Int}{n:Nat}(h:∀k,cf b' k=c*cf b k):ap a b' n=c*ap a b n:=mE h _
theorem fo(c:Int)(l:List Int)(n:Nat):ap [c] l n=c*cf l n:=by unfold ap;show sm [c] l n 0+tm [c] l n 0=_;unfold sm tm;rw[if_pos (A8 _),kL,B1,Int.zero_add]
theorem vp{l:List Int}(ht:Tr l)(h:∀k,cf l k=0):l=[]:=by
 refine Classical.byContradiction λhne=>?_
 have hl:=A9.mpr hne;exact ht (l.length-1) (by omega) (h _)
theorem nK{d q:List Int}(hq:q≠[])(hqt:Tr q)(h:∀n,q.length<=n+1->ap d q n=0):∀k,cf d k=0:=by
 have e:trim d=[]:=by
  refine Classical.byContradiction λhne=>?_
  have hl:=A9.mpr hne;have hql:=A9.mpr hq;have ht:=f8 d ((trim d).length-1) (by omega);have hb:=hqt (q.length-1) (by omega);have h1:=h ((trim d).length-1+(q.length-1)) (by omega);rw[<- nN (a:=trim d) (b:=q) (λk=>hU d k) (λ_=>rfl),jW (la:=(trim d).length-1) (lb:=q.length-1) (by omega) (by omega)]at h1;exact Bh ht hb h1
 intro k;rw[<- hU,e,bB]
theorem kF{a b:List Int}(hb:b≠[])(hbt:Tr b):bJ a b≠0:=by
 have hbl:=A9.mpr hb;have h:=hbt (b.length-1) (by omega);have h1:((cf b (b.length-1)).natAbs:Int)≠0:=by omega
 unfold bJ;generalize aY a b=n
 induction n with
 |zero=>rw[Int.pow_zero];decide
 |succ n ih=>rw[Bv];exact Bh ih h1
noncomputable def bY(d:Nat)(l:List Int):Nat:=l.foldl (λd v=>Nat.gcd d v.natAbs) d
noncomputable def ay(l:List Int):Nat:=bY 0 l
theorem km(d:Nat):bY d []=d:=rfl
theorem eO(d:Nat)(v:Int)(l:List Int):bY d (v::l)=bY (Nat.gcd d v.natAbs) l:=rfl
theorem xq(d:Nat)(l:List Int)(v:Int):bY d (l++[v])=Nat.gcd (bY d l) v.natAbs:=by unfold bY;rw[List.foldl_append];rfl
theorem xn(l:List Int)(v:Int):ay (l++[v])=Nat.gcd (ay l) v.natAbs:=xq 0 l v
theorem pq{m:Nat}:∀{l:List Int} {d:Nat},m∣bY d l↔m∣d/\∀v∈l,m∣v.natAbs
 | [],d=>by simp[km]
 |v::l,d=>by rw[eO,pq,Nat.dvd_gcd_iff];simp only[Bb,forall_eq_or_imp];exact⟨λ⟨⟨a,b⟩,c⟩=>⟨a,b,c⟩,λ⟨a,b,c⟩=>⟨⟨a,b⟩,c⟩⟩
theorem dvd_gcdL{m:Nat}{l:List Int}:m∣ay l↔∀v∈l,m∣v.natAbs:=by unfold ay;rw[pq];exact⟨λh=>h.2,λh=>⟨Nat.dvd_zero m,h⟩⟩
theorem gW{l:List Int}{v:Int}(h:v∈l):ay l∣v.natAbs:=dvd_gcdL.mp (Nat.dvd_refl _) v h
theorem xo(v:Int):ay [v]=v.natAbs:=by show Nat.gcd 0 v.natAbs=_;exact Nat.gcd_zero_left _
theorem oQ{a b:Int}(ha:0<=a)(hb:0<b):Nat.gcd b.natAbs (a%b).natAbs=Nat.gcd a.natAbs b.natAbs:=by
 have e:(a%b).natAbs=a.natAbs%b.natAbs:=by obtain⟨x,rfl⟩:=Int.eq_ofNat_of_zero_le ha;obtain⟨y,rfl⟩:=Int.eq_ofNat_of_zero_le (A6 hb);rfl
 rw[e,Nat.gcd_comm,<- Nat.gcd_rec,Nat.gcd_comm]
noncomputable def aE(l:List Int):List Int:=l.map λx=>x/(ay l:Int)
noncomputable def bR(l:List Int):Int:=cf l (l.length-1)
theorem fy(r:List Int)(x:Int):bR (r++[x])=x:=by unfold bR;rw[Ba];exact ia r x
noncomputable def bo(l:List Int):List Int:=if bR l<0 then l.map λx => -x else l
noncomputable def aB(l:List Int):List Int:=bo (aE l)
theorem lG{c:Int->Int}(h0:∀x,c x=0↔x=0):∀(n:Nat) (l:List Int),l.length=n->trim (l.map c)=(trim l).map c
 |0,l,h=>by rw[Bm.mp h];rfl
 |n+1,l,h=>by
  rcases ck l with rfl |⟨r,x,rfl⟩
  ·rfl
  ·rw[Bw];show trim (r.map c++[c x])=_;by_cases hx:x=0
   ·subst hx;rw[(h0 0).mpr rfl,f7,f7];exact lG h0 n r (by simpa using h)
   ·rw[eY r hx,eY _ (λz=>hx ((h0 x).mp z)),Bw];rfl
def eU(l:List Int):Prop:=l=[]\/ay l=1
theorem rJ{l:List Int}(h:eU l):aE l=l:=by
 rcases h with rfl |h
 ·rfl
 ·unfold aE;rw[h]
  conv=>rhs;rw[<- List.map_id l]
  apply Ca;intro x _;show x/1=x;exact Int.ediv_one x
theorem xp{l:List Int}{s:Int}(hs:s=1\/s = -1):ay (l.map λx=>x*s)=ay l:=by
 have key:∀m:Nat,m∣ay (l.map λx=>x*s)↔m∣ay l:=by
  intro m;rw[dvd_gcdL,dvd_gcdL]
  have e:∀x:Int,(x*s).natAbs=x.natAbs:=λx=>by
   rcases hs with rfl |rfl
   ·rw[By]
   ·rw[Int.mul_neg,By,Int.natAbs_neg]
  constructor
  ·intro h v hv;have:=h (v*s) (B2.mpr ⟨v,hv,rfl⟩)
   rwa [e]at this
  ·intro h v hv;obtain⟨u,hu,rfl⟩:=B2.mp hv;rw[e];exact h u hu
 exact Nat.dvd_antisymm ((key _).mp (Nat.dvd_refl _)) ((key _).mpr (Nat.dvd_refl _))
theorem sQ{l:List Int}(h:eU l):eU (l.map λx => -x):=by
 rcases h with rfl |h
 ·exact .inl rfl
 ·right
  have e:(l.map λx => -x)=l.map λx=>x*(-1):=by apply Ca;intro x _;omega
  rw[e,xp (.inr rfl),h]
theorem oo(l:List Int):bR (l.map λx => -x) = -bR l:=by
 rcases ck l with rfl |⟨r,x,rfl⟩
 ·rfl
 ·rw[Bw];show bR (r.map _++[-x])=_;rw[fy,fy]
theorem sP{l:List Int}(h:eU l):eU (bo l):=by
 unfold bo;split
 ·exact sQ h
 ·exact h
theorem qS{c:Int->Int}(h0:∀x,c x=0↔x=0){l:List Int}(h:Tr l):Tr (l.map c):=by rw[<- qP h,<- lG h0 _ l rfl];exact f8 _
theorem qR{l:List Int}(h:Tr l):Tr (bo l):=by
 unfold bo;split
 ·exact qS (λx=>by omega) h
 ·exact h
theorem oS(c:Int):∀(l:List Int) (d:Nat),bY (c.natAbs*d) (scL c l)=c.natAbs*bY d l
 | [],d=>rfl
 |v::l,d=>by show bY (Nat.gcd (c.natAbs*d) (c*v).natAbs) (scL c l)=c.natAbs*bY (Nat.gcd d v.natAbs) l;rw[Bt,Nat.gcd_mul_left,oS c l]
theorem kj(c:Int)(l:List Int):ay (scL c l)=c.natAbs*ay l:=by have h:=oS c l 0;rw[Nat.mul_zero]at h;exact h
theorem fC{l:List Int}{x:Int}(h:x∈l):(ay l:Int)∣x:=BQ.mpr (gW h)
theorem rG{c:Int}(hc:0<c)(l:List Int):aE (scL c l)=aE l:=by
 unfold aE;rw[kj];unfold scL;rw[List.map_map];refine Ca λx _=>?_
 show c*x/((c.natAbs*ay l:Nat):Int)=x/(ay l:Int);have e:((c.natAbs*ay l:Nat):Int)=c*(ay l:Int):=by rw[Int.natCast_mul];congr 1;omega
 rw[e,Int.mul_ediv_mul_of_pos _ _ hc]
theorem rH{c:Int}(hc:c<0)(l:List Int):aE (scL c l)=(aE l).map λx => -x:=by
 unfold aE;rw[kj];unfold scL;rw[List.map_map,List.map_map];refine Ca λx hx=>?_
 show c*x/((c.natAbs*ay l:Nat):Int) = -(x/(ay l:Int));have e:((c.natAbs*ay l:Nat):Int)=(-c)*(ay l:Int):=by rw[Int.natCast_mul];congr 1;omega
 have e2:c*x=(-c)*(-x):=by rw[Int.neg_mul_neg]
 rw[e,e2,Int.mul_ediv_mul_of_pos _ _ (by omega:0 < -c),Int.neg_ediv_of_dvd (fC hx)]
theorem sY{m:List Int}(h:Tr m):bo (m.map λx => -x)=bo m:=by
 rcases ck m with rfl |⟨r,x,rfl⟩
 ·rfl
 have hx:x≠0:=tr_snoc.mp h;have h1:=oo (r++[x]);rw[fy]at h1;unfold bo;rw[h1,fy];by_cases hn:x<0
 ·rw[if_neg (by omega),if_pos hn]
 ·rw[if_pos (by omega),if_neg hn,List.map_map];rw[show((λx:Int => -x) ∘ λx:Int => -x)=id from by funext y;simp];exact List.map_id _
theorem io{l:List Int}(h:Tr l):Tr (aE l):=by
 intro n hn;have hl:l.length=n+1:=by rw[<- hn];unfold aE;rw[A4]
 have hx:=h n hl;have hm:cf l n∈l:=by rw[bT (by omega)];exact BI _
 have e:cf (aE l) n=cf l n/(ay l:Int):=by
  have h1:n<l.length:=by omega
  unfold aE cf;simp[List.getD,h1]
 rw[e];intro z;have d:=fC hm;have:=Int.mul_ediv_cancel' d;rw[z,BN]at this;exact hx this.symm
theorem nj{c:Int}(hc:c≠0){l:List Int}(h:Tr l):aB (scL c l)=aB l:=by
 unfold aB;by_cases hp:0<c
 ·rw[rG hp]
 ·rw[rH (by omega),sY (io h)]
theorem lH{c:Int}(hc:c≠0){l:List Int}(h:Tr l):Tr (scL c l):=by intro n hn;rw[bQ]at hn;rw[bw];exact Bh hc (h n hn)
theorem tj{a b:List Int}{x y:Int}(hx:x≠0)(hy:y≠0)(ha:Tr a)(hb:Tr b)(h:∀k,x*cf a k=y*cf b k):aB a=aB b:=by
 have e:scL x a=scL y b:=pj (lH hx ha) (lH hy hb) λk=>by rw[bw,bw,h k]
 rw[<- nj hx ha,e,nj hy hb]
noncomputable def lp(l:List Int)(m i n:Nat):Int:=if n%m=0/\n/m<i then cf l (n/m)else 0
noncomputable def rst(one other:List Int):List Int:=if other=[]then[]else aL one other
noncomputable def nxt(one other:List Int):List Int:=aE (rj [] (rst one other))
noncomputable def up(f:Nat->Int)(n:Nat):Int:=if n=0 then 0 else f (n-1)
theorem mI(x:Int)(a b:List Int)(n:Nat):∀j,sm (x::a) b n (j+1)=x*cf b n+(if n=0 then 0 else sm a b (n-1) j)
 |0=>by
  show 0+tm (x::a) b n 0=_;unfold tm;rw[if_pos (A8 _)];rw[kL,B1];by_cases h:n=0
  ·rw[if_pos h];omega
  ·rw[if_neg h];show _=_+0;omega
 |j+1=>by
  show sm (x::a) b n (j+1)+tm (x::a) b n (j+1)=_;rw[mI x a b n j];by_cases h:n=0
  ·rw[if_pos h,if_pos h];unfold tm;rw[if_neg (by omega)];omega
  ·rw[if_neg h,if_neg h];show _=_+(sm a b (n-1) j+tm a b (n-1) j)
   have e:tm (x::a) b n (j+1)=tm a b (n-1) j:=by
    unfold tm;rw[pT];by_cases h2:j+1<=n
    ·rw[if_pos h2,if_pos (by omega)]
     congr 2;omega
    ·rw[if_neg h2,if_neg (by omega)]
   rw[e];omega
theorem cg(x:Int)(a b:List Int)(n:Nat):ap (x::a) b n=x*cf b n+up (ap a b) n:=mI x a b n a.length
theorem cI(b:List Int)(n:Nat):ap [] b n=0:=rfl
theorem kR(x:Int)(a:List Int)(n:Nat):cf (x::a) n=(if n=0 then x else 0)+up (cf a) n:=by
 cases n with
 |zero=>show x=x+0;omega
 |succ n=>show cf a n=0+cf a n;omega
theorem jX(y:Int)(b:List Int):∀(a:List Int) (n:Nat),ap a (y::b) n=y*cf a n+up (ap a b) n
 | [],n=>by
  rw[cI,bB];unfold up;split
  ·simp
  ·rw[cI];simp
 |x::a,n=>by
  rw[cg,kR,kR];cases n with
  |zero =>show x*(y+0)+0=y*(x+0)+0;simp only[BO];exact BA _ _
  |succ n =>show x*(0+cf b n)+ap a (y::b) n=y*(0+cf a n)+ap (x::a) b n;rw[jX y b a n,cg];simp only[Int.zero_add];omega
theorem nM:∀(a:List Int) (n:Nat),ap a [] n=0
 | [],n=>rfl
 |x::a,n=>by
  rw[cg,bB];unfold up;split
  ·simp
  ·rw[nM a];simp
theorem dk:∀(a b:List Int) (n:Nat),ap a b n=ap b a n
 | [],b,n=>by rw[nM];rfl
 |x::a,b,n=>by
  rw[cg,jX]
  congr 1
  unfold up;split
  ·rfl
  ·exact dk a b _
theorem vx{a b c q:List Int}{x y:Int}{n:Nat}(h:∀k,cf c k=x*cf a k+y*cf b k):ap q c n=x*ap q a n+y*ap q b n:=by rw[dk q c,ce h,dk q a,dk q b]
theorem kN(a:List Int)(n:Nat):cf (0::a) n=up (cf a) n:=by rw[kR];split<;>omega
theorem vv(a b:List Int)(n:Nat):ap (0::a) b n=up (ap a b) n:=by rw[cg];omega
theorem dl:∀(a b c:List Int) (n:Nat),ap (ag a b) c n=ap a (ag b c) n
 | [],b,c,n=>by rw[cI,jV λk=>by rw[aC,cI]]
 |x::a,b,c,n=>by
  rw[cg,aC]
  have e:∀k,cf (ag (x::a) b) k=x*cf b k+1*cf (0::ag a b) k:=λk=>by
   rw[aC,cg,kN,BJ]
   congr 1
   unfold up;split
   ·rfl
   ·rw[aC]
  rw[ce e,vv,BJ]
  congr 1
  unfold up;split
  ·rfl
  ·exact dl a b c _
def Dv(d p:List Int):Prop:=∃(c:Int) (q:List Int),c≠0/\∀n,c*cf p n=ap q d n
theorem Dv.refl(d:List Int):Dv d d:=⟨1,[1],by decide,λn=>by rw[fo]⟩
theorem Dv.nil(d:List Int):Dv d []:=⟨1,[],by decide,λn=>by rw[bB,cI];rfl⟩
theorem Dv.trans{d e p:List Int}(h1:Dv d e)(h2:Dv e p):Dv d p:=by obtain⟨c1,q1,hc1,e1⟩:=h1;obtain⟨c2,q2,hc2,e2⟩:=h2;refine⟨c1*c2,ag q2 q1,Bh hc1 hc2,λn=>?_⟩;rw[dl,Int.mul_assoc,e2,<- gG (b':=ag q1 d) (λk=>by rw[aC,e1])]
theorem Dv.up{d a b r q:List Int}{f:Int}(hf:f≠0)(h:∀n,f*cf a n=ap q b n+cf r n)(hb:Dv d b)(hr:Dv d r):Dv d a:=by obtain⟨c1,q1,hc1,e1⟩:=hb;obtain⟨c2,q2,hc2,e2⟩:=hr;refine⟨c1*c2*f,eF c1 (scL c2 (ag q q1)) q2,Bh (Bh hc1 hc2) hf,λn=>?_⟩;rw[ce (a:=ag q q1) (b:=q2) (x:=c2) (y:=c1) (λk=>by rw[h9,bw]),dl,<- e2,gG (b:=b) (b':=ag q1 d) (c:=c1) (λk=>by rw[aC,e1])];have:=h n;grind
theorem Dv.down{d a b r q:List Int}{f:Int}(h:∀n,f*cf a n=ap q b n+cf r n)(ha:Dv d a)(hb:Dv d b):Dv d r:=by obtain⟨c1,q1,hc1,e1⟩:=ha;obtain⟨c2,q2,hc2,e2⟩:=hb;refine⟨c1*c2,eF (-c1) (scL (f*c2) q1) (ag q q2),Bh hc1 hc2,λn=>?_⟩;rw[ce (a:=q1) (b:=ag q q2) (x:=f*c2) (y := -c1) (λk=>by rw[h9,bw]),dl,<- e1,gG (b:=b) (b':=ag q2 d) (c:=c2) (λk=>by rw[aC,e2])];have:=h n;grind
theorem Dv.prop_right{d p p':List Int}{x y:Int}(hx:x≠0)(h:∀n,x*cf p' n=y*cf p n)(hd:Dv d p):Dv d p':=by obtain⟨c,q,hc,e⟩:=hd;refine⟨c*x,scL y q,Bh hc hx,λn=>?_⟩;rw[ce (a:=q) (b:=[]) (x:=y) (y:=0) (λk=>by rw[bw];simp),<- e];have:=h n;grind
theorem Dv.prop_left{d d' p:List Int}{x y:Int}(hx:x≠0)(hy:y≠0)(h:∀n,x*cf d' n=y*cf d n)(hd:Dv d p):Dv d' p :=
 Dv.trans (Dv.prop_right hy (λn=>(h n).symm) (Dv.refl d')) hd
theorem d9{l:List Int}(h:Tr l):∃g:Int,g≠0/\∀n,cf l n=g*cf (aB l) n:=by
 by_cases hl:l=[]
 ·subst hl;exact⟨1,by decide,λn=>by rw[bB];show 0=1*cf [] n;rw[bB];rfl⟩
 have hg:(ay l:Int)≠0:=by obtain⟨r,x,rfl⟩:=(ck l).resolve_left hl;have hx:x≠0:=tr_snoc.mp h;have h1:0<ay (r++[x]):=Nat.pos_of_dvd_of_pos (gW (by simp:x∈r++[x])) (BZ.mpr hx);omega
 have e1:∀n,cf l n=(ay l:Int)*cf (aE l) n:=λn=>by
  unfold aE;by_cases hn:n<l.length
  ·rw[bT hn,bT (by rw[A4];exact hn),List.getElem_map];exact(Int.mul_ediv_cancel' (fC (BI hn))).symm
  ·rw[aZ (by omega),aZ (by rw[A4];omega),BN]
 unfold aB bo;split
 ·refine⟨-(ay l:Int),by omega,λn=>?_⟩
  have e2:cf ((aE l).map λx => -x) n = -cf (aE l) n:=by
   by_cases hn:n<(aE l).length
   ·rw[bT hn,bT (by rw[A4];exact hn),List.getElem_map]
   ·rw[aZ (l:=aE l) (by omega),aZ (l:=(aE l).map λx => -x) (by rw[A4];omega)];rfl
  rw[e1,e2];grind
 ·exact⟨_,hg,e1⟩
theorem Dv.plain{d p:List Int}(hp:Tr p):Dv d (aB p)↔Dv d p:=by obtain⟨g,hg,e⟩:=d9 hp;exact⟨λh=>Dv.prop_right (x:=1) (y:=g) (by decide) (λn=>by rw[e];omega) h,λh=>Dv.prop_right (x:=g) (y:=1) hg (λn=>by rw[<- e];omega) h⟩
theorem plain_len(l:List Int):(aB l).length=l.length:=by unfold aB bo aE;split<;>simp
theorem lJ{l:List Int}(h:Tr l):Tr (aB l):=qR (io h)
def Cop(a:List Int)(m:Nat):Prop:=∀k:Nat,k∣m->(∀n,(k:Int)∣cf a n)->k=1
theorem ko:∀(N:Nat) (a b:List Int) (m:Nat),a.length+b.length<=N->Cop a m->Cop b m->(∀n,(m:Int)∣ap a b n)->m=1
 |_,[],b,m,_,h1,_,_=>h1 m (Nat.dvd_refl _) λn=>by rw[bB];exact Int.dvd_zero _
 |_,_::_,[],m,_,_,h2,_=>h2 m (Nat.dvd_refl _) λn=>by rw[bB];exact Int.dvd_zero _
 |0,_::_,_::_,_,h,_,_,_=>absurd h (by simp)
 |N+1,x::a,y::b,m,h,h1,h2,h3=>by
  have d1:Nat.gcd m x.natAbs=1:=by
   refine ko N a (y::b) _ (by simp at h ⊢;omega) (λk hk hn=>h1 k (B3 hk (BP _ _)) λn=>?_) (λk hk=>h2 k (B3 hk (BP _ _))) λn=>?_
   ·cases n with
    |zero=>exact BQ.mpr (B3 hk (B0 _ _))
    |succ n=>exact hn n
   ·have e:=cg x a (y::b) (n+1);have g1:((Nat.gcd m x.natAbs:Nat):Int)∣ap (x::a) (y::b) (n+1):=Int.dvd_trans (Int.ofNat_dvd.mpr (BP _ _)) (h3 _);have g2:((Nat.gcd m x.natAbs:Nat):Int)∣x*cf (y::b) (n+1):=Int.dvd_mul_of_dvd_left (BQ.mpr (B0 _ _))
    have e2:ap a (y::b) n=ap (x::a) (y::b) (n+1)-x*cf (y::b) (n+1):=by rw[e];show _=_+ap a (y::b) n-_;omega
    rw[e2];exact Int.dvd_sub g1 g2
  have d2:Nat.gcd m y.natAbs=1:=by
   refine ko N (x::a) b _ (by simp at h ⊢;omega) (λk hk=>h1 k (B3 hk (BP _ _))) (λk hk hn=>h2 k (B3 hk (BP _ _)) λn=>?_) λn=>?_
   ·cases n with
    |zero=>exact BQ.mpr (B3 hk (B0 _ _))
    |succ n=>exact hn n
   ·have e:=jX y b (x::a) (n+1);have g1:((Nat.gcd m y.natAbs:Nat):Int)∣ap (x::a) (y::b) (n+1):=Int.dvd_trans (Int.ofNat_dvd.mpr (BP _ _)) (h3 _);have g2:((Nat.gcd m y.natAbs:Nat):Int)∣y*cf (x::a) (n+1):=Int.dvd_mul_of_dvd_left (BQ.mpr (B0 _ _))
    have e2:ap (x::a) b n=ap (x::a) (y::b) (n+1)-y*cf (x::a) (n+1):=by rw[e];show _=_+ap (x::a) b n-_;omega
    rw[e2];exact Int.dvd_sub g1 g2
  have h0:=h3 0;rw[cg]at h0
  have h0':m∣x.natAbs*y.natAbs:=by
   rw[<- Bt];refine BQ.mp ?_
   have e:x*cf (y::b) 0+up (ap a (y::b)) 0=x*y:=by show x*y+0=x*y;omega
   rwa [e]at h0
  have h4:m∣y.natAbs:=Nat.Coprime.dvd_of_dvd_mul_left d1 h0';rw[Nat.gcd_eq_left h4]at d2;exact d2
theorem vI{l:List Int}{v:Int}(h:v∈l):∃n,n<l.length/\cf l n=v:=by obtain⟨n,hn,e⟩:=List.getElem_of_mem h;exact⟨n,hn,by rw[bT hn,e]⟩
theorem pO{a:List Int}{m:Nat}(h:ay a=1):Cop a m:=λk _ hn=>by
 have:k∣ay a:=dvd_gcdL.mpr λv hv=>by obtain⟨n,_,rfl⟩:=vI hv;exact BQ.mp (hn n)
 rw[h]at this;exact Nat.dvd_one.mp this
theorem sR{a b:List Int}(ha:ay a=1)(hb:ay b=1):ay (ag a b)=1:=by
 refine ko _ a b _ (A5 _) (pO ha) (pO hb) λn=>?_
 rw[<- aC];by_cases hn:n<(ag a b).length
 ·rw[bT hn];exact fC (BI hn)
 ·rw[aZ (by omega)];exact Int.dvd_zero _
structure Pln(l:List Int):Prop where
 tr:Tr l
 ne:l≠[]
 prim:ay l=1
 pos:0<bR l
theorem wt{l:List Int}(h:Tr l)(hne:l≠[]):bR l≠0:=by have:=A9.mpr hne;exact h (l.length-1) (by omega)
theorem Pln.plain{l:List Int}(h:Pln l):aB l=l:=by unfold aB;rw[rJ (.inr h.prim)];unfold bo;rw[if_neg (by have:=h.pos;omega)]
theorem rF{l:List Int}:scL (ay l:Int) (aE l)=l:=by unfold scL aE;rw[List.map_map];refine(Ca (g:=id) λx hx=>?_).trans (List.map_id _);exact Int.mul_ediv_cancel' (fC hx)
theorem gB{l:List Int}(h:Tr l)(hne:l≠[]):Pln (aB l):=by
 have hg:0<ay l:=by obtain⟨r,x,rfl⟩:=(ck l).resolve_left hne;have hx:x≠0:=tr_snoc.mp h;exact Nat.pos_of_dvd_of_pos (gW (by simp:x∈r++[x])) (BZ.mpr hx)
 have h1:ay (aE l)=1:=by have e:=kj (ay l:Int) (aE l);rw[rF,BR]at e;exact Nat.eq_of_mul_eq_mul_left hg (by rw[<- e,Nat.mul_one])
 have hs:aE l≠[]:=λz=>hne (by have:=congrArg List.length z;unfold aE at this;simpa using this)
 have hl:=wt (io h) hs
 have hp:ay (aB l)=1:=by
  rcases sP (.inr h1:eU (aE l))with z |z
  ·exact absurd (congrArg List.length z) (by
    have:=plain_len l;unfold aB at this
    rw[this]
    exactλq=>hne (Bm.mp q))
  ·exact z
 refine⟨lJ h,λz=>hne (Bm.mp (by rw[<- plain_len,z];rfl)),hp,?_⟩;unfold aB bo;split
 ·rw[oo];omega
 ·omega
theorem bA{a b:List Int}(ha:a≠[])(hb:b≠[]):(ag a b).length=a.length+b.length-1:=by unfold ag;rw[if_neg (λz=>z.elim ha hb),A4,BY]
theorem wq{a b:List Int}(ha:a≠[])(hb:b≠[]):bR (ag a b)=bR a*bR b:=by
 have h1:=A9.mpr ha;have h2:=A9.mpr hb;unfold bR;rw[bA ha hb,aC];have e:a.length+b.length-1-1=(a.length-1)+(b.length-1):=by omega
 rw[e,jW (by omega) (by omega)]
theorem Pln.mul{a b:List Int}(ha:Pln a)(hb:Pln b):Pln (ag a b):=by
 refine⟨dS ha.tr hb.tr,λz=>?_,sR ha.prim hb.prim,by rw[wq ha.ne hb.ne];exact Bi ha.pos hb.pos⟩;have h1:=A9.mpr ha.ne;have h2:=A9.mpr hb.ne;have:=bA ha.ne hb.ne;rw[z]at this;simp at this
 omega
theorem tq{p q d:List Int}{c:Int}(hc:c≠0)(hp:Tr p)(hpn:p≠[])(hq:Tr q)(hd:Pln d)(h:∀n,c*cf p n=ap q d n):ag (aB q) d=aB p:=by
 have hqn:q≠[]:=λz=>by have h1:=A9.mpr hpn;have h2:=h (p.length-1);rw[z,cI]at h2;exact Bh hc (hp (p.length-1) (by omega)) h2
 obtain⟨g,hg,e⟩:=d9 hq;have hm:=(gB hq hqn).mul hd;rw[<- hm.plain];refine tj hg hc hm.tr hp λk=>?_
 rw[h,aC,ce (a:=aB q) (b:=[]) (x:=g) (y:=0) (c:=q) (λk=>by rw[e];simp),cI];simp
theorem Dv.trim{d p:List Int}(h:Dv d p):∃(c:Int) (q:List Int),c≠0/\Tr q/\∀n,c*cf p n=ap q d n:=by obtain⟨c,q,hc,e⟩:=h;exact⟨c,RM.trim q,hc,f8 q,λn=>by rw[e];exact(nN (λk=>hU q k) λ_=>rfl).symm⟩
theorem Dv.fellow{d p:List Int}(hd:Pln d)(hp:Tr p)(hpn:p≠[])(h:Dv d p):∃q,Pln q/\ag q d=aB p:=by
 obtain⟨c,q,hc,hq,e⟩:=h.trim
 have hqn:q≠[]:=λz=>by have h1:=A9.mpr hpn;have h2:=e (p.length-1);rw[z,cI]at h2;exact Bh hc (hp (p.length-1) (by omega)) h2
 exact⟨aB q,gB hq hqn,tq hc hp hpn hq hd e⟩
theorem Pln.const{l:List Int}(h:Pln l)(h1:l.length=1):l=[1]:=by
 obtain⟨x,rfl⟩:∃x,l=[x]:=List.length_eq_one_iff.mp h1;have h2:=h.prim;rw[xo]at h2;have h3:0<x:=h.pos;have:x=1:=by omega
 rw[this]
theorem one_mul(l:List Int)(h:Tr l):ag [1] l=l:=by
 refine pj (dS (tr_snoc (r:=[]).mpr (by decide)) h) h λk=>?_
 rw[aC,fo];omega
theorem sZ{a b:List Int}(ha:Pln a)(hb:Pln b)(h1:Dv a b)(h2:Dv b a):a=b:=by obtain⟨q,hq,e⟩:=h1.fellow ha hb.tr hb.ne;obtain⟨r,hr,e'⟩:=h2.fellow hb ha.tr ha.ne;rw[hb.plain]at e;rw[ha.plain]at e';have l1:=bA hq.ne ha.ne;have l2:=bA hr.ne hb.ne;rw[e]at l1;rw[e']at l2;have p1:=A9.mpr hq.ne;have p2:=A9.mpr hr.ne;have p3:=A9.mpr ha.ne;have hq1:=hq.const (by omega);rw[hq1,one_mul a ha.tr]at e;exact e
theorem Dv.short{d r:List Int}(hd:d≠[])(hdt:Tr d)(hr:Tr r)(hl:r.length<d.length)(h:Dv d r):r=[]:=by
 obtain⟨c,q,hc,e⟩:=h;have z:=nK hd hdt (d:=q) λn hn=>by rw[<- e,aZ (by omega),BN]
 refine vp hr λk=>?_
 have h1:=e k;rw[jV z]at h1;exact(Bp.mp h1).resolve_left hc
theorem Dv.rest{d p:List Int}(hd:d≠[])(hdt:Tr d)(h:Dv d p):aL p d=[] :=
 Dv.short hd hdt (kD _ _) (g8 hd) (Dv.down (λn=>eP (a:=p) hd n) h (Dv.refl d))
theorem Dv.mul_left(a b:List Int):Dv a (ag a b):=⟨1,b,by decide,λn=>by rw[aC,dk];omega⟩
theorem mN{x p:Int}(hp:0<p):sg (p*x)=sg x:=by rw[BA];exact iH hp
theorem gT{t n x y:Int}:∀(a b c:List Int),a.length=c.length->b.length=c.length->(∀k,cf c k=x*cf a k+y*cf b k)->hv t n c=x*hv t n a+y*hv t n b
 | [],[],[],_,_,_=>by simp[oM]
 |u::a,v::b,w::c,ha,hb,h=>by
  have h0:w=x*u+y*v:=h 0;have ih:=gT (t:=t) (n:=n) (x:=x) (y:=y) a b c (by simpa using ha) (by simpa using hb) (λk=>h (k+1));have la:a.length=c.length:=by simpa using ha
  have lb:b.length=c.length:=by simpa using hb
  rw[cv,cv,cv,ih,h0,la,lb];generalize n^(c.length+1)=p;grind
 | [],_::_,[],_,h,_=>by simp at h
 |_::_,_,[],h,_,_=>by simp at h
 | [],_,_::_,h,_,_=>by simp at h
 |_::_,[],_::_,_,h,_=>by simp at h
theorem oK(t n g:Int)(l:List Int):hv t n (scL g l)=g*hv t n l:=by have:=gT (t:=t) (n:=n) (x:=g) (y:=0) l l (scL g l) (by rw[bQ]) (by rw[bQ]) (λk=>by rw[bw];simp);rw[this];simp
theorem oJ(t n:Int):∀(k:Nat) (l:List Int),hv t n (l++List.replicate k 0)=n^k*hv t n l
 |k,[]=>by
  rw[List.nil_append,oM,BN]
  induction k with
  |zero=>rfl
  |succ k ih=>rw[BG,cv,ih];simp
 |k,v::l=>by
  rw[List.cons_append,cv,oJ t n k l,cv];have:(l++List.replicate k (0:Int)).length+1=l.length+1+k:=by simp;omega
  rw[this,Int.pow_add];generalize n^(l.length+1)=p;generalize n^k=q;grind
theorem yc(l:List Int)(k j:Nat):cf (l++List.replicate k 0) j=cf l j:=by
 by_cases h:j<l.length
 ·rw[pU h]
 ·rw[kS (by omega),hX,aZ (by omega)]
theorem oN(t n:Int){b:List Int}(hb:b≠[]):∀{a:List Int},a≠[]->n*hv t n (ag a b)=hv t n a*hv t n b
 | [x],_=>by
  have e:ag [x] b=scL x b:=by
   apply cM
   ·rw[bA (by simp) hb,bQ];simp
   ·intro k _;rw[aC,fo,bw]
  rw[e,oK,xa];grind
 |x::y::a,_=>by
  have ih:=oN t n hb (a:=y::a) (by simp);have lm:(ag (x::y::a) b).length=(y::a).length+b.length:=by rw[bA (by simp) hb,Bl];omega
  have lm2:(ag (y::a) b).length+1=(y::a).length+b.length:=by rw[bA (by simp) hb];have:=A9.mpr hb;rw[Bl];omega
  have e:=gT (t:=t) (n:=n) (x:=x) (y:=1) (b++List.replicate (y::a).length 0) (0::ag (y::a) b) (ag (x::y::a) b) (by rw[lm,Ba,Ch];omega) (by rw[lm,Bl,lm2])
   (λk=>by rw[aC,cg,yc,kN];rw[BJ];congr 1;unfold up;split<;>first |rfl |rw[aC])
  rw[e,oJ,cv (v:=0),cv (v:=x)];have:n*(x*(n^(y::a).length*hv t n b)+1*(0*n^((ag (y::a) b).length+1)+t*hv t n (ag (y::a) b)))=x*(n^(y::a).length*n)*hv t n b+t*(n*hv t n (ag (y::a) b)):=by grind
  rw[this,ih,<- Bv];grind
noncomputable def sl:List (List Int)->Nat
 | []=>0
 |s::ss=>s.length+sl ss
noncomputable def bE(acc:List Int)(ss:List (List Int)):List Int:=ss.foldl ag acc
theorem nh(acc:List Int)(ss:List (List Int))(s:List Int):bE acc (ss++[s])=ag (bE acc ss) s:=by unfold bE;rw[List.foldl_append];rfl
noncomputable def bU:Nat->List Int->List Int->Prop
 |0,one,_=>one=[]
 |n+1,one,other=>one=[]\/bU n other (nxt one other)
theorem dn(a:List Int):ag [] a=[]:=by unfold ag;rw[if_pos (.inl rfl)]
theorem dm(a:List Int):ag a []=[]:=by unfold ag;rw[if_pos (.inr rfl)]
theorem ft(a b:List Int):ag a b=ag b a:=by
 by_cases ha:a=[]
 ·rw[ha,dn,dm]
 by_cases hb:b=[]
 ·rw[hb,dn,dm]
 refine cM ?_ λk _=>?_
 ·rw[bA ha hb,bA hb ha];omega
 ·rw[aC,aC,dk]
theorem gH{a b:List Int}(ha:a≠[])(hb:b≠[]):ag a b≠[]:=λz=>by have:=bA ha hb;rw[z,List.length_nil]at this;have:=A9.mpr ha;have:=A9.mpr hb;omega
theorem fu(a b c:List Int):ag (ag a b) c=ag a (ag b c):=by
 by_cases ha:a=[]
 ·rw[ha,dn,dn,dn]
 by_cases hb:b=[]
 ·rw[hb,dn,dm,dn]
 by_cases hc:c=[]
 ·rw[hc,dm,dm,dm]
 have h1:=gH ha hb;have h2:=gH hb hc;refine cM ?_ λk _=>?_
 ·have:=A9.mpr hb;rw[bA h1 hc,bA ha h2,bA ha hb,bA hb hc];obtain⟨y,ey⟩:=Nat.exists_eq_succ_of_ne_zero (Nat.ne_of_gt this);rw[ey,Nat.succ_add,Nat.add_succ,Nat.succ_sub_one,Nat.succ_sub_one,Nat.add_assoc]
 ·rw[aC,aC,dl]
instance:Std.Commutative ag:=⟨ft⟩
instance:Std.Associative ag:=⟨fu⟩
theorem vE(a:List Int):ag [1] a=a:=by
 by_cases ha:a=[]
 ·rw[ha,dm]
 refine cM ?_ λk _=>?_
 ·rw[bA (by simp) ha];simp
 ·rw[aC,fo];omega
theorem vD(a:List Int):ag a [1]=a:=by rw[ft,vE]
theorem pln_one:Pln [1]:=⟨tr_snoc (r:=[]).mpr (by decide),by simp,by decide,by decide⟩
theorem ni{a:List Int}(h:Pln a):1<=a.length:=A9.mpr h.ne
def Sim(a b:List Int):Prop:=∃x y:Int,x≠0/\y≠0/\∀n,x*cf a n=y*cf b n
theorem Sim.refl(a:List Int):Sim a a:=⟨1,1,by decide,by decide,λ_=>rfl⟩
theorem Sim.dv{a b d:List Int}(h:Sim a b)(hd:Dv d b):Dv d a:=by obtain⟨x,y,hx,hy,e⟩:=h;exact Dv.prop_right hx e hd
theorem Sim.symm{a b:List Int}(h:Sim a b):Sim b a:=by obtain⟨x,y,hx,hy,e⟩:=h;exact⟨y,x,hy,hx,λn=>(e n).symm⟩
theorem Dv.cancel{d a b:List Int}(hd:d≠[])(ht:Tr d)(h:Dv (ag d a) (ag d b)):Dv a b:=by
 obtain⟨c,q,hc,e⟩:=h
 have key:∀k,cf (eF (-1) (scL c b) (ag q a)) k=0:=by
  refine nK hd ht λn _=>?_
  rw[ce (a:=b) (b:=ag q a) (x:=c) (y := -1) (λk=>by rw[h9,bw])]
  have e1:ap (ag q a) d n=ap q (ag d a) n:=by
   rw[<- aC,<- aC]
   congr 1
   rw[fu,ft a d]
  have e2:=e n;rw[aC,dk]at e2;rw[e1,<- e2];omega
 refine⟨c,q,hc,λn=>?_⟩;have:=key n;rw[h9,bw,aC]at this;omega
noncomputable def prd(ss:List (List Int)):List Int:=ss.foldr ag [1]
theorem oW:∀(ss:List (List Int)) (acc:List Int),ss.foldl ag acc=ag acc (prd ss)
 | [],acc=>(vD acc).symm
 |s::ss,acc=>by show ss.foldl ag (ag acc s)=ag acc (ag s (prd ss));rw[oW ss,fu]
theorem jK:∀(ss:List (List Int)),(∀s∈ss,Pln s)->Pln (prd ss)
 | [],_=>pln_one
 |s::ss,h=>(h s (Br ..)).mul (jK ss λx hx=>h x (Bj _ hx))
structure Pri(s:List Int):Prop where
 pln:Pln s
 two:2<=s.length
 or:∀a b,Dv s (ag a b)->Dv s a\/Dv s b
theorem Pri.not_one{s:List Int}(h:Pri s):¬Dv s [1]:=λz=>by have:=Dv.short h.pln.ne h.pln.tr pln_one.tr (by have:=h.two;show 1<s.length;omega) z;exact absurd this (by simp)
theorem Pri.prd{s:List Int}(h:Pri s):∀ss:List (List Int),Dv s (prd ss)->∃t∈ss,Dv s t
 | [],hd=>absurd hd h.not_one
 |t::ss,hd=>by
  rcases h.or t (RM.prd ss) hd with z |z
  ·exact⟨t,Br ..,z⟩
  ·obtain⟨t',ht,z'⟩:=Pri.prd h ss z;exact⟨t',Bj _ ht,z'⟩
theorem Pri.same{s t:List Int}(hs:Pri s)(ht:Pri t)(h:Dv s t):s=t:=by
 obtain⟨q,hq,e⟩:=h.fellow hs.pln ht.pln.tr ht.pln.ne;rw[ht.pln.plain]at e;have l:=bA hq.ne hs.pln.ne;rw[e]at l;have:=hs.two;have:=ni hq;rcases ht.or q s (e ▸ Dv.refl _)with z |z
 ·exact absurd (Dv.short ht.pln.ne ht.pln.tr hq.tr (by omega) z) hq.ne
 ·exact sZ hs.pln ht.pln h z
theorem kE:∀(ps:List (List Int)) {E:List Int},(∀p∈ps,Pri p)->Pln E->Dv E (prd ps)->E=[1]\/∃p∈ps,Dv p E
 | [],E,_,hE,h=>by
  refine .inl (hE.const ?_);have:=ni hE;refine Classical.byContradiction λz=>?_
  have:=Dv.short hE.ne hE.tr pln_one.tr (by show 1<E.length;omega) h;exact absurd this (by simp)
 |p::ps,E,hp,hE,h=>by
  obtain⟨c,q,hc,e⟩:=h;have P:=hp p (Br ..)
  have d1:Dv p (ag q E):=Dv.prop_right (x:=1) (y:=c) (by decide) (λn=>by
   show 1*cf (ag q E) n=c*cf (RM.prd (p::ps)) n
   rw[e,aC];omega) (Dv.mul_left p (prd ps))
  rcases P.or q E d1 with z |z
  ·obtain⟨c',q',hc',e'⟩:=z
   have d2:Dv (ag p E) (ag p (prd ps)):=by
    refine⟨c*c',q',Bh hc hc',λn=>?_⟩;have e1:=e n;rw[show ag p (prd ps)=RM.prd (p::ps)from rfl]
    have e2:ap (ag q' p) E n=c'*ap q E n:=by have:=ce (a:=q) (b:=[]) (x:=c') (y:=0) (c:=ag q' p) (q:=E) (n:=n) (λk=>by rw[aC,<- e'];simp);rw[this];simp
    rw[<- dl,e2,<- e1,BA c c',Int.mul_assoc]
   rcases kE ps (λx hx=>hp x (Bj _ hx)) hE (Dv.cancel P.pln.ne P.pln.tr d2)with w |⟨t,ht,w⟩
   ·exact .inl w
   ·exact .inr ⟨t,Bj _ ht,w⟩
  ·exact .inr ⟨p,Br ..,z⟩
noncomputable def pw(s:List Int):Nat->List Int
 |0=>[1]
 |n+1=>ag s (pw s n)
noncomputable def fP(g:Nat->Nat)(us:List (List Int×Nat)):List Int:=us.foldr (λp acc=>ag (pw p.1 (g p.2)) acc) [1]
theorem Pri.pw{s t:List Int}(h:Pri s):∀n,Dv s (pw t n)->0<n/\Dv s t
 |0,hd=>absurd hd h.not_one
 |n+1,hd=>by
  refine⟨by omega,?_⟩;rcases h.or t (RM.pw t n) hd with z |z
  ·exact z
  ·exact(Pri.pw h n z).2
theorem Pri.fP{s:List Int}(h:Pri s){g:Nat->Nat}:∀us:List (List Int×Nat),Dv s (fP g us)->∃p∈us,0<g p.2/\Dv s p.1
 | [],hd=>absurd hd h.not_one
 |p::us,hd=>by
  rcases h.or (RM.pw p.1 (g p.2)) (RM.fP g us) hd with z |z
  ·exact⟨p,Br ..,(h.pw _ z)⟩
  ·obtain⟨q,hq,z'⟩:=Pri.fP h us z;exact⟨q,Bj _ hq,z'⟩
structure Use(us:List (List Int×Nat)):Prop where
 pri:∀p∈us,Pri p.1
 pos:∀p∈us,1<=p.2
 nd:(us.map (·.1)).Nodup
theorem Use.tail{p:List Int×Nat}{us:List (List Int×Nat)}(h:Use (p::us)):Use us :=
 ⟨λx hx=>h.pri x (Bj _ hx),λx hx=>h.pos x (Bj _ hx),(B7.mp h.nd).2⟩
theorem sw{s a b:List Int}(hs:s≠[])(h:Dv s (ag a b)):Dv s (ag (aL a s) (aL b s)):=by
 have e1:=λn=>eP (a:=a) hs n
 have e2:=λn=>eP (a:=b) hs n
 have d1:Dv s (ag (aL a s) b):=by
  refine Dv.down (f:=bJ a s) (q:=ag (bI a s) b) (b:=s) (λn=>?_) h (Dv.refl _);rw[aC,aC];have l:=ce (a:=ag (bI a s) s) (b:=aL a s) (x:=1) (y:=1) (c:=scL (bJ a s) a) (q:=b) (n:=n) (λk=>by rw[bw,e1,aC];omega);have l2:=ce (a:=a) (b:=[]) (x:=bJ a s) (y:=0) (c:=scL (bJ a s) a) (q:=b) (n:=n) (λk=>by rw[bw];simp)
  have l3:ap (ag (bI a s) s) b n=ap (ag (bI a s) b) s n:=by
   rw[<- aC,<- aC]
   congr 1
   ac_rfl
  rw[l2,l3]at l;rw[cI]at l;omega
 refine Dv.down (f:=bJ b s) (q:=ag (aL a s) (bI b s)) (b:=s) (λn=>?_) d1 (Dv.refl _);rw[aC,aC];have l:=vx (a:=ag (bI b s) s) (b:=aL b s) (x:=1) (y:=1) (c:=scL (bJ b s) b) (q:=aL a s) (n:=n) (λk=>by rw[bw,e2,aC];omega);have l2:=gG (a:=aL a s) (b:=b) (b':=scL (bJ b s) b) (c:=bJ b s) (n:=n) (λk=>by rw[bw])
 have l3:ap (aL a s) (ag (bI b s) s) n=ap (ag (aL a s) (bI b s)) s n:=by
  rw[<- aC,<- aC]
  congr 1
  ac_rfl
 rw[l2,l3]at l;omega
theorem g6{s a:List Int}(hs:s≠[])(ht:Tr s)(h:aL a s=[]):Dv s a :=
 ⟨bJ a s,bI a s,kF hs ht,λn=>by rw[eP hs,h,bB];omega⟩
noncomputable def ax(u e b:Int):List Int:=if e=0 then[-u,b]else[u*u-e,-2*b*u,b*b]
theorem ip{u e b:Int}(hb:1<=b):Tr (ax u e b)/\2<=(ax u e b).length:=by
 unfold ax;split
 ·exact⟨(tr_snoc (r:=[-u])).mpr (by omega),by show 2<=2;decide⟩
 ·exact⟨(tr_snoc (r:=[u*u-e,-2*b*u])).mpr (Bh (by omega) (by omega)),by show 2<=3;decide⟩
theorem nI{n e:Int}(hn:0<=n)(h1:n*n<e)(h2:e<(n+1)*(n+1)):∀(k:Nat) (x y:Int),x.toNat<=k->0<x->0<=y->e*(x*x)=y*y->False
 |0,x,y,hk,hx,_,_=>by omega
 |k+1,x,y,hk,hx,hy,h=>by
  have hxx:0<x*x:=Bi hx hx
  have a1:n*x<y:=by
   refine Int.not_le.mp λz=>?_
   have:=Int.mul_le_mul z z hy (Int.le_trans hy z);have:=BS h1 hxx;have e1:n*x*(n*x)=n*n*(x*x):=by grind
   omega
  have a2:y<(n+1)*x:=by
   refine Int.not_le.mp λz=>?_
   have z0:0<=(n+1)*x:=Cb (by omega) (by omega);have:=Int.mul_le_mul z z z0 hy;have:=BS h2 hxx;have e1:(n+1)*x*((n+1)*x)=(n+1)*(n+1)*(x*x):=by grind
   omega
  have a3:(n+1)*x=n*x+x:=by rw[Int.add_mul];omega
  refine nI hn h1 h2 k (y-n*x) ((e*x-n*y).natAbs:Int) (by omega) (by omega) (by omega) ?_;rw[Int.natAbs_mul_self' (e*x-n*y)];grind
def NS(e:Int):Prop:=e<=0\/∃n:Int,0<=n/\n*n<e/\e<(n+1)*(n+1)
theorem NS.no{e x y:Int}(h:NS e)(he:e≠0)(hx:x≠0)(eq:x*x*e=y*y):False:=by
 rcases h with h |⟨n,hn,h1,h2⟩
 ·have hxx:0<x*x:=by
   rcases Cc hx with z |z
   ·exact Int.mul_pos_of_neg_of_neg z z
   ·exact Bi z z
  have:x*x*e<0:=Int.mul_neg_of_pos_of_neg hxx (by omega)
  have:0<=y*y:=by
   rcases Int.le_total 0 y with z |z
   ·exact Cb z z
   ·exact Cl z z
  omega
 ·refine nI hn h1 h2 _ (x.natAbs:Int) (y.natAbs:Int) (A5 _) (by omega) (by omega) ?_;rw[Int.natAbs_mul_self' x,Int.natAbs_mul_self' y,<- eq,BA]
theorem sF{u e b:Int}(hb:1<=b)(he:NS e){p q:List Int}(h:Dv (ax u e b) (ag p q)):Dv (ax u e b) p\/Dv (ax u e b) q:=by
 obtain⟨tr,l2⟩:=ip (u:=u) (e:=e) hb;have hne:ax u e b≠[]:=λz=>by rw[z]at l2;simp at l2
 by_cases hp:aL p (ax u e b)=[]
 ·exact .inl (g6 hne tr hp)
 by_cases hq:aL q (ax u e b)=[]
 ·exact .inr (g6 hne tr hq)
 exfalso;have d:=sw hne h;have t1:=kD p (ax u e b);have t2:=kD q (ax u e b);have n1:=g8 (a:=p) hne;have n2:=g8 (a:=q) hne;generalize aL p (ax u e b)=r1 at *
 generalize aL q (ax u e b)=r2 at *
 have lm:=bA hp hq;have p1:=A9.mpr hp;have p2:=A9.mpr hq;by_cases hs:(ag r1 r2).length<(ax u e b).length
 ·exact gH hp hq (Dv.short hne tr (dS t1 t2) hs d)
 by_cases h0:e=0
 ·have:(ax u e b).length=2:=by unfold ax;rw[if_pos h0];rfl
  omega
 have er:ax u e b=[u*u-e,-2*b*u,b*b]:=by unfold ax;rw[if_neg h0]
 rw[er]at hs n1 n2 d hne tr;simp only[Bl,List.length_nil]at hs n1 n2
 obtain⟨α,β,rfl⟩:∃α β,r1=[α,β]:=by
  match r1,(show r1.length=2 by omega)with
  | [α,β],_=>exact⟨α,β,rfl⟩
 obtain⟨γ,δ,rfl⟩:∃γ δ,r2=[γ,δ]:=by
  match r2,(show r2.length=2 by omega)with
  | [γ,δ],_=>exact⟨γ,δ,rfl⟩
 have hβ:β≠0:=(tr_snoc (r:=[α])).mp t1;have hδ:δ≠0:=(tr_snoc (r:=[γ])).mp t2
 have em:ag [α,β] [γ,δ]=[α*γ,α*δ+β*γ,β*δ]:=by
  refine cM (by rw[lm];rfl) λk hk=>?_
  rw[lm]at hk;rw[aC];have hk':k<3:=hk;have:k=0\/k=1\/k=2:=by omega
  rcases this with rfl |rfl |rfl
  ·show(0+(α*γ))+0=α*γ;omega
  ·show(0+(α*δ))+(β*γ)=α*δ+β*γ;omega
  ·show(0+α*cf [γ,δ] 2)+(β*δ)=β*δ;have:cf [γ,δ] 2=0:=rfl;rw[this];simp
 rw[em]at d;have hr:=d.rest hne tr;have eqn:=λn=>eP (a:=[α*γ,α*δ+β*γ,β*δ]) hne n
 have hf:=kF (a:=[α*γ,α*δ+β*γ,β*δ]) hne tr;have lq:=xW (a:=[α*γ,α*δ+β*γ,β*δ]) hne;generalize bJ [α*γ,α*δ+β*γ,β*δ] [u*u-e,-2*b*u,b*b]=f at *
 generalize bI [α*γ,α*δ+β*γ,β*δ] [u*u-e,-2*b*u,b*b]=Q at *
 rw[hr]at eqn;have lq':Q.length=1:=lq;obtain⟨κ,rfl⟩:∃κ,Q=[κ]:=List.length_eq_one_iff.mp lq';have g0:=eqn 0;have g1:=eqn 1;have g2:=eqn 2;rw[fo,bB]at g0 g1 g2
 replace g0:f*(α*γ)=κ*(u*u-e)+0:=g0
 replace g1:f*(α*δ+β*γ)=κ*(-2*b*u)+0:=g1
 replace g2:f*(β*δ)=κ*(b*b)+0:=g2
 have hκ:κ≠0:=λz=>by rw[z,BX]at g2;exact Bh hf (Bh hβ hδ) (by omega)
 refine he.no h0 (x:=2*κ*b) (y:=f*(α*δ-β*γ)) (Bh (Bh (by decide) hκ) (by omega)) ?_;have k1:f*(α*δ-β*γ)*(f*(α*δ-β*γ))=f*(α*δ+β*γ)*(f*(α*δ+β*γ))-4*((f*(α*γ))*(f*(β*δ))):=by grind
 rw[k1,g0,g1,g2];grind
theorem sE{u e b:Int}(hb:1<=b)(he:NS e):Pri (aB (ax u e b)):=by
 obtain⟨tr,l2⟩:=ip (u:=u) (e:=e) hb;have hne:ax u e b≠[]:=λz=>by rw[z]at l2;simp at l2
 obtain⟨g,hg,eg⟩:=d9 tr;have to:∀p,Dv (aB (ax u e b)) p->Dv (ax u e b) p:=λp h=>Dv.prop_left (x:=1) (y:=g) (by decide) hg (λn=>by rw[eg];omega) h
 have fr:∀p,Dv (ax u e b) p->Dv (aB (ax u e b)) p:=λp h=>Dv.prop_left (x:=g) (y:=1) hg (by decide) (λn=>by rw[<- eg];omega) h
 refine⟨gB tr hne,by rw[plain_len];exact l2,λp q h=>?_⟩;exact(sF hb he (to _ h)).imp (fr _) (fr _)
noncomputable def eq1(k m:Nat):Nat:=if m=k then 1 else 0
noncomputable def ug(_:Nat):Nat:=1
noncomputable def flt(us:List (List Int×Nat)):List Int:=fP ug us
variable {us:List (List Int×Nat)}
noncomputable def cR(sq due:Int):Int:=if due<0\/due*due<sq then 1 else 0-(if sq<due*due then 1 else 0)
noncomputable def bj(l:List Int)(t n:Int):Int:=if 0<cf l 3 then cR (cf l 1*n*n) (cf l 2*t-cf l 0*n)else 0-cR (cf l 1*n*n) (0-(cf l 2*t-cf l 0*n))
structure Spt(l:List Int):Prop where
 is:∃u e b s:Int,l=[u,e,b,s]/\0<=e/\1<=b/\(s=1\/s = -1)
noncomputable def spF(f:List Int):List (List Int):=(if 0<=cf f 1 then[[cf f 0,cf f 1,cf f 2,1]]else[])++(if 0<cf f 1 then[[cf f 0,cf f 1,cf f 2,-1]]else[])
noncomputable def spots(fs:List (List Int)):List (List Int):=fs.flatMap spF
theorem rm{f l:List Int}{u e b:Int}(hf:f=[u,e,b])(hb:1<=b)(h:l∈spF f):Spt l/\∃s,l=[u,e,b,s]/\0<=e/\(s=1\/s = -1/\0<e):=by
 subst hf;have hd:spF [u,e,b]=(if 0<=e then[[u,e,b,1]]else[])++(if 0<e then[[u,e,b,-1]]else[]):=rfl;rw[hd]at h;rcases Bn.mp h with h |h
 ·by_cases z:0<=e
  ·rw[if_pos z]at h;obtain rfl:=Bf.mp h;exact⟨⟨u,e,b,1,rfl,z,hb,.inl rfl⟩,1,rfl,z,.inl rfl⟩
  ·rw[if_neg z]at h;cases h
 ·by_cases z:0<e
  ·rw[if_pos z]at h;obtain rfl:=Bf.mp h;exact⟨⟨u,e,b,-1,rfl,by omega,hb,.inr rfl⟩,-1,rfl,by omega,.inr ⟨rfl,z⟩⟩
  ·rw[if_neg z]at h;cases h
noncomputable def aP(f:List Int):List Int:=aB (ax (cf f 0) (cf f 1) (cf f 2))
theorem cU(x y:Int):sg (x*y)=sg x*sg y:=by
 rcases Int.lt_trichotomy x 0 with hx |hx |hx
 ·have h1:sg x = -1:=by unfold sg;rw[if_pos hx]
  have e:x*y = -((-x)*y):=by grind
  rw[e,gq,mN (by omega),h1];omega
 ·subst hx;rw[BX];show(0:Int)=0*_;rw[BX]
 ·have h1:sg x=1:=by unfold sg;rw[if_neg (by omega),if_pos hx]
  rw[mN hx,h1,BJ]
def zd(f:List Int):Prop:=∃u e b:Int,f=[u,e,b]/\1<=b
def inS(l:List Int)(A B D:Int):Prop:=0<bj l A D/\bj l B D<=0
instance (l:List Int) (A B D:Int):Decidable (inS l A B D):=inferInstanceAs (Decidable (_/\_))
theorem k7{x y:Int}{a b:Nat}(hx:x.natAbs<=a)(hy:y.natAbs<=b):(x*y).natAbs<=a*b:=by rw[Bt];exact Cd hx hy
def FacG(f:List Int):Prop:=∃u e b:Int,f=[u,e,b] /\ -1000000000<=u/\u<=1000000000 /\ -10000000000000000<=e/\e<=10000000000000000/\1<=b/\b<=1000/\NS e
theorem FacG.q{f:List Int}(h:FacG f):zd f:=by obtain⟨u,e,b,rfl,_,_,_,_,h5,_⟩:=h;exact⟨u,e,b,rfl,h5⟩
noncomputable def pv:List Int->Rat->Rat
 | [],_=>0
 |c::l,x=>(c:Rat)+x*pv l x
noncomputable def Bd(M v:Rat):Prop := -M<=v/\v<=M
theorem Bd.mul{M N u v:Rat}(h1:Bd M u)(h2:Bd N v):Bd (M*N) (u*v):=by obtain⟨a,b⟩:=h1;obtain⟨c,d⟩:=h2;have p1:0<=(M-u)*(N-v):=Bu (by grind) (by grind);have p2:0<=(M+u)*(N+v):=Bu (by grind) (by grind);have p3:0<=(M-u)*(N+v):=Bu (by grind) (by grind);have p4:0<=(M+u)*(N-v):=Bu (by grind) (by grind);constructor<;>grind
theorem Bd.add{M N u v:Rat}(h1:Bd M u)(h2:Bd N v):Bd (M+N) (u+v):=by obtain⟨a,b⟩:=h1;obtain⟨c,d⟩:=h2;constructor<;>grind
theorem Bd.mono{M N u:Rat}(h1:Bd M u)(h:M<=N):Bd N u:=by obtain⟨a,b⟩:=h1;constructor<;>grind
def Nice(f:Rat->Rat):Prop:=∀R:Rat,0<=R->∃M:Rat,0<=M/\(∀x,Bd R x->Bd M (f x))/\∀x y,Bd R x->Bd R y->x<=y->Bd (M*(y-x)) (f y-f x)
theorem Nice.add{f g:Rat->Rat}(hf:Nice f)(hg:Nice g):Nice λx=>f x+g x:=λR hR=>by
 obtain⟨M,m0,m1,m2⟩:=hf R hR;obtain⟨N,n0,n1,n2⟩:=hg R hR;refine⟨M+N,by grind,λx h=>(m1 x h).add (n1 x h),λx y hx hy hxy=>?_⟩;have:=(m2 x y hx hy hxy).add (n2 x y hx hy hxy);have e1:M*(y-x)+N*(y-x)=(M+N)*(y-x):=by grind
 have e2:f y-f x+(g y-g x)=f y+g y-(f x+g x):=by grind
 rwa [e1,e2]at this
theorem Nice.mul{f g:Rat->Rat}(hf:Nice f)(hg:Nice g):Nice λx=>f x*g x:=λR hR=>by
 obtain⟨M,m0,m1,m2⟩:=hf R hR;obtain⟨N,n0,n1,n2⟩:=hg R hR;have p:=Bu m0 n0;refine⟨2*(M*N),by grind,λx h=>((m1 x h).mul (n1 x h)).mono (by grind),λx y hx hy hxy=>?_⟩;have:=((m2 x y hx hy hxy).mul (n1 y hy)).add ((m1 x hx).mul (n2 x y hx hy hxy));have e1:M*(y-x)*N+M*(N*(y-x))=2*(M*N)*(y-x):=by grind
 have e2:(f y-f x)*g y+f x*(g y-g x)=f y*g y-f x*g x:=by grind
 rwa [e1,e2]at this
noncomputable def vr:Int->List Int->Int
 |_,[]=>0
 |b,s::r=>(if s*b<0 then 1 else 0)+vr (if s=0 then b else s) r
def fN(s:Int):Prop:=s=1\/s=0\/s = -1
inductive Al:Int->List Int->List Int->Prop
 |nil {b:Int}:Al b [] []
 |stab {b s:Int} {r r':List Int} (h:s≠0) (t:Al s r r'):Al b (s::r) (s::r')
 |unst {b s s':Int} {r r':List Int} (h1:fN s) (h2:fN s') (t:Al (-b) r r'):Al b (s :: -b::r) (s' :: -b::r')
theorem lC{b s:Int}(hb:b=1\/b = -1)(hs:fN s)(r:List Int):vr b (s :: -b::r)=1+vr (-b) r:=by
 have hb0:¬(-b=0):=by omega
 rcases hs with rfl |rfl |rfl
 ·rcases hb with rfl |rfl<;>simp[vr]
 ·rcases hb with rfl |rfl<;>simp[vr]
 ·rcases hb with rfl |rfl<;>simp[vr]
theorem Al.vr:∀{b:Int} {r r':List Int},Al b r r'->(b=1\/b = -1)->(∀s∈r,fN s)->RM.vr b r=RM.vr b r'
 |_,_,_,.nil,_,_=>rfl
 |b,_,_,.stab (s:=s) (r:=r) (r':=r') h t,hb,hu=>by
  have hs:fN s:=hu s (Br ..);have hs':s=1\/s = -1:=by rcases hs with z |z |z;exact .inl z;exact absurd z h;exact .inr z
  have ih:=Al.vr t hs' λx hx=>hu x (Bj _ hx)
  show _+RM.vr (if s=0 then b else s) r=_+RM.vr (if s=0 then b else s) r';rw[if_neg h,ih]
 |b,_,_,.unst h1 h2 t,hb,hu=>by
  have ih:=Al.vr t (by omega) λx hx=>hu x (Bj _ (Bj _ hx))
  rw[lC hb h1,lC hb h2,ih]
theorem yG(q:Rat):∃n:Nat,q<=(n:Rat):=by refine⟨q.ceil.toNat,Rat.le_trans (Rat.le_ceil (x:=q)) ?_⟩;have h:q.ceil<=(q.ceil.toNat:Int):=Int.self_le_toNat _;have h2:=Rat.intCast_le_intCast.mpr h;exact h2
theorem sO{ss:List (List Int)}(h:∀s∈ss,Pri s):bE [1] ss=prd ss:=by unfold bE;rw[oW,one_mul _ (jK ss λs hs=>(h s hs).pln).tr]
theorem kz{f:List Int}(h:FacG f):Pri (aP f):=by obtain⟨u,e,b,rfl,_,_,_,_,h5,_,h7⟩:=h;exact sE h5 h7
theorem k4(v:Rat):∃w:Rat,0<=w/\Bd w v:=by
 rcases Rat.le_total (a:=0) (b:=v)with z |z
 ·exact⟨v,z,by grind,by grind⟩
 ·exact⟨-v,by grind,by grind,by grind⟩
noncomputable def ev(t:Int):List Int->Int
 | []=>0
 |v::l=>v+t*ev t l
noncomputable def nrm(m a b c:Int):Int:=a*a*a+m*(b*b*b)+m*m*(c*c*c)-3*m*(a*b*c)
theorem fm(m a b c:Int):nrm m (-a) (-b) (-c) = -nrm m a b c:=by unfold nrm;grind
theorem vi(m g a b c:Int):nrm m (g*a) (g*b) (g*c)=g*g*g*nrm m a b c:=by unfold nrm;grind
theorem nC(m a:Int):nrm m a 0 0=a*a*a:=by unfold nrm;grind
theorem vk(A B C:Rat):(A+B+C)*((A-B)*(A-B)+(B-C)*(B-C)+(C-A)*(C-A))=2*(A*A*A+B*B*B+C*C*C-3*(A*B*C)):=by grind
theorem rsq(x:Rat):0<=x*x:=by
 rcases Rat.le_total (a:=0) (b:=x)with y |y
 ·exact Bu y y
 ·have:0 <= -x:=by grind
  have:=Bu this this;grind
theorem sX{x y:Rat}(hy:0<=y)(h:0<x*y):0<x:=Rat.not_le.mp λz=>by have:=Bu (show 0 <= -x by grind) hy;grind
theorem rle{a b:Int}(h:a<=b):(a:Rat)<=(b:Rat):=Rat.intCast_le_intCast.mpr h
theorem jU{m a b c:Int}(h:0<nrm m a b c):∃ε:Rat,0<ε/\∀Z:Rat,Bd ε (Z*Z*Z-(m:Rat))->0<(a:Rat)+b*Z+c*(Z*Z):=by
 obtain⟨p,p0,hp⟩:=k4 ((b:Rat)*b*b-3*((a:Rat)*b*c));obtain⟨r,r0,hr⟩:=k4 ((c:Rat)*c*c);obtain⟨μ,μ0,hμ⟩:=k4 (2*(m:Rat))
 have K0:0<=p+(μ+1)*r:=by have:=Bu (show 0<=μ+1 by grind) r0;grind
 have hn:(1:Rat)<=(a:Rat)*a*a+m*((b:Rat)*b*b)+m*m*((c:Rat)*c*c)-3*m*((a:Rat)*b*c):=by
  have h1:(1:Int)<=nrm m a b c:=by omega
  have h2:=rle h1;unfold nrm at h2
  simp only[Rat.intCast_sub,Rat.intCast_add,Rat.intCast_mul]at h2;exact h2
 obtain⟨K,eK⟩:∃K,p+(μ+1)*r=K:=⟨_,rfl⟩;rw[eK]at K0;have k1:0<2*(K+1):=by grind
 have k2:1/(2*(K+1))*(2*(K+1))=1:=Rat.div_mul_cancel (by grind);have e0:0<1/(2*(K+1)):=by rw[Rat.div_def,Rat.one_mul];exact Rat.inv_pos.mpr k1
 generalize 1/(2*(K+1))=ε at k2 e0
 have eK0:0<=ε*K:=Bu (Rat.le_of_lt e0) K0;have e1:ε<=1/2:=by grind
 have e2:ε*K<=1/2:=by grind
 refine⟨ε,e0,λZ hZ=>?_⟩;have d1:Bd (1:Rat) (Z*Z*Z-(m:Rat)):=hZ.mono (by grind);have d2:=hμ.add d1;have d3:=d2.mul hr;have d4:=hp.add d3;rw[eK]at d4;have d5:=hZ.mul d4;have d6:=d5.1;refine sX (y:=((a:Rat)-b*Z)*((a:Rat)-b*Z)+((b:Rat)*Z-c*(Z*Z))*((b:Rat)*Z-c*(Z*Z))+((c:Rat)*(Z*Z)-a)*((c:Rat)*(Z*Z)-a)) ?_ ?_
 ·have:=rsq ((a:Rat)-b*Z);have:=rsq ((b:Rat)*Z-c*(Z*Z));have:=rsq ((c:Rat)*(Z*Z)-a);grind
 ·rw[vk];have e3:(a:Rat)*a*a+(b:Rat)*Z*((b:Rat)*Z)*((b:Rat)*Z)+(c:Rat)*(Z*Z)*((c:Rat)*(Z*Z))*((c:Rat)*(Z*Z))-3*((a:Rat)*((b:Rat)*Z)*((c:Rat)*(Z*Z)))=((a:Rat)*a*a+m*((b:Rat)*b*b)+m*m*((c:Rat)*c*c)-3*m*((a:Rat)*b*c))+(Z*Z*Z-(m:Rat))*((b:Rat)*b*b-3*((a:Rat)*b*c)+(2*(m:Rat)+(Z*Z*Z-(m:Rat)))*((c:Rat)*c*c)):=by grind
  rw[e3];generalize (Z*Z*Z-(m:Rat))*((b:Rat)*b*b-3*((a:Rat)*b*c)+(2*(m:Rat)+(Z*Z*Z-(m:Rat)))*((c:Rat)*c*c))=D at d6 ⊢
  generalize (a:Rat)*a*a+m*((b:Rat)*b*b)+m*m*((c:Rat)*c*c)-3*m*((a:Rat)*b*c)=N at hn ⊢
  grind
theorem x9(X:Nat):∃k:Nat,k*k*k<=X/\X<(k+1)*(k+1)*(k+1):=by
 induction X with
 |zero=>exact⟨0,by decide,by decide⟩
 |succ X ih =>
  obtain⟨k,h1,h2⟩:=ih;by_cases h:(k+1)*(k+1)*(k+1)<=X+1
  ·refine⟨k+1,h,?_⟩;have e:(k+1+1)*(k+1+1)*(k+1+1)=(k+1)*(k+1)*(k+1)+3*((k+1)*(k+1))+3*(k+1)+1:=by grind
   omega
  ·exact⟨k,by omega,by omega⟩
theorem x8{m:Nat}(hm:0<m){ε:Rat}(hε:0<ε):∃Z:Rat,0<=Z/\Bd ε (Z*Z*Z-((m:Int):Rat)):=by
 obtain⟨n0,hn0⟩:=yG (6*((m:Rat)*(m:Rat))/ε)
 obtain⟨n,hn,n1⟩:∃n:Nat,6*((m:Rat)*(m:Rat))<=ε*(n:Rat)/\1<=n:=by
  refine⟨n0+1,?_,by omega⟩;have e:6*((m:Rat)*(m:Rat))/ε*ε=6*((m:Rat)*(m:Rat)):=Rat.div_mul_cancel (by grind);have h1:=Rat.mul_le_mul_of_nonneg_right hn0 (Rat.le_of_lt hε);rw[e]at h1;have h2:((n0+1:Nat):Rat)=(n0:Rat)+1:=by simp
  rw[h2];grind
 obtain⟨k,k1,k2⟩:=x9 (m*(n*n*n))
 have kq:k<=m*n:=Nat.not_lt.mp λz=>by
  have h1:(m*n+1)*(m*n+1)*(m*n+1)<=k*k*k:=Cd (Cd z z) z
  have h2:m*(n*n*n)<=m*n*(m*n)*(m*n):=by
   have:m*(n*n*n)*1<=m*(n*n*n)*(m*m):=Nat.mul_le_mul_left _ (Nat.mul_pos hm hm);have e:m*n*(m*n)*(m*n)=m*(n*n*n)*(m*m):=by grind
   omega
  have h3:m*n*(m*n)*(m*n)<(m*n+1)*(m*n+1)*(m*n+1):=by
   have e:(m*n+1)*(m*n+1)*(m*n+1)=m*n*(m*n)*(m*n)+3*(m*n*(m*n))+3*(m*n)+1:=by grind
   omega
  omega
 have gap:m*(n*n*n)<=k*k*k+6*(m*n*(m*n)):=by
  have e:(k+1)*(k+1)*(k+1)=k*k*k+3*(k*k)+3*k+1:=by grind
  have h1:k*k<=m*n*(m*n):=Cd kq kq;have h2:m*n*1<=m*n*(m*n):=Nat.mul_le_mul_left _ (Nat.mul_pos hm n1);omega
 have np:(0:Rat)<(n:Rat):=by have:=rle (show(1:Int)<=((n:Nat):Int) by omega);have e:(((n:Nat):Int):Rat)=(n:Rat):=rfl;grind
 have c1:(k:Rat)*k*k<=(m:Rat)*((n:Rat)*n*n):=by have:=rle (show((k*k*k:Nat):Int)<=((m*(n*n*n):Nat):Int) by omega);simp only[Int.natCast_mul,Rat.intCast_mul]at this;exact this
 have c2:(m:Rat)*((n:Rat)*n*n)<=(k:Rat)*k*k+6*((m:Rat)*n*((m:Rat)*n)):=by have:=rle (show((m*(n*n*n):Nat):Int)<=((k*k*k+6*(m*n*(m*n)):Nat):Int) by omega);simp only[Int.natCast_mul,Int.natCast_add,Rat.intCast_mul,Rat.intCast_add]at this;exact this
 have ez:(k:Rat)/(n:Rat)*(n:Rat)=(k:Rat):=Rat.div_mul_cancel (by grind)
 have z0:0<=(k:Rat)/(n:Rat):=by rw[Rat.div_def];refine Bu ?_ (Rat.le_of_lt (Rat.inv_pos.mpr np));exact rle (show(0:Int)<=((k:Nat):Int) by omega)
 have em:(((m:Nat):Int):Rat)=(m:Rat):=rfl;rw[em];generalize (k:Rat)/(n:Rat)=Z at ez z0
 refine⟨Z,z0,?_⟩;have n3:0<(n:Rat)*n*n:=Rat.mul_pos (Rat.mul_pos np np) np;have e3:Z*Z*Z*((n:Rat)*n*n)=(k:Rat)*k*k:=by rw[<- ez];grind
 have h6:6*((m:Rat)*n*((m:Rat)*n))<=ε*((n:Rat)*n*n):=by have:=Rat.mul_le_mul_of_nonneg_right hn (Rat.le_of_lt (Rat.mul_pos np np));grind
 constructor
 ·refine Rat.not_lt.mp λz=>?_
  have:=Rat.mul_lt_mul_of_pos_right z n3;grind
 ·refine Rat.not_lt.mp λz=>?_
  have:=Rat.mul_lt_mul_of_pos_right z n3;have:=Rat.mul_pos hε n3;grind
def NCb(m:Int):Prop:=0<m/\∀a b c:Int,nrm m a b c=0->a=0/\b=0/\c=0
theorem nG{m:Int}(hm:NCb m){a b c a' b' c':Int}(h:0<nrm m a b c)(h':0<nrm m a' b' c'):0<nrm m (a+a') (b+b') (c+c'):=by
 obtain⟨ε1,p1,q1⟩:=jU h;obtain⟨ε2,p2,q2⟩:=jU h'
 have near:∀{x y z:Int},nrm m x y z<0->∃ε:Rat,0<ε/\∀Z:Rat,Bd ε (Z*Z*Z-(m:Rat))->(x:Rat)+y*Z+z*(Z*Z)<0:=λ{x y z} hn=>by obtain⟨ε,p,q⟩:=jU (m:=m) (a := -x) (b := -y) (c := -z) (by rw[fm];omega);refine⟨ε,p,λZ hZ=>?_⟩;have:=q Z hZ;simp only[Rat.intCast_neg]at this;grind
 have two:∀u v:Rat,0<u->0<v->∃w:Rat,0<w/\w<=u/\w<=v:=λu v hu hv=>by
  rcases Rat.le_total (a:=u) (b:=v)with z |z
  ·exact⟨u,hu,by grind,z⟩
  ·exact⟨v,hv,z,by grind⟩
 rcases Int.lt_trichotomy 0 (nrm m (a+a') (b+b') (c+c'))with z |z |z
 ·exact z
 ·obtain⟨z1,z2,z3⟩:=hm.2 _ _ _ z.symm;have e1:a' = -a:=by omega
  have e2:b' = -b:=by omega
  have e3:c' = -c:=by omega
  rw[e1,e2,e3,fm]at h';omega
 ·obtain⟨ε3,p3,q3⟩:=near z;obtain⟨w1,w0,w2,w3⟩:=two ε1 ε2 p1 p2;obtain⟨w,wp,w4,w5⟩:=two w1 ε3 w0 p3;obtain⟨M,eM⟩:∃M:Nat,m=(M:Int):=⟨m.toNat,by have:=hm.1;omega⟩;subst eM;obtain⟨Z,_,hZ⟩:=x8 (m:=M) (by have:=hm.1;omega) wp;have r1:=q1 Z (hZ.mono (by grind));have r2:=q2 Z (hZ.mono (by grind));have r3:=q3 Z (hZ.mono w5);simp only[Rat.intCast_add]at r3;grind
theorem kH{p n:Int}(hp:0<p)(h:∀r:Int,0<=r->r<p->p∣n*(r*r*r)->r=0){x:Int}(hx:p∣n*(x*x*x)):p∣x:=by
 have r0:=Int.emod_nonneg x (show p≠0 by omega);have r1:=Cj x hp;have e:=Int.mul_ediv_add_emod x p;refine Int.dvd_of_emod_eq_zero (h _ r0 r1 ?_);generalize x%p=r at *
 generalize x/p=k at *
 have e2:n*(r*r*r)=n*(x*x*x)-p*(n*k*(x*x+x*r+r*r)):=by rw[<- e];grind
 rw[e2];exact Int.dvd_sub hx (Int.dvd_mul_right _ _)
theorem vm{p n:Int}(hp:1<p)(h1:∀x:Int,p∣1*(x*x*x)->p∣x)(h2:∀x:Int,p∣n*(x*x*x)->p∣x)(h3:∀x:Int,p∣n*n*(x*x*x)->p∣x):∀(N:Nat) (a b c:Int),a.natAbs+b.natAbs+c.natAbs<=N->nrm (p*n) a b c=0->a=0/\b=0/\c=0:=by
 intro N
 induction N with
 |zero=>intro a b c hl _;omega
 |succ N ih =>
  intro a b c hl h0;unfold nrm at h0
  obtain⟨a1,rfl⟩:=h1 a ⟨-(n*(b*b*b)+p*n*n*(c*c*c)-3*n*(a*b*c)),by grind⟩;have q1:p*(p*p*(a1*a1*a1)+n*(b*b*b)+p*n*n*(c*c*c)-3*p*n*(a1*b*c))=p*0:=by grind
  have q1':=B4 (show p≠0 by omega) q1;obtain⟨b1,rfl⟩:=h2 b ⟨-(p*(a1*a1*a1)+n*n*(c*c*c)-3*n*(a1*b*c)),by grind⟩;have q2:p*(p*(a1*a1*a1)+p*p*n*(b1*b1*b1)+n*n*(c*c*c)-3*p*n*(a1*b1*c))=p*0:=by grind
  have q2':=B4 (show p≠0 by omega) q2;obtain⟨c1,rfl⟩:=h3 c ⟨-(a1*a1*a1+p*n*(b1*b1*b1)-3*n*(a1*b1*c)),by grind⟩;have q3:p*nrm (p*n) a1 b1 c1=p*0:=by unfold nrm;grind
  have q3':=B4 (show p≠0 by omega) q3;by_cases hz:a1=0/\b1=0/\c1=0
  ·obtain⟨rfl,rfl,rfl⟩:=hz;simp
  ·have le:∀x:Int,(p*x).natAbs=p.natAbs*x.natAbs:=λx=>Bt _ _
   rw[le,le,le]at hl;have hp2:2<=p.natAbs:=by omega
   have m1:=BT a1.natAbs hp2;have m2:=BT b1.natAbs hp2;have m3:=BT c1.natAbs hp2;exact absurd (ih a1 b1 c1 (by omega) q3') hz
theorem eC{p n m:Int}(e:m=p*n)(m0:0<m)(hp:1<p)(h1:∀r:Int,0<=r->r<p->p∣1*(r*r*r)->r=0)(h2:∀r:Int,0<=r->r<p->p∣n*(r*r*r)->r=0)(h3:∀r:Int,0<=r->r<p->p∣n*n*(r*r*r)->r=0):NCb m:=by subst e;exact⟨m0,λa b c h=>vm hp (λx=>kH (by omega) h1) (λx=>kH (by omega) h2) (λx=>kH (by omega) h3) _ a b c (A5 _) h⟩
theorem vt:NCb 4:=by
 refine⟨by decide,λa b c h=>?_⟩;have h2:NCb 2:=eC (p:=2) (n:=1) rfl (by decide) (by decide) (λr h0 h1=>by rcases(show r=0\/r=1 by omega)with rfl |rfl<;>decide) (λr h0 h1=>by rcases(show r=0\/r=1 by omega)with rfl |rfl<;>decide) (λr h0 h1=>by rcases(show r=0\/r=1 by omega)with rfl |rfl<;>decide);have e:nrm 2 a (2*c) b=nrm 4 a b c:=by unfold nrm;grind
 have:=h2.2 a (2*c) b (by rw[e];exact h);omega
theorem vq{m:Int}(h1:2<=m)(h2:m<=7):NCb m:=by
 rcases(show m=2\/m=3\/m=4\/m=5\/m=6\/m=7 by omega)with rfl |rfl |rfl |rfl |rfl |rfl
 ·exact eC (p:=2) (n:=1) rfl (by decide) (by decide) (λr h0 h1=>by rcases(show r=0\/r=1 by omega)with rfl |rfl<;>decide) (λr h0 h1=>by rcases(show r=0\/r=1 by omega)with rfl |rfl<;>decide) (λr h0 h1=>by rcases(show r=0\/r=1 by omega)with rfl |rfl<;>decide)
 ·exact eC (p:=3) (n:=1) rfl (by decide) (by decide) (λr h0 h1=>by rcases(show r=0\/r=1\/r=2 by omega)with rfl |rfl |rfl<;>decide) (λr h0 h1=>by rcases(show r=0\/r=1\/r=2 by omega)with rfl |rfl |rfl<;>decide) (λr h0 h1=>by rcases(show r=0\/r=1\/r=2 by omega)with rfl |rfl |rfl<;>decide)
 ·exact vt
 ·have k:∀r:Int,0<=r->r<5->(5:Int)∣1*(r*r*r)->r=0:=λr h0 h1=>by rcases(show r=0\/r=1\/r=2\/r=3\/r=4 by omega)with rfl |rfl |rfl |rfl |rfl<;>decide
  exact eC (p:=5) (n:=1) rfl (by decide) (by decide) k k k
 ·exact eC (p:=2) (n:=3) rfl (by decide) (by decide) (λr h0 h1=>by rcases(show r=0\/r=1 by omega)with rfl |rfl<;>decide) (λr h0 h1=>by rcases(show r=0\/r=1 by omega)with rfl |rfl<;>decide) (λr h0 h1=>by rcases(show r=0\/r=1 by omega)with rfl |rfl<;>decide)
 ·have k:∀r:Int,0<=r->r<7->(7:Int)∣1*(r*r*r)->r=0:=λr h0 h1=>by rcases(show r=0\/r=1\/r=2\/r=3\/r=4\/r=5\/r=6 by omega)with rfl |rfl |rfl |rfl |rfl |rfl |rfl<;>decide
  exact eC (p:=7) (n:=1) rfl (by decide) (by decide) k k k
noncomputable def aI(m a b c t n:Int):Int:=nrm m (a*n-t) (b*n) (c*n)
theorem fX{m a b c t n:Int}(hm:NCb m)(hbc:¬(b=0/\c=0))(hn:0<n):aI m a b c t n≠0:=λz=>by
 obtain⟨_,h1,h2⟩:=hm.2 _ _ _ z;rcases Bp.mp h1 with y |y
 ·rcases Bp.mp h2 with y' |y'
  ·exact hbc ⟨y,y'⟩
  ·omega
 ·omega
theorem pL{x:Int}(h:0<x):0<x*x*x:=Bi (Bi h h) h
theorem jT{m g a b c:Int}(hg:0<g):(0<nrm m (g*a) (g*b) (g*c)↔0<nrm m a b c):=by
 rw[vi];have:=pL hg;constructor
 ·intro h;exact Int.not_le.mp λz=>by have:=Int.mul_nonpos_of_nonneg_of_nonpos (A6 this) z;omega
 ·intro h;exact Bi this h
theorem fY{m a b c t n t' n':Int}(hm:NCb m)(hn:0<n)(hn':0<n')(hle:t'*n<=t*n')(h:0<aI m a b c t n):0<aI m a b c t' n':=by
 unfold aI at *
 rw[<- jT (g:=n') hn']at h;rw[<- jT (g:=n) hn];rcases Int.lt_or_eq_of_le hle with z |z
 ·have r:0<nrm m (t*n'-t'*n) 0 0:=by rw[nC];exact pL (by omega)
  have s:=nG hm h r;have e1:n'*(a*n-t)+(t*n'-t'*n)=n*(a*n'-t'):=by grind
  have e2:n'*(b*n)+0=n*(b*n'):=by grind
  have e3:n'*(c*n)+0=n*(c*n'):=by grind
  rwa [e1,e2,e3]at s
 ·have e1:n*(a*n'-t')=n'*(a*n-t):=by grind
  have e2:n*(b*n')=n'*(b*n):=by grind
  have e3:n*(c*n')=n'*(c*n):=by grind
  rw[e1,e2,e3];exact h
theorem qG{m a b c a' b' c' t n t' n':Int}(hm:NCb m)(hn:0<n)(hn':0<n')(hle:t*n'<=t'*n)(h:aI m a b c t n<0)(h':0<aI m a' b' c' t' n'):0<nrm m (a'-a) (b'-b) (c'-c):=by
 have h2:=fY hm hn' hn hle h';unfold aI at *
 have h3:0<nrm m (-(a*n-t)) (-(b*n)) (-(c*n)):=by rw[fm];omega
 have s:=nG hm h3 h2;have e1 : -(a*n-t)+(a'*n-t)=n*(a'-a):=by grind
 have e2 : -(b*n)+b'*n=n*(b'-b):=by grind
 have e3 : -(c*n)+c'*n=n*(c'-c):=by grind
 rw[e1,e2,e3,jT hn]at s;exact s
structure Tri where
 a:Int
 b:Int
 c:Int
noncomputable def Tri.mul(m:Int)(x y:Tri):Tri:=⟨x.a*y.a+m*(x.b*y.c+x.c*y.b),x.a*y.b+x.b*y.a+m*(x.c*y.c),x.a*y.c+x.b*y.b+x.c*y.a⟩
noncomputable def Tri.nrm(m:Int)(x:Tri):Int:=RM.nrm m x.a x.b x.c
theorem vj(m:Int)(x y:Tri):(x.mul m y).nrm m=x.nrm m*y.nrm m:=by obtain⟨a,b,c⟩:=x;obtain⟨d,e,f⟩:=y;show RM.nrm m (a*d+m*(b*f+c*e)) (a*e+b*d+m*(c*f)) (a*f+b*e+c*d)=RM.nrm m a b c*RM.nrm m d e f;unfold RM.nrm;grind
noncomputable def Tri.lin(x y:Int)(u v:Tri):Tri:=⟨x*u.a+y*v.a,x*u.b+y*v.b,x*u.c+y*v.c⟩
noncomputable def evC(m:Int)(g:Tri):List Int->Tri
 | []=>⟨0,0,0⟩
 |v::l=>⟨v+(g.mul m (evC m g l)).a,(g.mul m (evC m g l)).b,(g.mul m (evC m g l)).c⟩
theorem Tri.ext'{x y:Tri}(h1:x.a=y.a)(h2:x.b=y.b)(h3:x.c=y.c):x=y:=by cases x;cases y;subst h1 h2 h3;rfl
theorem kM(l:List Int)(k:Nat):cf l.tail k=cf l (k+1):=by
 cases l with
 |nil=>rw[List.tail_nil,bB,bB]
 |cons v l=>rfl
theorem kB(m:Int)(g:Tri)(l:List Int):evC m g l=⟨cf l 0+(g.mul m (evC m g l.tail)).a,(g.mul m (evC m g l.tail)).b,(g.mul m (evC m g l.tail)).c⟩:=by
 cases l with
 |nil =>show(⟨0,0,0⟩:Tri)=_;rw[bB];refine Tri.ext' ?_ ?_ ?_<;>(show(0:Int)=_;unfold Tri.mul evC;simp)
 |cons v l=>rfl
theorem pf{m x y:Int}{g:Tri}:∀(n:Nat) (a b c:List Int),a.length<=n->b.length<=n->c.length<=n->(∀k,cf c k=x*cf a k+y*cf b k)->evC m g c=Tri.lin x y (evC m g a) (evC m g b)
 |0,a,b,c,ha,hb,hc,_=>by rw[Bm.mp (Nat.le_zero.mp ha),Bm.mp (Nat.le_zero.mp hb),Bm.mp (Nat.le_zero.mp hc)];refine Tri.ext' ?_ ?_ ?_<;>(show(0:Int)=x*0+y*0;simp)
 |n+1,a,b,c,ha,hb,hc,h=>by
  have ih:=pf (m:=m) (g:=g) (x:=x) (y:=y) n a.tail b.tail c.tail (by rw[List.length_tail];omega) (by rw[List.length_tail];omega) (by rw[List.length_tail];omega) λk=>by rw[kM,kM,kM,h]
  rw[kB m g a,kB m g b,kB m g c,ih,h 0];generalize evC m g a.tail=A;generalize evC m g b.tail=B;refine Tri.ext' ?_ ?_ ?_
  ·show x*cf a 0+y*cf b 0+(g.a*(x*A.a+y*B.a)+m*(g.b*(x*A.c+y*B.c)+g.c*(x*A.b+y*B.b)))=x*(cf a 0+(g.a*A.a+m*(g.b*A.c+g.c*A.b)))+y*(cf b 0+(g.a*B.a+m*(g.b*B.c+g.c*B.b)));grind
  ·show g.a*(x*A.b+y*B.b)+g.b*(x*A.a+y*B.a)+m*(g.c*(x*A.c+y*B.c))=x*(g.a*A.b+g.b*A.a+m*(g.c*A.c))+y*(g.a*B.b+g.b*B.a+m*(g.c*B.c));grind
  ·show g.a*(x*A.c+y*B.c)+g.b*(x*A.b+y*B.b)+g.c*(x*A.a+y*B.a)=x*(g.a*A.c+g.b*A.b+g.c*A.a)+y*(g.a*B.c+g.b*B.b+g.c*B.a);grind
theorem gZ{m x y:Int}{g:Tri}{a b c:List Int}(h:∀k,cf c k=x*cf a k+y*cf b k):evC m g c=Tri.lin x y (evC m g a) (evC m g b) :=
 pf (max a.length (max b.length c.length)) a b c (by omega) (by omega) (by omega) h
theorem gY(m:Int)(g:Tri):∀a b:List Int,evC m g (ag a b)=(evC m g a).mul m (evC m g b)
 | [],b=>by
  have:ag [] b=[]:=by unfold ag;rw[if_pos (.inl rfl)]
  rw[this];refine Tri.ext' ?_ ?_ ?_<;>(show(0:Int)=_;unfold Tri.mul evC;simp)
 |x::a,b=>by
  have e:∀k,cf (ag (x::a) b) k=x*cf b k+1*cf (0::ag a b) k:=λk=>by
   rw[aC,cg,kN,BJ]
   congr 1
   unfold up;split
   ·rfl
   ·rw[aC]
  rw[gZ e];have e2:evC m g (0::ag a b)=⟨0+(g.mul m (evC m g (ag a b))).a,(g.mul m (evC m g (ag a b))).b,(g.mul m (evC m g (ag a b))).c⟩:=rfl;have e3:evC m g (x::a)=⟨x+(g.mul m (evC m g a)).a,(g.mul m (evC m g a)).b,(g.mul m (evC m g a)).c⟩:=rfl;rw[e2,e3,gY m g a b];generalize evC m g a=A;generalize evC m g b=B;refine Tri.ext' ?_ ?_ ?_<;>(simp only[Tri.lin,Tri.mul];grind)
noncomputable def av(m a b c:Int):List Int:=[-nrm m a b c,3*(a*a)-3*m*(b*c),-3*a,1]
theorem pi(m a b c:Int):evC m ⟨a,b,c⟩ (av m a b c)=⟨0,0,0⟩:=by refine Tri.ext' ?_ ?_ ?_<;>(simp only[evC,av,Tri.mul,nrm];grind)
theorem qQ{m:Int}(hm:NCb m){x y:Tri}(h:x.mul m y=⟨0,0,0⟩):x=⟨0,0,0⟩\/y=⟨0,0,0⟩:=by
 have e:=vj m x y;rw[h]at e;have e0:Tri.nrm m ⟨0,0,0⟩=0:=by show nrm m 0 0 0=0;unfold nrm;simp
 rw[e0]at e;rcases Bp.mp e.symm with z |z
 ·obtain⟨h1,h2,h3⟩:=hm.2 _ _ _ z;exact .inl (Tri.ext' h1 h2 h3)
 ·obtain⟨h1,h2,h3⟩:=hm.2 _ _ _ z;exact .inr (Tri.ext' h1 h2 h3)
theorem wz{m a b c:Int}(hm:NCb m)(hbc:¬(b=0/\c=0)){l:List Int}(hl:l.length<=3)(h:evC m ⟨a,b,c⟩ l=⟨0,0,0⟩):∀k,cf l k=0:=by
 have key:∀r0 r1 r2:Int,evC m ⟨a,b,c⟩ [r0,r1,r2]=⟨0,0,0⟩->r0=0/\r1=0/\r2=0:=λr0 r1 r2 h=>by
  have ha:=congrArg Tri.a h;have hb:=congrArg Tri.b h;have hc:=congrArg Tri.c h;simp only[evC,Tri.mul]at ha hb hc;have e1:r2*(m*(c*c*c)-b*b*b)=0:=by grind
  have e2:r2=0:=by
   rcases Bp.mp e1 with z |z
   ·exact z
   ·have:nrm m b (-c) 0=0:=by unfold nrm;grind
    obtain⟨y1,y2,_⟩:=hm.2 _ _ _ this;exact absurd ⟨y1,by omega⟩ hbc
  subst e2;have e3:r1*b=0:=by grind
  have e4:r1*c=0:=by grind
  have e5:r1=0:=by
   rcases Bp.mp e3 with z |z
   ·exact z
   ·rcases Bp.mp e4 with z' |z'
    ·exact z'
    ·exact absurd ⟨z,z'⟩ hbc
  subst e5;refine⟨by grind,rfl,rfl⟩
 have e:evC m ⟨a,b,c⟩ [cf l 0,cf l 1,cf l 2]=evC m ⟨a,b,c⟩ l:=by
  have:=gZ (m:=m) (g:=⟨a,b,c⟩) (x:=1) (y:=0) (a:=l) (b:=[]) (c:=[cf l 0,cf l 1,cf l 2]) (λk=>by
   rw[bB];rcases k with _ |_ |_ |k
   ·show cf l 0=1*cf l 0+0*0;omega
   ·show cf l 1=1*cf l 1+0*0;omega
   ·show cf l 2=1*cf l 2+0*0;omega
   ·rw[aZ (by simp),aZ (by omega)];simp)
  rw[this];refine Tri.ext' ?_ ?_ ?_<;>(simp only[Tri.lin,evC];omega)
 obtain⟨z0,z1,z2⟩:=key _ _ _ (by rw[e];exact h);intro k;rcases k with _ |_ |_ |k
 ·exact z0
 ·exact z1
 ·exact z2
 ·exact aZ (by omega)
theorem eQ(m a b c:Int):Tr (av m a b c):=(tr_snoc (r:=[-nrm m a b c,3*(a*a)-3*m*(b*c),-3*a])).mpr (by decide)
theorem hI(m a b c:Int):Pln (av m a b c):=by refine⟨eQ m a b c,by unfold av;simp,?_,by show(0:Int)<1;decide⟩;show Nat.gcd (Nat.gcd (Nat.gcd (Nat.gcd 0 _) _) _) (1:Int).natAbs=1;exact Nat.gcd_one_right _
theorem kJ{m a b c:Int}(hm:NCb m)(hbc:¬(b=0/\c=0)){f:List Int}:Dv (av m a b c) f↔evC m ⟨a,b,c⟩ f=⟨0,0,0⟩:=by
 have hne:av m a b c≠[]:=(hI m a b c).ne;constructor
 ·rintro⟨k,q,k0,e⟩;have h1:evC m ⟨a,b,c⟩ (ag q (av m a b c))=Tri.lin k 0 (evC m ⟨a,b,c⟩ f) (evC m ⟨a,b,c⟩ []):=gZ λn=>by rw[aC,<- e,bB];simp
  rw[gY,pi]at h1;generalize evC m ⟨a,b,c⟩ q=X at h1
  generalize evC m ⟨a,b,c⟩ f=Y at h1 ⊢
  have ha:=congrArg Tri.a h1;have hb:=congrArg Tri.b h1;have hc:=congrArg Tri.c h1;simp only[Tri.mul,Tri.lin,evC]at ha hb hc;have z:∀y:Int,k*y=0->y=0:=λy hy=>(Bp.mp hy).resolve_left k0
  exact Tri.ext' (z _ (by grind)) (z _ (by grind)) (z _ (by grind))
 ·intro h;have e:=λn=>eP (a:=f) (b:=av m a b c) hne n
  have f0:=kF (a:=f) hne (eQ m a b c);have lr:=g8 (a:=f) hne;have h1:evC m ⟨a,b,c⟩ (aL f (av m a b c))=Tri.lin (bJ f (av m a b c)) (-1) (evC m ⟨a,b,c⟩ f) (evC m ⟨a,b,c⟩ (ag (bI f (av m a b c)) (av m a b c))):=gZ λn=>by rw[aC,e];omega
  rw[gY,pi,h]at h1
  have h2:evC m ⟨a,b,c⟩ (aL f (av m a b c))=⟨0,0,0⟩:=by rw[h1];refine Tri.ext' ?_ ?_ ?_<;>(simp only[Tri.lin,Tri.mul];grind)
  have z:=wz hm hbc (by have:(av m a b c).length=4:=rfl;omega) h2;exact⟨_,bI f (av m a b c),f0,λn=>by rw[e,z n];omega⟩
theorem pK{m a b c:Int}(hm:NCb m)(hbc:¬(b=0/\c=0)):Pri (av m a b c):=by refine⟨hI m a b c,by show 2<=4;decide,λf g h=>?_⟩;rw[kJ hm hbc,gY]at h;rw[kJ hm hbc,kJ hm hbc];exact qQ hm h
theorem kI(m a b c t n:Int):hv t n (av m a b c) = -(n*aI m a b c t n):=by simp only[av,hv,aI,nrm,Bl,List.length_nil];grind
theorem pN{x y:Int}(h:x*x*x=y*y*y):x=y:=by
 have e:(x-y)*(x*x+x*y+y*y)=0:=by grind
 rcases Bp.mp e with z |z
 ·omega
 ·have h1:(2*x+y)*(2*x+y)+3*(y*y)=0:=by grind
  have sq:∀w:Int,0<=w*w:=λw=>by
   rcases Int.le_total 0 w with q |q
   ·exact Cb q q
   ·exact Cl q q
  have h2:=sq (2*x+y);have h3:=sq y;have hy:y*y=0:=by omega
  have y0:y=0:=by rcases Bp.mp hy with q |q<;>exact q
  subst y0;have hx:x*x=0:=by grind
  rcases Bp.mp hx with q |q<;>exact q
theorem ya{m a b c a' b' c':Int}(hm:NCb m)(h:av m a b c=av m a' b' c'):a=a'/\b=b'/\c=c':=by
 unfold av at h
 injection h with h1 h
 injection h with h2 h
 injection h with h3 h
 have ea:a=a':=by omega
 subst ea;have e1:m*(b*c)=m*(b'*c'):=by grind
 have e2:b*c=b'*c':=B4 (by have:=hm.1;omega) e1;have e3:nrm m a b c=nrm m a b' c':=by omega
 have e4:m*(b*b*b+m*(c*c*c))=m*(b'*b'*b'+m*(c'*c'*c')):=by unfold nrm at e3;grind
 have e5:=B4 (show m≠0 by have:=hm.1;omega) e4
 have q:(b*b*b-b'*b'*b')*(b*b*b-m*(c'*c'*c'))=0:=by
  have e6:b*b*b*(m*(c*c*c))=b'*b'*b'*(m*(c'*c'*c')):=by
   have:b*b*b*(m*(c*c*c))=m*((b*c)*(b*c)*(b*c)):=by grind
   rw[this,e2];grind
  generalize b*b*b=X at *
  generalize m*(c*c*c)=Y at *
  generalize b'*b'*b'=X' at *
  generalize m*(c'*c'*c')=Y' at *
  have:X'=X+Y-Y':=by omega
  subst this;grind
 have no:∀x y:Int,x*x*x=m*(y*y*y)->x=0/\y=0:=λx y h=>by
  have:nrm m x (-y) 0=0:=by unfold nrm;grind
  obtain⟨y1,y2,_⟩:=hm.2 _ _ _ this;exact⟨y1,by omega⟩
 rcases Bp.mp q with z |z
 ·have h5:b*b*b=b'*b'*b':=by omega
  have h6:m*(c*c*c)=m*(c'*c'*c'):=by omega
  have h7:=B4 (show m≠0 by have:=hm.1;omega) h6;exact⟨rfl,pN h5,pN h7⟩
 ·obtain⟨y1,y2⟩:=no b c' (by omega);subst y1 y2;obtain⟨y3,y4⟩:=no b' c (by omega);exact⟨rfl,y3.symm,y4⟩
def OneSg(p:List Int)(l1 l2 h1 h2:Int):Prop:=∃s:Int,(s=1\/s = -1)/\∀t n,0<n->l1*n<=t*l2->t*h2<=h1*n->sg (hv t n p)=s
theorem jS(l1 l2 h1 h2:Int):OneSg [1] l1 l2 h1 h2:=⟨1,.inl rfl,λt n hn _ _=>by
 have:hv t n [1]=n:=by simp[hv,Bv]
 rw[this];unfold sg;rw[if_neg (by omega),if_pos hn]⟩
theorem cC{n:Int}(h:0<n):sg n=1:=by unfold sg;rw[if_neg (by omega),if_pos h]
theorem mO{t n:Int}(hn:0<n){a b:List Int}(ha:a≠[])(hb:b≠[]):sg (hv t n (ag a b))=sg (hv t n a)*sg (hv t n b):=by rw[<- cU,<- oN t n hb ha,cU,cC hn,BJ]
theorem OneSg.mul{p q:List Int}{l1 l2 h1 h2:Int}(hp:OneSg p l1 l2 h1 h2)(hq:OneSg q l1 l2 h1 h2)(pn:p≠[])(qn:q≠[]):OneSg (ag p q) l1 l2 h1 h2:=by obtain⟨s,s1,hs⟩:=hp;obtain⟨r,r1,hr⟩:=hq;refine⟨s*r,by rcases s1 with rfl |rfl<;>rcases r1 with rfl |rfl<;>simp,λt n hn a b=>?_⟩;rw[mO hn pn qn,hs t n hn a b,hr t n hn a b]
theorem nA{l1 l2 h1 h2:Int}:∀ps:List (List Int),(∀p∈ps,p≠[]/\OneSg p l1 l2 h1 h2)->OneSg (prd ps) l1 l2 h1 h2/\prd ps≠[]
 | [],_=>⟨jS _ _ _ _,by show([1]:List Int)≠[];simp⟩
 |p::ps,h=>by
  obtain⟨i1,i2⟩:=nA ps λx hx=>h x (Bj _ hx)
  obtain⟨j1,j2⟩:=h p (Br ..);exact⟨j2.mul i1 j1 i2,gH j1 i2⟩
theorem sS(pre:List (List Int))(p:List Int)(post:List (List Int)):prd (pre++p::post)=ag p (prd (pre++post)):=by
 induction pre with
 |nil=>rfl
 |cons x pre ih =>show ag x (prd (pre++p::post))=ag p (ag x (prd (pre++post)));rw[ih,<- fu,<- fu,ft x p]
theorem ud{l1 l2 h1 h2:Int}(n:Nat):∀(ps:List (List Int)) (E:List Int),ps.length<=n->(∀p∈ps,Pri p/\OneSg p l1 l2 h1 h2)->Pln E->Dv E (prd ps)->OneSg E l1 l2 h1 h2:=by
 induction n with
 |zero =>
  intro ps E hl _ hE hd;have:ps=[]:=Bm.mp (by omega);subst this;rcases kE [] (λp hp=>nomatch hp) hE hd with z |⟨p,hp,_⟩
  ·rw[z];exact jS _ _ _ _
  ·exact nomatch hp
 |succ n ih =>
  intro ps E hl hps hE hd;rcases kE ps (λp hp=>(hps p hp).1) hE hd with z |⟨p,hp,z⟩
  ·rw[z];exact jS _ _ _ _
  ·obtain⟨pre,post,rfl⟩:=List.append_of_mem hp;obtain⟨P,S⟩:=hps p hp;obtain⟨q,hq,e⟩:=z.fellow P.pln hE.tr hE.ne;rw[hE.plain]at e;rw[sS,<- e,ft q p]at hd;have d2:=Dv.cancel P.pln.ne P.pln.tr hd;have i:=ih (pre++post) q (by rw[Ba]at hl ⊢;rw[Bl]at hl;omega) (λx hx=>hps x (by rcases Bn.mp hx with y |y<;>simp[y])) hq d2;rw[<- e];exact i.mul S hq.ne P.pln.ne
theorem OneSg.of_plain{g:List Int}{l1 l2 h1 h2:Int}(hg:Tr g)(hne:g≠[])(h:OneSg (aB g) l1 l2 h1 h2):OneSg g l1 l2 h1 h2:=by
 obtain⟨s,s1,hs⟩:=h;obtain⟨k,k0,e⟩:=d9 hg
 have eg:g=scL k (aB g):=by
  refine cM ?_ λn _=>?_
  ·rw[bQ];unfold aB bo;split
   ·rw[A4];exact(A4 _).symm
   ·exact(A4 _).symm
  ·rw[bw];exact e n
 have sk:sg k=1\/sg k = -1:=by
  unfold sg;rcases Cc k0 with z |z
  ·right;rw[if_pos z]
  ·left;rw[if_neg (by omega),if_pos z]
 refine⟨sg k*s,by rcases s1 with rfl |rfl<;>rcases sk with z |z<;>rw[z]<;>simp,λt n hn a b=>?_⟩;have e2:hv t n g=k*hv t n (aB g):=(congrArg (hv t n) eg).trans (oK _ _ _ _);rw[e2,cU,hs t n hn a b]
structure CbN(m a b c:Int)(rs:List (List Int))(kp:List Int)(l1 l2 h1 h2:Int):Prop where
 nc:NCb m
 bc:¬(b=0/\c=0)
 is:kp=ag (av m a b c) (prd rs)
 rs:∀p∈rs,Pri p/\p.length<=3/\OneSg p l1 l2 h1 h2
 l2p:0<l2
 h2p:0<h2
theorem CbN.sign{m a b c:Int}{rs:List (List Int)}{kp:List Int}{l1 l2 h1 h2:Int}(N:CbN m a b c rs kp l1 l2 h1 h2):∃s:Int,(s=1\/s = -1)/\∀t n,0<n->l1*n<=t*l2->t*h2<=h1*n->sg (hv t n kp) = -sg (aI m a b c t n)*s:=by
 obtain⟨⟨s,s1,hs⟩,pn⟩:=nA rs λp hp=>⟨(N.rs p hp).1.pln.ne,(N.rs p hp).2.2⟩
 refine⟨s,s1,λt n hn x y=>?_⟩;rw[N.is,mO hn (hI m a b c).ne pn,hs t n hn x y,kI,gq,cU,cC hn,BJ]
theorem gp{x:Int}(h:x≠0):sg x=1/\0<x\/sg x = -1/\x<0:=by
 unfold sg;rcases Cc h with z |z
 ·right;rw[if_pos z];exact⟨rfl,z⟩
 ·left;rw[if_neg (by omega),if_pos z];exact⟨rfl,z⟩
theorem CbN.shows{m a b c:Int}{rs:List (List Int)}{kp:List Int}{l1 l2 h1 h2:Int}(N:CbN m a b c rs kp l1 l2 h1 h2){x1 x2 y1 y2:Int}(x2p:0<x2)(y2p:0<y2)(lx:l1*x2<=x1*l2)(yh:y1*h2<=h1*y2)(xy:x1*y2<y1*x2)(hne:sg (hv y1 y2 kp)≠sg (hv x1 x2 kp)):0<aI m a b c x1 x2/\aI m a b c y1 y2<0:=by
 obtain⟨s,s1,hs⟩:=N.sign;have l2p:=N.l2p;have h2p:=N.h2p
 have xh:x1*h2<=h1*x2:=by
  refine B5 (a:=y2) ?_ y2p;have q1:=BB yh (A6 x2p);have q2:=BB (A6 xy) (A6 h2p);have e1:x1*h2*y2=x1*y2*h2:=by grind
  have e2:y1*h2*x2=y1*x2*h2:=by grind
  have e3:h1*y2*x2=h1*x2*y2:=by grind
  omega
 have ly:l1*y2<=y1*l2:=by
  refine B5 (a:=x2) ?_ x2p;have q1:=BB lx (A6 y2p);have q2:=BB (A6 xy) (A6 l2p);have e1:l1*x2*y2=l1*y2*x2:=by grind
  have e2:x1*l2*y2=x1*y2*l2:=by grind
  have e3:y1*x2*l2=y1*l2*x2:=by grind
  omega
 rw[hs y1 y2 y2p ly yh,hs x1 x2 x2p lx xh]at hne;have nx:=fX (t:=x1) N.nc N.bc x2p (a:=a);have ny:=fX (t:=y1) N.nc N.bc y2p (a:=a);rcases gp nx with⟨ex,px⟩ |⟨ex,px⟩<;>rcases gp ny with⟨ey,py⟩ |⟨ey,py⟩
 ·rw[ex,ey]at hne;exact absurd rfl hne
 ·exact⟨px,py⟩
 ·have:=fY N.nc y2p x2p (A6 xy) py;omega
 ·rw[ex,ey]at hne;exact absurd rfl hne
theorem CbN.alike{m a b c a' b' c':Int}{rs rs':List (List Int)}{kp kp':List Int}{l1 l2 h1 h2 k1 k2 j1 j2:Int}(N:CbN m a b c rs kp l1 l2 h1 h2)(N':CbN m a' b' c' rs' kp' k1 k2 j1 j2){g:List Int}(hg:Tr g)(gn:g≠[])(d1:Dv g kp)(d2:Dv g kp'){x1 x2 y1 y2:Int}(x2p:0<x2)(y2p:0<y2)(lx:l1*x2<=x1*l2)(xh:x1*h2<=h1*x2)(ly:l1*y2<=y1*l2)(yh:y1*h2<=h1*y2)(hne:sg (hv y1 y2 g)≠sg (hv x1 x2 g)):a=a'/\b=b'/\c=c':=by
 have P:=pK (a:=a) N.nc N.bc;have P':=pK (a:=a') N'.nc N'.bc;by_cases hd:Dv (av m a b c) g
 ·have h3:Dv (av m a b c) (prd (av m a' b' c'::rs')):=by have:=hd.trans d2;rw[N'.is]at this;exact this
  obtain⟨t,ht,dt⟩:=P.prd _ h3;rcases Bb.mp ht with rfl |ht
  ·exact ya N.nc (P.same P' dt)
  ·obtain⟨Pt,lt,_⟩:=N'.rs t ht;have e:=P.same Pt dt;have:(av m a b c).length=4:=rfl;rw[e]at this;omega
 ·exfalso;obtain⟨k,k0,ek⟩:=d9 hg;have hE:=gB hg gn;have dE:Dv (aB g) kp:=Dv.prop_left (x:=k) (y:=1) k0 (by decide) (λn=>by rw[ek n];omega) d1;have nE:¬Dv (av m a b c) (aB g):=λz=>hd ((Dv.plain hg).mp z)
  obtain⟨q0,q,h0,e⟩:=dE;have dq:Dv (av m a b c) (ag q (aB g)):=Dv.prop_right (x:=1) (y:=q0) (by decide) (λn=>by rw[aC,<- e n];omega) (N.is ▸ Dv.mul_left _ _);have dq1:=(P.or q (aB g) dq).resolve_right nE
  have dR:Dv (aB g) (prd rs):=by
   obtain⟨c',q',hc',e'⟩:=dq1;refine Dv.cancel P.pln.ne P.pln.tr ⟨q0*c',q',Bh h0 hc',λn=>?_⟩
   have e2:ap (ag q' (av m a b c)) (aB g) n=c'*ap q (aB g) n:=by have:=ce (a:=q) (b:=[]) (x:=c') (y:=0) (c:=ag q' (av m a b c)) (q:=aB g) (n:=n) (λk=>by rw[aC,<- e'];simp);rw[this];simp
   rw[<- dl,e2,<- e,N.is,BA q0 c',Int.mul_assoc]
  have S:=(ud rs.length rs _ (A5 _) (λp hp=>⟨(N.rs p hp).1,(N.rs p hp).2.2⟩) hE dR).of_plain hg gn;obtain⟨s,_,hs⟩:=S;rw[hs y1 y2 y2p ly yh,hs x1 x2 x2p lx xh]at hne;exact hne rfl
structure CubOk(a b c m:Int):Prop where
 a9 : -9<=a/\a<=9
 b3 : -3<=b/\b<=3
 c3 : -3<=c/\c<=3
 m2:2<=m
 m7:m<=7
 bc:¬(b=0/\c=0)
theorem CubOk.nc{a b c m:Int}(h:CubOk a b c m):NCb m:=vq h.m2 h.m7
noncomputable def hfS(m a b c:Int)(s:Int×Int×Int):Int×Int×Int:=if aI m a b c (s.1+s.2.1) (2*s.2.2)<=0 then(2*s.1,s.1+s.2.1,2*s.2.2)else(s.1+s.2.1,2*s.2.1,2*s.2.2)
noncomputable def itS(m a b c:Int):Nat->Int×Int×Int
 |0=>(-64,64,1)
 |j+1=>hfS m a b c (itS m a b c j)
structure SpI(m a b c:Int)(s:Int×Int×Int)(j:Nat):Prop where
 n:s.2.2=2^j
 w:s.2.1=s.1+128
 l : -64*s.2.2<=s.1
 h:s.2.1<=64*s.2.2
 lp:0<aI m a b c s.1 s.2.2
 hn:aI m a b c s.2.1 s.2.2<0
theorem lB(m a b c t n:Int):aI m a b c (2*t) (2*n)=8*aI m a b c t n:=by unfold aI nrm;grind
theorem pJ{b:Int}(h : -3<=b/\b<=3) : -27<=b*b*b/\b*b*b<=27:=by
 have:b = -3\/b = -2\/b = -1\/b=0\/b=1\/b=2\/b=3:=by omega
 rcases this with rfl |rfl |rfl |rfl |rfl |rfl |rfl<;>decide
theorem bv{x y:Int}{p q:Nat}(hx:x.natAbs<=p)(hy:y.natAbs<=q):(x*y).natAbs<=p*q:=by rw[Bt];exact Cd hx hy
theorem CubOk.small{a b c m:Int}(h:CubOk a b c m):(m*(b*b*b)).natAbs<=7*27/\(m*m*(c*c*c)).natAbs<=7*7*27/\(3*m*(b*c)).natAbs<=3*7*(3*3):=by obtain⟨a9,b3,c3,m2,m7,_⟩:=h;have q1:=pJ b3;have q2:=pJ c3;exact⟨bv (by omega) (by omega),bv (bv (by omega) (by omega)) (by omega),bv (bv (by decide) (by omega)) (bv (by omega) (by omega))⟩
theorem nF(m x b c:Int):nrm m x b c=x*x*x+m*(b*b*b)+m*m*(c*c*c)-3*m*(b*c)*x:=by unfold nrm;grind
theorem nD{a b c m x:Int}(h:CubOk a b c m)(h1:55<=x)(h2:x<=73):0<nrm m x b c:=by obtain⟨s1,s2,s3⟩:=h.small;have q1:55*55<=x*x:=Int.mul_le_mul h1 h1 (by decide) (by omega);have q2:55*55*55<=x*x*x:=Int.mul_le_mul q1 h1 (by decide) (by omega);have q3:(3*m*(b*c)*x).natAbs<=3*7*(3*3)*73:=bv s3 (by omega);rw[nF];omega
theorem CubOk.neg{a b c m:Int}(h:CubOk a b c m):CubOk (-a) (-b) (-c) m:=⟨by have:=h.a9;omega,by have:=h.b3;omega,by have:=h.c3;omega,h.m2,h.m7,λz=>h.bc ⟨by omega,by omega⟩⟩
theorem SpI.first{a b c m:Int}(h:CubOk a b c m):SpI m a b c (-64,64,1) 0:=by
 have ha:=h.a9;refine⟨rfl,rfl,by decide,by decide,?_,?_⟩
 ·show 0<nrm m (a*1 - -64) (b*1) (c*1);rw[By,By,By];exact nD h (by omega) (by omega)
 ·show nrm m (a*1-64) (b*1) (c*1)<0;rw[By,By,By];have:=nD (x:=64-a) h.neg (by omega) (by omega);have e:=fm m (a-64) b c;rw[show -(a-64)=64-a by omega]at e;omega
theorem SpI.half{a b c m:Int}(h:CubOk a b c m){s:Int×Int×Int}{j:Nat}(S:SpI m a b c s j):SpI m a b c (hfS m a b c s) (j+1):=by
 obtain⟨n,w,l,hh,lp,hn⟩:=S;have hn0:0<s.2.2:=by rw[n];exact Int.pow_pos (by decide)
 have ne:=fX (t:=s.1+s.2.1) h.nc h.bc (show 0<2*s.2.2 by omega) (a:=a);have e2:2*s.2.2=2^(j+1):=by rw[n,Bv,BA]
 unfold hfS;split
 ·rename_i z
  exact⟨e2,by show s.1+s.2.1=2*s.1+128;omega,by show -64*(2*s.2.2)<=2*s.1;omega,by show s.1+s.2.1<=64*(2*s.2.2);omega,by show 0<aI m a b c (2*s.1) (2*s.2.2);rw[lB];omega,by show aI m a b c (s.1+s.2.1) (2*s.2.2)<0;omega⟩
 ·rename_i z
  exact⟨e2,by show 2*s.2.1=s.1+s.2.1+128;omega,by show -64*(2*s.2.2)<=s.1+s.2.1;omega,by show 2*s.2.1<=64*(2*s.2.2);omega,by show 0<aI m a b c (s.1+s.2.1) (2*s.2.2);omega,by show aI m a b c (2*s.2.1) (2*s.2.2)<0;rw[lB];omega⟩
theorem aU{a b c m:Int}(h:CubOk a b c m):∀j,SpI m a b c (itS m a b c j) j
 |0=>SpI.first h
 |j+1=>(aU h j).half h
theorem SpI.pos{a b c m:Int}{s:Int×Int×Int}{j:Nat}(S:SpI m a b c s j):0<s.2.2:=by rw[S.n];exact Int.pow_pos (by decide)
def InS(s t:Int×Int×Int):Prop:=s.1*t.2.2<=t.1*s.2.2/\t.2.1*s.2.2<=s.2.1*t.2.2
theorem InS.refl(s:Int×Int×Int):InS s s:=⟨Int.le_refl _,Int.le_refl _⟩
theorem da{x y p q r s:Int}(hq:0<q)(hp:0<=p)(hs:0<=s)(h1:x*q<=y*p)(h2:y*s<=r*q):x*s<=r*p:=by
 refine B5 (a:=q) ?_ hq;have a1:=BB h1 hs;have a2:=BB h2 hp;have e1:x*s*q=x*q*s:=by grind
 have e2:y*p*s=y*s*p:=by grind
 have e3:r*q*p=r*p*q:=by grind
 omega
theorem InS.trans{s t u:Int×Int×Int}(ps:0<s.2.2)(pt:0<t.2.2)(pu:0<u.2.2)(h1:InS s t)(h2:InS t u):InS s u :=
 ⟨da pt (A6 ps) (A6 pu) h1.1 h2.1,da pt (A6 pu) (A6 ps) h2.2 h1.2⟩
theorem xf{a b c m:Int}{s:Int×Int×Int}{j:Nat}(S:SpI m a b c s j):InS s (hfS m a b c s):=by
 have p:=S.pos;have w:=S.w;have w1:=BB (show s.1<=s.2.1 by omega) (A6 p);have e1:s.1*(2*s.2.2)=2*(s.1*s.2.2):=by grind
 have e2:s.2.1*(2*s.2.2)=2*(s.2.1*s.2.2):=by grind
 have e3:(s.1+s.2.1)*s.2.2=s.1*s.2.2+s.2.1*s.2.2:=by grind
 have e4:2*s.1*s.2.2=2*(s.1*s.2.2):=by grind
 have e5:2*s.2.1*s.2.2=2*(s.2.1*s.2.2):=by grind
 unfold hfS InS;split
 ·show s.1*(2*s.2.2)<=2*s.1*s.2.2/\(s.1+s.2.1)*s.2.2<=s.2.1*(2*s.2.2);omega
 ·show s.1*(2*s.2.2)<=(s.1+s.2.1)*s.2.2/\2*s.2.1*s.2.2<=s.2.1*(2*s.2.2);omega
theorem gQ{a b c m:Int}(h:CubOk a b c m)(i:Nat):∀k,InS (itS m a b c i) (itS m a b c (i+k))
 |0=>InS.refl _
 |k+1=>(gQ h i k).trans (aU h i).pos (aU h (i+k)).pos (aU h (i+k+1)).pos (xf (aU h (i+k)))
theorem SpI.few{a b c m:Int}(h:CubOk a b c m){s:Int×Int×Int}{j:Nat}(S:SpI m a b c s j){q:Int}(h1:s.1<=q*s.2.2)(h2:q*s.2.2<=s.2.1):j<=21:=by
 have p:=S.pos;obtain⟨en,w,l,hh,lp,hn⟩:=S;obtain⟨s1,s2,s3⟩:=h.small;have ha:=h.a9;generalize s.2.2=n at *
 generalize s.2.1=hi at *
 generalize s.1=lo at *
 have lip:∀t,-64*n<=t->t<=64*n->(t-q*n).natAbs<=128->(aI m a b c t n-aI m a b c (q*n) n).natAbs<=128*(16176*(n.natAbs*n.natAbs)):=λt t1 t2 t3=>by
  have e:aI m a b c t n-aI m a b c (q*n) n=(t-q*n)*(3*m*(b*c)*(n*n)-((a*n-t)*(a*n-t)+(a*n-t)*(a*n-q*n)+(a*n-q*n)*(a*n-q*n))):=by unfold aI nrm;grind
  have an:(a*n).natAbs<=9*n.natAbs:=bv (by omega) (A5 _);have x1:(a*n-t).natAbs<=73*n.natAbs:=by omega
  have x2:(a*n-q*n).natAbs<=73*n.natAbs:=by omega
  have z0:(n*n).natAbs<=n.natAbs*n.natAbs:=bv (A5 _) (A5 _);have y1:=bv x1 x1;have y2:=bv x1 x2;have y3:=bv x2 x2;have y4:=bv s3 z0;have z1:73*n.natAbs*(73*n.natAbs)=5329*(n.natAbs*n.natAbs):=by grind
  rw[z1]at y1 y2 y3;rw[e];refine bv t3 ?_;have u1:=Int.natAbs_sub_le (3*m*(b*c)*(n*n)) ((a*n-t)*(a*n-t)+(a*n-t)*(a*n-q*n)+(a*n-q*n)*(a*n-q*n));have u2:=Int.natAbs_add_le ((a*n-t)*(a*n-t)+(a*n-t)*(a*n-q*n)) ((a*n-q*n)*(a*n-q*n));have u3:=Int.natAbs_add_le ((a*n-t)*(a*n-t)) ((a*n-t)*(a*n-q*n));generalize (3*m*(b*c)*(n*n)-((a*n-t)*(a*n-t)+(a*n-t)*(a*n-q*n)+(a*n-q*n)*(a*n-q*n))).natAbs=v1 at *
  generalize ((a*n-t)*(a*n-t)+(a*n-t)*(a*n-q*n)+(a*n-q*n)*(a*n-q*n)).natAbs=v2 at *
  generalize ((a*n-t)*(a*n-t)+(a*n-t)*(a*n-q*n)).natAbs=v3 at *
  generalize ((a*n-t)*(a*n-t)).natAbs=v4 at *
  generalize ((a*n-t)*(a*n-q*n)).natAbs=v5 at *
  generalize ((a*n-q*n)*(a*n-q*n)).natAbs=v6 at *
  generalize (3*m*(b*c)*(n*n)).natAbs=v7 at *
  generalize n.natAbs*n.natAbs=v8 at *
  clear e an x1 x2 z0 z1 t1 t2 t3 s1 s2 s3 lp hn w l hh h1 h2 p ha en;omega
 have L1:=lip lo l (by omega) (by omega);have L2:=lip hi (by omega) hh (by omega);have eq:aI m a b c (q*n) n=n*n*n*nrm m (a-q) b c:=by unfold aI nrm;grind
 have nz:nrm m (a-q) b c≠0:=λz=>h.bc (let r:=(h.nc).2 _ _ _ z;⟨r.2.1,r.2.2⟩)
 have p3:0<n*n*n:=Bi (Bi p p) p
 have big:n*n*n<=aI m a b c (q*n) n\/aI m a b c (q*n) n <= -(n*n*n):=by
  rw[eq];rcases Cc nz with z |z
  ·right;have:=Int.mul_le_mul_of_nonneg_left (show nrm m (a-q) b c <= -1 by omega) (A6 p3);omega
  ·left;have:=Int.mul_le_mul_of_nonneg_left (show 1<=nrm m (a-q) b c by omega) (A6 p3);omega
 have nn:(n.natAbs*n.natAbs:Nat)=((n*n).natAbs):=(Bt n n).symm;have nn2:((n*n).natAbs:Int)=n*n:=Int.natAbs_of_nonneg (A6 (Bi p p));rw[nn]at L1 L2
 have fin:n*n*n<=2070528*(n*n):=by
  rcases big with z |z
  ·generalize aI m a b c hi n=W at *
   generalize aI m a b c (q*n) n=V at *
   clear L1 lip eq nz nn;generalize n*n*n=N3 at *
   generalize n*n=N2 at *
   omega
  ·generalize aI m a b c lo n=W at *
   generalize aI m a b c (q*n) n=V at *
   clear L2 lip eq nz nn;generalize n*n*n=N3 at *
   generalize n*n=N2 at *
   omega
 have fin2:n<=2070528:=B5 (a:=n*n) (by rw[BA n (n*n)];exact fin) (Bi p p);refine Bs λz=>?_
 have g1:(2:Int)^21<=2^j:=by have:=Ci (n:=2) (by decide) (BE z);have e:=Int.ofNat_le.mpr this;rw[Ce,Ce]at e;exact e
 have g2:(2:Int)^21=2097152:=by decide
 omega
def FL(l:List Int):Prop:=(∃q:Int,-21<=q/\q<=21/\l=[q,0,1])\/∃k:Int,1<=k/\k<=9/\l=[0,-k,1]
theorem FL.fac{l:List Int}(h:FL l):FacG l:=by
 rcases h with⟨q,h1,h2,rfl⟩ |⟨k,h1,h2,rfl⟩
 ·exact⟨q,0,1,rfl,by omega,by omega,by decide,by decide,by decide,by decide,.inl (Int.le_refl _)⟩
 ·exact⟨0,-k,1,rfl,by decide,by decide,by omega,by omega,by decide,by decide,.inl (by omega)⟩
theorem uf(t:Int):aP [t,0,1]=[-t,1]:=by
 have hr:ax t 0 1=[-t,1]:=by unfold ax;rw[if_pos rfl]
 show aB (ax t 0 1)=_;rw[hr];refine Pln.plain ⟨(tr_snoc (r:=[-t])).mpr (by decide),by simp,?_,(by decide:(0:Int)<1)⟩;show ay [-t,1]=1;unfold ay;rw[eO,eO,km];exact Nat.gcd_one_right _
theorem vo{k:Int}(hk:1<=k):aP [0,-k,1]=[k,0,1]:=by
 have hr:ax 0 (-k) 1=[k,0,1]:=by unfold ax;rw[if_neg (by omega)];simp
 show aB (ax 0 (-k) 1)=_;rw[hr];refine Pln.plain ⟨(tr_snoc (r:=[k,0])).mpr (by decide),by simp,?_,(by decide:(0:Int)<1)⟩;show ay [k,0,1]=1;unfold ay;rw[eO,eO,eO,km];exact Nat.gcd_one_right _
def Alo(fs:List (List Int))(s:Int×Int×Int):Prop:=∀l∈fs.flatMap spF,¬(0<=bj l s.1 s.2.2/\bj l s.2.1 s.2.2<=0)
theorem cT(q t n:Int):(0<=bj [q,0,1,1] t n↔t<=q*n)/\(bj [q,0,1,1] t n<=0↔q*n<=t):=by
 have e:bj [q,0,1,1] t n=cR (0*n*n) (1*t-q*n):=by exact if_pos (show(0:Int)<1 by decide)
 rw[e,BX,BX,BJ];unfold cR;generalize q*n=z;by_cases h:t-z<0
 ·rw[if_pos (.inl h)];omega
 ·have h2:0<=(t-z)*(t-z):=Cb (by omega) (by omega);rw[if_neg (by omega)];by_cases h3:t=z
  ·subst h3;rw[Int.sub_self];simp
  ·have h4:0<(t-z)*(t-z):=Bi (by omega) (by omega);rw[if_pos h4];omega
theorem FL.spots{l x:List Int}(h:FL l)(hx:x∈spF l):∃q:Int,-21<=q/\q<=21/\l=[q,0,1]/\x=[q,0,1,1]:=by
 rcases h with⟨q,h1,h2,rfl⟩ |⟨k,h1,h2,rfl⟩
 ·have:spF [q,0,1]=[[q,0,1,1]]:=by show(if(0:Int)<=0 then _ else[])++(if(0:Int)<0 then _ else[])=_;rw[if_pos (by decide),if_neg (by decide)];rfl
  rw[this]at hx;exact⟨q,h1,h2,rfl,Bf.mp hx⟩
 ·have:spF [0,-k,1]=[]:=by show(if 0 <= -k then _ else[])++(if 0 < -k then _ else[])=[];rw[if_neg (by omega),if_neg (by omega)];rfl
  rw[this]at hx;cases hx
theorem yI{a b c m:Int}(h:CubOk a b c m){s:Int×Int×Int}{j:Nat}(S:SpI m a b c s j){fs:List (List Int)}(hF:∀l∈fs,FL l)(hj:21<j):Alo fs s:=λx hx z=>by obtain⟨l,hl,hx⟩:=List.mem_flatMap.mp hx;obtain⟨q,_,_,_,rfl⟩:=(hF l hl).spots hx;have:=S.few h ((cT q _ _).1.mp z.1) ((cT q _ _).2.mp z.2);omega
theorem oO(t n q:Int):hv t n [-q,1]=n*(t-q*n):=by simp[hv];grind
theorem w8(t n k:Int):hv t n [k,0,1]=n*(k*(n*n)+t*t):=by simp[hv];grind
theorem tY{k l1 l2 h1 h2:Int}(hk:1<=k):OneSg [k,0,1] l1 l2 h1 h2:=⟨1,.inl rfl,λt n hn _ _=>by
 rw[w8];refine cC (Bi hn ?_);have q1:=Bi (show 0<k by omega) (Bi hn hn)
 have q2:0<=t*t:=by
  rcases Int.lt_or_le t 0 with z |z
  ·exact A6 (Int.mul_pos_of_neg_of_neg z z)
  ·exact Cb z z
 omega⟩
theorem tZ{q l1 l2 h1 h2:Int}(h:q*l2<l1)(l2p:0<l2):OneSg [-q,1] l1 l2 h1 h2:=⟨1,.inl rfl,λt n hn h1 _=>by
 rw[oO];refine cC (Bi hn ?_);have q1:=BS h hn;have q3:q*n*l2=q*l2*n:=by grind
 have q2:q*n<t:=Cf (a:=l2) (by omega) (A6 l2p)
 omega⟩
theorem t7{q l1 l2 h1 h2:Int}(h:h1<q*h2)(h2p:0<h2):OneSg [-q,1] l1 l2 h1 h2:=⟨-1,.inr rfl,λt n hn _ hh=>by
 have q1:=BS h hn;have q3:q*n*h2=q*h2*n:=by grind
 have q2:t<q*n:=Cf (a:=h2) (by omega) (A6 h2p);have e:hv t n [-q,1] = -(n*(q*n-t)):=by rw[oO];grind
 rw[e,gq,cC (Bi hn (by omega))]⟩
theorem x0{q n lo l1 l2:Int}(n0:0<n)(l2p:0<l2)(e:l1*n=lo*l2)(h:q*n<lo):q*l2<l1:=by
 refine Cf (a:=n) ?_ (A6 n0);have:=BS h l2p;have e2:q*l2*n=q*n*l2:=by grind
 omega
theorem x5{q n hi h1 h2:Int}(n0:0<n)(h2p:0<h2)(e:h1*n=hi*h2)(h:hi<q*n):h1<q*h2:=by
 refine Cf (a:=n) ?_ (A6 n0);have:=BS h h2p;have e2:q*h2*n=q*n*h2:=by grind
 omega
theorem pW{a b c m:Int}(h:CubOk a b c m){s:Int×Int×Int}(n0:0<s.2.2){fs:List (List Int)}(hF:∀l∈fs,FL l)(hA:Alo fs s){l1 l2 h1 h2:Int}(l2p:0<l2)(h2p:0<h2)(el:l1*s.2.2=s.1*l2)(eh:h1*s.2.2=s.2.1*h2):CbN m a b c (fs.map aP) (ag (av m a b c) (prd (fs.map aP))) l1 l2 h1 h2:=by
 refine⟨h.nc,h.bc,rfl,λp hp=>?_,l2p,h2p⟩;obtain⟨l,hl,rfl⟩:=B2.mp hp;have hf:=hF l hl;refine⟨kz hf.fac,?_⟩;rcases hf with⟨q,q1,q2,rfl⟩ |⟨k,q1,q2,rfl⟩
 ·rw[uf];refine⟨by show 2<=3;decide,?_⟩
  have z:=hA [q,0,1,1] (List.mem_flatMap.mpr ⟨_,hl,by
   show _∈(if(0:Int)<=0 then _ else[])++(if(0:Int)<0 then _ else[])
   rw[if_pos (by decide),if_neg (by decide)];exact Bf.mpr rfl⟩)
  rw[(cT q _ _).1,(cT q _ _).2]at z;rcases Int.lt_or_le (q*s.2.2) s.1 with y |y
  ·exact tZ (x0 n0 l2p el y) l2p
  ·exact t7 (x5 n0 h2p eh (by omega)) h2p
 ·rw[vo q1];exact⟨by show 3<=3;decide,tY q1⟩
theorem mQ{m a b c a' b' c':Int}{rs rs':List (List Int)}{kp kp':List Int}{l1 l2 h1 h2 k1 k2 j1 j2:Int}(N:CbN m a b c rs kp l1 l2 h1 h2)(N':CbN m a' b' c' rs' kp' k1 k2 j1 j2){x1 x2 y1 y2 u1 u2 v1 v2:Int}(x2p:0<x2)(y2p:0<y2)(u2p:0<u2)(v2p:0<v2)
 (Lx:l1*x2<=x1*l2/\y1*h2<=h1*y2) (Cx:x1*y2<y1*x2/\sg (hv x1 x2 kp)≠0/\sg (hv y1 y2 kp)≠sg (hv x1 x2 kp)) (Lu:k1*u2<=u1*k2/\v1*j2<=j1*v2) (Cu:u1*v2<v1*u2/\sg (hv u1 u2 kp')≠0/\sg (hv v1 v2 kp')≠sg (hv u1 u2 kp')) (hle:y1*u2<=u1*y2):0<nrm m (a'-a) (b'-b) (c'-c) :=
 qG N.nc y2p u2p hle (N.shows x2p y2p Lx.1 Lx.2 Cx.1 Cx.2.2).2 (N'.shows u2p v2p Lu.1 Lu.2 Cu.1 Cu.2.2).1
theorem sf{m a b c a' b' c':Int}{rs rs':List (List Int)}{kp kp':List Int}{l1 l2 h1 h2 k1 k2 j1 j2:Int}(N:CbN m a b c rs kp l1 l2 h1 h2)(N':CbN m a' b' c' rs' kp' k1 k2 j1 j2){g:List Int}(hg:Tr g)(gn:g≠[]){x1 x2 y1 y2:Int}(x2p:0<x2)(y2p:0<y2)(Cx:x1*y2<y1*x2/\sg (hv x1 x2 g)≠0/\sg (hv y1 y2 g)≠sg (hv x1 x2 g))(d1:aL kp g=[])(Lx:l1*x2<=x1*l2/\y1*h2<=h1*y2)(d2:aL kp' g=[]):a=a'/\b=b'/\c=c' :=
 N.alike N' hg gn (g6 gn hg d1) (g6 gn hg d2) x2p y2p Lx.1 (da y2p (A6 x2p) (A6 N.h2p) (A6 Cx.1) Lx.2) (da x2p (A6 N.l2p) (A6 y2p) Lx.1 (A6 Cx.1)) Lx.2 Cx.2.2
theorem tN{a b c m g:Int}(h:CubOk a b c m)(hg:g≠0){s:Int×Int×Int}{j:Nat}(S:SpI m a b c s j){x1 x2 y1 y2:Int}(x2p:0<x2)(y2p:0<y2)(ex:x1*s.2.2=s.1*x2)(ey:y1*s.2.2=s.2.1*y2){l:List Int}(hl:∀t n,hv t n l=g*hv t n (av m a b c)):x1*y2<y1*x2/\sg (hv x1 x2 l)≠0/\sg (hv y1 y2 l)≠sg (hv x1 x2 l):=by
 have n0:=S.pos;have xl:0<aI m a b c x1 x2:=fY h.nc n0 x2p (B6 ex) S.lp
 have yh:aI m a b c y1 y2<0:=by
  rcases Cc (fX (t:=y1) h.nc h.bc y2p (a:=a))with z |z
  ·exact z
  ·have:=fY (t':=s.2.1) (n':=s.2.2) h.nc y2p n0 (B6 ey.symm) z;have:=S.hn;omega
 have sgx:sg (hv x1 x2 l) = -sg g:=by rw[hl,cU,kI,gq,cU,cC x2p,cC xl];omega
 have sgy:sg (hv y1 y2 l)=sg g:=by
  have : -(aI m a b c y1 y2)>0:=by omega
  rw[hl,cU,kI,<- Int.mul_neg,cU,cC y2p,cC this];omega
 refine⟨?_,?_,?_⟩
 ·have w:=S.w;refine Cf (a:=s.2.2) ?_ (A6 n0);have:=BS (show s.1<s.2.1 by omega) (Bi x2p y2p);have e1:x1*y2*s.2.2=s.1*(x2*y2):=by rw[show x1*y2*s.2.2=x1*s.2.2*y2 by grind,ex];grind
  have e2:y1*x2*s.2.2=s.2.1*(x2*y2):=by rw[show y1*x2*s.2.2=y1*s.2.2*x2 by grind,ey];grind
  omega
 ·rw[sgx];rcases gp hg with⟨e,_⟩ |⟨e,_⟩<;>rw[e]<;>decide
 ·rw[sgx,sgy];rcases gp hg with⟨e,_⟩ |⟨e,_⟩<;>rw[e]<;>decide
theorem nq{s t:Int×Int×Int}(hs:0<s.2.2)(ht:0<t.2.2)(I:InS s t){l1 l2 h1 h2 x1 x2 y1 y2:Int}(l2p:0<l2)(h2p:0<h2)(x2p:0<x2)(y2p:0<y2)(el:l1*s.2.2=s.1*l2)(eh:h1*s.2.2=s.2.1*h2)(ex:x1*t.2.2=t.1*x2)(ey:y1*t.2.2=t.2.1*y2):l1*x2<=x1*l2/\y1*h2<=h1*y2 :=
 ⟨da hs (A6 l2p) (A6 x2p) (B6 el) (da ht (A6 hs) (A6 x2p) I.1 (B6 ex.symm)),
  da ht (A6 y2p) (A6 h2p) (B6 ey) (da hs (A6 ht) (A6 h2p) I.2 (B6 eh.symm))⟩
theorem nk{a b c m g:Int}(hg:g≠0){q l:List Int}(tl:Tr l)(ln:l≠[])(e:∀k,cf l k=g*cf (av m a b c) k):aL (ag (av m a b c) q) l=[] :=
 Dv.rest ln tl (Dv.prop_left (d:=av m a b c) (x:=1) (y:=g) (by decide) hg (λk=>by rw[e k];omega) (Dv.mul_left _ _))
end RM
open PySem.W in
local macro_rules | `(tactic|walk_at "comp_ok")=>`(tactic|exact⟨by with_unfolding_all rfl,by decide +kernel,rfl,by decide +kernel,by repeat' (first |exact List.forall_mem_nil _ |refine List.forall_mem_cons.2 ⟨rfl,?_⟩),by rfl,by repeat' (first |exact .nil |refine .cons ⟨rfl,by first |exact Or.inl rfl |exact Or.inr rfl,rfl⟩ ?_)⟩)
namespace R86
open PySem L2 RM
noncomputable def top(i:Nat):Stmt:=PySem.Challenge.pw_rootspan_k86_whole_no_false_order.main.body.getD i (.Pass ⟨0,0,0,0⟩)
abbrev iR:Stmt:=top 6
abbrev iL:Stmt:=top 7
abbrev dW:Stmt:=ki (top 8) 0
abbrev jv:Stmt:=ki (top 8) 5
abbrev iT:Stmt:=top 10
abbrev iZ:Stmt:=top 11
abbrev iM:Stmt:=top 12
abbrev iO:Stmt:=top 13
abbrev iY:Stmt:=top 15
abbrev iS:Stmt:=top 16
abbrev iU:Stmt:=top 17
abbrev iX:Stmt:=top 19
abbrev iN:Stmt:=top 21
abbrev iQ:Stmt:=top 22
abbrev iP:Stmt:=top 23
abbrev iV:Stmt:=top 24
abbrev i0:Stmt:=top 25
abbrev jw:Stmt:=ki (top 27) 0
abbrev jt:Stmt:=top 29
abbrev i8:Stmt:=top 30
abbrev jl:Stmt:=top 31
abbrev jn:Stmt:=top 32
abbrev gr:Stmt:=top 33
abbrev jh:Stmt:=top 34
abbrev je:Stmt:=top 35
abbrev jg:Stmt:=top 36
abbrev jb:Stmt:=top 37
abbrev jd:Stmt:=top 38
abbrev jf:Stmt:=top 39
abbrev jk:Stmt:=top 40
abbrev jq:Stmt:=top 41
abbrev jr:Stmt:=top 42
abbrev gu:Stmt:=top 43
abbrev i9:Stmt:=top 44
abbrev gv:Stmt:=top 45
abbrev jm:Stmt:=top 46
abbrev jc:Stmt:=top 47
abbrev jj:Stmt:=top 48
abbrev jo:Stmt:=top 49
abbrev jp:Stmt:=top 50
abbrev ji:Stmt:=top 51
abbrev ju:Stmt:=top 52
abbrev ja:Stmt:=top 53
abbrev iW:Stmt:=top 54
theorem scM{N P:List Str}{sc:Scope}(a:sc.kind=.function:=by rfl)(b:sc.isCoroutine=false:=by rfl)(c:sc.isGenerator=false:=by rfl)(e:N.Nodup:=by decide +kernel)(f:N.take P.length=P:=by rfl)(g:∀x∈P,sc.names.lookup x=some .local\/sc.names.lookup x=some .cell:=by decide +kernel)(h:∀y∈sc.names,y.2≠.free:=by decide +kernel):FnScope N P sc:=⟨a,b,c,e,f,g,h⟩
theorem sc_shared_by_two:FnScope ["one","other","greater","less","rest"] ["one","other"] (aq iR):=scM
theorem rP:FnScope ["value"] ["value"] (aq iL):=scM
theorem sc_Ratio___init__:FnScope ["self","top","bottom","divisor"] ["self","top","bottom"] (aq dW):=scM
theorem sd:FnScope ["self","other"] ["self","other"] (aq jv):=scM
theorem sc_poly:FnScope ["row","length"] ["row"] (aq iT):=scM
theorem rX:FnScope ["row"] ["row"] (aq iZ):=scM
theorem sc_value_parts:FnScope ["row","top","bottom","above","below","value"] ["row","top","bottom"] (aq iM):=scM
theorem rR:FnScope ["row","ratio"] ["row","ratio"] (aq iO):=scM
theorem sc_divided:FnScope ["first","second","size","sign","steps","factor","quotient","rest","place","lead"] ["first","second"] (aq iY):=scM
theorem rT:FnScope ["row","factor"] ["row","factor"] (aq iS):=scM
theorem sc_lowered:FnScope ["row","second","place","lead","kept","k","value"] ["row","second","place","lead"] (aq iU):=scM
theorem rW:FnScope ["divisor","row"] ["divisor","row"] (aq iX):=scM
theorem rQ:FnScope ["first","second","paper"] ["first","second","paper"] (aq iN):=scM
theorem sc_shows_alike:FnScope ["first","second","paper","shared_part"] ["first","second","paper"] (aq iQ):=scM
theorem rS:FnScope ["one","low","high"] ["one","low","high"] (aq iP):=scM
theorem rV:FnScope ["one","low","high"] ["one","low","high"] (aq iV):=scM
theorem sc_changes_on:FnScope ["polynomial","low","high","start"] ["polynomial","low","high"] (aq i0):=scM
theorem se:FnScope ["self","row","low","high"] ["self","row","low","high"] (aq jw):=scM
theorem r9:FnScope ["_law_script","_law_k"] ["_law_script","_law_k"] (aq jt):=scM
theorem rY:FnScope ["_law_cell","_law_most"] ["_law_cell","_law_most"] (aq i8):=scM
theorem sc__law_mul:FnScope ["_law_kp","_law_kq","_law_made","_law_i","_law_one","_law_j","_law_other"] ["_law_kp","_law_kq"] (aq jl):=scM
theorem sc__law_gcd:FnScope ["_law_a","_law_b","_law_rest"] ["_law_a","_law_b"] (aq jn):=scM
theorem sc__law_shrunk:FnScope ["_law_kp","_law_most","_law_one"] ["_law_kp"] (aq gr):=scM
theorem sc__law_plain:FnScope ["_law_kp","_law_made"] ["_law_kp"] (aq jh):=scM
theorem sc__law_shape:FnScope ["_law_factor","_law_u","_law_b"] ["_law_factor"] (aq je):=scM
theorem sc__law_product:FnScope ["_law_factors","_law_made","_law_one"] ["_law_factors"] (aq jg):=scM
theorem rZ:FnScope ["_law_square","_law_due"] ["_law_square","_law_due"] (aq jb):=scM
theorem sc__law_side:FnScope ["_law_spot","_law_top","_law_bottom","_law_due","_law_square"] ["_law_spot","_law_top","_law_bottom"] (aq jd):=scM
theorem sc__law_roots_of:FnScope ["_law_factors","_law_made","_law_one"] ["_law_factors"] (aq jf):=scM
theorem sc__law_norm:FnScope ["_law_a","_law_b","_law_c","_law_m","_law_cubes"] ["_law_a","_law_b","_law_c","_law_m"] (aq jk):=scM
theorem sc__law_cube_shape:FnScope ["_law_cube","_law_a","_law_b","_law_c","_law_m"] ["_law_cube"] (aq jq):=scM
theorem sc__law_cube_by:FnScope ["_law_cell","_law_other","_law_m","_law_a","_law_b","_law_c"] ["_law_cell","_law_other","_law_m"] (aq jr):=scM
theorem sc__law_further:FnScope ["_law_cell","_law_cube","_law_k","_law_q"] ["_law_cell","_law_cube"] (aq gu):=scM
theorem sc__law_way:FnScope ["_law_spot","_law_top","_law_bottom","_law_first","_law_second"] ["_law_spot","_law_top","_law_bottom"] (aq i9):=scM
theorem sc__law_alone:FnScope ["_law_spots","_law_spot","_law_span_here","_law_other","_law_low","_law_high"] ["_law_spots","_law_spot","_law_span_here"] (aq gv):=scM
theorem sc__law_half:FnScope ["_law_span_here","_law_spot","_law_middle"] ["_law_span_here","_law_spot"] (aq jm):=scM
theorem sc__law_span:FnScope ["_law_spots","_law_spot","_law_more","_law_span_here","_law_k"] ["_law_spots","_law_spot","_law_more"] (aq jc):=scM
theorem r8:FnScope ["_law_kp","_law_span_here"] ["_law_kp","_law_span_here"] (aq jj):=scM
theorem sc__law_ends:FnScope ["_law_span_here","_law_spot","_law_other","_law_mate","_law_cell","_law_ends_here","_law_k"] ["_law_span_here","_law_spot","_law_other","_law_mate","_law_cell"] (aq jo):=scM
theorem sc__law_end_by:FnScope ["_law_ends_here","_law_usual","_law_cell"] ["_law_ends_here","_law_usual","_law_cell"] (aq jp):=scM
theorem sc__law_paper_by:FnScope ["_law_ends_here","_law_shapes","_law_cells_of","_law_usual","_law_low","_law_ones","_law_word","_law_found","_law_left","_law_k"] ["_law_ends_here","_law_shapes","_law_cells_of"] (aq ji):=scM
theorem sc__law_any_paper:FnScope ["_law_cells_of","_law_left","_law_ends_here","_law_k","_law_kg"] ["_law_cells_of"] (aq ju):=scM
theorem sc__law_taken_by_the_cube:FnScope ["_law_a","_law_b","_law_cube","_law_spans","_law_cell","_law_meet","_law_k","_law_many","_law_kg","_law_ends_here"] ["_law_a","_law_b","_law_cube","_law_spans","_law_cell"] (aq ja):=scM
theorem sc_law:FnScope ["_law_script","_law_m","_law_one","_law_other","_law_ones","_law_others","_law_kp","_law_kq","_law_span_here","_law_mate","_law_a","_law_b","_law_apart","_law_shapes","_law_k","_law_cells_of","_law_ends_here","_law_paper","_law_found","_law_more"] ["_law_script"] (aq iW):=scM
structure Txt(K:PySem.W.Frag)(mg:Str->Option Value):Prop where
 abs_:mg "abs"=none
 len_:mg "len"=none
 reversed_:mg "reversed"=none
 list_:mg "list"=none
 range_:mg "range"=none
 enumerate_:mg "enumerate"=none
 all_:mg "all"=none
 int_:mg "int"=none
 max_:mg "max"=none
 min_:mg "min"=none
 isinstance_:mg "isinstance"=none
 bool_:mg "bool"=none
def gh(K:PySem.W.Frag):Sp:=λvs H Q _=>∃(a:Addr) (ns:List Int),vs=[.ref a]/\SqL K H a (ns.map V.int)/\ns.length<=63/\∀H',Q (.bl true) H'
section
variable {P:Program}{w:World}{K:PySem.W.Frag}{mg:Str->Option Value}{base:Heap}
theorem sx(n:Nat):(List.replicate n [V.int 0]).flatten=(List.replicate n (0:Int)).map V.int:=by
 induction n with
 |zero=>rfl
 |succ n ih=>rw[BG,B8,ih,BG];rfl
theorem kh{n j:Nat}{i:Int}(e:i=j)(h:j<n):ixN n i=some j:=by subst e;unfold ixN;rw[if_pos (Cg _),if_pos (by omega)];simp
theorem jZ(l:List Int)(j:Nat)(x:Int):(l.map V.int).set j (.int x)=(l.set j x).map V.int:=by rw[List.map_set]
theorem qk{l:List Int}{j:Nat}{i:Int}(e:i=j)(h:j<l.length):atI (l.map V.int) i=some (.int (cf l j)):=by subst e;exact eT (by rw[List.getElem?_map,de h];rfl)
def SameB(p:Addr)(H H':Hp):Prop:=∀b o,b≠p->H b=some o->H' b=some o
theorem SameB.refl(p:Addr)(H:Hp):SameB p H H:=λ_ _ _ h=>h
theorem SameB.then_new{p q:Addr}{H H1:Hp}{o:HO}(s:SameB p H H1)(h:H1 q=none):SameB p H (upd H1 q o):=λb u n e=>by rw[upd_ne (aH (s b u n e) h)];exact s b u n e
theorem SameB.then_upd{p:Addr}{H H1:Hp}{o:HO}(s:SameB p H H1):SameB p H (upd H1 p o):=λb u n e=>by rw[upd_ne n];exact s b u n e
def AllB(k:Nat)(l:List Int):Prop:=∀x∈l,Bits k x
theorem AllB.cf{k:Nat}{l:List Int}(h:AllB k l)(n:Nat):Bits k (cf l n):=by
 by_cases hn:n<l.length
 ·rw[bT hn];exact h _ (BI hn)
 ·rw[aZ (Bs hn)];exact Bits.zero
theorem cu{H H2:Hp}{p:Addr}{o:HO}(s:Same H H2)(hp:H p=none):Same H (upd H2 p o):=λb u e=>by rw[upd_ne (aH e hp)];exact s b u e
theorem nS(l:List Int)(x:Int):l.map V.int++[V.int x]=(l++[x]).map V.int:=by rw[Bw];rfl
noncomputable def hG(ms:List Int)(lo hi:Option Int):List Int:=(ms.drop (HT.sIx ms.length 0 lo)).take (HT.sIx ms.length ms.length hi-HT.sIx ms.length 0 lo)
theorem pG(ms:List Int)(lo hi:Option Int):cy (ms.map V.int) lo hi=(hG ms lo hi).map V.int:=by unfold cy hG;rw[A4,<- List.map_drop,<- List.map_take]
theorem AllB.app{k:Nat}{l r:List Int}(h1:AllB k l)(h2:AllB k r):AllB k (l++r):=λx hx=>(Bn.mp hx).elim (h1 x) (h2 x)
theorem AllB.zeros{k n:Nat}:AllB k (List.replicate n 0):=λx hx=>by rw[List.eq_of_mem_replicate hx];exact Bits.zero
theorem AllB.mono{j k:Nat}{l:List Int}(h:AllB j l)(hk:j<=k:=by decide):AllB k l:=λx hx=>(h x hx).mono hk
theorem AllB.nil{k:Nat}:AllB k []:=λ_ h=>nomatch h
theorem AllB.snoc{k:Nat}{l:List Int}{x:Int}(h:AllB k l)(hx:Bits k x):AllB k (l++[x]):=h.app λy hy=>by rw[Bf.mp hy];exact hx
theorem vH{l:List Int}{x:Int}(h:x∈trim l):x∈l:=by
 unfold trim at h
 rw[List.mem_reverse]at h;exact List.mem_reverse.mp ((List.dropWhile_sublist _).subset h)
theorem AllB.trim{k:Nat}{l:List Int}(h:AllB k l):AllB k (trim l):=λx hx=>h x (vH hx)
theorem fE{l:List Int}{i:Nat}{x:V}(h:(l.map V.int)[i]?=some x):∃c,l[i]?=some c/\x=.int c/\c∈l/\l.take (i+1)=l.take i++[c]:=by
 rw[List.getElem?_map]at h;cases e:l[i]? with
 |none=>rw[e]at h;cases h
 |some c=>rw[e]at h;exact⟨c,rfl,(Option.some.inj h).symm,List.mem_of_getElem? e,by rw[BM,e];rfl⟩
def mkL(H:Hp)(Q:VK)(r:List Int):Prop:=∀(p:Addr) (H':Hp),Same H H'->H p=none->H' p=some (.lst (r.map V.int))->Q (.ref p) H'
def lU(K:PySem.W.Frag):Sp:=λvs H Q _=>∃(a:Addr) (ns:List Int),vs=[.ref a]/\SqL K H a (ns.map V.int)/\mkL H Q (trim ns)
def mz(K:PySem.W.Frag):Sp:=λvs H Q _=>∃(a:Addr) (ns:List Int) (k:Nat),vs=[.ref a,.int k]/\SqL K H a (ns.map V.int)/\Q (.int (ns.getD k 0)) H
def RwH(H:Hp)(ps:List Addr)(xss:List (List Int)):Prop:=ps.length=xss.length/\∀(i:Nat) (p:Addr) (xs:List Int),ps[i]?=some p->xss[i]?=some xs->H p=some (.lst (xs.map V.int))
theorem RwH.nil{H:Hp}:RwH H [] []:=⟨rfl,λi p xs h=>by simp at h⟩
theorem RwH.same{H H':Hp}{ps:List Addr}{xss:List (List Int)}(h:RwH H ps xss)(s:Same H H'):RwH H' ps xss:=⟨h.1,λi p xs a b=>s _ _ (h.2 i p xs a b)⟩
theorem RwH.snoc{H:Hp}{ps:List Addr}{xss:List (List Int)}{p:Addr}{xs:List Int}(h:RwH H ps xss)(hp:H p=some (.lst (xs.map V.int))):RwH H (ps++[p]) (xss++[xs]):=by
 refine⟨by rw[Ba,Ba,h.1];rfl,λi q ys a b=>?_⟩;by_cases hi:i<ps.length
 ·rw[List.getElem?_append_left hi]at a;rw[List.getElem?_append_left (by rw[<- h.1];exact hi)]at b;exact h.2 i q ys a b
 ·rw[List.getElem?_append_right (by omega)]at a;rw[List.getElem?_append_right (by rw[<- h.1];omega),<- h.1]at b;by_cases h0:i-ps.length=0
  ·rw[h0]at a b;obtain rfl:p=q:=by simpa using a
   obtain rfl:xs=ys:=by simpa using b
   exact hp
  ·rw[List.getElem?_eq_none_iff.mpr (by simp;omega)]at a;cases a
theorem RwH.get{H:Hp}{ps:List Addr}{xss:List (List Int)}{i:Nat}(h:RwH H ps xss)(hi:i<xss.length):∃p,ps[i]?=some p/\H p=some (.lst ((xss.getD i []).map V.int)):=by
 have hi':i<ps.length:=by rw[h.1];exact hi
 refine⟨ps[i],List.getElem?_eq_getElem hi',h.2 i _ _ (List.getElem?_eq_getElem hi') ?_⟩;rw[List.getElem?_eq_getElem hi];simp[List.getD,hi]
theorem RwH.of_get{H:Hp}{ps:List Addr}{xss:List (List Int)}{i:Nat}{x:V}(h:RwH H ps xss)(hx:(ps.map V.ref)[i]?=some x):∃p xs,x=.ref p/\ps[i]?=some p/\xss[i]?=some xs/\H p=some (.lst (xs.map V.int))/\i<xss.length:=by
 rw[List.getElem?_map]at hx;cases e:ps[i]? with
 |none=>rw[e]at hx;cases hx
 |some p =>
  rw[e]at hx;have hi:i<ps.length:=(List.getElem?_eq_some_iff.mp e).1;have hi':i<xss.length:=by rw[<- h.1];exact hi
  exact⟨p,xss[i],(Option.some.inj hx).symm,rfl,List.getElem?_eq_getElem hi',h.2 i p _ e (List.getElem?_eq_getElem hi'),hi'⟩
theorem gK(ps:List Addr)(p:Addr):ps.map V.ref++[V.ref p]=(ps++[p]).map V.ref:=by rw[Bw];rfl
theorem sy{i:Nat}{v:V}{σ:St}{H:Hp}{Q:St->Hp->Prop}(h:Q (σ.set i (some v)) H):dD i v σ H Q:=h
def sp2:Sp:=λvs H Q _=>∃a b:Int,vs=[.int a,.int b]/\Q (.int (Nat.gcd a.natAbs b.natAbs:Nat)) H
theorem cO(i:Int):(if i<0 then -i else i)=(i.natAbs:Int):=by split<;>omega
theorem uo(F:Fun K "shared_by_two" "shared_by_two" iR f fd)(T:Txt K mg):FnOk P w K mg base CX0 1 f fd ["one","other"] sp2:=by
 refine F.ok sc_shared_by_two (λvs H Q E h=>?_) (λcdv A outer s H vs Q E hr h=>?_)
 ·obtain⟨a,b,rfl,_⟩:=h;rfl
 ·obtain⟨a,b,rfl,k⟩:=h
  refine⟨_,(ae (ai (i:=2) sc_shared_by_two.nd rfl (Or.inl rfl) (bg fI (by rfl) T.abs_ PyProof.Rows.boot_abs (aa (pv 0) ac)))
   (ae (ai (i:=3) sc_shared_by_two.nd rfl (Or.inl rfl) (bg fI (by rfl) T.abs_ PyProof.Rows.boot_abs (aa (pv 1) ac)))
   (ae (fg PassesOwn.never (aF gF (pv 3) ab (au _))
     (ae (ai (i:=4) sc_shared_by_two.nd rfl (Or.inl rfl) (ad aS (pv 2) (pv 3)))
       (ae (ai (i:=2) sc_shared_by_two.nd rfl (Or.inl rfl) (pv 3))
       (ak (ai (i:=3) sc_shared_by_two.nd rfl (Or.inl rfl) (pv 4))))))
   (ak (ar (pv 2)))))),?_⟩
  refine⟨_,rfl,_,rfl,?_⟩;refine⟨_,rfl,_,rfl,?_⟩;refine⟨λm σ' H'=>∃(x y:Int) (z:Option V),σ'=[some (.int a),some (.int b),some (.int x),some (.int y),z]/\H=H'/\0<=x/\0<=y/\y.natAbs=m/\Nat.gcd x.natAbs y.natAbs=Nat.gcd a.natAbs b.natAbs,⟨_,_,_,none,rfl,rfl,?_,?_,rfl,?_⟩,?_⟩
  ·rw[cO];exact Cg _
  ·rw[cO];exact Cg _
  ·rw[cO,cO,BR,BR]
  ·rintro m σ' H' ⟨x,y,z,rfl,rfl,hx,hy,rfl,hg⟩;refine⟨_,rfl,_,_,rfl,rfl,_,rfl,?_⟩;refine dY (λhn=>?_) (λh0=>?_)
   ·have hp:0<y:=by have:y≠0:=hn;omega
    refine⟨λσ'' H''=>∃m',m'<y.natAbs/\∃(x' y':Int) (z:Option V),σ''=[some (.int a),some (.int b),some (.int x'),some (.int y'),z]/\H=H''/\0<=x'/\0<=y'/\y'.natAbs=m'/\Nat.gcd x'.natAbs y'.natAbs=Nat.gcd a.natAbs b.natAbs,λ_ _ h=>h,?_⟩;refine⟨_,rfl,_,rfl,_,_,rfl,rfl,hp,?_⟩;refine⟨_,rfl,?_⟩;refine⟨_,rfl,?_⟩;have h1:=Int.emod_nonneg x (Int.ne_of_gt hp);have h2:=Cj x hp;exact⟨(x%y).natAbs,by omega,y,x%y,_,rfl,rfl,hy,h1,rfl,by rw[oQ hx hp];exact hg⟩
   ·refine⟨_,rfl,?_⟩;have e:(y:Int)=0:=h0;subst e
    have e2:(x:Int)=((Nat.gcd a.natAbs b.natAbs:Nat):Int):=by rw[<- hg];show x=((Nat.gcd x.natAbs 0:Nat):Int);rw[Nat.gcd_zero_right];omega
    rw[e2];exact k
noncomputable def cL(t b:Int):List (Str×V):=bf "bottom" (.int b) (bf "top" (.int t) [])
theorem qU:¬(("top":Str)="bottom"):=by decide +kernel
theorem kv(t b:Int):(cL t b).lookup ("bottom":Str)=some (.int b):=by unfold cL;rw[bP,if_pos rfl]
theorem ku(t b:Int):(cL t b).lookup ("top":Str)=some (.int t):=by unfold cL;rw[bP,if_neg qU,bP,if_pos rfl]
theorem fF(t b:Int){m:Str}(h1:¬m="bottom")(h2:¬m="top"):(cL t b).lookup m=none:=by unfold cL;rw[bP,if_neg h1,bP,if_neg h2];rfl
structure RCI(K:PySem.W.Frag)(mg:Str->Option Value)(C:Addr):Prop where
 cl:Cls K C
 nT:NoAttr K C "top"
 nB:NoAttr K C "bottom"
 mg:mg "Ratio"=some (.ref C)
 ha:PySem.W.findIn K (.ref C) "__class__"=some (some (.builtin "object.__class__"))
 hn:PySem.W.specialIn K (.builtin "object.__class__") "__get__"=some (some (.builtin "getset_descriptor.__get__"))
 ht:PySem.W.takesIn K (.builtin "object.__class__")=some true
 hm:PySem.W.mroIn K C (.type "object")=some true
def RA(C:Addr)(H:Hp)(p:Addr)(t b:Int):Prop:=∃dx,H p=some (.ins C dx (cL t b))
theorem RA.same{C:Addr}{H H':Hp}{p:Addr}{t b:Int}(h:RA C H p t b)(s:Same H H'):RA C H' p t b:=let⟨dx,e⟩:=h;⟨dx,s _ _ e⟩
def dh(C:Addr):Sp:=λvs H Q _=>∃(p dx:Addr) (t b:Int),vs=[.ref p,.int t,.int b]/\H p=some (.ins C dx [])/\b≠0/\Bits 9000 b/\Q .non (upd H p (.ins C dx (cL (rt t b) (rb t b))))
theorem eD{C:Addr}{H1:Hp}{q:Addr->Hp->Prop}{E:XK}{t b:Int}(hb:b≠0)(bb:Bits 9000 b)(h:∀(x:Addr) (H':Hp),Same H1 H'->H1 x=none->RA C H' x (rt t b) (rb t b)->q x H'):∀x dx:Addr,H1 x=none->H1 dx=none->dx≠x->dh C (.ref x::([.int t,.int b]++[])) (upd (upd H1 dx (.own x)) x (.ins C dx [])) (λv H2=>v=.non/\q x H2) E:=λx dx nx ndx ne=>by
 refine⟨x,dx,t,b,rfl,ah,hb,bb,rfl,?_⟩;rw[fZ]
 have s0:Same H1 (upd (upd H1 dx (.own x)) x (.ins C dx (cL (rt t b) (rb t b)))):=λc o e=>by rw[upd_ne (aH e nx),upd_ne (aH e ndx)];exact e
 exact h x _ s0 nx ⟨dx,ah⟩
theorem pr{t b:Int}(hb:b≠0)(bb:Bits 9000 b):Bits 9000 (dv t b):=bb.of_le (by rw[fG];exact Nat.le_of_dvd (BZ.mpr hb) (B0 _ _))
theorem vb(F:FunD K "__init__" "Ratio.__init__" dW dV f fd)(T:Txt K mg)(R:RCI K mg C)(zj:Cal P w K mg base 1 "shared_by_two" ["one","other"] sp2 Az zT):FnOk P w K mg base CX0 2 f fd ["self","top","bottom"] (dh C):=by
 obtain⟨yS,vR,wC,yo⟩:=zj;refine F.ok sc_Ratio___init__ (λvs H Q E h=>?_) (λcdv A outer s H vs Q E hr h=>?_)
 ·obtain⟨p,dx,t,b,rfl,_⟩:=h;rfl
 ·obtain⟨p,dx,t,b,rfl,hp,hb,bb,k⟩:=h
  refine⟨_,(ae (aN (aF bz (pv 2) ab (au _))
   (ak ng)
   aM)
   (ae (ai (i:=3) sc_Ratio___init__.nd rfl (Or.inl rfl) (am yS (hr.mono) rfl vR wC yo .nil aj (aa (pv 1) (aa (pv 2) ac))))
   (ae (aN (aF cH (pv 2) ab (au _))
     (ak (ai (i:=3) sc_Ratio___init__.nd rfl (Or.inl rfl) (bF bC (pv 3))))
     aM)
   (ae (fh (pv 0) (ad nt (pv 1) (pv 3)) rfl)
   (ak (fh (pv 0) (ad nt (pv 2) (pv 3)) rfl)))))),?_⟩
  refine bh ⟨_,rfl,_,_,rfl,rfl,_,rfl,aD (λh=>absurd h hb) (λ_=>?_)⟩;refine ao ⟨_,rfl,_,rfl,t,b,rfl,?_⟩;refine cn (λσ' H'=>H=H'/\σ'=[some (.ref p),some (.int t),some (.int b),some (.int (dv t b))]) ?_ ?_
  ·rintro σ' H' ⟨rfl,rfl⟩;refine⟨_,rfl,_,rfl,_,_,rfl,rfl,⟨g7 hb,pr hb bb⟩,_,rfl,p,C,dx,_,rfl,hp,R.cl,R.nT,by show 0<1000;decide,?_⟩;refine⟨_,rfl,_,rfl,_,_,rfl,rfl,⟨g7 hb,pr hb bb⟩,_,rfl,p,C,dx,_,rfl,ah,R.cl,R.nB,by show 1<1000;decide,?_⟩;show Q .non (upd (upd H p _) p _);rw[fZ];exact k
  ·intro rest;refine⟨_,rfl,_,_,rfl,rfl,_,rfl,?_⟩;refine aD (λh=>?_) (λh=>?_)
   ·refine⟨_,rfl,_,rfl,rest _ _ ⟨rfl,?_⟩⟩;have e:dv t b = -((Nat.gcd t.natAbs b.natAbs:Nat):Int):=by unfold dv;rw[if_pos h]
    rw[e];rfl
   ·refine rest _ _ ⟨rfl,?_⟩;have e:dv t b=((Nat.gcd t.natAbs b.natAbs:Nat):Int):=by unfold dv;rw[if_neg h]
    rw[e];rfl
def gd:Sp:=λvs H Q _=>∃x:Int,vs=[.int x]/\Q (.int (sg x)) H
theorem uh(F:Fun K "whole_sign" "whole_sign" iL f fd)(T:Txt K mg):FnOk P w K mg base CX0 1 f fd ["value"] gd:=by
 refine F.ok rP (λvs H Q E h=>?_) (λcdv A outer s H vs Q E hr h=>?_)
 ·obtain⟨x,rfl,_⟩:=h;rfl
 ·obtain⟨x,rfl,k⟩:=h
  refine⟨_,(ae (aN (aF cH (pv 0) ab (au _))
   (ak (ar (bF bC ab)))
   aM)
   (ae (aN (aF cq (pv 0) ab (au _))
     (ak (ar ab))
     aM)
   (ak (ar ab)))),?_⟩
  refine bh ⟨_,rfl,_,_,rfl,rfl,_,rfl,aD (λh=>?_) (λh=>?_)⟩
  ·have e:sg x = -1:=by unfold sg;rw[if_pos h]
   rw[e]at k;exact⟨_,rfl,k⟩
  refine bh ⟨_,rfl,_,_,rfl,rfl,_,rfl,aD (λh'=>?_) (λh'=>?_)⟩
  ·have e:sg x=1:=by unfold sg;rw[if_neg h,if_pos h']
   rw[e]at k;exact k
  ·have e:sg x=0:=by unfold sg;rw[if_neg h,if_neg h']
   rw[e]at k;exact k
def gm(C:Addr):Sp:=λvs H Q _=>∃(p q:Addr) (t b u d:Int),vs=[.ref p,.ref q]/\RA C H p t b/\RA C H q u d/\Bits 100000 t/\Bits 100000 b/\Bits 100000 u/\Bits 100000 d/\Q (.int (sg (t*d-u*b))) H
theorem va(F:Fun K "against" "Ratio.against" jv f fd)(T:Txt K mg)(R:RCI K mg C)(fS:Cal P w K mg base 1 "whole_sign" ["value"] gd o5 o0):FnOk P w K mg base CX0 2 f fd ["self","other"] (gm C):=by
 obtain⟨fO,fv,fz,fK⟩:=fS;refine F.ok sd (λvs H Q E h=>?_) (λcdv A outer s H vs Q E hr h=>?_)
 ·obtain⟨p,q,t,b,u,d,rfl,_⟩:=h;rfl
 ·obtain⟨p,q,t,b,u,d,rfl,⟨dx,hp⟩,⟨dy,hq⟩,bt,bb,bu,bd,k⟩:=h;refine⟨_,(ak (ar (am fO (hr.mono) rfl fv fz fK .nil aj (aa (ad aO (ad aw (cp (K:=K) rfl (pv 0) rfl) (cp (K:=K) rfl (pv 1) rfl)) (ad aw (cp (K:=K) rfl (pv 1) rfl) (cp (K:=K) rfl (pv 0) rfl))) ac)))),?_⟩;refine⟨_,rfl,p,C,dx,_,_,rfl,hp,R.cl,R.nT,ku _ _,_,rfl,q,C,dy,_,_,rfl,hq,R.cl,R.nB,kv _ _,_,_,rfl,rfl,⟨bt.mono,bd.mono⟩,?_⟩;exact⟨_,rfl,q,C,dy,_,_,rfl,hq,R.cl,R.nT,ku _ _,_,rfl,p,C,dx,_,_,rfl,hp,R.cl,R.nB,kv _ _,_,_,rfl,rfl,⟨bu.mono,bb.mono⟩,_,_,rfl,rfl,_,rfl,k⟩
theorem ur(F:Fun K "poly" "poly" iT f fd)(T:Txt K mg):FnOk P w K mg base CX0 1 f fd ["row"] (lU K):=by
 refine F.ok sc_poly (λvs H Q E h=>?_) (λcdv A outer s H vs Q E hr h=>?_)
 ·obtain⟨a,ns,rfl,_⟩:=h;rfl
 ·obtain⟨a,ns,rfl,hS,k⟩:=h
  refine⟨_,(ae (ai (i:=1) sc_poly.nd rfl (Or.inl rfl) (bg (bZ (K:=K) rfl) (by rfl) T.len_ PySem.boot_len (aa (pv 0) ac)))
   (ae (fg PassesOwn.never (PW.pt (cE (aF cq (pv 1) ab (au _)) (cZ (aF bz (af (aA (K:=K) rfl) (pv 0) (ad aO (pv 1) ab) (λ_ _=>rfl)) ab (au _)))))
     (ak (ai (i:=1) sc_poly.nd rfl (Or.inl rfl) (ad aO (pv 1) ab))))
   (ak (ar (gD (iG (K:=K) rfl) (pv 0) gA (gz (pv 1))))))),?_⟩
  refine⟨_,rfl,a,_,rfl,.inl hS,?_⟩;refine⟨λm σ' H'=>∃n:Nat,n<=ns.length/\σ'=[some (.ref a),some (.int n)]/\H=H'/\n=m/\trim (ns.take n)=trim ns,⟨_,ns.length,A5 _,?_,rfl,rfl,?_⟩,?_⟩
  ·rw[A4];rfl
  ·rw[BC]
  ·rintro m σ' H' ⟨n,hn,rfl,rfl,rfl,ht⟩
   have fin:trim (ns.take n)=ns.take n->∃v,([some (V.ref a),some (V.int n)]:St)[0]?=some (some v)/\∃v_1,([some (V.ref a),some (V.int n)]:St)[1]?=some (some v_1)/\∃i,v_1=V.int i/\jC K v none (some i) H Q:=λh=>by
    refine⟨_,rfl,_,rfl,n,rfl,a,_,rfl,hS,λp hp=>k p _ (Same.upd_new hp) hp ?_⟩;rw[ah,<- ht,h]
    have e:cy (ns.map V.int) none (some (n:Int))=(ns.take n).map V.int:=by unfold cy;rw[HT.sIx_none,HT.sIx_nat,List.drop_zero,B1,A4,Nat.min_eq_left hn,List.map_take]
    rw[e]
   refine⟨_,rfl,_,_,rfl,rfl,_,rfl,?_⟩;refine aD (λhp=>?_) (λhp=>?_)
   ·obtain⟨j,rfl⟩:∃j,n=j+1:=⟨n-1,by have:(0:Int)<n:=hp;omega⟩;have hj:j<ns.length:=hn;refine⟨_,rfl,_,rfl,_,_,rfl,rfl,a,_,j,.int (cf ns j),rfl,?_,hS,eT ?_,_,_,rfl,rfl,_,rfl,?_⟩
    ·show V.int (((j+1:Nat):Int)-1)=V.int j
     congr 1;omega
    ·rw[List.getElem?_map,de hj];rfl
    refine aD (λh0=>?_) (λh0=>?_)
    ·refine⟨λσ'' H''=>∃m',m'<j+1/\∃n:Nat,n<=ns.length/\σ''=[some (.ref a),some (.int n)]/\H=H''/\n=m'/\trim (ns.take n)=trim ns,λ_ _ h=>h,?_⟩;refine⟨_,rfl,_,_,rfl,rfl,j,BL _,j,BE hj,?_,rfl,rfl,?_⟩
     ·show[some (V.ref a),some (V.int (((j+1:Nat):Int)-1))]=[some (V.ref a),some (V.int j)]
      congr 4;omega
     ·rw[<- ht,qN hj h0]
    ·exact fin (qO hj h0)
   ·obtain rfl:n=0:=by have:¬(0:Int)<n:=hp;omega
    exact fin (by rw[List.take_zero];rfl)
def iD:Sp:=λvs H Q _=>∃(a:Addr) (xs:List V),vs=[.ref a]/\H a=some (.lst xs)/\Q (.int ((xs.length:Int)-1)) H
theorem uy(F:Fun K "degree" "degree" iZ f fd)(T:Txt K mg):FnOk P w K mg base CX0 1 f fd ["row"] iD:=by
 refine F.ok rX (λvs H Q E h=>?_) (λcdv A outer s H vs Q E hr h=>?_)
 ·obtain⟨a,xs,rfl,_⟩:=h;rfl
 ·obtain⟨a,xs,rfl,hA,k⟩:=h;refine⟨_,(ak (ar (ad aO (bg (bZ (K:=K) rfl) (by rfl) T.len_ PySem.boot_len (aa (pv 0) ac)) ab))),?_⟩;exact⟨_,rfl,a,_,rfl,.inl (SqL.of hA),_,_,rfl,rfl,k⟩
def mf:Sp:=λvs H Q _=>∃(a:Addr) (xs:List Int) (c:Int),vs=[.ref a,.int c]/\H a=some (.lst (xs.map V.int))/\xs.length<=1000000/\Bits 1000000 c/\AllB 1000000 xs/\mkL H Q (scL c xs)
theorem uq(F:Fun K "scaled" "scaled" iS f fd)(T:Txt K mg):FnOk P w K mg base CX0 1 f fd ["row","factor"] mf:=by
 refine F.ok rT (λvs H Q E h=>?_) (λcdv A outer s H vs Q E hr h=>?_)
 ·obtain⟨a,xs,c,rfl,_⟩:=h;rfl
 ·obtain⟨a,xs,c,rfl,hA,hn,bc,bx,k⟩:=h;have big:=sizeLine_eq;refine⟨_,(ak (ar (gE (own:=["value"]) (fr:=["factor"]) (js:=[1]) (by walk_at "comp_ok") rfl (di (K:=K) rfl (pv 0)) (λ_ _ _ _=>(aV (i:=0) (show List.Nodup (["value","factor"]:List Str)from by decide +kernel) rfl (Or.inl rfl))) (λ_ _ _ _=>(ad aw (pv 1) (pv 0)))))),?_⟩;refine aK ⟨_,rfl,a,rfl,⟨_,SqL.of hA⟩,kK (K:=K) (a:=a) (xs:=xs.map V.int) (λi ys σ' H'=>∃(z0:Option V),σ'=[z0,some (.int c)]/\ys=(scL c (xs.take i)).map V.int/\H=H') (by rw[A4];omega) ⟨none,rfl,rfl,rfl⟩ ?_ ?_ ?_⟩
  ·rintro i ys σ' H' _ ⟨z0,rfl,rfl,rfl⟩;exact⟨SqL.of hA,by rw[A4,bQ,Bz];exact Nat.min_le_left _ _⟩
  ·rintro i x ys σ' H' hi ⟨z0,rfl,rfl,rfl⟩;obtain⟨y,_,rfl,hm,et⟩:=fE hi;refine⟨_,rfl,_,rfl,_,_,rfl,rfl,⟨bc,bx y hm⟩,_,rfl,?_,rfl⟩;rw[et];simp[scL]
  ·rintro ys σ' H' p ⟨z0,rfl,rfl,rfl⟩ hp;refine k p _ (Same.upd_new hp) hp ?_;rw[ah,A4,BC]
theorem pI(ms:List Int):hG ms none (some (-1))=ms.take (ms.length-1):=by
 unfold hG;rw[HT.sIx_none,List.drop_zero,B1]
 congr 1
 show(if(-1:Int)<0 then((-1:Int)+(ms.length:Int)).toNat else min (-1:Int).toNat ms.length)=_;rw[if_pos (by decide)];omega
theorem pS{ms:List Int}{n k:Nat}:cf (ms.take n) k=if k<n then cf ms k else 0:=by
 unfold cf;by_cases h:k<n
 ·rw[if_pos h];simp[List.getD,List.getElem?_take,h]
 ·rw[if_neg h];simp[List.getD,List.getElem?_take,h]
def mr:Sp:=λvs H Q _=>∃(a b:Addr) (rs ys:List Int) (p:Nat) (l:Int),vs=[.ref a,.ref b,.int p,.int l]/\H a=some (.lst (rs.map V.int))/\H b=some (.lst (ys.map V.int))/\rs.length=p+ys.length/\ys≠[]/\Bits 1000000 l/\AllB 1000000 ys/\mkL H Q (dz rs ys p l)
theorem ut(F:Fun K "lowered" "lowered" iU f fd)(T:Txt K mg):FnOk P w K mg base CX0 1 f fd ["row","second","place","lead"] mr:=by
 refine F.ok sc_lowered (λvs H Q E h=>?_) (λcdv A outer s H vs Q E hr h=>?_)
 ·obtain⟨a,b,rs,ys,p,l,rfl,_⟩:=h;rfl
 ·obtain⟨a,b,rs,ys,p,l,rfl,hA,hB,hl,hy,bl,by',k⟩:=h;have hyl:=A9.mpr hy
  refine⟨_,(ae (ai (i:=4) sc_lowered.nd rfl (Or.inl rfl) (gD (iG (K:=K) rfl) (pv 0) gA (gz (bF bC ab))))
   (ae (bD PassesOwn.never rfl (jL rfl T.enumerate_ (aa (gD (iG (K:=K) rfl) (pv 1) gA (gz (bF bC ab))) ac)) (jN rfl (eo (aV (i:=5) sc_lowered.nd rfl (Or.inl rfl)) (eo (aV (i:=6) sc_lowered.nd rfl (Or.inl rfl)) jM)))
     (ak (jH (ad aO (af (aA (K:=K) rfl) (pv 4) (ad aW (pv 2) (pv 5)) (λ_ _=>rfl)) (ad aw (pv 3) (pv 6))) (jO (pv 4) (ad aW (pv 2) (pv 5)) iJ))))
   (ak (ar (pv 4))))),?_⟩
  refine ao ⟨_,rfl,_,rfl,_,rfl,a,_,rfl,SqL.of hA,λkp hkp=>?_⟩;rw[pG,pI];have s1:=Same.upd_new (o:=.lst ((rs.take (rs.length-1)).map V.int)) hkp;have nkb:b≠kp:=aH hB hkp;refine⟨_,rfl,_,rfl,_,rfl,b,_,rfl,SqL.of (s1 _ _ hB),λp2 hp2=>?_⟩;rw[pG,pI];have n2:kp≠p2:=aH ah hp2;generalize hH2:upd (upd H kp (.lst ((rs.take (rs.length-1)).map V.int))) p2 (.lst ((ys.take (ys.length-1)).map V.int))=H2;have hk2:H2 kp=some (.lst ((rs.take (rs.length-1)).map V.int)):=by rw[<- hH2,upd_ne n2,ah]
  have hq2:H2 p2=some (.lst ((ys.take (ys.length-1)).map V.int)):=by rw[<- hH2,ah]
  have s2:Same H H2:=by rw[<- hH2];exact s1.then_new hp2
  have lt:(rs.take (rs.length-1)).length=rs.length-1:=by rw[Bz];omega
  have lty:(ys.take (ys.length-1)).length=ys.length-1:=by rw[Bz];omega
  refine⟨p2,rfl,⟨_,SqL.of hq2⟩,kr (K:=K) (a:=p2) (xs:=(ys.take (ys.length-1)).map V.int) (λi σ' H'=>∃(acc:List Int) (z5 z6:Option V),σ'=[some (.ref a),some (.ref b),some (.int p),some (.int l),some (.ref kp),z5,z6]/\SameB kp H2 H'/\H' kp=some (.lst (acc.map V.int))/\acc.length=rs.length-1/\∀n,n<acc.length->cf acc n=cf rs n-(if p<=n/\n-p<i then l*cf ys (n-p)else 0))
   ⟨_,none,none,rfl,SameB.refl _ _,hk2,lt,λn hn=>by rw[pS,if_pos (by omega),if_neg (by omega)];omega⟩ ?_ ?_ ?_⟩
  ·rintro i σ' H' _ ⟨acc,z5,z6,rfl,sb,_⟩;exact SqL.of (sb _ _ (Ne.symm n2) hq2)
  ·rintro i x σ' H' q hi ⟨acc,z5,z6,rfl,sb,hpa,hal,hac⟩ hq
   have hil:i<ys.length-1:=by apply Classical.byContradiction;intro hn;rw[List.getElem?_eq_none_iff.mpr (by rw[A4,lty];omega)]at hi;cases hi
   rw[List.getElem?_map,de (by rw[lty];exact hil),pS,if_pos hil]at hi;obtain rfl:=Option.some.inj hi;refine⟨q,_,rfl,SqT.of ah,rfl,_,_,rfl,_,_,rfl,rfl,?_⟩;have nqp:kp≠q:=aH hpa hq;have hpa':upd H' q (.tup [.int i,.int (cf ys i)]) kp=some (.lst (acc.map V.int)):=by rw[upd_ne nqp];exact hpa
   have hpi:p+i<acc.length:=by omega
   have epi:((p:Nat):Int)+((i:Nat):Int)=((p+i:Nat):Int):=by omega
   refine⟨_,rfl,_,rfl,_,rfl,_,_,rfl,rfl,kp,_,_,_,rfl,rfl,SqL.of hpa',qk epi hpi,_,rfl,_,rfl,_,_,rfl,rfl,⟨bl,by'.cf i⟩,_,_,rfl,rfl,_,rfl,_,rfl,_,rfl,_,_,rfl,rfl,kp,_,_,p+i,rfl,rfl,hpa',kh epi (by rw[A4];exact hpi),?_⟩;refine⟨acc.set (p+i) (cf acc (p+i)-l*cf ys i),_,_,rfl,(sb.then_new hq).then_upd,by rw[ah,jZ],by rw[BW];exact hal,λn hn=>?_⟩;rw[BW]at hn;rw[kO hpi];by_cases e:n=p+i
   ·subst e;rw[if_pos rfl,hac _ hpi,if_neg (by omega),if_pos (by omega),Nat.add_sub_cancel_left];omega
   ·rw[if_neg e,hac n hn];by_cases h1:p<=n/\n-p<i
    ·rw[if_pos h1,if_pos (by omega)]
    ·rw[if_neg h1,if_neg (by omega)]
  ·rintro σ' H' ⟨acc,z5,z6,rfl,sb,hpa,hal,hac⟩;rw[A4,lty]at hac;refine⟨_,rfl,k kp H' (λb' o e=>sb b' o (aH e hkp) (s2 b' o e)) hkp ?_⟩;rw[hpa]
   have e:acc=dz rs ys p l:=by
    apply cM
    ·rw[hal,oj]
    ·intro n hn;have hn':n<rs.length-1:=by omega
     rw[hac n hn,kQ,if_pos hn'];by_cases h1:p<=n
     ·have h2:p<=n/\n-p<ys.length-1:=⟨h1,by omega⟩;rw[if_pos h1,if_pos h2]
     ·have h2:¬(p<=n/\n-p<ys.length-1):=λz=>h1 z.1
      rw[if_neg h1,if_neg h2]
   rw[e]
theorem AllB.of_cf{k:Nat}{l:List Int}(h:∀n,Bits k (RM.cf l n)):AllB k l:=λx hx=>by
 obtain⟨i,hi,rfl⟩:=List.mem_iff_getElem.mp hx;have:=h i
 rwa [bT hi]at this
theorem qr{k:Nat}{x:Int}(h:Bits k x):Bits k ((x.natAbs:Nat):Int):=h.of_le (by rw[BR];exact A5 _)
theorem sg_bits{x:Int}:Bits 1 (sg x):=by show(sg x).natAbs<2^1;unfold sg;split<;>(try split)<;>decide
theorem iI{k:Nat}{x y:Int}(h:Bits k y):Bits k (sg x*y):=h.of_le (by
 rw[Bt];have h2:(sg x).natAbs<=1:=by unfold sg;split<;>(try split)<;>decide
 calc (sg x).natAbs*y.natAbs<=1*y.natAbs:=BT _ h2
  _=y.natAbs:=Nat.one_mul _)
theorem pz{xs ys:List Int}{b:Nat}(hx:AllB b xs)(hy:AllB b ys):∀i,AllB (b+i*(b+1)) (aG xs ys i).1/\AllB (b+i*(b+1)) (aG xs ys i).2
 |0=>by rw[Nat.zero_mul];exact⟨AllB.zeros,hx⟩
 |i+1=>by
  obtain⟨h1,h2⟩:=pz hx hy i;have e:b+(i+1)*(b+1)=b+i*(b+1)+b+1:=by rw[Nat.succ_mul];omega
  have hs:Bits b (((RM.cf ys (ys.length-1)).natAbs:Nat):Int):=qr (hy.cf _);rw[e];show AllB _ (ci ys (aG xs ys i) _).1/\AllB _ (ci ys (aG xs ys i) _).2;unfold ci;dsimp only
  constructor
  ·intro x hx;rcases List.mem_or_eq_of_mem_set hx with h |rfl
   ·obtain⟨y,hy',rfl⟩:=B2.mp h;have:=hs.mul (h1 y hy');exact this.mono (by omega)
   ·exact(iI (h2.cf _)).mono (by omega)
  ·refine AllB.of_cf λn=>?_
   rw[kQ];by_cases hn:n<(scL (((RM.cf ys (ys.length-1)).natAbs:Nat):Int) (aG xs ys i).2).length-1
   ·rw[if_pos hn,bw]
    have m1:Bits (b+i*(b+1)+b) ((((RM.cf ys (ys.length-1)).natAbs:Nat):Int)*RM.cf (aG xs ys i).2 n):=by have:=hs.mul (h2.cf n);rwa [Nat.add_comm]at this
    refine m1.sub ?_;by_cases hp:(xs.length+1-ys.length-1-i)<=n
    ·rw[if_pos hp];exact(iI (h2.cf _)).mul (hy.cf _)
    ·rw[if_neg hp];exact Bits.zero
   ·rw[if_neg hn];exact Bits.zero
theorem fJ{k:Nat}{b:Int}(h:Bits k b):∀n,Bits (k*n+1) (b^n)
 |0=>by show((b^0:Int)).natAbs<2^(k*0+1);rw[Int.pow_zero,Nat.mul_zero];decide
 |n+1=>by rw[Bv];have:=(fJ h n).mul h;exact this.mono (by rw[Nat.mul_succ];omega)
def vG(H:Hp)(Q:VK)(xs ys:List Int):Prop:=∀(t q r:Addr) (H':Hp),Same H H'->H t=none->H q=none->H r=none->q≠r->q≠t->r≠t->H' t=some (.tup [.int (bJ xs ys),.ref q,.ref r])->H' q=some (.lst ((bI xs ys).map V.int))->H' r=some (.lst ((aL xs ys).map V.int))->Q (.ref t) H'
def my:Sp:=λvs H Q _=>∃(a b:Addr) (xs ys:List Int) (n:Nat),vs=[.ref a,.ref b]/\H a=some (.lst (xs.map V.int))/\H b=some (.lst (ys.map V.int))/\ys≠[]/\AllB n xs/\AllB n ys/\(xs.length+2)*(n+1)<=1000000/\ys.length<=1000000/\vG H Q xs ys
theorem ii{l:List Int}(h:l≠[]):atI (l.map V.int) (-1)=some (.int (cf l (l.length-1))):=by
 obtain⟨r,x,rfl⟩:=(ck l).resolve_left h;have e:(r++[x]).length-1=r.length:=by simp
 rw[e,ia,Bw];exact ql _ _
theorem ux(F:Fun K "divided" "divided" iY f fd)(T:Txt K mg)(fS:Cal P w K mg base 1 "whole_sign" ["value"] gd o5 o0)(ll:Cal P w K mg base 1 "degree" ["row"] iD xN xF)(zk:Cal P w K mg base 1 "scaled" ["row","factor"] mf AA zU)(zm:Cal P w K mg base 1 "lowered" ["row","second","place","lead"] mr AC zW)(zl:Cal P w K mg base 1 "poly" ["row"] (lU K) AB zV):FnOk P w K mg base CX0 2 f fd ["first","second"] my:=by
 obtain⟨fO,fv,fz,fK⟩:=fS;obtain⟨ij,gL,gO,ie⟩:=ll;obtain⟨qw,nW,ow,p9⟩:=zk;obtain⟨yU,vT,wE,yq⟩:=zm;obtain⟨yT,vS,wD,yp⟩:=zl;refine F.ok sc_divided (λvs H Q E h=>?_) (λcdv A outer s H vs Q E hr h=>?_)
 ·obtain⟨a,b,xs,ys,n,rfl,_⟩:=h;rfl
 ·obtain⟨a,b,xs,ys,nb,rfl,hA,hB,hy,bx,by',hsz,hyn,k⟩:=h;have big:=sizeLine_eq;have hu:=hr.units;have hyl:=A9.mpr hy
  have hxl:xs.length<=1000000:=by have:=Nat.mul_le_mul_left (xs.length+2) (show 1<=nb+1 by omega);omega
  have bsz:∀i,i<=xs.length->nb+i*(nb+1)<=1000000:=λi hi=>by have h1:=BT (nb+1) hi;rw[Nat.add_mul]at hsz;omega
  have hnb:nb<=1000000:=by have:=bsz 0 (A8 _);omega
  refine⟨_,(ae (aN (aF (nu (K:=K) rfl hu) (pv 1) (aJ ac) (au _))
   (ak ng)
   aM)
   (ae (ai (i:=2) sc_divided.nd rfl (Or.inl rfl) (bg fI (by rfl) T.abs_ PyProof.Rows.boot_abs (aa (af (aA (K:=K) rfl) (pv 1) (bF bC ab) (λ_ _=>rfl)) ac)))
   (ae (ai (i:=3) sc_divided.nd rfl (Or.inl rfl) (am fO (hr.mono) rfl fv fz fK .nil aj (aa (af (aA (K:=K) rfl) (pv 1) (bF bC ab) (λ_ _=>rfl)) ac)))
   (ae (ai (i:=4) sc_divided.nd rfl (Or.inl rfl) (ad aW (ad aO (am ij (hr.mono) rfl gL gO ie .nil aj (aa (pv 0) ac)) (am ij (hr.mono) rfl gL gO ie .nil aj (aa (pv 1) ac))) ab))
   (ae (ai (i:=5) sc_divided.nd rfl (Or.inl rfl) ab)
   (ae (ai (i:=6) sc_divided.nd rfl (Or.inl rfl) (ad tO (aJ (aa ab ac)) (pv 4)))
   (ae (ai (i:=7) sc_divided.nd rfl (Or.inl rfl) (c6 (ib (K:=K) rfl) (by rfl) T.list_ PyProof.Rows.boot_list (aa (pv 0) ac)))
   (ae (bD PassesOwn.never rfl (tG rfl T.range_ (aa (ad aO (pv 4) ab) (aa (bF bC ab) (aa (bF bC ab) ac)))) (aV (i:=8) sc_divided.nd rfl (Or.inl rfl))
     (ae (ai (i:=9) sc_divided.nd rfl (Or.inl rfl) (ad aw (pv 3) (af (aA (K:=K) rfl) (pv 7) (bF bC ab) (λ_ _=>rfl))))
       (ae (ai (i:=5) sc_divided.nd rfl (Or.inl rfl) (ad aw (pv 5) (pv 2)))
       (ae (ai (i:=6) sc_divided.nd rfl (Or.inl rfl) (am qw (hr.mono) rfl nW ow p9 .nil aj (aa (pv 6) (aa (pv 2) ac))))
       (ae (jH (pv 9) (jO (pv 6) (pv 8) iJ))
       (ak (ai (i:=7) sc_divided.nd rfl (Or.inl rfl) (am yU (hr.mono) rfl vT wE yq .nil aj (aa (am qw (hr.mono) rfl nW ow p9 .nil aj (aa (pv 7) (aa (pv 2) ac))) (aa (pv 1) (aa (pv 8) (aa (pv 9) ac))))))))))))
   (ak (ar (aR (aa (pv 5) (aa (pv 6) (aa (am yT (hr.mono) rfl vS wD yp .nil aj (aa (pv 7) ac)) ac)))))))))))))),?_⟩
  refine bh ⟨_,rfl,A8 _,λp1 hp1=>?_⟩;have s1:Same H (upd H p1 (.lst [])):=Same.upd_new hp1;refine⟨b,p1,ys,[],rfl,rfl,SqL.of (s1 _ _ hB),SqL.of ah,_,rfl,aD (λh0=>absurd h0 hy) (λ_=>?_)⟩;generalize upd H p1 (.lst [])=H1 at s1 ⊢
  refine ao ⟨_,rfl,_,rfl,b,_,_,_,rfl,rfl,SqL.of (s1 _ _ hB),ii hy,_,rfl,?_⟩;rw[cO];refine ao ⟨_,rfl,_,rfl,b,_,_,_,rfl,rfl,SqL.of (s1 _ _ hB),ii hy,_,rfl,?_⟩;refine ao ⟨_,rfl,a,_,rfl,s1 _ _ hA,_,rfl,b,_,rfl,s1 _ _ hB,_,_,rfl,rfl,_,_,rfl,rfl,?_⟩;dsimp only
  rw[A4,A4];have est:((xs.length:Int)-1-((ys.length:Int)-1)+1).toNat=aY xs ys:=by unfold aY;omega
  generalize hst:((xs.length:Int)-1-((ys.length:Int)-1)+1)=st at est ⊢
  refine ao ?_;refine ao ⟨by show 1<=sizeLine;decide,λp2 hp2=>⟨_,rfl,p2,_,_,rfl,rfl,ah,by omega,by omega,by show 1*_<=_;omega,λq hq=>?_⟩⟩;rw[est,sx];have s2:=s1.then_new (o:=.lst [V.int 0]) hp2;have s3:=s2.then_new (o:=.lst ((List.replicate (aY xs ys) (0:Int)).map V.int)) hq;have fq:H q=none:=s2.free hq;refine ao ⟨_,rfl,a,_,rfl,.inl (SqL.of (s3 _ _ hA)),λr hr'=>?_⟩;have hq3:upd (upd H1 p2 (.lst [V.int 0])) q (.lst ((List.replicate (aY xs ys) (0:Int)).map V.int)) q=some (.lst ((List.replicate (aY xs ys) (0:Int)).map V.int)):=ah;have s4:=s3.then_new (o:=.lst (xs.map V.int)) hr';have fr:H r=none:=s3.free hr';have nqr:q≠r:=aH hq3 hr';generalize hH4:upd (upd (upd H1 p2 (.lst [V.int 0])) q (.lst ((List.replicate (aY xs ys) (0:Int)).map V.int))) r (.lst (xs.map V.int))=H4 at s4 ⊢
  have hq4:H4 q=some (.lst ((List.replicate (aY xs ys) (0:Int)).map V.int)):=by rw[<- hH4,upd_ne nqr];exact hq3
  have hr4:H4 r=some (.lst (xs.map V.int)):=by rw[<- hH4,ah]
  have hs:Bits nb (((cf ys (ys.length-1)).natAbs:Nat):Int):=qr (by'.cf _);refine⟨_,rfl,_,_,rfl,rfl,_,rfl,_,rfl,st-1,-1,rfl,by omega,?_⟩;have en:(st-1 - -1).toNat=aY xs ys:=by rw[<- est];congr 1;omega
  rw[en]
  refine xA (λi σ' H'=>∃(q r:Addr) (z8 z9:Option V),σ'=[some (.ref a),some (.ref b),some (.int ((cf ys (ys.length-1)).natAbs:Nat)),some (.int (sg (cf ys (ys.length-1)))),some (.int st),some (.int (((cf ys (ys.length-1)).natAbs:Int)^i)),some (.ref q),some (.ref r),z8,z9]/\Same H H'/\H q=none/\H r=none/\q≠r/\H' q=some (.lst ((aG xs ys i).1.map V.int))/\H' r=some (.lst ((aG xs ys i).2.map V.int)))
   ⟨q,r,none,none,rfl,s4,fq,fr,nqr,hq4,hr4⟩ ?_ ?_
  ·rintro i σ' H' hi ⟨q,r,z8,z9,rfl,sm,fq,fr,nqr,hq',hr'⟩;obtain⟨lq,lr,low,_⟩:=fH (a:=xs) hy i (BE hi);obtain⟨bq,br⟩:=pz bx by' i;have hix:i<xs.length:=by unfold aY at hi;omega
   have bi:=bsz i (BE hix);have rne:(aG xs ys i).2≠[]:=λz=>by rw[z]at lr;simp at lr;omega
   have ep:st-1+(i:Int) * -1=((xs.length+1-ys.length-1-i:Nat):Int):=by unfold aY at hi est;omega
   refine ao ⟨_,rfl,_,rfl,_,rfl,r,_,_,_,rfl,rfl,SqL.of hr',ii rne,_,_,rfl,rfl,⟨sg_bits.mono,(br.cf _).mono bi⟩,?_⟩
   have bpow:Bits 1000000 (((cf ys (ys.length-1)).natAbs:Int)^i):=(fJ hs i).mono (by
    have:=BT i (show nb<=nb+1 by omega);rw[Nat.mul_comm (nb+1) i]at this;have h2:=bsz (i+1) hix;rw[Nat.succ_mul]at h2
    omega)
   refine ao ⟨_,rfl,_,rfl,_,_,rfl,rfl,⟨bpow,hs.mono hnb⟩,?_⟩;dsimp only
   rw[<- Bv];refine ao ⟨_,rfl,_,rfl,q,_,_,rfl,hq',by rw[lq];omega,hs.mono hnb,bq.mono bi,λq1 H2 sm2 hq1 eq1=>?_⟩;have fq1:H q1=none:=sm.free hq1;have sm2':=sm.trans sm2;have hpl:xs.length+1-ys.length-1-i<(scL ((cf ys (ys.length-1)).natAbs:Int) (aG xs ys i).1).length:=by rw[bQ,lq];unfold aY at hi;omega
   refine⟨_,rfl,_,rfl,_,rfl,q1,_,_,_,rfl,rfl,eq1,kh ep (by rw[A4];exact hpl),?_⟩;rw[jZ];have sm3:Same H (upd H2 q1 (.lst (((scL ((cf ys (ys.length-1)).natAbs:Int) (aG xs ys i).1).set (xs.length+1-ys.length-1-i) (sg (cf ys (ys.length-1))*cf (aG xs ys i).2 ((aG xs ys i).2.length-1))).map V.int))):=cu sm2' fq1;have nq1r:q1≠r:=λz=>by rw[z,hr']at hq1;cases hq1
   have hr3:upd H2 q1 (.lst (((scL ((cf ys (ys.length-1)).natAbs:Int) (aG xs ys i).1).set (xs.length+1-ys.length-1-i) (sg (cf ys (ys.length-1))*cf (aG xs ys i).2 ((aG xs ys i).2.length-1))).map V.int)) r=some (.lst ((aG xs ys i).2.map V.int)):=by rw[upd_ne (Ne.symm nq1r)];exact sm2 _ _ hr'
   have hq3:upd H2 q1 (.lst (((scL ((cf ys (ys.length-1)).natAbs:Int) (aG xs ys i).1).set (xs.length+1-ys.length-1-i) (sg (cf ys (ys.length-1))*cf (aG xs ys i).2 ((aG xs ys i).2.length-1))).map V.int)) q1=some (.lst (((scL ((cf ys (ys.length-1)).natAbs:Int) (aG xs ys i).1).set (xs.length+1-ys.length-1-i) (sg (cf ys (ys.length-1))*cf (aG xs ys i).2 ((aG xs ys i).2.length-1))).map V.int)):=ah;generalize upd H2 q1 (.lst (((scL ((cf ys (ys.length-1)).natAbs:Int) (aG xs ys i).1).set (xs.length+1-ys.length-1-i) (sg (cf ys (ys.length-1))*cf (aG xs ys i).2 ((aG xs ys i).2.length-1))).map V.int))=H3 at sm3 hr3 hq3 ⊢
   refine⟨_,rfl,_,rfl,r,_,_,rfl,hr3,by rw[lr];omega,hs.mono hnb,br.mono bi,λr1 H5 sm5 hr1 er1=>?_⟩;have sm35:=sm3.trans sm5;refine⟨_,rfl,_,rfl,_,rfl,r1,b,_,_,(xs.length+1-ys.length-1-i),sg (cf ys (ys.length-1))*cf (aG xs ys i).2 ((aG xs ys i).2.length-1),?_,er1,sm35 _ _ hB,?_,hy,(iI (br.cf _)).mono bi,by'.mono hnb,λr2 H6 sm6 hr2 er2=>?_⟩
   ·rw[<- ep];rfl
   ·rw[bQ,lr];unfold aY at hi;omega
   ·have nqr2:q1≠r2:=λz=>by rw[<- z,sm5 _ _ hq3]at hr2;cases hr2
    exact⟨q1,r2,_,_,rfl,sm35.trans sm6,fq1,sm35.free hr2,nqr2,sm6 _ _ (sm5 _ _ hq3),er2⟩
  ·rintro σ' H' ⟨q,r,z8,z9,rfl,sm,fq,fr,nqr,hq',hr'⟩;refine⟨_,rfl,_,rfl,_,rfl,r,_,rfl,SqL.of hr',λr1 H2 sm2 hr1 er1=>⟨by show 3<=sizeLine;decide,λt ht=>?_⟩⟩;have nqr1:q≠r1:=λz=>by rw[<- z,hq']at hr1;cases hr1
   have ntq:q≠t:=aH (sm2 _ _ hq') ht;have ntr:r1≠t:=aH er1 ht;refine k t q r1 _ ((sm.trans sm2).then_new ht) ((sm.trans sm2).free ht) fq (sm.free hr1) nqr1 ntq ntr ah ?_ ?_
   ·rw[upd_ne ntq];exact sm2 _ _ hq'
   ·rw[upd_ne ntr];exact er1
def Vp(C:Addr)(H:Hp)(vs:List V)(a r:Addr)(ns:List Int)(t b:Int):Prop:=vs=[.ref a,.ref r]/\H a=some (.lst (ns.map V.int))/\RA C H r t b/\ns.length<=20/\AllB 95000 ns/\Bits 3000 t/\Bits 3000 b
def VpI(H:Hp)(vs:List V)(a:Addr)(ns:List Int)(t b:Int):Prop:=vs=[.ref a,.int t,.int b]/\H a=some (.lst (ns.map V.int))/\ns.length<=20/\AllB 95000 ns/\Bits 3000 t/\Bits 3000 b
def lT:Sp:=λvs H Q _=>∃(a:Addr) (ns:List Int) (t b:Int),VpI H vs a ns t b/\∀(p:Addr) (H':Hp),Same H H'->H p=none->H' p=some (.tup [.int (hv t b ns),.int (b^ns.length)])->Q (.ref p) H'
theorem oP{t b:Int}(bt:Bits 3000 t)(bb:Bits 3000 b):∀{l:List Int},AllB 95000 l->Bits (95000+1+(3000+1)*l.length) (hv t b l)
 | [],_=>by refine Bits.mono (j:=1) ?_ (by omega);show(0:Int).natAbs<2^1;decide
 |v::l,h=>by
  rw[cv];have h1:=h v (Br ..);have h2:=oP bt bb (l:=l) λx hx=>h x (Bj _ hx)
  have e1:=(h1.mul (fJ bb (l.length+1))).mono (k:=95000+1+(3000+1)*l.length+3000) (by omega);have e2:=(bt.mul h2).mono (k:=95000+1+(3000+1)*l.length+3000) (by omega);exact(e1.add e2).mono (by rw[Bl];omega)
theorem ui(F:Fun K "value_parts" "value_parts" iM f fd)(T:Txt K mg):FnOk P w K mg base CX0 1 f fd ["row","top","bottom"] lT:=by
 refine F.ok sc_value_parts (λvs H Q E h=>?_) (λcdv A outer s H vs Q E hr h=>?_)
 ·obtain⟨a,ns,t,b,⟨rfl,_⟩,_⟩:=h;rfl
 ·obtain⟨a,ns,t,b,⟨rfl,hA,hn,hb,bt,bb⟩,k⟩:=h
  refine⟨_,(ae (ai (i:=3) sc_value_parts.nd rfl (Or.inl rfl) ab)
   (ae (ai (i:=4) sc_value_parts.nd rfl (Or.inl rfl) ab)
   (ae (bD PassesOwn.never rfl (tF rfl T.reversed_ (aa (pv 0) ac)) (aV (i:=5) sc_value_parts.nd rfl (Or.inl rfl))
     (ae (ai (i:=4) sc_value_parts.nd rfl (Or.inl rfl) (ad aw (pv 4) (pv 2)))
       (ak (ai (i:=3) sc_value_parts.nd rfl (Or.inl rfl) (ad aW (ad aw (pv 3) (pv 1)) (ad aw (pv 5) (pv 4)))))))
   (ak (ar (aR (aa (pv 3) (aa (pv 4) ac)))))))),?_⟩
  have hl:(ns.map V.int).length=ns.length:=A4 _;refine ao ?_;refine ao ?_;refine⟨_,rfl,a,_,rfl,SqL.of hA,xz (K:=K) (a:=a) (xs:=ns.map V.int) (λi σ' H'=>∃z:Option V,σ'=[some (.ref a),some (.int t),some (.int b),some (.int (hv t b (ns.drop (ns.length-i)))),some (.int (b^i)),z]/\H=H') ⟨none,?_,rfl⟩ ?_ ?_ ?_⟩
  ·rw[B1,List.drop_length,Int.pow_zero];rfl
  ·rintro i σ' H' _ ⟨z,rfl,rfl⟩;exact SqL.of hA
  ·rintro i x σ' H' hi hx ⟨z,rfl,rfl⟩;rw[hl]at hi hx;obtain⟨c,ec,rfl,hc,_⟩:=fE hx;have hi':i<ns.length:=hi;have e1:ns.length-(i+1)=ns.length-1-i:=by omega
   have hd:=xV t b (l:=ns) (n:=ns.length-1-i) (by omega);have e2:ns.length-1-i+1=ns.length-i:=by omega
   have e3:ns.length-(ns.length-1-i)=i+1:=by omega
   rw[e2,e3,yd ec]at hd;have bs:=oP bt bb (l:=ns.drop (ns.length-i)) λx hx=>hb x (List.mem_of_mem_drop hx)
   rw[List.length_drop]at bs;have bp:=fJ bb i;have bq:=fJ bb (i+1);refine⟨_,rfl,_,rfl,_,_,rfl,rfl,⟨bp.mono (by omega),bb.mono⟩,?_⟩;refine⟨_,rfl,_,rfl,_,_,rfl,rfl,⟨bs.mono (by omega),bt.mono⟩,_,rfl,_,rfl,_,_,rfl,rfl,⟨(hb c hc).mono,?_⟩,_,_,rfl,rfl,?_⟩
   ·show Bits 1000000 (b^i*b);rw[<- Bv];exact bq.mono (by omega)
   refine⟨some (.int c),?_,rfl⟩;rw[e1,hd,Bv b i,Int.add_comm,BA t];rfl
  ·rintro σ' H' ⟨z,rfl,rfl⟩;rw[hl,Nat.sub_self,List.drop_zero];exact⟨_,rfl,_,rfl,by show 2<=sizeLine;decide,λp hp=>k p _ (Same.upd_new hp) hp ah⟩
def mh(C:Addr):Sp:=λvs H Q _=>∃(a r:Addr) (ns:List Int) (t b:Int),Vp C H vs a r ns t b/\∀H',Same H H'->Q (.int (sg (hv t b ns))) H'
theorem uk(F:Fun K "sign_at" "sign_at" iO f fd)(T:Txt K mg)(R:RCI K mg C)(zf:Cal P w K mg base 1 "value_parts" ["row","top","bottom"] lT Av zP)(fS:Cal P w K mg base 1 "whole_sign" ["value"] gd o5 o0):FnOk P w K mg base CX0 2 f fd ["row","ratio"] (mh C):=by
 obtain⟨yQ,vP,wA,ym⟩:=zf;obtain⟨fO,fv,fz,fK⟩:=fS;refine F.ok rR (λvs H Q E h=>?_) (λcdv A outer s H vs Q E hr h=>?_)
 ·obtain⟨a,r,ns,t,b,⟨rfl,_⟩,_⟩:=h;rfl
 ·obtain⟨a,r,ns,t,b,hV,k⟩:=h;obtain⟨rfl,hA,⟨dx,hR⟩,hn,hbs,bt,bb⟩:=hV;refine⟨_,(ak (ar (am fO (hr.mono) rfl fv fz fK .nil aj (aa (af (al (K:=K) rfl) (am yQ (hr.mono) rfl vP wA ym .nil aj (aa (pv 0) (aa (cp (K:=K) rfl (pv 1) rfl) (aa (cp (K:=K) rfl (pv 1) rfl) ac)))) ab (λ_ _=>rfl)) ac)))),?_⟩;refine⟨_,rfl,_,rfl,r,C,dx,_,_,rfl,hR,R.cl,R.nT,ku _ _,_,rfl,r,C,dx,_,_,rfl,hR,R.cl,R.nB,kv _ _,a,ns,t,b,⟨rfl,hA,hn,hbs,bt,bb⟩,λp H1 s1 hp e1=>?_⟩;exact⟨p,_,_,_,rfl,rfl,SqT.of e1,rfl,_,rfl,k H1 s1⟩
theorem mK{i j:Nat}{a b:List Int}{n:Nat}(ha:AllB i a)(hb:AllB j b):∀m,Bits (i+j+m) (sm a b n m)
 |0=>Bits.zero
 |m+1=>by
  rw[sm];refine(mK ha hb m).add ?_;unfold tm;split
  ·exact((ha.cf m).mul (hb.cf _)).mono (by omega)
  ·exact Bits.zero
theorem gI{i j k:Nat}{a b:List Int}(ha:AllB i a)(hb:AllB j b)(hk:i+j+a.length<=k):AllB k (ag a b):=AllB.of_cf λn=>by rw[aC];exact(mK ha hb a.length).mono hk
theorem nQ(a b:List Int):(ag a b).length<=a.length+b.length:=by
 unfold ag;split
 ·exact A8 _
 ·rw[A4,BY];omega
theorem jY{c:Int}{l:List Int}(h:l≠[]):(ag [c] l).length=l.length:=by unfold ag;rw[if_neg (λz=>z.elim (λy=>nomatch y) h),A4,BY];show 1+l.length-1=l.length;omega
def iC:Sp:=λvs H Q _=>∃(a b:Addr) (xs ys:List Int) (n:Nat),vs=[.ref b,.ref a]/\H a=some (.lst (xs.map V.int))/\H b=some (.lst (ys.map V.int))/\ys≠[]/\AllB n xs/\AllB n ys/\(xs.length+2)*(n+1)<=1000000/\ys.length<=1000000/\∀H',Same H H'->Q (.bl (decide (aL xs ys=[]))) H'
theorem uw(F:Fun K "divides" "divides" iX f fd)(T:Txt K mg)(zo:Cal P w K mg base 2 "divided" ["first","second"] my AE zY):FnOk P w K mg base CX0 3 f fd ["divisor","row"] iC:=by
 obtain⟨yW,vV,wG,yt⟩:=zo;refine F.ok rW (λvs H Q E h=>?_) (λcdv A outer s H vs Q E hr h=>?_)
 ·obtain⟨a,b,xs,ys,n,rfl,_⟩:=h;rfl
 ·obtain⟨a,b,xs,ys,nb,rfl,hA,hB,hy,bx,by',hsz,hyn,k⟩:=h;have hu:=hr.units;refine⟨_,(ak (ar (bN (nu (K:=K) rfl hu) (af (al (K:=K) rfl) (am yW (hr.mono) rfl vV wG yt .nil aj (aa (pv 1) (aa (pv 0) ac))) ab (λ_ _=>rfl)) (aJ ac) (au _)))),?_⟩;refine aK ⟨_,rfl,_,rfl,a,b,xs,ys,nb,rfl,hA,hB,hy,bx,by',hsz,hyn,λt q r H1 sm1 ht hq hr' _ _ _ et eq er=>?_⟩;refine⟨t,_,_,_,rfl,rfl,SqT.of et,rfl,A8 _,λp hp=>?_⟩;exact⟨r,p,_,[],rfl,rfl,SqL.of (by rw[upd_ne (aH er hp)];exact er),SqL.of ah,k _ (sm1.then_new hp)⟩
structure NCI(K:PySem.W.Frag)(mg:Str->Option Value)(CN:Addr):Prop where
 cl:Cls K CN
 nP:NoAttr K CN "poly"
 nL:NoAttr K CN "low"
 nH:NoAttr K CN "high"
 mg:mg "Number"=some (.ref CN)
 ha:PySem.W.findIn K (.ref CN) "__class__"=some (some (.builtin "object.__class__"))
 hn:PySem.W.specialIn K (.builtin "object.__class__") "__get__"=some (some (.builtin "getset_descriptor.__get__"))
 ht:PySem.W.takesIn K (.builtin "object.__class__")=some true
 hm:PySem.W.mroIn K CN (.type "object")=some true
noncomputable def df(p l h:Addr):List (Str×V):=bf "high" (.ref h) (bf "low" (.ref l) (bf "poly" (.ref p) []))
theorem tI:¬(("poly":Str)="high"):=by decide +kernel
theorem tx:¬(("poly":Str)="low"):=by decide +kernel
theorem wj:¬(("low":Str)="high"):=by decide +kernel
theorem xC(p l h:Addr):(df p l h).lookup ("high":Str)=some (.ref h):=by unfold df;rw[bP,if_pos rfl]
theorem xB(p l h:Addr):(df p l h).lookup ("low":Str)=some (.ref l):=by unfold df;rw[bP,if_neg wj,bP,if_pos rfl]
theorem oY(p l h:Addr):(df p l h).lookup ("poly":Str)=some (.ref p):=by unfold df;rw[bP,if_neg tI,bP,if_neg tx,bP,if_pos rfl]
def NA(CN:Addr)(H:Hp)(x p l h:Addr):Prop:=∃dx,H x=some (.ins CN dx (df p l h))
theorem NA.same{CN:Addr}{H H':Hp}{x p l h:Addr}(n:NA CN H x p l h)(s:Same H H'):NA CN H' x p l h:=let⟨dx,e⟩:=n;⟨dx,s _ _ e⟩
def gi(CN:Addr):Sp:=λvs H Q _=>∃(x dx r l h:Addr) (ns:List V),vs=[.ref x,.ref r,.ref l,.ref h]/\H x=some (.ins CN dx [])/\H r=some (.lst ns)/\∀p,H p=none->Q .non (upd (upd H p (.lst ns)) x (.ins CN dx (df p l h)))
theorem vc(F:Fun K "__init__" "Number.__init__" jw f fd)(T:Txt K mg)(RN:NCI K mg CN):FnOk P w K mg base CX0 1 f fd ["self","row","low","high"] (gi CN):=by
 refine F.ok se (λvs H Q E h=>?_) (λcdv A outer s H vs Q E hr h=>?_)
 ·obtain⟨x,dx,r,l,h,ns,rfl,_⟩:=h;rfl
 ·obtain⟨x,dx,r,l,h,ns,rfl,hx,hR,k⟩:=h
  refine⟨_,(ae (fh (pv 0) (c6 (ib (K:=K) rfl) (by rfl) T.list_ PyProof.Rows.boot_list (aa (pv 1) ac)) rfl)
   (ae (fh (pv 0) (pv 2) rfl)
   (ak (fh (pv 0) (pv 3) rfl)))),?_⟩
  refine⟨_,rfl,r,_,rfl,.inl (SqL.of hR),λp hp=>?_⟩;have npx:x≠p:=aH hx hp;refine⟨_,rfl,x,CN,dx,_,rfl,by rw[upd_ne npx];exact hx,RN.cl,RN.nP,by show 0<1000;decide,?_⟩;refine⟨_,rfl,_,rfl,x,CN,dx,_,rfl,ah,RN.cl,RN.nL,by show 1<1000;decide,?_⟩;refine⟨_,rfl,_,rfl,x,CN,dx,_,rfl,ah,RN.cl,RN.nH,by show 2<1000;decide,?_⟩;show Q .non (upd (upd (upd (upd H p _) x _) x _) x _);rw[fZ,fZ];exact k p hp
theorem cr:(¬("against":Str)="bottom")/\¬("against":Str)="top":=⟨by decide +kernel,by decide +kernel⟩
theorem vO{CN:Addr}{H3:Hp}{q:Addr->Hp->Prop}{E:XK}{r l h:Addr}{ns:List V}(e3:H3 r=some (.lst ns))(k:∀(x p:Addr) (H':Hp),Same H3 H'->H3 x=none->NA CN H' x p l h->H' p=some (.lst ns)->H3 p=none->q x H'):∀x dx:Addr,H3 x=none->H3 dx=none->dx≠x->gi CN (.ref x::([.ref r,.ref l,.ref h]++[])) (upd (upd H3 dx (.own x)) x (.ins CN dx [])) (λv H2=>v=.non/\q x H2) E:=λx dx nx ndx ne=>by
 have npx:r≠x:=aH e3 nx;have npd:r≠dx:=aH e3 ndx;refine⟨x,dx,r,l,h,_,rfl,ah,by rw[upd_ne npx,upd_ne npd];exact e3,λq hq=>⟨rfl,?_⟩⟩;have nqx:q≠x:=λz=>by rw[z,ah]at hq;cases hq
 have nqd:q≠dx:=λz=>by rw[z,upd_ne ne,ah]at hq;cases hq
 have hq3:H3 q=none:=by rw[upd_ne nqx,upd_ne nqd]at hq;exact hq
 refine k x q _ (λc o ec=>?_) nx ⟨dx,ah⟩ (by rw[upd_ne nqx,ah]) hq3;have ncx:c≠x:=aH ec nx;have ncd:c≠dx:=aH ec ndx;have e4:upd (upd H3 dx (.own x)) x (.ins CN dx []) c=some o:=by rw[upd_ne ncx,upd_ne ncd];exact ec
 rw[upd_ne ncx,upd_ne (aH e4 hq)];exact e4
def Chg(ns:List Int)(x1 x2 y1 y2:Int):Prop:=x1*y2<y1*x2/\sg (hv x1 x2 ns)≠0/\sg (hv y1 y2 ns)≠sg (hv x1 x2 ns)
def iF(C:Addr):Sp:=λvs H Q _=>∃(a x y:Addr) (ns:List Int) (x1 x2 y1 y2:Int),vs=[.ref a,.ref x,.ref y]/\H a=some (.lst (ns.map V.int))/\RA C H x x1 x2/\RA C H y y1 y2/\0<x2/\0<y2/\ns.length<=20/\AllB 1000 ns/\Bits 1000 x1/\Bits 1000 x2/\Bits 1000 y1/\Bits 1000 y2/\∀(r:Bool) (H':Hp),Same H H'->(r=true↔Chg ns x1 x2 y1 y2)->Q (.bl r) H'
theorem fe(c:Int):(sg c<0↔c<0)/\(0<=sg c↔0<=c)/\(sg c<=0↔c<=0):=by unfold sg;split<;>(try split)<;>omega
theorem uz(F:Fun K "changes_on" "changes_on" i0 f fd)(T:Txt K mg)(R:RCI K mg C)(zg:Cal P w K mg base 2 "sign_at" ["row","ratio"] (mh C) Aw zQ)(fW:MCal P w K mg base 2 C "against" ["self","other"] (gm C) o9 o4):FnOk P w K mg base CX0 3 f fd ["polynomial","low","high"] (iF C):=by
 obtain⟨qu,nU,ot,p7⟩:=zg;obtain⟨dN,dr,dJ⟩:=fW;refine F.ok sc_changes_on (λvs H Q E h=>?_) (λcdv A outer s H vs Q E hr h=>?_)
 ·obtain⟨a,x,y,ns,x1,x2,y1,y2,rfl,_⟩:=h;rfl
 ·obtain⟨a,x,y,ns,x1,x2,y1,y2,rfl,hA,hx,hy,x2p,y2p,nl,nb,bx1,bx2,by1,by2,k⟩:=h;obtain⟨dx,hx'⟩:=id hx
  refine⟨_,(ae (ai (i:=3) sc_changes_on.nd rfl (Or.inl rfl) (am qu (hr.mono) rfl nU ot p7 .nil aj (aa (pv 0) (aa (pv 1) ac))))
   (ak (ar (eA (bN cH (fj (pv 1) R.cl dr dN (hr.mono) dJ .nil aj (aa (pv 2) ac)) ab (au _)) (eA (bN gF (pv 3) ab (au _)) (fi (bN gF (am qu (hr.mono) rfl nU ot p7 .nil aj (aa (pv 0) (aa (pv 2) ac))) (pv 3) (au _)))))))),?_⟩
  refine ao ⟨_,rfl,_,rfl,a,x,ns,x1,x2,⟨rfl,hA,hx,nl,nb.mono,bx1.mono,bx2.mono⟩,λH1 s1=>?_⟩;have hx1:=s1 _ _ hx';have s_lt:sg (x1*y2-y1*x2)<0↔x1*y2<y1*x2:=by rw[(fe _).1];omega
  refine aK (d0 ⟨_,rfl,x,dx,_,rfl,hx1,fF _ _ cr.1 cr.2,_,rfl,x,y,x1,x2,y1,y2,rfl,hx.same s1,hy.same s1,bx1.mono,bx2.mono,by1.mono,by2.mono,_,_,rfl,rfl,_,rfl,aD (λh1=>?_) (λh1=>?_)⟩)
  ·refine d0 ⟨_,rfl,_,_,rfl,rfl,_,rfl,dY (λh2=>?_) (λh2=>?_)⟩
   ·refine⟨_,rfl,_,rfl,a,y,ns,y1,y2,⟨rfl,s1 _ _ hA,hy.same s1,nl,nb.mono,by1.mono,by2.mono⟩,λH2 s2=>⟨_,rfl,_,_,rfl,rfl,k _ H2 (s1.trans s2) ?_⟩⟩;refine⟨λz=>⟨s_lt.mp h1,h2,λe=>?_⟩,λz=>?_⟩
    ·rw[decide_eq_true e]at z;cases z
    ·rw[decide_eq_false z.2.2];rfl
   ·exact k false H1 s1 ⟨λz=>Bool.noConfusion z,λz=>absurd h2 z.2.1⟩
  ·exact k false H1 s1 ⟨λz=>Bool.noConfusion z,λz=>absurd (s_lt.mpr z.1) h1⟩
def cj(l1 l2 h1 h2 x1 x2 y1 y2:Int):Prop:=l1*x2<=x1*l2/\y1*h2<=h1*y2
def gg(C CN:Addr):Sp:=λvs H Q _=>∃(o x y q l h:Addr) (l1 l2 h1 h2 x1 x2 y1 y2:Int),vs=[.ref o,.ref x,.ref y]/\NA CN H o q l h/\RA C H l l1 l2/\RA C H h h1 h2/\RA C H x x1 x2/\RA C H y y1 y2/\(∀c∈[l1,l2,h1,h2,x1,x2,y1,y2],Bits 1000 c)/\∀r:Bool,(r=true↔cj l1 l2 h1 h2 x1 x2 y1 y2)->Q (.bl r) H
theorem uu(F:Fun K "lies_in" "lies_in" iV f fd)(T:Txt K mg)(R:RCI K mg C)(RN:NCI K mg CN)(fW:MCal P w K mg base 2 C "against" ["self","other"] (gm C) o9 o4):FnOk P w K mg base CX0 3 f fd ["one","low","high"] (gg C CN):=by
 obtain⟨dN,dr,dJ⟩:=fW;refine F.ok rV (λvs H Q E h=>?_) (λcdv A outer s H vs Q E hr h=>?_)
 ·obtain⟨o,x,y,q,l,h,l1,l2,h1,h2,x1,x2,y1,y2,rfl,_⟩:=h;rfl
 ·obtain⟨o,x,y,q,l,h,l1,l2,h1,h2,x1,x2,y1,y2,rfl,⟨dO,hO⟩,hl,hh,hx,hy,hb,k⟩:=h;obtain⟨dx,hx'⟩:=id hx;obtain⟨dy,hy'⟩:=id hy;have b:∀{c:Int},c∈[l1,l2,h1,h2,x1,x2,y1,y2]->Bits 100000 c:=λh=>(hb _ h).mono
  refine⟨_,(ak (ar (eA (bN jP (fj (pv 1) R.cl dr dN (hr.mono) dJ .nil aj (aa (cp (K:=K) rfl (pv 0) rfl) ac)) ab (au _)) (fi (bN fk (fj (pv 2) R.cl dr dN (hr.mono) dJ .nil aj (aa (cp (K:=K) rfl (pv 0) rfl) ac)) ab (au _)))))),?_⟩;have g1:0<=sg (x1*l2-l1*x2)↔l1*x2<=x1*l2:=by rw[(fe _).2.1];omega
  have g2:sg (y1*h2-h1*y2)<=0↔y1*h2<=h1*y2:=by rw[(fe _).2.2];omega
  refine aK (d0 ⟨_,rfl,x,dx,_,rfl,hx',fF _ _ cr.1 cr.2,_,rfl,o,CN,dO,_,_,rfl,hO,RN.cl,RN.nL,xB _ _ _,x,l,x1,x2,l1,l2,rfl,hx,hl,b (by simp),b (by simp),b (by simp),b (by simp),_,_,rfl,rfl,_,rfl,aD (λz1=>?_) (λz1=>?_)⟩)
  ·refine⟨_,rfl,y,dy,_,rfl,hy',fF _ _ cr.1 cr.2,_,rfl,o,CN,dO,_,_,rfl,hO,RN.cl,RN.nH,xC _ _ _,y,h,y1,y2,h1,h2,rfl,hy,hh,b (by simp),b (by simp),b (by simp),b (by simp),_,_,rfl,rfl,k _ ?_⟩;rw[decide_eq_true_iff];exact⟨λz=>⟨g1.mp z1,g2.mp z⟩,λz=>g2.mpr z.2⟩
  ·exact k false ⟨λz=>Bool.noConfusion z,λz=>absurd (g1.mpr z.1) z1⟩
structure LkN(C CN:Addr)(H:Hp)(o q:Addr)(ns:List Int)(l1 l2 h1 h2:Int):Prop where
 na:∃l h,NA CN H o q l h/\RA C H l l1 l2/\RA C H h h1 h2
 row:H q=some (.lst (ns.map V.int))
 len:ns.length<=20
 bits:AllB 1000 ns
 b1:Bits 1000 l1
 b2:Bits 1000 l2
 b3:Bits 1000 h1
 b4:Bits 1000 h2
theorem LkN.same{C CN:Addr}{H H':Hp}{o q:Addr}{ns:List Int}{l1 l2 h1 h2:Int}(n:LkN C CN H o q ns l1 l2 h1 h2)(s:Same H H'):LkN C CN H' o q ns l1 l2 h1 h2:=by obtain⟨l,h,a,b,c⟩:=n.na;exact⟨⟨l,h,a.same s,b.same s,c.same s⟩,s _ _ n.row,n.len,n.bits,n.b1,n.b2,n.b3,n.b4⟩
structure PEnd(C:Addr)(H:Hp)(x:Addr)(x1 x2:Int):Prop where
 ra:RA C H x x1 x2
 pos:0<x2
 b1:Bits 1000 x1
 b2:Bits 1000 x2
theorem PEnd.same{C:Addr}{H H':Hp}{x:Addr}{x1 x2:Int}(n:PEnd C H x x1 x2)(s:Same H H'):PEnd C H' x x1 x2:=⟨n.ra.same s,n.pos,n.b1,n.b2⟩
def ma(C CN:Addr):Sp:=λvs H Q _=>∃(o x y q:Addr) (ns:List Int) (l1 l2 h1 h2 x1 x2 y1 y2:Int),vs=[.ref o,.ref x,.ref y]/\LkN C CN H o q ns l1 l2 h1 h2/\PEnd C H x x1 x2/\PEnd C H y y1 y2/\∀(r:Bool) (H':Hp),Same H H'->(r=true↔cj l1 l2 h1 h2 x1 x2 y1 y2/\Chg ns x1 x2 y1 y2)->Q (.bl r) H'
theorem ul(F:Fun K "shows_in" "shows_in" iP f fd)(T:Txt K mg)(R:RCI K mg C)(RN:NCI K mg CN)(lj:Cal P w K mg base 3 "lies_in" ["one","low","high"] (gg C CN) xM xE)(ls:Cal P w K mg base 3 "changes_on" ["polynomial","low","high"] (iF C) xO xG):FnOk P w K mg base CX0 4 f fd ["one","low","high"] (ma C CN):=by
 obtain⟨ld,j6,kd,kW⟩:=lj;obtain⟨lf,j7,ke,kX⟩:=ls;refine F.ok rS (λvs H Q E h=>?_) (λcdv A outer s H vs Q E hr h=>?_)
 ·obtain⟨o,x,y,q,ns,l1,l2,h1,h2,x1,x2,y1,y2,rfl,_⟩:=h;rfl
 ·obtain⟨o,x,y,q,ns,l1,l2,h1,h2,x1,x2,y1,y2,rfl,hN,hx,hy,k⟩:=h;obtain⟨l,h,na,rl,rh⟩:=hN.na;obtain⟨dO,hO⟩:=id na;refine⟨_,(ak (ar (eA (am ld (hr.mono) rfl j6 kd kW .nil aj (aa (pv 0) (aa (pv 1) (aa (pv 2) ac)))) (fi (am lf (hr.mono) rfl j7 ke kX .nil aj (aa (cp (K:=K) rfl (pv 0) rfl) (aa (pv 1) (aa (pv 2) ac)))))))),?_⟩;refine aK (d0 ⟨_,rfl,_,rfl,_,rfl,o,x,y,q,l,h,l1,l2,h1,h2,x1,x2,y1,y2,rfl,na,rl,rh,hx.ra,hy.ra,?_,λr hr=>⟨_,rfl,?_⟩⟩)
  ·intro c hc;simp only[Bb,BD,or_false]at hc;rcases hc with rfl |rfl |rfl |rfl |rfl |rfl |rfl |rfl<;>first |exact hN.b1 |exact hN.b2 |exact hN.b3 |exact hN.b4 |exact hx.b1 |exact hx.b2 |exact hy.b1 |exact hy.b2
  ·cases r with
   |false=>exact bO (k false H (Same.refl _) ⟨λz=>Bool.noConfusion z,λz=>hr.mpr z.1⟩)
   |true =>refine cm ⟨_,rfl,o,CN,dO,_,_,rfl,hO,RN.cl,RN.nP,oY _ _ _,_,rfl,_,rfl,q,x,y,ns,x1,x2,y1,y2,rfl,hN.row,hx.ra,hy.ra,hx.pos,hy.pos,hN.len,hN.bits,hx.b1,hx.b2,hy.b1,hy.b2,λr' H' s' hr'=>k r' H' s' ?_⟩;rw[hr'];exact⟨λz=>⟨hr.mp rfl,z⟩,λz=>z.2⟩
def me(C CN:Addr):Sp:=λvs H Q _=>∃(o o' p g x y q q':Addr) (w:Str) (ns ns' gs:List Int) (l1 l2 h1 h2 k1 k2 j1 j2 x1 x2 y1 y2:Int),vs=[.ref o,.ref o',.ref p]/\H p=some (.tup [.str w,.ref g,.ref x,.ref y])/\LkN C CN H o q ns l1 l2 h1 h2/\LkN C CN H o' q' ns' k1 k2 j1 j2/\PEnd C H x x1 x2/\PEnd C H y y1 y2/\H g=some (.lst (gs.map V.int))/\gs.length<=20/\AllB 1000 gs/\∀(r:Bool) (H':Hp),Same H H'->(r=true↔2<=gs.length/\Chg gs x1 x2 y1 y2/\(aL ns gs=[]/\cj l1 l2 h1 h2 x1 x2 y1 y2)/\aL ns' gs=[]/\cj k1 k2 j1 j2 x1 x2 y1 y2)->Q (.bl r) H'
theorem um(F:Fun K "shows_alike" "shows_alike" iQ f fd)(T:Txt K mg)(R:RCI K mg C)(RN:NCI K mg CN)(ll:Cal P w K mg base 1 "degree" ["row"] iD xN xF)(ls:Cal P w K mg base 3 "changes_on" ["polynomial","low","high"] (iF C) xO xG)(zn:Cal P w K mg base 3 "divides" ["divisor","row"] iC AD zX)(lj:Cal P w K mg base 3 "lies_in" ["one","low","high"] (gg C CN) xM xE):FnOk P w K mg base CX0 5 f fd ["first","second","paper"] (me C CN):=by
 obtain⟨ij,gL,gO,ie⟩:=ll;obtain⟨lf,j7,ke,kX⟩:=ls;obtain⟨yV,vU,wF,yr⟩:=zn;obtain⟨ld,j6,kd,kW⟩:=lj;refine F.ok sc_shows_alike (λvs H Q E h=>?_) (λcdv A outer s H vs Q E hr h=>?_)
 ·obtain⟨o,o',p,g,x,y,q,q',w,ns,ns',gs,l1,l2,h1,h2,k1,k2,j1,j2,x1,x2,y1,y2,rfl,_⟩:=h;rfl
 ·obtain⟨o,o',p,g,x,y,q,q',w,ns,ns',gs,l1,l2,h1,h2,k1,k2,j1,j2,x1,x2,y1,y2,rfl,hp,hN,hN',hx,hy,hg,gl,gb,k⟩:=h
  refine⟨_,(ae (ai (i:=3) sc_shows_alike.nd rfl (Or.inr rfl) (af (al (K:=K) rfl) (pv 2) ab (λ_ _=>rfl)))
   (ae (aN (PW.pt (jG (aF cH (am ij (hr.mono) rfl gL gO ie .nil aj (aa (pv 3) ac)) ab (au _)) (jF (gy (d8 (am lf (hr.mono) rfl j7 ke kX .nil aj (aa (pv 3) (aa (af (al (K:=K) rfl) (pv 2) ab (λ_ _=>rfl)) (aa (af (al (K:=K) rfl) (pv 2) ab (λ_ _=>rfl)) ac)))))))))
     (ak (ar c8))
     aM)
   (ak (ar (bg (yl (K:=K) rfl rfl) (by rfl) T.all_ PyProof.Rows.boot_all (aa (gE (own:=["one"]) (fr:=["shared_part","paper"]) (js:=[3,2]) (by walk_at "comp_ok") rfl (tD (K:=K) rfl (aR (aa (pv 0) (aa (pv 1) ac)))) (λ_ _ _ _=>(aV (i:=0) (show List.Nodup (["one","shared_part","paper"]:List Str)from by decide +kernel) rfl (Or.inl rfl))) (λ_ _ _ _=>(eA (am yV (hr.mono) rfl vU wF yr .nil aj (aa (pv 1) (aa (cp (K:=K) rfl (pv 0) rfl) ac))) (fi (am ld (hr.mono) rfl j6 kd kW .nil aj (aa (pv 0) (aa (af (al (K:=K) rfl) (pv 2) ab (λ_ _=>rfl)) (aa (af (al (K:=K) rfl) (pv 2) ab (λ_ _=>rfl)) ac)))))))) ac)))))),?_⟩
  refine ao ⟨_,rfl,p,_,_,_,rfl,rfl,SqT.of hp,rfl,?_⟩;refine bh (jy ⟨_,rfl,g,_,rfl,hg,_,_,rfl,rfl,_,rfl,aD (λz0=>?_) (λz0=>?_)⟩)
  ·have z0':((gs.map V.int).length:Int)-1<1:=z0;rw[A4]at z0';exact cm (aK (k false H (Same.refl _) ⟨λz=>Bool.noConfusion z,λz=>absurd z.1 (by omega)⟩))
  have z0':¬((gs.map V.int).length:Int)-1<1:=z0;rw[A4]at z0';have g2:2<=gs.length:=by omega
  have gn:gs≠[]:=λz=>by rw[z]at g2;exact absurd g2 (by decide)
  refine gw ⟨_,rfl,_,rfl,p,_,_,_,rfl,rfl,SqT.of hp,rfl,_,rfl,p,_,_,_,rfl,rfl,SqT.of hp,rfl,g,x,y,gs,x1,x2,y1,y2,rfl,hg,hx.ra,hy.ra,hx.pos,hy.pos,gl,gb,hx.b1,hx.b2,hy.b1,hy.b2,λr H1 s1 hr1=>⟨_,rfl,?_⟩⟩;cases r with
  |false=>exact cm (aK (k false H1 s1 ⟨λz=>Bool.noConfusion z,λz=>hr1.mpr z.2.1⟩))
  |true =>
   refine bO ?_;have c1:=hr1.mp rfl
   have each:∀{o q:Addr} {ns:List Int} {l1 l2 h1 h2:Int} {H':Hp} {Q':VK},LkN C CN H o q ns l1 l2 h1 h2->Same H H'->(∀(r:Bool) (H'':Hp),Same H' H''->(r=true↔aL ns gs=[]/\cj l1 l2 h1 h2 x1 x2 y1 y2)->Q' (.bl r) H'')->iy (ix iC [] E0 (b9 (cA 1) (b9 (iu K (cA 0) "poly") dU))) (ix (gg C CN) [] E0 (b9 (cA 0) (b9 (tOp (d7 K) (cA 2) (tC (V.int 2))) (b9 (tOp (d7 K) (cA 2) (tC (V.int 3))) dU)))) [some (.ref o),some (.ref g),some (.ref p)] H' Q':=λ{o q ns l1 l2 h1 h2 H' Q'} N sm kk=>by
    obtain⟨l,h,na,rl,rh⟩:=N.na;obtain⟨dO,hO⟩:=id na;refine d0 ⟨_,rfl,_,rfl,o,CN,dO,_,_,rfl,sm _ _ hO,RN.cl,RN.nP,oY _ _ _,q,g,ns,gs,1000,rfl,sm _ _ N.row,sm _ _ hg,gn,N.bits,gb,by have:=N.len;have:(ns.length+2)*(1000+1)<=22*1001:=BT _ (by omega);omega,by omega,λH2 s2=>⟨_,rfl,aD (λz=>?_) (λz=>?_)⟩⟩
    ·have t2:=sm.trans s2;have hp2:=t2 _ _ hp;refine⟨_,rfl,_,rfl,p,_,_,_,rfl,rfl,SqT.of hp2,rfl,_,rfl,p,_,_,_,rfl,rfl,SqT.of hp2,rfl,o,x,y,q,l,h,l1,l2,h1,h2,x1,x2,y1,y2,rfl,na.same t2,rl.same t2,rh.same t2,hx.ra.same t2,hy.ra.same t2,?_,λr hr=>kk r H2 s2 ?_⟩
     ·intro c hc;simp only[Bb,BD,or_false]at hc;rcases hc with rfl |rfl |rfl |rfl |rfl |rfl |rfl |rfl<;>first |exact N.b1 |exact N.b2 |exact N.b3 |exact N.b4 |exact hx.b1 |exact hx.b2 |exact hy.b1 |exact hy.b2
     ·rw[hr];exact⟨λy=>⟨z,y⟩,λy=>y.2⟩
    ·exact kk false H2 s2 ⟨λy=>Bool.noConfusion y,λy=>absurd y.1 z⟩
   refine aK ⟨_,rfl,_,rfl,by show 2<=sizeLine;decide,λpt hpt=>?_⟩;have s2:=s1.then_new (o:=.tup [.ref o,.ref o']) hpt;have e2:upd H1 pt (.tup [.ref o,.ref o']) pt=some (.tup [.ref o,.ref o']):=ah;generalize upd H1 pt (.tup [.ref o,.ref o'])=H2 at s2 e2 ⊢
   refine⟨pt,rfl,⟨_,SqT.of e2⟩,yb (K:=K) (a:=pt) (xs:=[.ref o,.ref o']) (λi ys σ' H'=>∃(z0:Option V) (bs:List Bool),σ'=[z0,some (.ref g),some (.ref p)]/\ys=bs.map V.bl/\bs.length=i/\Same H H'/\H' pt=some (.tup [.ref o,.ref o'])/\(∀b,bs[0]?=some b->(b=true↔aL ns gs=[]/\cj l1 l2 h1 h2 x1 x2 y1 y2))/\(∀b,bs[1]?=some b->(b=true↔aL ns' gs=[]/\cj k1 k2 j1 j2 x1 x2 y1 y2))) (by show 2<=sizeLine;decide) ⟨none,[],rfl,rfl,rfl,s2,e2,λb h=>(nomatch h),λb h=>(nomatch h)⟩ ?_ ?_ ?_⟩
   ·rintro i ys σ' H' _ ⟨z0,bs,rfl,rfl,rfl,_,et,_⟩;exact⟨SqT.of et,by rw[A4];exact A5 _⟩
   ·rintro i xv ys σ' H' hi ⟨z0,bs,rfl,rfl,hl,sm,et,hb0,hb1⟩;have hlt:=(List.getElem?_eq_some_iff.mp hi).1;have hlt':i<2:=hlt;rcases(show i=0\/i=1 by omega)with rfl |rfl
    ·cases hi;have bn:bs=[]:=Bm.mp hl;subst bn;refine each hN sm λr H'' s' hr=>⟨_,[r],rfl,rfl,rfl,sm.trans s',s' _ _ et,λb h=>?_,λb h=>(nomatch h)⟩
     cases h;exact hr
    ·cases hi
     obtain⟨b0,eb⟩:∃b0,bs=[b0]:=by
      cases bs with
      |nil=>cases hl
      |cons b t =>have:t=[]:=Bm.mp (by simpa using hl);exact⟨b,by rw[this]⟩
     subst eb;refine each hN' sm λr H'' s' hr=>⟨_,[b0,r],rfl,rfl,rfl,sm.trans s',s' _ _ et,λb h=>hb0 b h,λb h=>?_⟩
     cases h;exact hr
   ·rintro ys σ' H' pl ⟨z0,bs,rfl,rfl,hl,sm,et,hb0,hb1⟩ hpl
    obtain⟨b0,b1,eb⟩:∃b0 b1,bs=[b0,b1]:=by
     have hl2:bs.length=2:=hl
     match bs,hl2 with
     | [b0,b1],_=>exact⟨b0,b1,rfl⟩
    subst eb;refine⟨pl,[b0,b1],rfl,SqL.of ah,k _ _ (sm.then_new hpl) ?_⟩;have q0:=hb0 b0 rfl;have q1:=hb1 b1 rfl;show(b0&&(b1&&true))=true↔_;rw[Bool.and_true,BV,q0,q1];exact⟨λz=>⟨g2,c1,z.1,z.2⟩,λz=>⟨z.2.2.1,z.2.2.2⟩⟩
def zO(ns ns' gs:List Int)(l1 l2 h1 h2 k1 k2 j1 j2 x1 x2 y1 y2:Int):Prop:=2<=gs.length/\Chg gs x1 x2 y1 y2/\(aL ns gs=[]/\cj l1 l2 h1 h2 x1 x2 y1 y2)/\aL ns' gs=[]/\cj k1 k2 j1 j2 x1 x2 y1 y2
def gc(C CN:Addr):Sp:=λvs H Q _=>∃(o o' p q q':Addr) (ns ns':List Int) (l1 l2 h1 h2 k1 k2 j1 j2:Int),vs=[.ref o,.ref o',.ref p]/\LkN C CN H o q ns l1 l2 h1 h2/\LkN C CN H o' q' ns' k1 k2 j1 j2 /\
 ((∃(g x y:Addr) (gs:List Int) (x1 x2 y1 y2:Int),H p=some (.tup [.str ("alike":Str),.ref g,.ref x,.ref y])/\PEnd C H x x1 x2/\PEnd C H y y1 y2/\H g=some (.lst (gs.map V.int))/\gs.length<=20/\AllB 1000 gs/\∀(r:Bool) (H':Hp),Same H H'->(r=true↔zO ns ns' gs l1 l2 h1 h2 k1 k2 j1 j2 x1 x2 y1 y2)->Q (.bl r) H') \/
  ∃(wd:Str) (x y x' y':Addr) (x1 x2 y1 y2 x1' x2' y1' y2':Int),(wd=("under":Str)\/wd=("over":Str))/\H p=some (.tup [.str wd,.ref x,.ref y,.ref x',.ref y'])/\PEnd C H x x1 x2/\PEnd C H y y1 y2/\PEnd C H x' x1' x2'/\PEnd C H y' y1' y2'/\∀(r:Bool) (H':Hp),Same H H'->(r=true->(cj l1 l2 h1 h2 x1 x2 y1 y2/\Chg ns x1 x2 y1 y2)/\(cj k1 k2 j1 j2 x1' x2' y1' y2'/\Chg ns' x1' x2' y1' y2')/\(wd=("under":Str)->y1*x2'<=x1'*y2)/\(wd=("over":Str)->y1'*x2<=x1*y2'))->Q (.bl r) H')
theorem im:¬(("under":Str)=("alike":Str))/\¬(("over":Str)=("alike":Str))/\¬(("over":Str)=("under":Str)):=⟨by decide +kernel,by decide +kernel,by decide +kernel⟩
theorem uj(F:Fun K "takes" "takes" iN f fd)(T:Txt K mg)(R:RCI K mg C)(RN:NCI K mg CN)(zi:Cal P w K mg base 5 "shows_alike" ["first","second","paper"] (me C CN) Ay zS)(zh:Cal P w K mg base 4 "shows_in" ["one","low","high"] (ma C CN) Ax zR)(fW:MCal P w K mg base 2 C "against" ["self","other"] (gm C) o9 o4):FnOk P w K mg base CX0 6 f fd ["first","second","paper"] (gc C CN):=by
 obtain⟨yR,vQ,wB,yn⟩:=zi;obtain⟨qv,nV,ou,p8⟩:=zh;obtain⟨dN,dr,dJ⟩:=fW;refine F.ok rQ (λvs H Q E h=>?_) (λcdv A outer s H vs Q E hr h=>?_)
 ·obtain⟨o,o',p,q,q',ns,ns',l1,l2,h1,h2,k1,k2,j1,j2,rfl,_⟩:=h;rfl
 ·obtain⟨o,o',p,q,q',ns,ns',l1,l2,h1,h2,k1,k2,j1,j2,rfl,hN,hN',hP⟩:=h
  refine⟨_,(ae (aN (aF jQ (af (al (K:=K) rfl) (pv 2) ab (λ_ _=>rfl)) bK (au _))
   (ak (ar (am yR (hr.mono) rfl vQ wB yn .nil aj (aa (pv 0) (aa (pv 1) (aa (pv 2) ac))))))
   aM)
   (ae (aN (gy (PW.pt (cE (d8 (am qv (hr.mono) rfl nV ou p8 .nil aj (aa (pv 0) (aa (af (al (K:=K) rfl) (pv 2) ab (λ_ _=>rfl)) (aa (af (al (K:=K) rfl) (pv 2) ab (λ_ _=>rfl)) ac))))) (cZ (d8 (am qv (hr.mono) rfl nV ou p8 .nil aj (aa (pv 1) (aa (af (al (K:=K) rfl) (pv 2) ab (λ_ _=>rfl)) (aa (af (al (K:=K) rfl) (pv 2) ab (λ_ _=>rfl)) ac)))))))))
     (ak (ar c8))
     aM)
   (ae (aN (aF jQ (af (al (K:=K) rfl) (pv 2) ab (λ_ _=>rfl)) bK (au _))
     (ak (ar (bN fk (fj (af (al (K:=K) rfl) (pv 2) ab (λ_ _=>rfl)) R.cl dr dN (hr.mono) dJ .nil aj (aa (af (al (K:=K) rfl) (pv 2) ab (λ_ _=>rfl)) ac)) ab (au _))))
     aM)
   (ak (ar (eA (bN jQ (af (al (K:=K) rfl) (pv 2) ab (λ_ _=>rfl)) bK (au _)) (fi (bN fk (fj (af (al (K:=K) rfl) (pv 2) ab (λ_ _=>rfl)) R.cl dr dN (hr.mono) dJ .nil aj (aa (af (al (K:=K) rfl) (pv 2) ab (λ_ _=>rfl)) ac)) ab (au _))))))))),?_⟩
  rcases hP with⟨g,x,y,gs,x1,x2,y1,y2,hp,hx,hy,hg,gl,gb,k⟩ |⟨wd,x,y,x',y',x1,x2,y1,y2,x1',x2',y1',y2',hw,hp,hx,hy,hx',hy',k⟩
  ·refine bh ⟨_,rfl,p,_,_,_,rfl,rfl,SqT.of hp,rfl,rfl,_,rfl,aD (λ_=>?_) (λz=>absurd rfl z)⟩;exact aK ⟨_,rfl,_,rfl,_,rfl,o,o',p,g,x,y,q,q',_,ns,ns',gs,l1,l2,h1,h2,k1,k2,j1,j2,x1,x2,y1,y2,rfl,hp,hN,hN',hx,hy,hg,gl,gb,k⟩
  ·have na:¬V.str wd=V.str ("alike":Str):=λz=>by
    injection z with z
    rcases hw with rfl |rfl
    ·exact im.1 z
    ·exact im.2.1 z
   refine bh ⟨_,rfl,p,_,_,_,rfl,rfl,SqT.of hp,rfl,rfl,_,rfl,aD (λz=>absurd z na) (λ_=>?_)⟩;have refuse:∀(H':Hp),Same H H'->Q (.bl false) H':=λH' sm=>k false H' sm λz=>Bool.noConfusion z
   refine bh (gw (cD ⟨_,rfl,_,rfl,p,_,_,_,rfl,rfl,SqT.of hp,rfl,_,rfl,p,_,_,_,rfl,rfl,SqT.of hp,rfl,o,x,y,q,ns,l1,l2,h1,h2,x1,x2,y1,y2,rfl,hN,hx,hy,λr H1 s1 hr1=>⟨_,rfl,?_⟩⟩));cases r with
   |false=>exact bO (cm (aK (refuse H1 s1)))
   |true =>
   refine cm ?_;have hp1:=s1 _ _ hp;refine⟨_,rfl,_,rfl,p,_,_,_,rfl,rfl,SqT.of hp1,rfl,_,rfl,p,_,_,_,rfl,rfl,SqT.of hp1,rfl,o',x',y',q',ns',k1,k2,j1,j2,x1',x2',y1',y2',rfl,hN'.same s1,hx'.same s1,hy'.same s1,λr H2 s2 hr2=>⟨_,rfl,?_⟩⟩;have t2:=s1.trans s2;cases r with
   |false=>exact cm (aK (refuse H2 t2))
   |true =>
   refine bO ?_;have c1:=hr1.mp rfl;have c2:=hr2.mp rfl;have hp2:=t2 _ _ hp;obtain⟨dy,hyr⟩:=id (hy.same t2).ra;obtain⟨dy',hyr'⟩:=id (hy'.same t2).ra;refine bh ⟨_,rfl,p,_,_,_,rfl,rfl,SqT.of hp2,rfl,rfl,_,rfl,aD (λz=>?_) (λz=>?_)⟩
   ·have ew:wd=("under":Str):=by injection z
    refine aK ⟨_,rfl,p,_,_,_,rfl,rfl,SqT.of hp2,rfl,y,dy,_,rfl,hyr,fF _ _ cr.1 cr.2,_,rfl,p,_,_,_,rfl,rfl,SqT.of hp2,rfl,y,x',y1,y2,x1',x2',rfl,(hy.same t2).ra,(hx'.same t2).ra,hy.b1.mono,hy.b2.mono,hx'.b1.mono,hx'.b2.mono,_,_,rfl,rfl,k _ H2 t2 λzz=>⟨c1,c2,λ_=>?_,λe=>?_⟩⟩
    ·have:=(fe _).2.2.mp (of_decide_eq_true zz);omega
    ·rw[ew]at e;exact absurd e.symm im.2.2
   ·have nw:¬wd=("under":Str):=λe=>z (by rw[e])
    refine aK (d0 ⟨_,rfl,p,_,_,_,rfl,rfl,SqT.of hp2,rfl,rfl,_,rfl,aD (λz2=>?_) (λ_=>refuse H2 t2)⟩);refine⟨_,rfl,p,_,_,_,rfl,rfl,SqT.of hp2,rfl,y',dy',_,rfl,hyr',fF _ _ cr.1 cr.2,_,rfl,p,_,_,_,rfl,rfl,SqT.of hp2,rfl,y',x,y1',y2',x1,x2,rfl,(hy'.same t2).ra,(hx.same t2).ra,hy'.b1.mono,hy'.b2.mono,hx.b1.mono,hx.b2.mono,_,_,rfl,rfl,k _ H2 t2 λzz=>⟨c1,c2,λe=>absurd e nw,λ_=>?_⟩⟩;have:=(fe _).2.2.mp (of_decide_eq_true zz);omega
theorem uX(F:Fun K "_law_cell_at" "_law_cell_at" jt f fd)(T:Txt K mg):FnOk P w K mg base CX0 1 f fd ["_law_script","_law_k"] (mz K):=by
 refine F.ok r9 (λvs H Q E h=>?_) (λcdv A outer s H vs Q E hr h=>?_)
 ·obtain⟨a,ns,k,rfl,_⟩:=h;rfl
 ·obtain⟨a,ns,n,rfl,hS,k⟩:=h
  refine⟨_,(ae (aN (aF cH (pv 1) (bg (bZ (K:=K) rfl) (by rfl) T.len_ PySem.boot_len (aa (pv 0) ac)) (au _))
   (ak (ar (af (aA (K:=K) rfl) (pv 0) (pv 1) (λ_ _=>rfl))))
   aM)
   (ak (ar ab))),?_⟩
  refine⟨_,rfl,_,rfl,a,_,rfl,.inl hS,_,_,rfl,rfl,_,rfl,?_⟩;refine aD (λh1=>?_) (λh1=>?_)
  ·rw[A4]at h1;have h2:n<ns.length:=by omega
   refine⟨_,rfl,_,rfl,a,_,_,_,rfl,rfl,hS,eT (v:=.int (ns.getD n 0)) ?_,k⟩;rw[List.getElem?_map,List.getElem?_eq_getElem h2];simp[List.getD,h2]
  ·rw[A4]at h1;have h2:ns.length<=n:=by omega
   have e:ns.getD n 0=0:=by simp[List.getD,List.getElem?_eq_none_iff.mpr h2]
   rw[e]at k;exact k
def iB:Sp:=λvs H Q _=>∃c z:Int,vs=[.int c,.int z]/\0<=z/\Bits 1000 z/\Q (.int (c%(2*z+1)-z)) H
theorem uA(F:Fun K "_law_within" "_law_within" i8 f fd)(T:Txt K mg):FnOk P w K mg base CX0 1 f fd ["_law_cell","_law_most"] iB:=by
 refine F.ok rY (λvs H Q E h=>?_) (λcdv A outer s H vs Q E hr h=>?_)
 ·obtain⟨c,z,rfl,_⟩:=h;rfl
 ·obtain⟨c,z,rfl,hz,hb,k⟩:=h;refine⟨_,(ak (ar (ad aO (ad aS (pv 0) (ad aW (ad aw ab (pv 1)) ab)) (pv 1)))),?_⟩;refine⟨_,rfl,_,rfl,_,_,rfl,rfl,⟨Bits.mono (j:=2) (by show(2:Int).natAbs<2^2;decide) (by decide),hb.mono⟩,_,_,rfl,rfl,_,_,rfl,rfl,(by show(0:Int)<2*z+1;omega),_,rfl,_,_,rfl,rfl,k⟩
def TuH(H:Hp)(ps:List Addr)(xss:List (List Int)):Prop:=ps.length=xss.length/\∀(i:Nat) (p:Addr) (xs:List Int),ps[i]?=some p->xss[i]?=some xs->H p=some (.tup (xs.map V.int))
theorem TuH.nil{H:Hp}:TuH H [] []:=⟨rfl,λi p xs h=>by simp at h⟩
theorem TuH.same{H H':Hp}{ps:List Addr}{xss:List (List Int)}(h:TuH H ps xss)(s:Same H H'):TuH H' ps xss:=⟨h.1,λi p xs a b=>s _ _ (h.2 i p xs a b)⟩
theorem TuH.snoc{H:Hp}{ps:List Addr}{xss:List (List Int)}{p:Addr}{xs:List Int}(h:TuH H ps xss)(hp:H p=some (.tup (xs.map V.int))):TuH H (ps++[p]) (xss++[xs]):=by
 refine⟨by rw[Ba,Ba,h.1];rfl,λi q ys a b=>?_⟩;by_cases hi:i<ps.length
 ·rw[List.getElem?_append_left hi]at a;rw[List.getElem?_append_left (by rw[<- h.1];exact hi)]at b;exact h.2 i q ys a b
 ·rw[List.getElem?_append_right (by omega)]at a;rw[List.getElem?_append_right (by rw[<- h.1];omega),<- h.1]at b;by_cases h0:i-ps.length=0
  ·rw[h0]at a b;obtain rfl:p=q:=by simpa using a
   obtain rfl:xs=ys:=by simpa using b
   exact hp
  ·rw[List.getElem?_eq_none_iff.mpr (by simp;omega)]at a;cases a
theorem TuH.of_get{H:Hp}{ps:List Addr}{xss:List (List Int)}{i:Nat}{x:V}(h:TuH H ps xss)(hx:(ps.map V.ref)[i]?=some x):∃p xs,x=.ref p/\ps[i]?=some p/\xss[i]?=some xs/\H p=some (.tup (xs.map V.int))/\i<xss.length:=by
 rw[List.getElem?_map]at hx;cases e:ps[i]? with
 |none=>rw[e]at hx;cases hx
 |some p =>
  rw[e]at hx;have hi:i<ps.length:=(List.getElem?_eq_some_iff.mp e).1;have hi':i<xss.length:=by rw[<- h.1];exact hi
  exact⟨p,xss[i],(Option.some.inj hx).symm,rfl,List.getElem?_eq_getElem hi',h.2 i p _ e (List.getElem?_eq_getElem hi'),hi'⟩
theorem TuH.upd_lst{H:Hp}{ps:List Addr}{xss:List (List Int)}{a:Addr}{vs:List V}{o:HO}(h:TuH H ps xss)(ha:H a=some (.lst vs)):TuH (upd H a o) ps xss:=⟨h.1,λi p xs e1 e2=>by
 have e3:=h.2 i p xs e1 e2
 rw[L2.upd_ne (λz=>by rw[z,ha]at e3;cases e3)];exact e3⟩
def lZ:Sp:=λvs H Q _=>∃(a:Addr) (ns:List Int),vs=[.ref a]/\H a=some (.lst (ns.map V.int))/\Tr ns/\ns.length<=1000000/\mkL H Q (aE ns)
theorem oR{ns:List Int}(ht:Tr ns)(hne:ns≠[]):0<(ay ns:Int):=by
 obtain⟨r,x,rfl⟩:=(ck ns).resolve_left hne;have hx:x≠0:=tr_snoc.mp ht;have hm:x∈r++[x]:=by simp
 have h1:0<ay (r++[x]):=Nat.pos_of_dvd_of_pos (gW hm) (BZ.mpr hx);omega
def gf:Sp:=λvs H Q _=>∃(a b:Addr) (xs ys:List Int),vs=[.ref a,.ref b]/\H a=some (.lst (xs.map V.int))/\H b=some (.lst (ys.map V.int))/\xs.length<=1000000/\ys.length<=1000000/\AllB 1000000 xs/\AllB 1000000 ys/\mkL H Q (ag xs ys)
theorem uP(F:Fun K "_law_mul" "_law_mul" jl f fd)(T:Txt K mg):FnOk P w K mg base CX0 1 f fd ["_law_kp","_law_kq"] gf:=by
 refine F.ok sc__law_mul (λvs H Q E h=>?_) (λcdv A outer s H vs Q E hr h=>?_)
 ·obtain⟨a,b,xs,ys,rfl,_⟩:=h;rfl
 ·obtain⟨a,b,xs,ys,rfl,hA,hB,hx,hy,bx,by',k⟩:=h
  refine⟨_,(ae (aN (PW.pt (jG (aF bz (bg (bZ (K:=K) rfl) (by rfl) T.len_ PySem.boot_len (aa (pv 0) ac)) ab (au _)) (jF (aF bz (bg (bZ (K:=K) rfl) (by rfl) T.len_ PySem.boot_len (aa (pv 1) ac)) ab (au _)))))
   (ak (ar (aJ ac)))
   aM)
   (ae (m8 (i:=2) sc__law_mul.nd rfl (Or.inl rfl) (own:=["_law_k"]) (fr:=[]) (js:=[]) (by walk_at "comp_ok") rfl (cG rfl T.range_ (aa (ad aO (ad aW (bg (bZ (K:=K) rfl) (by rfl) T.len_ PySem.boot_len (aa (pv 0) ac)) (bg (bZ (K:=K) rfl) (by rfl) T.len_ PySem.boot_len (aa (pv 1) ac))) ab) ac)) (λ_ _ _ _=>(aV (i:=0) (show List.Nodup (["_law_k"]:List Str)from by decide +kernel) rfl (Or.inl rfl))) (λ_ _ _ _=>ab) (by rfl))
   (ae (bD PassesOwn.never rfl (jL rfl T.enumerate_ (aa (pv 0) ac)) (jN rfl (eo (aV (i:=3) sc__law_mul.nd rfl (Or.inl rfl)) (eo (aV (i:=4) sc__law_mul.nd rfl (Or.inl rfl)) jM)))
     (ak (bD PassesOwn.never rfl (jL rfl T.enumerate_ (aa (pv 1) ac)) (jN rfl (eo (aV (i:=5) sc__law_mul.nd rfl (Or.inl rfl)) (eo (aV (i:=6) sc__law_mul.nd rfl (Or.inl rfl)) jM)))
       (ak (jH (ad aW (af (aA (K:=K) rfl) (pv 2) (ad aW (pv 3) (pv 5)) (λ_ _=>rfl)) (ad aw (pv 4) (pv 6))) (jO (pv 2) (ad aW (pv 3) (pv 5)) iJ))))))
   (ak (ar (pv 2)))))),?_⟩
  have none':(xs=[]\/ys=[])->∀p,H p=none->Q (.ref p) (upd H p (.lst [])):=λh p hp=>k p _ (Same.upd_new hp) hp (by rw[ah];unfold ag;rw[if_pos h];rfl)
  have hlx:(xs.map V.int).length=xs.length:=A4 _;have hly:(ys.map V.int).length=ys.length:=A4 _;refine bh (jy ⟨_,rfl,a,_,rfl,.inl (SqL.of hA),_,_,rfl,rfl,_,rfl,aD (λh0=>?_) (λh0=>?_)⟩)
  ·exact cm ⟨A8 _,λp hp=>none' (.inl (Bm.mp (by rw[hlx]at h0;omega))) p hp⟩
  refine⟨_,rfl,b,_,rfl,.inl (SqL.of hB),_,_,rfl,rfl,_,rfl,aD (λh1=>?_) (λh1=>?_)⟩
  ·exact⟨A8 _,λp hp=>none' (.inr (Bm.mp (by rw[hly]at h1;omega))) p hp⟩
  rw[hlx]at h0;rw[hly]at h1;have hx0:xs≠[]:=λz=>h0 (by rw[z];rfl)
  have hy0:ys≠[]:=λz=>h1 (by rw[z];rfl)
  obtain⟨la,ea⟩:∃la,xs.length=la+1:=⟨xs.length-1,by have:=A9.mpr hx0;omega⟩;obtain⟨lb,eb⟩:∃lb,ys.length=lb+1:=⟨ys.length-1,by have:=A9.mpr hy0;omega⟩;have big:=sizeLine_eq;have en:((xs.map V.int).length:Int)+((ys.map V.int).length:Int)-1=((la+lb+1:Nat):Int):=by rw[hlx,hly];omega
  refine⟨_,rfl,a,_,rfl,.inl (SqL.of hA),_,rfl,b,_,rfl,.inl (SqL.of hB),_,_,rfl,rfl,_,_,rfl,rfl,?_⟩;dsimp only
  rw[en];refine⟨_,rfl,by omega,by omega,pP (lo:=0) (n:=la+lb+1) (λi zs σ' H'=>∃z:Option V,σ'=[z]/\zs=(List.replicate i (0:Int)).map V.int/\H=H') (by omega) ⟨none,rfl,rfl,rfl⟩ ?_ ?_ ?_⟩
  ·rintro i zs σ' H' _ ⟨z,rfl,rfl,rfl⟩;simp
  ·rintro i zs σ' H' hi ⟨z,rfl,rfl,rfl⟩;refine⟨_,rfl,?_,rfl⟩;rw[List.replicate_succ',Bw];rfl
  rintro zs σ' H' p ⟨z,rfl,rfl,rfl⟩ hp;have s4:=Same.upd_new (o:=.lst ((List.replicate (la+lb+1) (0:Int)).map V.int)) hp;have npa:a≠p:=aH hA hp;have npb:b≠p:=aH hB hp;have hp4:upd H p (.lst ((List.replicate (la+lb+1) (0:Int)).map V.int)) p=some (.lst ((List.replicate (la+lb+1) (0:Int)).map V.int)):=ah;generalize upd H p (.lst ((List.replicate (la+lb+1) (0:Int)).map V.int))=H4 at s4 hp4 ⊢
  refine⟨_,rfl,a,rfl,⟨_,SqL.of (s4 _ _ hA)⟩,kr (K:=K) (a:=a) (xs:=xs.map V.int) (λj σ' H'=>∃(acc:List Int) (z3 z4 z5 z6:Option V),σ'=[some (.ref a),some (.ref b),some (.ref p),z3,z4,z5,z6]/\SameB p H4 H'/\H' p=some (.lst (acc.map V.int))/\acc.length=la+lb+1/\∀n,n<acc.length->cf acc n=sm xs ys n j)
   ⟨List.replicate (la+lb+1) 0,none,none,none,none,rfl,SameB.refl _ _,hp4,by simp,λn _=>by rw[hX];rfl⟩ ?_ ?_ ?_⟩
  ·rintro j σ' H' _ ⟨acc,z3,z4,z5,z6,rfl,sb,_⟩;exact SqL.of (sb _ _ npa (s4 _ _ hA))
  ·rintro j x σ' H' q hj ⟨acc,z3,z4,z5,z6,rfl,sb,hpa,hal,hac⟩ hq;rw[List.getElem?_map]at hj
   have hjl:j<xs.length:=by apply Classical.byContradiction;intro hn;rw[List.getElem?_eq_none_iff.mpr (Bs hn)]at hj;cases hj
   rw[de hjl]at hj;obtain rfl:=Option.some.inj hj;refine⟨q,_,rfl,SqT.of ah,rfl,_,_,rfl,_,_,rfl,rfl,?_⟩;have nqp:p≠q:=aH hpa hq;have sb1:SameB p H4 (upd H' q (.tup [.int j,.int (cf xs j)])):=sb.then_new hq
   refine⟨_,rfl,b,rfl,⟨_,SqL.of (sb1 _ _ npb (s4 _ _ hB))⟩,kr (K:=K) (a:=b) (xs:=ys.map V.int) (λi σ' H'=>∃(acc:List Int) (z5 z6:Option V),σ'=[some (.ref a),some (.ref b),some (.ref p),some (.int j),some (.int (cf xs j)),z5,z6]/\SameB p H4 H'/\H' p=some (.lst (acc.map V.int))/\acc.length=la+lb+1/\∀n,n<acc.length->cf acc n=sm xs ys n j+(if j<=n/\n-j<i then tm xs ys n j else 0))
    ⟨acc,z5,z6,rfl,sb1,by rw[upd_ne nqp];exact hpa,hal,vA hac⟩ ?_ ?_ ?_⟩
   ·rintro i σ' H' _ ⟨acc,z5,z6,rfl,sb,_⟩;exact SqL.of (sb _ _ npb (s4 _ _ hB))
   ·rintro i x σ' H' q hi ⟨acc,z5,z6,rfl,sb,hpa,hal,hac⟩ hq;rw[List.getElem?_map]at hi
    have hil:i<ys.length:=by apply Classical.byContradiction;intro hn;rw[List.getElem?_eq_none_iff.mpr (Bs hn)]at hi;cases hi
    rw[de hil]at hi;obtain rfl:=Option.some.inj hi;refine⟨q,_,rfl,SqT.of ah,rfl,_,_,rfl,_,_,rfl,rfl,?_⟩;have nqp:p≠q:=aH hpa hq;have hpa':upd H' q (.tup [.int i,.int (cf ys i)]) p=some (.lst (acc.map V.int)):=by rw[upd_ne nqp];exact hpa
    have hji:j+i<acc.length:=by omega
    have eji:((j:Nat):Int)+((i:Nat):Int)=((j+i:Nat):Int):=by omega
    refine⟨_,rfl,_,rfl,_,rfl,_,_,rfl,rfl,p,_,_,_,rfl,rfl,SqL.of hpa',qk eji hji,_,rfl,_,rfl,_,_,rfl,rfl,⟨bx.cf j,by'.cf i⟩,_,_,rfl,rfl,_,rfl,_,rfl,_,rfl,_,_,rfl,rfl,p,_,_,j+i,rfl,rfl,hpa',kh eji (by rw[A4];exact hji),?_⟩;refine⟨acc.set (j+i) (cf acc (j+i)+cf xs j*cf ys i),_,_,rfl,(sb.then_new hq).then_upd,by rw[ah,jZ],by rw[BW];exact hal,vz hjl hil hji hac⟩
   ·rintro σ' H' ⟨acc,z5,z6,rfl,sb,hpa,hal,hac⟩;rw[A4]at hac;exact⟨acc,_,_,_,_,rfl,sb,hpa,hal,vB hac⟩
  ·rintro σ' H' ⟨acc,z3,z4,z5,z6,rfl,sb,hpa,hal,hac⟩;rw[A4]at hac;refine⟨_,rfl,k p H' (λb' o e=>sb b' o (aH e hp) (s4 b' o e)) hp ?_⟩;rw[hpa]
   have e:acc=ag xs ys:=by
    apply cM
    ·rw[hal];unfold ag;rw[if_neg (by intro z;exact z.elim hx0 hy0),A4,BY];omega
    ·intro n _;rw[aC,vC (by omega) hac]
   rw[e]
theorem uR(F:Fun K "_law_gcd" "_law_gcd" jn f fd)(T:Txt K mg):FnOk P w K mg base CX0 1 f fd ["_law_a","_law_b"] sp2:=by
 refine F.ok sc__law_gcd (λvs H Q E h=>?_) (λcdv A outer s H vs Q E hr h=>?_)
 ·obtain⟨a,b,rfl,_⟩:=h;rfl
 ·obtain⟨a,b,rfl,k⟩:=h
  refine⟨_,(ae (ai (i:=0) sc__law_gcd.nd rfl (Or.inl rfl) (bg fI (by rfl) T.abs_ PyProof.Rows.boot_abs (aa (pv 0) ac)))
   (ae (ai (i:=1) sc__law_gcd.nd rfl (Or.inl rfl) (bg fI (by rfl) T.abs_ PyProof.Rows.boot_abs (aa (pv 1) ac)))
   (ae (fg PassesOwn.never (aF cq (pv 1) ab (au _))
     (ae (ai (i:=2) sc__law_gcd.nd rfl (Or.inl rfl) (ad aS (pv 0) (pv 1)))
       (ae (ai (i:=0) sc__law_gcd.nd rfl (Or.inl rfl) (pv 1))
       (ak (ai (i:=1) sc__law_gcd.nd rfl (Or.inl rfl) (pv 2))))))
   (ak (ar (pv 0)))))),?_⟩
  refine⟨_,rfl,_,rfl,?_⟩;refine⟨_,rfl,_,rfl,?_⟩;refine⟨λm σ' H'=>∃(x y:Int) (z:Option V),σ'=[some (.int x),some (.int y),z]/\H=H'/\0<=x/\0<=y/\y.natAbs=m/\Nat.gcd x.natAbs y.natAbs=Nat.gcd a.natAbs b.natAbs,⟨_,_,_,none,rfl,rfl,?_,?_,rfl,?_⟩,?_⟩
  ·rw[cO];exact Cg _
  ·rw[cO];exact Cg _
  ·rw[cO,cO,BR,BR]
  ·rintro m σ' H' ⟨x,y,z,rfl,rfl,hx,hy,rfl,hg⟩;refine⟨_,rfl,_,_,rfl,rfl,_,rfl,?_⟩;refine aD (λhn=>?_) (λh0=>?_)
   ·have hp:0<y:=hn;refine⟨λσ'' H''=>∃m',m'<y.natAbs/\∃(x' y':Int) (z:Option V),σ''=[some (.int x'),some (.int y'),z]/\H=H''/\0<=x'/\0<=y'/\y'.natAbs=m'/\Nat.gcd x'.natAbs y'.natAbs=Nat.gcd a.natAbs b.natAbs,λ_ _ h=>h,?_⟩;refine⟨_,rfl,_,rfl,_,_,rfl,rfl,hp,?_⟩;refine⟨_,rfl,?_⟩;refine⟨_,rfl,?_⟩;have h1:=Int.emod_nonneg x (Int.ne_of_gt hp);have h2:=Cj x hp;exact⟨(x%y).natAbs,by omega,y,x%y,_,rfl,rfl,hy,h1,rfl,by rw[oQ hx hp];exact hg⟩
   ·refine⟨_,rfl,?_⟩;have e:(y:Int)=0:=by have:¬(0:Int)<y:=h0;omega
    subst e
    have e2:(x:Int)=((Nat.gcd a.natAbs b.natAbs:Nat):Int):=by rw[<- hg];show x=((Nat.gcd x.natAbs 0:Nat):Int);rw[Nat.gcd_zero_right];omega
    rw[e2];exact k
theorem uG(F:Fun K "_law_shrunk" "_law_shrunk" gr f fd)(T:Txt K mg)(hNS:base.NoSeer)(hTr:P.given.tree=none)(zC:Cal P w K mg base 1 "_law_gcd" ["_law_a","_law_b"] sp2 AR Ak):FnOk P w K mg base CX0 33 f fd ["_law_kp"] lZ:=by
 obtain⟨y8,wa,wM,yz⟩:=zC;refine F.ok sc__law_shrunk (λvs H Q E h=>?_) (λcdv A outer s H vs Q E hr h=>?_)
 ·obtain⟨a,ns,rfl,_⟩:=h;rfl
 ·obtain⟨a,ns,rfl,hA,ht,hn,k⟩:=h;have big:=sizeLine_eq;have hdp:(A.deeper (PyProof.Rows.envOfC (Str.ofString "_law_shrunk") (aq gr) s.heap.objs.size f cdv)).depth+100<recursionLimit:=by have:=hr.dp;omega
  refine⟨_,(ae (ai (i:=1) sc__law_shrunk.nd rfl (Or.inr rfl) ab)
   (ae (bD PassesOwn.never rfl (di (K:=K) rfl (pv 0)) (aV (i:=2) sc__law_shrunk.nd rfl (Or.inl rfl))
     (ak (ai (i:=1) sc__law_shrunk.nd rfl (Or.inr rfl) (am y8 (hr.mono) rfl wa wM yz .nil aj (aa (pv 1) (aa (pv 2) ac))))))
   (ae (aN (aF bz (pv 1) ab (au _))
     (ak (ar (aJ ac)))
     aM)
   (ak (ar (gE (own:=["_law_one"]) (fr:=["_law_most"]) (js:=[1]) (by walk_at "comp_ok") rfl (di (K:=K) rfl (pv 0)) (λ_ _ _ _=>(aV (i:=0) (show List.Nodup (["_law_one","_law_most"]:List Str)from by decide +kernel) rfl (Or.inl rfl))) (λ_ _ _ _=>(ad (tU hNS hTr hdp rfl rfl rfl rfl rfl) (pv 0) (pv 1))))))))),?_⟩
  refine ao ?_;refine⟨_,rfl,a,rfl,⟨_,SqL.of hA⟩,gX (K:=K) (a:=a) (xs:=ns.map V.int) (λi σ' H'=>∃z:Option V,σ'=[some (.ref a),some (.int (ay (ns.take i):Nat)),z]/\H=H') ⟨none,rfl,rfl⟩ (λi σ' H' _ ⟨z,_,e⟩=>by rw[<- e];exact SqL.of hA) ?_ ?_⟩
  ·rintro i y σ' H' hi ⟨z,rfl,rfl⟩;obtain⟨n,e,rfl,_,et⟩:=fE hi;refine⟨_,rfl,_,rfl,_,_,rfl,?_⟩;refine⟨some (.int n),?_,rfl⟩;rw[et,xn,BR];rfl
  ·rintro σ' H' ⟨z,rfl,rfl⟩;rw[A4,BC];dsimp only
   refine bh ⟨_,rfl,_,_,rfl,rfl,_,rfl,aD (λh0=>?_) (λh0=>?_)⟩
   ·have hnil:ns=[]:=Classical.byContradiction λhne=>by have g1:=oR ht hne;have:((ay ns:Nat):Int)=0:=h0;omega
    subst hnil;exact⟨A8 _,λp hp=>k p _ (Same.upd_new hp) hp (by rw[ah];rfl)⟩
   ·have hne:ns≠[]:=λz=>h0 (by rw[z];rfl)
    have g1:=oR ht hne;refine aK ⟨_,rfl,a,rfl,⟨_,SqL.of hA⟩,kK (K:=K) (a:=a) (xs:=ns.map V.int) (λi ys σ' H'=>∃(z0:Option V),σ'=[z0,some (.int (ay ns:Nat))]/\ys=((ns.take i).map λx=>x/(ay ns:Int)).map V.int/\H=H') (by rw[A4];omega) ⟨none,rfl,rfl,rfl⟩ ?_ ?_ ?_⟩
    ·rintro i ys σ' H' _ ⟨z0,rfl,rfl,rfl⟩;exact⟨SqL.of hA,by rw[A4,A4,Bz];exact Nat.min_le_left _ _⟩
    ·rintro i x ys σ' H' hi ⟨z0,rfl,rfl,rfl⟩;obtain⟨c,e,rfl,_,et⟩:=fE hi;refine⟨_,rfl,_,rfl,_,_,rfl,rfl,g1,_,rfl,?_,rfl⟩;rw[et];simp
    ·rintro ys σ' H' p ⟨z0,rfl,rfl,rfl⟩ hp;refine k p _ (Same.upd_new hp) hp ?_;rw[ah,A4,BC];rfl
def ml:Sp:=λvs H Q _=>∃(a:Addr) (ns:List Int),vs=[.ref a]/\H a=some (.lst (ns.map V.int))/\Tr ns/\ns.length<=1000000/\mkL H Q (aB ns)
theorem yF(r:List Int)(x:Int):atI ((r++[x]).map V.int) (-1)=some (.int x):=by rw[Bw];exact ql _ _
theorem uK(F:Fun K "_law_plain" "_law_plain" jh f fd)(T:Txt K mg)(zu:Cal P w K mg base 33 "_law_shrunk" ["_law_kp"] lZ AJ Ad):FnOk P w K mg base CX0 34 f fd ["_law_kp"] ml:=by
 obtain⟨yZ,vY,wJ,yw⟩:=zu;refine F.ok sc__law_plain (λvs H Q E h=>?_) (λcdv A outer s H vs Q E hr h=>?_)
 ·obtain⟨a,ns,rfl,_⟩:=h;rfl
 ·obtain⟨a,ns,rfl,hA,ht,hn,k⟩:=h;have big:=sizeLine_eq
  refine⟨_,(ae (ai (i:=1) sc__law_plain.nd rfl (Or.inl rfl) (am yZ (hr.mono) rfl vY wJ yw .nil aj (aa (pv 0) ac)))
   (ae (aN (PW.pt (cE (aF cq (bg (bZ (K:=K) rfl) (by rfl) T.len_ PySem.boot_len (aa (pv 1) ac)) ab (au _)) (cZ (aF cH (af (aA (K:=K) rfl) (pv 1) (bF bC ab) (λ_ _=>rfl)) ab (au _)))))
     (ak (ar (gE (own:=["_law_one"]) (fr:=[]) (js:=[]) (by walk_at "comp_ok") rfl (di (K:=K) rfl (pv 1)) (λ_ _ _ _=>(aV (i:=0) (show List.Nodup (["_law_one"]:List Str)from by decide +kernel) rfl (Or.inl rfl))) (λ_ _ _ _=>(ad aO ab (pv 0))))))
     aM)
   (ak (ar (pv 1))))),?_⟩
  refine ao ⟨_,rfl,a,ns,rfl,hA,ht,hn,λp H1 s1 hp e1=>?_⟩;have hsl:(aE ns).length=ns.length:=A4 _;refine cn (λσ' H'=>σ'=[some (.ref a),some (.ref p)]/\H1=H'/\bo (aE ns)=aE ns) ?_ ?_
  ·rintro σ' H' ⟨rfl,rfl,e3⟩;exact⟨_,rfl,k p H1 s1 hp (by rw[e1];show _=some (HO.lst ((bo (aE ns)).map V.int));rw[e3])⟩
  intro rest;refine cD ⟨_,rfl,p,_,rfl,.inl (SqL.of e1),_,_,rfl,rfl,_,rfl,aD (λh0=>?_) (λh0=>?_)⟩
  ·rw[A4]at h0;have hne:aE ns≠[]:=λz=>by rw[z]at h0;exact absurd h0 (by decide)
   obtain⟨r,x,er⟩:=(ck (aE ns)).resolve_left hne;refine⟨_,rfl,_,rfl,p,_,_,.int x,rfl,rfl,SqL.of e1,(by rw[er];exact yF r x),_,_,rfl,rfl,_,rfl,?_⟩;have elast:bR (aE ns)=x:=by rw[er,fy]
   refine aD (λhx=>?_) (λhx=>?_)
   ·have hx':x<0:=hx;have epos:bo (aE ns)=(aE ns).map λx => -x:=by unfold bo;rw[elast,if_pos hx']
    refine aK ⟨_,rfl,p,rfl,⟨_,SqL.of e1⟩,kK (K:=K) (a:=p) (xs:=(aE ns).map V.int) (λi ys σ' H'=>∃(z0:Option V),σ'=[z0]/\ys=(((aE ns).take i).map λx => -x).map V.int/\H1=H') (by rw[A4,hsl];omega) ⟨none,rfl,rfl,rfl⟩ ?_ ?_ ?_⟩
    ·rintro i ys σ' H' _ ⟨z0,rfl,rfl,rfl⟩;exact⟨SqL.of e1,by rw[A4,A4,Bz];exact Nat.min_le_left _ _⟩
    ·rintro i x ys σ' H' hi ⟨z0,rfl,rfl,rfl⟩;obtain⟨c,e,rfl,_,et⟩:=fE hi;refine⟨_,rfl,_,_,rfl,rfl,_,rfl,?_,rfl⟩;rw[et];simp
    ·rintro ys σ' H' p' ⟨z0,rfl,rfl,rfl⟩ hp';refine k p' _ (s1.then_new hp') (s1.free hp') ?_;rw[ah,A4,BC];show _=some (HO.lst ((bo (aE ns)).map V.int));rw[epos]
   ·exact rest _ _ ⟨rfl,rfl,by unfold bo;rw[elast,if_neg hx]⟩
  ·rw[A4]at h0;have he':aE ns=[]:=Bm.mp (by omega);exact rest _ _ ⟨rfl,rfl,by rw[he'];rfl⟩
theorem vw(c:Int)(l:List Int)(n:Nat):ap [c] l n=c*cf l n:=by unfold ap;show sm [c] l n 0+tm [c] l n 0=_;unfold sm tm;rw[if_pos (A8 _),kL,B1,Int.zero_add]
def Fac(m:Int)(l:List Int):Prop:=∃u e b:Int,l=[u,e,b] /\ -m<=u/\u<=m /\ -36<e/\e<36/\1<=b/\b<=3/\NS e
theorem aX{x m:Int}(h:0<m):0<=x%m/\x%m<m:=⟨Int.emod_nonneg _ (Int.ne_of_gt h),Cj _ h⟩
def md:Sp:=λvs H Q _=>∃(p:Addr) (l:List Int),vs=[.ref p]/\H p=some (.tup (l.map V.int))/\Fac 100000000 l/\mkL H Q (aP l)
theorem lI{u e b:Int}(hb:0<b):Tr (ax u e b)/\ax u e b≠[]:=by obtain⟨tr,l2⟩:=ip (u:=u) (e:=e) (b:=b) (by omega);exact⟨tr,λz=>by rw[z]at l2;simp at l2⟩
theorem mW{u e b:Int}(h1 : -100000000<=u)(h2:u<=100000000)(h3 : -36<e)(h4:e<36)(h5:1<=b)(h6:b<=3):AllB 56 (ax u e b):=by
 have q1:(u*u).natAbs<=100000000*100000000:=k7 (by omega) (by omega);have q2:(b*u).natAbs<=3*100000000:=k7 (by omega) (by omega);have q3:(b*b).natAbs<=3*3:=k7 (by omega) (by omega);have q4 : -2*b*u = -2*(b*u):=by grind
 unfold ax;split
 ·intro x hx;simp only[Bb,BD,or_false]at hx;rcases hx with rfl |rfl
  ·show(-u).natAbs<72057594037927936;omega
  ·show x.natAbs<72057594037927936;omega
 ·intro x hx;simp only[Bb,BD,or_false]at hx;rcases hx with rfl |rfl |rfl
  ·show(u*u-e).natAbs<72057594037927936;omega
  ·rw[q4];show(-2*(b*u)).natAbs<72057594037927936;omega
  ·show(b*b).natAbs<72057594037927936;omega
theorem uH(F:Fun K "_law_shape" "_law_shape" je f fd)(T:Txt K mg)(zy:Cal P w K mg base 34 "_law_plain" ["_law_kp"] ml AN Ah):FnOk P w K mg base CX0 35 f fd ["_law_factor"] md:=by
 obtain⟨qB,n6,oB,qg⟩:=zy;refine F.ok sc__law_shape (λvs H Q E h=>?_) (λcdv A outer s H vs Q E hr h=>?_)
 ·obtain⟨p,l,rfl,_⟩:=h;rfl
 ·obtain⟨p,l,rfl,hP,⟨u,e,b,rfl,h1,h2,h3,h4,h5,h6,h7⟩,k⟩:=h;have hb:=mW h1 h2 h3 h4 h5 h6;obtain⟨tr,hne⟩:=lI (u:=u) (e:=e) (b:=b) (by omega)
  replace k:mkL H Q (aB (ax u e b)):=k
  have bu:Bits 31 u:=by show u.natAbs<2147483648;omega
  have bb:Bits 2 b:=by show b.natAbs<4;omega
  refine⟨_,(ae (ai (i:=1) sc__law_shape.nd rfl (Or.inl rfl) (af (al (K:=K) rfl) (pv 0) ab (λ_ _=>rfl)))
   (ae (ai (i:=2) sc__law_shape.nd rfl (Or.inl rfl) (af (al (K:=K) rfl) (pv 0) ab (λ_ _=>rfl)))
   (ae (aN (aF bz (af (al (K:=K) rfl) (pv 0) ab (λ_ _=>rfl)) ab (au _))
     (ak (ar (am qB (hr.mono) rfl n6 oB qg .nil aj (aa (aJ (aa (ad aO ab (pv 1)) (aa (pv 2) ac))) ac))))
     aM)
   (ak (ar (am qB (hr.mono) rfl n6 oB qg .nil aj (aa (aJ (aa (ad aO (ad aw (pv 1) (pv 1)) (af (al (K:=K) rfl) (pv 0) ab (λ_ _=>rfl))) (aa (ad aw (ad aw (bF bC ab) (pv 2)) (pv 1)) (aa (ad aw (pv 2) (pv 2)) ac)))) ac))))))),?_⟩
  refine ao ⟨_,rfl,p,_,_,_,rfl,rfl,SqT.of hP,rfl,?_⟩;refine ao ⟨_,rfl,p,_,_,_,rfl,rfl,SqT.of hP,rfl,?_⟩;refine bh ⟨_,rfl,p,_,_,_,rfl,rfl,SqT.of hP,rfl,_,_,rfl,rfl,_,rfl,aD (λh0=>?_) (λh0=>?_)⟩
  ·have h0':e=0:=h0;subst h0';have er:ax u 0 b=[0-u,b]:=by unfold ax;rw[if_pos rfl,Int.zero_sub]
   rw[er]at hb tr k;refine⟨_,rfl,_,_,rfl,rfl,_,rfl,by show 2<=sizeLine;decide,λq hq=>?_⟩;refine⟨q,[0-u,b],rfl,ah,tr,by show 2<=1000000;decide,λp' H' sm hp' e'=>k p' H' ((Same.upd_new hq).trans sm) ((Same.upd_new hq).free hp') e'⟩
  ·have h0':¬e=0:=h0;have er:ax u e b=[u*u-e,-2*b*u,b*b]:=by unfold ax;rw[if_neg h0']
   rw[er]at hb tr k;refine aK ⟨_,rfl,_,rfl,_,_,rfl,rfl,⟨bu.mono,bu.mono⟩,_,rfl,p,_,_,_,rfl,rfl,SqT.of hP,rfl,_,_,rfl,rfl,?_⟩;refine⟨_,rfl,_,rfl,_,_,rfl,rfl,⟨Bits.mono (j:=2) (by show(-2:Int).natAbs<2^2;decide) (by decide),bb.mono⟩,_,rfl,_,_,rfl,rfl,⟨Bits.mono (j:=4) (Bits.mul (j:=2) (k:=2) (by show(-2:Int).natAbs<2^2;decide) bb) (by decide),bu.mono⟩,?_⟩;refine⟨_,rfl,_,rfl,_,_,rfl,rfl,⟨bb.mono,bb.mono⟩,by show 3<=sizeLine;decide,λq hq=>?_⟩;refine⟨q,[u*u-e,-2*b*u,b*b],rfl,ah,tr,by show 3<=1000000;decide,λp' H' sm hp' e'=>k p' H' ((Same.upd_new hq).trans sm) ((Same.upd_new hq).free hp') e'⟩
theorem mM{l:List Int}(h:Fac 100000000 l):Tr (aP l)/\aP l≠[]/\AllB 56 (aP l)/\2<=(aP l).length/\(aP l).length<=3:=by
 obtain⟨u,e,b,rfl,h1,h2,h3,h4,h5,h6,h7⟩:=h;have hb:=mW h1 h2 h3 h4 h5 h6;obtain⟨tr,hne⟩:=lI (u:=u) (e:=e) (b:=b) (by omega);have hl:(ax u e b).length=2\/(ax u e b).length=3:=by unfold ax;split;exact .inl rfl;exact .inr rfl
 show Tr (aB (ax u e b))/\aB (ax u e b)≠[]/\AllB 56 (aB (ax u e b))/\2<=(aB (ax u e b)).length/\(aB (ax u e b)).length<=3;have pl:=RM.plain_len (ax u e b);refine⟨lJ tr,λz=>by rw[z]at pl;simp at pl;omega,AllB.of_cf λn=>?_,by omega,by omega⟩;obtain⟨g,hg,eg⟩:=d9 tr;have h7:=hb.cf n;rw[eg n]at h7;refine h7.of_le ?_;rw[Bt];exact Nat.le_mul_of_pos_left _ (BZ.mpr hg)
def mj:Sp:=λvs H Q _=>∃(a:Addr) (qs:List Addr) (fs:List (List Int)),vs=[.ref a]/\H a=some (.lst (qs.map V.ref))/\TuH H qs fs/\(∀l∈fs,Fac 100000000 l)/\fs.length<=8/\mkL H Q (bE [1] (fs.map aP))
theorem jI{fs:List (List Int)}(hF:∀l∈fs,Fac 100000000 l):∀n,n<=fs.length->n<=8->AllB (2+75*n) (bE [1] ((fs.take n).map aP))/\(bE [1] ((fs.take n).map aP)).length<=1+2*n
 |0,_,_=>⟨λx hx=>by
  rw[List.take_zero]at hx;have:x=1:=by simpa[bE]using hx
  rw[this];show(1:Int).natAbs<2^2;decide,by rw[List.take_zero];decide⟩
 |n+1,h,h'=>by
  obtain⟨i1,i2⟩:=jI hF n (by omega) (by omega);have e:fs.take (n+1)=fs.take n++[fs[n]]:=by rw[BM,List.getElem?_eq_getElem (by omega)];rfl
  obtain⟨g1,g2,g3,g4,g5⟩:=mM (hF fs[n] (BI _));rw[e,Bw,BU,List.map_nil,nh];refine⟨gI i1 g3 (by omega),?_⟩;unfold ag;split
  ·exact A8 _
  ·rw[A4,BY];omega
theorem uJ(F:Fun K "_law_product" "_law_product" jg f fd)(T:Txt K mg)(fU:Cal P w K mg base 1 "_law_mul" ["_law_kp","_law_kq"] gf o7 o2)(zv:Cal P w K mg base 35 "_law_shape" ["_law_factor"] md AK Ae):FnOk P w K mg base CX0 36 f fd ["_law_factors"] mj:=by
 obtain⟨dL,du,dB,dH⟩:=fU;obtain⟨y6,vZ,wK,yx⟩:=zv;refine F.ok sc__law_product (λvs H Q E h=>?_) (λcdv A outer s H vs Q E hr h=>?_)
 ·obtain⟨a,qs,fs,rfl,_⟩:=h;rfl
 ·obtain⟨a,qs,fs,rfl,hA,hT,hF,hn,k⟩:=h
  refine⟨_,(ae (ai (i:=1) sc__law_product.nd rfl (Or.inl rfl) (aJ (aa ab ac)))
   (ae (bD PassesOwn.never rfl (di (K:=K) rfl (pv 0)) (aV (i:=2) sc__law_product.nd rfl (Or.inl rfl))
     (ak (ai (i:=1) sc__law_product.nd rfl (Or.inl rfl) (am dL (hr.mono) rfl du dB dH .nil aj (aa (pv 1) (aa (am y6 (hr.mono) rfl vZ wK yx .nil aj (aa (pv 2) ac)) ac))))))
   (ak (ar (pv 1))))),?_⟩
  refine ao ⟨by show 1<=sizeLine;decide,λp0 hp0=>?_⟩;have s1:Same H (upd H p0 (.lst [V.int 1])):=Same.upd_new hp0;have q1:upd H p0 (.lst [V.int 1]) p0=some (.lst (([1]:List Int).map V.int)):=ah;generalize upd H p0 (.lst [V.int 1])=H1 at s1 q1 ⊢
  have hpl:(qs.map V.ref).length=fs.length:=by rw[A4,hT.1]
  refine⟨_,rfl,a,rfl,⟨_,SqL.of (s1 _ _ hA)⟩,gX (K:=K) (a:=a) (xs:=qs.map V.ref) (λi σ' H'=>∃(z2:Option V) (p:Addr),σ'=[some (.ref a),some (.ref p),z2]/\Same H H'/\H p=none/\H' p=some (.lst ((bE [1] ((fs.take i).map aP)).map V.int))) ⟨none,p0,rfl,s1,hp0,q1⟩ ?_ ?_ ?_⟩
  ·rintro i σ' H' _ ⟨z2,p,rfl,sm,_⟩;exact SqL.of (sm _ _ hA)
  ·rintro i x σ' H' hi ⟨z2,p,rfl,sm,hp,ep⟩;obtain⟨q,l,rfl,eq,el,hq,hlt⟩:=(hT.same sm).of_get hi;have hl:=hF l (List.mem_of_getElem? el);obtain⟨g1,g2,g3,g4,g5⟩:=mM hl;obtain⟨i1,i2⟩:=jI hF i (by omega) (by omega);refine⟨_,rfl,_,rfl,q,l,rfl,hq,hl,λr H3 s3 hr3 e3=>?_⟩;refine⟨p,r,bE [1] ((fs.take i).map aP),aP l,rfl,s3 _ _ ep,e3,by omega,by omega,i1.mono (by omega),g3.mono,λr2 H4 s4 hr4 e4=>?_⟩;have t4:=sm.trans (s3.trans s4);refine⟨_,r2,rfl,t4,(sm.trans s3).free hr4,?_⟩;rw[e4,BM,el];show _=some (HO.lst ((bE [1] ((fs.take i++[l]).map aP)).map V.int));rw[Bw,BU,List.map_nil,nh]
  ·rintro σ' H' ⟨z2,p,rfl,sm,hp,ep⟩;rw[hpl,BC]at ep;exact⟨_,rfl,k p H' sm hp ep⟩
def SpB(l:List Int):Prop:=∃u e b s:Int,l=[u,e,b,s] /\ -100000000<=u/\u<=100000000/\0<=e/\e<36/\1<=b/\b<=3
def lW:Sp:=λvs H Q _=>∃sq due:Int,vs=[.int sq,.int due]/\Bits 400000 due/\Q (.int (cR sq due)) H
theorem uD(F:Fun K "_law_sure" "_law_sure" jb f fd)(T:Txt K mg):FnOk P w K mg base CX0 1 f fd ["_law_square","_law_due"] lW:=by
 refine F.ok rZ (λvs H Q E h=>?_) (λcdv A outer s H vs Q E hr h=>?_)
 ·obtain⟨sq,due,rfl,_⟩:=h;rfl
 ·obtain⟨sq,due,rfl,hb,k⟩:=h
  refine⟨_,(ae (aN (PW.pt (jG (aF cH (pv 1) ab (au _)) (jF (aF cq (pv 0) (ad aw (pv 1) (pv 1)) (au _)))))
   (ak (ar ab))
   aM)
   (ak (ar (ad aO ab (c6 ic (by rfl) T.int_ PyProof.Rows.boot_int (aa (bN cH (pv 0) (ad aw (pv 1) (pv 1)) (au _)) ac)))))),?_⟩
  refine cn (λσ' H'=>σ'=[some (.int sq),some (.int due)]/\H=H'/\¬(due<0\/due*due<sq)) ?_ ?_
  case refine_2 =>
   intro rest;refine jy ⟨_,rfl,_,_,rfl,rfl,_,rfl,aD (λh1=>?_) (λh1=>?_)⟩
   ·refine cm ?_;unfold cR at k
    rw[if_pos (.inl h1)]at k;exact k
   ·refine⟨_,rfl,_,rfl,_,rfl,_,_,rfl,rfl,⟨hb.mono,hb.mono⟩,_,_,rfl,rfl,_,rfl,aD (λh2=>?_) (λh2=>?_)⟩
    ·unfold cR at k
     rw[if_pos (.inr h2)]at k;exact k
    ·exact rest _ _ ⟨rfl,rfl,λz=>z.elim h1 h2⟩
  rintro σ' H' ⟨rfl,rfl,hn⟩;refine aK ⟨_,rfl,_,rfl,_,rfl,_,_,rfl,rfl,⟨hb.mono,hb.mono⟩,_,_,rfl,rfl,.inr ⟨_,rfl,_,_,rfl,rfl,?_⟩⟩;unfold cR at k
  rw[if_neg hn]at k;by_cases h3:sq<due*due
  ·rw[if_pos h3]at k;rw[decide_eq_true h3];exact k
  ·rw[if_neg h3]at k;rw[decide_eq_false h3];exact k
def lY:Sp:=λvs H Q _=>∃(p:Addr) (l:List Int) (t n:Int),vs=[.ref p,.int t,.int n]/\H p=some (.tup (l.map V.int))/\SpB l/\Bits 100000 t/\Bits 100000 n/\Q (.int (bj l t n)) H
theorem uF(F:Fun K "_law_side" "_law_side" jd f fd)(T:Txt K mg)(zq:Cal P w K mg base 1 "_law_sure" ["_law_square","_law_due"] lW AG Aa):FnOk P w K mg base CX0 2 f fd ["_law_spot","_law_top","_law_bottom"] lY:=by
 obtain⟨qx,nX,ox,qc⟩:=zq;refine F.ok sc__law_side (λvs H Q E h=>?_) (λcdv A outer s H vs Q E hr h=>?_)
 ·obtain⟨p,l,t,n,rfl,_⟩:=h;rfl
 ·obtain⟨p,l,t,n,rfl,hP,⟨u,e,b,s,rfl,h1,h2,h3,h4,h5,h6⟩,bt,bn,k⟩:=h;have bu:Bits 28 u:=by show u.natAbs<268435456;omega
  have bb:Bits 6 b:=by show b.natAbs<64;omega
  have be:Bits 6 e:=by show e.natAbs<64;omega
  have bd:Bits 100030 (b*t-u*n):=Bits.sub (k:=100029) ((bb.mul bt).mono) ((bu.mul bn).mono)
  refine⟨_,(ae (ai (i:=3) sc__law_side.nd rfl (Or.inl rfl) (ad aO (ad aw (af (al (K:=K) rfl) (pv 0) ab (λ_ _=>rfl)) (pv 1)) (ad aw (af (al (K:=K) rfl) (pv 0) ab (λ_ _=>rfl)) (pv 2))))
   (ae (ai (i:=4) sc__law_side.nd rfl (Or.inl rfl) (ad aw (ad aw (af (al (K:=K) rfl) (pv 0) ab (λ_ _=>rfl)) (pv 2)) (pv 2)))
   (ae (aN (aF cq (af (al (K:=K) rfl) (pv 0) ab (λ_ _=>rfl)) ab (au _))
     (ak (ar (am qx (hr.mono) rfl nX ox qc .nil aj (aa (pv 4) (aa (pv 3) ac)))))
     aM)
   (ak (ar (ad aO ab (am qx (hr.mono) rfl nX ox qc .nil aj (aa (pv 4) (aa (ad aO ab (pv 3)) ac))))))))),?_⟩
  refine ao ⟨_,rfl,p,_,_,_,rfl,rfl,SqT.of hP,rfl,_,rfl,_,_,rfl,rfl,⟨bb.mono,bt.mono⟩,_,rfl,p,_,_,_,rfl,rfl,SqT.of hP,rfl,_,rfl,_,_,rfl,rfl,⟨bu.mono,bn.mono⟩,_,_,rfl,rfl,?_⟩;refine ao ⟨_,rfl,p,_,_,_,rfl,rfl,SqT.of hP,rfl,_,rfl,_,_,rfl,rfl,⟨be.mono,bn.mono⟩,_,rfl,_,_,rfl,rfl,⟨(be.mul bn).mono,bn.mono⟩,?_⟩;refine bh ⟨_,rfl,p,_,_,_,rfl,rfl,SqT.of hP,rfl,_,_,rfl,rfl,_,rfl,aD (λhs=>?_) (λhs=>?_)⟩
  ·refine⟨_,rfl,_,rfl,_,_,rfl,bd.mono,?_⟩;have hs':0<cf [u,e,b,s] 3:=hs;unfold bj at k
   rw[if_pos hs']at k;exact k
  ·have hs':¬0<cf [u,e,b,s] 3:=hs;refine aK ⟨_,rfl,_,rfl,_,_,rfl,rfl,_,_,rfl,?_,_,_,rfl,rfl,?_⟩
   ·have:=bd.neg;rw[<- Int.zero_sub]at this;exact this.mono
   unfold bj at k
   rw[if_neg hs']at k;exact k
theorem xK{f l:List Int}(h:Fac 100000000 f)(hl:l∈spF f):SpB l:=by obtain⟨u,e,b,rfl,h1,h2,h3,h4,h5,h6,h7⟩:=h;obtain⟨_,s,rfl,he,_⟩:=rm rfl h5 hl;exact⟨u,e,b,s,rfl,h1,h2,he,h4,h5,h6⟩
theorem lS{fs:List (List Int)}(hF:∀f∈fs,Fac 100000000 f):∀l∈spots fs,SpB l:=λl hl=>by obtain⟨f,hf,hm⟩:=List.mem_flatMap.mp hl;exact xK (hF f hf) hm
theorem rp(f:List Int):(spF f).length<=2:=by unfold spF;split<;>split<;>simp
theorem iz:∀fs:List (List Int),(spots fs).length<=2*fs.length
 | []=>A5 _
 |f::fs=>by
  have e1:spots (f::fs)=spF f++spots fs:=by unfold spots;rw[List.flatMap_cons]
  have h1:=rp f;have h2:=iz fs;rw[e1,Ba,Bl];omega
theorem rk{fs:List (List Int)}{i:Nat}{f:List Int}(h:fs[i]?=some f):spots (fs.take (i+1))=spots (fs.take i)++spF f:=by unfold spots;rw[BM,h,List.flatMap_append];show _++List.flatMap spF [f]=_;rw[List.flatMap_singleton]
def mi:Sp:=λvs H Q _=>∃(a:Addr) (qs:List Addr) (fs:List (List Int)),vs=[.ref a]/\H a=some (.lst (qs.map V.ref))/\TuH H qs fs/\(∀l∈fs,Fac 100000000 l)/\fs.length<=100/\∀(p:Addr) (H':Hp) (ws:List Addr),Same H H'->H p=none->H' p=some (.lst (ws.map V.ref))->TuH H' ws (spots fs)->Q (.ref p) H'
theorem uI(F:Fun K "_law_roots_of" "_law_roots_of" jf f fd)(T:Txt K mg):FnOk P w K mg base CX0 1 f fd ["_law_factors"] mi:=by
 refine F.ok sc__law_roots_of (λvs H Q E h=>?_) (λcdv A outer s H vs Q E hr h=>?_)
 ·obtain⟨a,qs,fs,rfl,_⟩:=h;rfl
 ·obtain⟨a,qs,fs,rfl,hA,hT,hF,hn,k⟩:=h;have big:=sizeLine_eq
  refine⟨_,(ae (ai (i:=1) sc__law_roots_of.nd rfl (Or.inl rfl) (aJ ac))
   (ae (bD PassesOwn.never rfl (di (K:=K) rfl (pv 0)) (aV (i:=2) sc__law_roots_of.nd rfl (Or.inl rfl))
     (ae (aN (aF jP (af (al (K:=K) rfl) (pv 2) ab (λ_ _=>rfl)) ab (au _))
       (ak (cF (c7 PySem.F.plainAttrs_list PySem.F.slot_list_append PySem.F.type_list_append c9 (pv 1) (aa (aR (aa (af (al (K:=K) rfl) (pv 2) ab (λ_ _=>rfl)) (aa (af (al (K:=K) rfl) (pv 2) ab (λ_ _=>rfl)) (aa (af (al (K:=K) rfl) (pv 2) ab (λ_ _=>rfl)) (aa ab ac))))) ac))))
       aM)
       (ak (aN (aF cq (af (al (K:=K) rfl) (pv 2) ab (λ_ _=>rfl)) ab (au _))
         (ak (cF (c7 PySem.F.plainAttrs_list PySem.F.slot_list_append PySem.F.type_list_append c9 (pv 1) (aa (aR (aa (af (al (K:=K) rfl) (pv 2) ab (λ_ _=>rfl)) (aa (af (al (K:=K) rfl) (pv 2) ab (λ_ _=>rfl)) (aa (af (al (K:=K) rfl) (pv 2) ab (λ_ _=>rfl)) (aa (bF bC ab) ac))))) ac))))
         aM))))
   (ak (ar (pv 1))))),?_⟩
  refine ao ⟨A8 _,λpm hpm=>?_⟩;have s1:Same H (upd H pm (.lst [])):=Same.upd_new hpm;have q1:upd H pm (.lst []) pm=some (.lst []):=ah;generalize upd H pm (.lst [])=H1 at s1 q1 ⊢
  have hpl:(qs.map V.ref).length=fs.length:=by rw[A4,hT.1]
  refine⟨_,rfl,a,rfl,⟨_,SqL.of (s1 _ _ hA)⟩,gX (K:=K) (a:=a) (xs:=qs.map V.ref) (λi σ' H'=>∃(z2:Option V) (ws:List Addr),σ'=[some (.ref a),some (.ref pm),z2]/\Same H H'/\H' pm=some (.lst (ws.map V.ref))/\TuH H' ws (spots (fs.take i))) ⟨none,[],rfl,s1,q1,TuH.nil⟩ ?_ ?_ ?_⟩
  ·rintro i σ' H' _ ⟨z2,ws,rfl,sm,_⟩;exact SqL.of (sm _ _ hA)
  ·rintro i x σ' H' hi ⟨z2,ws,rfl,sm,em,hW⟩;obtain⟨q,l,rfl,eq,el,hq,hlt⟩:=(hT.same sm).of_get hi;have hmem:=List.mem_of_getElem? el;obtain⟨u,e,b,rfl,h1,h2,h3,h4,h5,h6,h7⟩:=hF l hmem;have hd:spF [u,e,b]=(if 0<=e then[[u,e,b,1]]else[])++(if 0<e then[[u,e,b,-1]]else[]):=rfl
   have hwl:ws.length<=200:=by rw[hW.1];have:=iz (fs.take i);rw[Bz]at this;omega
   rw[rk el,hd];dsimp only
   refine cn (λσ' H'=>∃(ws:List Addr),σ'=[some (.ref a),some (.ref pm),some (.ref q)]/\Same H H'/\H' pm=some (.lst (ws.map V.ref))/\TuH H' ws (spots (fs.take i)++(if 0<=e then[[u,e,b,1]]else[]))/\ws.length<=201) ?_ ?_
   case refine_2 =>
    intro rest;refine⟨_,rfl,q,_,_,_,rfl,rfl,SqT.of hq,rfl,_,_,rfl,rfl,_,rfl,aD (λh0=>?_) (λh0=>?_)⟩
    ·have h0':0<=e:=h0;refine jA ⟨_,rfl,.inl ⟨rfl,_,SqL.of em⟩,_,rfl,q,_,_,_,rfl,rfl,SqT.of hq,rfl,_,rfl,q,_,_,_,rfl,rfl,SqT.of hq,rfl,_,rfl,q,_,_,_,rfl,rfl,SqT.of hq,rfl,by show 4<=sizeLine;decide,λp hp=>?_⟩;have s3:Same H' (upd H' p (.tup ([u,e,b,1].map V.int))):=Same.upd_new hp;have e3:upd H' p (.tup ([u,e,b,1].map V.int)) p=some (.tup ([u,e,b,1].map V.int)):=ah;have em3:=s3 _ _ em;refine⟨pm,_,_,rfl,rfl,em3,by rw[A4];omega,?_⟩;refine rest _ _ ⟨ws++[p],rfl,cu (sm.trans s3) hpm,by rw[ah,gK],?_,by rw[Ba];show ws.length+1<=_;omega⟩;rw[if_pos h0'];exact((hW.same s3).snoc e3).upd_lst em3
    ·have h0':¬0<=e:=h0;refine rest _ _ ⟨ws,rfl,sm,em,?_,by omega⟩;rw[if_neg h0',List.append_nil];exact hW
   clear em hW hwl ws sm hq;rintro σ' H3 ⟨ws,rfl,sm,em,hW,hwl⟩;obtain⟨q',l',ee,eq',el',hq,_⟩:=(hT.same sm).of_get hi;rw[eq]at eq';rw[el]at el';obtain rfl:=Option.some.inj eq';obtain rfl:=Option.some.inj el';refine gx ⟨_,rfl,q,_,_,_,rfl,rfl,SqT.of hq,rfl,_,_,rfl,rfl,_,rfl,aD (λh0=>?_) (λh0=>?_)⟩
   ·have h0':0<e:=h0;refine jA ⟨_,rfl,.inl ⟨rfl,_,SqL.of em⟩,_,rfl,q,_,_,_,rfl,rfl,SqT.of hq,rfl,_,rfl,q,_,_,_,rfl,rfl,SqT.of hq,rfl,_,rfl,q,_,_,_,rfl,rfl,SqT.of hq,rfl,_,rfl,by show 4<=sizeLine;decide,λp hp=>?_⟩;have s3:Same H3 (upd H3 p (.tup ([u,e,b,-1].map V.int))):=Same.upd_new hp;have e3:upd H3 p (.tup ([u,e,b,-1].map V.int)) p=some (.tup ([u,e,b,-1].map V.int)):=ah;have em3:=s3 _ _ em;refine⟨pm,_,_,rfl,rfl,em3,by rw[A4];omega,?_⟩;refine⟨_,ws++[p],rfl,cu (sm.trans s3) hpm,by rw[ah,gK],?_⟩;rw[if_pos h0',<- List.append_assoc];exact((hW.same s3).snoc e3).upd_lst em3
   ·have h0':¬0<e:=h0;refine⟨_,ws,rfl,sm,em,?_⟩;rw[if_neg h0',List.append_nil];exact hW
  ·rintro σ' H' ⟨z2,ws,rfl,sm,em,hW⟩;rw[hpl,BC]at hW;exact⟨_,rfl,k pm H' ws sm hpm em hW⟩
def ge:Sp:=λvs H Q _=>∃a b c m:Int,vs=[.int a,.int b,.int c,.int m]/\Bits 2000 a/\Bits 2000 b/\Bits 2000 c/\Bits 10 m/\Q (.int (nrm m a b c)) H
theorem uO(F:Fun K "_law_norm" "_law_norm" jk f fd)(T:Txt K mg):FnOk P w K mg base CX0 1 f fd ["_law_a","_law_b","_law_c","_law_m"] ge:=by
 refine F.ok sc__law_norm (λvs H Q E h=>?_) (λcdv A outer s H vs Q E hr h=>?_)
 ·obtain⟨a,b,c,m,rfl,_⟩:=h;rfl
 ·obtain⟨a,b,c,m,rfl,ba,bb,bc,bm,k⟩:=h;have e:a*a*a+m*b*b*b+m*m*c*c*c-3*m*a*b*c=nrm m a b c:=by unfold nrm;grind
  rw[<- e]at k;have b3:Bits 2 (3:Int):=by show(3:Int).natAbs<2^2;decide
  have M:∀{i:Nat} {x:Int},Bits i x->i<=100000->Bits 1000000 x:=λh hi=>h.mono (by omega)
  have q1:=ba.mul ba;have q2:=bm.mul bb;have q3:=q2.mul bb;have q4:=bm.mul bm;have q5:=q4.mul bc;have q6:=q5.mul bc;have q7:=b3.mul bm;have q8:=q7.mul ba;have q9:=q8.mul bb
  refine⟨_,(ae (ai (i:=4) sc__law_norm.nd rfl (Or.inl rfl) (ad aW (ad aw (ad aw (pv 0) (pv 0)) (pv 0)) (ad aw (ad aw (ad aw (pv 3) (pv 1)) (pv 1)) (pv 1))))
   (ae (ai (i:=4) sc__law_norm.nd rfl (Or.inl rfl) (ad aW (pv 4) (ad aw (ad aw (ad aw (ad aw (pv 3) (pv 3)) (pv 2)) (pv 2)) (pv 2))))
   (ak (ar (ad aO (pv 4) (ad aw (ad aw (ad aw (ad aw ab (pv 3)) (pv 0)) (pv 1)) (pv 2))))))),?_⟩
  refine ao ⟨_,rfl,_,rfl,_,_,rfl,rfl,⟨M ba (by decide),M ba (by decide)⟩,_,rfl,_,_,rfl,rfl,⟨M q1 (by decide),M ba (by decide)⟩,_,rfl,_,rfl,_,_,rfl,rfl,⟨M bm (by decide),M bb (by decide)⟩,_,rfl,_,_,rfl,rfl,⟨M q2 (by decide),M bb (by decide)⟩,_,rfl,_,_,rfl,rfl,⟨M q3 (by decide),M bb (by decide)⟩,_,_,rfl,rfl,?_⟩;refine ao ⟨_,rfl,_,rfl,_,rfl,_,_,rfl,rfl,⟨M bm (by decide),M bm (by decide)⟩,_,rfl,_,_,rfl,rfl,⟨M q4 (by decide),M bc (by decide)⟩,_,rfl,_,_,rfl,rfl,⟨M q5 (by decide),M bc (by decide)⟩,_,rfl,_,_,rfl,rfl,⟨M q6 (by decide),M bc (by decide)⟩,_,_,rfl,rfl,?_⟩;exact aK ⟨_,rfl,_,rfl,_,_,rfl,rfl,⟨M b3 (by decide),M bm (by decide)⟩,_,rfl,_,_,rfl,rfl,⟨M q7 (by decide),M ba (by decide)⟩,_,rfl,_,_,rfl,rfl,⟨M q8 (by decide),M bb (by decide)⟩,_,rfl,_,_,rfl,rfl,⟨M q9 (by decide),M bc (by decide)⟩,_,_,rfl,rfl,k⟩
theorem az{x:Int}(h:x.natAbs<1024){k:Nat}(hk:10<=k):Bits k x:=Bits.mono (j:=10) h hk
def CT(H:Hp)(p:Addr)(a b c m:Int):Prop:=H p=some (.tup [.int a,.int b,.int c,.int m,.int 0])
def iE:Sp:=λvs H Q _=>∃(p:Addr) (a b c m:Int),vs=[.ref p]/\CT H p a b c m/\CubOk a b c m/\mkL H Q (av m a b c)
theorem uV(F:Fun K "_law_cube_shape" "_law_cube_shape" jq f fd)(T:Txt K mg)(fT:Cal P w K mg base 1 "_law_norm" ["_law_a","_law_b","_law_c","_law_m"] ge o6 o1):FnOk P w K mg base CX0 2 f fd ["_law_cube"] iE:=by
 obtain⟨fR,fx,fB,fM⟩:=fT;refine F.ok sc__law_cube_shape (λvs H Q E h=>?_) (λcdv A outer s H vs Q E hr h=>?_)
 ·obtain⟨p,a,b,c,m,rfl,_⟩:=h;rfl
 ·obtain⟨p,a,b,c,m,rfl,hp,hC,k⟩:=h;have ba:∀{k:Nat},10<=k->Bits k a:=λh=>az (by have:=hC.a9;omega) h
  have bb:∀{k:Nat},10<=k->Bits k b:=λh=>az (by have:=hC.b3;omega) h
  have bc:∀{k:Nat},10<=k->Bits k c:=λh=>az (by have:=hC.c3;omega) h
  have bm:∀{k:Nat},10<=k->Bits k m:=λh=>az (by have:=hC.m2;have:=hC.m7;omega) h
  refine⟨_,(ae (ai (i:=1) sc__law_cube_shape.nd rfl (Or.inl rfl) (af (al (K:=K) rfl) (pv 0) ab (λ_ _=>rfl)))
   (ae (ai (i:=2) sc__law_cube_shape.nd rfl (Or.inl rfl) (af (al (K:=K) rfl) (pv 0) ab (λ_ _=>rfl)))
   (ae (ai (i:=3) sc__law_cube_shape.nd rfl (Or.inl rfl) (af (al (K:=K) rfl) (pv 0) ab (λ_ _=>rfl)))
   (ae (ai (i:=4) sc__law_cube_shape.nd rfl (Or.inl rfl) (af (al (K:=K) rfl) (pv 0) ab (λ_ _=>rfl)))
   (ae (aN (PW.pt (cE (aF bz (pv 2) ab (au _)) (cZ (aF bz (pv 3) ab (au _)))))
     (ak (ar (aJ (aa (ad aO ab (pv 1)) (aa ab ac)))))
     aM)
   (ak (ar (aJ (aa (ad aO ab (am fR (hr.mono) rfl fx fB fM .nil aj (aa (pv 1) (aa (pv 2) (aa (pv 3) (aa (pv 4) ac)))))) (aa (ad aO (ad aw (ad aw ab (pv 1)) (pv 1)) (ad aw (ad aw (ad aw ab (pv 4)) (pv 2)) (pv 3))) (aa (ad aw (bF bC ab) (pv 1)) (aa ab ac)))))))))))),?_⟩
  refine ao ⟨_,rfl,p,_,_,_,rfl,rfl,SqT.of hp,rfl,?_⟩;refine ao ⟨_,rfl,p,_,_,_,rfl,rfl,SqT.of hp,rfl,?_⟩;refine ao ⟨_,rfl,p,_,_,_,rfl,rfl,SqT.of hp,rfl,?_⟩;refine ao ⟨_,rfl,p,_,_,_,rfl,rfl,SqT.of hp,rfl,?_⟩;show aT _ _ _ _ _;refine jz (λσ' H'=>σ'=[some (.ref p),some (.int a),some (.int b),some (.int c),some (.int m)]/\H=H') ⟨rfl,rfl⟩ ?_;rintro σ' H' ⟨rfl,rfl⟩;refine cn (λσ' H'=>σ'=[some (.ref p),some (.int a),some (.int b),some (.int c),some (.int m)]/\H=H') ?_ ?_
  case refine_2 =>intro rest;refine cD ⟨_,rfl,_,_,rfl,rfl,_,rfl,aD (λh1=>?_) (λ_=>bO (rest _ _ ⟨rfl,rfl⟩))⟩;exact⟨_,rfl,_,_,rfl,rfl,_,rfl,aD (λh2=>absurd ⟨h1,h2⟩ hC.bc) (λ_=>rest _ _ ⟨rfl,rfl⟩)⟩
  rintro σ' H' ⟨rfl,rfl⟩;have b3:∀{k:Nat},10<=k->Bits k (3:Int):=λh=>az (by decide) h
  refine aK ⟨_,rfl,_,rfl,_,rfl,_,rfl,a,b,c,m,rfl,ba (by decide),bb (by decide),bc (by decide),bm (by decide),_,_,rfl,rfl,?_⟩;refine⟨_,rfl,_,_,rfl,rfl,⟨b3 (by decide),ba (by decide)⟩,_,rfl,_,_,rfl,rfl,⟨Bits.mono (Bits.mul (b3 (k:=10) (by decide)) (ba (k:=10) (by decide))) (by decide),ba (by decide)⟩,_,rfl,_,_,rfl,rfl,⟨b3 (by decide),bm (by decide)⟩,_,rfl,_,_,rfl,rfl,⟨Bits.mono (Bits.mul (b3 (k:=10) (by decide)) (bm (k:=10) (by decide))) (by decide),bb (by decide)⟩,_,rfl,_,_,rfl,rfl,⟨Bits.mono (Bits.mul (Bits.mul (b3 (k:=10) (by decide)) (bm (k:=10) (by decide))) (bb (k:=10) (by decide))) (by decide),bc (by decide)⟩,_,_,rfl,rfl,?_⟩;refine⟨_,rfl,_,rfl,_,_,rfl,rfl,⟨az (by decide) (by decide),ba (by decide)⟩,by show 4<=sizeLine;decide,λq hq=>?_⟩;refine k q _ (Same.upd_new hq) hq ?_;rw[ah];have e1:0-nrm m a b c = -nrm m a b c:=Int.zero_sub _;have e2:3*a*a-3*m*b*c=3*(a*a)-3*m*(b*c):=by grind
  show some (HO.lst [V.int (0-nrm m a b c),V.int (3*a*a-3*m*b*c),V.int (-3*a),V.int 1])=_;rw[e1,e2];rfl
def mB:Sp:=λvs H Q _=>∃x y mm:Int,vs=[.int x,.int y,.int mm]/\∀(p:Addr) (a b c:Int) (H':Hp),Same H H'->H p=none->CT H' p a b c (2+mm%6)->CubOk a b c (2+mm%6)->Q (.ref p) H'
theorem uW(F:Fun K "_law_cube_by" "_law_cube_by" jr f fd)(T:Txt K mg)(lu:Cal P w K mg base 1 "_law_within" ["_law_cell","_law_most"] iB xP xH):FnOk P w K mg base CX0 2 f fd ["_law_cell","_law_other","_law_m"] mB:=by
 obtain⟨fQ,fw,fA,fL⟩:=lu;refine F.ok sc__law_cube_by (λvs H Q E h=>?_) (λcdv A outer s H vs Q E hr h=>?_)
 ·obtain⟨x,y,mm,rfl,_⟩:=h;rfl
 ·obtain⟨x,y,mm,rfl,k⟩:=h;obtain⟨x1,x2⟩:=aX (x:=x) (m:=19) (by decide);obtain⟨y1,y2⟩:=aX (x:=y) (m:=7) (by decide);obtain⟨z1,z2⟩:=aX (x:=y/7) (m:=7) (by decide);obtain⟨m1,m2⟩:=aX (x:=mm) (m:=6) (by decide)
  refine⟨_,(ae (ai (i:=3) sc__law_cube_by.nd rfl (Or.inl rfl) (am fQ (hr.mono) rfl fw fA fL .nil aj (aa (pv 0) (aa ab ac))))
   (ae (ai (i:=4) sc__law_cube_by.nd rfl (Or.inl rfl) (am fQ (hr.mono) rfl fw fA fL .nil aj (aa (pv 1) (aa ab ac))))
   (ae (ai (i:=5) sc__law_cube_by.nd rfl (Or.inl rfl) (am fQ (hr.mono) rfl fw fA fL .nil aj (aa (ad bH (pv 1) ab) (aa ab ac))))
   (ae (aN (PW.pt (cE (aF bz (pv 4) ab (au _)) (cZ (aF bz (pv 5) ab (au _)))))
     (ak (ai (i:=4) sc__law_cube_by.nd rfl (Or.inl rfl) ab))
     aM)
   (ak (ar (aR (aa (pv 3) (aa (pv 4) (aa (pv 5) (aa (af (aA (K:=K) rfl) (aJ (aa ab (aa ab (aa ab (aa ab (aa ab (aa ab ac))))))) (ad aS (pv 2) ab) (λ_ _=>rfl)) (aa ab ac)))))))))))),?_⟩
  refine ao ⟨_,rfl,x,9,rfl,by decide,az (by decide) (by decide),?_⟩;refine ao ⟨_,rfl,y,3,rfl,by decide,az (by decide) (by decide),?_⟩;refine ao ⟨_,rfl,_,_,rfl,rfl,⟨by show(0:Int)<7;decide,az (by decide) (by decide)⟩,y/7,3,rfl,by decide,az (by decide) (by decide),?_⟩;show aT _ _ _ _ _;refine jz (λσ' H'=>σ'=[some (.int x),some (.int y),some (.int mm),some (.int (x%19-9)),some (.int (y%7-3)),some (.int (y/7%7-3))]/\H=H') ⟨rfl,rfl⟩ ?_;rintro σ' H' ⟨rfl,rfl⟩;refine cn (λσ' H'=>∃b:Int,σ'=[some (.int x),some (.int y),some (.int mm),some (.int (x%19-9)),some (.int b),some (.int (y/7%7-3))]/\H=H' /\ -3<=b/\b<=3/\¬(b=0/\y/7%7-3=0)) ?_ ?_
  case refine_2 =>intro rest;refine cD ⟨_,rfl,_,_,rfl,rfl,_,rfl,aD (λh1=>?_) (λh1=>bO (rest _ _ ⟨_,rfl,rfl,by omega,by omega,λz=>h1 z.1⟩))⟩;refine⟨_,rfl,_,_,rfl,rfl,_,rfl,aD (λh2=>?_) (λh2=>rest _ _ ⟨_,rfl,rfl,by omega,by omega,λz=>h2 z.2⟩)⟩;exact rest _ _ ⟨1,rfl,rfl,by decide,by decide,λz=>absurd z.1 (by decide)⟩
  rintro σ' H' ⟨b,rfl,rfl,b1,b2,hbc⟩
  have hat:atI [V.int 2,V.int 3,V.int 4,V.int 5,V.int 6,V.int 7] (mm%6)=some (V.int (2+mm%6)):=by
   have:mm%6=0\/mm%6=1\/mm%6=2\/mm%6=3\/mm%6=4\/mm%6=5:=by omega
   rcases this with e |e |e |e |e |e<;>rw[e]<;>rfl
  refine aK ⟨_,rfl,_,rfl,_,rfl,by show 6<=sizeLine;decide,λq hq=>?_⟩;refine⟨_,rfl,_,_,rfl,rfl,(by show(0:Int)<6;decide),q,_,_,_,rfl,rfl,SqL.of ah,hat,by show 5<=sizeLine;decide,λp hp=>?_⟩;have s1:Same H (upd H q (.lst [V.int 2,V.int 3,V.int 4,V.int 5,V.int 6,V.int 7])):=Same.upd_new hq;exact k p _ b _ _ (s1.then_new hp) (s1.free hp) ah ⟨by omega,⟨b1,b2⟩,by omega,by omega,by omega,hbc⟩
def mv:Sp:=λvs H Q _=>∃(cc:Int) (p:Addr) (a b c m:Int),vs=[.int cc,.ref p]/\CT H p a b c m/\CubOk a b c m/\∀(l:Addr) (qs:List Addr) (fs:List (List Int)) (H':Hp),Same H H'->H l=none->H' l=some (.lst (qs.map V.ref))->TuH H' qs fs->fs.length<=2->(∀f∈fs,FL f)->Q (.ref l) H'
theorem uS(F:Fun K "_law_further" "_law_further" gu f fd)(T:Txt K mg):FnOk P w K mg base CX0 1 f fd ["_law_cell","_law_cube"] mv:=by
 refine F.ok sc__law_further (λvs H Q E h=>?_) (λcdv A outer s H vs Q E hr h=>?_)
 ·obtain⟨cc,p,a,b,c,m,rfl,_⟩:=h;rfl
 ·obtain⟨cc,p,a,b,c,m,rfl,hp,hC,k⟩:=h;have hu2:(A.deeper (PyProof.Rows.envOfC (Str.ofString "_law_further") (aq gu) s.heap.objs.size f cdv)).units+66<cLine:=by have:=hr.un;omega
  obtain⟨k1,k2⟩:=aX (x:=cc*48271%10007) (m:=9) (by decide);obtain⟨q1,q2⟩:=aX (x:=cc*69621%10009) (m:=41) (by decide);obtain⟨c1,c2⟩:=aX (x:=cc) (m:=4) (by decide)
  refine⟨_,(ae (ai (i:=2) sc__law_further.nd rfl (Or.inl rfl) (ad aW ab (ad aS (ad aS (ad nr (pv 0) ab) ab) ab)))
   (ae (ai (i:=3) sc__law_further.nd rfl (Or.inl rfl) (ad aO (ad aS (ad aS (ad nr (pv 0) ab) ab) ab) ab))
   (ae (aN (aF (tV (K:=K) rfl hu2) (aR (aa (pv 3) (aa ab (aa ab ac)))) (gD (rC (K:=K) rfl) (pv 1) gA (gz ab)) (au _))
     (ak (ai (i:=3) sc__law_further.nd rfl (Or.inl rfl) (ad aW (pv 3) ab)))
     aM)
   (ak (ar (af (aA (K:=K) rfl) (aJ (aa (aJ ac) (aa (aJ (aa (aR (aa (pv 3) (aa ab (aa ab ac)))) ac)) (aa (aJ (aa (aR (aa ab (aa (ad aO ab (pv 2)) (aa ab ac)))) ac)) (aa (aJ (aa (aR (aa (pv 3) (aa ab (aa ab ac)))) (aa (aR (aa ab (aa (ad aO ab (pv 2)) (aa ab ac)))) ac))) ac))))) (ad aS (pv 0) ab) (λ_ _=>rfl))))))),?_⟩
  refine ao ⟨_,rfl,_,_,rfl,rfl,.inr ⟨by decide,by decide⟩,_,_,rfl,rfl,(by show(0:Int)<10007;decide),_,_,rfl,rfl,(by show(0:Int)<9;decide),_,_,rfl,rfl,?_⟩;refine ao ⟨_,rfl,_,_,rfl,rfl,.inr ⟨by decide,by decide⟩,_,_,rfl,rfl,(by show(0:Int)<10009;decide),_,_,rfl,rfl,(by show(0:Int)<41;decide),_,_,rfl,rfl,?_⟩;show aT _ _ _ _ _;generalize hk:cc*48271%10007%9=kk at k1 k2 ⊢
  generalize hq:cc*69621%10009%41=qq at q1 q2 ⊢
  refine jz (λσ' H'=>σ'=[some (.int cc),some (.ref p),some (.int (1+kk)),some (.int (qq-20))]/\H=H') ⟨rfl,rfl⟩ ?_;rintro σ' H' ⟨rfl,rfl⟩;refine cn (λσ' H'=>∃q:Int,σ'=[some (.int cc),some (.ref p),some (.int (1+kk)),some (.int q)]/\Same H H' /\ -21<=q/\q<=21) ?_ ?_
  case refine_2 =>
   intro rest;refine⟨_,rfl,by show 3<=sizeLine;decide,λt1 ht1=>?_⟩;have s1:=Same.upd_new (o:=.tup [.int (qq-20),.int 0,.int 0]) ht1;have e1:upd H t1 (.tup [.int (qq-20),.int 0,.int 0]) t1=some (.tup ([qq-20,0,0].map V.int)):=ah;generalize upd H t1 (.tup [.int (qq-20),.int 0,.int 0])=H1 at s1 e1 ⊢
   have hp1:=s1 _ _ hp;refine⟨_,rfl,3,rfl,p,_,rfl,SqT.of hp1,by show ¬(HT.sIx 5 0 none=0/\HT.sIx 5 5 (some 3)=5);decide,λt2 ht2=>?_⟩;have s2:=Same.upd_new (o:=.tup [.int a,.int b,.int c]) ht2;have e2:upd H1 t2 (.tup [.int a,.int b,.int c]) t2=some (.tup ([a,b,c].map V.int)):=ah;show jE K _ _ (upd H1 t2 (.tup [.int a,.int b,.int c])) _;generalize upd H1 t2 (.tup [.int a,.int b,.int c])=H2 at s2 e2 ⊢
   refine⟨t1,t2,_,_,rfl,rfl,SqT.of (s2 _ _ e1),SqT.of e2,_,rfl,aD (λ_=>?_) (λ_=>?_)⟩
   ·exact ca ⟨_,rfl,_,_,rfl,rfl,rest _ _ ⟨qq-20+1,rfl,s1.trans s2,by omega,by omega⟩⟩
   ·exact rest _ _ ⟨qq-20,rfl,s1.trans s2,by omega,by omega⟩
  rintro σ' H1 ⟨q,rfl,s1,qa,qb⟩;refine aK ⟨A8 _,λl0 h0=>?_⟩;have u2:=Same.upd_new (o:=.lst []) h0;have e2:upd H1 l0 (.lst []) l0=some (.lst (([]:List Addr).map V.ref)):=ah;generalize upd H1 l0 (.lst [])=H2 at u2 e2 ⊢
  refine⟨_,rfl,by show 3<=sizeLine;decide,λa1 h1=>?_⟩;have u3:=Same.upd_new (o:=.tup [.int q,.int 0,.int 1]) h1;have e3:upd H2 a1 (.tup [.int q,.int 0,.int 1]) a1=some (.tup ([q,0,1].map V.int)):=ah;refine⟨by show 1<=sizeLine;decide,?_⟩;generalize upd H2 a1 (.tup [.int q,.int 0,.int 1])=H3 at u3 e3 ⊢
  intro l1 h2;have u4:=Same.upd_new (o:=.lst [.ref a1]) h2;have e4:upd H3 l1 (.lst [.ref a1]) l1=some (.lst ([a1].map V.ref)):=ah;generalize upd H3 l1 (.lst [.ref a1])=H4 at u4 e4 ⊢
  refine⟨_,rfl,_,_,rfl,rfl,by show 3<=sizeLine;decide,λa2 h3=>⟨by show 1<=sizeLine;decide,?_⟩⟩;have u5:=Same.upd_new (o:=.tup [.int 0,.int (0-(1+kk)),.int 1]) h3;have e5:upd H4 a2 (.tup [.int 0,.int (0-(1+kk)),.int 1]) a2=some (.tup ([0,0-(1+kk),1].map V.int)):=ah;generalize upd H4 a2 (.tup [.int 0,.int (0-(1+kk)),.int 1])=H5 at u5 e5 ⊢
  intro l2 h4;have u6:=Same.upd_new (o:=.lst [.ref a2]) h4;have e6:upd H5 l2 (.lst [.ref a2]) l2=some (.lst ([a2].map V.ref)):=ah;generalize upd H5 l2 (.lst [.ref a2])=H6 at u6 e6 ⊢
  refine⟨_,rfl,by show 3<=sizeLine;decide,λa3 h5=>?_⟩;have u7:=Same.upd_new (o:=.tup [.int q,.int 0,.int 1]) h5;have e7:upd H6 a3 (.tup [.int q,.int 0,.int 1]) a3=some (.tup ([q,0,1].map V.int)):=ah;generalize upd H6 a3 (.tup [.int q,.int 0,.int 1])=H7 at u7 e7 ⊢
  refine⟨_,rfl,_,_,rfl,rfl,by show 3<=sizeLine;decide,λa4 h6=>⟨by show 2<=sizeLine;decide,?_⟩⟩;have u8:=Same.upd_new (o:=.tup [.int 0,.int (0-(1+kk)),.int 1]) h6;have e8:upd H7 a4 (.tup [.int 0,.int (0-(1+kk)),.int 1]) a4=some (.tup ([0,0-(1+kk),1].map V.int)):=ah;generalize upd H7 a4 (.tup [.int 0,.int (0-(1+kk)),.int 1])=H8 at u8 e8 ⊢
  intro l3 h7;have u9:=Same.upd_new (o:=.lst [.ref a3,.ref a4]) h7;have e9:upd H8 l3 (.lst [.ref a3,.ref a4]) l3=some (.lst ([a3,a4].map V.ref)):=ah;refine⟨by show 4<=sizeLine;decide,?_⟩;generalize upd H8 l3 (.lst [.ref a3,.ref a4])=H9 at u9 e9 ⊢
  intro L h8;have uL:=Same.upd_new (o:=.lst [.ref l0,.ref l1,.ref l2,.ref l3]) h8;have eL:upd H9 L (.lst [.ref l0,.ref l1,.ref l2,.ref l3]) L=some (.lst ([l0,l1,l2,l3].map V.ref)):=ah;generalize upd H9 L (.lst [.ref l0,.ref l1,.ref l2,.ref l3])=Hn at uL eL ⊢
  have v9:=u9.trans uL;have v8:=u8.trans v9;have v7:=u7.trans v8;have v6:=u6.trans v7;have v5:=u5.trans v6;have v4:=u4.trans v5;have v3:=u3.trans v4;have v2:=s1.trans (u2.trans v3);have FQ:FL [q,0,1]:=.inl ⟨q,qa,qb,rfl⟩;have FK:FL [0,0-(1+kk),1]:=.inr ⟨1+kk,by omega,by omega,by rw[Int.zero_sub]⟩;refine⟨_,rfl,_,_,rfl,rfl,(by show(0:Int)<4;decide),?_⟩;show jD K (.ref L) (.int (cc%4)) Hn Q;have b3:=s1.trans u2;have b5:=b3.trans (u3.trans u4);have b7:=b5.trans (u5.trans u6);rcases(show cc%4=0\/cc%4=1\/cc%4=2\/cc%4=3 by omega)with z |z |z |z<;>rw[z]
  ·exact⟨L,_,_,_,rfl,rfl,SqL.of eL,rfl,k l0 [] [] Hn v2 (s1.free h0) (v3 _ _ e2) TuH.nil (by decide) (λf h=>nomatch h)⟩
  ·exact⟨L,_,_,_,rfl,rfl,SqL.of eL,rfl,k l1 [a1] [[q,0,1]] Hn v2 ((b3.trans u3).free h2) (v5 _ _ e4) (TuH.nil.snoc (v4 _ _ e3)) (by show 1<=2;decide) (λf h=>by rw[Bf.mp h];exact FQ)⟩
  ·exact⟨L,_,_,_,rfl,rfl,SqL.of eL,rfl,k l2 [a2] [[0,0-(1+kk),1]] Hn v2 ((b5.trans u5).free h4) (v7 _ _ e6) (TuH.nil.snoc (v6 _ _ e5)) (by show 1<=2;decide) (λf h=>by rw[Bf.mp h];exact FK)⟩
  ·refine⟨L,_,_,_,rfl,rfl,SqL.of eL,rfl,k l3 [a3,a4] [[q,0,1],[0,0-(1+kk),1]] Hn v2 ((b7.trans (u7.trans u8)).free h7) (uL _ _ e9) ((TuH.nil.snoc (v8 _ _ e7)).snoc (v9 _ _ e8)) (by show 2<=2;decide) (λf h=>?_)⟩;rcases Bb.mp h with e |e
   ·rw[e];exact FQ
   ·rw[Bf.mp e];exact FK
def iA:Sp:=λvs H Q _=>∃(p:Addr) (t n:Int),vs=[.ref p,.int t,.int n]/\Bits 900 t/\Bits 900 n/\((∃a b c m:Int,CT H p a b c m/\CubOk a b c m/\Q (.int (aI m a b c t n)) H)\/∃l:List Int,H p=some (.tup (l.map V.int))/\SpB l/\Q (.int (bj l t n)) H)
theorem uB(F:Fun K "_law_way" "_law_way" i9 f fd)(T:Txt K mg)(fT:Cal P w K mg base 1 "_law_norm" ["_law_a","_law_b","_law_c","_law_m"] ge o6 o1)(zt:Cal P w K mg base 2 "_law_side" ["_law_spot","_law_top","_law_bottom"] lY AI Ac):FnOk P w K mg base CX0 3 f fd ["_law_spot","_law_top","_law_bottom"] iA:=by
 obtain⟨fR,fx,fB,fM⟩:=fT;obtain⟨yY,vX,wI,yv⟩:=zt;refine F.ok sc__law_way (λvs H Q E h=>?_) (λcdv A outer s H vs Q E hr h=>?_)
 ·obtain⟨p,t,n,rfl,_⟩:=h;rfl
 ·obtain⟨p,t,n,rfl,bt,bn,h⟩:=h
  refine⟨_,(ae (aN (aF bz (bg (bZ (K:=K) rfl) (by rfl) T.len_ PySem.boot_len (aa (pv 0) ac)) ab (au _))
   (ae (ai (i:=3) sc__law_way.nd rfl (Or.inl rfl) (ad aO (ad aw (af (al (K:=K) rfl) (pv 0) ab (λ_ _=>rfl)) (pv 2)) (pv 1)))
     (ae (ai (i:=4) sc__law_way.nd rfl (Or.inl rfl) (ad aw (af (al (K:=K) rfl) (pv 0) ab (λ_ _=>rfl)) (pv 2)))
     (ak (ar (am fR (hr.mono) rfl fx fB fM .nil aj (aa (pv 3) (aa (pv 4) (aa (ad aw (af (al (K:=K) rfl) (pv 0) ab (λ_ _=>rfl)) (pv 2)) (aa (af (al (K:=K) rfl) (pv 0) ab (λ_ _=>rfl)) ac)))))))))
   aM)
   (ak (ar (am yY (hr.mono) rfl vX wI yv .nil aj (aa (pv 0) (aa (pv 1) (aa (pv 2) ac))))))),?_⟩
  rcases h with⟨a,b,c,m,hp,hC,k⟩ |⟨l,hp,hl,k⟩
  ·have ba:Bits 10 a:=az (by have:=hC.a9;omega) (by decide);have bb:Bits 10 b:=az (by have:=hC.b3;omega) (by decide);have bc:Bits 10 c:=az (by have:=hC.c3;omega) (by decide);have bm:Bits 10 m:=az (by have:=hC.m2;have:=hC.m7;omega) (by decide);refine bh ⟨_,rfl,p,_,rfl,.inr (SqT.of hp),_,_,rfl,rfl,_,rfl,aD (λ_=>?_) (λz=>absurd rfl z)⟩;refine ao ⟨_,rfl,p,_,_,_,rfl,rfl,SqT.of hp,rfl,_,rfl,_,_,rfl,rfl,⟨ba.mono,bn.mono⟩,_,rfl,_,_,rfl,rfl,?_⟩;refine ao ⟨_,rfl,p,_,_,_,rfl,rfl,SqT.of hp,rfl,_,rfl,_,_,rfl,rfl,⟨bb.mono,bn.mono⟩,?_⟩;refine aK ⟨_,rfl,_,rfl,_,rfl,p,_,_,_,rfl,rfl,SqT.of hp,rfl,_,rfl,_,_,rfl,rfl,⟨bc.mono,bn.mono⟩,_,rfl,p,_,_,_,rfl,rfl,SqT.of hp,rfl,_,_,_,_,rfl,?_,?_,?_,bm,k⟩
   ·exact(((ba.mul bn).mono (k:=910) (by decide)).sub (bt.mono)).mono
   ·exact(bb.mul bn).mono
   ·exact(bc.mul bn).mono
  ·obtain⟨u,e,b,s,rfl,_⟩:=id hl;refine bh ⟨_,rfl,p,_,rfl,.inr (SqT.of hp),_,_,rfl,rfl,_,rfl,aD (λz=>absurd z (by show ¬((4:Nat):Int)=5;decide)) (λ_=>?_)⟩;exact aK ⟨_,rfl,_,rfl,_,rfl,p,_,t,n,rfl,hp,hl,bt.mono,bn.mono,k⟩
def ST(H:Hp)(t:Addr)(s:Int×Int×Int):Prop:=H t=some (.tup [.int s.1,.int s.2.1,.int s.2.2])
theorem cS{m a b c:Int}{s:Int×Int×Int}{j:Nat}(S:SpI m a b c s j)(hj:j<=100):Bits 120 s.1/\Bits 120 s.2.1/\Bits 120 s.2.2:=by
 have h1:s.2.2<=2^100:=by
  rw[S.n];have:(2:Nat)^j<=2^100:=Ci (by decide) hj;have e:((2:Int)^j)=((2^j:Nat):Int):=by rw[Ce];rfl
  rw[e];have:((2^j:Nat):Int)<=((2^100:Nat):Int):=Int.ofNat_le.mpr this;exact this
 have h2:=S.pos;have h3:=S.l;have h4:=S.h;have h5:=S.w;refine⟨?_,?_,?_⟩
 ·show s.1.natAbs<2^120;omega
 ·show s.2.1.natAbs<2^120;omega
 ·show s.2.2.natAbs<2^120;omega
def mD:Sp:=λvs H Q _=>∃(l p t:Addr) (ws:List Addr) (a b c m:Int) (xs:List (List Int)) (s:Int×Int×Int),vs=[.ref l,.ref p,.ref t]/\H l=some (.lst (V.ref p::ws.map V.ref))/\CT H p a b c m/\CubOk a b c m/\TuH H ws xs/\(∀x∈xs,SpB x)/\ST H t s/\Bits 120 s.1/\Bits 120 s.2.1/\Bits 120 s.2.2/\∀r:Bool,(r=true↔∀x∈xs,¬(0<=bj x s.1 s.2.2/\bj x s.2.1 s.2.2<=0))->Q (.bl r) H
theorem uZ(F:Fun K "_law_alone" "_law_alone" gv f fd)(T:Txt K mg)(lv:Cal P w K mg base 3 "_law_way" ["_law_spot","_law_top","_law_bottom"] iA xQ xI):FnOk P w K mg base CX0 4 f fd ["_law_spots","_law_spot","_law_span_here"] mD:=by
 obtain⟨ik,gM,gP,ig⟩:=lv;refine F.ok sc__law_alone (λvs H Q E h=>?_) (λcdv A outer s H vs Q E hr h=>?_)
 ·obtain⟨l,p,t,ws,a,b,c,m,xs,s,rfl,_⟩:=h;rfl
 ·obtain⟨l,p,t,ws,a,b,c,m,xs,sp,rfl,hl,hp,hC,hT,hB,ht,b1,b2,b3,k⟩:=h;have hu2:(A.deeper (PyProof.Rows.envOfC (Str.ofString "_law_alone") (aq gv) s.heap.objs.size f cdv)).units+66<cLine:=by have:=hr.un;omega
  have w1:Bits 900 sp.1:=b1.mono;have w2:Bits 900 sp.2.1:=b2.mono;have w3:Bits 900 sp.2.2:=b3.mono;have hpz:H p=some (.tup ([a,b,c,m,0].map V.int)):=hp
  refine⟨_,(ae (bD PassesOwn.never rfl (di (K:=K) rfl (pv 0)) (aV (i:=3) sc__law_alone.nd rfl (Or.inl rfl))
   (ae (ai (i:=4) sc__law_alone.nd rfl (Or.inl rfl) (am ik (hr.mono) rfl gM gP ig .nil aj (aa (pv 3) (aa (af (al (K:=K) rfl) (pv 2) ab (λ_ _=>rfl)) (aa (af (al (K:=K) rfl) (pv 2) ab (λ_ _=>rfl)) ac)))))
     (ae (ai (i:=5) sc__law_alone.nd rfl (Or.inl rfl) (am ik (hr.mono) rfl gM gP ig .nil aj (aa (pv 3) (aa (af (al (K:=K) rfl) (pv 2) ab (λ_ _=>rfl)) (aa (af (al (K:=K) rfl) (pv 2) ab (λ_ _=>rfl)) ac)))))
     (ak (aN (PW.pt (cE (aF (tP (K:=K) rfl hu2) (pv 3) (pv 1) (au _)) (cE (aF jP (pv 4) ab (au _)) (cZ (aF fk (pv 5) ab (au _))))))
       (ak (ar c8))
       aM)))))
   (ak (ar c8))),?_⟩
  refine⟨_,rfl,l,rfl,⟨_,SqL.of hl⟩,gX (K:=K) (a:=l) (xs:=V.ref p::ws.map V.ref) (λi σ' H'=>∃z3 z4 z5:Option V,σ'=[some (.ref l),some (.ref p),some (.ref t),z3,z4,z5]/\H=H'/\∀x∈xs.take (i-1),¬(0<=bj x sp.1 sp.2.2/\bj x sp.2.1 sp.2.2<=0)) ⟨none,none,none,rfl,rfl,λx hx=>(nomatch hx)⟩ ?_ ?_ ?_⟩
  ·rintro i σ' H' _ ⟨z3,z4,z5,rfl,rfl,_⟩;exact SqL.of hl
  ·rintro i x σ' H' hi ⟨z3,z4,z5,rfl,rfl,hx⟩;cases i with
   |zero =>cases hi;refine ao ⟨_,rfl,_,rfl,t,_,_,_,rfl,rfl,SqT.of ht,rfl,_,rfl,t,_,_,_,rfl,rfl,SqT.of ht,rfl,p,_,_,rfl,w1,w3,.inl ⟨a,b,c,m,hp,hC,?_⟩⟩;refine ao ⟨_,rfl,_,rfl,t,_,_,_,rfl,rfl,SqT.of ht,rfl,_,rfl,t,_,_,_,rfl,rfl,SqT.of ht,rfl,p,_,_,rfl,w2,w3,.inl ⟨a,b,c,m,hp,hC,?_⟩⟩;refine gx (cD ⟨_,rfl,_,rfl,p,p,_,_,rfl,rfl,SqT.of hpz,SqT.of hpz,_,rfl,dY (λz=>absurd rfl z) (λ_=>bO ?_)⟩);exact⟨_,_,_,rfl,rfl,hx⟩
   |succ i =>
    rw[List.getElem?_cons_succ]at hi;obtain⟨q,y,rfl,eq,ey,hq,hlt⟩:=hT.of_get hi;have hy:=hB y (List.mem_of_getElem? ey);refine ao ⟨_,rfl,_,rfl,t,_,_,_,rfl,rfl,SqT.of ht,rfl,_,rfl,t,_,_,_,rfl,rfl,SqT.of ht,rfl,q,_,_,rfl,w1,w3,.inr ⟨y,hq,hy,?_⟩⟩;refine ao ⟨_,rfl,_,rfl,t,_,_,_,rfl,rfl,SqT.of ht,rfl,_,rfl,t,_,_,_,rfl,rfl,SqT.of ht,rfl,q,_,_,rfl,w2,w3,.inr ⟨y,hq,hy,?_⟩⟩
    have go:¬(0<=bj y sp.1 sp.2.2/\bj y sp.2.1 sp.2.2<=0)->∀x∈xs.take (i+1+1-1),¬(0<=bj x sp.1 sp.2.2/\bj x sp.2.1 sp.2.2<=0):=λhn x hm=>by
     rw[show i+1+1-1=i+1 by omega,BM,ey]at hm;rcases Bn.mp hm with h |h
     ·exact hx x h
     ·rw[Bf.mp h];exact hn
    have ne:¬(y=[a,b,c,m,0]):=λz=>by obtain⟨u,e,b',s',e',_⟩:=hy;rw[e']at z;have:=congrArg List.length z;exact absurd this (by show ¬(4=5);decide)
    refine gx (cD ⟨_,rfl,_,rfl,q,p,_,_,rfl,rfl,SqT.of hq,SqT.of hpz,_,rfl,dY (λ_=>?_) (λz=>absurd z ne)⟩);refine cD ⟨_,rfl,_,_,rfl,rfl,_,rfl,aD (λh1=>?_) (λh1=>bO ⟨_,_,_,rfl,rfl,go λz=>h1 z.1⟩)⟩;refine⟨_,rfl,_,_,rfl,rfl,_,rfl,aD (λh2=>?_) (λh2=>⟨_,_,_,rfl,rfl,go λz=>h2 z.2⟩)⟩;exact aK (k false ⟨λz=>Bool.noConfusion z,λz=>absurd ⟨h1,h2⟩ (z y (List.mem_of_getElem? ey))⟩)
  ·rintro σ' H' ⟨z3,z4,z5,rfl,rfl,hx⟩;refine k true ⟨λ_ x hm=>hx x ?_,λ_=>rfl⟩;rw[Bl,A4,hT.1,Nat.add_sub_cancel,BC];exact hm
def gk:Sp:=λvs H Q _=>∃(t p:Addr) (s:Int×Int×Int) (j:Nat) (a b c m:Int),vs=[.ref t,.ref p]/\ST H t s/\CT H p a b c m/\CubOk a b c m/\SpI m a b c s j/\j<=100/\∀(t':Addr) (H':Hp),Same H H'->H t'=none->ST H' t' (hfS m a b c s)->Q (.ref t') H'
theorem uQ(F:Fun K "_law_half" "_law_half" jm f fd)(T:Txt K mg)(lv:Cal P w K mg base 3 "_law_way" ["_law_spot","_law_top","_law_bottom"] iA xQ xI):FnOk P w K mg base CX0 4 f fd ["_law_span_here","_law_spot"] gk:=by
 obtain⟨ik,gM,gP,ig⟩:=lv;refine F.ok sc__law_half (λvs H Q E h=>?_) (λcdv A outer s H vs Q E hr h=>?_)
 ·obtain⟨t,p,s,j,a,b,c,m,rfl,_⟩:=h;rfl
 ·obtain⟨t,p,sp,j,a,b,c,m,rfl,ht,hp,hC,S,hj,k⟩:=h;obtain⟨b1,b2,b3⟩:=cS S hj;have b2':Bits 2 (2:Int):=by show(2:Int).natAbs<2^2;decide
  have M:∀{x:Int},Bits 120 x->Bits 1000000 x:=λh=>h.mono
  have M2:Bits 1000000 (2:Int):=b2'.mono
  refine⟨_,(ae (ai (i:=2) sc__law_half.nd rfl (Or.inl rfl) (ad aW (af (al (K:=K) rfl) (pv 0) ab (λ_ _=>rfl)) (af (al (K:=K) rfl) (pv 0) ab (λ_ _=>rfl))))
   (ae (aN (aF fk (am ik (hr.mono) rfl gM gP ig .nil aj (aa (pv 1) (aa (pv 2) (aa (ad aw ab (af (al (K:=K) rfl) (pv 0) ab (λ_ _=>rfl))) ac)))) ab (au _))
     (ak (ar (aR (aa (ad aw ab (af (al (K:=K) rfl) (pv 0) ab (λ_ _=>rfl))) (aa (pv 2) (aa (ad aw ab (af (al (K:=K) rfl) (pv 0) ab (λ_ _=>rfl))) ac))))))
     aM)
   (ak (ar (aR (aa (pv 2) (aa (ad aw ab (af (al (K:=K) rfl) (pv 0) ab (λ_ _=>rfl))) (aa (ad aw ab (af (al (K:=K) rfl) (pv 0) ab (λ_ _=>rfl))) ac)))))))),?_⟩
  refine ao ⟨_,rfl,t,_,_,_,rfl,rfl,SqT.of ht,rfl,_,rfl,t,_,_,_,rfl,rfl,SqT.of ht,rfl,_,_,rfl,rfl,?_⟩;refine bh ⟨_,rfl,_,rfl,_,rfl,t,_,_,_,rfl,rfl,SqT.of ht,rfl,_,_,rfl,rfl,⟨M2,M b3⟩,p,_,_,rfl,(b1.add b2).mono,(b2'.mul b3).mono,.inl ⟨a,b,c,m,hp,hC,_,_,rfl,rfl,_,rfl,aD (λh1=>?_) (λh1=>?_)⟩⟩
  ·refine aK ⟨_,rfl,t,_,_,_,rfl,rfl,SqT.of ht,rfl,_,_,rfl,rfl,⟨M2,M b1⟩,_,rfl,_,rfl,t,_,_,_,rfl,rfl,SqT.of ht,rfl,_,_,rfl,rfl,⟨M2,M b3⟩,by show 3<=sizeLine;decide,λt' ht'=>k t' _ (Same.upd_new ht') ht' ?_⟩;unfold ST hfS;rw[if_pos h1];exact ah
  ·refine aK ⟨_,rfl,_,rfl,t,_,_,_,rfl,rfl,SqT.of ht,rfl,_,_,rfl,rfl,⟨M2,M b2⟩,_,rfl,t,_,_,_,rfl,rfl,SqT.of ht,rfl,_,_,rfl,rfl,⟨M2,M b3⟩,by show 3<=sizeLine;decide,λt' ht'=>k t' _ (Same.upd_new ht') ht' ?_⟩;unfold ST hfS;rw[if_neg h1];exact ah
theorem yH{fs:List (List Int)}(hF:∀l∈fs,FL l){s t:Int×Int×Int}(ps:0<s.2.2)(pt:0<t.2.2)(I:InS s t)(hA:Alo fs s):Alo fs t:=λx hx z=>by
 obtain⟨l,hl,hm⟩:=List.mem_flatMap.mp hx;obtain⟨q,_,_,rfl,rfl⟩:=(hF l hl).spots hm;refine hA _ hx ⟨(cT q _ _).1.mpr ?_,(cT q _ _).2.mpr ?_⟩
 ·have h1:=(cT q t.1 t.2.2).1.mp z.1;have h2:=I.1;have h3:=BB h1 (A6 ps);refine B5 ?_ pt;rw[show q*s.2.2*t.2.2=q*t.2.2*s.2.2 by grind];omega
 ·have h1:=(cT q t.2.1 t.2.2).2.mp z.2;have h2:=I.2;have h3:=BB h1 (A6 ps);refine B5 ?_ pt;rw[show q*s.2.2*t.2.2=q*t.2.2*s.2.2 by grind];omega
def lX:Sp:=λvs H Q _=>∃(l p:Addr) (more:Int) (ws:List Addr) (a b c m:Int) (fs:List (List Int)),vs=[.ref l,.ref p,.int more]/\0<=more/\more<=9/\H l=some (.lst (V.ref p::ws.map V.ref))/\CT H p a b c m/\CubOk a b c m/\TuH H ws (spots fs)/\(∀f∈fs,FL f)/\(∀x∈spots fs,SpB x)/\∀(t:Addr) (H':Hp) (j:Nat),Same H H'->H t=none->ST H' t (itS m a b c j)->Alo fs (itS m a b c j)->j<=40->Q (.ref t) H'
theorem uE(F:Fun K "_law_span" "_law_span" jc f fd)(T:Txt K mg)(zJ:Cal P w K mg base 4 "_law_alone" ["_law_spots","_law_spot","_law_span_here"] mD AY As)(fV:Cal P w K mg base 4 "_law_half" ["_law_span_here","_law_spot"] gk o8 o3):FnOk P w K mg base CX0 5 f fd ["_law_spots","_law_spot","_law_more"] lX:=by
 obtain⟨zb,we,wP,yC⟩:=zJ;obtain⟨dM,dw,dC,dI⟩:=fV;refine F.ok sc__law_span (λvs H Q E h=>?_) (λcdv A outer s H vs Q E hr h=>?_)
 ·obtain⟨l,p,more,ws,a,b,c,m,fs,rfl,_⟩:=h;rfl
 ·obtain⟨l,p,more,ws,a,b,c,m,fs,rfl,m0,m9,hl,hp,hC,hT,hF,hB,k⟩:=h;have big:=sizeLine_eq
  refine⟨_,(ae (ai (i:=3) sc__law_span.nd rfl (Or.inl rfl) (aR (aa (bF bC ab) (aa ab (aa ab ac)))))
   (ae (fg PassesOwn.never (gy (d8 (am zb (hr.mono) rfl we wP yC .nil aj (aa (pv 0) (aa (pv 1) (aa (pv 3) ac))))))
     (ak (ai (i:=3) sc__law_span.nd rfl (Or.inl rfl) (am dM (hr.mono) rfl dw dC dI .nil aj (aa (pv 3) (aa (pv 1) ac))))))
   (ae (bD PassesOwn.never rfl (cG rfl T.range_ (aa (pv 2) ac)) (aV (i:=4) sc__law_span.nd rfl (Or.inl rfl))
     (ak (ai (i:=3) sc__law_span.nd rfl (Or.inl rfl) (am dM (hr.mono) rfl dw dC dI .nil aj (aa (pv 3) (aa (pv 1) ac))))))
   (ak (ar (pv 3)))))),?_⟩
  refine ao ⟨_,rfl,by show 3<=sizeLine;decide,λt0 h0=>?_⟩;have s1:=Same.upd_new (o:=.tup [.int (-64),.int 64,.int 1]) h0;have e1:ST (upd H t0 (.tup [.int (-64),.int 64,.int 1])) t0 (itS m a b c 0):=ah;show aT _ _ _ _ (upd H t0 (.tup [.int (-64),.int 64,.int 1]));generalize upd H t0 (.tup [.int (-64),.int 64,.int 1])=H1 at s1 e1 ⊢
  refine⟨λn σ' H'=>∃(t:Addr) (j:Nat),σ'=[some (.ref l),some (.ref p),some (.int more),some (.ref t),none]/\Same H H'/\H t=none/\ST H' t (itS m a b c j)/\j<=22/\22-j=n,⟨22,t0,0,rfl,s1,h0,e1,by decide,rfl⟩,?_⟩;rintro n σ' H2 ⟨t,j,rfl,s2,ht,et,hj,rfl⟩;have S:=aU hC j;obtain⟨b1,b2,b3⟩:=cS S (by omega);refine gw ⟨_,rfl,_,rfl,_,rfl,l,p,t,ws,a,b,c,m,spots fs,_,rfl,s2 _ _ hl,s2 _ _ hp,hC,hT.same s2,hB,et,b1,b2,b3,λr hr'=>⟨_,rfl,?_⟩⟩;cases r with
  |false =>
   refine cm ?_;have hj':j<22:=Nat.lt_of_not_le λz=>Bool.noConfusion (hr'.mpr (yI hC S hF (by omega)))
   refine⟨λσ'' H''=>∃n',n'<22-j/\∃(t:Addr) (j:Nat),σ''=[some (.ref l),some (.ref p),some (.int more),some (.ref t),none]/\Same H H''/\H t=none/\ST H'' t (itS m a b c j)/\j<=22/\22-j=n',λ_ _ h=>h,?_⟩;refine ca ⟨_,rfl,_,rfl,t,p,_,j,a,b,c,m,rfl,et,s2 _ _ hp,hC,S,by omega,λt' H' s' ht' et'=>?_⟩;exact⟨22-(j+1),by omega,t',j+1,rfl,s2.trans s',s2.free ht',et',by omega,rfl⟩
  |true =>
   refine bO ?_;have A0:Alo fs (itS m a b c j):=hr'.mp rfl;have em:((more.toNat:Nat):Int)=more:=Ck m0;refine⟨_,rfl,more.toNat,by rw[em],by omega,by omega,dF (lo:=0) (n:=more.toNat) (λi σ' H'=>∃(t:Addr) (z:Option V),σ'=[some (.ref l),some (.ref p),some (.int more),some (.ref t),z]/\Same H H'/\H t=none/\ST H' t (itS m a b c (j+i))) ⟨t,none,rfl,s2,ht,et⟩ ?_ ?_⟩
   ·rintro i σ' H3 hi ⟨t,z,rfl,s3,ht,et⟩;refine ca ⟨_,rfl,_,rfl,t,p,_,j+i,a,b,c,m,rfl,et,s3 _ _ hp,hC,aU hC _,by omega,λt' H' s' ht' et'=>?_⟩;exact⟨t',_,rfl,s3.trans s',s3.free ht',et'⟩
   ·rintro σ' H3 ⟨t,z,rfl,s3,ht,et⟩;exact⟨_,rfl,k t H3 _ s3 ht et (yH hF (aU hC j).pos (aU hC _).pos (gQ hC j _) A0) (by omega)⟩
theorem cV{k:Nat}{t b:Int}(hb:b≠0)(h:Bits k t):Bits k (rt t b):=h.of_le (sr hb)
theorem cY{k:Nat}{t b:Int}(hb:b≠0)(h:Bits k b):Bits k (rb t b):=h.of_le (sD hb)
theorem bM{t b:Int}(hb:b≠0):rt t b*b=t*rb t b:=by
 have h1:=mS (t:=t) hb;have h2:=jB (t:=t) hb;generalize dv t b=d at h1 h2
 generalize rt t b=x at h1 ⊢
 generalize rb t b=y at h2 ⊢
 rw[<- h1,<- h2];grind
def mq(C CN:Addr):Sp:=λvs H Q _=>∃(q t:Addr) (ns:List Int) (s:Int×Int×Int),vs=[.ref q,.ref t]/\H q=some (.lst (ns.map V.int))/\ST H t s/\0<s.2.2/\Bits 9000 s.2.2/\∀(o q' l h:Addr) (H':Hp),Same H H'->NA CN H' o q' l h->H' q'=some (.lst (ns.map V.int))->RA C H' l (rt s.1 s.2.2) (rb s.1 s.2.2)->RA C H' h (rt s.2.1 s.2.2) (rb s.2.1 s.2.2)->Q (.ref o) H'
theorem uN(F:Fun K "_law_number" "_law_number" jj f fd)(T:Txt K mg)(R:RCI K mg C)(RN:NCI K mg CN)(dP:KCal P w K mg base 2 C "Ratio" ["self","top","bottom"] (dh C) kA ky kC [.int 1])(zK:KCal P w K mg base 1 CN "Number" ["self","row","low","high"] (gi CN) AZ Au A1 []):FnOk P w K mg base CX0 4 f fd ["_law_kp","_law_span_here"] (mq C CN):=by
 obtain⟨cQ,cP,cJ,cN,kZ,kG⟩:=dP;obtain⟨zc,yO,wf,yD,A3,A2⟩:=zK;refine F.ok r8 (λvs H Q E h=>?_) (λcdv A outer s H vs Q E hr h=>?_)
 ·obtain⟨q,t,ns,s,rfl,_⟩:=h;rfl
 ·obtain⟨q,t,ns,sp,rfl,hq,ht,n0,nb,k⟩:=h;have ne:sp.2.2≠0:=by omega
  refine⟨_,(ak (ar (dj yO zc (hr.mono) rfl wf yD .nil aj (aa (c6 (ib (K:=K) rfl) (by rfl) T.list_ PyProof.Rows.boot_list (aa (pv 0) ac)) (aa (dj cP cQ (hr.mono) rfl cJ cN .nil aj (aa (af (al (K:=K) rfl) (pv 1) ab (λ_ _=>rfl)) (aa (af (al (K:=K) rfl) (pv 1) ab (λ_ _=>rfl)) ac))) (aa (dj cP cQ (hr.mono) rfl cJ cN .nil aj (aa (af (al (K:=K) rfl) (pv 1) ab (λ_ _=>rfl)) (aa (af (al (K:=K) rfl) (pv 1) ab (λ_ _=>rfl)) ac))) ac)))))),?_⟩;refine aK ⟨_,rfl,q,_,rfl,.inl (SqL.of hq),λr hr'=>?_⟩;have u1:=Same.upd_new (o:=.lst (ns.map V.int)) hr';have e1:upd H r (.lst (ns.map V.int)) r=some (.lst (ns.map V.int)):=ah;generalize upd H r (.lst (ns.map V.int))=H1 at u1 e1 ⊢
  have ht1:=u1 _ _ ht;refine⟨_,rfl,t,_,_,_,rfl,rfl,SqT.of ht1,rfl,_,rfl,t,_,_,_,rfl,rfl,SqT.of ht1,rfl,eD ne nb λl H2 u2 hl rl=>?_⟩;have ht2:=u2 _ _ ht1;refine⟨_,rfl,t,_,_,_,rfl,rfl,SqT.of ht2,rfl,_,rfl,t,_,_,_,rfl,rfl,SqT.of ht2,rfl,eD ne nb λh H3 u3 hh rh=>?_⟩;refine vO (u3 _ _ (u2 _ _ e1)) λx p H4 u4 hx hNA hp hpn=>?_
  exact k x p l h H4 (u1.trans (u2.trans (u3.trans u4))) hNA hp (rl.same (u3.trans u4)) (rh.same u4)
def EP(x:List Int):Prop:=∃t n:Int,x=[t,n]/\0<n/\Bits 200 t/\Bits 200 n
theorem cW{σ:St}{H:Hp}{Q:VK}{i:Nat}{t:Addr}{s:Int×Int×Int}{j1 j2 x y:Int}(e:σ[i]?=some (some (.ref t)))(ht:ST H t s)(e1:atI [V.int s.1,V.int s.2.1,V.int s.2.2] j1=some (.int x))(e2:atI [V.int s.1,V.int s.2.1,V.int s.2.2] j2=some (.int y))(k:∀(p:Addr) (H':Hp),Same H H'->H p=none->H' p=some (.tup ([x,y].map V.int))->Q (.ref p) H') :
 lK (b9 (tOp (d7 K) (cA i) (tC (.int j1))) (b9 (tOp (d7 K) (cA i) (tC (.int j2))) dU)) σ H Q :=
 ⟨_,e,t,_,_,_,rfl,rfl,SqT.of ht,e1,_,e,t,_,_,_,rfl,rfl,SqT.of ht,e2,by show 2<=sizeLine;decide,λp hp=>k p _ (Same.upd_new hp) hp ah⟩
theorem gj{m a b c:Int}{s:Int×Int×Int}{j:Nat}(S:SpI m a b c s j)(hj:j<=100):EP [s.1,s.2.2]/\EP [s.2.1,s.2.2]/\EP [s.1+s.2.1,2*s.2.2]:=by
 obtain⟨b1,b2,b3⟩:=cS S hj;have p:=S.pos;have b2':Bits 2 (2:Int):=by show(2:Int).natAbs<2^2;decide
 exact⟨⟨_,_,rfl,p,b1.mono,b3.mono⟩,⟨_,_,rfl,p,b2.mono,b3.mono⟩,⟨_,_,rfl,by omega,(b1.add b2).mono,(b2'.mul b3).mono⟩⟩
theorem qp{p:List Int->Prop}{a b c d:List Int}(h1:p a)(h2:p b)(h3:p c)(h4:p d):∀x∈[a,b,c,d],p x:=λx hx=>by simp only[Bb,BD,or_false]at hx;rcases hx with rfl |rfl |rfl |rfl<;>assumption
theorem TuH.app{H:Hp}{ps qs:List Addr}{xs ys:List (List Int)}(h:TuH H ps xs)(h':TuH H qs ys):TuH H (ps++qs) (xs++ys):=by
 refine⟨by rw[Ba,Ba,h.1,h'.1],λi p zs e1 e2=>?_⟩;by_cases hi:i<ps.length
 ·rw[List.getElem?_append_left hi]at e1;rw[List.getElem?_append_left (by rw[<- h.1];exact hi)]at e2;exact h.2 i p zs e1 e2
 ·rw[List.getElem?_append_right (by omega)]at e1;rw[List.getElem?_append_right (by rw[<- h.1];omega),<- h.1]at e2;exact h'.2 _ p zs e1 e2
def mw:Sp:=λvs H Q _=>∃(t p u p':Addr) (cell:Int) (j j':Nat) (a b c m a' b' c' m':Int),vs=[.ref t,.ref p,.ref u,.ref p',.int cell]/\ST H t (itS m a b c j)/\CT H p a b c m/\CubOk a b c m/\j<=40/\ST H u (itS m' a' b' c' j')/\CT H p' a' b' c' m'/\CubOk a' b' c' m'/\j'<=40/\∀(l:Addr) (es:List Addr) (ps:List (List Int)) (H':Hp),Same H H'->H' l=some (.lst (es.map V.ref))->TuH H' es ps->ps.length=11->(∀x∈ps,EP x)->Q (.ref l) H'
theorem uT(F:Fun K "_law_ends" "_law_ends" jo f fd)(T:Txt K mg)(fV:Cal P w K mg base 4 "_law_half" ["_law_span_here","_law_spot"] gk o8 o3)(lu:Cal P w K mg base 1 "_law_within" ["_law_cell","_law_most"] iB xP xH):FnOk P w K mg base CX0 5 f fd ["_law_span_here","_law_spot","_law_other","_law_mate","_law_cell"] mw:=by
 obtain⟨dM,dw,dC,dI⟩:=fV;obtain⟨fQ,fw,fA,fL⟩:=lu;refine F.ok sc__law_ends (λvs H Q E h=>?_) (λcdv A outer s H vs Q E hr h=>?_)
 ·obtain⟨t,p,u,p',cell,j,j',a,b,c,m,a',b',c',m',rfl,_⟩:=h;rfl
 ·obtain⟨t,p,u,p',cell,j,j',a,b,c,m,a',b',c',m',rfl,ht,hp,hC,hj,hu,hp',hC',hj',k⟩:=h;have big:=sizeLine_eq;have M2:Bits 1000000 (2:Int):=Bits.mono (j:=2) (by show(2:Int).natAbs<2^2;decide) (by decide)
  refine⟨_,(ae (ai (i:=5) sc__law_ends.nd rfl (Or.inl rfl) (aJ (aa (aR (aa (af (al (K:=K) rfl) (pv 0) ab (λ_ _=>rfl)) (aa (af (al (K:=K) rfl) (pv 0) ab (λ_ _=>rfl)) ac))) (aa (aR (aa (af (al (K:=K) rfl) (pv 0) ab (λ_ _=>rfl)) (aa (af (al (K:=K) rfl) (pv 0) ab (λ_ _=>rfl)) ac))) (aa (aR (aa (af (al (K:=K) rfl) (pv 2) ab (λ_ _=>rfl)) (aa (af (al (K:=K) rfl) (pv 2) ab (λ_ _=>rfl)) ac))) (aa (aR (aa (af (al (K:=K) rfl) (pv 2) ab (λ_ _=>rfl)) (aa (af (al (K:=K) rfl) (pv 2) ab (λ_ _=>rfl)) ac))) ac))))))
   (ae (bD PassesOwn.never rfl (cG rfl T.range_ (aa (ad aS (pv 4) ab) ac)) (aV (i:=6) sc__law_ends.nd rfl (Or.inl rfl))
     (ae (ai (i:=0) sc__law_ends.nd rfl (Or.inl rfl) (am dM (hr.mono) rfl dw dC dI .nil aj (aa (pv 0) (aa (pv 1) ac))))
       (ak (ai (i:=2) sc__law_ends.nd rfl (Or.inl rfl) (am dM (hr.mono) rfl dw dC dI .nil aj (aa (pv 2) (aa (pv 3) ac)))))))
   (ae (ai (i:=5) sc__law_ends.nd rfl (Or.inl rfl) (ad jR (pv 5) (aJ (aa (aR (aa (af (al (K:=K) rfl) (pv 0) ab (λ_ _=>rfl)) (aa (af (al (K:=K) rfl) (pv 0) ab (λ_ _=>rfl)) ac))) (aa (aR (aa (af (al (K:=K) rfl) (pv 0) ab (λ_ _=>rfl)) (aa (af (al (K:=K) rfl) (pv 0) ab (λ_ _=>rfl)) ac))) (aa (aR (aa (af (al (K:=K) rfl) (pv 2) ab (λ_ _=>rfl)) (aa (af (al (K:=K) rfl) (pv 2) ab (λ_ _=>rfl)) ac))) (aa (aR (aa (af (al (K:=K) rfl) (pv 2) ab (λ_ _=>rfl)) (aa (af (al (K:=K) rfl) (pv 2) ab (λ_ _=>rfl)) ac))) ac)))))))
   (ae (cF (c7 PySem.F.plainAttrs_list PySem.F.slot_list_append PySem.F.type_list_append c9 (pv 5) (aa (aR (aa (ad aW (af (al (K:=K) rfl) (pv 0) ab (λ_ _=>rfl)) (af (al (K:=K) rfl) (pv 0) ab (λ_ _=>rfl))) (aa (ad aw ab (af (al (K:=K) rfl) (pv 0) ab (λ_ _=>rfl))) ac))) ac)))
   (ae (cF (c7 PySem.F.plainAttrs_list PySem.F.slot_list_append PySem.F.type_list_append c9 (pv 5) (aa (aR (aa (ad aW (af (al (K:=K) rfl) (pv 2) ab (λ_ _=>rfl)) (af (al (K:=K) rfl) (pv 2) ab (λ_ _=>rfl))) (aa (ad aw ab (af (al (K:=K) rfl) (pv 2) ab (λ_ _=>rfl))) ac))) ac)))
   (ae (cF (c7 PySem.F.plainAttrs_list PySem.F.slot_list_append PySem.F.type_list_append c9 (pv 5) (aa (aR (aa (am fQ (hr.mono) rfl fw fA fL .nil aj (aa (ad bH (pv 4) ab) (aa ab ac))) (aa (ad aW ab (ad aS (ad bH (pv 4) ab) ab)) ac))) ac)))
   (ak (ar (pv 5))))))))),?_⟩
  refine ao (mV (cX (cW rfl ht rfl rfl λx1 H1 u1 n1 e1=>?_)));refine cX (cW rfl (u1 _ _ ht) rfl rfl λx2 H2 u2 n2 e2=>?_);have t2:=u1.trans u2;refine cX (cW rfl (t2 _ _ hu) rfl rfl λx3 H3 u3 n3 e3=>?_);have t3:=t2.trans u3;refine cX (cW rfl (t3 _ _ hu) rfl rfl λx4 H4 u4 n4 e4=>?_);have t4:=t3.trans u4;have T4:=((((TuH.nil.snoc e1).same u2 |>.snoc e2).same u3 |>.snoc e3).same u4 |>.snoc e4);obtain⟨p1,p2,_⟩:=gj (aU hC j) (by omega);obtain⟨p3,p4,_⟩:=gj (aU hC' j') (by omega);have P4:=qp p1 p2 p3 p4;refine⟨by show 4<=sizeLine;decide,λl0 h0=>?_⟩;have u5:=Same.upd_new (o:=.lst ([x1,x2,x3,x4].map V.ref)) h0;have e5:upd H4 l0 (.lst ([x1,x2,x3,x4].map V.ref)) l0=some (.lst ([x1,x2,x3,x4].map V.ref)):=ah;have t5:=t4.trans u5;have T5:=T4.same u5;show aT _ _ _ _ (upd H4 l0 (.lst ([x1,x2,x3,x4].map V.ref)));generalize upd H4 l0 (.lst ([x1,x2,x3,x4].map V.ref))=H5 at u5 e5 t5 T5 ⊢
  obtain⟨c1,c2⟩:=aX (x:=cell) (m:=12) (by decide);have em:(((cell%12).toNat:Nat):Int)=cell%12:=Ck c1;refine⟨_,rfl,_,_,rfl,rfl,(by show(0:Int)<12;decide),(cell%12).toNat,by rw[em],by omega,by omega,dF (lo:=0) (n:=(cell%12).toNat) (λi σ' H'=>∃(t u:Addr) (z:Option V),σ'=[some (.ref t),some (.ref p),some (.ref u),some (.ref p'),some (.int cell),some (.ref l0),z]/\Same H5 H'/\ST H' t (itS m a b c (j+i))/\ST H' u (itS m' a' b' c' (j'+i))) ⟨t,u,none,rfl,Same.refl _,t5 _ _ ht,t5 _ _ hu⟩ ?_ ?_⟩
  ·rintro i σ' H6 hi ⟨t,u,z,rfl,s6,et,eu⟩;have w6:=t5.trans s6;refine ao ⟨_,rfl,_,rfl,t,p,_,j+i,a,b,c,m,rfl,et,w6 _ _ hp,hC,aU hC _,by omega,λt' H7 s7 ht' et'=>?_⟩;refine ca ⟨_,rfl,_,rfl,u,p',_,j'+i,a',b',c',m',rfl,s7 _ _ eu,(w6.trans s7) _ _ hp',hC',aU hC' _,by omega,λu' H8 s8 hu' eu'=>?_⟩;exact⟨t',u',_,rfl,s6.trans (s7.trans s8),s8 _ _ et',eu'⟩
  clear ht hu;rintro σ' H6 ⟨t,u,z,rfl,s6,et,eu⟩;have t6:=t5.trans s6;have e6:=s6 _ _ e5;have T6:=T5.same s6;obtain⟨q1,q2,q3⟩:=gj (aU hC (j+(cell%12).toNat)) (by omega);obtain⟨q4,q5,q6⟩:=gj (aU hC' (j'+(cell%12).toNat)) (by omega);obtain⟨_,_,bt⟩:=cS (aU hC (j+(cell%12).toNat)) (by omega);obtain⟨_,_,bu⟩:=cS (aU hC' (j'+(cell%12).toNat)) (by omega);generalize itS m a b c (j+(cell%12).toNat)=st at et q1 q2 q3 bt
  generalize itS m' a' b' c' (j'+(cell%12).toNat)=su at eu q4 q5 q6 bu
  dsimp only
  refine ao ?_;refine⟨_,rfl,?_⟩;refine mV (cX (cW rfl et rfl rfl λy1 H7 u7 n7 e7=>?_));refine cX (cW rfl (u7 _ _ et) rfl rfl λy2 H8 u8 n8 e8=>?_);have t8:=u7.trans u8;refine cX (cW rfl (t8 _ _ eu) rfl rfl λy3 H9 u9 n9 e9=>?_);have t9:=t8.trans u9;refine cX (cW rfl (t9 _ _ eu) rfl rfl λy4 Ha ua na ea=>?_);have ta:=t9.trans ua;have Ta:=((((TuH.nil.snoc e7).same u8 |>.snoc e8).same u9 |>.snoc e9).same ua |>.snoc ea);have Q4:=qp q1 q2 q4 q5;refine⟨by show 4<=sizeLine;decide,λl1 h1=>?_⟩;have ub:=Same.upd_new (o:=.lst ([y1,y2,y3,y4].map V.ref)) h1;have eb:upd Ha l1 (.lst ([y1,y2,y3,y4].map V.ref)) l1=some (.lst ([y1,y2,y3,y4].map V.ref)):=ah;have Tb:=Ta.same ub;have tb:=ta.trans ub;show m6 _ _ (upd Ha l1 (.lst ([y1,y2,y3,y4].map V.ref))) _;generalize upd Ha l1 (.lst ([y1,y2,y3,y4].map V.ref))=Hb at ub eb Tb tb ⊢
  refine⟨l0,l1,_,_,rfl,rfl,tb _ _ e6,eb,by show 8<=sizeLine;decide,λL hL=>?_⟩;have uc:=Same.upd_new (o:=.lst ([x1,x2,x3,x4].map V.ref++[y1,y2,y3,y4].map V.ref)) hL;have ec:upd Hb L (.lst ([x1,x2,x3,x4].map V.ref++[y1,y2,y3,y4].map V.ref)) L=some (.lst ([x1,x2,x3,x4,y1,y2,y3,y4].map V.ref)):=ah;have Tc:=((T6.same tb).app Tb).same uc;have Pc:∀x∈_++_,EP x:=λx hx=>(Bn.mp hx).elim (P4 x) (Q4 x)
  have tc:=t6.trans (tb.trans uc);have etc:=(tb.trans uc) _ _ et;have euc:=(tb.trans uc) _ _ eu;have nL:=(t6.trans tb).free hL;show aT _ _ _ _ (upd Hb L (.lst ([x1,x2,x3,x4].map V.ref++[y1,y2,y3,y4].map V.ref)));generalize upd Hb L (.lst ([x1,x2,x3,x4].map V.ref++[y1,y2,y3,y4].map V.ref))=Hc at uc ec Tc tc etc euc ⊢
  generalize hxs:[[(itS m a b c j).1,(itS m a b c j).2.2],[(itS m a b c j).2.1,(itS m a b c j).2.2],[(itS m' a' b' c' j').1,(itS m' a' b' c' j').2.2],[(itS m' a' b' c' j').2.1,(itS m' a' b' c' j').2.2]]++[[st.1,st.2.2],[st.2.1,st.2.2],[su.1,su.2.2],[su.2.1,su.2.2]]=xs at Pc
  have Tc':TuH Hc [x1,x2,x3,x4,y1,y2,y3,y4] xs:=by rw[<- hxs];exact Tc
  have lx:xs.length=8:=by rw[<- hxs];rfl
  clear Tc hxs;refine dX ⟨_,rfl,.inl ⟨rfl,_,SqL.of ec⟩,_,rfl,t,_,_,_,rfl,rfl,SqT.of etc,rfl,_,rfl,t,_,_,_,rfl,rfl,SqT.of etc,rfl,_,_,rfl,rfl,_,rfl,t,_,_,_,rfl,rfl,SqT.of etc,rfl,_,_,rfl,rfl,⟨M2,bt.mono⟩,by show 2<=sizeLine;decide,λz1 hz1=>?_⟩;have v1:=Same.upd_new (o:=.tup [.int (st.1+st.2.1),.int (2*st.2.2)]) hz1;have f1:upd Hc z1 (.tup [.int (st.1+st.2.1),.int (2*st.2.2)]) z1=some (.tup ([st.1+st.2.1,2*st.2.2].map V.int)):=ah;have Td:=(Tc'.same v1).snoc f1;have ed:=v1 _ _ ec;refine⟨L,_,_,rfl,rfl,ed,by show 8<sizeLine;decide,?_⟩;have te:=cu (o:=.lst ([x1,x2,x3,x4,y1,y2,y3,y4].map V.ref++[.ref z1])) (tc.trans v1) nL
  have ete:ST (upd (upd Hc z1 (.tup [.int (st.1+st.2.1),.int (2*st.2.2)])) L (.lst ([x1,x2,x3,x4,y1,y2,y3,y4].map V.ref++[.ref z1]))) u su:=by unfold ST;rw[upd_ne (λz=>by have:=v1 _ _ euc;rw[z,ed]at this;cases this)];exact v1 _ _ euc
  have Te:=Td.upd_lst (o:=.lst ([x1,x2,x3,x4,y1,y2,y3,y4].map V.ref++[.ref z1])) ed;have ee:upd (upd Hc z1 (.tup [.int (st.1+st.2.1),.int (2*st.2.2)])) L (.lst ([x1,x2,x3,x4,y1,y2,y3,y4].map V.ref++[.ref z1])) L=some (.lst (([x1,x2,x3,x4,y1,y2,y3,y4]++[z1]).map V.ref)):=ah;show aT _ _ _ _ (upd (upd Hc z1 (.tup [.int (st.1+st.2.1),.int (2*st.2.2)])) L (.lst ([x1,x2,x3,x4,y1,y2,y3,y4].map V.ref++[.ref z1])));generalize upd (upd Hc z1 (.tup [.int (st.1+st.2.1),.int (2*st.2.2)])) L (.lst ([x1,x2,x3,x4,y1,y2,y3,y4].map V.ref++[.ref z1]))=He at te ete Te ee ⊢
  clear v1 f1 Td ed;refine dX ⟨_,rfl,.inl ⟨rfl,_,SqL.of ee⟩,_,rfl,u,_,_,_,rfl,rfl,SqT.of ete,rfl,_,rfl,u,_,_,_,rfl,rfl,SqT.of ete,rfl,_,_,rfl,rfl,_,rfl,u,_,_,_,rfl,rfl,SqT.of ete,rfl,_,_,rfl,rfl,⟨M2,bu.mono⟩,by show 2<=sizeLine;decide,λz2 hz2=>?_⟩;have v1:=Same.upd_new (o:=.tup [.int (su.1+su.2.1),.int (2*su.2.2)]) hz2;have f1:upd He z2 (.tup [.int (su.1+su.2.1),.int (2*su.2.2)]) z2=some (.tup ([su.1+su.2.1,2*su.2.2].map V.int)):=ah;have Tf:=(Te.same v1).snoc f1;have ef:=v1 _ _ ee;refine⟨L,_,_,rfl,rfl,ef,by show 9<sizeLine;decide,?_⟩;have tf:=cu (o:=.lst (([x1,x2,x3,x4,y1,y2,y3,y4]++[z1]).map V.ref++[.ref z2])) (te.trans v1) nL;have Tg:=Tf.upd_lst (o:=.lst (([x1,x2,x3,x4,y1,y2,y3,y4]++[z1]).map V.ref++[.ref z2])) ef;have eg:upd (upd He z2 (.tup [.int (su.1+su.2.1),.int (2*su.2.2)])) L (.lst (([x1,x2,x3,x4,y1,y2,y3,y4]++[z1]).map V.ref++[.ref z2])) L=some (.lst (([x1,x2,x3,x4,y1,y2,y3,y4]++[z1]++[z2]).map V.ref)):=ah;show aT _ _ _ _ (upd (upd He z2 (.tup [.int (su.1+su.2.1),.int (2*su.2.2)])) L (.lst (([x1,x2,x3,x4,y1,y2,y3,y4]++[z1]).map V.ref++[.ref z2])));generalize upd (upd He z2 (.tup [.int (su.1+su.2.1),.int (2*su.2.2)])) L (.lst (([x1,x2,x3,x4,y1,y2,y3,y4]++[z1]).map V.ref++[.ref z2]))=Hg at tf Tg eg ⊢
  clear v1 f1 Tf ef;obtain⟨g1,g2⟩:=aX (x:=cell/12) (m:=61) (by decide);obtain⟨g3,g4⟩:=aX (x:=cell/12) (m:=7) (by decide);refine dX ⟨_,rfl,.inl ⟨rfl,_,SqL.of eg⟩,_,rfl,_,_,rfl,rfl,⟨by show(0:Int)<12;decide,az (by decide) (by decide)⟩,_,30,rfl,by decide,az (by decide) (by decide),_,rfl,_,_,rfl,rfl,⟨by show(0:Int)<12;decide,az (by decide) (by decide)⟩,_,_,rfl,rfl,(by show(0:Int)<7;decide),_,_,rfl,rfl,by show 2<=sizeLine;decide,λz3 hz3=>?_⟩;have v1:=Same.upd_new (o:=.tup [.int (cell/12%(2*30+1)-30),.int (1+cell/12%7)]) hz3;have f1:upd Hg z3 (.tup [.int (cell/12%(2*30+1)-30),.int (1+cell/12%7)]) z3=some (.tup ([cell/12%(2*30+1)-30,1+cell/12%7].map V.int)):=ah;have Th:=(Tg.same v1).snoc f1;have eh:=v1 _ _ eg;refine⟨L,_,_,rfl,rfl,eh,by show 10<sizeLine;decide,?_⟩;have E3:EP [cell/12%(2*30+1)-30,1+cell/12%7]:=⟨_,_,rfl,by omega,az (by omega) (by decide),az (by omega) (by decide)⟩;refine aK ⟨_,rfl,k L _ _ _ (cu (tf.trans v1) nL) ah (Th.upd_lst eh) (by simp[lx]) λx hx=>?_⟩;rcases Bn.mp hx with hx |hx
  ·rcases Bn.mp hx with hx |hx
   ·rcases Bn.mp hx with hx |hx
    ·exact Pc x hx
    ·rw[Bf.mp hx];exact q3
   ·rw[Bf.mp hx];exact q6
  ·rw[Bf.mp hx];exact E3
def mx(C:Addr):Sp:=λvs H Q _=>∃(l:Addr) (es:List Addr) (ps:List (List Int)) (u cell:Int),vs=[.ref l,.int u,.int cell]/\H l=some (.lst (es.map V.ref))/\TuH H es ps/\ps.length=11/\(∀x∈ps,EP x)/\0<=u/\u<11/\∀(x:Addr) (x1 x2:Int) (H':Hp),Same H H'->H x=none->PEnd C H' x x1 x2->Q (.ref x) H'
theorem uU(F:Fun K "_law_end_by" "_law_end_by" jp f fd)(T:Txt K mg)(R:RCI K mg C)(dP:KCal P w K mg base 2 C "Ratio" ["self","top","bottom"] (dh C) kA ky kC [.int 1]):FnOk P w K mg base CX0 4 f fd ["_law_ends_here","_law_usual","_law_cell"] (mx C):=by
 obtain⟨cQ,cP,cJ,cN,kZ,kG⟩:=dP;refine F.ok sc__law_end_by (λvs H Q E h=>?_) (λcdv A outer s H vs Q E hr h=>?_)
 ·obtain⟨l,es,ps,u,cell,rfl,_⟩:=h;rfl
 ·obtain⟨l,es,ps,u,cell,rfl,hl,hT,pl,hE,u0,u1,k⟩:=h
  refine⟨_,(ae (aN (aF bz (ad aS (pv 2) ab) ab (au _))
   (ak (ai (i:=1) sc__law_end_by.nd rfl (Or.inl rfl) (ad aS (ad bH (pv 2) ab) ab)))
   aM)
   (ak (ar (dj cP cQ (hr.mono) rfl cJ cN .nil aj (aa (af (al (K:=K) rfl) (af (aA (K:=K) rfl) (pv 0) (pv 1) (λ_ _=>rfl)) ab (λ_ _=>rfl)) (aa (af (al (K:=K) rfl) (af (aA (K:=K) rfl) (pv 0) (pv 1) (λ_ _=>rfl)) ab (λ_ _=>rfl)) ac)))))),?_⟩
  obtain⟨g1,g2⟩:=aX (x:=cell/3) (m:=11) (by decide);refine cn (λσ' H'=>∃u:Int,σ'=[some (.ref l),some (.int u),some (.int cell)]/\H=H'/\0<=u/\u<11) ?_ ?_
  case refine_2 =>intro rest;refine⟨_,rfl,_,_,rfl,rfl,(by show(0:Int)<3;decide),_,_,rfl,rfl,_,rfl,aD (λ_=>?_) (λ_=>rest _ _ ⟨u,rfl,rfl,u0,u1⟩)⟩;exact ca ⟨_,rfl,_,_,rfl,rfl,⟨by show(0:Int)<3;decide,az (by decide) (by decide)⟩,_,_,rfl,rfl,(by show(0:Int)<11;decide),rest _ _ ⟨_,rfl,rfl,g1,g2⟩⟩
  clear u0 u1 u;rintro σ' H' ⟨u,rfl,rfl,u0,u1⟩;obtain⟨i,ei⟩:∃i:Nat,u=(i:Int):=⟨u.toNat,by omega⟩;have hi:i<es.length:=by rw[hT.1];omega
  have hat:atI (es.map V.ref) u=some (.ref es[i]):=by rw[ei];exact eT (by rw[List.getElem?_map,List.getElem?_eq_getElem hi];rfl)
  have hi':i<ps.length:=by omega
  have hq:=hT.2 i es[i] ps[i] (List.getElem?_eq_getElem hi) (List.getElem?_eq_getElem hi');obtain⟨t,n,ee,n0,bt,bn⟩:=hE ps[i] (BI hi');rw[ee]at hq;have ne:n≠0:=by omega
  refine aK ⟨_,rfl,_,rfl,l,_,_,_,rfl,rfl,SqL.of hl,hat,_,_,_,_,rfl,rfl,SqT.of hq,rfl,_,rfl,_,rfl,l,_,_,_,rfl,rfl,SqL.of hl,hat,_,_,_,_,rfl,rfl,SqT.of hq,rfl,eD ne (bn.mono) λx H' s' hx hR=>?_⟩;exact k x _ _ H' s' hx ⟨hR,bV ne,(cV ne bt).mono,(cY ne bn).mono⟩
theorem dZ{Q:Hp->Prop}{H1 H2:Hp}(e:H1=H2)(h:Q H2):Q H1:=by rw[e];exact h
theorem PEnd.upd_lst{C:Addr}{H:Hp}{x a:Addr}{x1 x2:Int}{vs:List V}{o:HO}(n:PEnd C H x x1 x2)(ha:H a=some (.lst vs)):PEnd C (upd H a o) x x1 x2:=by obtain⟨⟨dx,e⟩,p,b1,b2⟩:=n;exact⟨⟨dx,by rw[upd_ne (λz=>by rw[z,ha]at e;cases e)];exact e⟩,p,b1,b2⟩
noncomputable def PpO(C:Addr)(H:Hp)(p:Addr):Prop :=
 (∃(g x y:Addr) (gs:List Int) (x1 x2 y1 y2:Int),H p=some (.tup [.str ("alike":Str),.ref g,.ref x,.ref y])/\PEnd C H x x1 x2/\PEnd C H y y1 y2/\H g=some (.lst (gs.map V.int))/\gs.length<=20/\AllB 1000 gs/\Tr gs) \/
 ∃(wd:Str) (x y x' y':Addr) (x1 x2 y1 y2 x1' x2' y1' y2':Int),(wd=("under":Str)\/wd=("over":Str))/\H p=some (.tup [.str wd,.ref x,.ref y,.ref x',.ref y'])/\PEnd C H x x1 x2/\PEnd C H y y1 y2/\PEnd C H x' x1' x2'/\PEnd C H y' y1' y2'
def PEs(C:Addr)(H:Hp)(xs:List Addr):Prop:=∀x∈xs,∃x1 x2:Int,PEnd C H x x1 x2
theorem oU{C:Addr}{H:Hp}{xs:List Addr}(h:PEs C H xs)(l:xs.length=4):∃(a b c d:Addr) (a1 a2 b1 b2 c1 c2 d1 d2:Int),xs=[a,b,c,d]/\PEnd C H a a1 a2/\PEnd C H b b1 b2/\PEnd C H c c1 c2/\PEnd C H d d1 d2:=by
 match xs,l with
 | [a,b,c,d],_ =>obtain⟨a1,a2,ha⟩:=h a (by simp);obtain⟨b1,b2,hb⟩:=h b (by simp);obtain⟨c1,c2,hc⟩:=h c (by simp);obtain⟨d1,d2,hd⟩:=h d (by simp);exact⟨a,b,c,d,a1,a2,b1,b2,c1,c2,d1,d2,rfl,ha,hb,hc,hd⟩
theorem lA{c:Int}(h:¬c%3=0):∃wd:Str,(wd=("under":Str)\/wd=("over":Str))/\atI [V.str ("":Str),V.str ("under":Str),V.str ("over":Str)] (c%3)=some (.str wd):=by
 rcases(show c%3=1\/c%3=2 by omega)with e |e<;>rw[e]
 ·exact⟨_,.inl rfl,rfl⟩
 ·exact⟨_,.inr rfl,rfl⟩
def CsL(H:Hp)(cs:Addr)(c0 c1 c2 c3:Int):Prop:=H cs=some (.lst [.int c0,.int c1,.int c2,.int c3])
def mn(C:Addr):Sp:=λvs H Q _=>∃(l sh cs:Addr) (es sq:List Addr) (ps ss:List (List Int)) (c0 c1 c2 c3:Int),vs=[.ref l,.ref sh,.ref cs]/\H l=some (.lst (es.map V.ref))/\TuH H es ps/\ps.length=11/\(∀x∈ps,EP x)/\H sh=some (.lst (sq.map V.ref))/\RwH H sq ss/\ss.length=8/\(∀g∈ss,Tr g/\g.length<=20/\AllB 1000 g)/\CsL H cs c0 c1 c2 c3/\∀(p:Addr) (H':Hp),Same H H'->PpO C H' p->Q (.ref p) H'
theorem uM(F:Fun K "_law_paper_by" "_law_paper_by" ji f fd)(T:Txt K mg)(R:RCI K mg C)(zF:Cal P w K mg base 4 "_law_end_by" ["_law_ends_here","_law_usual","_law_cell"] (mx C) AU Ao):FnOk P w K mg base CX0 5 f fd ["_law_ends_here","_law_shapes","_law_cells_of"] (mn C):=by
 obtain⟨lg,j8,kf,kY⟩:=zF;refine F.ok sc__law_paper_by (λvs H Q E h=>?_) (λcdv A outer s H vs Q E hr h=>?_)
 ·obtain⟨l,sh,cs,es,sq,ps,ss,c0,c1,c2,c3,rfl,_⟩:=h;rfl
 ·obtain⟨l,sh,cs,es,sq,ps,ss,c0,c1,c2,c3,rfl,hl,hT,pl,hE,hsh,hR,sl,hS,hcs,k⟩:=h;have big:=sizeLine_eq
  refine⟨_,(ae (ai (i:=3) sc__law_paper_by.nd rfl (Or.inl rfl) (aJ (aa ab (aa ab (aa ab (aa ab ac))))))
   (ae (aN (aF bz (ad aS (af (aA (K:=K) rfl) (pv 2) ab (λ_ _=>rfl)) ab) ab (au _))
     (ae (ai (i:=4) sc__law_paper_by.nd rfl (Or.inl rfl) (ad aW ab (ad aw ab (ad aS (af (aA (K:=K) rfl) (pv 2) ab (λ_ _=>rfl)) ab))))
       (ae (ai (i:=5) sc__law_paper_by.nd rfl (Or.inl rfl) (aJ (aa (am lg (hr.mono) rfl j8 kf kY .nil aj (aa (pv 0) (aa (pv 4) (aa (af (aA (K:=K) rfl) (pv 2) ab (λ_ _=>rfl)) ac)))) (aa (am lg (hr.mono) rfl j8 kf kY .nil aj (aa (pv 0) (aa (ad aW (pv 4) ab) (aa (ad bH (af (aA (K:=K) rfl) (pv 2) ab (λ_ _=>rfl)) ab) ac)))) ac))))
       (ak (ar (aR (aa bK (aa (c6 (ib (K:=K) rfl) (by rfl) T.list_ PyProof.Rows.boot_list (aa (af (aA (K:=K) rfl) (pv 1) (ad aS (ad bH (af (aA (K:=K) rfl) (pv 2) ab (λ_ _=>rfl)) ab) (bg (bZ (K:=K) rfl) (by rfl) T.len_ PySem.boot_len (aa (pv 1) ac))) (λ_ _=>rfl)) ac)) (aa (af (aA (K:=K) rfl) (pv 5) ab (λ_ _=>rfl)) (aa (af (aA (K:=K) rfl) (pv 5) ab (λ_ _=>rfl)) ac)))))))))
     aM)
   (ae (ai (i:=6) sc__law_paper_by.nd rfl (Or.inl rfl) (af (aA (K:=K) rfl) (aJ (aa bK (aa bK (aa bK ac)))) (ad aS (af (aA (K:=K) rfl) (pv 2) ab (λ_ _=>rfl)) ab) (λ_ _=>rfl)))
   (ae (ai (i:=7) sc__law_paper_by.nd rfl (Or.inl rfl) (aJ ac))
   (ae (ai (i:=8) sc__law_paper_by.nd rfl (Or.inl rfl) (af (aA (K:=K) rfl) (pv 2) ab (λ_ _=>rfl)))
   (ae (bD PassesOwn.never rfl (cG rfl T.range_ (aa ab ac)) (aV (i:=9) sc__law_paper_by.nd rfl (Or.inl rfl))
     (ae (cF (c7 PySem.F.plainAttrs_list PySem.F.slot_list_append PySem.F.type_list_append c9 (pv 7) (aa (am lg (hr.mono) rfl j8 kf kY .nil aj (aa (pv 0) (aa (af (aA (K:=K) rfl) (pv 3) (pv 9) (λ_ _=>rfl)) (aa (pv 8) ac)))) ac)))
       (ak (ai (i:=8) sc__law_paper_by.nd rfl (Or.inl rfl) (ad bH (pv 8) ab)))))
   (ak (ar (aR (aa (pv 6) (aa (af (aA (K:=K) rfl) (pv 7) ab (λ_ _=>rfl)) (aa (af (aA (K:=K) rfl) (pv 7) ab (λ_ _=>rfl)) (aa (af (aA (K:=K) rfl) (pv 7) ab (λ_ _=>rfl)) (aa (af (aA (K:=K) rfl) (pv 7) ab (λ_ _=>rfl)) ac)))))))))))))),?_⟩
  refine ao ⟨by show 4<=sizeLine;decide,λus hus=>?_⟩;have s1:=Same.upd_new (o:=.lst [.int 4,.int 5,.int 6,.int 7]) hus;have e1:upd H us (.lst [.int 4,.int 5,.int 6,.int 7]) us=some (.lst [.int 4,.int 5,.int 6,.int 7]):=ah;show aT _ _ _ _ (upd H us (.lst [.int 4,.int 5,.int 6,.int 7]));generalize upd H us (.lst [.int 4,.int 5,.int 6,.int 7])=H1 at s1 e1 ⊢
  have hcs1:=s1 _ _ hcs;have D33:(0:Int)<33/\Bits 9000 (33:Int):=⟨by decide,az (by decide) (by decide)⟩;refine bh ⟨_,rfl,cs,_,_,_,rfl,rfl,SqL.of hcs1,rfl,_,_,rfl,rfl,(by show(0:Int)<3;decide),_,_,rfl,rfl,_,rfl,aD (λz=>?_) (λz=>?_)⟩
  ·obtain⟨d1,d2⟩:=aX (x:=c2) (m:=2) (by decide);refine ao ⟨_,rfl,cs,_,_,_,rfl,rfl,SqL.of hcs1,rfl,_,_,rfl,rfl,(by show(0:Int)<2;decide),_,_,rfl,rfl,⟨az (by decide) (by decide),az (by omega) (by decide)⟩,_,_,rfl,rfl,?_⟩;show aT _ _ _ _ _;refine ao ⟨_,rfl,_,rfl,_,rfl,cs,_,_,_,rfl,rfl,SqL.of hcs1,rfl,l,es,ps,_,_,rfl,s1 _ _ hl,hT.same s1,pl,hE,by omega,by omega,λx x1 x2 H2 s2 hx hP=>?_⟩;have t2:=s1.trans s2;have hcs2:=t2 _ _ hcs;refine⟨_,rfl,_,rfl,_,_,rfl,rfl,_,rfl,cs,_,_,_,rfl,rfl,SqL.of hcs2,rfl,_,_,rfl,rfl,D33,l,es,ps,_,_,rfl,t2 _ _ hl,hT.same t2,pl,hE,by omega,by omega,λy y1 y2 H3 s3 hy hP'=>?_⟩;have t3:=t2.trans s3;refine⟨by show 2<=sizeLine;decide,λon hon=>?_⟩;have s4:=Same.upd_new (o:=.lst [.ref x,.ref y]) hon;have e4:upd H3 on (.lst [.ref x,.ref y]) on=some (.lst [.ref x,.ref y]):=ah;have t4:=t3.trans s4;dsimp only
   generalize upd H3 on (.lst [.ref x,.ref y])=H4 at s4 e4 t4 ⊢
   have hcs4:=t4 _ _ hcs;have hsh4:=t4 _ _ hsh;have lq:(sq.map V.ref).length=8:=by rw[A4,hR.1,sl]
   obtain⟨i,hi,ei⟩:∃i:Nat,i<8/\c2/2%((sq.map V.ref).length:Int)=(i:Int):=by rw[lq];obtain⟨g1,g2⟩:=aX (x:=c2/2) (m:=8) (by decide);exact⟨(c2/2%8).toNat,by omega,by rw[Ck g1];rfl⟩
   obtain⟨g,eg,hg⟩:=(hR.same t4).get (i:=i) (by omega);have hat:atI (sq.map V.ref) (c2/2%((sq.map V.ref).length:Int))=some (.ref g):=by rw[ei];exact eT (by rw[List.getElem?_map,eg];rfl)
   have hm:ss.getD i []∈ss:=by rw[List.getD_eq_getElem?_getD,List.getElem?_eq_getElem (show i<ss.length by omega)];exact BI _
   refine aK ⟨_,rfl,_,rfl,cs,_,_,_,rfl,rfl,SqL.of hcs4,rfl,_,_,rfl,rfl,⟨by show(0:Int)<2;decide,az (by decide) (by decide)⟩,_,rfl,sh,_,rfl,.inl (SqL.of hsh4),_,_,rfl,rfl,(by show(0:Int)<((sq.map V.ref).length:Int);rw[lq];decide),sh,_,_,_,rfl,rfl,SqL.of hsh4,hat,g,_,rfl,.inl (SqL.of hg),λg' hg'=>?_⟩;have s5:=Same.upd_new (o:=.lst ((ss.getD i []).map V.int)) hg';have e5:upd H4 g' (.lst ((ss.getD i []).map V.int)) g'=some (.lst ((ss.getD i []).map V.int)):=ah;generalize upd H4 g' (.lst ((ss.getD i []).map V.int))=H5 at s5 e5 ⊢
   have e45:=s5 _ _ e4;refine⟨_,rfl,on,_,_,_,rfl,rfl,SqL.of e45,rfl,_,rfl,on,_,_,_,rfl,rfl,SqL.of e45,rfl,by show 4<=sizeLine;decide,λpp hpp=>?_⟩;have s6:=Same.upd_new (o:=.tup [.str ("alike":Str),.ref g',.ref x,.ref y]) hpp;exact k pp _ (t4.trans (s5.trans s6)) (.inl ⟨g',x,y,_,x1,x2,y1,y2,ah,hP.same (s3.trans (s4.trans (s5.trans s6))),hP'.same (s4.trans (s5.trans s6)),s6 _ _ e5,(hS _ hm).2.1,(hS _ hm).2.2,(hS _ hm).1⟩)
  ·obtain⟨wd,hw,hat⟩:=lA (c:=c0) z;refine ao ⟨by show 3<=sizeLine;decide,λwl hwl=>?_⟩;have s2:=Same.upd_new (o:=.lst [.str ("":Str),.str ("under":Str),.str ("over":Str)]) hwl;have e2:upd H1 wl (.lst [.str ("":Str),.str ("under":Str),.str ("over":Str)]) wl=some (.lst [.str ("":Str),.str ("under":Str),.str ("over":Str)]):=ah;generalize upd H1 wl (.lst [.str ("":Str),.str ("under":Str),.str ("over":Str)])=H2 at s2 e2 ⊢
   have t2:=s1.trans s2;have hcs2:=t2 _ _ hcs;refine⟨_,rfl,cs,_,_,_,rfl,rfl,SqL.of hcs2,rfl,_,_,rfl,rfl,(by show(0:Int)<3;decide),wl,_,_,_,rfl,rfl,SqL.of e2,hat,?_⟩;show aT _ _ _ _ _;refine ao ⟨A8 _,λfl hfl=>?_⟩;have s3:=Same.upd_new (o:=.lst []) hfl;have e3:upd H2 fl (.lst []) fl=some (.lst (([]:List Addr).map V.ref)):=ah;show aT _ _ _ _ (upd H2 fl (.lst []));generalize upd H2 fl (.lst [])=H3 at s3 e3 ⊢
   refine ao ⟨_,rfl,cs,_,_,_,rfl,rfl,SqL.of (s3 _ _ hcs2),rfl,?_⟩;refine⟨4,rfl,by omega,by omega,dF (lo:=0) (n:=4) (λi σ' H'=>∃(left:Int) (fs:List Addr) (z9:Option V),σ'=[some (.ref l),some (.ref sh),some (.ref cs),some (.ref us),none,none,some (.str wd),some (.ref fl),some (.int left),z9]/\Same H2 H'/\H' fl=some (.lst (fs.map V.ref))/\fs.length=i/\PEs C H' fs) ⟨c1,[],none,rfl,s3,e3,rfl,λx hx=>(nomatch hx)⟩ ?_ ?_⟩
   ·rintro i σ' H4 hi ⟨left,fs,z9,rfl,s4,e4,fl4,pe⟩;have t4:=t2.trans s4
    have hatu:atI [V.int 4,V.int 5,V.int 6,V.int 7] (0+(i:Int))=some (.int (4+(i:Int))):=by rcases(show i=0\/i=1\/i=2\/i=3 by omega)with rfl |rfl |rfl |rfl<;>rfl
    refine dX ⟨_,rfl,.inl ⟨rfl,_,SqL.of e4⟩,_,rfl,_,rfl,_,rfl,us,_,_,_,rfl,rfl,SqL.of ((s2.trans s4) _ _ e1),hatu,_,rfl,l,es,ps,_,_,rfl,t4 _ _ hl,hT.same t4,pl,hE,by omega,by omega,λx x1 x2 H5 s5 hx hP=>?_⟩;have e5:=s5 _ _ e4;refine⟨fl,_,_,rfl,rfl,e5,by rw[A4];omega,?_⟩;refine ca ⟨_,rfl,_,_,rfl,rfl,D33,_,fs++[x],_,rfl,cu (s4.trans s5) hfl,by rw[ah,gK],by rw[Ba,fl4];rfl,λy hy=>?_⟩;rcases Bn.mp hy with hy |hy
    ·obtain⟨y1,y2,q⟩:=pe y hy;exact⟨y1,y2,(q.same s5).upd_lst e5⟩
    ·rw[Bf.mp hy];exact⟨x1,x2,hP.upd_lst e5⟩
   ·rintro σ' H4 ⟨left,fs,z9,rfl,s4,e4,fl4,pe⟩;obtain⟨a,b,c,d,a1,a2,b1,b2,g1,g2,d1,d2,rfl,pa,pb,pc,pd⟩:=oU pe fl4;refine⟨_,rfl,_,rfl,fl,_,_,_,rfl,rfl,SqL.of e4,rfl,_,rfl,fl,_,_,_,rfl,rfl,SqL.of e4,rfl,_,rfl,fl,_,_,_,rfl,rfl,SqL.of e4,rfl,_,rfl,fl,_,_,_,rfl,rfl,SqL.of e4,rfl,by show 5<=sizeLine;decide,λpp hpp=>?_⟩;have s6:=Same.upd_new (o:=.tup [.str wd,.ref a,.ref b,.ref c,.ref d]) hpp;exact k pp _ (t2.trans (s4.trans s6)) (.inr ⟨wd,a,b,c,d,a1,a2,b1,b2,g1,g2,d1,d2,hw,ah,pa.same s6,pb.same s6,pc.same s6,pd.same s6⟩)
def mC(C:Addr):Sp:=λvs H Q _=>∃(cs:Addr) (c0 c1 c2 c3:Int),vs=[.ref cs]/\CsL H cs c0 c1 c2 c3/\∀(p:Addr) (H':Hp),Same H H'->PpO C H' p->Q (.ref p) H'
theorem uY(F:Fun K "_law_any_paper" "_law_any_paper" ju f fd)(T:Txt K mg)(R:RCI K mg C)(dP:KCal P w K mg base 2 C "Ratio" ["self","top","bottom"] (dh C) kA ky kC [.int 1]):FnOk P w K mg base CX0 4 f fd ["_law_cells_of"] (mC C):=by
 obtain⟨cQ,cP,cJ,cN,kZ,kG⟩:=dP;refine F.ok sc__law_any_paper (λvs H Q E h=>?_) (λcdv A outer s H vs Q E hr h=>?_)
 ·obtain⟨cs,c0,c1,c2,c3,rfl,_⟩:=h;rfl
 ·obtain⟨cs,c0,c1,c2,c3,rfl,hcs,k⟩:=h;have big:=sizeLine_eq
  refine⟨_,(ae (ai (i:=1) sc__law_any_paper.nd rfl (Or.inl rfl) (af (aA (K:=K) rfl) (pv 0) ab (λ_ _=>rfl)))
   (ae (ai (i:=2) sc__law_any_paper.nd rfl (Or.inl rfl) (aJ ac))
   (ae (bD PassesOwn.never rfl (cG rfl T.range_ (aa ab ac)) (aV (i:=3) sc__law_any_paper.nd rfl (Or.inl rfl))
     (ae (cF (c7 PySem.F.plainAttrs_list PySem.F.slot_list_append PySem.F.type_list_append c9 (pv 2) (aa (dj cP cQ (hr.mono) rfl cJ cN .nil aj (aa (ad aO (ad aS (pv 1) ab) ab) (aa (ad aW ab (ad aS (ad bH (pv 1) ab) ab)) ac))) ac)))
       (ak (ai (i:=1) sc__law_any_paper.nd rfl (Or.inl rfl) (ad bH (pv 1) ab)))))
   (ae (ai (i:=1) sc__law_any_paper.nd rfl (Or.inl rfl) (af (aA (K:=K) rfl) (pv 0) ab (λ_ _=>rfl)))
   (ae (ai (i:=4) sc__law_any_paper.nd rfl (Or.inl rfl) (aJ ac))
   (ae (bD PassesOwn.never rfl (cG rfl T.range_ (aa ab ac)) (aV (i:=3) sc__law_any_paper.nd rfl (Or.inl rfl))
     (ae (cF (c7 PySem.F.plainAttrs_list PySem.F.slot_list_append PySem.F.type_list_append c9 (pv 4) (aa (ad aO (ad aS (pv 1) ab) ab) ac)))
       (ak (ai (i:=1) sc__law_any_paper.nd rfl (Or.inl rfl) (ad bH (pv 1) ab)))))
   (ae (fg PassesOwn.never (PW.pt (cE (aF cq (bg (bZ (K:=K) rfl) (by rfl) T.len_ PySem.boot_len (aa (pv 4) ac)) ab (au _)) (cZ (aF bz (af (aA (K:=K) rfl) (pv 4) (bF bC ab) (λ_ _=>rfl)) ab (au _)))))
     (ak (cF (tL PySem.F.plainAttrs_list PySem.F.slot_list_pop PySem.F.type_list_pop vF (pv 4)))))
   (ae (aN (aF bz (ad aS (af (aA (K:=K) rfl) (pv 0) ab (λ_ _=>rfl)) ab) ab (au _))
     (ak (ar (aR (aa bK (aa (pv 4) (aa (af (aA (K:=K) rfl) (pv 2) ab (λ_ _=>rfl)) (aa (af (aA (K:=K) rfl) (pv 2) ab (λ_ _=>rfl)) ac)))))))
     aM)
   (ak (ar (aR (aa (af (aA (K:=K) rfl) (aJ (aa bK (aa bK (aa bK ac)))) (ad aS (af (aA (K:=K) rfl) (pv 0) ab (λ_ _=>rfl)) ab) (λ_ _=>rfl)) (aa (af (aA (K:=K) rfl) (pv 2) ab (λ_ _=>rfl)) (aa (af (aA (K:=K) rfl) (pv 2) ab (λ_ _=>rfl)) (aa (af (aA (K:=K) rfl) (pv 2) ab (λ_ _=>rfl)) (aa (af (aA (K:=K) rfl) (pv 2) ab (λ_ _=>rfl)) ac)))))))))))))))),?_⟩
  refine ao ⟨_,rfl,cs,_,_,_,rfl,rfl,SqL.of hcs,rfl,?_⟩;refine ao ⟨A8 _,λfl hfl=>?_⟩;have s3:=Same.upd_new (o:=.lst []) hfl;have e3:upd H fl (.lst []) fl=some (.lst (([]:List Addr).map V.ref)):=ah;show aT _ _ _ _ (upd H fl (.lst []));generalize upd H fl (.lst [])=H3 at s3 e3 ⊢
  refine⟨4,rfl,by omega,by omega,dF (lo:=0) (n:=4) (λi σ' H'=>∃(left:Int) (fs:List Addr) (z3:Option V),σ'=[some (.ref cs),some (.int left),some (.ref fl),z3,none]/\Same H H'/\H' fl=some (.lst (fs.map V.ref))/\fs.length=i/\PEs C H' fs) ⟨c1,[],none,rfl,s3,e3,rfl,λx hx=>(nomatch hx)⟩ ?_ ?_⟩
  ·rintro i σ' H4 hi ⟨left,fs,z3,rfl,s4,e4,fl4,pe⟩;obtain⟨g1,g2⟩:=aX (x:=left) (m:=129) (by decide);obtain⟨g3,g4⟩:=aX (x:=left/129) (m:=16) (by decide);have ne:1+left/129%16≠0:=by omega
   have b1:Bits 10 (left%129-64):=az (by omega) (by decide);have b2:Bits 10 (1+left/129%16):=az (by omega) (by decide);refine dX ⟨_,rfl,.inl ⟨rfl,_,SqL.of e4⟩,_,rfl,_,_,rfl,rfl,(by show(0:Int)<129;decide),_,_,rfl,rfl,_,rfl,_,_,rfl,rfl,⟨by show(0:Int)<129;decide,az (by decide) (by decide)⟩,_,_,rfl,rfl,(by show(0:Int)<16;decide),_,_,rfl,rfl,eD ne (b2.mono) λx H5 s5 hx hR=>?_⟩;have hP:PEnd C H5 x _ _:=⟨hR,bV ne,(cV ne b1).mono,(cY ne b2).mono⟩;have e5:=s5 _ _ e4;refine⟨fl,_,_,rfl,rfl,e5,by rw[A4];omega,?_⟩;refine ca ⟨_,rfl,_,_,rfl,rfl,⟨by show(0:Int)<2064;decide,Bits.mono (j:=12) (by show(2064:Int).natAbs<2^12;decide) (by decide)⟩,_,fs++[x],_,rfl,cu (s4.trans s5) hfl,by rw[ah,gK],by rw[Ba,fl4];rfl,λy hy=>?_⟩;rcases Bn.mp hy with hy |hy
   ·obtain⟨y1,y2,q⟩:=pe y hy;exact⟨y1,y2,(q.same s5).upd_lst e5⟩
   ·rw[Bf.mp hy];exact⟨_,_,hP.upd_lst e5⟩
  rintro σ' H4 ⟨left,fs,z3,rfl,s4,e4,fl4,pe⟩;refine⟨_,rfl,cs,_,_,_,rfl,rfl,SqL.of (s4 _ _ hcs),rfl,?_⟩;refine⟨A8 _,λkg hkg=>?_⟩;have s5:=Same.upd_new (o:=.lst []) hkg;have e5:upd H4 kg (.lst []) kg=some (.lst (([]:List Int).map V.int)):=ah;refine dZ (H2:=upd H4 kg (.lst [])) rfl ?_;generalize upd H4 kg (.lst [])=H5 at s5 e5 ⊢
  refine⟨5,rfl,by omega,by omega,dF (lo:=0) (n:=5) (λi σ' H'=>∃(left:Int) (ks:List Int) (z3:Option V),σ'=[some (.ref cs),some (.int left),some (.ref fl),z3,some (.ref kg)]/\Same H4 H'/\H' kg=some (.lst (ks.map V.int))/\ks.length=i/\AllB 10 ks) ⟨c2,[],z3,rfl,s5,e5,rfl,AllB.nil⟩ ?_ ?_⟩
  ·rintro i σ' H6 hi ⟨left,ks,z3,rfl,s6,e6,kl,kb⟩;obtain⟨g1,g2⟩:=aX (x:=left) (m:=61) (by decide);refine dX ⟨_,rfl,.inl ⟨rfl,_,SqL.of e6⟩,_,rfl,_,_,rfl,rfl,(by show(0:Int)<61;decide),_,_,rfl,rfl,kg,_,_,rfl,rfl,e6,by rw[A4];omega,?_⟩;refine ca ⟨_,rfl,_,_,rfl,rfl,⟨by show(0:Int)<61;decide,az (by decide) (by decide)⟩,_,ks++[left%61-30],_,rfl,cu s6 hkg,by rw[ah,<- nS],by rw[Ba,kl];rfl,kb.snoc (az (by omega) (by decide))⟩
  rintro σ' H6 ⟨left',ks,z3',rfl,s6,e6,kl,kb⟩;dsimp only
  refine sB (λσ' H'=>∃ks:List Int,σ'=[some (.ref cs),some (.int left'),some (.ref fl),z3',some (.ref kg)]/\Same H4 H'/\H' kg=some (.lst (ks.map V.int))/\ks.length<=5/\AllB 10 ks/\Tr ks) ?_ ?_
  case refine_2 =>
   intro rest;refine⟨λn σ' H'=>∃ks:List Int,σ'=[some (.ref cs),some (.int left'),some (.ref fl),z3',some (.ref kg)]/\Same H4 H'/\H' kg=some (.lst (ks.map V.int))/\ks.length<=5/\AllB 10 ks/\ks.length=n,⟨_,ks,rfl,s6,e6,by omega,kb,rfl⟩,?_⟩;clear e6 kl kb s6 H6 ks;rintro n σ' H6 ⟨ks,rfl,s6,e6,kl,kb,rfl⟩;have hl:(ks.map V.int).length=ks.length:=A4 _;refine cD ⟨_,rfl,kg,_,rfl,.inl (SqL.of e6),_,_,rfl,rfl,_,rfl,aD (λh0=>?_) (λh0=>bO ?_)⟩
   ·have h0':(0:Int)<((ks.map V.int).length:Int):=h0;rw[hl]at h0';have ne:ks≠[]:=λz=>by rw[z]at h0';exact absurd h0' (by decide)
    refine⟨_,rfl,_,rfl,kg,_,_,_,rfl,rfl,SqL.of e6,ii ne,_,_,rfl,rfl,_,rfl,aD (λhz=>?_) (λhz=>?_)⟩
    ·refine⟨λσ'' H''=>∃n',n'<ks.length/\∃ks:List Int,σ''=[some (.ref cs),some (.int left'),some (.ref fl),z3',some (.ref kg)]/\Same H4 H''/\H'' kg=some (.lst (ks.map V.int))/\ks.length<=5/\AllB 10 ks/\ks.length=n',λ_ _ h=>h,?_⟩;refine jA ⟨_,rfl,.inl ⟨rfl,_,SqL.of e6⟩,kg,_,.int (cf ks (ks.length-1)),rfl,rfl,e6,?_,?_⟩
     ·rw[hl,List.getElem?_map,de (by omega)];rfl
     ·exact⟨ks.length-1,by omega,ks.dropLast,rfl,cu s6 hkg,by rw[ah,List.map_dropLast],by rw[List.length_dropLast];omega,λx hx=>kb x (List.dropLast_subset _ hx),List.length_dropLast⟩
    ·exact rest _ _ ⟨ks,rfl,s6,e6,kl,kb,λn hn=>by
      obtain rfl:n=ks.length-1:=by omega
      exact hz⟩
   ·have h0':¬(0:Int)<((ks.map V.int).length:Int):=h0;rw[hl]at h0';obtain rfl:ks=[]:=Bm.mp (by omega);exact rest _ _ ⟨[],rfl,s6,e6,kl,kb,iq⟩
  clear e6 kl kb s6 H6 ks;rintro σ' H6 ⟨ks,rfl,s6,e6,kl,kb,tr⟩;obtain⟨a,b,c,d,a1,a2,b1,b2,g1,g2,d1,d2,rfl,pa,pb,pc,pd⟩:=oU (λx hx=>let⟨x1,x2,q⟩:=pe x hx;⟨x1,x2,q.same s6⟩:PEs C H6 fs) fl4;have t6:=s4.trans s6;have e46:=s6 _ _ e4;refine bh ⟨_,rfl,cs,_,_,_,rfl,rfl,SqL.of (t6 _ _ hcs),rfl,_,_,rfl,rfl,(by show(0:Int)<3;decide),_,_,rfl,rfl,_,rfl,aD (λz=>?_) (λz=>?_)⟩
  ·refine aK ⟨_,rfl,_,rfl,fl,_,_,_,rfl,rfl,SqL.of e46,rfl,_,rfl,fl,_,_,_,rfl,rfl,SqL.of e46,rfl,by show 4<=sizeLine;decide,λpp hpp=>?_⟩;have s7:=Same.upd_new (o:=.tup [.str ("alike":Str),.ref kg,.ref a,.ref b]) hpp;exact k pp _ (t6.trans s7) (.inl ⟨kg,a,b,ks,a1,a2,b1,b2,ah,pa.same s7,pb.same s7,s7 _ _ e6,by omega,kb.mono,tr⟩)
  ·obtain⟨wd,hw,hat⟩:=lA (c:=c0) z;refine aK ⟨by show 3<=sizeLine;decide,λwl hwl=>?_⟩;have s7:=Same.upd_new (o:=.lst [.str ("":Str),.str ("under":Str),.str ("over":Str)]) hwl;have e7:upd H6 wl (.lst [.str ("":Str),.str ("under":Str),.str ("over":Str)]) wl=some (.lst [.str ("":Str),.str ("under":Str),.str ("over":Str)]):=ah;generalize upd H6 wl (.lst [.str ("":Str),.str ("under":Str),.str ("over":Str)])=H7 at s7 e7 ⊢
   have e47:=s7 _ _ e46;refine⟨_,rfl,cs,_,_,_,rfl,rfl,SqL.of ((t6.trans s7) _ _ hcs),rfl,_,_,rfl,rfl,(by show(0:Int)<3;decide),wl,_,_,_,rfl,rfl,SqL.of e7,hat,?_⟩;refine⟨_,rfl,fl,_,_,_,rfl,rfl,SqL.of e47,rfl,_,rfl,fl,_,_,_,rfl,rfl,SqL.of e47,rfl,_,rfl,fl,_,_,_,rfl,rfl,SqL.of e47,rfl,_,rfl,fl,_,_,_,rfl,rfl,SqL.of e47,rfl,by show 5<=sizeLine;decide,λpp hpp=>?_⟩;have s8:=Same.upd_new (o:=.tup [.str wd,.ref a,.ref b,.ref c,.ref d]) hpp;have s9:=s7.trans s8;exact k pp _ (t6.trans s9) (.inr ⟨wd,a,b,c,d,a1,a2,b1,b2,g1,g2,d1,d2,hw,ah,pa.same s9,pb.same s9,pc.same s9,pd.same s9⟩)
theorem sV{j j':Nat}(h:((2:Int)^j)<2^j'):j<=j':=Bs λz=>by
 have h1:(2:Nat)^j'<=2^j:=Ci (by decide) (BE z);have e:∀k:Nat,((2:Int)^k)=((2^k:Nat):Int):=λk=>by rw[Ce];rfl
 rw[e,e]at h;omega
theorem sU{j j':Nat}(h:¬((2:Int)^j)<2^j'):j'<=j:=Bs λz=>by
 have h1:(2:Nat)^j<2^j':=Nat.pow_lt_pow_right (by decide) z;have e:∀k:Nat,((2:Int)^k)=((2^k:Nat):Int):=λk=>by rw[Ce];rfl
 rw[e,e]at h;omega
theorem eR{a b c m:Int}(h:CubOk a b c m):AllB 14 (av m a b c):=by
 obtain⟨s1,s2,s3⟩:=h.small;have a9:=h.a9;have q1:(a*a).natAbs<=9*9:=bv (by omega) (by omega);have q2:(a*a*a).natAbs<=9*9*9:=bv q1 (by omega);have q3:(3*m*(b*c)*a).natAbs<=3*7*(3*3)*9:=bv s3 (by omega);have en:=nF m a b c;intro x hx;simp only[av,Bb,BD,or_false]at hx;rcases hx with rfl |rfl |rfl |rfl
 ·rw[en];show(-(a*a*a+m*(b*b*b)+m*m*(c*c*c)-3*m*(b*c)*a)).natAbs<16384;omega
 ·show(3*(a*a)-3*m*(b*c)).natAbs<16384;omega
 ·show(-3*a).natAbs<16384;omega
 ·show(1:Int).natAbs<16384;decide
theorem iK(g:Int)(l:List Int)(k:Nat):cf (ag [g] l) k=g*cf l k:=by rw[aC,vw]
theorem rO{g:Int}{l:List Int}(hl:l≠[])(t n:Int):hv t n (ag [g] l)=g*hv t n l:=by rw[gT (x:=g) (y:=0) l l (ag [g] l) (jY hl).symm (jY hl).symm λk=>by rw[iK];omega];omega
theorem pM(m a b c:Int):av m a b c≠[]:=(hI m a b c).ne
structure CbL(C CN:Addr)(H:Hp)(o:Addr)(m a b c:Int)(j:Nat)(q:Addr)(ns:List Int)(l1 l2 h1 h2:Int):Prop where
 lk:LkN C CN H o q ns l1 l2 h1 h2
 row:∃R,ns=ag (av m a b c) R
 l2p:0<l2
 h2p:0<h2
 el:l1*(itS m a b c j).2.2=(itS m a b c j).1*l2
 eh:h1*(itS m a b c j).2.2=(itS m a b c j).2.1*h2
def lV(C CN:Addr):Sp:=λvs H Q _=>∃(o o' p sp t u q q':Addr) (cell:Int) (ns ns':List Int) (a b c m l1 l2 h1 h2 k1 k2 j1 j2:Int) (j j':Nat),vs=[.ref o,.ref o',.ref p,.ref sp,.int cell]/\CbL C CN H o m a b c j q ns l1 l2 h1 h2/\CbL C CN H o' m a b c j' q' ns' k1 k2 j1 j2/\CT H p a b c m/\CubOk a b c m/\H sp=some (.lst [.ref t,.ref u])/\ST H t (itS m a b c j)/\ST H u (itS m a b c j')/\j<=40/\j'<=40/\∀H',Q (.bl true) H'
theorem uC(F:Fun K "_law_taken_by_the_cube" "_law_taken_by_the_cube" ja f fd)(T:Txt K mg)(R:RCI K mg C)(RN:NCI K mg CN)(fV:Cal P w K mg base 4 "_law_half" ["_law_span_here","_law_spot"] gk o8 o3)(fU:Cal P w K mg base 1 "_law_mul" ["_law_kp","_law_kq"] gf o7 o2)(lw:Cal P w K mg base 2 "_law_cube_shape" ["_law_cube"] iE xR xJ)(dP:KCal P w K mg base 2 C "Ratio" ["self","top","bottom"] (dh C) kA ky kC [.int 1])(lh:Cal P w K mg base 6 "takes" ["first","second","paper"] (gc C CN) xL xD):FnOk P w K mg base CX0 7 f fd ["_law_a","_law_b","_law_cube","_law_spans","_law_cell"] (lV C CN):=by
 obtain⟨dM,dw,dC,dI⟩:=fV;obtain⟨dL,du,dB,dH⟩:=fU;obtain⟨eX,eE,eH,eS⟩:=lw;obtain⟨cQ,cP,cJ,cN,kZ,kG⟩:=dP;obtain⟨lc,j0,ka,kU⟩:=lh;refine F.ok sc__law_taken_by_the_cube (λvs H Q E h=>?_) (λcdv A outer s H vs Q E hr h=>?_)
 ·obtain⟨o,o',p,sp,t,u,q,q',cell,ns,ns',a,b,c,m,l1,l2,h1,h2,k1,k2,j1,j2,j,j',rfl,_⟩:=h;rfl
 ·obtain⟨o,o',p,sp,t,u,q,q',cell,ns,ns',a,b,c,m,l1,l2,h1,h2,k1,k2,j1,j2,j,j',rfl,hN,hN',hp,hC,hsp,ht,hu,hj,hj',k⟩:=h;have big:=sizeLine_eq
  refine⟨_,(ae (ai (i:=5) sc__law_taken_by_the_cube.nd rfl (Or.inl rfl) (af (aA (K:=K) rfl) (pv 3) (c6 ic (by rfl) T.int_ PyProof.Rows.boot_int (aa (bN cq (af (al (K:=K) rfl) (af (aA (K:=K) rfl) (pv 3) ab (λ_ _=>rfl)) ab (λ_ _=>rfl)) (af (al (K:=K) rfl) (af (aA (K:=K) rfl) (pv 3) ab (λ_ _=>rfl)) ab (λ_ _=>rfl)) (au _)) ac)) (λ_ _=>rfl)))
   (ae (bD PassesOwn.never rfl (cG rfl T.range_ (aa (ad aS (pv 4) ab) ac)) (aV (i:=6) sc__law_taken_by_the_cube.nd rfl (Or.inl rfl))
     (ak (ai (i:=5) sc__law_taken_by_the_cube.nd rfl (Or.inl rfl) (am dM (hr.mono) rfl dw dC dI .nil aj (aa (pv 5) (aa (pv 2) ac))))))
   (ae (ai (i:=7) sc__law_taken_by_the_cube.nd rfl (Or.inl rfl) (ad aw (ad aW ab (ad aS (ad bH (pv 4) ab) ab)) (ad aO ab (ad aw ab (ad aS (ad bH (pv 4) ab) ab)))))
   (ae (ai (i:=8) sc__law_taken_by_the_cube.nd rfl (Or.inl rfl) (am dL (hr.mono) rfl du dB dH .nil aj (aa (aJ (aa (pv 7) ac)) (aa (am eX (hr.mono) rfl eE eH eS .nil aj (aa (pv 2) ac)) ac))))
   (ae (ai (i:=9) sc__law_taken_by_the_cube.nd rfl (Or.inl rfl) (aJ (aa (dj cP cQ (hr.mono) rfl cJ cN .nil aj (aa (af (al (K:=K) rfl) (pv 5) ab (λ_ _=>rfl)) (aa (af (al (K:=K) rfl) (pv 5) ab (λ_ _=>rfl)) ac))) (aa (dj cP cQ (hr.mono) rfl cJ cN .nil aj (aa (af (al (K:=K) rfl) (pv 5) ab (λ_ _=>rfl)) (aa (af (al (K:=K) rfl) (pv 5) ab (λ_ _=>rfl)) ac))) ac))))
   (ak (ar (bN tT (am lc (hr.mono) rfl j0 ka kU .nil aj (aa (pv 0) (aa (pv 1) (aa (aR (aa bK (aa (pv 8) (aa (af (aA (K:=K) rfl) (pv 9) ab (λ_ _=>rfl)) (aa (af (aA (K:=K) rfl) (pv 9) ab (λ_ _=>rfl)) ac))))) ac)))) c8 (au _))))))))),?_⟩
  obtain⟨x,J,hat,hx,jJ,j'J,hJ⟩:∃(x:Addr) (J:Nat),atI [V.ref t,V.ref u] (if decide ((itS m a b c j).2.2<(itS m a b c j').2.2)=true then 1 else 0)=some (.ref x)/\ST H x (itS m a b c J)/\j<=J/\j'<=J/\J<=40:=by
   by_cases z:(itS m a b c j).2.2<(itS m a b c j').2.2
   ·rw[decide_eq_true z];rw[(aU hC j).n,(aU hC j').n]at z;exact⟨u,j',rfl,hu,sV z,A5 _,hj'⟩
   ·rw[decide_eq_false z];rw[(aU hC j).n,(aU hC j').n]at z;exact⟨t,j,rfl,ht,A5 _,sU z,hj⟩
  refine ao ⟨_,rfl,_,rfl,sp,_,_,_,rfl,rfl,SqL.of hsp,rfl,u,_,_,_,rfl,rfl,SqT.of hu,rfl,_,rfl,sp,_,_,_,rfl,rfl,SqL.of hsp,rfl,t,_,_,_,rfl,rfl,SqT.of ht,rfl,_,_,rfl,rfl,.inr ⟨_,rfl,sp,_,_,_,rfl,rfl,SqL.of hsp,hat,?_⟩⟩;obtain⟨c1,c2⟩:=aX (x:=cell) (m:=12) (by decide);have em:(((cell%12).toNat:Nat):Int)=cell%12:=Ck c1;refine⟨_,rfl,_,_,rfl,rfl,(by show(0:Int)<12;decide),(cell%12).toNat,by rw[em],by omega,by omega,dF (lo:=0) (n:=(cell%12).toNat) (λi σ' H'=>∃(x:Addr) (z:Option V),σ'=[some (.ref o),some (.ref o'),some (.ref p),some (.ref sp),some (.int cell),some (.ref x),z,none,none,none]/\Same H H'/\ST H' x (itS m a b c (J+i))) ⟨x,none,rfl,Same.refl _,hx⟩ ?_ ?_⟩
  ·rintro i σ' H1 hi ⟨x,z,rfl,s1,ex⟩;refine ca ⟨_,rfl,_,rfl,x,p,_,J+i,a,b,c,m,rfl,ex,s1 _ _ hp,hC,aU hC _,by omega,λx' H2 s2 hx' ex'=>?_⟩;exact⟨x',_,rfl,s1.trans s2,ex'⟩
  clear hx hat x;rintro σ' H1 ⟨x,z,rfl,s1,ex⟩;obtain⟨J2,eJ⟩:∃J2,J+(cell%12).toNat=J2:=⟨_,rfl⟩;rw[eJ]at ex;have S:=aU hC J2;obtain⟨b1,b2,b3⟩:=cS S (by omega)
  have I:InS (itS m a b c j) (itS m a b c J2):=by have:=gQ hC j (J2-j);rw[show j+(J2-j)=J2 by omega]at this;exact this
  have I':InS (itS m a b c j') (itS m a b c J2):=by have:=gQ hC j' (J2-j');rw[show j'+(J2-j')=J2 by omega]at this;exact this
  have np:=S.pos;have ne:(itS m a b c J2).2.2≠0:=by omega
  dsimp only
  obtain⟨g1,g2⟩:=aX (x:=cell/12) (m:=9) (by decide);obtain⟨g3,g4⟩:=aX (x:=cell/108) (m:=2) (by decide)
  obtain⟨G,eG,G0,bG⟩:∃G:Int,(1+cell/12%9)*(1-2*(cell/108%2))=G/\G≠0/\Bits 10 G:=by
   refine⟨_,rfl,?_,?_⟩
   ·exact Bh (by omega) (by omega)
   ·have:((1+cell/12%9)*(1-2*(cell/108%2))).natAbs<=9*1:=bv (by omega) (by omega);show((1+cell/12%9)*(1-2*(cell/108%2))).natAbs<1024;omega
  refine ao ⟨_,rfl,_,_,rfl,rfl,⟨by show(0:Int)<12;decide,az (by decide) (by decide)⟩,_,_,rfl,rfl,(by show(0:Int)<9;decide),_,_,rfl,rfl,_,rfl,_,_,rfl,rfl,⟨by show(0:Int)<108;decide,az (by decide) (by decide)⟩,_,_,rfl,rfl,(by show(0:Int)<2;decide),_,_,rfl,rfl,⟨az (by decide) (by decide),az (by omega) (by decide)⟩,_,_,rfl,rfl,_,_,rfl,rfl,⟨az (by omega) (by decide),az (by omega) (by decide)⟩,?_⟩;dsimp only
  rw[eG];show aT _ _ _ [some (.ref o),some (.ref o'),some (.ref p),some (.ref sp),some (.int cell),some (.ref x),z,some (.int G),none,none] H1;refine ao ⟨_,rfl,by show 1<=sizeLine;decide,λpm hpm=>?_⟩;have s2:=Same.upd_new (o:=.lst ([G].map V.int)) hpm;have e2:upd H1 pm (.lst ([G].map V.int)) pm=some (.lst ([G].map V.int)):=ah;refine⟨_,rfl,p,a,b,c,m,rfl,(s1.trans s2) _ _ hp,hC,λpc H3 s3 hpc e3=>?_⟩;have cb:=eR hC;refine⟨pm,pc,[G],av m a b c,rfl,s3 _ _ e2,e3,by show 1<=1000000;decide,by show 4<=1000000;decide,λy hy=>by rw[Bf.mp hy];exact bG.mono,cb.mono,λpk H4 s4 hpk e4=>?_⟩;have t4:=s1.trans (s2.trans (s3.trans s4));have ex4:=(s2.trans (s3.trans s4)) _ _ ex;clear e2 e3 hpm hpc hpk;show aT _ _ _ [some (.ref o),some (.ref o'),some (.ref p),some (.ref sp),some (.int cell),some (.ref x),z,some (.int G),some (.ref pk),none] H4;refine ao ⟨_,rfl,x,_,_,_,rfl,rfl,SqT.of ex4,rfl,_,rfl,x,_,_,_,rfl,rfl,SqT.of ex4,rfl,eD ne (b3.mono) λel H5 s5 hel rl=>?_⟩;have ex5:=s5 _ _ ex4;refine⟨_,rfl,x,_,_,_,rfl,rfl,SqT.of ex5,rfl,_,rfl,x,_,_,_,rfl,rfl,SqT.of ex5,rfl,eD ne (b3.mono) λeh H6 s6 heh rh=>?_⟩;refine⟨by show 2<=sizeLine;decide,λon hon=>?_⟩;have s7:=Same.upd_new (o:=.lst [.ref el,.ref eh]) hon;have e7:upd H6 on (.lst [.ref el,.ref eh]) on=some (.lst [.ref el,.ref eh]):=ah;show ir _ _ _ (upd H6 on (.lst [.ref el,.ref eh]));generalize upd H6 on (.lst [.ref el,.ref eh])=H7 at s7 e7 ⊢
  refine aK ⟨_,rfl,_,rfl,_,rfl,_,rfl,on,_,_,_,rfl,rfl,SqL.of e7,rfl,_,rfl,on,_,_,_,rfl,rfl,SqL.of e7,rfl,by show 4<=sizeLine;decide,λpp hpp=>?_⟩;have s8:=Same.upd_new (o:=.tup [.str ("alike":Str),.ref pk,.ref el,.ref eh]) hpp;have e8:upd H7 pp (.tup [.str ("alike":Str),.ref pk,.ref el,.ref eh]) pp=some (.tup [.str ("alike":Str),.ref pk,.ref el,.ref eh]):=ah;have t8:=t4.trans (s5.trans (s6.trans (s7.trans s8)));have pl:PEnd C _ el _ _:=⟨rl.same (s6.trans (s7.trans s8)),bV ne,(cV ne b1).mono,(cY ne b3).mono⟩;have ph:PEnd C _ eh _ _:=⟨rh.same (s7.trans s8),bV ne,(cV ne b2).mono,(cY ne b3).mono⟩;have kl:(ag [G] (av m a b c)).length=4:=jY (pM m a b c);have kb:AllB 30 (ag [G] (av m a b c)):=gI (i:=10) (j:=14) (λy hy=>by rw[Bf.mp hy];exact bG) cb (by show 10+14+1<=30;decide)
  have kt:Tr (ag [G] (av m a b c)):=dS (λn hn=>by
   obtain rfl:n=0:=by have:1=n+1:=hn;omega
   exact G0) (eQ m a b c)
  have kn:ag [G] (av m a b c)≠[]:=λz=>by rw[z]at kl;exact absurd kl (by decide)
  refine⟨o,o',pp,q,q',ns,ns',l1,l2,h1,h2,k1,k2,j1,j2,rfl,hN.lk.same t8,hN'.lk.same t8,.inl ⟨pk,el,eh,_,_,_,_,_,e8,pl,ph,(s5.trans (s6.trans (s7.trans s8))) _ _ e4,by omega,kb.mono,λr H9 s9 hr9=>?_⟩⟩
  have ok:r=true:=by
   refine hr9.mpr ⟨by omega,tN hC G0 S pl.pos ph.pos (bM ne) (bM ne) (rO (pM m a b c)),⟨?_,?_⟩,?_,?_⟩
   ·obtain⟨R',e⟩:=hN.row;rw[e];exact nk G0 kt kn (iK G _)
   ·exact nq (aU hC j).pos np I hN.l2p hN.h2p pl.pos ph.pos hN.el hN.eh (bM ne) (bM ne)
   ·obtain⟨R',e⟩:=hN'.row;rw[e];exact nk G0 kt kn (iK G _)
   ·exact nq (aU hC j').pos np I' hN'.l2p hN'.h2p pl.pos ph.pos hN'.el hN'.eh (bM ne) (bM ne)
  rw[ok];exact⟨_,_,rfl,rfl,k H9⟩
theorem kx{l:List Int}(h:FL l):Fac 100000000 l:=by
 rcases h with⟨q,h1,h2,rfl⟩ |⟨k,h1,h2,rfl⟩
 ·exact⟨q,0,1,rfl,by omega,by omega,by decide,by decide,by decide,by decide,.inl (Int.le_refl _)⟩
 ·exact⟨0,-k,1,rfl,by decide,by decide,by omega,by omega,by decide,by decide,.inl (by omega)⟩
noncomputable def wOf(d:Int):Str:=if d<0 then "under" else if d=0 then "alike" else "over"
theorem qF(d:Int):atI [V.str ("under":Str),V.str ("alike":Str),V.str ("over":Str)] ((if decide (0<d)=true then 1 else 0)-(if decide (d<0)=true then 1 else 0)+1)=some (.str (wOf d)):=by
 unfold wOf;rcases Int.lt_trichotomy d 0 with h |h |h
 ·rw[decide_eq_false (show ¬0<d by omega),decide_eq_true h,if_pos h];rfl
 ·rw[decide_eq_false (show ¬0<d by omega),decide_eq_false (show ¬d<0 by omega),if_neg (show ¬d<0 by omega),if_pos h];rfl
 ·rw[decide_eq_true h,decide_eq_false (show ¬d<0 by omega),if_neg (show ¬d<0 by omega),if_neg (show ¬d=0 by omega)];rfl
theorem qV{C CN:Addr}{H:Hp}{o o' pp q q':Addr}{kp kq:List Int}{l1 l2 h1 h2 k1 k2 j1 j2 m a b c a' b' c':Int}{rs rs':List (List Int)}(L:LkN C CN H o q kp l1 l2 h1 h2)(L':LkN C CN H o' q' kq k1 k2 j1 j2)(N:CbN m a b c rs kp l1 l2 h1 h2)(N':CbN m a' b' c' rs' kq k1 k2 j1 j2)(hP:PpO C H pp) :
 ∃(wd:Str) (rest:List V),H pp=some (.tup (.str wd::rest))/\∀(Q:VK) (E:XK),(∀(r:Bool) (H':Hp),Same H H'->(r=true->wd=wOf (nrm m (a-a') (b-b') (c-c')))->Q (.bl r) H')->gc C CN [.ref o,.ref o',.ref pp] H Q E:=by
 rcases hP with⟨g,x,y,gs,x1,x2,y1,y2,hp,hx,hy,hg,gl,gb,gt⟩ |⟨wd,x,y,x',y',x1,x2,y1,y2,x1',x2',y1',y2',hw,hp,hx,hy,hx',hy'⟩
 ·refine⟨_,_,hp,λQ E k=>⟨o,o',pp,q,q',kp,kq,l1,l2,h1,h2,k1,k2,j1,j2,rfl,L,L',.inl ⟨g,x,y,gs,x1,x2,y1,y2,hp,hx,hy,hg,gl,gb,λr H' s' hr=>k r H' s' λz=>?_⟩⟩⟩;obtain⟨g2,ch,⟨d1,li⟩,d2,_⟩:=hr.mp z;have gn:gs≠[]:=λz=>by rw[z]at g2;exact absurd g2 (by decide)
  obtain⟨e1,e2,e3⟩:=sf N N' gt gn hx.pos hy.pos ch d1 li d2;rw[e1,e2,e3,Int.sub_self,Int.sub_self,Int.sub_self,nC];rfl
 ·refine⟨_,_,hp,λQ E k=>⟨o,o',pp,q,q',kp,kq,l1,l2,h1,h2,k1,k2,j1,j2,rfl,L,L',.inr ⟨wd,x,y,x',y',x1,x2,y1,y2,x1',x2',y1',y2',hw,hp,hx,hy,hx',hy',λr H' s' hr=>k r H' s' λz=>?_⟩⟩⟩;obtain⟨⟨li,ch⟩,⟨li',ch'⟩,hu,ho⟩:=hr z;unfold wOf;rcases hw with e |e
  ·have h:=mQ N N' hx.pos hy.pos hx'.pos hy'.pos li ch li' ch' (hu e);have en:=fm m (a-a') (b-b') (c-c');rw[show -(a-a')=a'-a by omega,show -(b-b')=b'-b by omega,show -(c-c')=c'-c by omega]at en;rw[if_pos (by omega)];exact e
  ·have h:=mQ N' N hx'.pos hy'.pos hx.pos hy.pos li' ch' li ch (ho e);rw[if_neg (by omega),if_neg (by omega)];exact e
theorem mT{fs:List (List Int)}(hF:∀l∈fs,FL l)(hl:fs.length<=2){a b c m:Int}(hC:CubOk a b c m):AllB 180 (ag (av m a b c) (prd (fs.map aP)))/\(ag (av m a b c) (prd (fs.map aP))).length<=9/\Tr (ag (av m a b c) (prd (fs.map aP)))/\bE [1] (fs.map aP)=prd (fs.map aP)/\AllB 160 (bE [1] (fs.map aP))/\(bE [1] (fs.map aP)).length<=5:=by
 obtain⟨i1,i2⟩:=jI (fs:=fs) (λl h=>kx (hF l h)) fs.length (A5 _) (by omega);rw[BC]at i1 i2
 have ep:bE [1] (fs.map aP)=prd (fs.map aP):=sO λs hs=>by obtain⟨l,h,rfl⟩:=B2.mp hs;exact kz (hF l h).fac
 have pp:Pln (prd (fs.map aP)):=jK _ λs hs=>by obtain⟨l,h,rfl⟩:=B2.mp hs;exact(kz (hF l h).fac).pln
 rw[ep]at i1 i2;have l2:=nQ (av m a b c) (prd (fs.map aP));have l3:(av m a b c).length=4:=rfl;refine⟨gI (eR hC) i1 (by rw[l3];omega),by omega,dS (eQ m a b c) pp.tr,ep,by rw[ep];exact i1.mono (by omega),by rw[ep];omega⟩
theorem one0:AllB 10 ([1,0,1]:List Int):=λx hx=>by simp only[Bb,BD,or_false]at hx;rcases hx with rfl |rfl |rfl<;>exact az (by decide) (by decide)
theorem uv(F:Fun K "law" "law" iW f fd)(T:Txt K mg)(R:RCI K mg C)(RN:NCI K mg CN)(zH:Cal P w K mg base 1 "_law_cell_at" ["_law_script","_law_k"] (mz K) AW Aq)(zG:Cal P w K mg base 2 "_law_cube_by" ["_law_cell","_law_other","_law_m"] mB AV Ap)(zD:Cal P w K mg base 1 "_law_further" ["_law_cell","_law_cube"] mv AS Am)(fU:Cal P w K mg base 1 "_law_mul" ["_law_kp","_law_kq"] gf o7 o2)(lw:Cal P w K mg base 2 "_law_cube_shape" ["_law_cube"] iE xR xJ)(zx:Cal P w K mg base 36 "_law_product" ["_law_factors"] mj AM Ag)(zr:Cal P w K mg base 5 "_law_span" ["_law_spots","_law_spot","_law_more"] lX AH Ab)(zw:Cal P w K mg base 1 "_law_roots_of" ["_law_factors"] mi AL Af)(zB:Cal P w K mg base 4 "_law_number" ["_law_kp","_law_span_here"] (mq C CN) AQ Aj)(fT:Cal P w K mg base 1 "_law_norm" ["_law_a","_law_b","_law_c","_law_m"] ge o6 o1)(zE:Cal P w K mg base 5 "_law_ends" ["_law_span_here","_law_spot","_law_other","_law_mate","_law_cell"] mw AT An)(zA:Cal P w K mg base 5 "_law_paper_by" ["_law_ends_here","_law_shapes","_law_cells_of"] (mn C) AO Ai)(zI:Cal P w K mg base 4 "_law_any_paper" ["_law_cells_of"] (mC C) AX Ar)(lh:Cal P w K mg base 6 "takes" ["first","second","paper"] (gc C CN) xL xD)(zp:Cal P w K mg base 7 "_law_taken_by_the_cube" ["_law_a","_law_b","_law_cube","_law_spans","_law_cell"] (lV C CN) AF zZ):FnOk P w K mg base CX0 40 f fd ["_law_script"] (gh K):=by
 obtain⟨b8,bW,bX,b6⟩:=zH;obtain⟨qE,og,oF,qj⟩:=zG;obtain⟨qD,oe,oE,qi⟩:=zD;obtain⟨dL,du,dB,dH⟩:=fU;obtain⟨eX,eE,eH,eS⟩:=lw;obtain⟨qA,n5,oA,qf⟩:=zx;obtain⟨qy,nY,oy,qd⟩:=zr;obtain⟨qz,nZ,oz,qe⟩:=zw;obtain⟨qC,oa,oC,qh⟩:=zB;obtain⟨fR,fx,fB,fM⟩:=fT;obtain⟨y9,wb,wN,yA⟩:=zE;obtain⟨y7,v0,wL,yy⟩:=zA;obtain⟨za,wc,wO,yB⟩:=zI;obtain⟨lc,j0,ka,kU⟩:=lh;obtain⟨yX,vW,wH,yu⟩:=zp;refine F.ok sc_law (λvs H Q E h=>?_) (λcdv A outer s H vs Q E hr h=>?_)
 ·obtain⟨a,ns,rfl,_⟩:=h;rfl
 ·obtain⟨sa,ns,rfl,hS,hlen,fin⟩:=h;have big:=sizeLine_eq
  refine⟨_,(ae (ai (i:=1) sc_law.nd rfl (Or.inl rfl) (am b8 (hr.mono) rfl bW bX b6 .nil aj (aa (pv 0) (aa ab ac))))
   (ae (ai (i:=2) sc_law.nd rfl (Or.inl rfl) (am qE (hr.mono) rfl og oF qj .nil aj (aa (am b8 (hr.mono) rfl bW bX b6 .nil aj (aa (pv 0) (aa ab ac))) (aa (am b8 (hr.mono) rfl bW bX b6 .nil aj (aa (pv 0) (aa ab ac))) (aa (pv 1) ac)))))
   (ae (ai (i:=3) sc_law.nd rfl (Or.inl rfl) (am qE (hr.mono) rfl og oF qj .nil aj (aa (am b8 (hr.mono) rfl bW bX b6 .nil aj (aa (pv 0) (aa ab ac))) (aa (am b8 (hr.mono) rfl bW bX b6 .nil aj (aa (pv 0) (aa ab ac))) (aa (pv 1) ac)))))
   (ae (aN (aF bz (ad aS (am b8 (hr.mono) rfl bW bX b6 .nil aj (aa (pv 0) (aa ab ac))) ab) ab (au _))
     (ak (ai (i:=3) sc_law.nd rfl (Or.inl rfl) (pv 2)))
     aM)
   (ae (ai (i:=4) sc_law.nd rfl (Or.inl rfl) (am qD (hr.mono) rfl oe oE qi .nil aj (aa (am b8 (hr.mono) rfl bW bX b6 .nil aj (aa (pv 0) (aa ab ac))) (aa (pv 2) ac))))
   (ae (ai (i:=5) sc_law.nd rfl (Or.inl rfl) (am qD (hr.mono) rfl oe oE qi .nil aj (aa (am b8 (hr.mono) rfl bW bX b6 .nil aj (aa (pv 0) (aa ab ac))) (aa (pv 3) ac))))
   (ae (ai (i:=6) sc_law.nd rfl (Or.inl rfl) (am dL (hr.mono) rfl du dB dH .nil aj (aa (am eX (hr.mono) rfl eE eH eS .nil aj (aa (pv 2) ac)) (aa (am qA (hr.mono) rfl n5 oA qf .nil aj (aa (pv 4) ac)) ac))))
   (ae (ai (i:=7) sc_law.nd rfl (Or.inl rfl) (am dL (hr.mono) rfl du dB dH .nil aj (aa (am eX (hr.mono) rfl eE eH eS .nil aj (aa (pv 3) ac)) (aa (am qA (hr.mono) rfl n5 oA qf .nil aj (aa (pv 5) ac)) ac))))
   (ae (ai (i:=8) sc_law.nd rfl (Or.inl rfl) (am qy (hr.mono) rfl nY oy qd .nil aj (aa (ad jR (aJ (aa (pv 2) ac)) (am qz (hr.mono) rfl nZ oz qe .nil aj (aa (pv 4) ac))) (aa (pv 2) (aa (ad aS (am b8 (hr.mono) rfl bW bX b6 .nil aj (aa (pv 0) (aa ab ac))) ab) ac)))))
   (ae (ai (i:=9) sc_law.nd rfl (Or.inl rfl) (am qy (hr.mono) rfl nY oy qd .nil aj (aa (ad jR (aJ (aa (pv 3) ac)) (am qz (hr.mono) rfl nZ oz qe .nil aj (aa (pv 5) ac))) (aa (pv 3) (aa (ad aS (ad bH (am b8 (hr.mono) rfl bW bX b6 .nil aj (aa (pv 0) (aa ab ac))) ab) ab) ac)))))
   (ae (ai (i:=10) sc_law.nd rfl (Or.inl rfl) (am qC (hr.mono) rfl oa oC qh .nil aj (aa (pv 6) (aa (pv 8) ac))))
   (ae (ai (i:=11) sc_law.nd rfl (Or.inl rfl) (am qC (hr.mono) rfl oa oC qh .nil aj (aa (pv 7) (aa (pv 9) ac))))
   (ae (ai (i:=12) sc_law.nd rfl (Or.inl rfl) (am fR (hr.mono) rfl fx fB fM .nil aj (aa (ad aO (af (al (K:=K) rfl) (pv 2) ab (λ_ _=>rfl)) (af (al (K:=K) rfl) (pv 3) ab (λ_ _=>rfl))) (aa (ad aO (af (al (K:=K) rfl) (pv 2) ab (λ_ _=>rfl)) (af (al (K:=K) rfl) (pv 3) ab (λ_ _=>rfl))) (aa (ad aO (af (al (K:=K) rfl) (pv 2) ab (λ_ _=>rfl)) (af (al (K:=K) rfl) (pv 3) ab (λ_ _=>rfl))) (aa (af (al (K:=K) rfl) (pv 2) ab (λ_ _=>rfl)) ac))))))
   (ae (ai (i:=13) sc_law.nd rfl (Or.inl rfl) (aJ (aa (pv 6) (aa (pv 7) (aa (am eX (hr.mono) rfl eE eH eS .nil aj (aa (pv 2) ac)) (aa (am eX (hr.mono) rfl eE eH eS .nil aj (aa (pv 3) ac)) (aa (aJ (aa (bF bC ab) (aa ab ac))) (aa (aJ ac) (aa (aJ (aa ab ac)) (aa (am dL (hr.mono) rfl du dB dH .nil aj (aa (pv 6) (aa (aJ (aa ab (aa ab (aa ab ac)))) ac))) ac))))))))))
   (ae (bD PassesOwn.never rfl (cG rfl T.range_ (aa (bg (yf rfl) (by rfl) T.max_ PyProof.Rows.boot_max (aa ab (aa (bg (ye rfl) (by rfl) T.min_ PyProof.Rows.boot_min (aa ab (aa (ad aO (ad bH (ad aW (bg (bZ (K:=K) rfl) (by rfl) T.len_ PySem.boot_len (aa (pv 0) ac)) ab) ab) ab) ac))) ac))) ac)) (aV (i:=14) sc_law.nd rfl (Or.inr rfl))
     (ae (m8 (i:=15) sc_law.nd rfl (Or.inl rfl) (own:=["_law_j"]) (fr:=["_law_script","_law_k"]) (js:=[0,14]) (by walk_at "comp_ok") rfl (cG rfl T.range_ (aa ab ac)) (λ_ _ _ _=>(aV (i:=0) (show List.Nodup (["_law_j","_law_script","_law_k"]:List Str)from by decide +kernel) rfl (Or.inl rfl))) (λ_ _ _ _=>(am b8 (hr.mono) rfl bW bX b6 .nil aj (aa (pv 1) (aa (ad aW (ad aW ab (ad aw ab (pv 2))) (pv 0)) ac)))) (by rfl))
       (ae (ai (i:=16) sc_law.nd rfl (Or.inl rfl) (am y9 (hr.mono) rfl wb wN yA .nil aj (aa (pv 8) (aa (pv 2) (aa (pv 9) (aa (pv 3) (aa (af (aA (K:=K) rfl) (pv 15) ab (λ_ _=>rfl)) ac)))))))
       (ae (ai (i:=17) sc_law.nd rfl (Or.inl rfl) (am y7 (hr.mono) rfl v0 wL yy .nil aj (aa (pv 16) (aa (pv 13) (aa (pv 15) ac)))))
       (ae (aN (aF bz (ad aS (ad bH (af (aA (K:=K) rfl) (pv 15) ab (λ_ _=>rfl)) ab) ab) ab (au _))
         (ak (ai (i:=17) sc_law.nd rfl (Or.inl rfl) (am za (hr.mono) rfl wc wO yB .nil aj (aa (pv 15) ac))))
         aM)
       (ae (ai (i:=18) sc_law.nd rfl (Or.inl rfl) (am lc (hr.mono) rfl j0 ka kU .nil aj (aa (pv 10) (aa (pv 11) (aa (pv 17) ac)))))
       (ae (aN (gy (d8 (bg (yj (K:=K) rfl) (by rfl) T.isinstance_ PyProof.Rows.boot_isinstance (aa (pv 18) (aa (tM (v:=.ty "bool") (by rfl) T.bool_ PyProof.Rows.boot_bool (by rfl)) ac)))))
         (ak (ar c8))
         aM)
       (ak (aN (PW.pt (cE (d8 (pv 18)) (cZ (aF tR (af (al (K:=K) rfl) (pv 17) ab (λ_ _=>rfl)) (af (aA (K:=K) rfl) (aJ (aa bK (aa bK (aa bK ac)))) (ad aW (ad aO (c6 ic (by rfl) T.int_ PyProof.Rows.boot_int (aa (bN cq (pv 12) ab (au _)) ac)) (c6 ic (by rfl) T.int_ PyProof.Rows.boot_int (aa (bN cH (pv 12) ab (au _)) ac))) ab) (λ_ _=>rfl)) (au _)))))
         (ak (ar c8))
         aM)))))))))
   (ae (aN (aF gF (pv 12) ab (au _))
     (ak (ar c8))
     aM)
   (ae (ai (i:=19) sc_law.nd rfl (Or.inl rfl) (ad bH (am b8 (hr.mono) rfl bW bX b6 .nil aj (aa (pv 0) (aa ab ac))) ab))
   (ak (ar (am yX (hr.mono) rfl vW wH yu .nil aj (aa (pv 10) (aa (pv 11) (aa (pv 2) (aa (aJ (aa (pv 8) (aa (pv 9) ac))) (aa (pv 19) ac))))))))))))))))))))))))),?_⟩
  refine ao ⟨_,rfl,sa,ns,0,rfl,hS,?_⟩;refine ao ⟨_,rfl,sa,ns,1,rfl,hS,_,rfl,sa,ns,2,rfl,hS,_,rfl,_,_,_,rfl,λp a b c H1 s1 hp hCT hC=>?_⟩;refine ao ⟨_,rfl,sa,ns,3,rfl,s1.seq hS,_,rfl,sa,ns,4,rfl,s1.seq hS,_,rfl,_,_,_,rfl,λp0 a0 b0 c0 H2 s2 hp0 hCT0 hC0=>?_⟩;have t2:=s1.trans s2;have hCT2:=s2 _ _ hCT;generalize hm:2+ns.getD 0 0%6=m at hCT hC hCT0 hC0 hCT2
  generalize ns.getD 0 0=mm at hm
  obtain⟨d5,d6⟩:=aX (x:=ns.getD 5 0) (m:=2) (by decide);show aT _ _ _ [some (.ref sa),some (.int mm),some (.ref p),some (.ref p0),none,none,none,none,none,none,none,none,none,none,none,none,none,none,none,none] H2;refine cn (λσ' H'=>∃(p':Addr) (a' b' c':Int),σ'=[some (.ref sa),some (.int mm),some (.ref p),some (.ref p'),none,none,none,none,none,none,none,none,none,none,none,none,none,none,none,none]/\H2=H'/\CT H2 p' a' b' c' m/\CubOk a' b' c' m) ?_ ?_
  case refine_2 =>intro rest;refine⟨_,rfl,sa,ns,5,rfl,t2.seq hS,_,_,rfl,rfl,(by show(0:Int)<2;decide),_,_,rfl,rfl,_,rfl,aD (λ_=>?_) (λ_=>rest _ _ ⟨p0,a0,b0,c0,rfl,rfl,hCT0,hC0⟩)⟩;exact ca ⟨_,rfl,rest _ _ ⟨p,a,b,c,rfl,rfl,hCT2,hC⟩⟩
  clear hCT0 hC0 hp0 d5 d6 hCT;rintro σ' H' ⟨p',a',b',c',rfl,rfl,hCT',hC'⟩;refine ao ⟨_,rfl,sa,ns,6,rfl,t2.seq hS,_,rfl,_,p,a,b,c,m,rfl,hCT2,hC,λl3 qs fs H3 s3 hl3 e3 hT3 fl hF=>?_⟩;refine ao ⟨_,rfl,sa,ns,7,rfl,(t2.trans s3).seq hS,_,rfl,_,p',a',b',c',m,rfl,s3 _ _ hCT',hC',λl4 qs' fs' H4 s4 hl4 e4 hT4 fl' hF'=>?_⟩;have u4:=s3.trans s4;obtain⟨kb,kl,kt,ep,pb,pl⟩:=mT hF fl hC;obtain⟨kb',kl',kt',ep',pb',pl'⟩:=mT hF' fl' hC';have fac:∀l∈fs,Fac 100000000 l:=λl h=>kx (hF l h)
  have fac':∀l∈fs',Fac 100000000 l:=λl h=>kx (hF' l h)
  have c4:∀{a b c:Int},(av m a b c).length<=1000000:=λ{a b c}=>by show 4<=1000000;decide
  have hCT4:=u4 _ _ hCT2;have hCT4':=u4 _ _ hCT';have t4:=t2.trans u4;refine ao ⟨_,rfl,p,a,b,c,m,rfl,hCT4,hC,λr5 H5 s5 hr5 e5=>?_⟩;refine⟨_,rfl,l3,qs,fs,rfl,(s4.trans s5) _ _ e3,hT3.same (s4.trans s5),fac,by omega,λr6 H6 s6 hr6 e6=>?_⟩;refine⟨r5,r6,_,_,rfl,s6 _ _ e5,e6,c4,by omega,(eR hC).mono,pb.mono,λkp H7 s7 hkp e7=>?_⟩;rw[ep]at e7;have u7:=s5.trans (s6.trans s7);clear e5 e6 hr5 hr6 hkp;refine ao ⟨_,rfl,p',a',b',c',m,rfl,u7 _ _ hCT4',hC',λr5 H8 s8 hr5 e5=>?_⟩;refine⟨_,rfl,l4,qs',fs',rfl,(u7.trans s8) _ _ e4,hT4.same (u7.trans s8),fac',by omega,λr6 H9 s9 hr6 e6=>?_⟩;refine⟨r5,r6,_,_,rfl,s9 _ _ e5,e6,c4,by omega,(eR hC').mono,pb'.mono,λkq Ha sa' hkq e8=>?_⟩;rw[ep']at e8;have u8:=s8.trans (s9.trans sa');clear e5 e6 hr5 hr6 hkq;have ua:=u7.trans u8;have ta:=t4.trans ua;have e7a:=u8 _ _ e7;have e3a:=(s4.trans ua) _ _ e3;have e4a:=ua _ _ e4;have hT3a:=hT3.same (s4.trans ua);have hT4a:=hT4.same ua;have hCTa:=ua _ _ hCT4;have hCTa':=ua _ _ hCT4';clear e7 e3 e4 hT3 hT4 hCT4 hCT4' hCT2 hCT';generalize hkp:ag (av m a b c) (prd (fs.map aP))=KP at *
  generalize hkq:ag (av m a' b' c') (prd (fs'.map aP))=KQ at *
  show aT _ _ _ [some (.ref sa),some (.int mm),some (.ref p),some (.ref p'),some (.ref l3),some (.ref l4),some (.ref kp),some (.ref kq),none,none,none,none,none,none,none,none,none,none,none,none] Ha;obtain⟨m1,m2⟩:=aX (x:=ns.getD 8 0) (m:=10) (by decide);obtain⟨m3,m4⟩:=aX (x:=ns.getD 8 0/10) (m:=10) (by decide)
  have spl:∀(fs:List (List Int)) {H:Hp} {ws:List Addr},fs.length<=2->TuH H ws (spots fs)->([V.ref p].length+(ws.map V.ref).length<=sizeLine):=λfs {H ws} h h'=>by have:=iz fs;rw[A4,h'.1];show 1+_<=_;omega
  refine ao ⟨_,rfl,by show 1<=sizeLine;decide,λv1 hv1=>?_⟩;have w1:=Same.upd_new (o:=.lst [.ref p]) hv1;have f1:upd Ha v1 (.lst [.ref p]) v1=some (.lst [.ref p]):=ah;refine⟨_,rfl,l3,qs,fs,rfl,w1 _ _ e3a,hT3a.same w1,fac,by omega,λv2 Hb ws w2 hv2 f2 hW=>?_⟩;refine⟨v1,v2,_,_,rfl,rfl,w2 _ _ f1,f2,spl fs fl hW,λv3 hv3=>?_⟩;have w3:=Same.upd_new (o:=.lst ([.ref p]++ws.map V.ref)) hv3;have f3:upd Hb v3 (.lst ([.ref p]++ws.map V.ref)) v3=some (.lst (.ref p::ws.map V.ref)):=ah;have x3:=w1.trans (w2.trans w3);refine⟨_,rfl,_,rfl,sa,ns,8,rfl,(ta.trans x3).seq hS,_,_,rfl,rfl,(by show(0:Int)<10;decide),v3,p,_,ws,a,b,c,m,fs,rfl,m1,by omega,f3,x3 _ _ hCTa,hC,hW.same w3,hF,lS fac,λts Hc j w4 hts ets hA hj=>?_⟩;have uc:=x3.trans w4;have tc:=ta.trans uc;clear f1 f2 f3 hv1 hv2 hv3 hW;show aT _ _ _ [some (.ref sa),some (.int mm),some (.ref p),some (.ref p'),some (.ref l3),some (.ref l4),some (.ref kp),some (.ref kq),some (.ref ts),none,none,none,none,none,none,none,none,none,none,none] Hc;refine ao ⟨_,rfl,by show 1<=sizeLine;decide,λv1 hv1=>?_⟩;have y1:=Same.upd_new (o:=.lst [.ref p']) hv1;have f1:upd Hc v1 (.lst [.ref p']) v1=some (.lst [.ref p']):=ah;refine⟨_,rfl,l4,qs',fs',rfl,(uc.trans y1) _ _ e4a,hT4a.same (uc.trans y1),fac',by omega,λv2 Hd ws' y2 hv2 f2 hW'=>?_⟩;refine⟨v1,v2,_,_,rfl,rfl,y2 _ _ f1,f2,spl fs' fl' hW',λv3 hv3=>?_⟩;have y3:=Same.upd_new (o:=.lst ([.ref p']++ws'.map V.ref)) hv3;have f3:upd Hd v3 (.lst ([.ref p']++ws'.map V.ref)) v3=some (.lst (.ref p'::ws'.map V.ref)):=ah;have z3:=y1.trans (y2.trans y3);refine⟨_,rfl,_,rfl,sa,ns,8,rfl,(tc.trans z3).seq hS,_,_,rfl,rfl,⟨by show(0:Int)<10;decide,az (by decide) (by decide)⟩,_,_,rfl,rfl,(by show(0:Int)<10;decide),v3,p',_,ws',a',b',c',m,fs',rfl,m3,by omega,f3,(uc.trans z3) _ _ hCTa',hC',hW'.same y3,hF',lS fac',λtu He j' y4 htu etu hA' hj'=>?_⟩;have ue:=z3.trans y4;have te:=tc.trans ue;have etse:=ue _ _ ets;have ve:=uc.trans ue;clear f1 f2 f3 hv1 hv2 hv3 hW';have S:=aU hC j;have S':=aU hC' j';obtain⟨bb1,bb2,bb3⟩:=cS S (by omega);obtain⟨bb1',bb2',bb3'⟩:=cS S' (by omega);have n0:=S.pos;have n0':=S'.pos;have ne:(itS m a b c j).2.2≠0:=by omega
  have ne':(itS m a' b' c' j').2.2≠0:=by omega
  show aT _ _ _ [some (.ref sa),some (.int mm),some (.ref p),some (.ref p'),some (.ref l3),some (.ref l4),some (.ref kp),some (.ref kq),some (.ref ts),some (.ref tu),none,none,none,none,none,none,none,none,none,none] He;refine ao ⟨_,rfl,_,rfl,kp,ts,KP,_,rfl,ve _ _ e7a,etse,n0,bb3.mono,λo q ol oh Hf g1 na eq rl rh=>?_⟩;refine ao ⟨_,rfl,_,rfl,kq,tu,KQ,_,rfl,(ve.trans g1) _ _ e8,g1 _ _ etu,n0',bb3'.mono,λo' q' ol' oh' Hg g2 na' eq' rl' rh'=>?_⟩;have vg:=ve.trans (g1.trans g2);have tg:=te.trans (g1.trans g2);have L:LkN C CN Hg o q KP _ _ _ _:=⟨⟨ol,oh,na.same g2,rl.same g2,rh.same g2⟩,g2 _ _ eq,by omega,kb.mono,(cV ne bb1).mono,(cY ne bb3).mono,(cV ne bb2).mono,(cY ne bb3).mono⟩;have L':LkN C CN Hg o' q' KQ _ _ _ _:=⟨⟨ol',oh',na',rl',rh'⟩,eq',by omega,kb'.mono,(cV ne' bb1').mono,(cY ne' bb3').mono,(cV ne' bb2').mono,(cY ne' bb3').mono⟩;have N:=pW hC n0 hF hA (bV ne) (bV ne) (bM ne) (bM ne);have N':=pW hC' n0' hF' hA' (bV ne') (bV ne') (bM ne') (bM ne');rw[hkp]at N;rw[hkq]at N';have hCTg:=vg _ _ hCTa;have hCTg':=vg _ _ hCTa';have e7g:=vg _ _ e7a;have e8g:=vg _ _ e8;have etsg:=(g1.trans g2) _ _ etse;have etug:=(g1.trans g2) _ _ etu;have w9:=hC.a9;have w9':=hC'.a9;have w3:=hC.b3;have w3':=hC'.b3;have w4:=hC.c3;have w4':=hC'.c3;have wm:=hC.m2;have wm':=hC.m7;show aT _ _ _ [some (.ref sa),some (.int mm),some (.ref p),some (.ref p'),some (.ref l3),some (.ref l4),some (.ref kp),some (.ref kq),some (.ref ts),some (.ref tu),some (.ref o),some (.ref o'),none,none,none,none,none,none,none,none] Hg;refine ao ⟨_,rfl,p,_,_,_,rfl,rfl,SqT.of hCTg,rfl,_,rfl,p',_,_,_,rfl,rfl,SqT.of hCTg',rfl,_,_,rfl,rfl,_,rfl,p,_,_,_,rfl,rfl,SqT.of hCTg,rfl,_,rfl,p',_,_,_,rfl,rfl,SqT.of hCTg',rfl,_,_,rfl,rfl,_,rfl,p,_,_,_,rfl,rfl,SqT.of hCTg,rfl,_,rfl,p',_,_,_,rfl,rfl,SqT.of hCTg',rfl,_,_,rfl,rfl,_,rfl,p,_,_,_,rfl,rfl,SqT.of hCTg,rfl,_,_,_,_,rfl,az (by omega) (by decide),az (by omega) (by decide),az (by omega) (by decide),az (by omega) (by decide),?_⟩;obtain⟨AP,eAP⟩:∃AP,nrm m (a-a') (b-b') (c-c')=AP:=⟨_,rfl⟩;rw[eAP];show aT _ _ _ [some (.ref sa),some (.int mm),some (.ref p),some (.ref p'),some (.ref l3),some (.ref l4),some (.ref kp),some (.ref kq),some (.ref ts),some (.ref tu),some (.ref o),some (.ref o'),some (.int AP),none,none,none,none,none,none,none] Hg;refine ao ⟨_,rfl,_,rfl,_,rfl,p,a,b,c,m,rfl,hCTg,hC,λr1 Hh h1 hr1 i1=>?_⟩;refine⟨_,rfl,p',a',b',c',m,rfl,h1 _ _ hCTg',hC',λr2 Hi h2 hr2 i2=>?_⟩;refine⟨_,rfl,by show 2<=sizeLine;decide,λr3 hr3=>?_⟩;have h3:=Same.upd_new (o:=.lst [.int (-3),.int 1]) hr3;have i3:upd Hi r3 (.lst [.int (-3),.int 1]) r3=some (.lst (([-3,1]:List Int).map V.int)):=ah;refine dZ (H2:=upd Hi r3 (.lst [.int (-3),.int 1])) rfl ?_;generalize upd Hi r3 (.lst [.int (-3),.int 1])=Hi3 at h3 i3 ⊢
  refine⟨A8 _,λr4 hr4=>?_⟩;have h4:=Same.upd_new (o:=.lst []) hr4;have i4:upd Hi3 r4 (.lst []) r4=some (.lst (([]:List Int).map V.int)):=ah;refine dZ (H2:=upd Hi3 r4 (.lst [])) rfl ?_;generalize upd Hi3 r4 (.lst [])=Hi4 at h4 i4 ⊢
  refine⟨by show 1<=sizeLine;decide,λr5 hr5=>?_⟩;have h5:=Same.upd_new (o:=.lst [.int 5]) hr5;have i5:upd Hi4 r5 (.lst [.int 5]) r5=some (.lst (([5]:List Int).map V.int)):=ah;refine dZ (H2:=upd Hi4 r5 (.lst [.int 5])) rfl ?_;generalize upd Hi4 r5 (.lst [.int 5])=Hi5 at h5 i5 ⊢
  have k5:=h3.trans (h4.trans h5);have i3':=(h4.trans h5) _ _ i3;have i4':=h5 _ _ i4;refine⟨_,rfl,by show 3<=sizeLine;decide,λr6 hr6=>?_⟩;have h6:=Same.upd_new (o:=.lst [.int 1,.int 0,.int 1]) hr6;have i6:upd Hi5 r6 (.lst [.int 1,.int 0,.int 1]) r6=some (.lst (([1,0,1]:List Int).map V.int)):=ah;refine dZ (H2:=upd Hi5 r6 (.lst [.int 1,.int 0,.int 1])) rfl ?_;generalize upd Hi5 r6 (.lst [.int 1,.int 0,.int 1])=Hj at h6 i6 ⊢
  have k6:=k5.trans h6;have j3:=h6 _ _ i3';have j4:=h6 _ _ i4';have j5:=h6 _ _ i5;have l6:=h1.trans (h2.trans k6);have e76:=l6 _ _ e7g;refine⟨kp,r6,KP,[1,0,1],rfl,e76,i6,by omega,by show 3<=1000000;decide,kb.mono,one0.mono,λr7 Hk h7 hr7 i7=>?_⟩;refine⟨by show 8<=sizeLine;decide,λsh hsh=>?_⟩;have h8:=Same.upd_new (o:=.lst [.ref kp,.ref kq,.ref r1,.ref r2,.ref r3,.ref r4,.ref r5,.ref r7]) hsh;have esh:upd Hk sh (.lst [.ref kp,.ref kq,.ref r1,.ref r2,.ref r3,.ref r4,.ref r5,.ref r7]) sh=some (.lst ([kp,kq,r1,r2,r3,r4,r5,r7].map V.ref)):=ah;have l7:=l6.trans (h7.trans h8);have l8:=h7.trans h8;have RW:=(((((((RwH.nil.snoc (l7 _ _ e7g)).snoc (l7 _ _ e8g)).snoc ((h2.trans (k6.trans l8)) _ _ i1)).snoc ((k6.trans l8) _ _ i2)).snoc (l8 _ _ j3)).snoc (l8 _ _ j4)).snoc (l8 _ _ j5)).snoc (h8 _ _ i7);refine dZ (H2:=upd Hk sh (.lst [.ref kp,.ref kq,.ref r1,.ref r2,.ref r3,.ref r4,.ref r5,.ref r7])) rfl ?_;generalize upd Hk sh (.lst [.ref kp,.ref kq,.ref r1,.ref r2,.ref r3,.ref r4,.ref r5,.ref r7])=Hl at h8 esh l7 l8 RW ⊢
  have tl:=tg.trans l7;have k3:(ag KP [1,0,1]).length<=12:=by have:=nQ KP [1,0,1];have:([1,0,1]:List Int).length=3:=rfl;omega
  have SS:∀g∈[KP,KQ,av m a b c,av m a' b' c',[-3,1],[],[5],ag KP [1,0,1]],Tr g/\g.length<=20/\AllB 1000 g:=λg hg=>by
   simp only[Bb,BD,or_false]at hg;rcases hg with rfl |rfl |rfl |rfl |rfl |rfl |rfl |rfl
   ·exact⟨kt,by omega,kb.mono⟩
   ·exact⟨kt',by omega,kb'.mono⟩
   ·exact⟨eQ m a b c,by show 4<=20;decide,(eR hC).mono⟩
   ·exact⟨eQ m a' b' c',by show 4<=20;decide,(eR hC').mono⟩
   ·exact⟨(tr_snoc (r:=[-3])).mpr (by decide),by decide,λx hx=>by
     simp only[Bb,BD,or_false]at hx
     rcases hx with rfl |rfl<;>exact az (by decide) (by decide)⟩
   ·exact⟨iq,by decide,AllB.nil⟩
   ·exact⟨(tr_snoc (r:=[])).mpr (by decide),by decide,λx hx=>by rw[Bf.mp hx];exact az (by decide) (by decide)⟩
   ·exact⟨dS kt ((tr_snoc (r:=[1,0])).mpr (by decide)),by omega,gI kb one0 (by omega)⟩
  have La:=L.same l7;have La':=L'.same l7;have hCTl:=l7 _ _ hCTg;have hCTl':=l7 _ _ hCTg';have etsl:=l7 _ _ etsg;have etul:=l7 _ _ etug;clear e7g e8g hCTg hCTg' etsg etug i1 i2 i3 i4 i5 i6 i7 j3 j4 j5 i3' i4' e76 hr1 hr2 hr3 hr4 hr5 hr6 hr7 L L';have hln:(ns.map V.int).length=ns.length:=A4 _
  obtain⟨NN,n15,eN⟩:∃NN:Nat,NN<=15/\(if(if(((ns.map V.int).length:Int)+2)/4-2<15 then(((ns.map V.int).length:Int)+2)/4-2 else 15)>1 then(if(((ns.map V.int).length:Int)+2)/4-2<15 then(((ns.map V.int).length:Int)+2)/4-2 else 15)else 1)=(NN:Int):=by generalize (((ns.map V.int).length:Int)+2)/4-2=X;refine⟨(if(if X<15 then X else 15)>1 then(if X<15 then X else 15)else 1).toNat,?_,?_⟩<;>split<;>split<;>omega
  refine⟨_,rfl,sa,_,rfl,.inl (tl.seq hS),_,_,rfl,rfl,_,_,rfl,rfl,⟨by show(0:Int)<4;decide,az (by decide) (by decide)⟩,_,_,rfl,rfl,_,_,rfl,_,_,rfl,NN,congrArg (λz:Int=>[V.int z]) eN,by omega,by omega,dF (lo:=0) (n:=NN) (λi σ' H'=>∃z4 z5 z6 z7 z8:Option V,σ'=[some (.ref sa),some (.int mm),some (.ref p),some (.ref p'),some (.ref l3),some (.ref l4),some (.ref kp),some (.ref kq),some (.ref ts),some (.ref tu),some (.ref o),some (.ref o'),some (.int AP),some (.ref sh),z4,z5,z6,z7,z8,none]/\Same Hl H') ⟨none,none,none,none,none,rfl,Same.refl _⟩ ?_ ?_⟩
  ·rintro i σ' H' hi ⟨z4,z5,z6,z7,z8,rfl,s'⟩;refine⟨4,rfl,by omega,by omega,pP (lo:=0) (n:=4) (λt zs σ'' H''=>∃(z:Option V) (ms:List Int),σ''=[z,some (.ref sa),some (.int (0+(i:Int)))]/\zs=ms.map V.int/\ms.length=t/\H'=H'') (by omega) ⟨none,[],rfl,rfl,rfl,rfl⟩ ?_ ?_ ?_⟩
   ·rintro t zs σ'' H'' _ ⟨z,ms,rfl,rfl,rfl,rfl⟩;rw[A4];exact A5 _
   ·rintro t zs σ'' H'' ht ⟨z,ms,rfl,rfl,rfl,rfl⟩;have e:9+4*(0+(i:Int))+(0+(ms.length:Int))=((9+4*i+ms.length:Nat):Int):=by omega
    refine⟨_,rfl,_,rfl,_,_,rfl,rfl,⟨az (by decide) (by decide),az (by omega) (by decide)⟩,_,_,rfl,rfl,_,rfl,_,_,rfl,rfl,sa,ns,9+4*i+ms.length,?_,(tl.trans s').seq hS,?_⟩
    ·rw[<- e];rfl
    ·exact⟨_,ms++[ns.getD (9+4*i+ms.length) 0],rfl,nS _ _,Ba,rfl⟩
   ·rintro zs σ'' H'' cs ⟨z,ms,rfl,rfl,hml,rfl⟩ hcs
    obtain⟨c0,c1,c2,c3,rfl⟩:∃c0 c1 c2 c3:Int,ms=[c0,c1,c2,c3]:=by
     match ms,hml with
     | [c0,c1,c2,c3],_=>exact⟨c0,c1,c2,c3,rfl⟩
    refine sy ?_;have s1':=Same.upd_new (o:=.lst ([c0,c1,c2,c3].map V.int)) hcs;have ecs:CsL (upd H' cs (.lst ([c0,c1,c2,c3].map V.int))) cs c0 c1 c2 c3:=ah;dsimp only
    generalize upd H' cs (.lst ([c0,c1,c2,c3].map V.int))=H1 at s1' ecs ⊢
    have x1:=s'.trans s1';refine ao ⟨_,rfl,_,rfl,_,rfl,_,rfl,_,rfl,cs,_,_,_,rfl,rfl,SqL.of ecs,rfl,ts,p,tu,p',c3,j,j',a,b,c,m,a',b',c',m,rfl,x1 _ _ etsl,x1 _ _ hCTl,hC,hj,x1 _ _ etul,x1 _ _ hCTl',hC',hj',λle es ps H3 s3 ele hTe pl hE=>?_⟩;have x3:=x1.trans s3;have ecs3:=s3 _ _ ecs;refine ao ⟨_,rfl,_,rfl,_,rfl,le,sh,cs,es,_,ps,_,c0,c1,c2,c3,rfl,ele,hTe,pl,hE,x3 _ _ esh,RW.same x3,rfl,SS,ecs3,λpp H4 s4 hP=>?_⟩;have ecs4:=s4 _ _ ecs3;have x4:=x3.trans s4;show aT _ _ _ _ _;refine cn (λσ' H'=>∃(pp:Addr) (z4 z5 z6:Option V),σ'=[some (.ref sa),some (.int mm),some (.ref p),some (.ref p'),some (.ref l3),some (.ref l4),some (.ref kp),some (.ref kq),some (.ref ts),some (.ref tu),some (.ref o),some (.ref o'),some (.int AP),some (.ref sh),z4,z5,z6,some (.ref pp),z8,none]/\Same Hl H'/\PpO C H' pp) ?_ ?_
    case refine_2 =>intro rest;refine⟨_,rfl,cs,_,_,_,rfl,rfl,SqL.of ecs4,rfl,_,_,rfl,rfl,⟨by show(0:Int)<3;decide,az (by decide) (by decide)⟩,_,_,rfl,rfl,(by show(0:Int)<2;decide),_,_,rfl,rfl,_,rfl,aD (λ_=>?_) (λ_=>rest _ _ ⟨pp,_,_,_,rfl,x4,hP⟩)⟩;exact ca ⟨_,rfl,cs,c0,c1,c2,c3,rfl,ecs4,λpp' H5 s5 hP'=>rest _ _ ⟨pp',_,_,_,rfl,x4.trans s5,hP'⟩⟩
    clear hP x4 s4 ecs4 ecs3 x3 s3 ele hTe pl hE x1 s1' ecs hcs H4 H3 H1;rintro σ' H5 ⟨pp,z4,z5,z6,rfl,s5,hP⟩;obtain⟨wd,rest,epp,tak⟩:=qV (La.same s5) (La'.same s5) N N' hP;rw[eAP]at tak;refine ao ⟨_,rfl,_,rfl,_,rfl,?_⟩;dsimp only[dU,List.append_nil];refine tak _ _ λr H6 s6 hr6=>?_
    refine bh (gw (sC (sA ⟨_,rfl,wT (.bl _) (k:=true) (by rfl) ⟨_,rfl,bO ?_⟩⟩)));have x6:=s5.trans s6;refine gx (cD ⟨_,rfl,_,rfl,?_⟩);cases r with
    |false=>exact bO (bO ⟨_,_,_,_,_,rfl,x6⟩)
    |true =>refine cm ⟨_,rfl,pp,_,_,_,rfl,rfl,SqT.of (s6 _ _ epp),eT (j:=0) rfl,by show 3<=sizeLine;decide,λwl hwl=>?_⟩;refine⟨_,rfl,_,_,rfl,rfl,.inr ⟨_,rfl,_,rfl,_,_,rfl,rfl,.inr ⟨_,rfl,_,_,rfl,rfl,_,_,rfl,rfl,wl,_,_,_,rfl,rfl,SqL.of ah,qF AP,rfl,_,rfl,dY (λz=>absurd (congrArg V.str (hr6 rfl)) z) (λ_=>?_)⟩⟩⟩;exact⟨_,_,_,_,_,rfl,x6.then_new hwl⟩
  ·rintro σ' H' ⟨z4,z5,z6,z7,z8,rfl,s'⟩;dsimp only
   refine bh ⟨_,rfl,_,_,rfl,rfl,_,rfl,dY (λ_=>aK (fin _)) (λz=>?_)⟩;have z':AP=0:=z;rw[z']at eAP;obtain⟨y1,y2,y3⟩:=hC.nc.2 _ _ _ eAP;obtain rfl:a=a':=by omega
   obtain rfl:b=b':=by omega
   obtain rfl:c=c':=by omega
   refine ao ⟨_,rfl,sa,ns,8,rfl,(tl.trans s').seq hS,_,_,rfl,rfl,⟨by show(0:Int)<100;decide,az (by decide) (by decide)⟩,?_⟩;refine aK ⟨_,rfl,_,rfl,_,rfl,_,rfl,_,rfl,by show 2<=sizeLine;decide,λsp hsp=>?_⟩;have x':=s'.then_new (o:=.lst [.ref ts,.ref tu]) hsp;refine⟨_,rfl,o,o',p,sp,ts,tu,q,q',_,KP,KQ,a,b,c,m,_,_,_,_,_,_,_,_,j,j',rfl,⟨La.same x',⟨_,hkp.symm⟩,bV ne,bV ne,bM ne,bM ne⟩,⟨La'.same x',⟨_,hkq.symm⟩,bV ne',bV ne',bM ne',bM ne'⟩,x' _ _ hCTl,hC,ah,x' _ _ etsl,x' _ _ etul,hj,hj',fin⟩
end
def FnL(K:PySem.W.Frag)(n:Str)(st:Stmt):Prop:=∃f fd,PySem.W.nsIn K mainGlobals n=some (some (.ref f))/\Fun K n n st f fd
def MtL(K:PySem.W.Frag)(C:Addr)(n q:Str)(st:Stmt):Prop:=∃f fd,PySem.W.findIn K (.ref C) n=some (some (.ref f))/\PySem.W.isFn K (.ref f)=true/\Fun K n q st f fd
structure ClL(K:PySem.W.Frag)(n:Str)(C:Addr):Prop where
 a:PySem.W.nsIn K mainGlobals n=some (some (.ref C))
 pg:PySem.W.plainGet K C Str.empty=true
 hd:PySem.W.hasDictIn K C=true
 po:PySem.W.plainOver K C=true
 sa:PySem.W.findIn K (.ref C) "__setattr__"=some (some (.builtin "object.__setattr__"))
 mkr:PySem.W.makesIn K C=true
 kc:PySem.W.keepIn K (.ref C)=true
 ha:PySem.W.findIn K (.ref C) "__class__"=some (some (.builtin "object.__class__"))
 hn:PySem.W.specialIn K (.builtin "object.__class__") "__get__"=some (some (.builtin "getset_descriptor.__get__"))
 ht:PySem.W.takesIn K (.builtin "object.__class__")=some true
 hm:PySem.W.mroIn K C (.type "object")=some true
section
variable {P:Program}{w:World}{K:PySem.W.Frag}{mg:Str->Option Value}{h base:Heap}{n q:Str}{st:Stmt}{f C:Addr}{oc kV dc pm cd ct:Value}{od an:Option Addr}{sl:Array (Option Value)}{fd:FuncData}{k:Nat}{ps:List Str}{sp:Sp}
theorem fnL(a:PySem.W.nsIn K mainGlobals n=some (some (.ref f)))(l:K.lookup f=some ⟨oc,od,.func (PySem.W.fnOf n n (bS st) (bL st) (aq st) .none kV dc pm an cd ct),sl⟩)(c:PySem.W.codeIn K cd n=true)(k:PySem.W.keepIn K (.ref f)=true):FnL K n st:=⟨_,_,a,oT l c k⟩
theorem mtL(a:PySem.W.findIn K (.ref C) n=some (some (.ref f)))(i:PySem.W.isFn K (.ref f)=true)(l:K.lookup f=some ⟨oc,od,.func (PySem.W.fnOf n q (bS st) (bL st) (aq st) .none kV dc pm an cd ct),sl⟩)(c:PySem.W.codeIn K cd q=true)(k:PySem.W.keepIn K (.ref f)=true):MtL K C n q st:=⟨_,_,a,i,oT l c k⟩
def Bx(P:Program)(w:World)(base:Heap):Prop:=P=P/\w=w/\base=base
def BdR(n q:Str)(st:Stmt)(ps:List Str):Prop:=∀(kV doc pm:Value) (an:Option Addr) (cdv ct:Value) (us:List Value),us.length=ps.length->bindArgs (PySem.W.fnOf n q (bS st) (bL st) (aq st) .none kV doc pm an cdv ct) ⟨us,[]⟩=pure (ps.zip us)
theorem cal(_:Bx P w base)(X:K.In h)(G:h.Ns mainGlobals mg)(a:PySem.W.nsIn K mainGlobals n=some (some (.ref f)))(F:Fun K n n st f fd)(o:FnOk P w K mg base CX0 k f fd ps sp)(b:BdR n n st ps):Cal P w K mg base k n ps sp f fd:=⟨o,PySem.W.mg_of X G a,F.kp,F.binds b⟩
theorem vJ(_:Bx P w base)(a:PySem.W.findIn K (.ref C) n=some (some (.ref f)))(i:PySem.W.isFn K (.ref f)=true)(F:Fun K n q st f fd)(o:FnOk P w K mg base CX0 k f fd ps sp)(b:BdR n q st ps):MCal P w K mg base k C n ps sp f fd:=⟨o,⟨a,i,F.kp⟩,F.binds b⟩
theorem us1{A:List Value->Prop}(h:∀a,A [a]):∀us:List Value,us.length=1->A us
 | [a],_=>h a
theorem us2{A:List Value->Prop}(h:∀a b,A [a,b]):∀us:List Value,us.length=2->A us
 | [a,b],_=>h a b
theorem us3{A:List Value->Prop}(h:∀a b c,A [a,b,c]):∀us:List Value,us.length=3->A us
 | [a,b,c],_=>h a b c
theorem us4{A:List Value->Prop}(h:∀a b c d,A [a,b,c,d]):∀us:List Value,us.length=4->A us
 | [a,b,c,d],_=>h a b c d
theorem us5{A:List Value->Prop}(h:∀a b c d e,A [a,b,c,d,e]):∀us:List Value,us.length=5->A us
 | [a,b,c,d,e],_=>h a b c d e
end
theorem all_mk{l:PySem.W.OpenLaw}{w:World}{K:PySem.W.Frag}{h:Heap}{mg:Str->Option Value}{fa CC1 CC2 f3 dt3:Addr}(X:K.In h)(G:h.Ns mainGlobals mg)(hfa:mg "law"=some (.ref fa))
 {od3 an3 odt3:Option Addr} {sl3 slt3:Array (Option Value)} {oc3 kV3 dc3 pm3 cd3 ct3 oct3:Value} {nt3:Nat} {tk3_0:Tok}
 (cc1:ClL K "Ratio" CC1)
 (n1_top:PySem.W.findIn K (.ref CC1) "top"=some none)
 (n1_bottom:PySem.W.findIn K (.ref CC1) "bottom"=some none)
 (cc2:ClL K "Number" CC2)
 (n2_poly:PySem.W.findIn K (.ref CC2) "poly"=some none)
 (n2_low:PySem.W.findIn K (.ref CC2) "low"=some none)
 (n2_high:PySem.W.findIn K (.ref CC2) "high"=some none)
 (a3:PySem.W.findIn K (.ref CC1) "__init__"=some (some (.ref f3))) (i3:PySem.W.isFn K (.ref f3)=true)
 (l3:K.lookup f3=some ⟨oc3,od3,.func (PySem.W.fnOf "__init__" "Ratio.__init__" (bS dW) (bL dW) (aq dW) (.ref dt3) kV3 dc3 pm3 an3 cd3 ct3),sl3⟩) (c3:PySem.W.codeIn K cd3 "Ratio.__init__"=true) (k3:PySem.W.keepIn K (.ref f3)=true)
 (t3:K.lookup dt3=some ⟨oct3,odt3,.seq #[.int 1 tk3_0] nt3,slt3⟩)
 (z0:PySem.W.nsIn K mainGlobals "abs"=some none)
 (z1:PySem.W.nsIn K mainGlobals "len"=some none)
 (z2:PySem.W.nsIn K mainGlobals "reversed"=some none)
 (z3:PySem.W.nsIn K mainGlobals "list"=some none)
 (z4:PySem.W.nsIn K mainGlobals "range"=some none)
 (z5:PySem.W.nsIn K mainGlobals "enumerate"=some none)
 (z6:PySem.W.nsIn K mainGlobals "all"=some none)
 (z7:PySem.W.nsIn K mainGlobals "int"=some none)
 (z8:PySem.W.nsIn K mainGlobals "max"=some none)
 (z9:PySem.W.nsIn K mainGlobals "min"=some none)
 (z10:PySem.W.nsIn K mainGlobals "isinstance"=some none)
 (z11:PySem.W.nsIn K mainGlobals "bool"=some none)
 (l1:FnL K "shared_by_two" iR)
 (l2:FnL K "whole_sign" iL)
 (l4:MtL K CC1 "against" "Ratio.against" jv)
 (l5:FnL K "poly" iT)
 (l6:FnL K "degree" iZ)
 (l7:FnL K "value_parts" iM)
 (l8:FnL K "sign_at" iO)
 (l9:FnL K "scaled" iS)
 (l10:FnL K "lowered" iU)
 (l11:FnL K "divided" iY)
 (l12:FnL K "divides" iX)
 (l13:MtL K CC2 "__init__" "Number.__init__" jw)
 (l14:FnL K "changes_on" i0)
 (l15:FnL K "lies_in" iV)
 (l16:FnL K "shows_in" iP)
 (l17:FnL K "shows_alike" iQ)
 (l18:FnL K "takes" iN)
 (l19:FnL K "_law_cell_at" jt)
 (l20:FnL K "_law_within" i8)
 (l21:FnL K "_law_mul" jl)
 (l22:FnL K "_law_gcd" jn)
 (l23:FnL K "_law_shrunk" gr)
 (l24:FnL K "_law_plain" jh)
 (l25:FnL K "_law_shape" je)
 (l26:FnL K "_law_product" jg)
 (l27:FnL K "_law_sure" jb)
 (l28:FnL K "_law_side" jd)
 (l29:FnL K "_law_roots_of" jf)
 (l30:FnL K "_law_norm" jk)
 (l31:FnL K "_law_cube_shape" jq)
 (l32:FnL K "_law_cube_by" jr)
 (l33:FnL K "_law_further" gu)
 (l34:FnL K "_law_way" i9)
 (l35:FnL K "_law_alone" gv)
 (l36:FnL K "_law_half" jm)
 (l37:FnL K "_law_span" jc)
 (l38:FnL K "_law_number" jj)
 (l39:FnL K "_law_ends" jo)
 (l40:FnL K "_law_end_by" jp)
 (l41:FnL K "_law_paper_by" ji)
 (l42:FnL K "_law_any_paper" ju)
 (l43:FnL K "_law_taken_by_the_cube" ja)
 (l44:FnL K "law" iW)
 (hTr:l.prog.given.tree=none)
 : ∃fd:FuncData,(∀(s:Shared) (v:Value),BindsTo s fd ⟨[v],[]⟩ [("_law_script",v)])/\∀base:Heap,K.In base->base.Ns mainGlobals mg->base.NoSeer->FnOk l.prog w K mg base CX0 40 fa fd ["_law_script"] (gh K):=by
 obtain⟨_,_,a1,F1⟩:=l1;obtain⟨_,_,a2,F2⟩:=l2;obtain⟨_,_,a4,i4,F4⟩:=l4;obtain⟨_,_,a5,F5⟩:=l5;obtain⟨_,_,a6,F6⟩:=l6;obtain⟨_,_,a7,F7⟩:=l7;obtain⟨_,_,a8,F8⟩:=l8;obtain⟨_,_,a9,F9⟩:=l9;obtain⟨_,_,a10,F10⟩:=l10;obtain⟨_,_,a11,F11⟩:=l11;obtain⟨_,_,a12,F12⟩:=l12;obtain⟨_,_,a13,i13,F13⟩:=l13;obtain⟨_,_,a14,F14⟩:=l14;obtain⟨_,_,a15,F15⟩:=l15;obtain⟨_,_,a16,F16⟩:=l16;obtain⟨_,_,a17,F17⟩:=l17;obtain⟨_,_,a18,F18⟩:=l18;obtain⟨_,_,a19,F19⟩:=l19;obtain⟨_,_,a20,F20⟩:=l20;obtain⟨_,_,a21,F21⟩:=l21;obtain⟨_,_,a22,F22⟩:=l22;obtain⟨_,_,a23,F23⟩:=l23;obtain⟨_,_,a24,F24⟩:=l24;obtain⟨_,_,a25,F25⟩:=l25;obtain⟨_,_,a26,F26⟩:=l26;obtain⟨_,_,a27,F27⟩:=l27;obtain⟨_,_,a28,F28⟩:=l28;obtain⟨_,_,a29,F29⟩:=l29;obtain⟨_,_,a30,F30⟩:=l30;obtain⟨_,_,a31,F31⟩:=l31;obtain⟨_,_,a32,F32⟩:=l32;obtain⟨_,_,a33,F33⟩:=l33;obtain⟨_,_,a34,F34⟩:=l34;obtain⟨_,_,a35,F35⟩:=l35;obtain⟨_,_,a36,F36⟩:=l36;obtain⟨_,_,a37,F37⟩:=l37;obtain⟨_,_,a38,F38⟩:=l38;obtain⟨_,_,a39,F39⟩:=l39;obtain⟨_,_,a40,F40⟩:=l40;obtain⟨_,_,a41,F41⟩:=l41;obtain⟨_,_,a42,F42⟩:=l42;obtain⟨_,_,a43,F43⟩:=l43;obtain⟨_,fdL,a44,F44⟩:=l44;cases hfa.symm.trans (PySem.W.mg_of X G a44);have T:Txt K mg:=⟨PySem.W.mg_none_of X G z0,PySem.W.mg_none_of X G z1,PySem.W.mg_none_of X G z2,PySem.W.mg_none_of X G z3,PySem.W.mg_none_of X G z4,PySem.W.mg_none_of X G z5,PySem.W.mg_none_of X G z6,PySem.W.mg_none_of X G z7,PySem.W.mg_none_of X G z8,PySem.W.mg_none_of X G z9,PySem.W.mg_none_of X G z10,PySem.W.mg_none_of X G z11⟩;have R1:RCI K mg CC1:=⟨⟨cc1.pg,cc1.hd,cc1.po,cc1.sa⟩,n1_top,n1_bottom,PySem.W.mg_of X G cc1.a,cc1.ha,cc1.hn,cc1.ht,cc1.hm⟩;have R2:NCI K mg CC2:=⟨⟨cc2.pg,cc2.hd,cc2.po,cc2.sa⟩,n2_poly,n2_low,n2_high,PySem.W.mg_of X G cc2.a,cc2.ha,cc2.hn,cc2.ht,cc2.hm⟩;have F3:=xx (st:=dW) l3 c3 k3;have b3:=FunD.bindsD (ps:=["self","top","bottom"]) (ds:=[]) (tup:=[.int 1 tk3_0]) 3 F3 t3 rfl rfl λ_ _ _ _ _ _=>us3 λ_ _ _=>⟨_,rfl,rfl⟩
 have bD3:=FunD.bindsD (ps:=["self","top","bottom"]) (ds:=[.int 1 tk3_0]) (tup:=[.int 1 tk3_0]) 2 F3 t3 rfl rfl λ_ _ _ _ _ _=>us2 λ_ _=>⟨_,rfl,rfl⟩
 obtain⟨_,_,_,_,_,_,_,_,_,e,_,_⟩:=F44.ex;refine⟨fdL,λs v=>.of_eq (by rw[e];rfl),λbase KB GB hNS=>?_⟩;have Z:Bx l.prog w base:=⟨rfl,rfl,rfl⟩;have C1:=cal Z X G a1 F1 (uo F1 T) λ_ _ _ _ _ _=>us2 λ_ _=>rfl
 have C2:=cal Z X G a2 F2 (uh F2 T) λ_ _ _ _ _ _=>us1 λ_=>rfl
 have K1:KCal l.prog w K mg base 2 CC1 "Ratio" ["self","top","bottom"] (dh CC1) _ _ _ [.int 1]:=⟨vb F3 T R1 C1,⟨cc1.mkr,a3,i3,cc1.kc⟩,PySem.W.mg_of X G cc1.a,b3,bD3,.cons ⟨_,rfl⟩ .nil⟩;have C4:=vJ Z a4 i4 F4 (va F4 T R1 C2) λ_ _ _ _ _ _=>us2 λ_ _=>rfl
 have C5:=cal Z X G a5 F5 (ur F5 T) λ_ _ _ _ _ _=>us1 λ_=>rfl
 have C6:=cal Z X G a6 F6 (uy F6 T) λ_ _ _ _ _ _=>us1 λ_=>rfl
 have C7:=cal Z X G a7 F7 (ui F7 T) λ_ _ _ _ _ _=>us3 λ_ _ _=>rfl
 have C8:=cal Z X G a8 F8 (uk F8 T R1 C7 C2) λ_ _ _ _ _ _=>us2 λ_ _=>rfl
 have C9:=cal Z X G a9 F9 (uq F9 T) λ_ _ _ _ _ _=>us2 λ_ _=>rfl
 have C10:=cal Z X G a10 F10 (ut F10 T) λ_ _ _ _ _ _=>us4 λ_ _ _ _=>rfl
 have C11:=cal Z X G a11 F11 (ux F11 T C2 C6 C9 C10 C5) λ_ _ _ _ _ _=>us2 λ_ _=>rfl
 have C12:=cal Z X G a12 F12 (uw F12 T C11) λ_ _ _ _ _ _=>us2 λ_ _=>rfl
 have b13:Binds K _ ["self","row","low","high"] []:=F13.binds (λ_ _ _ _ _ _=>us4 λ_ _ _ _=>rfl);have K2:KCal l.prog w K mg base 1 CC2 "Number" ["self","row","low","high"] (gi CC2) _ _ _ []:=⟨vc F13 T R2,⟨cc2.mkr,a13,i13,cc2.kc⟩,PySem.W.mg_of X G cc2.a,b13,b13,.nil⟩;have C14:=cal Z X G a14 F14 (uz F14 T R1 C8 C4) λ_ _ _ _ _ _=>us3 λ_ _ _=>rfl
 have C15:=cal Z X G a15 F15 (uu F15 T R1 R2 C4) λ_ _ _ _ _ _=>us3 λ_ _ _=>rfl
 have C16:=cal Z X G a16 F16 (ul F16 T R1 R2 C15 C14) λ_ _ _ _ _ _=>us3 λ_ _ _=>rfl
 have C17:=cal Z X G a17 F17 (um F17 T R1 R2 C6 C14 C12 C15) λ_ _ _ _ _ _=>us3 λ_ _ _=>rfl
 have C18:=cal Z X G a18 F18 (uj F18 T R1 R2 C17 C16 C4) λ_ _ _ _ _ _=>us3 λ_ _ _=>rfl
 have C19:=cal Z X G a19 F19 (uX F19 T) λ_ _ _ _ _ _=>us2 λ_ _=>rfl
 have C20:=cal Z X G a20 F20 (uA F20 T) λ_ _ _ _ _ _=>us2 λ_ _=>rfl
 have C21:=cal Z X G a21 F21 (uP F21 T) λ_ _ _ _ _ _=>us2 λ_ _=>rfl
 have C22:=cal Z X G a22 F22 (uR F22 T) λ_ _ _ _ _ _=>us2 λ_ _=>rfl
 have C23:=cal Z X G a23 F23 (uG F23 T hNS hTr C22) λ_ _ _ _ _ _=>us1 λ_=>rfl
 have C24:=cal Z X G a24 F24 (uK F24 T C23) λ_ _ _ _ _ _=>us1 λ_=>rfl
 have C25:=cal Z X G a25 F25 (uH F25 T C24) λ_ _ _ _ _ _=>us1 λ_=>rfl
 have C26:=cal Z X G a26 F26 (uJ F26 T C21 C25) λ_ _ _ _ _ _=>us1 λ_=>rfl
 have C27:=cal Z X G a27 F27 (uD F27 T) λ_ _ _ _ _ _=>us2 λ_ _=>rfl
 have C28:=cal Z X G a28 F28 (uF F28 T C27) λ_ _ _ _ _ _=>us3 λ_ _ _=>rfl
 have C29:=cal Z X G a29 F29 (uI F29 T) λ_ _ _ _ _ _=>us1 λ_=>rfl
 have C30:=cal Z X G a30 F30 (uO F30 T) λ_ _ _ _ _ _=>us4 λ_ _ _ _=>rfl
 have C31:=cal Z X G a31 F31 (uV F31 T C30) λ_ _ _ _ _ _=>us1 λ_=>rfl
 have C32:=cal Z X G a32 F32 (uW F32 T C20) λ_ _ _ _ _ _=>us3 λ_ _ _=>rfl
 have C33:=cal Z X G a33 F33 (uS F33 T) λ_ _ _ _ _ _=>us2 λ_ _=>rfl
 have C34:=cal Z X G a34 F34 (uB F34 T C30 C28) λ_ _ _ _ _ _=>us3 λ_ _ _=>rfl
 have C35:=cal Z X G a35 F35 (uZ F35 T C34) λ_ _ _ _ _ _=>us3 λ_ _ _=>rfl
 have C36:=cal Z X G a36 F36 (uQ F36 T C34) λ_ _ _ _ _ _=>us2 λ_ _=>rfl
 have C37:=cal Z X G a37 F37 (uE F37 T C35 C36) λ_ _ _ _ _ _=>us3 λ_ _ _=>rfl
 have C38:=cal Z X G a38 F38 (uN F38 T R1 R2 K1 K2) λ_ _ _ _ _ _=>us2 λ_ _=>rfl
 have C39:=cal Z X G a39 F39 (uT F39 T C36 C20) λ_ _ _ _ _ _=>us5 λ_ _ _ _ _=>rfl
 have C40:=cal Z X G a40 F40 (uU F40 T R1 K1) λ_ _ _ _ _ _=>us3 λ_ _ _=>rfl
 have C41:=cal Z X G a41 F41 (uM F41 T R1 C40) λ_ _ _ _ _ _=>us3 λ_ _ _=>rfl
 have C42:=cal Z X G a42 F42 (uY F42 T R1 K1) λ_ _ _ _ _ _=>us1 λ_=>rfl
 have C43:=cal Z X G a43 F43 (uC F43 T R1 R2 C36 C21 C31 K1 C18) λ_ _ _ _ _ _=>us5 λ_ _ _ _ _=>rfl
 exact uv F44 T R1 R2 C19 C32 C33 C21 C31 C26 C37 C29 C38 C30 C39 C41 C42 C18 C43
theorem walk{l:PySem.W.OpenLaw}{q:Program}{loose:List Str}{XP:(Str->Option Value)->Heap->Prop}{YP:World->Heap->Prop}{d:DefRec}{K:Params->PySem.W.Frag}(hi:PyProof.Rows.importsNone q=true)(hn:l.most=some 63)(hdf:d.params.defaults=[])
 (hY:∀(w:World) (h:Heap),YP w h->(K w.params).In h)
 (F:∀(w:World) (mg:Str->Option Value) (fa:Addr) (h:Heap),(K w.params).In h->h.Ns mainGlobals mg->mg d.name=some (.ref fa) ->
   ∃fd:FuncData,(∀(s:Shared) (u:Value),BindsTo s fd ⟨[u],[]⟩ [("_law_script",u)])/\∀base:Heap,(K w.params).In base->base.Ns mainGlobals mg->base.NoSeer->FnOk l.prog w (K w.params) mg base CX0 40 fa fd ["_law_script"] (gh (K w.params))) :
 PySem.W.WalkO q loose XP YP l.row.toRowW d [] (λf vs=>PySem.call f vs) :=
 L2.walk_ofS (n:=63) (k:=40) (x:="_law_script") (CX:=λ_=>CX0) (sp:=λw=>gh (K w.params)) hi hn (by decide) hdf ⟨rfl,by decide,by decide⟩ hY F (λ_ _ a ns hl _ hS=>⟨a,ns,rfl,hS,hl,λ_=>rfl⟩) λ_ _ _ _ _ z=>z
section
end
end R86
open PySem PySem.W PyProof.Rows
set_option maxRecDepth 100000 in
set_option maxHeartbeats 0 in
theorem PySem.Challenge.cw_rootspan_k86_whole_no_false_order_holds : PySem.Challenge.rw_rootspan_k86_whole_no_false_order.Holds := by
 w_on;o_law;k_head;(case hw=>w_witness2)
 k_fill
 refine R86.walk (l:=PySem.Challenge.rw_rootspan_k86_whole_no_false_order) (by decide +kernel) rfl rfl (λw h Y=>PySem.W.kIn_of Y) ?F
 case F =>
  intro w mg fa h KX G hmg
  refine' R86.all_mk KX G hmg ?cc1 ?n1_top ?n1_bottom ?cc2 ?n2_poly ?n2_low ?n2_high ?a3 ?i3 ?l3 ?c3 ?k3 ?t3 ?_ ?_ ?_ ?_ ?_ ?_ ?_ ?_ ?_ ?_ ?_ ?_ ?_ ?_ ?_ ?_ ?_ ?_ ?_ ?_ ?_ ?_ ?_ ?_ ?_ ?_ ?_ ?_ ?_ ?_ ?_ ?_ ?_ ?_ ?_ ?_ ?_ ?_ ?_ ?_ ?_ ?_ ?_ ?_ ?_ ?_ ?_ ?_ ?_ ?_ ?_ ?_ ?_ ?_ ?_ rfl
  (case cc1=>apply R86.ClL.mk<;>k_is)
  (case n1_top=>k_is)
  (case n1_bottom=>k_is)
  (case cc2=>apply R86.ClL.mk<;>k_is)
  (case n2_poly=>k_is)
  (case n2_low=>k_is)
  (case n2_high=>k_is)
  (case a3=>k_is)
  (case i3=>k_is)
  (case l3=>k_is)
  (case c3=>k_is)
  (case k3=>k_is)
  (case t3=>k_is)
  all_goals first | (apply R86.fnL<;>k_is) | (apply R86.mtL<;>k_is) |k_is
